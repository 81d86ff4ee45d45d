import PyProof.Rows.All
import Wide.All
import OpenK.AllK
import Wide.FinOn
import HandS.ForMost
import HandS.Zip
import HandS.IsInst
import HandS.Walk
import HandS.ForExc
import HandS.ExcInit
import HandS.ExcField
import HandS.TryMany
import HandS.AnyAll
import HandS.TupAny
import HandS.Rev
import HandS.DictComp
import HandS.SetBool
import HandS.Set
import KE.KDictKeyed
import HandS.DictTup
import HandS.SetFor
import HandS.Style
import HandS.Steps
import HandS.SortKw
import KE.DataMinMax
import HandS.Sort
import PyProof.SumAny
import KE.SortData
import HandS.Iter
import HandS.SortInts
import HandS.ExcIs
import HandS.WideBits
import HandS.Conv
import HandS.TupMul
import HandS.Deep
import KE.GoesEnum
import PyProof.Rows.IntBool
import PyProof.TwoTypesSub
import HandS.TryOnly
import HandS.HotCalls
import HandS.Dict
import HandS.RaiseMore
import HandS.Ends
import PyProof.ReprRoads
import PyProof.ReprLen
import HandS.ExcValue
import KE.DataAny
import PySem.Challenge.RW_movedwhole_k29_whole_even_rates
set_option Elab.async false
set_option linter.all false
set_option maxRecDepth 100000
set_option maxHeartbeats 4000000
/-! enumerate over a tuple -/
namespace Mv
open PySem PySem.Spec PyProof.Rows L2
open PySem.Sem (wp)
open AutoSeq1 (wpAny_loadPart')
theorem meets_enum_newT (l : Addr) (items : Array Value) (n : Nat) (dct : Option Addr) (sl : Array (Option Value)) :
    Meets (Builtin.«enumerate.__new__» ⟨[.type "enumerate", .ref l], []⟩) (fun _ R s =>
      s.heap.get? l = some { cls := .type "tuple", dict := dct, data := .seq items n, slots := sl } ∧
      R (.ok (.ret (.ref (s.heap.push { cls := .type "tuple_iterator", data := .fields #[.ref l, .int 0 0] }).objs.size)))
        { s with heap := ((s.heap.push { cls := .type "tuple_iterator", data := .fields #[.ref l, .int 0 0] }).push { cls := .type "enumerate", data := .fields #[.none, .bool false, .ref s.heap.objs.size, rawInt 0, .none, .none] }) }) :=
  .of_wp fun prog w A R s h => by
    obtain ⟨hp, g, d, tk, os⟩ := s
    obtain ⟨hl, h⟩ := h
    have hsub := sub_enumerate
    have hT : Heap.IsTuple (Shared.heap ⟨hp, g, d, tk, os⟩) l items := ⟨_, hl, rfl, n, rfl⟩
    wp_walk using wpAny_loadPart' hl
    refine wpAny_stack_any fun st => wpAny_pure ?_
    split
    · rename_i c _ _ _ _ _
      cases (c == Value.type "enumerate")
      · wp_walk using wpAny_loadPart' hl, wpAny_pyIter_tuple hT
        exact ⟨_, rfl, h⟩
      · wp_walk using wpAny_loadPart' hl, wpAny_pyIter_tuple hT
        exact ⟨_, rfl, h⟩
    · wp_walk using wpAny_loadPart' hl, wpAny_pyIter_tuple hT
      exact ⟨_, rfl, h⟩
section
variable {prog : Program} {w : World} {A : Around} {E : Value → Shared → Prop} {s : Shared}
theorem call_enum_tuple {l : Addr} {items : Array Value} {Q : Value → Shared → Prop} (hL : s.heap.IsTuple l items)
    (h : ∀ h', IsEnum h' (s.heap.objs.size + 1) s.heap.objs.size 0 .none → h'.IsTupleIter s.heap.objs.size l 0 →
      (∀ b o, s.heap.get? b = some o → h'.get? b = some o) → Q (.ref (s.heap.objs.size + 1)) { s with heap := h' }) :
    wpAny (model prog w) A (call (.type "enumerate") [.ref l]) Q E s := by
  obtain ⟨⟨c, dct, dt, sl⟩, hl, hc, n, hd⟩ := hL
  replace hc : c = .type "tuple" := hc
  replace hd : dt = .seq items n := hd
  subst hc hd
  refine callType_new F.called_enumerate (by decide) (F.typeCall_enumerate_1 _) (F.newCall_enumerate_1 _)
    (fun obj => F.args_object_init_2 obj _) F.entry_enumerate_new (meets_enum_newT l items n dct sl) ⟨hl, ?_⟩
  have hz : (s.heap.push { cls := .type "tuple_iterator", data := .fields #[.ref l, .int 0 0] }).objs.size = s.heap.objs.size + 1 := Heap.size_push ..
  show _ ∧ _
  rw [hz]
  have he : IsEnum ((s.heap.push { cls := .type "tuple_iterator", data := .fields #[.ref l, .int 0 0] }).push
      { cls := .type "enumerate", data := .fields #[.none, .bool false, .ref s.heap.objs.size, rawInt 0, .none, .none] })
      (s.heap.objs.size + 1) s.heap.objs.size 0 .none := by
    have this := Heap.get?_push_size (s.heap.push { cls := .type "tuple_iterator", data := .fields #[.ref l, .int 0 0] })
      (o := { cls := .type "enumerate", data := .fields #[.none, .bool false, .ref s.heap.objs.size, rawInt 0, .none, .none] }) rfl
    rw [hz] at this
    exact this
  refine ⟨⟨_, he, rfl⟩, h _ he ⟨_, Heap.get?_push_of_some _ (Heap.get?_push_size _ rfl), rfl, rfl⟩ fun b o x =>
    Heap.get?_push_of_some _ (Heap.get?_push_of_some _ x)⟩
end
theorem drawsT {prog : Program} {w : World} {A : Around} (hh : A.handled = none) (it l : Addr) (hne : l ≠ it) (items : Array Value) :
    Draws prog w A it [it, l] items.size (fun i v => items[i]? = some v) (fun i h => h.IsTupleIter it l i ∧ h.IsTuple l items) where
  live := fun _ _ st => let ⟨o, ho, _⟩ := st.1; ⟨o, ho⟩
  frame := fun _ _ _ st hk => ⟨st.1.at fun o e => hk it (by simp) o e, by
    obtain ⟨o, ho, r⟩ := st.2
    exact ⟨o, hk l (by simp) o ho, r⟩⟩
  item := fun i s Q E hi st hQ => by
    refine RZ.nextOf_tuple_item st.1 st.2 (x := items[i]) (by simp [hi]) fun h' hit' hs' => ?_
    refine hQ _ h' s.toks (by simp [hi]) ⟨hit', ?_⟩ hs'
    obtain ⟨o, ho, r⟩ := st.2
    exact ⟨o, hs'.extBut l o hne ho, r⟩
  done := fun s Q E st hE => RZ.nextOf_tuple_end hh st.1 st.2 (by simp) hE

theorem drawsE {prog : Program} {w : World} {A : Around} (hh : A.handled = none) (it l : Addr) (items : Array Value) (i : Nat) (hx : items[i]? = none) :
    Draws prog w A it [it, l] 0 (fun _ _ => False) (fun _ h => h.IsTupleIter it l i ∧ h.IsTuple l items) where
  live := fun _ _ st => let ⟨o, ho, _⟩ := st.1; ⟨o, ho⟩
  frame := fun _ _ _ st hk => ⟨st.1.at fun o e => hk it (by simp) o e, by
    obtain ⟨o, ho, r⟩ := st.2
    exact ⟨o, hk l (by simp) o ho, r⟩⟩
  item := fun i s Q E hi st hQ => absurd hi (Nat.not_lt_zero _)
  done := fun s Q E st hE => RZ.nextOf_tuple_end hh st.1 st.2 hx hE

/-- the tuple at a, each item in a new pair -/
def IteT (K : PySem.W.Frag) (a : Addr) : It :=
  ⟨fun i H => ∃ (xs : List V) (x : V), SqT K H a xs ∧ xs[i]? = some x,
    fun i H v H' => ∃ T x, v = .ref T ∧ H T = none ∧ H' = upd H T (.tup [.int (i : Nat), x]) ∧ ∀ xs, SqT K H a xs → xs[i]? = some x,
    fun i H => ∃ xs : List V, SqT K H a xs ∧ xs.length ≤ i⟩
theorem turn_enumT {P : Program} {w : World} {K : PySem.W.Frag} {elts : List Expr} {kk : Nat} {tpos : Pos} (a e it : Addr) (hai : a ≠ it) (hea : e ≠ a) :
    Turn P w K (.Tuple elts kk tpos) (IteT K a) [e, it] e (fun i h => (∃ old, IsEnum h e it ((i : Nat) : Int) old) ∧ h.IsTupleIter it a i ∧ e ≠ it) where
  mem := by simp
  obj := fun i h st b hb => by
    obtain ⟨⟨old, he⟩, ⟨o, ho, hc, hd⟩, _⟩ := st
    have e' : b = e ∨ b = it := by simpa using hb
    rcases e' with z | z
    · subst z
      exact ⟨_, he, fun v q => nomatch q⟩
    · subst z
      exact ⟨o, ho, fun v q => by rw [hd] at q; cases q⟩
  keep := fun i h h' st k => by
    obtain ⟨⟨old, he⟩, hi, hne⟩ := st
    exact ⟨⟨old, k e (by simp) _ he⟩, hi.at fun o q => k it (by simp) o q, hne⟩
  item := by
    intro X hP hw hK hc i pins s σ H E I hf st hg
    subst hP hw hK
    obtain ⟨⟨old, he⟩, hit, hne⟩ := st
    obtain ⟨xs, x, hq, hx⟩ := hg
    obtain ⟨its, rv, p, hz⟩ := I.tuple hq
    obtain ⟨u, hu, ru⟩ := rv.get hx
    have hel : e < s.heap.objs.size := Heap.lt_size he
    have hil : it < s.heap.objs.size := by
      obtain ⟨_, q, _⟩ := hit
      exact Heap.lt_size q
    have hsz : i < its.toArray.size := by
      have := (List.getElem?_eq_some_iff.mp hu).1
      simpa using this
    have hp : s.heap.IsTuple a its.toArray := p
    refine wpAny_pyNext_enum_itemD (drawsT (A := X.A.in1) (I.ok.hd hc) it a hai its.toArray) he ⟨hit, hp⟩ hsz hne (by simp [hne, hea]) fun y h' tk hy ho hit' hT hsz hk => ?_
    have hyu : y = u := by
      have h1 : its[i]? = some y := by simpa using hy
      exact Option.some.inj (h1.symm.trans hu)
    subst hyu
    refine ⟨_, rfl, wpAny_letOwnedTupleGo_enum (s := { s with heap := h', toks := tk + 1 }) ho fun h'' he' sb => ?_⟩
    have hT2 : h''.get? s.heap.objs.size = some { cls := .type "tuple", data := .seq #[.int i tk, y] } :=
      (sb.2 _ (Nat.ne_of_gt hel)).trans hT
    have new : ObjOk X.prog X.w (upd H s.heap.objs.size (.tup [.int (i : Nat), x])) h'' s.heap.objs.size (.tup [.int (i : Nat), x]) :=
      ⟨by show 2 ≤ sizeLine; decide, [.int i tk, y], .cons ⟨_, rfl⟩ (.cons ru .nil), ⟨_, hT2, rfl, _, rfl⟩⟩
    have I1 : Inv X pins σ (upd H s.heap.objs.size (.tup [.int (i : Nat), x])) { s with heap := h'', toks := tk + 1 } :=
      I.turnedNew (ch := [e, it]) (fun b ob hb q => (sb.2 b (fun z => hb (by simp [z]))).trans
        (hk b ob (fun z => hb (by simp [z])) (fun z => hb (by simp [z])) q)) hf (Nat.le_refl _) new
    refine ⟨.ref s.heap.objs.size, _, I1, rfl, ⟨_, x, rfl, I.hok.fresh (Nat.le_refl _), rfl, fun ys hy => by rw [I.tuple_inj hy hq]; exact hx⟩,
      ⟨⟨y, ?_⟩, hit'.1.at fun o q => (sb.2 it (Ne.symm hne)).trans q, hne⟩, fun b hb => ?_⟩
    · have e1 : ((i + 1 : Nat) : Int) = (i : Int) + 1 := by omega
      rw [e1]
      exact he'
    · have hb' : b < s.heap.objs.size := by
        have e' : b = e ∨ b = it := by simpa using hb
        rcases e' with z | z
        · subst z; exact hel
        · subst z; exact hil
      rw [upd_ne (Nat.ne_of_lt hb')]
      exact (hf b hb).1
  done := by
    intro X hP hw hK hc i pins s σ H E I hf st hg
    subst hP hw hK
    obtain ⟨⟨old, he⟩, hit, hne⟩ := st
    obtain ⟨xs, hq, hx⟩ := hg
    obtain ⟨its, rv, p, hz⟩ := I.tuple hq
    obtain ⟨f0, f1, f2, f3, f4, f5⟩ := hf it (by simp)
    have hl := rv.length
    have hp : s.heap.IsTuple a its.toArray := p
    refine wpAny_pyNext_enum_endD (drawsE (A := X.A.in1) (I.ok.hd hc) it a its.toArray i (by simp; omega)) he ⟨hit, hp⟩ fun h' eb => ?_
    exact ⟨rfl, I.turned (t' := s.toks) (fun b o hb q => eb b o hb q) f0 f1 f3 f4 f5⟩
  self := fun A i s Q E st h => by
    obtain ⟨⟨_, he⟩, _⟩ := st
    exact wpAny_pyIter_enum he h
def iEnumA (K : PySem.W.Frag) (ta : TA) : TI := fun σ H R => ta σ H fun vs H1 => ∃ a xs, vs = [.ref a] ∧ ((SqL K H1 a xs ∧ R (Ite K a) H1) ∨ (SqT K H1 a xs ∧ R (IteT K a) H1))
theorem pi_enumA {X : Cx} {e : Expr} {ta : TA} {p pos tpos : Pos} {elts : List Expr} {kk : Nat} (hg : Gl X "enumerate") (hm : X.mg "enumerate" = none) (ha : PA X [e] ta)
    (hs : starEach [e] X.env = [(false, eval e X.env)] := by rfl) : PI X (.Tuple elts kk tpos) (.Call (.Name "enumerate" p) [e] [] pos) (iEnumA X.K ta) := by
  refine ⟨fun pins s σ H R I h => ?_⟩
  refine Call_ (ld_blt I hg hm boot_enumerate (PyProof.Rows.callWith_type1 (thn (ha.run pos pins s σ H _ I h) fun us s1 ⟨vs, H1, I1, r1, q1⟩ => ?_) hs rfl))
  obtain ⟨a, xs, ex, q1⟩ := q1
  subst ex
  cases r1 with
  | cons r rr =>
    cases rr
    cases r
    have fr : ∀ b, b ∈ [s1.heap.objs.size + 1, s1.heap.objs.size] → FpOk X pins H1 b := fun b hb => by
      have e' : b = s1.heap.objs.size + 1 ∨ b = s1.heap.objs.size := by simpa using hb
      have hle : s1.heap.objs.size ≤ b := by omega
      exact I1.fpOk hle (I1.hok.fresh hle)
    rcases q1 with ⟨hq, q⟩ | ⟨hq, q⟩
    · obtain ⟨its, rv, p', hz⟩ := I1.list hq
      refine call_enumerate_list p'.isList fun h' he hit hsz hk => wpAny_pyIter_enum he ?_
      have I2 : Inv X pins σ H1 { s1 with heap := h' } := I1.kept (t' := s1.toks) hk
      exact ⟨s1.heap.objs.size + 1, [s1.heap.objs.size + 1, s1.heap.objs.size], _, _, H1, rfl, I2, turn_enum a (s1.heap.objs.size + 1) s1.heap.objs.size, ⟨⟨.none, he⟩, hit, Nat.succ_ne_self _⟩, fr, q⟩
    · obtain ⟨its, rv, p', hz⟩ := I1.tuple hq
      have hp : s1.heap.IsTuple a its.toArray := p'
      have hl : a < s1.heap.objs.size := p'.lt
      refine call_enum_tuple hp fun h' he hit hk => wpAny_pyIter_enum he ?_
      have I2 : Inv X pins σ H1 { s1 with heap := h' } := I1.kept (t' := s1.toks) hk
      exact ⟨s1.heap.objs.size + 1, [s1.heap.objs.size + 1, s1.heap.objs.size], _, _, H1, rfl, I2,
        turn_enumT a (s1.heap.objs.size + 1) s1.heap.objs.size (Nat.ne_of_lt hl) (Nat.ne_of_gt (Nat.lt_succ_of_lt hl)), ⟨⟨.none, he⟩, hit, Nat.succ_ne_self _⟩, fr, q⟩
end Mv

set_option Elab.async false
set_option linter.all false
set_option maxRecDepth 100000
set_option maxHeartbeats 4000000
/-! What a piece of code yields, told over data alone: no heap, no addresses; lists that a def changes by place of its slots. -/
namespace Mv
open PySem PySem.Spec PyProof.Rows L2

/-! ### data -/
inductive Dt where
  | non | bl (b : Bool) | int (i : Int) | str (s : Str) | lst (ds : List Dt) | tup (ds : List Dt) | ob (C : Addr) (fs : List (Str × Dt)) | ptr (a : Addr)

mutual
inductive Dr (K : PySem.W.Frag) (G : Hp) : V → Dt → Prop
  | non : Dr K G .non .non
  | bl (b : Bool) : Dr K G (.bl b) (.bl b)
  | int (i : Int) : Dr K G (.int i) (.int i)
  | str (x : Str) : Dr K G (.str x) (.str x)
  | ptr (a : Addr) : Dr K G (.ref a) (.ptr a)
  | lst {a : Addr} {xs : List V} {ds : List Dt} : SqL K G a xs → Da K G xs ds → Dr K G (.ref a) (.lst ds)
  | tup {a : Addr} {xs : List V} {ds : List Dt} : SqT K G a xs → Da K G xs ds → Dr K G (.ref a) (.tup ds)
  | ob {a C dx : Addr} {fs : List (Str × V)} {ds : List (Str × Dt)} : G a = some (.ins C dx fs) → Df K G fs ds → Dr K G (.ref a) (.ob C ds)
inductive Da (K : PySem.W.Frag) (G : Hp) : List V → List Dt → Prop
  | nil : Da K G [] []
  | cons {v : V} {vs : List V} {d : Dt} {ds : List Dt} : Dr K G v d → Da K G vs ds → Da K G (v :: vs) (d :: ds)
inductive Df (K : PySem.W.Frag) (G : Hp) : List (Str × V) → List (Str × Dt) → Prop
  | nil : Df K G [] []
  | cons {f : Str} {v : V} {vs : List (Str × V)} {d : Dt} {ds : List (Str × Dt)} : Dr K G v d → Df K G vs ds → Df K G ((f, v) :: vs) ((f, d) :: ds)
end
theorem same_rd {H H' : Hp} {a : Addr} {u : HO} (e : Same H H') (h : Rd H a u) : Rd H' a u := by
  rcases h with h | ⟨o, h⟩
  · exact .inl (e _ _ h)
  · exact .inr ⟨o, e _ _ h⟩
theorem same_l {K : PySem.W.Frag} {H H' : Hp} {a : Addr} {xs : List V} (e : Same H H') (h : SqL K H a xs) : SqL K H' a xs := by
  rcases h with h | h
  · exact .inl (same_rd e h)
  · exact .inr h
theorem same_t {K : PySem.W.Frag} {H H' : Hp} {a : Addr} {xs : List V} (e : Same H H') (h : SqT K H a xs) : SqT K H' a xs := by
  rcases h with h | h
  · exact .inl (same_rd e h)
  · exact .inr h
section
variable {K : PySem.W.Frag} {G G' : Hp} (e : Same G G')
include e
theorem Dr.mono {v : V} {d : Dt} (h : Dr K G v d) : Dr K G' v d :=
  Dr.rec (motive_1 := fun v d _ => Dr K G' v d) (motive_2 := fun v d _ => Da K G' v d) (motive_3 := fun v d _ => Df K G' v d)
    .non .bl .int .str .ptr (fun s _ q => .lst (same_l e s) q) (fun s _ q => .tup (same_t e s) q) (fun s _ q => .ob (e _ _ s) q) .nil (fun _ _ p q => .cons p q) .nil (fun _ _ p q => .cons p q) h
theorem Df.mono {v : List (Str × V)} {d : List (Str × Dt)} (h : Df K G v d) : Df K G' v d :=
  Df.rec (motive_1 := fun v d _ => Dr K G' v d) (motive_2 := fun v d _ => Da K G' v d) (motive_3 := fun v d _ => Df K G' v d)
    .non .bl .int .str .ptr (fun s _ q => .lst (same_l e s) q) (fun s _ q => .tup (same_t e s) q) (fun s _ q => .ob (e _ _ s) q) .nil (fun _ _ p q => .cons p q) .nil (fun _ _ p q => .cons p q) h
theorem Da.mono {v : List V} {d : List Dt} (h : Da K G v d) : Da K G' v d :=
  Da.rec (motive_1 := fun v d _ => Dr K G' v d) (motive_2 := fun v d _ => Da K G' v d) (motive_3 := fun v d _ => Df K G' v d)
    .non .bl .int .str .ptr (fun s _ q => .lst (same_l e s) q) (fun s _ q => .tup (same_t e s) q) (fun s _ q => .ob (e _ _ s) q) .nil (fun _ _ p q => .cons p q) .nil (fun _ _ p q => .cons p q) h
end
section
variable {K : PySem.W.Frag} {G : Hp}
theorem Da.length : ∀ {vs : List V} {ds : List Dt}, Da K G vs ds → vs.length = ds.length
  | _, _, .nil => rfl
  | _, _, .cons _ t => by rw [List.length_cons, List.length_cons, Da.length t]
theorem Da.get : ∀ {vs : List V} {ds : List Dt} {i : Nat} {d : Dt}, Da K G vs ds → ds[i]? = some d → ∃ v, vs[i]? = some v ∧ Dr K G v d
  | _, _, _, _, .nil, h => by simp at h
  | _, _, 0, _, .cons r _, h => by simp at h; subst h; exact ⟨_, rfl, r⟩
  | _, _, i + 1, _, .cons _ t, h => by
    obtain ⟨v, h1, h2⟩ := Da.get (i := i) t (by simpa using h)
    exact ⟨v, by simpa using h1, h2⟩
theorem Da.get' : ∀ {vs : List V} {ds : List Dt} {i : Nat} {v : V}, Da K G vs ds → vs[i]? = some v → ∃ d, ds[i]? = some d ∧ Dr K G v d
  | _, _, _, _, .nil, h => by simp at h
  | _, _, 0, _, .cons r _, h => by simp at h; subst h; exact ⟨_, rfl, r⟩
  | _, _, i + 1, _, .cons _ t, h => by
    obtain ⟨v, h1, h2⟩ := Da.get' (i := i) t (by simpa using h)
    exact ⟨v, by simpa using h1, h2⟩
theorem Da.append : ∀ {vs ws : List V} {ds es : List Dt}, Da K G vs ds → Da K G ws es → Da K G (vs ++ ws) (ds ++ es)
  | _, _, _, _, .nil, q => q
  | _, _, _, _, .cons r t, q => .cons r (Da.append t q)
theorem Da.set : ∀ {vs : List V} {ds : List Dt} {v : V} {d : Dt} (i : Nat), Da K G vs ds → Dr K G v d → Da K G (vs.set i v) (ds.set i d)
  | _, _, _, _, _, .nil, _ => .nil
  | _, _, _, _, 0, .cons _ t, q => .cons q t
  | _, _, _, _, i + 1, .cons r t, q => .cons r (Da.set i t q)
theorem Da.drop : ∀ {vs : List V} {ds : List Dt} (i : Nat), Da K G vs ds → Da K G (vs.drop i) (ds.drop i)
  | _, _, 0, q => q
  | _, _, _ + 1, .nil => .nil
  | _, _, i + 1, .cons _ t => Da.drop i t
theorem Da.take : ∀ {vs : List V} {ds : List Dt} (i : Nat), Da K G vs ds → Da K G (vs.take i) (ds.take i)
  | _, _, 0, _ => .nil
  | _, _, _ + 1, .nil => .nil
  | _, _, i + 1, .cons r t => .cons r (Da.take i t)
theorem Da.ints : ∀ {ns : List Int}, Da K G (ns.map V.int) (ns.map Dt.int)
  | [] => .nil
  | _ :: _ => .cons (.int _) Da.ints
theorem Da.ints_inv : ∀ {vs : List V} {ns : List Int}, Da K G vs (ns.map Dt.int) → vs = ns.map V.int
  | _, [], h => by cases h; rfl
  | _, n :: r, h => by
    cases h with
    | cons h1 h2 =>
      cases h1
      rw [Da.ints_inv h2]
      rfl
end

/-- the entries of a dict whose keys are ints -/
inductive Dk (K : PySem.W.Frag) (G : Hp) : List (Key × V) → List (Int × Dt) → Prop
  | nil : Dk K G [] []
  | cons {k : Int} {v : V} {vs : List (Key × V)} {d : Dt} {ds : List (Int × Dt)} : Dr K G v d → Dk K G vs ds → Dk K G ((Sum.inl k, v) :: vs) ((k, d) :: ds)
theorem Dk.mono {K : PySem.W.Frag} {G G' : Hp} (e : Same G G') : ∀ {vs : List (Key × V)} {ds : List (Int × Dt)}, Dk K G vs ds → Dk K G' vs ds
  | _, _, .nil => .nil
  | _, _, .cons r t => .cons (r.mono e) (Dk.mono e t)

/-! ### what may change, and what holds of it -/
instance : Membership Addr (Addr → Prop) := ⟨fun s a => s a⟩
/-- the draws: a list at h of the list at d and a place in it -/
def HandAt (h d : Addr) (H : Hp) : Prop := ∃ (ns : List Int) (i : Int), H h = some (.lst [.ref d, .int i]) ∧ H d = some (.lst (ns.map V.int)) ∧ 0 ≤ i
/-- the draws: a list at h of what is left of them -/
def Hand1 (h : Addr) (H : Hp) : Prop := ∃ ns : List Int, H h = some (.lst (ns.map V.int)) ∧ ns.length ≤ 1000
/-- the draws of a tape: a dict at p, its cells the list at c -/
def tapeV (c : Addr) (a g l s t : Int) : List (Key × V) := [(Sum.inr ("cells" : Str), .ref c), (Sum.inr ("at" : Str), .int a), (Sum.inr ("great" : Str), .int g), (Sum.inr ("left" : Str), .int l), (Sum.inr ("seed" : Str), .int s), (Sum.inr ("turn" : Str), .int t)]
def TapeAt (p c : Addr) (H : Hp) : Prop := ∃ (ns : List Int) (a g l s t : Int), H p = some (.dK (tapeV c a g l s t)) ∧ H c = some (.lst (ns.map V.int)) ∧ 0 ≤ a ∧ ns.length ≤ 63
inductive Hk where
  | two (h d : Addr) | one (h : Addr) | tap (p c : Addr)
def Hk.pt : Hk → Addr
  | .two h _ => h
  | .one h => h
  | .tap p _ => p
def Hk.ok : Hk → Hp → Prop
  | .two h d => HandAt h d
  | .one h => Hand1 h
  | .tap p c => TapeAt p c
structure Jm where
  ms : Addr → Prop
  ok : Hp → Prop
  st : ∀ H H', ok H → (∀ b, b ∈ ms → H' b = H b) → ok H'
  hd : Option Hk
  hm : ∀ k, hd = some k → k.pt ∈ ms
  hg : ∀ k H, hd = some k → ok H → k.ok H
  hp : ∀ k H H', hd = some k → ok H → k.ok H' → (∀ b, b ∈ ms → b ≠ k.pt → H' b = H b) → ok H'
  tr : Hp → Prop
  trm : ∀ G G', Same G G' → tr G → tr G'
/-- behind a piece of code: G what is known for good, H the heap -/
structure Nx (J : Jm) (G H G' H' : Hp) : Prop where
  gg : Same G G'
  gh : Same G' H'
  fr : ∀ b, G b = none → H b ≠ none → G' b = none
  kp : ∀ b o, H b = some o → b ∉ J.ms → H' b = some o
  th : ∀ b, H b ≠ none → H' b ≠ none
  ok : J.ok H'
structure Wf (J : Jm) (G H : Hp) : Prop where
  gh : Same G H
  ok : J.ok H
  ms : ∀ m, m ∈ J.ms → G m = none ∧ H m ≠ none
  tr : J.tr G
section
variable {J : Jm} {G H G' H' G2 H2 : Hp}
theorem Wf.nx (w : Wf J G H) : Nx J G H G H := ⟨Same.refl _, w.gh, fun _ h _ => h, fun _ _ h _ => h, fun _ h => h, w.ok⟩
theorem Nx.wf (n : Nx J G H G' H') (w : Wf J G H) : Wf J G' H' := ⟨n.gh, n.ok, fun m hm => ⟨n.fr m (w.ms m hm).1 (w.ms m hm).2, n.th m (w.ms m hm).2⟩, J.trm G G' n.gg w.tr⟩
theorem Nx.trans (a : Nx J G H G' H') (b : Nx J G' H' G2 H2) : Nx J G H G2 H2 :=
  ⟨a.gg.trans b.gg, b.gh, fun x h1 h2 => b.fr x (a.fr x h1 h2) (a.th x h2), fun x o h1 h2 => b.kp x o (a.kp x o h1 h2) h2, fun x h => b.th x (a.th x h), b.ok⟩
theorem Wf.free (w : Wf J G H) {p : Addr} (h : H p = none) : G p = none := by
  cases q : G p with
  | none => rfl
  | some o => rw [w.gh p o q] at h; cases h
theorem Wf.notin (w : Wf J G H) {p : Addr} (h : H p = none) : p ∉ J.ms := fun hm => (w.ms p hm).2 h
/-- a new object that is data from now on -/
theorem Wf.new (w : Wf J G H) {p : Addr} (h : H p = none) (o : HO) : Nx J G H (upd G p o) (upd H p o) := by
  refine ⟨fun b u e => ?_, fun b u e => ?_, fun b h1 h2 => ?_, fun b u e _ => ?_, fun b hb => ?_, J.st H _ w.ok fun b hb => ?_⟩
  · rw [upd_ne (ne_of_none e (w.free h))]; exact e
  · by_cases hb : b = p
    · subst hb; rw [upd_same] at e ⊢; exact e
    · rw [upd_ne hb] at e ⊢; exact w.gh b u e
  · have hb : b ≠ p := fun z => h2 (z ▸ h)
    rw [upd_ne hb]; exact h1
  · rw [upd_ne (ne_of_none e h)]; exact e
  · have hn : b ≠ p := fun z => hb (z ▸ h)
    rw [upd_ne hn]; exact hb
  · have hn : b ≠ p := fun z => w.notin h (z ▸ hb)
    rw [upd_ne hn]
/-- a new object of its own -/
theorem Wf.newM (w : Wf J G H) {p : Addr} (h : H p = none) (o : HO) : Nx J G H G (upd H p o) := by
  refine ⟨Same.refl _, fun b u e => ?_, fun b h1 _ => h1, fun b u e _ => ?_, fun b hb => ?_, J.st H _ w.ok fun b hb => ?_⟩
  · rw [upd_ne (ne_of_none (w.gh b u e) h)]; exact w.gh b u e
  · rw [upd_ne (ne_of_none e h)]; exact e
  · have hn : b ≠ p := fun z => hb (z ▸ h)
    rw [upd_ne hn]; exact hb
  · have hn : b ≠ p := fun z => w.notin h (z ▸ hb)
    rw [upd_ne hn]
/-- a list of the def's own changes -/
theorem Nx.mut {B GB : Hp} (n : Nx J GB B G H) {p : Addr} {o o' : HO} (hB : B p = none) (hG : G p = none) (hm : p ∉ J.ms) (hH : H p = some o) : Nx J GB B G (upd H p o') := by
  refine ⟨n.gg, fun b u e => ?_, n.fr, fun b u e hb => ?_, fun b hb => ?_, J.st H _ n.ok fun b hb => ?_⟩
  · rw [upd_ne (ne_of_none e hG)]; exact n.gh b u e
  · rw [upd_ne (ne_of_none e hB)]; exact n.kp b u e hb
  · by_cases z : b = p
    · subst z; rw [upd_same]; simp
    · rw [upd_ne z]; exact n.th b hb
  · have hn : b ≠ p := fun z => hm (z ▸ hb)
    rw [upd_ne hn]
/-- it is data from now on -/
theorem Nx.fix {B GB : Hp} (n : Nx J GB B G H) {p : Addr} {o : HO} (hB : B p = none) (hG : G p = none) (hH : H p = some o) : Nx J GB B (upd G p o) H := by
  refine ⟨fun b u e => ?_, fun b u e => ?_, fun b h1 h2 => ?_, n.kp, n.th, n.ok⟩
  · have e2 := n.gg b u e
    rw [upd_ne (ne_of_none e2 hG)]; exact e2
  · by_cases hb : b = p
    · subst hb; rw [upd_same] at e; rw [hH]; exact e
    · rw [upd_ne hb] at e; exact n.gh b u e
  · have hn : b ≠ p := fun z => h2 (z ▸ hB)
    rw [upd_ne hn]; exact n.fr b h1 h2
end
def Jh (h d : Addr) : Jm where
  ms := fun b => b = h ∨ b = d
  ok := HandAt h d
  st := fun H H' ⟨ns, i, a, b, c⟩ k => ⟨ns, i, by rw [k h (.inl rfl)]; exact a, by rw [k d (.inr rfl)]; exact b, c⟩
  hd := some (.two h d)
  hm := fun k e => by cases e; exact .inl rfl
  hg := fun k H e o => by cases e; exact o
  hp := fun k H H' e o o' _ => by cases e; exact o'
  tr := fun _ => True
  trm := fun _ _ _ _ => trivial
def Jo (h : Addr) : Jm where
  ms := fun b => b = h
  ok := Hand1 h
  st := fun H H' ⟨ns, a, c⟩ k => ⟨ns, by rw [k h rfl]; exact a, c⟩
  hd := some (.one h)
  hm := fun k e => by cases e; exact rfl
  hg := fun k H e o => by cases e; exact o
  hp := fun k H H' e o o' _ => by cases e; exact o'
  tr := fun _ => True
  trm := fun _ _ _ _ => trivial
def J0 : Jm where
  ms := fun _ => False
  ok := fun _ => True
  st := fun _ _ _ _ => trivial
  hd := none
  hm := fun k e => nomatch e
  hg := fun k H e o => nomatch e
  hp := fun k H H' e o o' _ => nomatch e
  tr := fun _ => True
  trm := fun _ _ _ _ => trivial
theorem wf0 (H : Hp) : Wf J0 H H := ⟨Same.refl _, trivial, fun m hm => hm.elim, trivial⟩

/-! ### the slots -/
inductive Sl where
  | no | d (x : Dt) | ml (xs : List Dt) | hand | hnd | tap | xv (a d : Addr) (fs : List (Str × Dt)) | mi (p C : Addr) (fs : List (Str × Dt)) | md (kvs : List (Int × Dt))
def Sv1 (K : PySem.W.Frag) (J : Jm) (G : Hp) (v : V) : Sl → Prop
  | .d x => Dr K G v x
  | .hand => ∃ h d, v = .ref h ∧ J.hd = some (.two h d)
  | .hnd => ∃ h, v = .ref h ∧ J.hd = some (.one h)
  | .tap => ∃ p c, v = .ref p ∧ J.hd = some (.tap p c)
  | _ => False
def SlOk (K : PySem.W.Frag) (J : Jm) (B G H : Hp) (ov : Option V) : Sl → Prop
  | .no => True
  | .d x => ∃ v, ov = some v ∧ Dr K G v x
  | .ml xs => ∃ p vs, ov = some (.ref p) ∧ B p = none ∧ G p = none ∧ p ∉ J.ms ∧ H p = some (.lst vs) ∧ Da K G vs xs
  | .hand => ∃ h d, ov = some (.ref h) ∧ J.hd = some (.two h d)
  | .hnd => ∃ h, ov = some (.ref h) ∧ J.hd = some (.one h)
  | .tap => ∃ p c, ov = some (.ref p) ∧ J.hd = some (.tap p c)
  | .xv a d fs => ov = some (.ref a) ∧ ∃ vs, G d = some (.xd vs) ∧ Df K G vs fs
  | .mi p C fs => ∃ dx vs, ov = some (.ref p) ∧ B p = none ∧ G p = none ∧ p ∉ J.ms ∧ H p = some (.ins C dx vs) ∧ Df K G vs fs
  | .md kvs => ∃ p vs, ov = some (.ref p) ∧ B p = none ∧ G p = none ∧ p ∉ J.ms ∧ H p = some (.dK vs) ∧ Dk K G vs kvs
structure En (K : PySem.W.Frag) (J : Jm) (B G H : Hp) (σ : L2.St) (env : List Sl) : Prop where
  len : σ.length = env.length
  ok : ∀ (i : Nat) (s : Sl), env[i]? = some s → ∃ ov : Option V, σ[i]? = some ov ∧ SlOk K J B G H ov s
  ap : ∀ (i j : Nat) (p : Addr), i ≠ j → (∃ xs, env[i]? = some (.ml xs)) → (∃ ys, env[j]? = some (.ml ys)) → σ[i]? = some (some (.ref p)) → σ[j]? = some (some (.ref p)) → False
section
variable {K : PySem.W.Frag} {J : Jm} {B G H G' H' : Hp} {σ : L2.St} {env : List Sl}
theorem SlOk.mono {ov : Option V} {s : Sl} (n : Nx J G H G' H') (h : SlOk K J B G H ov s) : SlOk K J B G' H' ov s := by
  cases s with
  | no => trivial
  | d x => obtain ⟨v, e, r⟩ := h; exact ⟨v, e, r.mono n.gg⟩
  | ml xs => obtain ⟨p, vs, e, hB, hG, hm, hH, r⟩ := h; exact ⟨p, vs, e, hB, n.fr p hG (by rw [hH]; simp), hm, n.kp p _ hH hm, r.mono n.gg⟩
  | hand => exact h
  | hnd => exact h
  | tap => exact h
  | xv a d fs => obtain ⟨e, vs, g, r⟩ := h; exact ⟨e, vs, n.gg _ _ g, r.mono n.gg⟩
  | mi p C fs => obtain ⟨dx, vs, e, hB, hG, hm, hH, r⟩ := h; exact ⟨dx, vs, e, hB, n.fr p hG (by rw [hH]; simp), hm, n.kp p _ hH hm, r.mono n.gg⟩
  | md kvs => obtain ⟨p, vs, e, hB, hG, hm, hH, r⟩ := h; exact ⟨p, vs, e, hB, n.fr p hG (by rw [hH]; simp), hm, n.kp p _ hH hm, r.mono n.gg⟩
theorem En.mono (E : En K J B G H σ env) (n : Nx J G H G' H') : En K J B G' H' σ env :=
  ⟨E.len, fun i s h => let ⟨ov, a, b⟩ := E.ok i s h; ⟨ov, a, b.mono n⟩, E.ap⟩
theorem En.dat (E : En K J B G H σ env) {i : Nat} {x : Dt} (h : env[i]? = some (.d x)) : ∃ v, σ[i]? = some (some v) ∧ Dr K G v x := by
  obtain ⟨ov, a, v, b, c⟩ := E.ok i _ h
  exact ⟨v, by rw [a, b], c⟩
theorem En.setD (E : En K J B G H σ env) {i : Nat} {v : V} {x : Dt} (r : Dr K G v x) : En K J B G H (σ.set i (some v)) (env.set i (.d x)) := by
  refine ⟨by simp [E.len], fun k s h => ?_, fun k j p hne hk hj h1 h2 => ?_⟩
  · by_cases e : i = k
    · subst e
      by_cases hi : i < env.length
      · rw [List.getElem?_set_self hi] at h
        cases h
        exact ⟨some v, by rw [List.getElem?_set_self (by rw [E.len]; exact hi)], v, rfl, r⟩
      · rw [List.getElem?_eq_none (by simpa using hi)] at h; cases h
    · rw [List.getElem?_set_ne e] at h
      rw [List.getElem?_set_ne e]
      exact E.ok k s h
  · obtain ⟨xs, hk⟩ := hk
    obtain ⟨ys, hj⟩ := hj
    have ek : i ≠ k := fun e => by
      subst e
      by_cases hi : i < env.length
      · rw [List.getElem?_set_self hi] at hk; cases hk
      · rw [List.getElem?_eq_none (by simpa using hi)] at hk; cases hk
    have ej : i ≠ j := fun e => by
      subst e
      by_cases hi : i < env.length
      · rw [List.getElem?_set_self hi] at hj; cases hj
      · rw [List.getElem?_eq_none (by simpa using hi)] at hj; cases hj
    rw [List.getElem?_set_ne ek] at hk h1
    rw [List.getElem?_set_ne ej] at hj h2
    exact E.ap k j p hne ⟨xs, hk⟩ ⟨ys, hj⟩ h1 h2
theorem En.setM (E : En K J B G H σ env) {i : Nat} {p : Addr} {vs : List V} {xs : List Dt} (hB : B p = none) (hG : G p = none) (hm : p ∉ J.ms) (hH : H p = some (.lst vs)) (r : Da K G vs xs)
    (hd : ∀ j, j ≠ i → (∃ ys, env[j]? = some (.ml ys)) → σ[j]? ≠ some (some (.ref p))) : En K J B G H (σ.set i (some (.ref p))) (env.set i (.ml xs)) := by
  refine ⟨by simp [E.len], fun k s h => ?_, fun k j q hne hk hj h1 h2 => ?_⟩
  · by_cases e : i = k
    · subst e
      by_cases hi : i < env.length
      · rw [List.getElem?_set_self hi] at h
        cases h
        exact ⟨_, by rw [List.getElem?_set_self (by rw [E.len]; exact hi)], p, vs, rfl, hB, hG, hm, hH, r⟩
      · rw [List.getElem?_eq_none (by simpa using hi)] at h; cases h
    · rw [List.getElem?_set_ne e] at h
      rw [List.getElem?_set_ne e]
      exact E.ok k s h
  · have hp : ∀ j, i = j → σ.set i (some (.ref p)) = σ.set i (some (.ref p)) → (σ.set i (some (V.ref p)))[j]? = some (some (.ref q)) → q = p := fun j e _ h => by
      subst e
      by_cases hi : i < σ.length
      · rw [List.getElem?_set_self hi] at h; cases h; rfl
      · rw [List.getElem?_eq_none (by simpa using hi)] at h; cases h
    obtain ⟨xk, hk⟩ := hk
    obtain ⟨xj, hj⟩ := hj
    by_cases ek : i = k
    · have ej : i ≠ j := fun e => hne (ek.symm.trans e)
      have := hp k ek rfl h1
      subst this
      rw [List.getElem?_set_ne ej] at hj h2
      exact hd j ej.symm ⟨xj, hj⟩ h2
    · by_cases ej : i = j
      · have := hp j ej rfl h2
        subst this
        rw [List.getElem?_set_ne ek] at hk h1
        exact hd k (fun z => ek z.symm) ⟨xk, hk⟩ h1
      · rw [List.getElem?_set_ne ek] at hk h1
        rw [List.getElem?_set_ne ej] at hj h2
        exact E.ap k j q hne ⟨xk, hk⟩ ⟨xj, hj⟩ h1 h2
/-- a slot forgotten -/
theorem En.setN (E : En K J B G H σ env) {i : Nat} {ov : Option V} : En K J B G H (σ.set i ov) (env.set i .no) := by
  refine ⟨by simp [E.len], fun k s h => ?_, fun k j p hne hk hj h1 h2 => ?_⟩
  · by_cases e : i = k
    · subst e
      by_cases hi : i < env.length
      · rw [List.getElem?_set_self hi] at h
        cases h
        exact ⟨ov, by rw [List.getElem?_set_self (by rw [E.len]; exact hi)], trivial⟩
      · rw [List.getElem?_eq_none (by simpa using hi)] at h; cases h
    · rw [List.getElem?_set_ne e] at h
      rw [List.getElem?_set_ne e]
      exact E.ok k s h
  · obtain ⟨xs, hk⟩ := hk
    obtain ⟨ys, hj⟩ := hj
    have ek : i ≠ k := fun e => by
      subst e
      by_cases hi : i < env.length
      · rw [List.getElem?_set_self hi] at hk; cases hk
      · rw [List.getElem?_eq_none (by simpa using hi)] at hk; cases hk
    have ej : i ≠ j := fun e => by
      subst e
      by_cases hi : i < env.length
      · rw [List.getElem?_set_self hi] at hj; cases hj
      · rw [List.getElem?_eq_none (by simpa using hi)] at hj; cases hj
    rw [List.getElem?_set_ne ek] at hk h1
    rw [List.getElem?_set_ne ej] at hj h2
    exact E.ap k j p hne ⟨xs, hk⟩ ⟨ys, hj⟩ h1 h2
/-- the heap changes at a list of a slot -/
theorem En.upd1 (E : En K J B G H σ env) {i : Nat} {p : Addr} {ys zs : List Dt} {vs : List V} (hl : env[i]? = some (.ml ys)) (hs : σ[i]? = some (some (.ref p))) (r : Da K G vs zs) : En K J B G (upd H p (.lst vs)) σ (env.set i (.ml zs)) := by
  have hi : i < env.length := (List.getElem?_eq_some_iff.mp hl).1
  refine ⟨by simp [E.len], fun k s h => ?_, fun k j q hne hk hj h1 h2 => ?_⟩
  · by_cases e : i = k
    · subst e
      rw [List.getElem?_set_self hi] at h
      cases h
      obtain ⟨ov, h1, p', vs', h2, hB, hG, hm, hH, _⟩ := E.ok i _ hl
      rw [h1, h2] at hs
      cases hs
      exact ⟨_, by rw [h1, h2], p, vs, rfl, hB, hG, hm, upd_same, r⟩
    · rw [List.getElem?_set_ne e] at h
      obtain ⟨ov, h1, h2⟩ := E.ok k s h
      refine ⟨ov, h1, ?_⟩
      cases s with
      | no => trivial
      | d x => exact h2
      | hand => exact h2
      | hnd => exact h2
      | tap => exact h2
      | xv a d fs => exact h2
      | md kvs =>
        obtain ⟨q, us, h3, hB, hG, hm, hH, rr⟩ := h2
        obtain ⟨ov0, g1, p0, us0, g2, _, _, _, g3, _⟩ := E.ok i _ hl
        rw [g1, g2] at hs
        cases hs
        refine ⟨q, us, h3, hB, hG, hm, ?_, rr⟩
        rw [upd_ne (ne_of hH g3 (by intro z; cases z))]
        exact hH
      | mi q C fs =>
        obtain ⟨dx, us, h3, hB, hG, hm, hH, rr⟩ := h2
        obtain ⟨ov0, g1, p0, us0, g2, _, _, _, g3, _⟩ := E.ok i _ hl
        rw [g1, g2] at hs
        cases hs
        refine ⟨dx, us, h3, hB, hG, hm, ?_, rr⟩
        rw [upd_ne (ne_of hH g3 (by intro z; cases z))]
        exact hH
      | ml xs =>
        obtain ⟨q, us, h3, hB, hG, hm, hH, rr⟩ := h2
        refine ⟨q, us, h3, hB, hG, hm, ?_, rr⟩
        have : q ≠ p := fun z => by
          subst z
          exact E.ap i k q e ⟨_, hl⟩ ⟨_, h⟩ hs (by rw [h1, h3])
        rw [upd_ne this]
        exact hH
  · have back : ∀ m : Nat, (∃ xs, (env.set i (.ml zs))[m]? = some (Sl.ml xs)) → ∃ xs, env[m]? = some (Sl.ml xs) := fun m ⟨xs, h⟩ => by
      by_cases e : i = m
      · subst e; exact ⟨_, hl⟩
      · rw [List.getElem?_set_ne e] at h; exact ⟨xs, h⟩
    exact E.ap k j q hne (back k hk) (back j hj) h1 h2
end
end Mv

set_option Elab.async false
set_option linter.all false
set_option maxRecDepth 100000
set_option maxHeartbeats 4000000
namespace Mv
open PySem PySem.Spec PyProof.Rows L2

/-! ### judgements: a term of the layer, told over data -/
section
variable (K : PySem.W.Frag) (J : Jm) (env : List Sl)
/-- an expression gives data of which R holds -/
def Ev (te : TE) (R : Dt → Prop) : Prop := ∀ (B G H : Hp) (σ : L2.St), Wf J G H → En K J B G H σ env → ∀ Q : VK, (∀ v d G' H', Nx J G H G' H' → Dr K G' v d → R d → Q v H') → te σ H Q
/-- it gives a new list of which R holds -/
def Em (te : TE) (R : List Dt → Prop) : Prop := ∀ (B G H : Hp) (σ : L2.St), Wf J G H → En K J B G H σ env → ∀ Q : VK,
  (∀ p vs ds G' H', Nx J G H G' H' → G' p = none → H p = none → H' p = some (.lst vs) → Da K G' vs ds → R ds → Q (.ref p) H') → te σ H Q
def Et (tt : TT) (R : Bool → Prop) : Prop := ∀ (B G H : Hp) (σ : L2.St), Wf J G H → En K J B G H σ env → ∀ Q : Bool → Hp → Prop, (∀ b G' H', Nx J G H G' H' → R b → Q b H') → tt σ H Q
/-- arguments that are data -/
def Ed (ta : TA) (R : List Dt → Prop) : Prop := ∀ (B G H : Hp) (σ : L2.St), Wf J G H → En K J B G H σ env → ∀ Q : List V → Hp → Prop, (∀ vs ds G' H', Nx J G H G' H' → Da K G' vs ds → R ds → Q vs H') → ta σ H Q
/-- the one argument is the draws, or data -/
inductive SvA : Hp → List V → List Sl → Prop
  | nil {G : Hp} : SvA G [] []
  | cons {G : Hp} {v : V} {vs : List V} {s : Sl} {ss : List Sl} : Sv1 K J G v s → SvA G vs ss → SvA G (v :: vs) (s :: ss)
def Ea (ta : TA) (R : List Sl → Prop) : Prop := ∀ (B G H : Hp) (σ : L2.St), Wf J G H → En K J B G H σ env → ∀ Q : List V → Hp → Prop, (∀ vs ss G' H', Nx J G H G' H' → SvA K J G' vs ss → R ss → Q vs H') → ta σ H Q
/-- an operation on data -/
def O2 (r : R2) (x y : Dt) (R : Dt → Prop) : Prop := ∀ (G H : Hp) (vx vy : V), Wf J G H → Dr K G vx x → Dr K G vy y → ∀ Q : VK, (∀ v d G' H', Nx J G H G' H' → Dr K G' v d → R d → Q v H') → r vx vy H Q
def O1 (r : V → Hp → VK → Prop) (x : Dt) (R : Dt → Prop) : Prop := ∀ (G H : Hp) (vx : V), Wf J G H → Dr K G vx x → ∀ Q : VK, (∀ v d G' H', Nx J G H G' H' → Dr K G' v d → R d → Q v H') → r vx H Q
def Oc (r : List V → Hp → VK → Prop) (xs : List Dt) (R : Dt → Prop) : Prop := ∀ (G H : Hp) (vs : List V), Wf J G H → Da K G vs xs → ∀ Q : VK, (∀ v d G' H', Nx J G H G' H' → Dr K G' v d → R d → Q v H') → r vs H Q
/-- a target takes data: which slots it stores -/
def Gt (g : TG) (d : Dt) (S : List Nat) (R : List Sl → Prop) : Prop := ∀ (B G H : Hp) (σ : L2.St) (v : V), Wf J G H → En K J B G H σ env → Dr K G v d → ∀ Q : L2.St → Hp → Prop,
  (∀ env' σ', En K J B G H σ' env' → (σ'.length = σ.length ∧ ∀ i : Nat, i ∉ S → σ'[i]? = σ[i]?) → R env' → Q σ' H) → g v σ H Q
def Gs (g : TGs) (ds : List Dt) (S : List Nat) (R : List Sl → Prop) : Prop := ∀ (B G H : Hp) (σ : L2.St) (vs : List V), Wf J G H → En K J B G H σ env → Da K G vs ds → ∀ Q : L2.St → Hp → Prop,
  (∀ env' σ', En K J B G H σ' env' → (σ'.length = σ.length ∧ ∀ i : Nat, i ∉ S → σ'[i]? = σ[i]?) → R env' → Q σ' H) → g vs σ H Q
end
/-- what a walk gives, turn by turn -/
structure Wk (K : PySem.W.Frag) (J : Jm) (G : Hp) (I : It) (ds : List Dt) : Prop where
  go : ∀ i G1 H1, Same G G1 → Wf J G1 H1 → i < ds.length → I.go i H1
  stop : ∀ G1 H1, Same G G1 → Wf J G1 H1 → I.stop ds.length H1
  yld : ∀ i G1 H1 x H2, Same G G1 → Wf J G1 H1 → i < ds.length → I.yld i H1 x H2 → ∃ G2 d, Nx J G1 H1 G2 H2 ∧ ds[i]? = some d ∧ Dr K G2 x d
def Ei (K : PySem.W.Frag) (J : Jm) (env : List Sl) (wi : TI) (R : List Dt → Prop) : Prop := ∀ (B G H : Hp) (σ : L2.St), Wf J G H → En K J B G H σ env → ∀ Q : It → Hp → Prop,
  (∀ I ds G' H', Nx J G H G' H' → Wk K J G' I ds → R ds → Q I H') → wi σ H Q

section
variable {K : PySem.W.Frag} {J : Jm} {env : List Sl} {ta tb te : TE} {tt tu : TT} {R : Dt → Prop} {r : R2}
theorem Ev.imp {R' : Dt → Prop} (h : Ev K J env te R) (k : ∀ d, R d → R' d) : Ev K J env te R' := fun B G H σ w E Q q => h B G H σ w E Q fun v d G' H' n r x => q v d G' H' n r (k d x)
theorem Em.imp {R R' : List Dt → Prop} (h : Em K J env te R) (k : ∀ d, R d → R' d) : Em K J env te R' := fun B G H σ w E Q q => h B G H σ w E Q fun p vs d G' H' n a b c r x => q p vs d G' H' n a b c r (k d x)
theorem Et.imp {R R' : Bool → Prop} (h : Et K J env tt R) (k : ∀ d, R d → R' d) : Et K J env tt R' := fun B G H σ w E Q q => h B G H σ w E Q fun b G' H' n x => q b G' H' n (k b x)

theorem ev_var {i : Nat} {x : Dt} (h : env[i]? = some (.d x)) (k : R x) : Ev K J env (tVar i) R := fun B G H σ w E Q q => by
  obtain ⟨v, e, r⟩ := E.dat h
  exact ⟨v, e, q v x G H w.nx r k⟩
theorem ev_int {i : Int} (k : R (.int i)) : Ev K J env (tC (.int i)) R := fun B G H σ w E Q q => q _ _ G H w.nx (.int i) k
theorem ev_bl {i : Bool} (k : R (.bl i)) : Ev K J env (tC (.bl i)) R := fun B G H σ w E Q q => q _ _ G H w.nx (.bl i) k
theorem ev_str {i : Str} (k : R (.str i)) : Ev K J env (tC (.str i)) R := fun B G H σ w E Q q => q _ _ G H w.nx (.str i) k
theorem ev_non (k : R .non) : Ev K J env (tC .non) R := fun B G H σ w E Q q => q _ _ G H w.nx .non k
theorem ev_ref {a : Addr} {d : Dt} (hd : ∀ G, Dr K G (.ref a) d) (k : R d) : Ev K J env (tC (.ref a)) R := fun B G H σ w E Q q => q _ _ G H w.nx (hd G) k
theorem ev_op (h : Ev K J env ta fun x => Ev K J env tb fun y => O2 K J r x y R) : Ev K J env (tOp r ta tb) R := fun B G H σ w E Q q =>
  h B G H σ w E _ fun vx x G1 H1 n1 rx hb => hb B G1 H1 σ (n1.wf w) (E.mono n1) _ fun vy y G2 H2 n2 ry o =>
    o G2 H2 vx vy (n2.wf (n1.wf w)) (rx.mono n2.gg) ry Q fun v d G3 H3 n3 rd k => q v d G3 H3 ((n1.trans n2).trans n3) rd k
theorem ev_un {r : V → Hp → VK → Prop} (h : Ev K J env ta fun x => O1 K J r x R) : Ev K J env (tUn r ta) R := fun B G H σ w E Q q =>
  h B G H σ w E _ fun vx x G1 H1 n1 rx o => o G1 H1 vx (n1.wf w) rx Q fun v d G3 H3 n3 rd k => q v d G3 H3 (n1.trans n3) rd k
theorem ev_if (h : Et K J env tt fun b => (b = true → Ev K J env ta R) ∧ (b = false → Ev K J env tb R)) : Ev K J env (tIf tt ta tb) R := fun B G H σ w E Q q =>
  h B G H σ w E _ fun b G1 H1 n1 k => by
    cases b with
    | true => exact k.1 rfl B G1 H1 σ (n1.wf w) (E.mono n1) Q fun v d G2 H2 n2 r x => q v d G2 H2 (n1.trans n2) r x
    | false => exact k.2 rfl B G1 H1 σ (n1.wf w) (E.mono n1) Q fun v d G2 H2 n2 r x => q v d G2 H2 (n1.trans n2) r x
theorem ev_andV (h : Ev K J env ta fun x => ∃ b, x = .bl b ∧ (b = true → Ev K J env tb R) ∧ (b = false → R (.bl false))) : Ev K J env (tAndV ta tb) R := fun B G H σ w E Q q =>
  h B G H σ w E _ fun v d G1 H1 n1 rd ⟨b, e, k1, k2⟩ => by
    subst e
    cases rd
    refine ⟨b, rfl, ?_⟩
    cases b with
    | true => exact k1 rfl B G1 H1 σ (n1.wf w) (E.mono n1) Q fun v d G2 H2 n2 r x => q v d G2 H2 (n1.trans n2) r x
    | false => exact q _ _ G1 H1 n1 (.bl false) (k2 rfl)
theorem ev_orV (h : Ev K J env ta fun x => ∃ b, x = .bl b ∧ (b = true → R (.bl true)) ∧ (b = false → Ev K J env tb R)) : Ev K J env (tOrV ta tb) R := fun B G H σ w E Q q =>
  h B G H σ w E _ fun v d G1 H1 n1 rd ⟨b, e, k1, k2⟩ => by
    subst e
    cases rd
    refine ⟨b, rfl, ?_⟩
    cases b with
    | true => exact q _ _ G1 H1 n1 (.bl true) (k1 rfl)
    | false => exact k2 rfl B G1 H1 σ (n1.wf w) (E.mono n1) Q fun v d G2 H2 n2 r x => q v d G2 H2 (n1.trans n2) r x
theorem ev_notV (h : Ev K J env ta fun x => ∃ b, x = .bl b ∧ R (.bl (!b))) : Ev K J env (tNotV ta) R := fun B G H σ w E Q q =>
  h B G H σ w E _ fun v d G1 H1 n1 rd ⟨b, e, k1⟩ => by
    subst e
    cases rd
    exact ⟨b, rfl, q _ _ G1 H1 n1 (.bl _) k1⟩
/-! tests -/
theorem et_test {R : Bool → Prop} (h : Ev K J env te fun x => ∃ b, x = .bl b ∧ R b) : Et K J env (tTest te) R := fun B G H σ w E Q q =>
  h B G H σ w E _ fun v d G1 H1 n1 rd ⟨b, e, k⟩ => by
    subst e
    cases rd
    exact ⟨b, rfl, q b G1 H1 n1 k⟩
theorem et_B {R : Bool → Prop} (h : Ev K J env te fun x => ∃ b, x = .bl b ∧ R b) : Et K J env (tB te) R := fun B G H σ w E Q q =>
  h B G H σ w E _ fun v d G1 H1 n1 rd ⟨b, e, k⟩ => by
    subst e
    cases rd
    exact ⟨b, rfl, q b G1 H1 n1 k⟩
theorem et_and {R : Bool → Prop} (h : Et K J env tt fun b => (b = true → Et K J env tu R) ∧ (b = false → R false)) : Et K J env (tAnd tt tu) R := fun B G H σ w E Q q =>
  h B G H σ w E _ fun b G1 H1 n1 k => by
    cases b with
    | true => exact k.1 rfl B G1 H1 σ (n1.wf w) (E.mono n1) Q fun b G2 H2 n2 x => q b G2 H2 (n1.trans n2) x
    | false => exact q false G1 H1 n1 (k.2 rfl)
theorem et_or {R : Bool → Prop} (h : Et K J env tt fun b => (b = true → R true) ∧ (b = false → Et K J env tu R)) : Et K J env (tOr tt tu) R := fun B G H σ w E Q q =>
  h B G H σ w E _ fun b G1 H1 n1 k => by
    cases b with
    | true => exact q true G1 H1 n1 (k.1 rfl)
    | false => exact k.2 rfl B G1 H1 σ (n1.wf w) (E.mono n1) Q fun b G2 H2 n2 x => q b G2 H2 (n1.trans n2) x
theorem et_not {R : Bool → Prop} (h : Et K J env tt fun b => R (!b)) : Et K J env (tNot tt) R := fun B G H σ w E Q q =>
  h B G H σ w E _ fun b G1 H1 n1 k => q (!b) G1 H1 n1 k
theorem et_yes {R : Bool → Prop} (h : R true) : Et K J env tYes R := fun B G H σ w E Q q => q true G H w.nx h
/-! arguments -/
theorem ed_nil {R : List Dt → Prop} (h : R []) : Ed K J env tNil R := fun B G H σ w E Q q => q [] [] G H w.nx .nil h
theorem ed_cons {tr : TA} {R : List Dt → Prop} (h : Ev K J env ta fun x => Ed K J env tr fun xs => R (x :: xs)) : Ed K J env (tCons ta tr) R := fun B G H σ w E Q q =>
  h B G H σ w E _ fun v d G1 H1 n1 rd k => k B G1 H1 σ (n1.wf w) (E.mono n1) _ fun vs ds G2 H2 n2 rs x => q _ _ G2 H2 (n1.trans n2) (.cons (rd.mono n2.gg) rs) x
theorem Sv1.mono {G G' : Hp} {v : V} {s : Sl} (e : Same G G') (h : Sv1 K J G v s) : Sv1 K J G' v s := by
  cases s with
  | d x => exact Dr.mono e h
  | hand => exact h
  | hnd => exact h
  | tap => exact h
  | no => exact h
  | ml xs => exact h
  | xv a d fs => exact h
  | mi q C fs => exact h
  | md kvs => exact h
theorem ea_nil {R : List Sl → Prop} (h : R []) : Ea K J env tNil R := fun B G H σ w E Q q => q [] [] G H w.nx .nil h
theorem ea_cons {tr : TA} {R : List Sl → Prop} (h : Ev K J env ta fun x => Ea K J env tr fun xs => R (.d x :: xs)) : Ea K J env (tCons ta tr) R := fun B G H σ w E Q q =>
  h B G H σ w E _ fun v d G1 H1 n1 rd k => k B G1 H1 σ (n1.wf w) (E.mono n1) _ fun vs ds G2 H2 n2 rs x => q _ _ G2 H2 (n1.trans n2) (.cons (show Sv1 K J G2 v (.d d) from rd.mono n2.gg) rs) x
theorem ea_hand {i : Nat} {tr : TA} {R : List Sl → Prop} (hh : env[i]? = some .hand) (h : Ea K J env tr fun xs => R (.hand :: xs)) : Ea K J env (tCons (tVar i) tr) R := fun B G H σ w E Q q => by
  obtain ⟨ov, a, hh, d, b, c⟩ := E.ok i _ hh
  exact ⟨.ref hh, by rw [a, b], h B G H σ w E _ fun vs ds G2 H2 n2 rs x => q _ _ G2 H2 n2 (.cons (show Sv1 K J G2 (.ref hh) .hand from ⟨hh, d, rfl, c⟩) rs) x⟩
/-! displays -/
theorem Em.ev {R : Dt → Prop} (h : Em K J env te fun ds => R (.lst ds)) : Ev K J env te R := fun B G H σ w E Q q =>
  h B G H σ w E _ fun p vs ds G1 H1 n1 hG hH hp r k => q (.ref p) (.lst ds) (upd G1 p (.lst vs)) H1 (n1.fix hH hG hp) (.lst (.inl (.inl upd_same)) (r.mono fun b o e => by rw [upd_ne (ne_of_none e hG)]; exact e)) k
theorem sz_of {n : Nat} (h : n ≤ 100000) : n ≤ sizeLine := Nat.le_trans h (by decide)
theorem sz_lt {n : Nat} (h : n < 100000) : n < sizeLine := Nat.lt_of_lt_of_le h (by decide)
theorem ev_tup {ta : TA} (h : Ed K J env ta fun ds => ds.length ≤ 100000 ∧ R (.tup ds)) : Ev K J env (tTup ta) R := fun B G H σ w E Q q =>
  h B G H σ w E _ fun vs ds G1 H1 n1 r ⟨hz, k⟩ => ⟨sz_of (by rw [r.length]; exact hz), fun p hp => by
    have w1 := n1.wf w
    have n2 := w1.new hp (.tup vs)
    exact q (.ref p) (.tup ds) _ _ (n1.trans n2) (.tup (.inl (.inl upd_same)) (r.mono n2.gg)) k⟩
theorem em_lst {ta : TA} {R : List Dt → Prop} (h : Ed K J env ta fun ds => ds.length ≤ 100000 ∧ R ds) : Em K J env (tLst ta) R := fun B G H σ w E Q q =>
  h B G H σ w E _ fun vs ds G1 H1 n1 r ⟨hz, k⟩ => ⟨sz_of (by rw [r.length]; exact hz), fun p hp => by
    have w1 := n1.wf w
    refine q p vs ds G1 _ (n1.trans (w1.newM hp _)) (w1.free hp) ?_ upd_same r k
    cases z : H p with
    | none => rfl
    | some o => exact absurd hp (n1.th p (by rw [z]; simp))⟩
theorem ev_lst {ta : TA} (h : Ed K J env ta fun ds => ds.length ≤ 100000 ∧ R (.lst ds)) : Ev K J env (tLst ta) R := Em.ev (em_lst h)
/-! calls of built-ins -/
theorem ev_cb {rc : List V → Hp → VK → Prop} {ta : TA} (h : Ed K J env ta fun ds => Oc K J rc ds R) : Ev K J env (tCB rc ta) R := fun B G H σ w E Q q =>
  h B G H σ w E _ fun vs ds G1 H1 n1 r o => o G1 H1 vs (n1.wf w) r Q fun v d G2 H2 n2 rd k => q v d G2 H2 (n1.trans n2) rd k
end
/-! ### calls of defs: a def is told by what must hold so that it yields what is wanted -/
abbrev Fw := List Sl → (Dt → Prop) → Prop
def Ct (K : PySem.W.Frag) (W : Fw) : Sp := fun vs H Q _ => ∃ (J : Jm) (G : Hp) (ss : List Sl) (P : Dt → Prop), Wf J G H ∧ SvA K J G vs ss ∧ W ss P ∧ ∀ v d G' H', Nx J G H G' H' → Dr K G' v d → P d → Q v H'
section
variable {K : PySem.W.Frag} {J : Jm} {env : List Sl} {R : Dt → Prop} {W : Fw} {E0 : XK}
theorem ev_call {ta : TA} (h : Ea K J env ta fun ss => W ss R) : Ev K J env (tCall (Ct K W) [] E0 ta) R := fun B G H σ w E Q q =>
  h B G H σ w E _ fun vs ss G1 H1 n1 r k => by
    show Ct K W (vs ++ []) H1 Q E0
    rw [List.append_nil]
    exact ⟨J, G1, ss, R, n1.wf w, r, k, fun v d G2 H2 n2 rd x => q v d G2 H2 (n1.trans n2) rd x⟩
end

/-- a def that gives a new list of its caller's own -/
abbrev FwM := List Sl → (List Dt → Prop) → Prop
def CtM (K : PySem.W.Frag) (W : FwM) : Sp := fun vs H Q _ => ∃ (J : Jm) (G : Hp) (ss : List Sl) (P : List Dt → Prop), Wf J G H ∧ SvA K J G vs ss ∧ W ss P ∧
  ∀ p ws ds G' H', Nx J G H G' H' → G' p = none → H p = none → H' p = some (.lst ws) → Da K G' ws ds → P ds → Q (.ref p) H'
section
variable {K : PySem.W.Frag} {J : Jm} {env : List Sl} {R : List Dt → Prop} {W : FwM} {E0 : XK}
theorem em_call {ta : TA} (h : Ea K J env ta fun ss => W ss R) : Em K J env (tCall (CtM K W) [] E0 ta) R := fun B G H σ w E Q q =>
  h B G H σ w E _ fun vs ss G1 H1 n1 r k => by
    show CtM K W (vs ++ []) H1 Q E0
    rw [List.append_nil]
    refine ⟨J, G1, ss, R, n1.wf w, r, k, fun p ws ds G2 H2 n2 a b c rd x => q p ws ds G2 H2 (n1.trans n2) a ?_ c rd x⟩
    cases z : H p with
    | none => rfl
    | some o => exact absurd b (n1.th p (by rw [z]; simp))
end
/-! ### statements -/
theorem ne_mem {α : Type} {p m : α} {l : List α} (hm : p ∉ l) (h : m ∈ l) : m ≠ p := fun z => hm (z ▸ h)
theorem ne_memP {p m : Addr} {l : Addr → Prop} (hm : p ∉ l) (h : m ∈ l) : m ≠ p := fun z => hm (z ▸ h)
structure DE where
  nx : List Sl → Prop
  rt : Dt → Prop
  bk : List Sl → Prop := fun _ => False
  ct : List Sl → Prop := fun _ => False
  rm : List Dt → Prop := fun _ => False
  /-- what the code wishes of an exception, and what is known of it -/
  xw : WX := fun _ _ _ _ => False
  xc : Addr → List (Str × Dt) → List Sl → Prop := fun _ _ _ => False
/-- the state: since the entry (GB, B) only so much has changed -/
structure At (K : PySem.W.Frag) (J : Jm) (GB B G H : Hp) (σ : L2.St) (env : List Sl) : Prop where
  wf : Wf J G H
  nx : Nx J GB B G H
  en : En K J B G H σ env
/-- an exception of which xc is known is as wished -/
def XOk (K : PySem.W.Frag) (J : Jm) (GB B : Hp) (xw : WX) (xc : Addr → List (Str × Dt) → List Sl → Prop) : Prop := ∀ (C d : Addr) (vs : List (Str × V)) (fs : List (Str × Dt)) (env' : List Sl) (G' H' : Hp) (σ' : L2.St),
  At K J GB B G' H' σ' env' → G' d = some (.xd vs) → Df K G' vs fs → xc C fs env' → xw (.ref C) (some d) σ' H'
def Sv (K : PySem.W.Frag) (J : Jm) (env : List Sl) (ts : TS) (D : DE) : Prop := ∀ (GB B G H : Hp) (σ : L2.St), At K J GB B G H σ env → ∀ E : Ends,
  (∀ env' G' H' σ', At K J GB B G' H' σ' env' → D.nx env' → E.nx σ' H') → (∀ env' G' H' σ', At K J GB B G' H' σ' env' → D.bk env' → E.bk σ' H') → (∀ env' G' H' σ', At K J GB B G' H' σ' env' → D.ct env' → E.ct σ' H') →
  (∀ v d G' H', Nx J GB B G' H' → Dr K G' v d → D.rt d → E.rt v H') →
  (∀ p vs ds G' H', Nx J GB B G' H' → G' p = none → B p = none → H' p = some (.lst vs) → Da K G' vs ds → D.rm ds → E.rt (.ref p) H') → XOk K J GB B D.xw D.xc → ts E σ H
section
variable {K : PySem.W.Frag} {J : Jm} {env : List Sl} {ts tu : TS} {te ti : TE} {tt : TT} {D : DE}
theorem At.then {GB B G H G' H' : Hp} {σ : L2.St} (a : At K J GB B G H σ env) (n : Nx J G H G' H') : At K J GB B G' H' σ env := ⟨n.wf a.wf, a.nx.trans n, a.en.mono n⟩
theorem Sv.imp {D' : DE} (h : Sv K J env ts D) (k1 : ∀ e, D.nx e → D'.nx e) (k2 : ∀ e, D.bk e → D'.bk e) (k3 : ∀ e, D.ct e → D'.ct e) (k4 : ∀ d, D.rt d → D'.rt d) (k5 : ∀ d, D.rm d → D'.rm d) (k6 : D.xw = D'.xw) (k7 : ∀ C fs e, D.xc C fs e → D'.xc C fs e) : Sv K J env ts D' := fun GB B G H σ a E q1 q2 q3 q4 q5 q6 =>
  h GB B G H σ a E (fun e G' H' σ' a' x => q1 e G' H' σ' a' (k1 e x)) (fun e G' H' σ' a' x => q2 e G' H' σ' a' (k2 e x)) (fun e G' H' σ' a' x => q3 e G' H' σ' a' (k3 e x)) (fun v d G' H' n r x => q4 v d G' H' n r (k4 d x)) (fun p vs ds G' H' n a b c r x => q5 p vs ds G' H' n a b c r (k5 ds x)) fun C d vs fs e G' H' σ' a' g r x => k6 ▸ q6 C d vs fs e G' H' σ' a' g r (k7 C fs e x)
theorem sv_seq (h : Sv K J env ts { D with nx := fun e => Sv K J e tu D }) : Sv K J env (tSeq ts tu) D := fun GB B G H σ a E q1 q2 q3 q4 q5 q6 =>
  h GB B G H σ a { E with nx := tu E } (fun e G' H' σ' a' x => x GB B G' H' σ' a' E q1 q2 q3 q4 q5 q6) q2 q3 q4 q5 q6
/-- a word between a statement and the rest -/
theorem sv_mid (M : List Sl → Prop) (h : Sv K J env ts { D with nx := M }) (k : ∀ e, M e → Sv K J e tu D) : Sv K J env (tSeq ts tu) D :=
  sv_seq (h.imp k (fun _ x => x) (fun _ x => x) (fun _ x => x) (fun _ x => x) rfl fun _ _ _ x => x)
theorem sv_next (h : D.nx env) : Sv K J env tNext D := fun GB B G H σ a E q1 _ _ _ _ _ => q1 env G H σ a h
theorem sv_break (h : D.bk env) : Sv K J env tBreak D := fun GB B G H σ a E _ q2 _ _ _ _ => q2 env G H σ a h
theorem sv_cont (h : D.ct env) : Sv K J env tCont D := fun GB B G H σ a E _ _ q3 _ _ _ => q3 env G H σ a h
theorem sv_asg {i : Nat} (h : Ev K J env te fun d => D.nx (env.set i (.d d))) : Sv K J env (tAsg te (gName i)) D := fun GB B G H σ a E q1 _ _ _ _ _ =>
  h B G H σ a.wf a.en _ fun v d G1 H1 n1 r k => q1 _ G1 H1 _ ⟨n1.wf a.wf, a.nx.trans n1, (a.en.mono n1).setD r⟩ k
theorem sv_asgG {g : TG} (S : List Nat) (h : Ev K J env te fun d => Gt K J env g d S D.nx) : Sv K J env (tAsg te g) D := fun GB B G H σ a E q1 _ _ _ _ _ =>
  h B G H σ a.wf a.en _ fun v d G1 H1 n1 r k => k B G1 H1 σ v (n1.wf a.wf) (a.en.mono n1) r _ fun e σ' E' _ x => q1 e G1 H1 σ' ⟨n1.wf a.wf, a.nx.trans n1, E'⟩ x
theorem sv_drop (h : Ev K J env te fun _ => D.nx env) : Sv K J env (tDrop te) D := fun GB B G H σ a E q1 _ _ _ _ _ =>
  h B G H σ a.wf a.en _ fun v d G1 H1 n1 r k => q1 _ G1 H1 _ (a.then n1) k
theorem sv_ret (h : Ev K J env te D.rt) : Sv K J env (tRet te) D := fun GB B G H σ a E _ _ _ q4 _ _ =>
  h B G H σ a.wf a.en _ fun v d G1 H1 n1 r k => q4 v d G1 H1 (a.nx.trans n1) r k
theorem sv_retN (h : D.rt .non) : Sv K J env tRetN D := fun GB B G H σ a E _ _ _ q4 _ _ => q4 .non .non G H a.nx .non h
theorem sv_if (h : Et K J env tt fun b => (b = true → Sv K J env ts D) ∧ (b = false → Sv K J env tu D)) : Sv K J env (tIfS tt ts tu) D := fun GB B G H σ a E q1 q2 q3 q4 q5 q6 =>
  h B G H σ a.wf a.en _ fun b G1 H1 n1 k => by
    cases b with
    | true => exact k.1 rfl GB B G1 H1 σ (a.then n1) E q1 q2 q3 q4 q5 q6
    | false => exact k.2 rfl GB B G1 H1 σ (a.then n1) E q1 q2 q3 q4 q5 q6
/-- a new list that the slot holds alone -/
theorem sv_asgM {i : Nat} (h : Em K J env te fun ds => D.nx (env.set i (.ml ds))) : Sv K J env (tAsg te (gName i)) D := fun GB B G H σ a E q1 _ _ _ _ _ =>
  h B G H σ a.wf a.en _ fun p vs ds G1 H1 n1 hG hH hp r k => by
    have hB : B p = none := by
      cases z : B p with
      | none => rfl
      | some o => exact absurd hH (a.nx.th p (by rw [z]; simp))
    refine q1 _ G1 H1 _ ⟨n1.wf a.wf, a.nx.trans n1, (a.en.mono n1).setM hB hG (a.wf.notin hH) hp r fun j hj ⟨ys, hy⟩ e => ?_⟩ k
    obtain ⟨ov, h1, p', vs', h2, _, _, _, h3, _⟩ := a.en.ok j _ hy
    rw [h1, h2] at e
    cases e
    rw [hH] at h3
    cases h3
/-- the slot's list is data from now on -/
theorem sv_fix {i : Nat} {xs : List Dt} (hi : env[i]? = some (.ml xs)) (h : Sv K J (env.set i (.d (.lst xs))) ts D) : Sv K J env ts D := fun GB B G H σ a E q1 q2 q3 q4 q5 q6 => by
  obtain ⟨ov, h1, p, vs, h2, hB, hG, hm, hH, r⟩ := a.en.ok i _ hi
  have n := a.nx.fix hB hG hH
  have w : Wf J (upd G p (.lst vs)) H := ⟨n.gh, n.ok, fun m hmm => ⟨by rw [upd_ne (ne_memP hm hmm)]; exact (a.wf.ms m hmm).1, (a.wf.ms m hmm).2⟩, J.trm _ _ (fun b o e => by rw [upd_ne (ne_of_none e hG)]; exact e) a.wf.tr⟩
  have sg : Same G (upd G p (.lst vs)) := fun b o e => by rw [upd_ne (ne_of_none e hG)]; exact e
  have hs : σ.set i (some (.ref p)) = σ := by
    refine List.ext_getElem? fun k => ?_
    by_cases e : i = k
    · subst e
      rw [List.getElem?_set_self (List.getElem?_eq_some_iff.mp h1).1, h1, h2]
    · rw [List.getElem?_set_ne e]
  have e2 : En K J B (upd G p (.lst vs)) H σ (env.set i (.d (.lst xs))) := by
    have e0 : En K J B G H σ (env.set i .no) := by
      have := a.en.setN (i := i) (ov := some (.ref p))
      rw [hs] at this
      exact this
    have e1 : En K J B (upd G p (.lst vs)) H σ (env.set i .no) := by
      refine ⟨e0.len, fun k s hk => ?_, e0.ap⟩
      obtain ⟨ov', h1', h2'⟩ := e0.ok k s hk
      refine ⟨ov', h1', ?_⟩
      cases s with
      | no => trivial
      | d x => obtain ⟨v, e, r'⟩ := h2'; exact ⟨v, e, r'.mono sg⟩
      | hand => exact h2'
      | hnd => exact h2'
      | tap => exact h2'
      | xv a d fs => obtain ⟨e, vs, g, r'⟩ := h2'; exact ⟨e, vs, sg _ _ g, r'.mono sg⟩
      | md kvs =>
        obtain ⟨q, us, e3, hB', hG', hm', hH', r'⟩ := h2'
        refine ⟨q, us, e3, hB', ?_, hm', hH', r'.mono sg⟩
        rw [upd_ne (ne_of hH' hH (by intro z; cases z))]
        exact hG'
      | mi q C fs =>
        obtain ⟨dx, us, e3, hB', hG', hm', hH', r'⟩ := h2'
        refine ⟨dx, us, e3, hB', ?_, hm', hH', r'.mono sg⟩
        rw [upd_ne (ne_of hH' hH (by intro z; cases z))]
        exact hG'
      | ml ys =>
        obtain ⟨p', vs', e3, hB', hG', hm', hH', r'⟩ := h2'
        refine ⟨p', vs', e3, hB', ?_, hm', hH', r'.mono sg⟩
        have : p' ≠ p := fun z => by
          subst z
          have hne : i ≠ k := fun z => by
            subst z
            rw [List.getElem?_set_self (List.getElem?_eq_some_iff.mp hi).1] at hk
            cases hk
          rw [List.getElem?_set_ne hne] at hk
          exact a.en.ap i k p' hne ⟨_, hi⟩ ⟨_, hk⟩ (by rw [h1, h2]) (by rw [h1', e3])
        rw [upd_ne this]
        exact hG'
    have := e1.setD (i := i) (v := .ref p) (x := .lst xs) (.lst (.inl (.inl upd_same)) (r.mono sg))
    rw [hs, List.set_set] at this
    exact this
  exact h GB B _ H σ ⟨w, n, e2⟩ E q1 q2 q3 q4 q5 q6
/-- xs.append(e) -/
theorem sv_app {i : Nat} {xs : List Dt} (hi : env[i]? = some (.ml xs)) (hz : xs.length < 100000) (h : Ev K J env te fun d => D.nx (env.set i (.ml (xs ++ [d])))) :
    Sv K J env (tDrop (tBM K "list" rAppend (tVar i) (tCons te tNil))) D := fun GB B G H σ a E q1 _ _ _ _ _ => by
  obtain ⟨ov, h1, p, vs, h2, hB, hG, hm, hH, r⟩ := a.en.ok i _ hi
  have hs : σ[i]? = some (some (.ref p)) := by rw [h1, h2]
  refine ⟨.ref p, hs, .inl ⟨rfl, vs, .inl (.inl hH)⟩, h B G H σ a.wf a.en _ fun v d G1 H1 n1 rd k => ?_⟩
  have hH1 := n1.kp p _ hH hm
  have hG1 := n1.fr p hG (by rw [hH]; simp)
  have a1 := a.then n1
  refine ⟨p, vs, v, rfl, rfl, hH1, sz_lt (by rw [r.length]; exact hz), q1 _ G1 _ σ ?_ k⟩
  have n2 := a1.nx.mut (o' := .lst (vs ++ [v])) hB hG1 hm hH1
  refine ⟨⟨n2.gh, n2.ok, fun m hmm => ⟨(a1.wf.ms m hmm).1, ?_⟩, a1.wf.tr⟩, n2, a1.en.upd1 hi hs ((r.mono n1.gg).append (.cons rd .nil))⟩
  rw [upd_ne (ne_memP hm hmm)]
  exact (a1.wf.ms m hmm).2
theorem ixN_nat {n j : Nat} (hj : j < n) : ixN n (j : Int) = some j := by
  unfold ixN
  rw [if_pos (by omega), if_pos (by omega)]
  simp
/-- xs[k] = e -/
theorem sv_setM {i : Nat} {xs : List Dt} (hi : env[i]? = some (.ml xs)) (h : Ev K J env te fun d => Ev K J env ti fun k => ∃ j : Nat, k = .int (j : Int) ∧ j < xs.length ∧ D.nx (env.set i (.ml (xs.set j d)))) :
    Sv K J env (tAsg te (gSub (tVar i) ti rSetL)) D := fun GB B G H σ a E q1 _ _ _ _ _ => by
  obtain ⟨ov, h1, p, vs, h2, hB, hG, hm, hH, r⟩ := a.en.ok i _ hi
  have hs : σ[i]? = some (some (.ref p)) := by rw [h1, h2]
  refine h B G H σ a.wf a.en _ fun v d G1 H1 n1 rd k => ?_
  have a1 := a.then n1
  refine ⟨.ref p, hs, k B G1 H1 σ a1.wf a1.en _ fun w x G2 H2 n2 rx ⟨j, ex, hj, k2⟩ => ?_⟩
  subst ex
  cases rx
  have n12 := n1.trans n2
  have hH2 := n12.kp p _ hH hm
  have hG2 := n12.fr p hG (by rw [hH]; simp)
  have a2 := a.then n12
  refine ⟨p, vs, (j : Int), j, rfl, rfl, hH2, ixN_nat (by rw [r.length]; exact hj), q1 _ G2 _ σ ?_ k2⟩
  have n3 := a2.nx.mut (o' := .lst (vs.set j v)) hB hG2 hm hH2
  refine ⟨⟨n3.gh, n3.ok, fun m hmm => ⟨(a2.wf.ms m hmm).1, ?_⟩, a2.wf.tr⟩, n3, a2.en.upd1 hi hs ((r.mono n12.gg).set j (rd.mono n2.gg))⟩
  rw [upd_ne (ne_memP hm hmm)]
  exact (a2.wf.ms m hmm).2
/-- return of the slot's own list -/
theorem sv_retM {i : Nat} {xs : List Dt} (hi : env[i]? = some (.ml xs)) (h : D.rm xs) : Sv K J env (tRet (tVar i)) D := fun GB B G H σ a E _ _ _ _ q5 _ => by
  obtain ⟨ov, h1, p, vs, h2, hB, hG, hm, hH, r⟩ := a.en.ok i _ hi
  exact ⟨.ref p, by rw [h1, h2], q5 p vs xs G H a.nx hG hB hH r h⟩
/-- hand = [draws, 0]: from here on the draws are at hand -/
theorem sv_hand {i : Nat} {rt : Dt → Prop} (he : ∀ (k : Nat) (s : Sl), env[k]? = some s → s = .no ∨ ∃ x, s = .d x) (h : Em K J0 env te fun ds => ∃ ns : List Int, ds = ns.map Dt.int ∧ ∀ l p, Sv K (Jh l p) (env.set i .hand) tu { nx := fun _ => False, rt := rt }) :
    Sv K J0 env (tSeq (tAsg (tLst (tCons te (tCons (tC (.int 0)) tNil))) (gName i)) tu) { nx := fun _ => False, rt := rt } := fun GB B G H σ a E q1 q2 q3 q4 q5 q6 => by
  refine h B G H σ a.wf a.en _ fun p vs ds G1 H1 n1 hG hH hp r ⟨ns, e, sv⟩ => ⟨by show 2 ≤ sizeLine; decide, fun l hl => ?_⟩
  subst e
  have hvs := r.ints_inv
  subst hvs
  have a1 := a.then n1
  have n2 := a1.wf.newM hl (.lst [.ref p, .int 0])
  have n12 := a1.nx.trans n2
  have hlp : p ≠ l := ne_of_none hp hl
  have hBl : B l = none := by
    cases z : B l with
    | none => rfl
    | some o => exact absurd hl (a1.nx.th l (by rw [z]; simp))
  have hBp : B p = none := by
    cases z : B p with
    | none => rfl
    | some o => exact absurd hH (a.nx.th p (by rw [z]; simp))
  have hGl : G1 l = none := a1.wf.free hl
  have hok : HandAt l p (upd H1 l (.lst [.ref p, .int 0])) := ⟨ns, 0, upd_same, by rw [upd_ne hlp]; exact hp, Int.le_refl _⟩
  have wf : Wf (Jh l p) G1 (upd H1 l (.lst [.ref p, .int 0])) := ⟨n12.gh, hok, fun m hm => by
    rcases (show m = l ∨ m = p from hm) with rfl | rfl
    · exact ⟨hGl, by rw [upd_same]; simp⟩
    · exact ⟨hG, by rw [upd_ne hlp, hp]; simp⟩, trivial⟩
  have nx : Nx (Jh l p) GB B G1 (upd H1 l (.lst [.ref p, .int 0])) := ⟨n12.gg, n12.gh, n12.fr, fun b o e _ => n12.kp b o e (fun z => z), n12.th, hok⟩
  have en : En K (Jh l p) B G1 (upd H1 l (.lst [.ref p, .int 0])) (σ.set i (some (.ref l))) (env.set i .hand) := by
    have E1 := a1.en
    refine ⟨by simp [E1.len], fun k s hk => ?_, fun k j q hne hk hj h1 h2 => ?_⟩
    · by_cases z : i = k
      · subst z
        have hi : i < env.length := by
          have := (List.getElem?_eq_some_iff.mp hk).1
          simpa using this
        rw [List.getElem?_set_self hi] at hk
        cases hk
        exact ⟨_, by rw [List.getElem?_set_self (by rw [E1.len]; exact hi)], l, p, rfl, rfl⟩
      · rw [List.getElem?_set_ne z] at hk
        rw [List.getElem?_set_ne z]
        obtain ⟨ov, h1, h2⟩ := E1.ok k s hk
        rcases he k s hk with rfl | ⟨x, rfl⟩
        · exact ⟨ov, h1, trivial⟩
        · exact ⟨ov, h1, h2⟩
    · obtain ⟨xk, hk⟩ := hk
      by_cases z : i = k
      · subst z
        have hi : i < env.length := by
          have := (List.getElem?_eq_some_iff.mp hk).1
          simpa using this
        rw [List.getElem?_set_self hi] at hk
        cases hk
      · rw [List.getElem?_set_ne z] at hk
        rcases he k _ hk with z | ⟨x, z⟩ <;> cases z
  refine sv l p GB B G1 _ _ ⟨wf, nx, en⟩ E (fun _ _ _ _ _ x => x.elim) (fun _ _ _ _ _ x => x.elim) (fun _ _ _ _ _ x => x.elim) (fun v d G' H' n r x => q4 v d G' H' ⟨n.gg, n.gh, n.fr, fun b o e _ => n.kp b o e ?_, n.th, trivial⟩ r x) (fun _ _ _ _ _ _ _ _ _ _ x => x.elim) (fun _ _ _ _ _ _ _ _ _ _ _ x => x.elim)
  intro hm
  rcases (show b = l ∨ b = p from hm) with rfl | rfl
  · rw [hBl] at e; cases e
  · rw [hBp] at e; cases e
/-! loops -/
theorem gt_name {i : Nat} {d : Dt} {S : List Nat} {R : List Sl → Prop} (hS : i ∈ S) (h : R (env.set i (.d d))) : Gt K J env (gName i) d S R := fun B G H σ v w E r Q q =>
  q _ _ (E.setD r) ⟨List.length_set, fun k hk => List.getElem?_set_ne (ne_mem hk hS)⟩ h
theorem gs_nil {S : List Nat} {R : List Sl → Prop} (h : R env) : Gs K J env gNil [] S R := fun B G H σ vs w E r Q q => by
  cases r
  exact ⟨rfl, q env σ E ⟨rfl, fun _ _ => rfl⟩ h⟩
theorem gs_cons {g : TG} {u : TGs} {d : Dt} {ds : List Dt} {S : List Nat} {R : List Sl → Prop} (h : Gt K J env g d S fun e => Gs K J e u ds S R) : Gs K J env (gCons g u) (d :: ds) S R := fun B G H σ vs w E r Q q => by
  cases r with
  | cons r1 r2 => exact ⟨_, _, rfl, h B G H σ _ w E r1 _ fun e σ' E' k x => x B G H σ' _ w E' r2 Q fun e2 σ2 E2 k2 y => q e2 σ2 E2 ⟨k2.1.trans k.1, fun i hi => (k2.2 i hi).trans (k.2 i hi)⟩ y⟩
theorem gt_tup {u : TGs} {n : Nat} {ds : List Dt} {S : List Nat} {R : List Sl → Prop} (hn : ds.length = n) (h : Gs K J env u ds S R) : Gt K J env (gTup K n u) (.tup ds) S R := fun B G H σ v w E r Q q => by
  cases r with
  | tup s t => exact ⟨_, _, rfl, same_t w.gh s, by rw [t.length]; exact hn, h B G H σ _ w E t Q q⟩
/-- the same state, known since a later place -/
theorem At.rebase {GB B G H : Hp} {σ : L2.St} (a : At K J GB B G H σ env) : At K J G B G H σ env :=
  ⟨a.wf, ⟨Same.refl _, a.nx.gh, fun b h _ => h, a.nx.kp, a.nx.th, a.nx.ok⟩, a.en⟩
theorem nx_back {GB B G H G1 H1 : Hp} (n : Nx J GB B G H) (m : Nx J G B G1 H1) : Nx J GB B G1 H1 :=
  ⟨n.gg.trans m.gg, m.gh, fun b h1 h2 => m.fr b (n.fr b h1 h2) h2, m.kp, m.th, m.ok⟩
theorem At.back {GB B G H G1 H1 : Hp} {σ : L2.St} (n : Nx J GB B G H) (a : At K J G B G1 H1 σ env) : At K J GB B G1 H1 σ env := ⟨a.wf, nx_back n a.nx, a.en⟩
/-- for g in wi: body -/
theorem sv_for {wi : TI} {g : TG} (S : List Nat) (h : Ei K J env wi fun ds => ∃ P : Nat → List Sl → Prop, P 0 env ∧
    (∀ k d e, ds[k]? = some d → P k e → Gt K J e g d S fun e1 => Sv K J e1 ts { D with nx := P (k + 1), ct := P (k + 1), bk := D.nx }) ∧ ∀ e, P ds.length e → D.nx e) : Sv K J env (tFor wi g ts) D := fun GB B G H σ a E q1 q2 q3 q4 q5 q6 => by
  refine h B G H σ a.wf a.en _ fun I ds G1 H1 n1 wk ⟨P, h0, hs, hd⟩ => ?_
  have a1 := a.then n1
  refine ⟨fun i m σ' H' => m = ds.length - i ∧ i ≤ ds.length ∧ ∃ e G', At K J G1 B G' H' σ' e ∧ P i e, ⟨ds.length, by simp, Nat.zero_le _, env, G1, a1.rebase, h0⟩, ?_⟩
  rintro i m σ' H' ⟨rfl, hi, e, G', a', p⟩
  by_cases hlt : i < ds.length
  · refine .inr ⟨wk.go i G' H' a'.nx.gg a'.wf hlt, fun σ2 H2 => ∃ e2 G2, At K J G1 B G2 H2 σ2 e2 ∧ P (i + 1) e2, fun σ2 H2 ⟨e2, G2, a2, p2⟩ => ⟨ds.length - (i + 1), by omega, rfl, hlt, e2, G2, a2, p2⟩, fun x H2 y => ?_⟩
    obtain ⟨G2, d, n2, hd', rd⟩ := wk.yld i G' H' x H2 a'.nx.gg a'.wf hlt y
    have a2 := a'.then n2
    refine hs i d e hd' p B G2 H2 σ' x a2.wf a2.en rd _ fun e3 σ3 E3 _ sv => ?_
    exact sv G1 B G2 H2 σ3 ⟨a2.wf, a2.nx, E3⟩ _ (fun e4 G4 H4 σ4 a4 x => ⟨e4, G4, a4, x⟩) (fun e4 G4 H4 σ4 a4 x => q1 e4 G4 H4 σ4 (At.back a1.nx a4) x) (fun e4 G4 H4 σ4 a4 x => ⟨e4, G4, a4, x⟩)
      (fun v d4 G4 H4 n4 r4 x => q4 v d4 G4 H4 (nx_back a1.nx n4) r4 x) (fun p4 vs4 ds4 G4 H4 n4 a4 b4 c4 r4 x => q5 p4 vs4 ds4 G4 H4 (nx_back a1.nx n4) a4 b4 c4 r4 x)
      fun C d vs fs e G' H' σ' a' g r x => q6 C d vs fs e G' H' σ' (At.back a1.nx a') g r x
  · have e' : i = ds.length := by omega
    subst e'
    exact .inl ⟨wk.stop G' H' a'.nx.gg a'.wf, q1 e G' H' σ' (At.back a1.nx a') (hd e p)⟩
end
/-! what is walked -/
section
variable {K : PySem.W.Frag} {J : Jm} {env : List Sl} {tl : TE} {ta : TA}
theorem wk_list {G : Hp} {a : Addr} {vs : List V} {ds : List Dt} (s : SqL K G a vs) (r : Da K G vs ds) : Wk K J G (Itl K a) ds := by
  have wl := walk_list (K := K) (a := a) (xs := vs)
  have hl := r.length
  refine ⟨fun i G1 H1 sg w hi => wl.goes i H1 (by omega) (same_l (sg.trans w.gh) s), fun G1 H1 sg w => hl ▸ wl.stops H1 (same_l (sg.trans w.gh) s), fun i G1 H1 x H2 sg w hi y => ?_⟩
  obtain ⟨e1, e2⟩ := wl.yields i H1 x H2 (by omega) (same_l (sg.trans w.gh) s) y
  subst e1
  obtain ⟨d, h1, h2⟩ := r.get' e2
  exact ⟨G1, d, w.nx, h1, h2.mono sg⟩
theorem wk_tup {G : Hp} {a : Addr} {vs : List V} {ds : List Dt} (s : SqT K G a vs) (r : Da K G vs ds) : Wk K J G (Itt K a) ds := by
  have wl := walk_tup (K := K) (a := a) (xs := vs)
  have hl := r.length
  refine ⟨fun i G1 H1 sg w hi => wl.goes i H1 (by omega) (same_t (sg.trans w.gh) s), fun G1 H1 sg w => hl ▸ wl.stops H1 (same_t (sg.trans w.gh) s), fun i G1 H1 x H2 sg w hi y => ?_⟩
  obtain ⟨e1, e2⟩ := wl.yields i H1 x H2 (by omega) (same_t (sg.trans w.gh) s) y
  subst e1
  obtain ⟨d, h1, h2⟩ := r.get' e2
  exact ⟨G1, d, w.nx, h1, h2.mono sg⟩
theorem wk_range {G : Hp} {lo : Int} {n : Nat} : Wk K J G (Itr lo n) ((List.range n).map fun i => Dt.int (lo + (i : Nat))) := by
  have hl : ((List.range n).map fun i => Dt.int (lo + (i : Nat))).length = n := by simp
  refine ⟨fun i G1 H1 sg w hi => by rw [hl] at hi; exact hi, fun G1 H1 sg w => by rw [hl]; exact Nat.le_refl n, fun i G1 H1 x H2 sg w hi y => ?_⟩
  obtain ⟨e1, e2⟩ := (show H2 = H1 ∧ x = .int (lo + i) from y)
  subst e1 e2
  rw [hl] at hi
  exact ⟨G1, .int (lo + (i : Nat)), w.nx, by simp [hi], .int _⟩
theorem ei_list {R : List Dt → Prop} (h : Ev K J env tl fun x => ∃ ds, x = .lst ds ∧ R ds) : Ei K J env (iList K tl) R := fun B G H σ w E Q q =>
  h B G H σ w E _ fun v x G1 H1 n1 r ⟨ds, e, k⟩ => by
    subst e
    cases r with
    | lst s t => exact ⟨_, rfl, ⟨_, same_l n1.gh s⟩, q _ ds G1 H1 n1 (wk_list s t) k⟩
theorem ei_tup {R : List Dt → Prop} (h : Ev K J env tl fun x => ∃ ds, x = .tup ds ∧ R ds) : Ei K J env (iTup K tl) R := fun B G H σ w E Q q =>
  h B G H σ w E _ fun v x G1 H1 n1 r ⟨ds, e, k⟩ => by
    subst e
    cases r with
    | tup s t => exact ⟨_, rfl, ⟨_, same_t n1.gh s⟩, q _ ds G1 H1 n1 (wk_tup s t) k⟩
theorem ei_range {R : List Dt → Prop} (h : Ed K J env ta fun xs => ∃ n : Int, xs = [.int n] ∧ -1000000 ≤ n ∧ n ≤ 1000000 ∧ R ((List.range n.toNat).map fun i => Dt.int (i : Nat))) : Ei K J env (iRng1 ta) R := fun B G H σ w E Q q =>
  h B G H σ w E _ fun vs xs G1 H1 n1 r ⟨n, e, h0, hn, k⟩ => by
    subst e
    cases r with
    | cons r1 r2 =>
      cases r1
      cases r2
      refine ⟨n, rfl, by omega, by omega, q _ _ G1 H1 n1 wk_range ?_⟩
      have : (fun i : Nat => Dt.int (0 + (i : Int))) = fun i : Nat => Dt.int (i : Int) := by funext i; rw [Int.zero_add]
      rw [this]
      exact k
end
end Mv

set_option Elab.async false
set_option linter.all false
set_option maxRecDepth 100000
set_option maxHeartbeats 4000000
namespace Mv
open PySem PySem.Spec PyProof.Rows L2
/-! ### list comprehensions -/
def wipeE (env : List Sl) : List Nat → List Sl
  | [] => env
  | v :: vs => (wipeE env vs).set v .no
theorem wipe_get : ∀ (vs : List Nat) (σ : L2.St) (i : Nat), (wipe σ vs)[i]? = if i ∈ vs ∧ i < σ.length then some none else σ[i]?
  | [], σ, i => by
    have : wipe σ [] = σ := rfl
    rw [this, if_neg (by simp)]
  | v :: vs, σ, i => by
    have e : wipe σ (v :: vs) = (wipe σ vs).set v none := rfl
    rw [e]
    by_cases h : v = i
    · subst h
      by_cases hl : v < σ.length
      · rw [List.getElem?_set_self (by rw [wipe_length]; exact hl), if_pos ⟨by simp, hl⟩]
      · rw [List.getElem?_eq_none (by simp [wipe_length]; omega), if_neg (by omega), List.getElem?_eq_none (by omega)]
    · rw [List.getElem?_set_ne h, wipe_get vs σ i]
      by_cases hv : i ∈ vs ∧ i < σ.length
      · rw [if_pos hv, if_pos ⟨by simp [hv.1], hv.2⟩]
      · rw [if_neg hv, if_neg (by simp; intro z; rcases z with z | z; exact absurd z.symm h; exact Nat.le_of_not_lt fun q => hv ⟨z, q⟩)]
theorem wipe_eq {σ τ : L2.St} {vs : List Nat} (hl : τ.length = (wipe σ vs).length) (h : ∀ i : Nat, i ∉ vs → τ[i]? = (wipe σ vs)[i]?) : wipe τ vs = wipe σ vs := by
  rw [wipe_length] at hl
  refine List.ext_getElem? fun i => ?_
  rw [wipe_get, wipe_get]
  by_cases hv : i ∈ vs
  · by_cases hi : i < σ.length
    · rw [if_pos ⟨hv, by omega⟩, if_pos ⟨hv, hi⟩]
    · rw [if_neg (by omega), if_neg (by omega), List.getElem?_eq_none (by omega), List.getElem?_eq_none (by omega)]
  · have := h i hv
    rw [wipe_get, if_neg (fun z => hv z.1)] at this
    rw [if_neg (fun z => hv z.1), if_neg (fun z => hv z.1), this]
section
variable {K : PySem.W.Frag} {J : Jm} {env : List Sl} {te : TE} {tt : TT}
theorem En.wipe {B G H : Hp} {σ : L2.St} (E : En K J B G H σ env) : ∀ vs : List Nat, En K J B G H (wipe σ vs) (wipeE env vs)
  | [] => E
  | v :: vs => (En.wipe E vs).setN
theorem em_lc {wi : TI} {g : TG} {vs : List Nat} {R : List Dt → Prop} (h : Ei K J env wi fun ds => ds.length ≤ 100000 ∧ ∃ Iv : Nat → List Dt → Prop, Iv 0 [] ∧
    (∀ k d acc, ds[k]? = some d → acc.length ≤ k → Iv k acc → Gt K J (wipeE env vs) g d vs fun e => Et K J e tt fun b => (b = true → Ev K J e te fun y => Iv (k + 1) (acc ++ [y])) ∧ (b = false → Iv (k + 1) acc)) ∧
    ∀ acc, acc.length ≤ ds.length → Iv ds.length acc → R acc) : Em K J env (tLc wi g tt te vs) R := fun B G H σ w E Q q => by
  refine h B G H σ w E _ fun I ds G1 H1 n1 wk ⟨hz, Iv, h0, hs, hd⟩ => ?_
  intro Dl hDl
  have w1 := n1.wf w
  have E1 := E.mono n1
  have hn : Dl ∉ J.ms := w1.notin hDl
  have n0 := w1.newM hDl (.lst [])
  refine ⟨fun i m H' => m = ds.length - i ∧ i ≤ ds.length ∧ ∃ G' xs acc, Nx J G1 H1 G' H' ∧ G' Dl = none ∧ H' Dl = some (.lst xs) ∧ Da K G' xs acc ∧ acc.length ≤ i ∧ Iv i acc,
    ⟨ds.length, by simp, Nat.zero_le _, G1, [], [], n0, w1.free hDl, upd_same, .nil, Nat.le_refl _, h0⟩, ?_⟩
  rintro i m H' ⟨rfl, hi, G', xs, acc, n, hG, hH, r, hl, p⟩
  have w' := n.wf w1
  by_cases hlt : i < ds.length
  · refine .inr ⟨wk.go i G' H' n.gg w' hlt, fun H2 => ∃ G2 xs2 acc2, Nx J G1 H1 G2 H2 ∧ G2 Dl = none ∧ H2 Dl = some (.lst xs2) ∧ Da K G2 xs2 acc2 ∧ acc2.length ≤ i + 1 ∧ Iv (i + 1) acc2,
      fun H2 ⟨G2, xs2, acc2, a, b, c, d, e, f⟩ => ⟨ds.length - (i + 1), by omega, rfl, hlt, G2, xs2, acc2, a, b, c, d, e, f⟩, fun x H2 y => ?_⟩
    obtain ⟨G2, d, n2, hd', rd⟩ := wk.yld i G' H' x H2 n.gg w' hlt y
    have n02 := n.trans n2
    have w2 := n2.wf w'
    refine hs i d acc hd' hl p B G2 H2 (wipe σ vs) x w2 ((E1.mono n02).wipe vs) rd _ fun e3 σ3 E3 ks et => ⟨wipe_eq ks.1 ks.2, et B G2 H2 σ3 w2 E3 _ fun b G3 H3 n3 k => ?_⟩
    have hG2 := n2.fr Dl hG (by rw [hH]; simp)
    have hH2 := n2.kp Dl _ hH hn
    have hG3 := n3.fr Dl hG2 (by rw [hH2]; simp)
    have hH3 := n3.kp Dl _ hH2 hn
    have w3 := n3.wf w2
    cases b with
    | false => exact ⟨G3, xs, acc, n02.trans n3, hG3, hH3, (r.mono n2.gg).mono n3.gg, by omega, k.2 rfl⟩
    | true =>
      refine k.1 rfl B G3 H3 σ3 w3 (E3.mono n3) _ fun yv yd G4 H4 n4 ry ky => ?_
      have hG4 := n4.fr Dl hG3 (by rw [hH3]; simp)
      have hH4 := n4.kp Dl _ hH3 hn
      have n04 := (n02.trans n3).trans n4
      have n5 := n04.mut (o' := .lst (xs ++ [yv])) hDl hG4 hn hH4
      refine ⟨xs, hH4, sz_lt (by rw [r.length]; omega), G4, xs ++ [yv], acc ++ [yd], n5, hG4, upd_same, (((r.mono n2.gg).mono n3.gg).mono n4.gg).append (.cons ry .nil), by simp; omega, ky⟩
  · have e' : i = ds.length := by omega
    subst e'
    exact .inl ⟨wk.stop G' H' n.gg w', q Dl xs acc G' H' (n1.trans n) hG (by
      cases z : H Dl with
      | none => rfl
      | some o => exact absurd hDl (n1.th Dl (by rw [z]; simp))) hH r (hd acc hl p)⟩
/-! ### reading a slot's own list -/
section
variable {R : Dt → Prop} {i : Nat} {xs : List Dt}
/-- what a rule asks of a list at p -/
theorem En.lst {B G H : Hp} {σ : L2.St} (E : En K J B G H σ env) (hi : env[i]? = some (.ml xs)) : ∃ p vs, σ[i]? = some (some (.ref p)) ∧ H p = some (.lst vs) ∧ Da K G vs xs ∧ p ∉ J.ms ∧ G p = none := by
  obtain ⟨ov, h1, p, vs, h2, hB, hG, hm, hH, r⟩ := E.ok i _ hi
  exact ⟨p, vs, by rw [h1, h2], hH, r, hm, hG⟩
end
end

/-! ### named readings -/
def rLen (K : PySem.W.Frag) : List V → Hp → VK → Prop := fun xs H Q => ∃ x n, xs = [x] ∧ LenV K x H n ∧ Q (.int n) H
theorem c_len {X : Cx} : CallR X (.builtin "len") (rLen X.K) := call_len
def rInt : List V → Hp → VK → Prop := fun xs H Q => (∃ i, xs = [.int i] ∧ Q (.int i) H) ∨ ∃ k, xs = [.bl k] ∧ Q (.int (if k then 1 else 0)) H
theorem c_int {X : Cx} : CallR X (.type "int") rInt := call_int1
def rAbs : List V → Hp → VK → Prop := fun xs H Q => ∃ i, xs = [.int i] ∧ Q (.int (if i < 0 then -i else i)) H
theorem c_abs {X : Cx} : CallR X (.builtin "abs") rAbs := call_abs
def rMax : List V → Hp → VK → Prop := fun xs H Q => ∃ i j, xs = [.int i, .int j] ∧ Q (.int (if j > i then j else i)) H
theorem c_max {X : Cx} (hc : X.calm = true := by rfl) : CallR X (.builtin "max") rMax := call_max2 hc
def rMin : List V → Hp → VK → Prop := fun xs H Q => ∃ i j, xs = [.int i, .int j] ∧ Q (.int (if j < i then j else i)) H
theorem c_min {X : Cx} (hc : X.calm = true := by rfl) : CallR X (.builtin "min") rMin := call_min2 hc
def rTup (K : PySem.W.Frag) : List V → Hp → VK → Prop := fun xs H Q => ∃ p ys, xs = [.ref p] ∧ ((SqL K H p ys ∧ ∀ l, H l = none → Q (.ref l) (upd H l (.tup ys))) ∨ (SqT K H p ys ∧ Q (.ref p) H))
theorem c_tup {X : Cx} : CallR X (.type "tuple") (rTup X.K) := call_tuple_of
def rLst (K : PySem.W.Frag) : List V → Hp → VK → Prop := fun xs H Q => ∃ p ys, xs = [.ref p] ∧ (SqL K H p ys ∨ SqT K H p ys) ∧ ∀ l, H l = none → Q (.ref l) (upd H l (.lst ys))
theorem c_lst {X : Cx} : CallR X (.type "list") (rLst X.K) := call_list_of
def rIsi' (K : PySem.W.Frag) : List V → Hp → VK → Prop := rIsi K
theorem c_isi {X : Cx} : CallR X (.builtin "isinstance") (rIsi X.K) := call_isi

/-! ### what they come to over data -/
def atD (ds : List Dt) (i : Int) : Option Dt := (ixN ds.length i).bind fun j => ds[j]?
theorem atD_nat {ds : List Dt} {j : Nat} {d : Dt} (h : ds[j]? = some d) : atD ds (j : Int) = some d := by
  unfold atD
  rw [ixN_nat (List.getElem?_eq_some_iff.mp h).1]
  exact h
theorem Da.at {K : PySem.W.Frag} {G : Hp} {vs : List V} {ds : List Dt} {i : Int} {d : Dt} (r : Da K G vs ds) (h : atD ds i = some d) : ∃ v, atI vs i = some v ∧ Dr K G v d := by
  unfold atD at h
  unfold atI
  rw [r.length]
  cases e : ixN ds.length i with
  | none => rw [e] at h; cases h
  | some j => rw [e] at h; exact r.get h
section
variable {K : PySem.W.Frag} {J : Jm} {env : List Sl} {R : Dt → Prop} {te ti : TE}
/-- an int operation with a condition, an int answer -/
theorem o2_I {C : Int → Int → Prop} {f : Int → Int → Int} {i j : Int} (hc : C i j) (h : R (.int (f i j))) : O2 K J (rI C fun i j => .int (f i j)) (.int i) (.int j) R := fun G H vx vy w rx ry Q q => by
  cases rx; cases ry
  exact ⟨i, j, rfl, rfl, hc, q _ _ G H w.nx (.int _) h⟩
theorem cdiv_ok {i j : Int} (h : 0 < j) (h2 : j < 1073741824) : CDiv i j := ⟨h, h2⟩
theorem cpow_ok {i j : Int} (h : 0 ≤ j) (h2 : j ≤ 1000000) (h3 : i.natAbs < 2 ^ 64) : CPow i j := ⟨h, h2, h3⟩
theorem cmul_l {i j : Int} (h : -(2 ^ 64) < i) (h2 : i < 2 ^ 64) : CMul i j := .inl ⟨h, h2⟩
theorem cmul_r {i j : Int} (h : -(2 ^ 64) < j) (h2 : j < 2 ^ 64) : CMul i j := .inr ⟨h, h2⟩
theorem o2_I0 {f : Int → Int → Int} {i j : Int} (h : R (.int (f i j))) : O2 K J (rI0 fun i j => .int (f i j)) (.int i) (.int j) R := fun G H vx vy w rx ry Q q => by
  cases rx; cases ry
  exact ⟨i, j, rfl, rfl, q _ _ G H w.nx (.int _) h⟩
theorem o2_B0 {f : Int → Int → Bool} {i j : Int} (h : R (.bl (f i j))) : O2 K J (rI0 fun i j => .bl (f i j)) (.int i) (.int j) R := fun G H vx vy w rx ry Q q => by
  cases rx; cases ry
  exact ⟨i, j, rfl, rfl, q _ _ G H w.nx (.bl _) h⟩
theorem o1_I {f : Int → Int} {i : Int} (h : R (.int (f i))) : O1 K J (rU fun i => .int (f i)) (.int i) R := fun G H vx w rx Q q => by
  cases rx
  exact ⟨i, rfl, q _ _ G H w.nx (.int _) h⟩
theorem o2_eqI {i j : Int} (h : R (.bl (decide (i = j)))) : O2 K J rEq (.int i) (.int j) R := fun G H vx vy w rx ry Q q => by
  cases rx; cases ry
  refine ⟨rfl, q _ _ G H w.nx (.bl _) ?_⟩
  rw [show decide (V.int i = V.int j) = decide (i = j) by simp]
  exact h
theorem o2_neI {i j : Int} (h : R (.bl (!decide (i = j)))) : O2 K J rNe (.int i) (.int j) R := fun G H vx vy w rx ry Q q => by
  cases rx; cases ry
  refine ⟨rfl, q _ _ G H w.nx (.bl _) ?_⟩
  rw [show decide (V.int i = V.int j) = decide (i = j) by simp]
  exact h
theorem o2_eqB {i j : Bool} (h : R (.bl (decide (i = j)))) : O2 K J rEq (.bl i) (.bl j) R := fun G H vx vy w rx ry Q q => by
  cases rx; cases ry
  refine ⟨rfl, q _ _ G H w.nx (.bl _) ?_⟩
  rw [show decide (V.bl i = V.bl j) = decide (i = j) by simp]
  exact h
theorem o2_neB {i j : Bool} (h : R (.bl (!decide (i = j)))) : O2 K J rNe (.bl i) (.bl j) R := fun G H vx vy w rx ry Q q => by
  cases rx; cases ry
  refine ⟨rfl, q _ _ G H w.nx (.bl _) ?_⟩
  rw [show decide (V.bl i = V.bl j) = decide (i = j) by simp]
  exact h
theorem o2_eqS {i j : Str} (h : R (.bl (decide (i = j)))) : O2 K J rEq (.str i) (.str j) R := fun G H vx vy w rx ry Q q => by
  cases rx; cases ry
  refine ⟨rfl, q _ _ G H w.nx (.bl _) ?_⟩
  rw [show decide (V.str i = V.str j) = decide (i = j) by simp]
  exact h
theorem o2_ixL {ds : List Dt} {i : Int} {d : Dt} (h : atD ds i = some d) (k : R d) : O2 K J (rIx K) (.lst ds) (.int i) R := fun G H vx vy w rx ry Q q => by
  cases ry
  cases rx with
  | lst s t =>
    obtain ⟨v, h1, h2⟩ := t.at h
    exact .inl ⟨_, _, i, v, rfl, rfl, same_l w.gh s, h1, q v d G H w.nx h2 k⟩
theorem o2_ixT {ds : List Dt} {i : Int} {d : Dt} (h : atD ds i = some d) (k : R d) : O2 K J (rIx K) (.tup ds) (.int i) R := fun G H vx vy w rx ry Q q => by
  cases ry
  cases rx with
  | tup s t =>
    obtain ⟨v, h1, h2⟩ := t.at h
    exact .inr (.inl ⟨_, _, i, v, rfl, rfl, same_t w.gh s, h1, q v d G H w.nx h2 k⟩)
theorem ev_ixM {i : Nat} {xs : List Dt} (hi : env[i]? = some (.ml xs)) (h : Ev K J env ti fun k => ∃ (j : Int) (d : Dt), k = .int j ∧ atD xs j = some d ∧ R d) : Ev K J env (tOp (rIx K) (tVar i) ti) R := fun B G H σ w E Q q => by
  obtain ⟨p, vs, h1, hH, r, hm, hG⟩ := E.lst hi
  refine ⟨.ref p, h1, h B G H σ w E _ fun v k G1 H1 n1 rk ⟨j, d, e, hj, x⟩ => ?_⟩
  subst e
  cases rk
  obtain ⟨u, h3, h4⟩ := (r.mono n1.gg).at hj
  exact .inl ⟨p, vs, j, u, rfl, rfl, .inl (.inl (n1.kp p _ hH hm)), h3, q u d G1 H1 n1 h4 x⟩
theorem oc_lenL {ds : List Dt} (h : R (.int (ds.length : Int))) : Oc K J (rLen K) [.lst ds] R := fun G H vs w rs Q q => by
  cases rs with
  | cons r1 r2 =>
    cases r2
    cases r1 with
    | lst s t =>
      refine ⟨_, ds.length, rfl, .inl ⟨_, same_l w.gh s, t.length.symm⟩, q _ _ G H w.nx (.int _) h⟩
theorem oc_lenT {ds : List Dt} (h : R (.int (ds.length : Int))) : Oc K J (rLen K) [.tup ds] R := fun G H vs w rs Q q => by
  cases rs with
  | cons r1 r2 =>
    cases r2
    cases r1 with
    | tup s t =>
      refine ⟨_, ds.length, rfl, .inr ⟨_, same_t w.gh s, t.length.symm⟩, q _ _ G H w.nx (.int _) h⟩
theorem ev_lenM {i : Nat} {xs : List Dt} (hi : env[i]? = some (.ml xs)) (h : R (.int (xs.length : Int))) : Ev K J env (tCB (rLen K) (tCons (tVar i) tNil)) R := fun B G H σ w E Q q => by
  obtain ⟨p, vs, h1, hH, r, hm, hG⟩ := E.lst hi
  exact ⟨.ref p, h1, _, xs.length, rfl, .inl ⟨_, .inl (.inl hH), r.length.symm⟩, q _ _ G H w.nx (.int _) h⟩
theorem oc_int {i : Int} (h : R (.int i)) : Oc K J rInt [.int i] R := fun G H vs w rs Q q => by
  cases rs with
  | cons r1 r2 =>
    cases r2
    cases r1
    exact .inl ⟨i, rfl, q _ _ G H w.nx (.int _) h⟩
theorem oc_intB {b : Bool} (h : R (.int (if b then 1 else 0))) : Oc K J rInt [.bl b] R := fun G H vs w rs Q q => by
  cases rs with
  | cons r1 r2 =>
    cases r2
    cases r1
    exact .inr ⟨b, rfl, q _ _ G H w.nx (.int _) h⟩
theorem oc_abs {i : Int} (h : R (.int (if i < 0 then -i else i))) : Oc K J rAbs [.int i] R := fun G H vs w rs Q q => by
  cases rs with
  | cons r1 r2 =>
    cases r2
    cases r1
    exact ⟨i, rfl, q _ _ G H w.nx (.int _) h⟩
theorem oc_max {i j : Int} (h : R (.int (if j > i then j else i))) : Oc K J rMax [.int i, .int j] R := fun G H vs w rs Q q => by
  cases rs with
  | cons r1 r2 =>
    cases r2 with
    | cons r2 r3 =>
      cases r3
      cases r1; cases r2
      exact ⟨i, j, rfl, q _ _ G H w.nx (.int _) h⟩
theorem oc_min {i j : Int} (h : R (.int (if j < i then j else i))) : Oc K J rMin [.int i, .int j] R := fun G H vs w rs Q q => by
  cases rs with
  | cons r1 r2 =>
    cases r2 with
    | cons r2 r3 =>
      cases r3
      cases r1; cases r2
      exact ⟨i, j, rfl, q _ _ G H w.nx (.int _) h⟩
theorem oc_tupL {ds : List Dt} (h : R (.tup ds)) : Oc K J (rTup K) [.lst ds] R := fun G H vs w rs Q q => by
  cases rs with
  | cons r1 r2 =>
    cases r2
    cases r1 with
    | @lst a xs ds s t =>
      refine ⟨_, _, rfl, .inl ⟨same_l w.gh s, fun l hl => ?_⟩⟩
      have n := w.new hl (.tup xs)
      exact q _ _ _ _ n (.tup (.inl (.inl upd_same)) (t.mono n.gg)) h
theorem oc_tupT {ds : List Dt} (h : R (.tup ds)) : Oc K J (rTup K) [.tup ds] R := fun G H vs w rs Q q => by
  cases rs with
  | cons r1 r2 =>
    cases r2
    cases r1 with
    | tup s t => exact ⟨_, _, rfl, .inr ⟨same_t w.gh s, q _ _ G H w.nx (.tup s t) h⟩⟩
theorem ev_tupM {i : Nat} {xs : List Dt} (hi : env[i]? = some (.ml xs)) (h : R (.tup xs)) : Ev K J env (tCB (rTup K) (tCons (tVar i) tNil)) R := fun B G H σ w E Q q => by
  obtain ⟨p, vs, h1, hH, r, hm, hG⟩ := E.lst hi
  refine ⟨.ref p, h1, _, _, rfl, .inl ⟨.inl (.inl hH), fun l hl => ?_⟩⟩
  have n := w.new hl (.tup vs)
  exact q _ _ _ _ n (.tup (.inl (.inl upd_same)) (r.mono n.gg)) h
/-- list(x), a new list -/
theorem em_list {R : List Dt → Prop} (h : Ev K J env te fun x => ∃ ds, (x = .lst ds ∨ x = .tup ds) ∧ R ds) : Em K J env (tCB (rLst K) (tCons te tNil)) R := fun B G H σ w E Q q =>
  h B G H σ w E _ fun v x G1 H1 n1 r ⟨ds, e, k⟩ => by
    have w1 := n1.wf w
    have fin : ∀ (a : Addr) (vs : List V), v = .ref a → (SqL K G1 a vs ∨ SqT K G1 a vs) → Da K G1 vs ds → tNil σ H1 fun xs H2 => rLst K (v :: xs) H2 Q := fun a vs ev hs t => by
      subst ev
      refine ⟨a, vs, rfl, hs.imp (same_l w1.gh) (same_t w1.gh), fun l hl => q l vs ds G1 _ (n1.trans (w1.newM hl _)) (w1.free hl) ?_ upd_same t k⟩
      cases z : H l with
      | none => rfl
      | some o => exact absurd hl (n1.th l (by rw [z]; simp))
    rcases e with e | e
    · subst e
      cases r with
      | lst s t => exact fin _ _ rfl (.inl s) t
    · subst e
      cases r with
      | tup s t => exact fin _ _ rfl (.inr s) t
/-! in -/
def flatD : Dt → Bool
  | .non => true | .bl _ => true | .int _ => true | .str _ => true | _ => false
def eqD : Dt → Dt → Bool
  | .non, .non => true
  | .bl a, .bl b => a == b
  | .bl a, .int b => (if a then 1 else 0) == b
  | .int a, .bl b => a == (if b then 1 else 0)
  | .int a, .int b => a == b
  | .str a, .str b => a == b
  | _, _ => false
theorem flat_of {G : Hp} {v : V} {d : Dt} (r : Dr K G v d) (h : flatD d = true) : flatV v = true := by
  cases r <;> first | rfl | cases h
theorem eq_of {G G' : Hp} {v u : V} {d e : Dt} (r : Dr K G v d) (s : Dr K G' u e) : eqV v u = eqD d e := by
  cases r <;> cases s <;> rfl
def inD (x : Dt) (ds : List Dt) : Bool := ds.any fun y => eqD y x
theorem in_of {G G' : Hp} {v : V} {x : Dt} (s : Dr K G' v x) : ∀ {vs : List V} {ds : List Dt}, Da K G vs ds → inV v vs = inD x ds
  | _, _, .nil => rfl
  | _, _, .cons r t => by
    have := in_of s t
    unfold inV inD at this ⊢
    rw [List.any_cons, List.any_cons, this, eq_of r s]
theorem all_of {G : Hp} : ∀ {vs : List V} {ds : List Dt}, Da K G vs ds → ds.all flatD = true → vs.all flatV = true
  | _, _, .nil, _ => rfl
  | _, _, .cons r t, h => by
    rw [List.all_cons, Bool.and_eq_true] at h ⊢
    exact ⟨flat_of r h.1, all_of t h.2⟩
theorem o2_inT {x : Dt} {ds : List Dt} {neg : Bool} (hx : flatD x = true) (hs : ds.all flatD = true) (h : R (.bl (if neg then !inD x ds else inD x ds))) : O2 K J (rIn K neg) x (.tup ds) R := fun G H vx vy w rx ry Q q => by
  cases ry with
  | tup s t =>
    refine ⟨_, _, rfl, .inr (same_t w.gh s), flat_of rx hx, all_of t hs, q _ _ G H w.nx (.bl _) ?_⟩
    rw [in_of rx t]
    exact h
theorem o2_inL {x : Dt} {ds : List Dt} {neg : Bool} (hx : flatD x = true) (hs : ds.all flatD = true) (h : R (.bl (if neg then !inD x ds else inD x ds))) : O2 K J (rIn K neg) x (.lst ds) R := fun G H vx vy w rx ry Q q => by
  cases ry with
  | lst s t =>
    refine ⟨_, _, rfl, .inl (same_l w.gh s), flat_of rx hx, all_of t hs, q _ _ G H w.nx (.bl _) ?_⟩
    rw [in_of rx t]
    exact h
theorem ev_inM {i : Nat} {xs : List Dt} {neg : Bool} (hi : env[i]? = some (.ml xs)) (hs : xs.all flatD = true) (h : Ev K J env te fun x => flatD x = true ∧ R (.bl (if neg then !inD x xs else inD x xs))) : Ev K J env (tOp (rIn K neg) te (tVar i)) R := fun B G H σ w E Q q =>
  h B G H σ w E _ fun v x G1 H1 n1 r ⟨hx, k⟩ => by
    obtain ⟨p, vs, h1, hH, t, hm, hG⟩ := (E.mono n1).lst hi
    refine ⟨.ref p, h1, p, vs, rfl, .inl (.inl (.inl hH)), flat_of r hx, all_of t hs, q _ _ G1 H1 n1 (.bl _) ?_⟩
    rw [in_of r t]
    exact k
/-! None, truth -/
def rIsN : R2 := fun x y H Q => y = .non ∧ Q (.bl (decide (x = .non))) H
theorem op_is_none {X : Cx} : OpR X (compareOp .Is) rIsN := op_isN
def rNotN : R2 := fun x y H Q => y = .non ∧ Q (.bl (!decide (x = .non))) H
theorem op_not_none {X : Cx} : OpR X (compareOp .IsNot) rNotN := op_notN
def isNo : Dt → Bool | .non => true | _ => false
theorem no_of {G : Hp} {v : V} {d : Dt} (r : Dr K G v d) : decide (v = .non) = isNo d := by
  cases r <;> simp [isNo]
theorem o2_isN {x : Dt} (h : R (.bl (isNo x))) : O2 K J rIsN x .non R := fun G H vx vy w rx ry Q q => by
  cases ry
  refine ⟨rfl, q _ _ G H w.nx (.bl _) ?_⟩
  rw [no_of rx]; exact h
theorem o2_notN {x : Dt} (h : R (.bl (!isNo x))) : O2 K J rNotN x .non R := fun G H vx vy w rx ry Q q => by
  cases ry
  refine ⟨rfl, q _ _ G H w.nx (.bl _) ?_⟩
  rw [no_of rx]; exact h
/-! isinstance of a built-in class -/
def tyD : Dt → Option String
  | .non => some "NoneType" | .bl _ => some "bool" | .int _ => some "int" | .str _ => some "str" | .lst _ => some "list" | .tup _ => some "tuple" | .ob _ _ => none | .ptr _ => none
theorem ty_of {G H : Hp} {v : V} {d : Dt} {t : String} (r : Dr K G v d) (sg : Same G H) (h : tyD d = some t) : TyX K H v (.type t) := by
  cases r with
  | non => cases h; exact .base .non
  | bl b => cases h; exact .base (.bl b)
  | int b => cases h; exact .base (.int b)
  | str b => cases h; exact .base (.str b)
  | lst s t =>
    cases h
    rcases s with (s | ⟨o, s⟩) | ⟨o, its, n, h1, h2, _⟩
    · exact .base (.lst (sg _ _ s))
    · exact .base (.frz (sg _ _ s))
    · exact .kList h1 h2
  | tup s t =>
    cases h
    rcases s with (s | ⟨o, s⟩) | ⟨o, its, n, h1, h2, _⟩
    · exact .base (.tup (sg _ _ s))
    · exact .fTuple (sg _ _ s)
    · exact .kTuple h1 h2
  | ob s t => cases h
  | ptr a => cases h
/-- isinstance's answer for data and a built-in class -/
def isiD (d : Dt) (c : String) : Bool := match d with
  | .non => c == "NoneType" | .bl _ => c == "bool" || c == "int" | .int _ => c == "int" | .str _ => c == "str" | .lst _ => c == "list" | .tup _ => c == "tuple" | .ob _ _ => false | .ptr _ => false
theorem ev_isi {c : String} (h : Ev K J env te fun x => (∃ t, tyD x = some t ∧ PySem.W.kitOne K (.type t) (.type c) = some (isiD x c)) ∧ R (.bl (isiD x c))) : Ev K J env (tCB (rIsi K) (tCons te (tCons (tC (.ty c)) tNil))) R := fun B G H σ w E Q q =>
  h B G H σ w E _ fun v x G1 H1 n1 r ⟨⟨t, ht, hk⟩, k⟩ => ⟨v, .ty c, .type t, .type c, _, rfl, .ty c, ty_of r n1.gh ht, hk, q _ _ G1 H1 n1 (.bl _) k⟩
def noOb : Dt → Bool | .ob _ _ => false | .ptr _ => false | _ => true
theorem ev_isiB {c : String} (hc : c = "tuple" ∨ c = "list" ∨ c = "int" ∨ c = "bool" ∨ c = "str") (h : Ev K J env te fun x => noOb x = true ∧ R (.bl (isiD x c))) : Ev K J env (tCB (rIsi K) (tCons te (tCons (tC (.ty c)) tNil))) R :=
  ev_isi (h.imp fun x ⟨hn, k⟩ => ⟨(by
    rcases hc with rfl | rfl | rfl | rfl | rfl <;> (cases x <;> first | exact ⟨_, rfl, rfl⟩ | (cases hn))), k⟩)
end
end Mv

set_option Elab.async false
set_option linter.all false
set_option maxRecDepth 100000
set_option maxHeartbeats 4000000
namespace Mv
open PySem PySem.Spec PyProof.Rows L2
/-! ### enumerate, zip -/
def pairD (a b : Dt) : Dt := .tup [a, b]
def enumD (ds : List Dt) : List Dt := ds.mapIdx fun i d => pairD (.int (i : Int)) d
theorem enumD_get {ds : List Dt} {i : Nat} {d : Dt} (h : ds[i]? = some d) : (enumD ds)[i]? = some (pairD (.int (i : Int)) d) := by
  unfold enumD
  rw [List.getElem?_mapIdx, h]
  rfl
theorem enumD_len (ds : List Dt) : (enumD ds).length = ds.length := by unfold enumD; simp
section
variable {K : PySem.W.Frag} {J : Jm} {env : List Sl} {ta : TA} {te : TE}
/-- a walk of new pairs -/
theorem wk_pairs {G : Hp} {I : It} {n : Nat} {Gd : Hp → Prop} {f g : Nat → Option V} {es : List Dt} (wl : Walk I n Gd (YPair f g)) (hl : es.length = n) (hG : ∀ G1 H1, Same G G1 → Same G1 H1 → Gd H1)
    (hv : ∀ i x y, f i = some x → g i = some y → ∃ a b, es[i]? = some (pairD a b) ∧ Dr K G x a ∧ Dr K G y b) : Wk K J G I es := by
  refine ⟨fun i G1 H1 sg w hi => wl.goes i H1 (by omega) (hG G1 H1 sg w.gh), fun G1 H1 sg w => hl ▸ wl.stops H1 (hG G1 H1 sg w.gh), fun i G1 H1 x H2 sg w hi y => ?_⟩
  obtain ⟨T, u, v, rfl, hT, rfl, h1, h2⟩ := wl.yields i H1 x H2 (by omega) (hG G1 H1 sg w.gh) y
  obtain ⟨a, b, h3, ra, rb⟩ := hv i u v h1 h2
  have n2 := w.new hT (.tup [u, v])
  exact ⟨_, _, n2, h3, .tup (.inl (.inl upd_same)) (.cons ((ra.mono sg).mono n2.gg) (.cons ((rb.mono sg).mono n2.gg) .nil))⟩
theorem walk_enumT {a : Addr} {xs : List V} : Walk (IteT K a) xs.length (fun H => SqT K H a xs) (YPair (fun i => some (.int (i : Nat))) (fun i => xs[i]?)) := by
  refine ⟨fun i _ hi q => ⟨xs, xs[i], q, by simp [hi]⟩, fun _ q => ⟨xs, q, Nat.le_refl _⟩, fun i H v H' _ q y => ?_⟩
  obtain ⟨T, x, h1, h2, h3, h4⟩ := y
  exact ⟨T, .int (i : Nat), x, h1, h2, h3, rfl, h4 xs q⟩
theorem ei_enum {R : List Dt → Prop} (h : Ev K J env te fun x => ∃ ds, (x = .lst ds ∨ x = .tup ds) ∧ R (enumD ds)) : Ei K J env (iEnumA K (tCons te tNil)) R := fun B G H σ w E Q q =>
  h B G H σ w E _ fun v x G1 H1 n1 r ⟨ds, e, k⟩ => by
    have fin : ∀ {vs : List V}, Da K G1 vs ds → ∀ (i : Nat) (x y : V), (some (V.int (i : Nat)) = some x) → vs[i]? = some y → ∃ a b, (enumD ds)[i]? = some (pairD a b) ∧ Dr K G1 x a ∧ Dr K G1 y b := fun t i x y h1 h2 => by
      cases h1
      obtain ⟨d, h3, h4⟩ := t.get' h2
      exact ⟨_, _, enumD_get h3, .int _, h4⟩
    rcases e with e | e
    · subst e
      cases r with
      | @lst a vs ds s t => exact ⟨a, vs, rfl, .inl ⟨same_l n1.gh s, q _ _ G1 H1 n1 (wk_pairs walk_enum (by rw [enumD_len, t.length]) (fun G2 H2 s1 s2 => same_l (s1.trans s2) s) (fin t)) k⟩⟩
    · subst e
      cases r with
      | @tup a vs ds s t => exact ⟨a, vs, rfl, .inr ⟨same_t n1.gh s, q _ _ G1 H1 n1 (wk_pairs walk_enumT (by rw [enumD_len, t.length]) (fun G2 H2 s1 s2 => same_t (s1.trans s2) s) (fin t)) k⟩⟩
end
/-! ### a def by its body -/
def startE (N : List Str) (ss : List Sl) : List Sl := ss ++ List.replicate (N.length - ss.length) .no
theorem SvA.length {K : PySem.W.Frag} {J : Jm} {G : Hp} : ∀ {vs : List V} {ss : List Sl}, SvA K J G vs ss → vs.length = ss.length
  | _, _, .nil => rfl
  | _, _, .cons _ t => by rw [List.length_cons, List.length_cons, SvA.length t]
theorem SvA.get {K : PySem.W.Frag} {J : Jm} {G : Hp} : ∀ {vs : List V} {ss : List Sl} {i : Nat} {s : Sl}, SvA K J G vs ss → ss[i]? = some s → ∃ v, vs[i]? = some v ∧ Sv1 K J G v s
  | _, _, _, _, .nil, h => by simp at h
  | _, _, 0, _, .cons r _, h => by simp at h; subst h; exact ⟨_, rfl, r⟩
  | _, _, i + 1, _, .cons _ t, h => by
    obtain ⟨v, h1, h2⟩ := SvA.get (i := i) t (by simpa using h)
    exact ⟨v, by simpa using h1, h2⟩
theorem en_start {K : PySem.W.Frag} {J : Jm} {G H : Hp} {N : List Str} {vs : List V} {ss : List Sl} (r : SvA K J G vs ss) : En K J H G H (L2.start N vs) (startE N ss) := by
  have hl := r.length
  have ns : ∀ (i : Nat) (xs : List Dt), (startE N ss)[i]? ≠ some (.ml xs) := fun i xs h => by
    unfold startE at h
    by_cases hi : i < ss.length
    · rw [List.getElem?_append_left hi] at h
      obtain ⟨v, _, z⟩ := r.get h
      exact z
    · rw [List.getElem?_append_right (by omega), List.getElem?_replicate] at h
      split at h <;> cases h
  refine ⟨by simp [L2.start, startE, hl], fun i s h => ?_, fun i j p _ ⟨xs, h⟩ _ _ _ => ns i xs h⟩
  unfold startE at h
  unfold L2.start
  by_cases hi : i < ss.length
  · rw [List.getElem?_append_left hi] at h
    obtain ⟨v, h1, h2⟩ := r.get h
    refine ⟨some v, by rw [List.getElem?_append_left (by simp; omega), List.getElem?_map, h1]; rfl, ?_⟩
    cases s with
    | no => trivial
    | d x => exact ⟨v, rfl, h2⟩
    | ml xs => cases h2
    | xv a d fs => cases h2
    | mi q C fs => cases h2
    | md kvs => cases h2
    | hand => obtain ⟨hh, d, e1, e2⟩ := h2; exact ⟨hh, d, by rw [e1], e2⟩
    | hnd => obtain ⟨hh, e1, e2⟩ := h2; exact ⟨hh, by rw [e1], e2⟩
    | tap => obtain ⟨hh, cc, e1, e2⟩ := h2; exact ⟨hh, cc, by rw [e1], e2⟩
  · rw [List.getElem?_append_right (by omega), List.getElem?_replicate] at h
    split at h
    · rename_i hlt
      cases h
      exact ⟨none, by rw [List.getElem?_append_right (by simp; omega), List.getElem?_replicate, if_pos (by simp; omega)], trivial⟩
    · cases h
section
variable {P : Program} {w : World} {K : PySem.W.Frag} {mg : Str → Option Value} {base : Heap}
theorem ok_ct {x qual : Str} {st : Stmt} {f : Addr} {fd : FuncData} {N ps : List Str} {k : Nat} {W : Fw} (F : L2.Fun K x qual st f fd) (S : FnScope N ps (defScope st)) (hn : ∀ ss P, W ss P → ss.length = ps.length)
    (hb : ∀ (cdv : Value) (A : Around) (outer : List PySem.Env) (s : Shared) (H : Hp) (E : XK), Room k (A.deeper (envOfC qual (defScope st) s.heap.objs.size f cdv)) →
      ∃ t, PSs (cxOf CX0 P w K mg base N qual (defScope st) f cdv A outer s H E).nox (defBody st) t ∧ ∀ J ss P, W ss P → Sv K J (startE N ss) t { nx := fun _ => P .non, rt := P }) : FnOk P w K mg base CX0 (k + 1) f fd ps (Ct K W) := by
  refine F.ok S (fun vs H Q E h => ?_) (fun cdv A outer s H vs Q E hr h => ?_)
  · obtain ⟨J, G, ss, P, wf, sv, hW, _⟩ := h
    rw [sv.length, hn ss P hW]
  · obtain ⟨J, G, ss, P, wf, sv, hW, q⟩ := h
    obtain ⟨t, hp, ht⟩ := hb cdv A outer s H E hr
    refine ⟨t, hp, ?_⟩
    exact ht J ss P hW G H G H (L2.start N vs) ⟨wf, wf.nx, en_start sv⟩ _ (fun e G' H' σ' a x => q .non .non G' H' a.nx .non x) (fun _ _ _ _ _ x => x.elim) (fun _ _ _ _ _ x => x.elim) (fun v d G' H' n r x => q v d G' H' n r x) (fun _ _ _ _ _ _ _ _ _ _ x => x.elim) (fun _ _ _ _ _ _ _ _ _ _ _ x => x.elim)
theorem ok_ctm {x qual : Str} {st : Stmt} {f : Addr} {fd : FuncData} {N ps : List Str} {k : Nat} {W : FwM} (F : L2.Fun K x qual st f fd) (S : FnScope N ps (defScope st)) (hn : ∀ ss P, W ss P → ss.length = ps.length)
    (hb : ∀ (cdv : Value) (A : Around) (outer : List PySem.Env) (s : Shared) (H : Hp) (E : XK), Room k (A.deeper (envOfC qual (defScope st) s.heap.objs.size f cdv)) →
      ∃ t, PSs (cxOf CX0 P w K mg base N qual (defScope st) f cdv A outer s H E).nox (defBody st) t ∧ ∀ J ss P, W ss P → Sv K J (startE N ss) t { nx := fun _ => False, rt := fun _ => False, rm := P }) : FnOk P w K mg base CX0 (k + 1) f fd ps (CtM K W) := by
  refine F.ok S (fun vs H Q E h => ?_) (fun cdv A outer s H vs Q E hr h => ?_)
  · obtain ⟨J, G, ss, P, wf, sv, hW, _⟩ := h
    rw [sv.length, hn ss P hW]
  · obtain ⟨J, G, ss, P, wf, sv, hW, q⟩ := h
    obtain ⟨t, hp, ht⟩ := hb cdv A outer s H E hr
    refine ⟨t, hp, ?_⟩
    exact ht J ss P hW G H G H (L2.start N vs) ⟨wf, wf.nx, en_start sv⟩ _ (fun e G' H' σ' a x => x.elim) (fun _ _ _ _ _ x => x.elim) (fun _ _ _ _ _ x => x.elim) (fun _ _ _ _ _ _ x => x.elim) (fun p ws ds G' H' n a b c r x => q p ws ds G' H' n a b c r x) (fun _ _ _ _ _ _ _ _ _ _ _ x => x.elim)
end
end Mv
namespace Mv
open PySem PySem.Spec PyProof.Rows L2
/-! ### walking a list or a tuple -/
def iSeq (K : PySem.W.Frag) (tl : TE) : TI := fun σ H R => tl σ H fun x H1 => ∃ a, x = .ref a ∧ ((∃ xs, SqL K H1 a xs ∧ R (Itl K a) H1) ∨ ∃ xs, SqT K H1 a xs ∧ R (Itt K a) H1)
theorem pi_seq {X : Cx} {tg l : Expr} {tl : TE} (hl : PE X l tl) : PI X tg l (iSeq X.K tl) := by
  refine ⟨fun pins s σ H R I h => thn (hl.run pins s σ H _ I h) fun v s1 ⟨x, H1, I1, r1, a, e, q1⟩ => ?_⟩
  subst e
  cases r1
  have fr : ∀ b, b ∈ [s1.heap.objs.size] → FpOk X pins H1 b := fun b hb => by
    have e : b = s1.heap.objs.size := by simpa using hb
    exact e ▸ I1.fpOk (Nat.le_refl _) (I1.hok.fresh (Nat.le_refl _))
  rcases q1 with ⟨xs, hq, q⟩ | ⟨xs, hq, q⟩
  · obtain ⟨its, rv, p, hz⟩ := I1.list hq
    exact wpAny_pyIter_list p.isList ⟨_, [s1.heap.objs.size], _, _, H1, rfl, I1.kept (t' := s1.toks) fun b o e => Heap.get?_push_of_some _ e, turn_list a _, ⟨_, Heap.get?_push_size _ rfl, rfl, rfl⟩, fr, q⟩
  · obtain ⟨its, rv, p, hz⟩ := I1.tuple hq
    have hp : s1.heap.IsTuple a its.toArray := p
    exact wpAny_pyIter_tuple hp ⟨_, [s1.heap.objs.size], _, _, H1, rfl, I1.kept (t' := s1.toks) fun b o e => Heap.get?_push_of_some _ e, turn_tuple a _, ⟨_, Heap.get?_push_size _ rfl, rfl, rfl⟩, fr, q⟩
theorem ei_seq {K : PySem.W.Frag} {J : Jm} {env : List Sl} {tl : TE} {R : List Dt → Prop} (h : Ev K J env tl fun x => ∃ ds, (x = .lst ds ∨ x = .tup ds) ∧ R ds) : Ei K J env (iSeq K tl) R := fun B G H σ w E Q q =>
  h B G H σ w E _ fun v x G1 H1 n1 r ⟨ds, e, k⟩ => by
    rcases e with e | e
    · subst e
      cases r with
      | lst s t => exact ⟨_, rfl, .inl ⟨_, same_l n1.gh s, q _ ds G1 H1 n1 (wk_list s t) k⟩⟩
    · subst e
      cases r with
      | tup s t => exact ⟨_, rfl, .inr ⟨_, same_t n1.gh s, q _ ds G1 H1 n1 (wk_tup s t) k⟩⟩
/-! ### a def that may be called -/
structure Cal (P : Program) (w : World) (K : PySem.W.Frag) (mg : Str → Option Value) (base : Heap) (k : Nat) (x : Str) (ps : List Str) (sp : Sp) : Prop where
  ex : ∃ f fd, FnOk P w K mg base CX0 k f fd ps sp ∧ mg x = some (.ref f) ∧ PySem.W.keepIn K (.ref f) = true ∧ Binds K fd ps []
theorem Cal.mono {P : Program} {w : World} {K : PySem.W.Frag} {mg : Str → Option Value} {base : Heap} {j k : Nat} {x : Str} {ps : List Str} {sp : Sp} (C : Cal P w K mg base j x ps sp) (h : j ≤ k) : Cal P w K mg base k x ps sp := by
  obtain ⟨f, fd, F, g, e, b⟩ := C.ex
  exact ⟨f, fd, F.mono h, g, e, b⟩
theorem pe_callC {X : Cx} {k : Nat} {x : Str} {ps : List Str} {sp : Sp} {p pos : Pos} {e : Expr} {es : List Expr} {t : TA} (C : Cal X.prog X.w X.K X.mg X.base k x ps sp) (hr : Room k X.A) (hg : Gl X x)
    (ha : PA X (e :: es) t) (hdb : (x == ("__debug__" : Str)) = false := by decide) (he : starEach (e :: es) X.env = (false, eval e X.env) :: starEach es X.env := by rfl) (hpl : (backTo pos (starEach es X.env)).any (·.1) = false := by rfl) :
    PE X (.Call (.Name x p) (e :: es) [] pos) (tCall sp [] E0 t) := by
  obtain ⟨f, fd, F, g, ke, b⟩ := C.ex
  exact pe_call F hr hg g ke b .nil pass0 ha hdb he hpl
/-! ### the rules with the written part named, so that a block's term hangs on nothing of the block -/
section
variable (K : PySem.W.Frag) {X : Cx}
theorem ix_seqK (h : X.K = K := by rfl) : IxR X (rIx K) := h ▸ ix_seq
theorem c_lenK (h : X.K = K := by rfl) : CallR X (.builtin "len") (rLen K) := h ▸ c_len
theorem c_tupK (h : X.K = K := by rfl) : CallR X (.type "tuple") (rTup K) := h ▸ c_tup
theorem c_lstK (h : X.K = K := by rfl) : CallR X (.type "list") (rLst K) := h ▸ c_lst
theorem c_isiK (h : X.K = K := by rfl) : CallR X (.builtin "isinstance") (rIsi K) := h ▸ c_isi
theorem op_inK (h : X.K = K := by rfl) : OpR X (compareOp .In) (rIn K false) := h ▸ op_in_seq
theorem op_notInK (h : X.K = K := by rfl) : OpR X (compareOp .NotIn) (rIn K true) := h ▸ op_notIn_seq
theorem pi_seqK {tg l : Expr} {tl : TE} (hl : PE X l tl) (h : X.K = K := by rfl) : PI X tg l (iSeq K tl) := h ▸ pi_seq hl
theorem pi_enumK {e : Expr} {ta : TA} {p pos tpos : Pos} {elts : List Expr} {kk : Nat} (hg : Gl X "enumerate") (hm : X.mg "enumerate" = none) (ha : PA X [e] ta) (h : X.K = K := by rfl)
    (hs : starEach [e] X.env = [(false, eval e X.env)] := by rfl) : PI X (.Tuple elts kk tpos) (.Call (.Name "enumerate" p) [e] [] pos) (iEnumA K ta) := h ▸ pi_enumA hg hm ha hs
theorem pg_tupK (n : Nat) {es : List Expr} {k : Nat} {t : TGs} {pos : Pos} (hc : X.calm = true) (h : PGs X es t) (hk : X.K = K := by rfl)
    (hn : (assignEach es X.env).length = n := by rfl) (hst : (assignEach es X.env).findIdx? (·.1) = none := by rfl) : PG X (.Tuple es k pos) (gTup K n t) := hk ▸ pg_tup hc h hn hst
theorem pi_zipK {e e2 : Expr} {ta : TA} {p pos tpos : Pos} {elts : List Expr} {kk : Nat} (hg : Gl X "zip") (hm : X.mg "zip" = none) (ha : PA X [e, e2] ta) (hk : X.K = K := by rfl)
    (hs : starEach [e, e2] X.env = (false, eval e X.env) :: starEach [e2] X.env := by rfl) (hpl : (backTo pos (starEach [e2] X.env)).any (·.1) = false := by rfl) :
    PI X (.Tuple elts kk tpos) (.Call (.Name "zip" p) [e, e2] [] pos) (RZ.iZipA K ta) := hk ▸ RZ.pi_zipA hg hm ha hs hpl
end
end Mv

set_option Elab.async false
set_option linter.all false
set_option maxRecDepth 100000
set_option maxHeartbeats 4000000
namespace Mv
open PySem PySem.Spec PyProof.Rows L2
/-! ### what the laws' own helpers promise -/
def natsD (l : List Nat) : List Dt := l.map fun (v : Nat) => Dt.int (v : Int)
abbrev lotD (l : List Nat) : Dt := .tup (natsD l)
abbrev placD (ls : List (List Nat)) : Dt := .tup (ls.map lotD)
theorem bc_t {b : Bool} {A B : Prop} (hb : b = true) (h : A) : (b = true → A) ∧ (b = false → B) := ⟨fun _ => h, fun z => absurd (hb.symm.trans z) (by decide)⟩
theorem bc_f {b : Bool} {A B : Prop} (hb : b = false) (h : B) : (b = true → A) ∧ (b = false → B) := ⟨fun z => absurd (hb.symm.trans z) (by decide), fun _ => h⟩
structure LotOk (n : Nat) (l : List Nat) : Prop where
  ne : l ≠ []
  up : l.Pairwise (· < ·)
  lt : ∀ v ∈ l, v < n
def PlacOk (n : Nat) (ls : List (List Nat)) : Prop := ∀ l ∈ ls, LotOk n l
theorem natsD_len (l : List Nat) : (natsD l).length = l.length := by unfold natsD; simp
theorem flat_nats (l : List Nat) : (natsD l).all flatD = true := by
  unfold natsD
  rw [List.all_map]
  exact List.all_eq_true.mpr fun _ _ => rfl
theorem in_nats (v : Nat) (l : List Nat) : inD (.int (v : Int)) (natsD l) = decide (v ∈ l) := by
  unfold inD natsD
  rw [List.any_map]
  induction l with
  | nil => rfl
  | cons a r ih =>
    rw [List.any_cons, ih]
    show (((a : Int) == (v : Int)) || decide (v ∈ r)) = decide (v ∈ a :: r)
    rw [Bool.eq_iff_iff]
    have e : ((a : Int) = (v : Int)) ↔ (v = a) := by omega
    simp only [Bool.or_eq_true, beq_iff_eq, decide_eq_true_eq, List.mem_cons, e]
theorem ints_snoc {l : List Int} {x : Int} : l.map Dt.int ++ [Dt.int x] = (l ++ [x]).map Dt.int := by simp
theorem ints_set {l : List Int} {j : Nat} {x : Int} : (l.map Dt.int).set j (.int x) = (l.set j x).map Dt.int := by rw [List.map_set]
theorem range_at {n k : Nat} {d : Dt} (h : ((List.range ((n : Int)).toNat).map fun i => Dt.int ((i : Nat) : Int))[k]? = some d) : d = .int (k : Int) ∧ k < n := by
  have hk : k < n := by
    have := (List.getElem?_eq_some_iff.mp h).1
    simpa using this
  rw [List.getElem?_map, List.getElem?_range (by simpa using hk)] at h
  exact ⟨(Option.some.inj h).symm, hk⟩
def W_lot : Fw := fun ss P => ∃ n : Nat, ss = [.hand, .d (.int (n : Int))] ∧ 0 < n ∧ n ≤ 1000 ∧ ∀ l, LotOk n l → P (lotD l)
def W_draws : FwM := fun ss P => ∃ (ns : List Int) (m : Nat), ss = [.d (.lst (ns.map Dt.int)), .d (.int (m : Int))] ∧ m ≤ 1000 ∧ ns.length ≤ 63 ∧ ∀ ds : List Int, P (ds.map Dt.int)
def W_take : Fw := fun ss P => ∃ m : Int, ss = [.hand, .d (.int m)] ∧ 0 < m ∧ ∀ x : Int, 0 ≤ x → x < m → P (.int x)
/-- how deep data is; objects within are not compared -/
inductive Flat : Nat → Dt → Prop
  | non (n : Nat) : Flat n .non
  | bl (n : Nat) (b : Bool) : Flat n (.bl b)
  | int (n : Nat) (i : Int) : Flat n (.int i)
  | str (n : Nat) (s : Str) : Flat n (.str s)
  | lst (n : Nat) (ds : List Dt) (hz : ds.length ≤ 100000) (h : ∀ d, d ∈ ds → Flat n d) : Flat (n + 1) (.lst ds)
  | tup (n : Nat) (ds : List Dt) (hz : ds.length ≤ 100000) (h : ∀ d, d ∈ ds → Flat n d) : Flat (n + 1) (.tup ds)
/-- the same value, asked of two that are alike -/
def W_like (n : Nat) : Fw := fun ss P => ∃ x : Dt, ss = [.d x, .d x] ∧ Flat n x ∧ P (.bl true)
/-- the law: True, whatever the script -/
def spLaw (K : PySem.W.Frag) : Sp := fun vs H Q _ => ∃ (a : Addr) (ns : List Int), vs = [.ref a] ∧ SqL K H a (ns.map V.int) ∧ ns.length ≤ 63 ∧ ∀ H', Q (.bl true) H'
theorem spLaw_start {K : PySem.W.Frag} {H : Hp} {a : Addr} {ns : List Int} {E : XK} (hS : SqL K H a (ns.map V.int)) (hl : ns.length ≤ 63) : spLaw K [.ref a] H (fun v _ => v = .bl true) E := ⟨a, ns, rfl, hS, hl, fun _ => rfl⟩
section
variable {P : Program} {w : World} {K : PySem.W.Frag} {mg : Str → Option Value} {base : Heap}
/-- the law's own def -/
theorem ok_lw {x qual : Str} {st : Stmt} {f : Addr} {fd : FuncData} {N : List Str} {k : Nat} (F : L2.Fun K x qual st f fd) (S : FnScope N ["script"] (defScope st))
    (hb : ∀ (cdv : Value) (A : Around) (outer : List PySem.Env) (s : Shared) (H : Hp) (E : XK), Room k (A.deeper (envOfC qual (defScope st) s.heap.objs.size f cdv)) →
      ∃ t, PSs (cxOf CX0 P w K mg base N qual (defScope st) f cdv A outer s H E).nox (defBody st) t ∧ ∀ ns : List Int, ns.length ≤ 63 → Sv K J0 (startE N [.d (.lst (ns.map Dt.int))]) t { nx := fun _ => False, rt := fun d => d = .bl true }) :
    FnOk P w K mg base CX0 (k + 1) f fd ["script"] (spLaw K) := by
  refine F.ok S (fun vs H Q E h => ?_) (fun cdv A outer s H vs Q E hr h => ?_)
  · obtain ⟨a, ns, rfl, _⟩ := h
    rfl
  · obtain ⟨a, ns, rfl, hS, hl, q⟩ := h
    obtain ⟨t, hp, ht⟩ := hb cdv A outer s H E hr
    refine ⟨t, hp, ?_⟩
    have wf := wf0 H
    have sv : SvA K J0 H [.ref a] [.d (.lst (ns.map Dt.int))] := .cons (show Dr K H (.ref a) (.lst (ns.map Dt.int)) from .lst hS Da.ints) .nil
    exact ht ns hl H H H H (L2.start N [.ref a]) ⟨wf, wf.nx, en_start sv⟩ _ (fun _ _ _ _ _ x => x.elim) (fun _ _ _ _ _ x => x.elim) (fun _ _ _ _ _ x => x.elim)
      (fun v d G' H' n r x => by subst x; cases r; exact q H') (fun _ _ _ _ _ _ _ _ _ _ x => x.elim) (fun _ _ _ _ _ _ _ _ _ _ _ x => x.elim)
/-- take: the draws' next, by their number -/
theorem take_ok {f : Addr} {fd : FuncData} {qual : Str} {st : Stmt} {N ps : List Str} {k : Nat} (F : L2.Fun K qual qual st f fd) (S : FnScope N ps (defScope st)) (h2 : ps.length = 2)
    (hb : ∀ (cdv : Value) (A : Around) (outer : List PySem.Env) (s : Shared) (H : Hp) (E : XK), Room k (A.deeper (envOfC qual (defScope st) s.heap.objs.size f cdv)) →
      ∃ t, PSs (cxOf CX0 P w K mg base N qual (defScope st) f cdv A outer s H E).nox (defBody st) t ∧
        ∀ (h d : Addr) (ns : List Int) (i m : Int) (Q : VK), h ≠ d → H h = some (.lst [.ref d, .int i]) → H d = some (.lst (ns.map V.int)) → 0 ≤ i → 0 < m →
          (∀ x : Int, 0 ≤ x → x < m → Q (.int x) (upd H h (.lst [.ref d, .int (i + 1)]))) → t { nx := fun _ H' => Q .non H', rt := Q } (L2.start N [.ref h, .int m]) H) :
    FnOk P w K mg base CX0 (k + 1) f fd ps (Ct K W_take) := by
  refine F.ok S (fun vs H Q E h => ?_) (fun cdv A outer s H vs Q E hr h => ?_)
  · obtain ⟨J, G, ss, P, wf, sv, ⟨m, e, _⟩, _⟩ := h
    rw [sv.length, e, h2]
    rfl
  · obtain ⟨J, G, ss, P, wf, sv, ⟨m, e, hm, hP⟩, q⟩ := h
    obtain ⟨t, hp, ht⟩ := hb cdv A outer s H E hr
    subst e
    cases sv with
    | cons s1 s2 =>
      cases s2 with
      | cons s2 s3 =>
        cases s3
        obtain ⟨h, d, e1, e2⟩ := s1
        have r2 : Dr K G _ (.int m) := s2
        cases r2
        subst e1
        obtain ⟨ns, i, a, b, c⟩ := J.hg _ _ e2 wf.ok
        have hhd : h ≠ d := fun z => by
          subst z
          rw [a] at b
          cases ns with
          | nil => cases b
          | cons x r => cases b
        have hms : h ∈ J.ms := J.hm _ e2
        refine ⟨t, hp, ht h d ns i m Q hhd a b c hm fun x h0 h1 => q (.int x) (.int x) G _ ?_ (.int x) (hP x h0 h1)⟩
        have hG := (wf.ms h hms).1
        refine ⟨Same.refl _, fun b o e => ?_, fun b e _ => e, fun b o e hb => ?_, fun b e => ?_, J.hp _ _ _ e2 wf.ok ⟨ns, i + 1, upd_same, by rw [upd_ne hhd.symm]; assumption, by omega⟩ fun b _ hb => upd_ne hb⟩
        · rw [upd_ne (ne_of_none e hG)]; exact wf.gh b o e
        · rw [upd_ne (fun z => hb (by rw [z]; exact hms))]; exact e
        · by_cases z : b = h
          · subst z; rw [upd_same]; simp
          · rw [upd_ne z]; exact e
/-- a def that calls itself, by the depth of what it is asked -/
def predW (W : Nat → Fw) : Nat → Fw
  | 0 => fun _ _ => False
  | n + 1 => W n
theorem rec_all {f : Addr} {fd : FuncData} {x : Str} {ps : List Str} (W : Nat → Fw) (g : mg x = some (.ref f)) (kp : PySem.W.keepIn K (.ref f) = true) (b : Binds K fd ps [])
    (step : ∀ n, Cal P w K mg base n x ps (Ct K (predW W n)) → FnOk P w K mg base CX0 (n + 1) f fd ps (Ct K (W n))) : ∀ n, FnOk P w K mg base CX0 (n + 1) f fd ps (Ct K (W n))
  | 0 => step 0 ⟨f, fd, ⟨fun vs H Q E h => by obtain ⟨_, _, _, _, _, _, z, _⟩ := h; exact z.elim, fun A outer s H args us vs Q E _ _ _ _ h => by obtain ⟨_, _, _, _, _, _, z, _⟩ := h; exact z.elim⟩, g, kp, b⟩
  | n + 1 => step (n + 1) ⟨f, fd, rec_all W g kp b step n, g, kp, b⟩
end
end Mv

set_option Elab.async false
set_option linter.all false
set_option maxRecDepth 100000
set_option maxHeartbeats 4000000
namespace Mv
open PySem PySem.Spec PyProof.Rows L2
section
variable {K : PySem.W.Frag} {J : Jm} {env : List Sl} {te : TE} {tt tt1 : TT}
/-- what is there already at the entry is no slot's own list -/
theorem En.base {B G H : Hp} {σ : L2.St} {p : Addr} (E : En K J B G H σ env) (h : H p = none) (o : HO) : En K J (upd B p o) G H σ env :=
  ⟨E.len, fun i s hs => by
    obtain ⟨ov, a, b⟩ := E.ok i s hs
    refine ⟨ov, a, ?_⟩
    cases s with
    | no => trivial
    | d x => exact b
    | hand => exact b
    | hnd => exact b
    | tap => exact b
    | xv a d fs => exact b
    | md kvs =>
      obtain ⟨q, us, e, hB, hG, hm, hH, r⟩ := b
      exact ⟨q, us, e, by rw [upd_ne (ne_of_none hH h)]; exact hB, hG, hm, hH, r⟩
    | mi q C fs =>
      obtain ⟨dx, us, e, hB, hG, hm, hH, r⟩ := b
      exact ⟨dx, us, e, by rw [upd_ne (ne_of_none hH h)]; exact hB, hG, hm, hH, r⟩
    | ml xs =>
      obtain ⟨q, us, e, hB, hG, hm, hH, r⟩ := b
      exact ⟨q, us, e, by rw [upd_ne (ne_of_none hH h)]; exact hB, hG, hm, hH, r⟩, E.ap⟩
theorem En.updB {B G H : Hp} {σ : L2.St} {p : Addr} {o o' : HO} (E : En K J B G H σ env) (h : B p = some o') : En K J B G (upd H p o) σ env :=
  ⟨E.len, fun i s hs => by
    obtain ⟨ov, a, b⟩ := E.ok i s hs
    refine ⟨ov, a, ?_⟩
    cases s with
    | no => trivial
    | d x => exact b
    | hand => exact b
    | hnd => exact b
    | tap => exact b
    | xv a d fs => exact b
    | md kvs =>
      obtain ⟨q, us, e, hB, hG, hm, hH, r⟩ := b
      exact ⟨q, us, e, hB, hG, hm, by rw [upd_ne (ne_of_none h hB).symm]; exact hH, r⟩
    | mi q C fs =>
      obtain ⟨dx, us, e, hB, hG, hm, hH, r⟩ := b
      exact ⟨dx, us, e, hB, hG, hm, by rw [upd_ne (ne_of_none h hB).symm]; exact hH, r⟩
    | ml xs =>
      obtain ⟨q, us, e, hB, hG, hm, hH, r⟩ := b
      exact ⟨q, us, e, hB, hG, hm, by rw [upd_ne (ne_of_none h hB).symm]; exact hH, r⟩, E.ap⟩
/-- [e for .. in .. if .. for .. in .. if ..] -/
theorem em_lc2 {wi wi1 : TI} {g g1 : TG} {vs vs1 : List Nat} {R : List Dt → Prop} (h : Ei K J env wi fun ds => ∃ Iv : Nat → List Dt → Prop, Iv 0 [] ∧
    (∀ k d acc, ds[k]? = some d → Iv k acc → Gt K J (wipeE env vs) g d vs fun e => Et K J e tt fun b => (b = true → Ei K J e wi1 fun es => ∃ Iw : Nat → List Dt → Prop, Iw 0 acc ∧
        (∀ j x ac, es[j]? = some x → Iw j ac → Gt K J (wipeE e vs1) g1 x vs1 fun e1 => Et K J e1 tt1 fun b1 => (b1 = true → ac.length < 100000 ∧ Ev K J e1 te fun y => Iw (j + 1) (ac ++ [y])) ∧ (b1 = false → Iw (j + 1) ac)) ∧
        ∀ ac, Iw es.length ac → Iv (k + 1) ac) ∧ (b = false → Iv (k + 1) acc)) ∧
    ∀ acc, Iv ds.length acc → R acc) : Em K J env (tLc2 wi g tt wi1 g1 tt1 te vs vs1) R := fun B G H σ w E Q q => by
  refine h B G H σ w E _ fun I ds G1 H1 n1 wk ⟨Iv, h0, hs, hd⟩ => ?_
  intro Dl hDl
  have w1 := n1.wf w
  have E1 := (E.mono n1).base hDl (.lst [])
  have hn : Dl ∉ J.ms := w1.notin hDl
  have n0 := w1.newM hDl (.lst [])
  refine ⟨fun i m H' => m = ds.length - i ∧ i ≤ ds.length ∧ ∃ G' xs acc, Nx J G1 H1 G' H' ∧ G' Dl = none ∧ H' Dl = some (.lst xs) ∧ Da K G' xs acc ∧ Iv i acc,
    ⟨ds.length, by simp, Nat.zero_le _, G1, [], [], n0, w1.free hDl, upd_same, .nil, h0⟩, ?_⟩
  rintro i m H' ⟨rfl, hi, G', xs, acc, n, hG, hH, r, p⟩
  have w' := n.wf w1
  by_cases hlt : i < ds.length
  · refine .inr ⟨wk.go i G' H' n.gg w' hlt, fun H2 => ∃ G2 xs2 acc2, Nx J G1 H1 G2 H2 ∧ G2 Dl = none ∧ H2 Dl = some (.lst xs2) ∧ Da K G2 xs2 acc2 ∧ Iv (i + 1) acc2,
      fun H2 ⟨G2, xs2, acc2, a, b, c, d, f⟩ => ⟨ds.length - (i + 1), by omega, rfl, hlt, G2, xs2, acc2, a, b, c, d, f⟩, fun x H2 y => ?_⟩
    obtain ⟨G2, d, n2, hd', rd⟩ := wk.yld i G' H' x H2 n.gg w' hlt y
    have n02 := n.trans n2
    have w2 := n2.wf w'
    refine hs i d acc hd' p (upd B Dl (.lst [])) G2 H2 (wipe σ vs) x w2 ((E1.mono n02).wipe vs) rd _ fun e3 σ3 E3 ks et => ⟨wipe_eq ks.1 ks.2, et (upd B Dl (.lst [])) G2 H2 σ3 w2 E3 _ fun b G3 H3 n3 k => ?_⟩
    have hG2 := n2.fr Dl hG (by rw [hH]; simp)
    have hH2 := n2.kp Dl _ hH hn
    have hG3 := n3.fr Dl hG2 (by rw [hH2]; simp)
    have hH3 := n3.kp Dl _ hH2 hn
    have w3 := n3.wf w2
    have E3' := E3.mono n3
    have r3 : Da K G3 xs acc := (r.mono n2.gg).mono n3.gg
    have n03 := n02.trans n3
    cases b with
    | false => exact ⟨G3, xs, acc, n03, hG3, hH3, r3, k.2 rfl⟩
    | true =>
      refine k.1 rfl (upd B Dl (.lst [])) G3 H3 σ3 w3 E3' _ fun I1 es G4 H4 n4 wk1 ⟨Iw, k0, ks1, kd⟩ => ?_
      have hG4 := n4.fr Dl hG3 (by rw [hH3]; simp)
      have hH4 := n4.kp Dl _ hH3 hn
      have w4 := n4.wf w3
      have E4 := E3'.mono n4
      have n04 := n03.trans n4
      refine ⟨fun j m H' => m = es.length - j ∧ j ≤ es.length ∧ ∃ G5 xs5 ac, (Same G4 G5 ∧ En K J (upd B Dl (.lst [])) G5 H' σ3 e3) ∧ Nx J G1 H1 G5 H' ∧ G5 Dl = none ∧ H' Dl = some (.lst xs5) ∧ Da K G5 xs5 ac ∧ Iw j ac,
        ⟨es.length, by simp, Nat.zero_le _, G4, xs, acc, ⟨Same.refl _, E4⟩, n04, hG4, hH4, r3.mono n4.gg, k0⟩, ?_⟩
      rintro j m H5 ⟨rfl, hj, G5, xs5, ac, ⟨s45, E5⟩, n05, hG5, hH5, r5, p5⟩
      have w5 := n05.wf w1
      by_cases hjl : j < es.length
      · refine .inr ⟨wk1.go j G5 H5 s45 w5 hjl, fun H' => ∃ G6 xs6 ac6, (Same G4 G6 ∧ En K J (upd B Dl (.lst [])) G6 H' σ3 e3) ∧ Nx J G1 H1 G6 H' ∧ G6 Dl = none ∧ H' Dl = some (.lst xs6) ∧ Da K G6 xs6 ac6 ∧ Iw (j + 1) ac6,
          fun H' ⟨G6, xs6, ac6, a, b, c, d, e, f⟩ => ⟨es.length - (j + 1), by omega, rfl, hjl, G6, xs6, ac6, a, b, c, d, e, f⟩, fun x5 H6 y5 => ?_⟩
        obtain ⟨G6, d6, n6, hd6, rd6⟩ := wk1.yld j G5 H5 x5 H6 s45 w5 hjl y5
        have w6 := n6.wf w5
        refine ks1 j d6 ac hd6 p5 (upd B Dl (.lst [])) G6 H6 (wipe σ3 vs1) x5 w6 ((E5.mono n6).wipe vs1) rd6 _ fun e7 σ7 E7 kk et7 => ⟨wipe_eq kk.1 kk.2, et7 (upd B Dl (.lst [])) G6 H6 σ7 w6 E7 _ fun b7 G7 H7 n7 k7 => ?_⟩
        have hG6 := n6.fr Dl hG5 (by rw [hH5]; simp)
        have hH6 := n6.kp Dl _ hH5 hn
        have hG7 := n7.fr Dl hG6 (by rw [hH6]; simp)
        have hH7 := n7.kp Dl _ hH6 hn
        have w7 := n7.wf w6
        have n67 := n6.trans n7
        cases b7 with
        | false => exact ⟨G7, xs5, ac, ⟨s45.trans n67.gg, E5.mono n67⟩, n05.trans n67, hG7, hH7, r5.mono n67.gg, k7.2 rfl⟩
        | true =>
          obtain ⟨hz, ev⟩ := k7.1 rfl
          refine ev (upd B Dl (.lst [])) G7 H7 σ7 w7 (E7.mono n7) _ fun yv yd G8 H8 n8 ry ky => ?_
          have hG8 := n8.fr Dl hG7 (by rw [hH7]; simp)
          have hH8 := n8.kp Dl _ hH7 hn
          have n68 := n67.trans n8
          have n08 := n05.trans n68
          have n9 := n08.mut (o' := .lst (xs5 ++ [yv])) hDl hG8 hn hH8
          have r8 := r5.mono n68.gg
          exact ⟨xs5, hH8, sz_lt (by rw [r5.length]; exact hz), G8, xs5 ++ [yv], ac ++ [yd], ⟨s45.trans n68.gg, (E5.mono n68).updB upd_same⟩, n9, hG8, upd_same, r8.append (.cons ry .nil), ky⟩
      · have e' : j = es.length := by omega
        subst e'
        exact .inl ⟨wk1.stop G5 H5 s45 w5, G5, xs5, ac, n05, hG5, hH5, r5, kd ac p5⟩
  · have e' : i = ds.length := by omega
    subst e'
    exact .inl ⟨wk.stop G' H' n.gg w', q Dl xs acc G' H' (n1.trans n) hG (by
      cases z : H Dl with
      | none => rfl
      | some o => exact absurd hDl (n1.th Dl (by rw [z]; simp))) hH r (hd acc p)⟩
end
end Mv

set_option Elab.async false
set_option linter.all false
set_option maxRecDepth 100000
set_option maxHeartbeats 4000000
namespace Mv
open PySem PySem.Spec PyProof.Rows L2
/-! ### placings, and what is new between two -/
theorem up_len : ∀ (l : List Nat) (a n : Nat), l.Pairwise (· < ·) → (∀ v ∈ l, a ≤ v ∧ v < n) → l.length ≤ n - a
  | [], _, _, _, _ => Nat.zero_le _
  | x :: r, a, n, h, hb => by
    have h1 := List.pairwise_cons.mp h
    have hx := hb x (by simp)
    have := up_len r (x + 1) n h1.2 fun v hv => ⟨h1.1 v hv, (hb v (by simp [hv])).2⟩
    rw [List.length_cons]
    omega
theorem LotOk.len {n : Nat} {l : List Nat} (h : LotOk n l) : l.length ≤ n := by
  have := up_len l 0 n h.up fun v hv => ⟨Nat.zero_le _, h.lt v hv⟩
  omega
def rowN (p : Nat) (b a : List Nat) : List (Nat × Nat) := (a.filter fun v => !decide (v ∈ b)).map fun v => (p, v)
def newTo (k : Nat) (b a : List (List Nat)) : List (Nat × Nat) := (List.range k).flatMap fun p => rowN p (b.getD p []) (a.getD p [])
def newN (b a : List (List Nat)) : List (Nat × Nat) := newTo a.length b a
def pairsD (l : List (Nat × Nat)) : List Dt := l.map fun q => pairD (.int (q.1 : Int)) (.int (q.2 : Int))
abbrev newD (b a : List (List Nat)) : Dt := .tup (pairsD (newN b a))
theorem newTo_succ {k : Nat} {b a : List (List Nat)} {bl al : List Nat} (hb : b[k]? = some bl) (ha : a[k]? = some al) : newTo (k + 1) b a = newTo k b a ++ rowN k bl al := by
  unfold newTo
  rw [List.range_succ, List.flatMap_append]
  simp [List.getD, hb, ha]
theorem rowN_len (p : Nat) (b a : List Nat) : (rowN p b a).length ≤ a.length := by
  unfold rowN
  rw [List.length_map]
  exact List.length_filter_le _ _
theorem newTo_len {m : Nat} {b a : List (List Nat)} (h : ∀ l ∈ a, l.length ≤ m) : ∀ k, (newTo k b a).length ≤ k * m
  | 0 => by simp [newTo]
  | k + 1 => by
    have ih := newTo_len (b := b) h k
    unfold newTo at ih ⊢
    rw [List.range_succ, List.flatMap_append, List.length_append]
    have h2 : (rowN k (b.getD k []) (a.getD k [])).length ≤ m := by
      refine Nat.le_trans (rowN_len _ _ _) ?_
      unfold List.getD
      cases e : a[k]? with
      | none => exact Nat.zero_le _
      | some l => exact h l (List.mem_of_getElem? e)
    simp only [List.flatMap_cons, List.flatMap_nil, List.append_nil]
    rw [Nat.succ_mul]
    omega
theorem rowN_snoc_in {p v : Nat} {b a : List Nat} (h : v ∈ b) : rowN p b (a ++ [v]) = rowN p b a := by
  unfold rowN
  rw [List.filter_append]
  simp [h]
theorem rowN_snoc_out {p v : Nat} {b a : List Nat} (h : v ∉ b) : rowN p b (a ++ [v]) = rowN p b a ++ [(p, v)] := by
  unfold rowN
  rw [List.filter_append]
  simp [h]
theorem pairsD_snoc {l : List (Nat × Nat)} {p v : Nat} : pairsD l ++ [.tup [.int (p : Int), .int (v : Int)]] = pairsD (l ++ [(p, v)]) := by
  unfold pairsD
  rw [List.map_append]
  rfl
theorem pairsD_len (l : List (Nat × Nat)) : (pairsD l).length = l.length := by simp [pairsD]
theorem plac_at {ls : List (List Nat)} {k : Nat} {l : List Nat} (h : ls[k]? = some l) : atD (ls.map lotD) (k : Int) = some (lotD l) := atD_nat (by rw [List.getElem?_map, h]; rfl)
theorem nats_get {l : List Nat} {j : Nat} {d : Dt} (h : (natsD l)[j]? = some d) : ∃ v, l[j]? = some v ∧ d = .int (v : Int) ∧ l.take (j + 1) = l.take j ++ [v] := by
  unfold natsD at h
  rw [List.getElem?_map] at h
  obtain ⟨v, hv, e⟩ := Option.map_eq_some_iff.mp h
  exact ⟨v, hv, e.symm, by rw [List.take_add_one, hv]; rfl⟩
theorem flat_nats8 {n : Nat} (l : List Nat) (h : l.length ≤ 100000) : Flat (n + 1) (lotD l) := .tup n _ (by rw [natsD_len]; exact h) fun d hd => by
  unfold natsD at hd
  obtain ⟨v, _, rfl⟩ := List.mem_map.mp hd
  exact .int n _
theorem flat_new {n : Nat} (l : List (Nat × Nat)) (h : l.length ≤ 100000) : Flat (n + 2) (.tup (pairsD l)) := .tup (n + 1) _ (by rw [pairsD_len]; exact h) fun d hd => by
  unfold pairsD at hd
  obtain ⟨q, _, rfl⟩ := List.mem_map.mp hd
  exact .tup n _ (by simp) fun d hd => by
    simp at hd
    rcases hd with rfl | rfl <;> exact .int n _
def W_placing : Fw := fun ss P => ∃ n m : Nat, ss = [.hand, .d (.int (n : Int)), .d (.int (m : Int))] ∧ 0 < n ∧ n ≤ 1000 ∧ m ≤ 1000 ∧ ∀ ls, ls.length = m → PlacOk n ls → P (placD ls)
def W_new : Fw := fun ss P => ∃ (b a : List (List Nat)), ss = [.d (placD b), .d (placD a)] ∧ a.length = b.length ∧ a.length ≤ 90 ∧ (∀ l ∈ a, l.length ≤ 1000) ∧ P (newD b a)
def W_near : Fw := fun ss P => ∃ (ls : List (List Nat)) (n : Nat), ss = [.hand, .d (placD ls), .d (.int (n : Int))] ∧ 0 < n ∧ n ≤ 1000 ∧ ls.length ≤ 1000 ∧ PlacOk n ls ∧ ∀ ls', ls'.length = ls.length → PlacOk n ls' → P (placD ls')
end Mv
namespace Mv
open PySem PySem.Spec PyProof.Rows L2
/-! ### a call by keywords alone -/
def kwP {α : Type} (pi : List Nat) (us ws : List α) : List α := match us with
  | [] => pi.filterMap fun i => ws[i]?
  | _ :: _ => []
theorem kw_rel {pi : List Nat} {zs : List V} {ws : List Value} (rz : Vals zs ws) : Vals (pi.filterMap fun i => zs[i]?) (pi.filterMap fun i => ws[i]?) := by
  induction pi with
  | nil => exact .nil
  | cons i r ih =>
    rw [List.filterMap_cons, List.filterMap_cons]
    cases e : zs[i]? with
    | none =>
      rw [rz.none_of e]
      exact ih
    | some v =>
      obtain ⟨u, h1, h2⟩ := rz.get e
      rw [h1]
      exact .cons h2 ih
theorem kw_rel2 {pi : List Nat} {vs zs : List V} {us ws : List Value} (r : Vals vs us) (rz : Vals zs ws) : Vals (kwP pi vs zs) (kwP pi us ws) := by
  cases r with
  | nil => exact kw_rel rz
  | cons _ _ => exact .nil
structure CalKw (P : Program) (w : World) (K : PySem.W.Frag) (mg : Str → Option Value) (base : Heap) (k : Nat) (x : Str) (ps ks : List Str) (pi : List Nat) (sp : Sp) : Prop where
  ex : ∃ f fd, FnOk P w K mg base CX0 k f fd ps sp ∧ mg x = some (.ref f) ∧ PySem.W.keepIn K (.ref f) = true ∧ KBinds K fd ps ks (kwP pi) (kwP pi)
theorem pe_callKw {X : Cx} {k : Nat} {x : Str} {ps ks : List Str} {pi : List Nat} {sp : Sp} {p pos : Pos} {kws : List Keyword} {tk : TA} (C : CalKw X.prog X.w X.K X.mg X.base k x ps ks pi sp) (hr : Room k X.A) (hg : Gl X x)
    (hkw : PK X kws tk) (hall : (backToKw pos (keywordEach kws X.env)).all (·.1.isSome) = true := by rfl) (hks : (backToKw pos (keywordEach kws X.env)).filterMap (·.1) = ks := by rfl) (hdb : (x == ("__debug__" : Str)) = false := by decide)
    (hpl : ((backTo pos (starEach [] X.env)).any (·.1) || (backToKw pos (keywordEach kws X.env)).any (·.1.isNone)) = false := by rfl) : PE X (.Call (.Name x p) [] kws pos) (tCallK sp (kwP pi) E0 tNil tk) := by
  obtain ⟨f, fd, F, hm, hk, hb⟩ := C.ex
  refine ⟨fun pins s σ H Q I h => ?_⟩
  refine wpAny_Call_Name_kw (ld_glob I hg hm ?_ hdb)
  refine PySem.W.callWith_KW0 (h₀ := X.base) I.ok.mod.kin hk hall (thn (hkw.run pos pins s σ H _ I h) fun ws s2 ⟨zs, H2, I2, rz, q2⟩ => ⟨I2.kIn, ?_⟩) hpl
  rw [hks]
  exact run_fnk (us := []) F hr hb pass0 I2 .nil rz q2
theorem kb2 {K : PySem.W.Frag} {fd : FuncData} {ps : List Str} {k1 k2 : Str} {pi : List Nat} (hp : ps.length = 2) (hpi : pi = [0, 1] ∨ pi = [1, 0]) (h : ∀ a b : Value, bindArgs fd ⟨[], [(k1, a), (k2, b)]⟩ = pure (ps.zip (kwP pi [] [a, b]))) :
    KBinds K fd ps [k1, k2] (kwP pi) (kwP pi) := by
  refine ⟨fun s us ws _ hl => ?_, fun r rz => kw_rel2 r rz⟩
  rw [hp] at hl
  match us, ws, hl with
  | [], a :: b :: r, _ =>
    refine .of_eq ?_
    have e : kwP pi [] (a :: b :: r) = kwP pi [] [a, b] := by rcases hpi with rfl | rfl <;> rfl
    rw [e]
    exact h a b
  | [], [], hl => rcases hpi with rfl | rfl <;> simp [kwP] at hl
  | [], [a], hl => rcases hpi with rfl | rfl <;> simp [kwP] at hl
  | _ :: _, _, hl => simp [kwP] at hl
section
variable {K : PySem.W.Frag} {J : Jm} {env : List Sl} {R : Dt → Prop} {W : Fw} {E0 : XK}
/-- arguments given by keywords: in the parameters' order -/
theorem sva_kw {G : Hp} {pi : List Nat} {vs : List V} {ss : List Sl} (r : SvA K J G vs ss) : SvA K J G (pi.filterMap fun i => vs[i]?) (pi.filterMap fun i => ss[i]?) := by
  have hl := r.length
  induction pi with
  | nil => exact .nil
  | cons i l ih =>
    rw [List.filterMap_cons, List.filterMap_cons]
    cases e : ss[i]? with
    | none =>
      have : vs[i]? = none := List.getElem?_eq_none (by rw [hl]; exact List.getElem?_eq_none_iff.mp e)
      rw [this]
      exact ih
    | some s =>
      obtain ⟨v, h1, h2⟩ := r.get e
      rw [h1]
      exact .cons h2 ih
theorem ev_callKw {pi : List Nat} {tk : TA} (h : Ea K J env tk fun ss => W (pi.filterMap fun i => ss[i]?) R) : Ev K J env (tCallK (Ct K W) (kwP pi) E0 tNil tk) R := fun B G H σ w E Q q =>
  h B G H σ w E _ fun vs ss G1 H1 n1 r k => ⟨J, G1, _, R, n1.wf w, sva_kw r, k, fun v d G2 H2 n2 rd x => q v d G2 H2 (n1.trans n2) rd x⟩
end
end Mv
namespace Mv
theorem he_start (d : Dt) : ∀ (n k : Nat) (s : Sl), (Sl.d d :: List.replicate n Sl.no)[k]? = some s → s = .no ∨ ∃ x, s = .d x := fun n k s h => by
  cases k with
  | zero => exact .inr ⟨d, (Option.some.inj h).symm⟩
  | succ k =>
    have h2 : (List.replicate n Sl.no)[k]? = some s := h
    exact .inl (List.mem_replicate.mp (List.mem_of_getElem? h2)).2
end Mv

set_option Elab.async false
set_option linter.all false
set_option maxRecDepth 100000
set_option maxHeartbeats 4000000
namespace Mv
open PySem PySem.Spec PyProof.Rows L2
/-! ### try: .. except X as e: .. except Y as e: .. -/
structure Clause where
  c : Value
  i : Nat
  ts : Addr → Value → Option Addr → TS
def outN (i : Nat) (D : Ends) : Ends := { nx := fun σ' H' => D.nx (σ'.set i none) H', rt := D.rt, bk := fun σ' H' => D.bk (σ'.set i none) H', ct := fun σ' H' => D.ct (σ'.set i none) H' }
def wN (K : PySem.W.Frag) (Wout : WX) (D : Ends) : List Clause → WX
  | [] => Wout
  | k :: r => fun cls d σ H => ∃ b, PySem.W.exmOne K cls k.c = some b ∧ (b = true → ∀ a, H a = none → k.ts a cls d (outN k.i D) (σ.set k.i (some (.ref a))) H) ∧ (b = false → wN K Wout D r cls d σ H)
inductive HdsN (X : Cx) : List ExceptHandler → List Clause → Prop
  | nil : HdsN X [] []
  | cons {x n : Str} {c : Value} {i : Nat} {ts : Addr → Value → Option Addr → TS} {b0 : Stmt} {suite : List Stmt} {np pos' : Pos} {hds : List ExceptHandler} {l : List Clause} (hc : Names X x c) (hN : X.N.Nodup) (hi : X.N[i]? = some n) (hln : X.env.kindOf n = some .local)
      (hsu : ∀ (a : Addr) (oe : Obj) (cls : Value) (d : Option Addr) (pn : List (Addr × Obj)), Zc cls d oe → (∃ vs, oe.data = .fields vs) → PSs (X.suite a ((a, oe) :: pn)) (b0 :: suite) (ts a cls d)) (r : HdsN X hds l) :
      HdsN X (.ExceptHandler (some (.Name x np)) (some n) (b0 :: suite) pos' :: hds) (⟨c, i, ts⟩ :: l)
def tTry (K : PySem.W.Frag) (tb : WX → TS) (Wout : WX) (l : List Clause) : TS := fun D σ H => tb (wN K Wout D l) D σ H
theorem ps_tryN {X : Cx} {body : List Stmt} {h0 : ExceptHandler} {hds : List ExceptHandler} {l : List Clause} {pos : Pos} {tb : WX → TS} {Wout : WX} (hs : X.stack = X.env :: X.outer) (hf : X.env.frame = some X.env.locals) (tk : Takes X Wout)
    (hb : ∀ (W : WX) (pn : List (Addr × Obj)) (xe : Value → Shared → Prop), Takes (X.tr pn xe) W → PassesOwn (model X.prog X.w) X.A X.env xe → PSs (X.tr pn xe) body (tb W))
    (hh : HdsN X (h0 :: hds) l) : PS X (.Try body (h0 :: hds) [] [] pos) (tTry X.K tb Wout l) := by
  refine ⟨fun pins s σ H D I h => ?_⟩
  have okX := I.ok
  have hfr : X.A.frames = some (X.env :: X.outer) := by rw [okX.frames, hs]
  refine wpAny_Try_except (wpAny_mono ((hb (wN X.K Wout D l) (X.pn ++ pins) (fun e s1 => wpAny (model X.prog X.w) X.A (noteFrame e X.env) (fun _ s2 => wpAny (model X.prog X.w) X.A (setFlight e none) (fun _ s3 =>
    wpAny (model X.prog X.w) X.A (handleBy e X.env (h0 :: hds)) (SP X pins D) X.xe s3) X.xe s2) X.xe s1) (fun u s' xx => ?_) PassesOwn.looking).run [] s σ H D (I.toTry _) h) (fun f s1 hsp => ?_) (fun e s1 he => he))
  · obtain ⟨a, B, sI, pins', σ', H', cls, d, rfl, J', nb, up, sky, na, os, ag, w⟩ := xx
    have J : Inv X pins σ' H' sI := J'.ofTry okX
    have sky' : Sky B (X.env :: X.outer) a (Zc cls d) X.env.locals s'.heap := hs ▸ sky
    show wpAny (model X.prog X.w) X.A (noteFrame (.ref a) X.env) _ _ _
    refine Sky.land Zc.steady hfr hf sky' fun h3 fl3 up3 => ?_
    have J3 : Inv X pins σ' H' { s' with heap := h3 } := J.landed nb fl3.1 (up.trans up3) os ag
    obtain ⟨oe3, vs3, he3, hz3, hd3⟩ := fl3.there
    have nfr : a ∉ frs (X.env :: X.outer) := fun hm => by
      obtain ⟨_, o', e', hnf⟩ := fl3.2.2.1.mem hm
      rw [he3] at e'
      cases e'
      exact hnf _ hd3
    have nL : a ≠ X.env.locals := fun z => nfr (List.mem_filterMap.mpr ⟨X.env, by simp, by rw [hf, z]⟩)
    have nF : a ∉ X.fs := fun hm => by
      obtain ⟨e, he, q⟩ := List.mem_filterMap.mp hm
      exact nfr (List.mem_filterMap.mpr ⟨e, by simp [he], q⟩)
    have S3 := J3.suite he3 hd3 na nL nF
    have go : ∀ {hds' : List ExceptHandler} {l' : List Clause}, HdsN X hds' l' → wN X.K Wout D l' cls d σ' H' → wpAny (model X.prog X.w) X.A (handleBy (.ref a) X.env hds') (SP X pins D) X.xe { s' with heap := h3 } := by
      intro hds' l' hk
      induction hk with
      | nil =>
        intro w
        refine wpAny_handleBy_nil ?_
        obtain ⟨k1, k2, k3, oe, vs, T, oT, ts', he, hz, hd, h1, hr⟩ := id fl3
        unfold PySem.passOn
        refine wpAny_bind (wpAny_field he hd h1 ?_)
        rw [if_neg (show ¬ ((Value.ref T == Value.none) = true) by simp)]
        have fin : wpAny (model X.prog X.w) X.A (setFlight (.ref a) X.env.frame) (fun _ s4 => wpAny (model X.prog X.w) X.A (throw (.ref a) : Sem Flow) (SP X pins D) X.xe s4) X.xe { s' with heap := h3 } := by
          rw [hf]
          exact HandSPX.setFlight_upZ fl3 fun h4 hh4 up4 => wpAny_throw (tk _ _ ⟨a, B, sI, pins, σ', H', cls, d, rfl, J, nb, (up.trans up3).trans up4, .inr (.inr (hs ▸ hh4)), na, os, ag, w⟩)
        first | exact wpAny_bind (wpAny_pure (wpAny_bind fin)) | exact wpAny_bind fin
      | @cons x n c i ts b0 suite np pos' hds2 l2 hc hN hi hln hsu r ih =>
        intro w
        obtain ⟨b, hb1, hyes, hno⟩ := w
        refine wpAny_handleBy_cons (codeAny_handlers_test ?_) (by intro q; cases q)
        have LT : PySem.W.Looks (model X.prog X.w) h3 (typeOf (.ref a)) cls := fun A Q E s k q => wpAny_typeOf_ref (k _ _ he3) (by rw [hz3.1]; exact q)
        have LM := PySem.W.exm_one (M := model X.prog X.w) (J3.kIn) LT hb1
        have look : ∀ {Q : Value → Shared → Prop} {E : Value → Shared → Prop}, Q c { s' with heap := h3 } → wpAny (model X.prog X.w) (X.A.mark (some (.ref a))) (eval (.Name x np) X.env) Q E { s' with heap := h3 } := fun {Q E} q => by
          obtain ⟨hg, hdbg, hm | ⟨hm, hv, hnn⟩⟩ := hc
          · exact ld_glob (X := X.suite a ((a, oe3) :: (X.pn ++ pins))) S3 hg hm q hdbg
          · exact ld_blt (X := X.suite a ((a, oe3) :: (X.pn ++ pins))) S3 hg hm hv q hnn hdbg
        refine look (LM.here ?_)
        have hloc : Loc X.env.scope n := .inl hln
        cases b with
        | true =>
          refine codeAny_handlers_suite_as (HandSPX.lands_againZ fl3 fun h4 fl4 up4 => ?_)
          have J4 : Inv X pins σ' H' { s' with heap := h4 } := J.landed nb fl4.1 ((up.trans up3).trans up4) os ag
          obtain ⟨oe4, vs4, he4, hz4, hd4⟩ := fl4.there
          have S4 := J4.suite he4 hd4 na nL nF
          refine store_ok (X := X.suite a ((a, oe4) :: (X.pn ++ pins))) (v := .ref a) S4 hN hi hloc rfl (fun s5 S5 => ?_) (.inr hln)
          refine wpAny_mono ((hsu a oe4 cls d (X.pn ++ pins) hz4 ⟨_, hd4⟩).run [] s5 _ H' (outN i D) S5 (hyes rfl a na)) (fun f s6 hsp => ?_) (fun _ _ z => z.elim)
          have fin : ∀ {σ6 : L2.St} {H6 : Hp} {Q : Shared → Prop}, Inv (X.suite a ((a, oe4) :: (X.pn ++ pins))) [] σ6 H6 s6 → (∀ s7, Inv X pins (σ6.set i none) H6 s7 → Q s7) →
              wpAny (model X.prog X.w) X.A (do bindName X.env n .none; unbindBehindTheSuite X.env n pos') (fun _ s7 => Q s7) X.xe s6 := fun {σ6 H6 Q} S6 hq => gone_ok (S6.unsuite okX) hN hi hln hq
          cases f with
          | next => obtain ⟨σ6, H6, S6, q6⟩ := hsp; exact fin S6 fun s7 J7 => ⟨_, _, J7, q6⟩
          | brk => obtain ⟨σ6, H6, S6, q6⟩ := hsp; exact fin S6 fun s7 J7 => ⟨_, _, J7, q6⟩
          | cont => obtain ⟨σ6, H6, S6, q6⟩ := hsp; exact fin S6 fun s7 J7 => ⟨_, _, J7, q6⟩
          | ret u => obtain ⟨v6, σ6, H6, S6, r6, q6⟩ := hsp; exact fin S6 fun s7 J7 => ⟨_, _, _, J7, r6, q6⟩
        | false => exact ih (hno rfl)
    exact go hh w
  · cases f with
    | next => obtain ⟨σ', H', J', q⟩ := hsp; exact wpAny_execs_nil ⟨σ', H', J'.ofTry okX, q⟩
    | brk => obtain ⟨σ', H', J', q⟩ := hsp; exact ⟨σ', H', J'.ofTry okX, q⟩
    | cont => obtain ⟨σ', H', J', q⟩ := hsp; exact ⟨σ', H', J'.ofTry okX, q⟩
    | ret u => obtain ⟨v, σ', H', J', r, q⟩ := hsp; exact ⟨v, σ', H', J'.ofTry okX, r, q⟩
theorem ps_tryK (K : PySem.W.Frag) {X : Cx} {body : List Stmt} {h0 : ExceptHandler} {hds : List ExceptHandler} {l : List Clause} {pos : Pos} {tb : WX → TS} (hs : X.stack = X.env :: X.outer) (hf : X.env.frame = some X.env.locals)
    (hb : ∀ (W : WX) (pn : List (Addr × Obj)) (xe : Value → Shared → Prop), Takes (X.tr pn xe) W → PassesOwn (model X.prog X.w) X.A X.env xe → PSs (X.tr pn xe) body (tb W))
    (hh : HdsN X (h0 :: hds) l) (hk : X.K = K := by rfl) : PS X (.Try body (h0 :: hds) [] [] pos) (tTry K tb (fun _ _ _ _ => False) l) := hk ▸ ps_tryN hs hf takes0 hb hh

/-! ### defs that may raise -/
abbrev FwX := List Sl → (Dt → Prop) → (Addr → List (Str × Dt) → Prop) → Prop
def CtX (K : PySem.W.Frag) (W : FwX) : Sp := fun vs H Q E => ∃ (J : Jm) (G : Hp) (ss : List Sl) (P : Dt → Prop) (PX : Addr → List (Str × Dt) → Prop), Wf J G H ∧ SvA K J G vs ss ∧ W ss P PX ∧ (∀ v d G' H', Nx J G H G' H' → Dr K G' v d → P d → Q v H') ∧
  ∀ C d vs fs G' H', Nx J G H G' H' → G' d = some (.xd vs) → Df K G' vs fs → PX C fs → E (.ref C) (some d) H'
section
variable {K : PySem.W.Frag} {J : Jm} {env : List Sl} {R : Dt → Prop} {W : FwX} {D : DE} {ta : TA}
/-- a call that lets nothing out -/
theorem ev_callX (h : Ea K J env ta fun ss => W ss R fun _ _ => False) : Ev K J env (tCall (CtX K W) [] E0 ta) R := fun B G H σ w E Q q =>
  h B G H σ w E _ fun vs ss G1 H1 n1 r k => by
    show CtX K W (vs ++ []) H1 Q E0
    rw [List.append_nil]
    exact ⟨J, G1, ss, R, _, n1.wf w, r, k, fun v d G2 H2 n2 rd x => q v d G2 H2 (n1.trans n2) rd x, fun _ _ _ _ _ _ _ _ _ x => x.elim⟩
/-- a call within a try's body, or within a def that raises: S told what it does with the value -/
theorem sx_call {GB B G H : Hp} {σ : L2.St} (a : At K J GB B G H σ env) (x : XOk K J GB B D.xw D.xc) {E : L2.St → XK} (hE : ∀ cls d H, D.xw cls d σ H → E σ cls d H) {R : Dt → Prop} {Q : VK}
    (h : Ea K J env ta fun ss => W ss R fun C fs => D.xc C fs env) (q : ∀ v d G' H', Nx J G H G' H' → Dr K G' v d → R d → Q v H') : tCallS (CtX K W) E ta σ H Q :=
  h B G H σ a.wf a.en _ fun vs ss G1 H1 n1 r k => ⟨J, G1, ss, R, _, n1.wf a.wf, r, k, fun v d G2 H2 n2 rd y => q v d G2 H2 (n1.trans n2) rd y,
    fun C d vs fs G2 H2 n2 g rf y => hE _ _ _ (x C d vs fs env G2 H2 σ (a.then (n1.trans n2)) g rf y)⟩
theorem sv_dropS (h : Ea K J env ta fun ss => W ss (fun _ => D.nx env) fun C fs => D.xc C fs env) : Sv K J env (tDrop (tCallS (CtX K W) (WE D.xw) ta)) D := fun GB B G H σ a E q1 _ _ _ _ q6 =>
  sx_call a q6 (fun _ _ _ z => z) h fun v d G' H' n r k => q1 env G' H' σ (a.then n) k
theorem sv_retS (h : Ea K J env ta fun ss => W ss D.rt fun C fs => D.xc C fs env) : Sv K J env (tRet (tCallS (CtX K W) (WE D.xw) ta)) D := fun GB B G H σ a E _ _ _ q4 _ q6 =>
  sx_call a q6 (fun _ _ _ z => z) h fun v d G' H' n r k => q4 v d G' H' (a.nx.trans n) r k
theorem sv_asgS {i : Nat} (h : Ea K J env ta fun ss => W ss (fun d => D.nx (env.set i (.d d))) fun C fs => D.xc C fs env) : Sv K J env (tAsg (tCallS (CtX K W) (WE D.xw) ta) (gName i)) D := fun GB B G H σ a E q1 _ _ _ _ q6 =>
  sx_call a q6 (fun _ _ _ z => z) h fun v d G' H' n r k => q1 _ G' H' _ ⟨(a.then n).wf, (a.then n).nx, (a.then n).en.setD r⟩ k
/-! raise X(e), X's own __init__ keeping its argument -/
def kept (fs : List Str) (ws : List V) : List (Str × V) := (fs.zip ws).reverse
def spI (K : PySem.W.Frag) (fs : List Str) : Sp := fun vs H Q _ => ∃ (a C : Addr) (ws : List V), vs = .ref a :: ws ∧ ws.length = fs.length ∧ H a = some (exo a C none) ∧ OexC K C ∧ (∀ f ∈ fs, PySem.W.findIn K (.ref C) f = some none) ∧
  ∀ d H', H' a = some (exo a C (some d)) → H' d = some (exd d (kept fs ws)) → H d = none → d ≠ a → (∀ b, b ≠ a → b ≠ d → H' b = H b) → Q .non H'
def tRaiseT (t : L2.St → Hp → XK → Prop) (W : WX) : TS := fun _ σ H => t σ H fun cls d H' => W cls d σ H'
theorem kept_df {K : PySem.W.Frag} {G : Hp} : ∀ {fs : List Str} {ws : List V} {ds : List Dt}, Da K G ws ds → Df K G (fs.zip ws) (fs.zip ds)
  | [], _, _, _ => by simpa using Df.nil
  | _ :: _, _, _, .nil => by simpa using Df.nil
  | f :: fs, _, _, .cons r t => .cons r (kept_df t)
theorem df_append {K : PySem.W.Frag} {G : Hp} : ∀ {vs ws : List (Str × V)} {ds es : List (Str × Dt)}, Df K G vs ds → Df K G ws es → Df K G (vs ++ ws) (ds ++ es)
  | _, _, _, _, .nil, q => q
  | _, _, _, _, .cons r t, q => .cons r (df_append t q)
theorem df_rev {K : PySem.W.Frag} {G : Hp} : ∀ {vs : List (Str × V)} {ds : List (Str × Dt)}, Df K G vs ds → Df K G vs.reverse ds.reverse
  | _, _, .nil => .nil
  | _, _, .cons r t => by
    rw [List.reverse_cons, List.reverse_cons]
    exact df_append (df_rev t) (.cons r .nil)
theorem sv_raise {C : Addr} {fs : List Str} {sW : WX} (T : OexC K C) (hf : ∀ f ∈ fs, PySem.W.findIn K (.ref C) f = some none) (hW : D.xw = sW) (h : Ed K J env ta fun ds => ds.length = fs.length ∧ fs.length ≤ 1000 ∧ D.xc C (fs.zip ds).reverse env) :
    Sv K J env (tRaiseT (tMkO C (spI K fs) [] ta) sW) D := fun GB B G H σ a E _ _ _ _ _ q6 => by
  subst hW
  refine h B G H σ a.wf a.en _ fun vs ds G1 H1 n1 r ⟨hl, hz, k⟩ => ⟨by rw [r.length, hl]; exact hz, fun x hx => ?_⟩
  have hv : vs.length = fs.length := by rw [r.length, hl]
  refine ⟨x, C, vs ++ [], rfl, by rw [List.append_nil]; exact hv, upd_same, T, hf, fun d H' ea ed hd hdx kp => ⟨rfl, d, _, ea, ed, ?_, ?_⟩⟩
  · rw [upd_ne hdx] at hd; exact hd
  · rw [upd_ne hdx] at hd
    rw [List.append_nil]
    have a1 := a.then n1
    have e2 : upd (del H' x) d (.xd (kept fs vs)) = upd H1 d (.xd (kept fs vs)) := by
      funext b
      by_cases hb : b = d
      · subst hb; rw [upd_same, upd_same]
      · rw [upd_ne hb, upd_ne hb]
        by_cases hbx : b = x
        · subst hbx; rw [del_same, hx]
        · rw [del_ne hbx, kp b hbx hb, upd_ne hbx]
    rw [e2]
    have n2 := a1.wf.new hd (.xd (kept fs vs))
    exact q6 C d (kept fs vs) _ env _ _ σ (a1.then n2) upd_same ((df_rev (kept_df r)).mono n2.gg) k
end
/-! ### the caught error's fields; the try -/
section
variable {K : PySem.W.Frag} {J : Jm} {env : List Sl} {R : Dt → Prop} {D : DE}
theorem df_lookup {G : Hp} {f : Str} : ∀ {vs : List (Str × V)} {fs : List (Str × Dt)} {x : Dt}, Df K G vs fs → fs.lookup f = some x → ∃ v, vs.lookup f = some v ∧ Dr K G v x
  | _, _, _, .nil, h => by cases h
  | (g, v) :: vs, (_, d) :: fs, x, .cons r t, h => by
    rw [List.lookup_cons] at h ⊢
    by_cases e : (f == g) = true
    · rw [e] at h ⊢
      cases h
      exact ⟨v, rfl, r⟩
    · rw [Bool.not_eq_true] at e
      rw [e] at h ⊢
      exact df_lookup t h
theorem ev_xf {a C d : Addr} {f : Str} {i : Nat} {fs : List (Str × Dt)} {x : Dt} (hi : env[i]? = some (.xv a d fs)) (hx : fs.lookup f = some x) (k : R x) : Ev K J env (tXf a (.ref C) (some d) C f (tVar i)) R := fun B G H σ w E Q q => by
  obtain ⟨ov, h1, h2, vs, g, r⟩ := E.ok i _ hi
  obtain ⟨v, h3, h4⟩ := df_lookup r hx
  exact ⟨.ref a, by rw [h1, h2], rfl, rfl, d, vs, v, rfl, w.gh _ _ g, h3, q v x G H w.nx h4 k⟩
/-- the clauses, over data: for an error of class C with fields fs -/
def ClN (K : PySem.W.Frag) (J : Jm) (D : DE) (C : Addr) (fs : List (Str × Dt)) (env : List Sl) : List Clause → Prop
  | [] => False
  | k :: r => ∃ b, PySem.W.exmOne K (.ref C) k.c = some b ∧ (b = true → ∀ a d, Sv K J (env.set k.i (.xv a d fs)) (k.ts a (.ref C) (some d)) { nx := fun e => D.nx (e.set k.i .no), rt := D.rt, rm := D.rm, bk := fun e => D.bk (e.set k.i .no), ct := fun e => D.ct (e.set k.i .no) }) ∧
    (b = false → ClN K J D C fs env r)
theorem En.setX {B G H : Hp} {σ : L2.St} (E : En K J B G H σ env) {i : Nat} {a d : Addr} {vs : List (Str × V)} {fs : List (Str × Dt)} (g : G d = some (.xd vs)) (r : Df K G vs fs) : En K J B G H (σ.set i (some (.ref a))) (env.set i (.xv a d fs)) := by
  have e0 := E.setN (i := i) (ov := some (.ref a))
  refine ⟨by simp [E.len], fun k s hk => ?_, fun k j p hne hk hj h1 h2 => ?_⟩
  · by_cases e : i = k
    · subst e
      have hi : i < env.length := by
        have := (List.getElem?_eq_some_iff.mp hk).1
        simpa using this
      rw [List.getElem?_set_self hi] at hk
      cases hk
      exact ⟨_, by rw [List.getElem?_set_self (by rw [E.len]; exact hi)], rfl, vs, g, r⟩
    · rw [List.getElem?_set_ne e] at hk
      rw [List.getElem?_set_ne e]
      exact E.ok k s hk
  · have back : ∀ m : Nat, (∃ xs, (env.set i (.xv a d fs))[m]? = some (Sl.ml xs)) → ∃ xs, (env.set i .no)[m]? = some (Sl.ml xs) := fun m ⟨xs, h⟩ => by
      by_cases e : i = m
      · subst e
        have hi : i < env.length := by
          have := (List.getElem?_eq_some_iff.mp h).1
          simpa using this
        rw [List.getElem?_set_self hi] at h
        cases h
      · rw [List.getElem?_set_ne e] at h ⊢
        exact ⟨xs, h⟩
    exact e0.ap k j p hne (back k hk) (back j hj) h1 h2
theorem wN_of {GB B G H : Hp} {σ : L2.St} {C d : Addr} {vs : List (Str × V)} {fs : List (Str × Dt)} {E : Ends} (a : At K J GB B G H σ env) (g : G d = some (.xd vs)) (r : Df K G vs fs)
    (q1 : ∀ env' G' H' σ', At K J GB B G' H' σ' env' → D.nx env' → E.nx σ' H') (q2 : ∀ env' G' H' σ', At K J GB B G' H' σ' env' → D.bk env' → E.bk σ' H') (q3 : ∀ env' G' H' σ', At K J GB B G' H' σ' env' → D.ct env' → E.ct σ' H')
    (q4 : ∀ v d G' H', Nx J GB B G' H' → Dr K G' v d → D.rt d → E.rt v H') (q5 : ∀ p vs ds G' H', Nx J GB B G' H' → G' p = none → B p = none → H' p = some (.lst vs) → Da K G' vs ds → D.rm ds → E.rt (.ref p) H') :
    ∀ l, ClN K J D C fs env l → wN K (fun _ _ _ _ => False) E l (.ref C) (some d) σ H
  | [], h => h.elim
  | k :: r', ⟨b, h1, h2, h3⟩ => by
    refine ⟨b, h1, fun hb x hx => ?_, fun hb => wN_of a g r q1 q2 q3 q4 q5 r' (h3 hb)⟩
    refine h2 hb x d GB B G H _ ⟨a.wf, a.nx, a.en.setX g r⟩ (outN k.i E) ?_ ?_ ?_ q4 q5 (fun _ _ _ _ _ _ _ _ _ _ _ z => z.elim)
    · intro e G' H' σ' a' z
      exact q1 _ G' H' _ ⟨a'.wf, a'.nx, a'.en.setN⟩ z
    · intro e G' H' σ' a' z
      exact q2 _ G' H' _ ⟨a'.wf, a'.nx, a'.en.setN⟩ z
    · intro e G' H' σ' a' z
      exact q3 _ G' H' _ ⟨a'.wf, a'.nx, a'.en.setN⟩ z
theorem sv_try {tb : WX → TS} {l : List Clause} (h : ∀ W : WX, Sv K J env (tb W) { D with xw := W, xc := fun C fs e => ClN K J D C fs e l }) : Sv K J env (tTry K tb (fun _ _ _ _ => False) l) D := fun GB B G H σ a E q1 q2 q3 q4 q5 _ =>
  h (wN K (fun _ _ _ _ => False) E l) GB B G H σ a E q1 q2 q3 q4 q5 fun C d vs fs e G' H' σ' a' g r z => wN_of a' g r q1 q2 q3 q4 q5 l z
end
section
variable {P : Program} {w : World} {K : PySem.W.Frag} {mg : Str → Option Value} {base : Heap}
theorem ok_ctx {x qual : Str} {st : Stmt} {f : Addr} {fd : FuncData} {N ps : List Str} {k : Nat} {W : FwX} (F : L2.Fun K x qual st f fd) (S : FnScope N ps (defScope st)) (hn : ∀ ss P PX, W ss P PX → ss.length = ps.length)
    (hb : ∀ (cdv : Value) (A : Around) (outer : List PySem.Env) (s : Shared) (H : Hp) (E : XK), Room k (A.deeper (envOfC qual (defScope st) s.heap.objs.size f cdv)) →
      ∃ t, PSs (cxOf (L2.CX P w) P w K mg base N qual (defScope st) f cdv A outer s H E) (defBody st) t ∧ ∀ J ss P PX, W ss P PX → Sv K J (startE N ss) t { nx := fun _ => P .non, rt := P, xw := fun cls d _ H => E cls d H, xc := fun C fs _ => PX C fs }) :
    FnOk P w K mg base (L2.CX P w) (k + 1) f fd ps (CtX K W) := by
  refine F.okX S (fun vs H Q E h => ?_) (fun cdv A outer s H vs Q E hr h => ?_)
  · obtain ⟨J, G, ss, P, PX, wf, sv, hW, _⟩ := h
    rw [sv.length, hn ss P PX hW]
  · obtain ⟨J, G, ss, P, PX, wf, sv, hW, q, qx⟩ := h
    obtain ⟨t, hp, ht⟩ := hb cdv A outer s H E hr
    refine ⟨t, hp, ?_⟩
    exact ht J ss P PX hW G H G H (L2.start N vs) ⟨wf, wf.nx, en_start sv⟩ _ (fun e G' H' σ' a x => q .non .non G' H' a.nx .non x) (fun _ _ _ _ _ x => x.elim) (fun _ _ _ _ _ x => x.elim) (fun v d G' H' n r x => q v d G' H' n r x) (fun _ _ _ _ _ _ _ _ _ _ x => x.elim)
      (fun C d vs fs e G' H' σ' a g r x => qx C d vs fs G' H' a.nx g r x)
/-- a def that may raise and may be called -/
structure CalX (P : Program) (w : World) (K : PySem.W.Frag) (mg : Str → Option Value) (base : Heap) (k : Nat) (x : Str) (ps : List Str) (sp : Sp) : Prop where
  ex : ∃ f fd, FnOk P w K mg base (L2.CX P w) k f fd ps sp ∧ mg x = some (.ref f) ∧ PySem.W.keepIn K (.ref f) = true ∧ Binds K fd ps []
theorem CalX.mono {j k : Nat} {x : Str} {ps : List Str} {sp : Sp} (C : CalX P w K mg base j x ps sp) (h : j ≤ k) : CalX P w K mg base k x ps sp := by
  obtain ⟨f, fd, F, g, e, b⟩ := C.ex
  exact ⟨f, fd, F.mono h, g, e, b⟩
end
section
variable {X : Cx} {k : Nat} {x : Str} {ps : List Str} {sp : Sp} {p pos : Pos} {e : Expr} {es : List Expr} {t : TA}
/-- a call that lets nothing out -/
theorem pe_callE0 (C : CalX X.prog X.w X.K X.mg X.base k x ps sp) (hr : Room k X.A) (hg : Gl X x) (ha : PA X (e :: es) t) (hdb : (x == ("__debug__" : Str)) = false := by decide)
    (he : starEach (e :: es) X.env = (false, eval e X.env) :: starEach es X.env := by rfl) (hpl : (backTo pos (starEach es X.env)).any (·.1) = false := by rfl) : PE X (.Call (.Name x p) (e :: es) [] pos) (tCall sp [] E0 t) := by
  obtain ⟨f, fd, F, g, ke, b⟩ := C.ex
  exact pe_call F hr hg g ke b .nil passL ha hdb he hpl
/-- a call whose error goes where the code wishes -/
theorem pe_callW (W : WX) (tk : Takes X W) (C : CalX X.prog X.w X.K X.mg X.base k x ps sp) (hr : Room k X.A) (hg : Gl X x) (ha : PA X (e :: es) t) (hdb : (x == ("__debug__" : Str)) = false := by decide)
    (he : starEach (e :: es) X.env = (false, eval e X.env) :: starEach es X.env := by rfl) (hpl : (backTo pos (starEach es X.env)).any (·.1) = false := by rfl) : PE X (.Call (.Name x p) (e :: es) [] pos) (tCallS sp (WE W) t) := by
  obtain ⟨f, fd, F, g, ke, b⟩ := C.ex
  exact pe_callS F hr hg g ke b (fun σ => passAt tk σ) ha hdb he hpl
theorem ps_raiseK {W : WX} {t : L2.St → Hp → XK → Prop} (hc : X.calm = true) (tk : Takes X W) (he : PMk X e t) : PS X (.Raise (some e) none pos) (tRaiseT t W) := ps_raise hc tk he
end
end Mv

set_option Elab.async false
set_option linter.all false
set_option maxRecDepth 100000
set_option maxHeartbeats 4000000
namespace Mv
open PySem PySem.Spec PyProof.Rows L2
/-! ### more of expressions -/
section
variable {K : PySem.W.Frag} {J : Jm} {env : List Sl} {R : Dt → Prop} {D : DE} {te ta tb tc : TE}
theorem ev_chain {r r' : R2} (h : Ev K J env ta fun x => Ev K J env tb fun y => O2 K J r x y fun z => ∃ k, z = .bl k ∧ (k = true → Ev K J env tc fun w => O2 K J r' y w R) ∧ (k = false → R (.bl false))) : Ev K J env (tChain r r' ta tb tc) R := fun B G H σ w E Q q =>
  h B G H σ w E _ fun vx x G1 H1 n1 rx hb => hb B G1 H1 σ (n1.wf w) (E.mono n1) _ fun vy y G2 H2 n2 ry o =>
    o G2 H2 vx vy (n2.wf (n1.wf w)) (rx.mono n2.gg) ry _ fun vz z G3 H3 n3 rz ⟨k, e, k1, k2⟩ => by
      subst e
      cases rz
      have n13 := (n1.trans n2).trans n3
      refine ⟨k, rfl, ?_⟩
      cases k with
      | false => exact q _ _ G3 H3 n13 (.bl _) (k2 rfl)
      | true => exact k1 rfl B G3 H3 σ (n13.wf w) (E.mono n13) _ fun vw u G4 H4 n4 rw o' => o' G4 H4 vy vw (n4.wf (n13.wf w)) ((ry.mono n3.gg).mono n4.gg) rw Q fun v d G5 H5 n5 rd x => q v d G5 H5 ((n13.trans n4).trans n5) rd x
theorem bools_inv {G : Hp} : ∀ {vs : List V} {bs : List Bool}, Da K G vs (bs.map Dt.bl) → vs = bs.map V.bl
  | _, [], h => by cases h; rfl
  | _, b :: r, h => by
    cases h with
    | cons h1 h2 =>
      cases h1
      rw [bools_inv h2]
      rfl
theorem oc_all {bs : List Bool} (h : R (.bl (bs.all id))) : Oc K J (rAll K) [.lst (bs.map Dt.bl)] R := fun G H vs w rs Q q => by
  cases rs with
  | cons r1 r2 =>
    cases r2
    cases r1 with
    | lst s t =>
      have e := bools_inv t
      subst e
      exact ⟨_, bs, rfl, same_l w.gh s, q _ _ G H w.nx (.bl _) h⟩
theorem c_allK (K : PySem.W.Frag) {X : Cx} (hc : X.calm = true := by rfl) (h : X.K = K := by rfl) : CallR X (.builtin "all") (rAll K) := h ▸ cr_all hc
/-- isinstance(x, (list, tuple)) -/
theorem ev_isiLT (h : Ev K J env te fun x => noOb x = true ∧ R (.bl (isiD x "list" || isiD x "tuple"))) : Ev K J env (tCB (rIsiT K) (tCons te (tCons (tTup (tCons (tC (.ty "list")) (tCons (tC (.ty "tuple")) tNil))) tNil))) R := fun B G H σ w E Q q =>
  h B G H σ w E _ fun v x G1 H1 n1 r ⟨hn, k⟩ => ⟨by show 2 ≤ sizeLine; decide, fun p hp => by
    have w1 := n1.wf w
    have n2 := w1.new hp (.tup [.ty "list", .ty "tuple"])
    obtain ⟨t, ht, hk⟩ : ∃ t, tyD x = some t ∧ PySem.W.kitAny K (.type t) [.type "list", .type "tuple"] = some (isiD x "list" || isiD x "tuple") := by
      cases x <;> first | exact ⟨_, rfl, rfl⟩ | (cases hn)
    exact ⟨v, p, [.ty "list", .ty "tuple"], .type t, [.type "list", .type "tuple"], _, rfl, upd_same, .cons (.ty _) (.cons (.ty _) .nil), ty_of (r.mono n2.gg) (n2.wf w1).gh ht, hk, q _ _ _ _ (n1.trans n2) (.bl _) k⟩⟩
theorem c_isiTK (K : PySem.W.Frag) {X : Cx} (h : X.K = K := by rfl) : CallR X (.builtin "isinstance") (rIsiT K) := h ▸ call_isiT
/-- [f(x) for x in xs]: each yields what f tells -/
theorem em_map {wi : TI} {g : TG} {vs : List Nat} {R : List Dt → Prop} (f : Dt → Dt) (h : Ei K J env wi fun ds => ds.length ≤ 100000 ∧ (∀ d, d ∈ ds → Gt K J (wipeE env vs) g d vs fun e => Ev K J e te fun y => y = f d) ∧ R (ds.map f)) : Em K J env (tLc wi g tYes te vs) R := by
  refine em_lc fun B G H σ w E Q q => h B G H σ w E Q fun I ds G' H' n wk ⟨h1, h2, h3⟩ => q I ds G' H' n wk ⟨h1, fun k acc => acc = (ds.take k).map f, by simp, fun k d acc hd _ ha => ?_, fun acc _ ha => ?_⟩
  · intro B G H σ v w E r Q q
    refine h2 d (List.mem_of_getElem? hd) B G H σ v w E r Q fun e σ' E' k' x => q e σ' E' k' (et_yes ⟨fun _ => x.imp fun y hy => ?_, fun z => nomatch z⟩)
    subst hy ha
    rw [List.take_add_one, hd]
    simp
  · subst ha
    rw [List.take_length]
    exact h3
/-- a constant of the text that is a tuple -/
theorem dr_K {a : Addr} {o : Obj} {its : Array Value} {n : Nat} {vs : List V} {ds : List Dt} (hl : K.lookup a = some o) (hc : o.cls = .type "tuple") (hd : o.data = .seq its n) (hz : its.size ≤ sizeLine) (hv : Vals vs its.toList) (G : Hp) (r : Da K G vs ds) : Dr K G (.ref a) (.tup ds) :=
  .tup (.inr ⟨o, its, n, hl, hc, hd, hz, hv⟩) r
/-! ### instances of an own class -/
theorem ev_fld {f : Str} (h : Ev K J env te fun o => ∃ C fs x, o = .ob C fs ∧ Cls K C ∧ NoAttr K C f ∧ fs.lookup f = some x ∧ R x) : Ev K J env (tFld K te f) R := fun B G H σ w E Q q =>
  h B G H σ w E _ fun v o G1 H1 n1 r ⟨C, fs, x, e, hC, hf, hx, k⟩ => by
    subst e
    cases r with
    | @ob a _ dx vs _ s t =>
      obtain ⟨y, h3, h4⟩ := df_lookup t hx
      exact ⟨a, C, dx, vs, y, rfl, (n1.wf w).gh _ _ s, hC, hf, h3, q y x G1 H1 n1 h4 k⟩
def putD (f : Str) (d : Dt) : List (Str × Dt) → List (Str × Dt)
  | [] => [(f, d)]
  | (g, e) :: r => if g = f then (g, d) :: r else (g, e) :: putD f d r
theorem df_put {G : Hp} {f : Str} {v : V} {d : Dt} (r : Dr K G v d) : ∀ {vs : List (Str × V)} {ds : List (Str × Dt)}, Df K G vs ds → Df K G (putF f v vs) (putD f d ds)
  | _, _, .nil => .cons r .nil
  | (g, x) :: vs, (_, y) :: ds, .cons r1 t => by
    show Df K G (if g = f then (g, v) :: vs else (g, x) :: putF f v vs) (if g = f then (g, d) :: ds else (g, y) :: putD f d ds)
    by_cases e : g = f
    · rw [if_pos e, if_pos e]; exact .cons r t
    · rw [if_neg e, if_neg e]; exact .cons r1 (df_put r t)
theorem df_len {G : Hp} : ∀ {vs : List (Str × V)} {ds : List (Str × Dt)}, Df K G vs ds → vs.length = ds.length
  | _, _, .nil => rfl
  | _, _, .cons _ t => by rw [List.length_cons, List.length_cons, df_len t]
def isMi : Sl → Bool | .mi _ _ _ => true | _ => false
/-- self.f = e, self just made -/
theorem sv_fldM {f : Str} {p C : Addr} {fs : List (Str × Dt)} {rest : List Sl} (hu : (rest.all fun s => !isMi s) = true)
    (h : Ev K J (.mi p C fs :: rest) te fun d => Cls K C ∧ NoAttr K C f ∧ fs.length < 1000 ∧ D.nx (.mi p C (putD f d fs) :: rest)) : Sv K J (.mi p C fs :: rest) (sFld K (tVar 0) te f) D := fun GB B G H σ a E q1 _ _ _ _ _ =>
  h B G H σ a.wf a.en _ fun v d G1 H1 n1 rd ⟨hC, hf, hz, k⟩ => by
    have a1 := a.then n1
    obtain ⟨ov, h1, dx, vs, e, hB, hG, hm, hH, r⟩ := a1.en.ok 0 _ rfl
    refine ⟨.ref p, by rw [h1, e], p, C, dx, vs, rfl, hH, hC, hf, by rw [df_len r]; exact hz, q1 _ G1 _ σ ?_ k⟩
    have n2 := a1.nx.mut (o' := .ins C dx (putF f v vs)) hB hG hm hH
    refine ⟨⟨n2.gh, n2.ok, fun m hmm => ⟨(a1.wf.ms m hmm).1, by rw [upd_ne (ne_memP hm hmm)]; exact (a1.wf.ms m hmm).2⟩, a1.wf.tr⟩, n2, ⟨a1.en.len, fun i s hs => ?_, fun i j q hne hx hy => ?_⟩⟩
    · cases i with
      | zero =>
        cases hs
        exact ⟨ov, h1, dx, _, e, hB, hG, hm, upd_same, df_put rd r⟩
      | succ i =>
        have hs' : rest[i]? = some s := hs
        obtain ⟨ov', g1, g2⟩ := a1.en.ok (i + 1) s hs
        refine ⟨ov', g1, ?_⟩
        cases s with
        | no => trivial
        | d x => exact g2
        | hand => exact g2
        | hnd => exact g2
        | tap => exact g2
        | xv a d fs => exact g2
        | ml xs =>
          obtain ⟨q, us, e', hB', hG', hm', hH', r'⟩ := g2
          exact ⟨q, us, e', hB', hG', hm', by rw [upd_ne (ne_of hH' hH (by intro z; cases z))]; exact hH', r'⟩
        | md kvs =>
          obtain ⟨q, us, e', hB', hG', hm', hH', r'⟩ := g2
          exact ⟨q, us, e', hB', hG', hm', by rw [upd_ne (ne_of hH' hH (by intro z; cases z))]; exact hH', r'⟩
        | mi q C' fs' =>
          have := List.all_eq_true.mp hu _ (List.mem_of_getElem? hs')
          cases this
    · have hx' : ∃ xs, (Sl.mi p C fs :: rest)[i]? = some (.ml xs) := by
        cases i with
        | zero => obtain ⟨_, z⟩ := hx; cases z
        | succ i => exact hx
      have hy' : ∃ xs, (Sl.mi p C fs :: rest)[j]? = some (.ml xs) := by
        cases j with
        | zero => obtain ⟨_, z⟩ := hy; cases z
        | succ j => exact hy
      exact a1.en.ap i j q hne hx' hy'
theorem En.low {B B' G H : Hp} {σ : L2.St} (E : En K J B G H σ env) (hb : ∀ b, B b = none → B' b = none) : En K J B' G H σ env :=
  ⟨E.len, fun i s hs => by
    obtain ⟨ov, a, b⟩ := E.ok i s hs
    refine ⟨ov, a, ?_⟩
    cases s with
    | no => trivial
    | d x => exact b
    | hand => exact b
    | hnd => exact b
    | tap => exact b
    | xv a d fs => exact b
    | mi q C fs => obtain ⟨dx, us, e, hB, r⟩ := b; exact ⟨dx, us, e, hb _ hB, r⟩
    | md kvs => obtain ⟨q, us, e, hB, r⟩ := b; exact ⟨q, us, e, hb _ hB, r⟩
    | ml xs => obtain ⟨q, us, e, hB, r⟩ := b; exact ⟨q, us, e, hb _ hB, r⟩, E.ap⟩
theorem En.setI {B G H : Hp} {σ : L2.St} (E : En K J B G H σ env) {i : Nat} {p C dx : Addr} {vs : List (Str × V)} {fs : List (Str × Dt)} (hB : B p = none) (hG : G p = none) (hm : p ∉ J.ms) (hH : H p = some (.ins C dx vs)) (r : Df K G vs fs) :
    En K J B G H (σ.set i (some (.ref p))) (env.set i (.mi p C fs)) := by
  have e0 := E.setN (i := i) (ov := some (.ref p))
  refine ⟨by simp [E.len], fun k s hk => ?_, fun k j q hne hk hj => ?_⟩
  · by_cases e : i = k
    · subst e
      have hi : i < env.length := by
        have := (List.getElem?_eq_some_iff.mp hk).1
        simpa using this
      rw [List.getElem?_set_self hi] at hk
      cases hk
      exact ⟨_, by rw [List.getElem?_set_self (by rw [E.len]; exact hi)], dx, vs, rfl, hB, hG, hm, hH, r⟩
    · rw [List.getElem?_set_ne e] at hk
      rw [List.getElem?_set_ne e]
      exact E.ok k s hk
  · have back : ∀ m : Nat, (∃ xs, (env.set i (.mi p C fs))[m]? = some (Sl.ml xs)) → ∃ xs, (env.set i .no)[m]? = some (Sl.ml xs) := fun m ⟨xs, h⟩ => by
      by_cases e : i = m
      · subst e
        have hi : i < env.length := by
          have := (List.getElem?_eq_some_iff.mp h).1
          simpa using this
        rw [List.getElem?_set_self hi] at h
        cases h
      · rw [List.getElem?_set_ne e] at h ⊢
        exact ⟨xs, h⟩
    exact e0.ap k j q hne (back k hk) (back j hj)
end
/-! ### an own class's __init__, and the making of an instance -/
abbrev FwI := List Sl → (List (Str × Dt) → Prop) → (Addr → List (Str × Dt) → Prop) → Prop
def CtI (K : PySem.W.Frag) (C : Addr) (W : FwI) : Sp := fun vs H Q E => ∃ (J : Jm) (G H0 : Hp) (p dx : Addr) (ws : List V) (ss : List Sl) (P : List (Str × Dt) → Prop) (PX : Addr → List (Str × Dt) → Prop), vs = .ref p :: ws ∧ H p = some (.ins C dx []) ∧ H0 p = none ∧ G p = none ∧ p ∉ J.ms ∧
  Wf J G H ∧ Nx J G H0 G H ∧ SvA K J G ws ss ∧ W ss P PX ∧ (∀ fs us dy G' H', Nx J G H0 G' H' → G' p = none → H' p = some (.ins C dy us) → Df K G' us fs → P fs → Q .non H') ∧
  ∀ C' d us fs G' H', Nx J G H0 G' H' → G' d = some (.xd us) → Df K G' us fs → PX C' fs → E (.ref C') (some d) H'
section
variable {P : Program} {w : World} {K : PySem.W.Frag} {mg : Str → Option Value} {base : Heap}
theorem ok_cti {x qual : Str} {st : Stmt} {f C : Addr} {fd : FuncData} {N ps : List Str} {k : Nat} {W : FwI} (F : L2.Fun K x qual st f fd) (S : FnScope N ps (defScope st)) (hn : ∀ ss P PX, W ss P PX → ss.length + 1 = ps.length)
    (hb : ∀ (cdv : Value) (A : Around) (outer : List PySem.Env) (s : Shared) (H : Hp) (E : XK), Room k (A.deeper (envOfC qual (defScope st) s.heap.objs.size f cdv)) →
      ∃ t, PSs (cxOf (L2.CX P w) P w K mg base N qual (defScope st) f cdv A outer s H E) (defBody st) t ∧ ∀ J p ss P PX, W ss P PX → Sv K J (startE N (.mi p C [] :: ss)) t { nx := fun e => ∃ fs, e[0]? = some (.mi p C fs) ∧ P fs, rt := fun _ => False, xw := fun cls d _ H => E cls d H, xc := fun C fs _ => PX C fs }) :
    FnOk P w K mg base (L2.CX P w) (k + 1) f fd ps (CtI K C W) := by
  refine F.okX S (fun vs H Q E h => ?_) (fun cdv A outer s H vs Q E hr h => ?_)
  · obtain ⟨J, G, H0, p, dx, ws, ss, P, PX, rfl, _, _, _, _, _, _, sv, hW, _⟩ := h
    rw [List.length_cons, sv.length, hn ss P PX hW]
  · obtain ⟨J, G, H0, p, dx, ws, ss, P, PX, rfl, hH, h0, hG, hm, wf, nx, sv, hW, q, qx⟩ := h
    obtain ⟨t, hp, ht⟩ := hb cdv A outer s H E hr
    refine ⟨t, hp, ?_⟩
    have sv0 : SvA K J G (.non :: ws) (.d .non :: ss) := .cons (show Dr K G .non .non from .non) sv
    have e0 := (en_start (N := N) sv0).low (B' := H0) fun b hb => by
      cases z : H0 b with
      | none => rfl
      | some o => exact absurd hb (nx.th b (by rw [z]; simp))
    have e1 := e0.setI (i := 0) h0 hG hm hH .nil
    exact ht J p ss P PX hW G H0 G H (L2.start N (.ref p :: ws)) ⟨wf, nx, e1⟩ _ (fun e G' H' σ' a ⟨fs, h1, x⟩ => by
        obtain ⟨ov, g1, dy, us, e2, _, g3, _, g4, r⟩ := a.en.ok 0 _ h1
        exact q fs us dy G' H' a.nx g3 g4 r x) (fun _ _ _ _ _ x => x.elim) (fun _ _ _ _ _ x => x.elim) (fun _ _ _ _ _ _ x => x.elim) (fun _ _ _ _ _ _ _ _ _ _ x => x.elim)
      (fun C d vs fs e G' H' σ' a g r x => qx C d vs fs G' H' a.nx g r x)
theorem ev_make {J : Jm} {env : List Sl} {R : Dt → Prop} {C : Addr} {W : FwI} {t : TA} (h : Ea K J env t fun ss => W ss (fun fs => R (.ob C fs)) fun _ _ => False) : Ev K J env (tMake C (CtI K C W) [] E0 t) R := fun B G H σ w E Q q =>
  h B G H σ w E _ fun vs ss G1 H1 n1 r k => fun x dx hx hdx hne => by
    show CtI K C W (.ref x :: (vs ++ [])) _ _ _
    rw [List.append_nil]
    have w1 := n1.wf w
    have n2 := w1.newM hdx (.own x)
    have w2 := n2.wf w1
    have hx2 : (upd H1 dx (.own x)) x = none := by rw [upd_ne hne.symm]; exact hx
    have n3 := w2.newM hx2 (.ins C dx [])
    have n23 := n2.trans n3
    refine ⟨J, G1, H1, x, dx, vs, ss, _, _, rfl, upd_same, hx, w1.free hx, w1.notin hx, n23.wf w1, n23, r, k, fun fs us dy G' H' n hG hH rf p => ⟨rfl, ?_⟩, fun _ _ _ _ _ _ _ _ _ z => z.elim⟩
    have hHx : H x = none := by
      cases z : H x with
      | none => rfl
      | some o => exact absurd hx (n1.th x (by rw [z]; simp))
    have nn := n1.trans n
    exact q (.ref x) (.ob C fs) _ _ (nn.fix hHx hG hH) (.ob upd_same (rf.mono fun b o e => by rw [upd_ne (ne_of_none e hG)]; exact e)) p
/-! ### errors' own __init__ -/
theorem ok_init1 {f qual : Str} {st : Stmt} {fI : Addr} {fd : FuncData} {N ps : List Str} (F : L2.Fun K "__init__" qual st fI fd) (S : FnScope N ps (defScope st)) (hps : ps.length = 2)
    (hb : ∀ (cdv : Value) (A : Around) (outer : List PySem.Env) (s : Shared) (H : Hp) (E : XK), PSs (cxOf CX0 P w K mg base N qual (defScope st) fI cdv A outer s H E).nox (defBody st) (tOst K f (tVar 0) (tVar 1))) :
    FnOk P w K mg base CX0 1 fI fd ps (spI K [f]) := by
  refine F.ok S (fun vs H Q E h => ?_) (fun cdv A outer s H vs Q E hr h => ⟨_, hb cdv A outer s H E, ?_⟩)
  · obtain ⟨a, C, ws, rfl, hl, _⟩ := h
    rw [List.length_cons, hl, hps]
    rfl
  · obtain ⟨a, C, ws, rfl, hl, hH, T, hf, k⟩ := h
    match ws, hl with
    | [v], _ => exact ⟨v, rfl, .ref a, rfl, a, C, rfl, T, hf f (by simp), .inl ⟨hH, fun dx hd hne => k dx _ upd_same (by rw [upd_ne hne]; exact upd_same) hd hne fun b h1 h2 => by rw [upd_ne h1, upd_ne h2]⟩⟩
theorem ok_init2 {f g qual : Str} {st : Stmt} {fI : Addr} {fd : FuncData} {N ps : List Str} (F : L2.Fun K "__init__" qual st fI fd) (S : FnScope N ps (defScope st)) (hps : ps.length = 3)
    (hb : ∀ (cdv : Value) (A : Around) (outer : List PySem.Env) (s : Shared) (H : Hp) (E : XK), PSs (cxOf CX0 P w K mg base N qual (defScope st) fI cdv A outer s H E).nox (defBody st) (tSeq (tOst K f (tVar 0) (tVar 1)) (tOst K g (tVar 0) (tVar 2)))) :
    FnOk P w K mg base CX0 1 fI fd ps (spI K [f, g]) := by
  refine F.ok S (fun vs H Q E h => ?_) (fun cdv A outer s H vs Q E hr h => ⟨_, hb cdv A outer s H E, ?_⟩)
  · obtain ⟨a, C, ws, rfl, hl, _⟩ := h
    rw [List.length_cons, hl, hps]
    rfl
  · obtain ⟨a, C, ws, rfl, hl, hH, T, hf, k⟩ := h
    match ws, hl with
    | [v, u], _ =>
      refine ⟨v, rfl, .ref a, rfl, a, C, rfl, T, hf f (by simp), .inl ⟨hH, fun dx hd hne => ⟨u, rfl, .ref a, rfl, a, C, rfl, T, hf g (by simp), .inr ⟨dx, [(f, v)], upd_same, by rw [upd_ne hne]; exact upd_same, by simp, ?_⟩⟩⟩⟩
      exact k dx _ (by rw [upd_ne hne.symm]; exact upd_same) upd_same hd hne fun b h1 h2 => by rw [upd_ne h2, upd_ne h1, upd_ne h2]
/-- an error's class and its maker -/
structure Exk (P : Program) (w : World) (K : PySem.W.Frag) (mg : Str → Option Value) (base : Heap) (x : Str) (ps fs : List Str) (C fI : Addr) (fd : FuncData) : Prop where
  ex : OexC K C
  xf : XfC K C
  g : mg x = some (.ref C)
  nf : ∀ f ∈ fs, PySem.W.findIn K (.ref C) f = some none
  iC : PySem.W.findIn K (.ref C) "__init__" = some (some (.ref fI))
  tI : PySem.W.typeIn K (.ref fI) = some (.type "function")
  fn : FnOk P w K mg base CX0 1 fI fd ps (spI K fs)
  b : Binds K fd ps []
  iK : PySem.W.isClsIn K C = true
theorem exm_of {C D : Addr} {b : Bool} (h1 : PySem.W.subIn K (.ref D) (.type "BaseException") = some true) (h2 : PySem.W.isClsIn K D = true) (h3 : PySem.W.typeIn K (.ref D) = some (.type "type")) (h4 : PySem.W.subIn K (.ref C) (.ref D) = some b) :
    PySem.W.exmOne K (.ref C) (.ref D) = some b := by
  have e1 : (PySem.W.subIn K (.ref D) (.type "BaseException") == some true) = true := by rw [h1] <;> rfl
  have e2 : ((PySem.W.clsIn K D).isSome && PySem.W.typeIn K (.ref D) == some (.type "type")) = true := by
    have h2' : (PySem.W.clsIn K D).isSome = true := h2
    rw [h2', h3] <;> rfl
  show (if (PySem.W.subIn K (.ref D) (.type "BaseException") == some true) = true then (if ((PySem.W.clsIn K D).isSome && PySem.W.typeIn K (.ref D) == some (.type "type")) = true then PySem.W.subIn K (.ref C) (.ref D) else none) else none) = some b
  rw [if_pos e1, if_pos e2]
  exact h4
/-- an own class of which instances are made -/
structure Ins (K : PySem.W.Frag) (C : Addr) (fs : List Str) : Prop where
  cls : Cls K C
  nf : ∀ f ∈ fs, NoAttr K C f
structure MkI (P : Program) (w : World) (K : PySem.W.Frag) (mg : Str → Option Value) (base : Heap) (k : Nat) (x : Str) (ps : List Str) (C : Addr) (sp : Sp) : Prop where
  ex : ∃ f fd, Mk K C f ∧ FnOk P w K mg base (L2.CX P w) k f fd ps sp ∧ mg x = some (.ref C) ∧ Binds K fd ps []
end
theorem pe_makeC {X : Cx} {k : Nat} {x : Str} {ps : List Str} {C : Addr} {sp : Sp} {p pos : Pos} {e : Expr} {es : List Expr} {t : TA} (M : MkI X.prog X.w X.K X.mg X.base k x ps C sp) (hr : Room (k + 1) X.A) (hg : Gl X x) (ha : PA X (e :: es) t)
    (hdb : (x == ("__debug__" : Str)) = false := by decide) (he : starEach (e :: es) X.env = (false, eval e X.env) :: starEach es X.env := by rfl) (hpl : (backTo pos (starEach es X.env)).any (·.1) = false := by rfl) : PE X (.Call (.Name x p) (e :: es) [] pos) (tMake C sp [] E0 t) := by
  obtain ⟨f, fd, m, F, g, b⟩ := M.ex
  exact pe_make m F hr hg g b .nil passL ha hdb he hpl
theorem pe_fldK (K : PySem.W.Frag) {X : Cx} {e : Expr} {f : Str} {pos : Pos} {ta : TE} (h : PE X e ta) (hk : X.K = K := by rfl) (ha : attributeBase e f X.env (eval e X.env) = eval e X.env := by rfl) : PE X (.Attribute e f pos) (tFld K ta f) := hk ▸ pe_fld h ha
theorem ps_fldK (K : PySem.W.Frag) {X : Cx} {o value : Expr} {f : Str} {pos pos' : Pos} {ta tv : TE} (ho : PE X o ta) (hv : PE X value tv) (hk : X.K = K := by rfl) (hs : swapsWith value (some (o.Attribute f pos')) pos.line X.env = pure false := by rfl) :
    PS X (.Assign [.Attribute o f pos'] value pos) (sFld K ta tv f) := hk ▸ ps_fld ho hv hs
end Mv

set_option Elab.async false
set_option linter.all false
set_option maxRecDepth 100000
set_option maxHeartbeats 4000000
namespace Mv
open PySem PySem.Spec PyProof.Rows L2
/-! ### tuples put together and cut; sums, greatest; zip -/
section
variable {K : PySem.W.Frag} {J : Jm} {env : List Sl} {R : Dt → Prop} {D : DE} {te ta tb tc : TE}
theorem Da.nil_iff {G : Hp} {vs : List V} {ds : List Dt} (r : Da K G vs ds) : vs = [] ↔ ds = [] := by
  cases r <;> simp
theorem o2_cat {xs ys : List Dt} (hz : xs.length + ys.length ≤ 100000) (h : R (.tup (xs ++ ys))) : O2 K J (rCatA K) (.tup xs) (.tup ys) R := fun G H vx vy w rx ry Q q => by
  cases rx with
  | @tup a us _ s t =>
    cases ry with
    | @tup b ws _ s' t' =>
      refine ⟨a, b, us, ws, rfl, rfl, same_t w.gh s, same_t w.gh s', sz_of (by rw [t.length, t'.length]; exact hz), fun e => ?_, fun _ e => ?_, fun _ _ p hp => ?_⟩
      · have := t.nil_iff.mp e
        subst this
        exact q (.ref b) (.tup ys) G H w.nx (.tup s' t') h
      · have := t'.nil_iff.mp e
        subst this
        rw [List.append_nil] at h
        exact q (.ref a) (.tup xs) G H w.nx (.tup s t) h
      · have n := w.new hp (.tup (us ++ ws))
        exact q (.ref p) (.tup (xs ++ ys)) _ _ n (.tup (.inl (.inl upd_same)) ((t.append t').mono n.gg)) h
theorem op_catAK (K : PySem.W.Frag) {X : Cx} (h : X.K = K := by rfl) : OpR X (binaryOp .Add) (rCatA K) := h ▸ op_catA
/-- a tuple cut -/
def cutD (xs : List Dt) (lo hi : Option Int) : List Dt := List.take (HT.sIx xs.length xs.length hi - HT.sIx xs.length 0 lo) (List.drop (HT.sIx xs.length 0 lo) xs)
def Ep (K : PySem.W.Frag) (J : Jm) (env : List Sl) (tp : TO) (R : Option Int → Prop) : Prop := ∀ (B G H : Hp) (σ : L2.St), Wf J G H → En K J B G H σ env → ∀ Q : Option Int → Hp → Prop, (∀ o G' H', Nx J G H G' H' → R o → Q o H') → tp σ H Q
theorem ep_none {R : Option Int → Prop} (h : R none) : Ep K J env tNoPart R := fun B G H σ w E Q q => q none G H w.nx h
theorem ep_some {R : Option Int → Prop} (h : Ev K J env te fun x => ∃ i, x = .int i ∧ R (some i)) : Ep K J env (tPart te) R := fun B G H σ w E Q q =>
  h B G H σ w E _ fun v x G1 H1 n1 r ⟨i, e, k⟩ => by
    subst e
    cases r
    exact ⟨i, rfl, q (some i) G1 H1 n1 k⟩
theorem sIx_le {n d : Nat} (hd : d ≤ n) (x : Option Int) (h : ∀ v, x = some v → v < 0 → (v + n).toNat ≤ n) : HT.sIx n d x ≤ n := by
  cases x with
  | none => exact hd
  | some v =>
    show (if v < 0 then (v + ↑n).toNat else min v.toNat n) ≤ n
    split
    · rename_i hv; exact h v rfl hv
    · exact Nat.min_le_right _ _
theorem ev_slT {tl th : TO} (h : Ev K J env te fun x => ∃ xs, x = .tup xs ∧ Ep K J env tl fun lo => Ep K J env th fun hi => R (.tup (cutD xs lo hi))) : Ev K J env (tSl (rSlA K) te tl th) R := fun B G H σ w E Q q =>
  h B G H σ w E _ fun v x G1 H1 n1 r ⟨xs, e, k⟩ => by
    subst e
    have w1 := n1.wf w
    refine k B G1 H1 σ w1 (E.mono n1) _ fun lo G2 H2 n2 k2 => k2 B G2 H2 σ (n2.wf w1) (E.mono (n1.trans n2)) _ fun hi G3 H3 n3 k3 => ?_
    have n13 := (n1.trans n2).trans n3
    have w3 := n13.wf w
    have r3 := r.mono (n2.gg.trans n3.gg)
    cases r3 with
    | @tup a vs _ s t =>
      refine ⟨a, vs, rfl, same_t w3.gh s, fun hw => ?_, fun _ p hp => ?_⟩
      · have e : cutD xs lo hi = xs := by
          unfold cutD
          rw [t.length] at hw
          rw [hw.1, hw.2]
          simp
        have k3' : R (.tup (cutD xs lo hi)) := k3
        rw [e] at k3'
        exact q _ _ G3 H3 n13 (.tup s t) k3'
      · have n4 := w3.new hp (.tup (cutV vs lo hi))
        refine q _ _ _ _ (n13.trans n4) (.tup (.inl (.inl upd_same)) ?_) k3
        have : Da K G3 (cutV vs lo hi) (cutD xs lo hi) := by
          unfold cutV cutD
          rw [t.length]
          exact Da.take _ (Da.drop _ t)
        exact this.mono n4.gg
theorem sl_tupAK (K : PySem.W.Frag) {X : Cx} (h : X.K = K := by rfl) : SlR X (rSlA K) := h ▸ sl_tupA
theorem sIx_nat {n d j : Nat} : HT.sIx n d (some (j : Int)) = min j n := by
  show (if (j : Int) < 0 then ((j : Int) + (n : Int)).toNat else min (j : Int).toNat n) = min j n
  rw [if_neg (by omega), Int.toNat_natCast]
theorem cut_to {xs : List Dt} {j : Nat} : cutD xs none (some (j : Int)) = xs.take j := by
  unfold cutD
  rw [sIx_nat]
  show List.take (min j xs.length - 0) (List.drop 0 xs) = _
  rw [Nat.sub_zero, List.drop_zero]
  by_cases h : j ≤ xs.length
  · rw [Nat.min_eq_left h]
  · rw [Nat.min_eq_right (by omega), List.take_of_length_le (Nat.le_refl _), List.take_of_length_le (by omega)]
theorem cut_from {xs : List Dt} {j : Nat} : cutD xs (some (j : Int)) none = xs.drop j := by
  unfold cutD
  rw [sIx_nat]
  show List.take (xs.length - min j xs.length) (List.drop (min j xs.length) xs) = _
  by_cases h : j ≤ xs.length
  · rw [Nat.min_eq_left h]
    exact List.take_of_length_le (by simp)
  · rw [Nat.min_eq_right (by omega), List.drop_of_length_le (by omega : xs.length ≤ j), Nat.sub_self]
    rfl
theorem oc_lstT {ds : List Dt} (h : R (.lst ds)) : Oc K J (Mv.rLst K) [.tup ds] R := fun G H vs w rs Q q => by
  cases rs with
  | cons r1 r2 =>
    cases r2
    cases r1 with
    | @tup a us _ s t =>
      refine ⟨a, us, rfl, .inr (same_t w.gh s), fun l hl => ?_⟩
      have n := w.new hl (.lst us)
      exact q _ _ _ _ n (.lst (.inl (.inl upd_same)) (t.mono n.gg)) h
theorem oc_lstL {ds : List Dt} (h : R (.lst ds)) : Oc K J (Mv.rLst K) [.lst ds] R := fun G H vs w rs Q q => by
  cases rs with
  | cons r1 r2 =>
    cases r2
    cases r1 with
    | @lst a us _ s t =>
      refine ⟨a, us, rfl, .inl (same_l w.gh s), fun l hl => ?_⟩
      have n := w.new hl (.lst us)
      exact q _ _ _ _ n (.lst (.inl (.inl upd_same)) (t.mono n.gg)) h
theorem oc_sum {ns : List Int} (h : R (.int ns.sum)) : Oc K J (rSum K) [.lst (ns.map Dt.int)] R := fun G H vs w rs Q q => by
  cases rs with
  | cons r1 r2 =>
    cases r2
    cases r1 with
    | lst s t =>
      have e := t.ints_inv
      subst e
      exact ⟨_, ns, rfl, same_l w.gh s, q _ _ G H w.nx (.int _) h⟩
theorem c_sumK (K : PySem.W.Frag) {X : Cx} (hc : X.calm = true := by rfl) (h : X.K = K := by rfl) : CallR X (.builtin "sum") (rSum K) := h ▸ cr_sum hc
theorem oc_maxL {ns : List Int} (hne : 0 < ns.length) (h : ∀ m, m ∈ ns → (∀ y ∈ ns, y ≤ m) → R (.int m)) : Oc K J (L2.rMax K) [.lst (ns.map Dt.int)] R := fun G H vs w rs Q q => by
  cases rs with
  | cons r1 r2 =>
    cases r2
    cases r1 with
    | lst s t =>
      have e := t.ints_inv
      subst e
      exact ⟨_, ns, rfl, same_l w.gh s, hne, fun m hm hy => q _ _ G H w.nx (.int _) (h m hm hy)⟩
theorem c_maxLK (K : PySem.W.Frag) {X : Cx} (hc : X.calm = true := by rfl) (h : X.K = K := by rfl) : CallR X (.builtin "max") (L2.rMax K) := h ▸ cr_max hc
def zipD (xs ys : List Dt) : List Dt := List.zipWith pairD xs ys
theorem zipD_len {xs ys : List Dt} (h : xs.length = ys.length) : (zipD xs ys).length = xs.length := by
  unfold zipD
  rw [List.length_zipWith, h, Nat.min_self]
theorem walk_zipT {a b : Addr} {xs ys : List V} (h : xs.length = ys.length) : Walk (RZ.ItzT K a b) xs.length (fun H => SqT K H a xs ∧ SqT K H b ys) (YPair (fun i => xs[i]?) fun i => ys[i]?) := by
  refine ⟨fun i _ hi q => ⟨xs, ys, xs[i], ys[i], q.1, q.2, by simp [hi], by simp [show i < ys.length by omega]⟩, fun _ q => ⟨xs, ys, q.1, q.2, .inl (Nat.le_refl _)⟩, fun i H v H' _ q y => ?_⟩
  obtain ⟨T, x, y, h1, h2, h3, h4, h5⟩ := y
  exact ⟨T, x, y, h1, h2, h3, h4 xs q.1, h5 ys q.2⟩
theorem ei_zipT {ta : TA} {R : List Dt → Prop} (h : Ed K J env ta fun zs => ∃ xs ys, zs = [.tup xs, .tup ys] ∧ xs.length = ys.length ∧ R (zipD xs ys)) : Ei K J env (RZ.iZipA K ta) R := fun B G H σ w E Q q =>
  h B G H σ w E _ fun vs zs G1 H1 n1 r ⟨xs, ys, e, hl, k⟩ => by
    subst e
    have w1 := n1.wf w
    cases r with
    | cons r1 r2 =>
      cases r2 with
      | cons r2 r3 =>
        cases r3
        cases r1 with
        | @tup a us _ s t =>
          cases r2 with
          | @tup b ws _ s' t' =>
            have hl' : us.length = ws.length := by rw [t.length, t'.length, hl]
            refine ⟨a, b, us, ws, rfl, .inr ⟨same_t w1.gh s, same_t w1.gh s', q _ _ G1 H1 n1 (wk_pairs (walk_zipT hl') (by rw [zipD_len hl, t.length]) (fun G2 H2 s1 s2 => ⟨same_t (s1.trans s2) s, same_t (s1.trans s2) s'⟩) fun i x y h1 h2 => ?_) k⟩⟩
            obtain ⟨c, hc, rc⟩ := t.get' h1
            obtain ⟨d, hd, rd⟩ := t'.get' h2
            exact ⟨c, d, by unfold zipD; rw [List.getElem?_zipWith, hc, hd], rc, rd⟩
end
end Mv

set_option Elab.async false
set_option linter.all false
set_option maxRecDepth 100000
set_option maxHeartbeats 4000000
namespace Mv
open PySem PySem.Spec PyProof.Rows L2
/-! ### a set of ints, by a comprehension -/
def tScI (wi : TI) (g : TG) (tt : TT) (te : TE) (vs : List Nat) : TE := fun σ H Q => wi σ H fun J H1 => ∀ D : Addr, H1 D = none → ∃ W : Nat → Nat → Hp → Prop, (∃ m, W 0 m (upd H1 D (.set (fun _ => false) 0))) ∧
  ∀ (i m : Nat) (H : Hp), W i m H → (J.stop i H ∧ Q (.ref D) H) ∨ (J.go i H ∧ ∃ Nx : Hp → Prop, (∀ H', Nx H' → ∃ m', m' < m ∧ W (i + 1) m' H') ∧
    ∀ (x : V) (H' : Hp), J.yld i H x H' → g x (wipe σ vs) H' fun σ2 H2 => wipe σ2 vs = wipe σ vs ∧ tt σ2 H2 fun b H3 => if b = true then te σ2 H3 fun y H4 =>
      ∃ (c : Int) (S : Int → Bool) (n : Nat), y = .int c ∧ H4 D = some (.set S n) ∧ n + 1 < scanBound ∧ Nx (upd H4 D (.set (fun j => S j || decide (j = c)) (if S c = true then n else n + 1))) else Nx H3)
theorem addI_ok {X : Cx} {pins : List (Addr × Obj)} {σ : L2.St} {H : Hp} {s : Shared} {E : Value → Shared → Prop} {D : Addr} {S : Int → Bool} {n : Nat} {y : Int} {tk : Tok} {Q : Value → Shared → Prop} (I : L2.Inv X pins σ H s) (hD : H D = some (.set S n)) (hn : n + 1 < scanBound)
    (q : ∀ s', L2.Inv X pins σ (upd H D (.set (fun j => S j || decide (j = y)) (if S y = true then n else n + 1))) s' → Q .none s') : wpAny (model X.prog X.w) X.A (call (.builtin "set.add") [.ref D, .int y tk]) Q E s := by
  have ho : Heap.SetOf (intKind X.prog X.w) s.heap D S n := I.hok D _ hD
  refine PySem.call_set_add (knd := intKind X.prog X.w) (k := y) (show Value.isInt y (Value.int y tk) = true by simp [Value.isInt]) rfl ho hn fun h' sb hs => ?_
  refine q _ (I.write (e := D) (x := D) ?_ (.inl rfl) (fun b u hb e => (sb.2 b hb).trans e) ?_ hs)
  · rw [hD]; exact trivial
  · obtain ⟨o, es, ep, t, e, _⟩ := hs
    exact ⟨o, e⟩
theorem sc_loop {X : Cx} {elt tg iter : Expr} {ifs : List Expr} {scope : Scope} {own : List (Str × Nat)} {pos : Pos} {g : TG} {tt : TT} {te : TE} (hc : X.calm = true) (hN : X.N.Nodup) (hB : BlkOk X.N X.env.scope scope own)
    (hG : ∀ (s : Shared) (H : Hp) (C : Addr) (cl : List (Str × Addr)) (fp : List Addr), PG (X.blk s H scope (compEnvC scope cl C X.env) fp) tg g)
    (hT : ∀ (s : Shared) (H : Hp) (C : Addr) (cl : List (Str × Addr)) (fp : List Addr), PTs (X.blk s H scope (compEnvC scope cl C X.env) fp) ifs tt)
    (hE : ∀ (s : Shared) (H : Hp) (C : Addr) (cl : List (Str × Addr)) (fp : List Addr), PE (X.blk s H scope (compEnvC scope cl C X.env) fp) elt te)
    {pins : List (Addr × Obj)} {s3 : Shared} {σ : L2.St} {H3 : Hp} {Q : VK} {it D : Addr} {fp : List Addr} {tn : Nat → Heap → Prop} {J : It} {W : Nat → Nat → Hp → Prop}
    (I3 : L2.Inv X pins σ H3 s3) (fok3 : ∀ b, b ∈ fp → FpOk X pins H3 b ∧ b < s3.heap.objs.size) (T : Turn X.prog X.w X.K tg J fp it tn) (t3 : tn 0 s3.heap) (w0 : ∃ m, W 0 m H3)
    (step : ∀ (i m : Nat) (H : Hp), W i m H → (J.stop i H ∧ Q (.ref D) H) ∨ (J.go i H ∧ ∃ Nx : Hp → Prop, (∀ H', Nx H' → ∃ m', m' < m ∧ W (i + 1) m' H') ∧
      ∀ (x : V) (H' : Hp), J.yld i H x H' → g x (wipe σ (own.map fun x => x.2)) H' fun σ2 H2 => wipe σ2 (own.map fun x => x.2) = wipe σ (own.map fun x => x.2) ∧ tt σ2 H2 fun b H3 => if b = true then te σ2 H3 fun y H4 =>
        ∃ (c : Int) (S : Int → Bool) (n : Nat), y = .int c ∧ H4 D = some (.set S n) ∧ n + 1 < scanBound ∧ Nx (upd H4 D (.set (fun j => S j || decide (j = c)) (if S c = true then n else n + 1))) else Nx H3)) :
    codeAny (model X.prog X.w) X.A (Code.compStart (.SetComp elt [⟨tg, iter, ifs, 0⟩] scope pos) 0 (.ref it) (.ref D) (compEnvC scope (cellsFrom (s3.heap.objs.size + 1) scope.names (cloFrom X.env.cells scope.names [])) s3.heap.objs.size X.env))
      (compPost (model X.prog X.w) X.A X.xe none (EP X pins σ Q) (.ref D) s3.heap.objs.size)
      { heap := pushCells (s3.heap.push { cls := Value.type "dict", data := Data.dict #[] }) scope.names, gens := s3.gens, drawn := s3.drawn, toks := s3.toks, os := s3.os } := by
  have I4 := block_start I3 hB hN fok3
  obtain ⟨m0, w0⟩ := w0
  generalize hcl : cellsFrom (s3.heap.objs.size + 1) scope.names (cloFrom X.env.cells scope.names []) = cl at *
  have fk : ∀ {H' : Hp} {s' : Shared}, L2.Inv (X.blk s3 H3 scope (compEnvC scope cl s3.heap.objs.size X.env) fp) [] (wipe σ (own.map fun x => x.2)) H' s' → (∀ b, b ∈ fp → H' b = none) → ∀ b, b ∈ fp → FpOk (X.blk s3 H3 scope (compEnvC scope cl s3.heap.objs.size X.env) fp) [] H' b :=
    fun I' hfr b hb => ⟨hfr b hb, (I'.ok.exf b hb).1, I'.ok.exfs b hb, .inl hb, (I'.ok.exf b hb).2, fun p hp => nomatch hp⟩
  have t4 : tn 0 (pushCells (s3.heap.push { cls := Value.type "dict", data := Data.dict #[] }) scope.names) := T.keep 0 _ _ t3 fun b hb o e => pushCells_keeps _ _ _ _ (Heap.get?_push_of_some _ e)
  have key := PpSet.compLoopS_any (prog := X.prog) (w := X.w) (A := X.A) (R := compPost (model X.prog X.w) X.A X.xe none (EP X pins σ Q) (.ref D) s3.heap.objs.size) (env := compEnvC scope cl s3.heap.objs.size X.env) (elt := elt) (target := tg) (iter := iter) (ifs := ifs) (scope := scope) (pos := pos) (it := .ref it) (acc := .ref D)
    (s := { heap := pushCells (s3.heap.push { cls := Value.type "dict", data := Data.dict #[] }) scope.names, gens := s3.gens, drawn := s3.drawn, toks := s3.toks, os := s3.os })
    (fun n s' => ∃ i H', L2.Inv (X.blk s3 H3 scope (compEnvC scope cl s3.heap.objs.size X.env) fp) [] (wipe σ (own.map fun x => x.2)) H' s' ∧ tn i s'.heap ∧ (∀ b, b ∈ fp → H' b = none) ∧ W i n H') ?turn m0 ⟨0, H3, I4, t4, fun b hb => (fok3 b hb).1.1, w0⟩
  case turn =>
    rintro n s' ⟨i, H', I', ti, hfr, w⟩
    rcases step i n H' w with ⟨hs, hq⟩ | ⟨hgo, Nx, hNx, hy⟩
    · refine thn (T.done (X.blk s3 H3 scope (compEnvC scope cl s3.heap.objs.size X.env) fp) rfl rfl rfl hc i [] s' _ H' _ I' (fk I' hfr) ti hs) fun r s6 ⟨hr, I6⟩ => ?_
      subst hr
      obtain ⟨m, hm, _⟩ := I6.loc
      refine ⟨m, hm, fun h' sb => ?_⟩
      have I7 : L2.Inv X pins σ H' s6 := I3.call' I6.os I6.base I6.hok I6.bare fun b hb => let f := (fok3 b hb).1; ⟨f.2.2.2.1, f.2.1, f.2.2.2.2.1, f.2.2.2.2.2⟩
      have fC := I3.fpOk (b := s3.heap.objs.size) (Nat.le_refl _) (H' := H') I6.free
      exact ⟨.ref D, H', I7.turned (h' := h') (t' := s6.toks) (fun b o hb e => (sb.2 b hb).trans e) fC.1 fC.2.1 fC.2.2.2.1 fC.2.2.2.2.1 fC.2.2.2.2.2, rfl, hq⟩
    · refine thn (T.item (X.blk s3 H3 scope (compEnvC scope cl s3.heap.objs.size X.env) fp) rfl rfl rfl hc i [] s' _ H' _ I' (fk I' hfr) ti hgo) fun r s5 ⟨u, hr, hl⟩ => ?_
      subst hr
      refine thn hl fun _ s5 ⟨x, H5, I5, rx, hyl, t5, hf5⟩ => ?_
      have I5p := I5.pinned (fk I5 hf5) (T.obj (i + 1) _ t5)
      refine thnF ((hG _ _ _ _ _).run _ s5 _ H5 x u _ I5p rx (hy x H5 hyl)) fun _ s6 ⟨σ6, H6, I6, hw6, ht6⟩ => ?_
      refine thnF ((hT _ _ _ _ _).run _ s6 σ6 H6 _ I6 ht6) fun ok s7 ⟨H7, I7, h7⟩ => ?_
      -- what stands of the walk's own objects, whatever came behind
      have back : ∀ {σ' : L2.St} {H' : Hp} {s' : Shared}, L2.Inv (X.blk s3 H3 scope (compEnvC scope cl s3.heap.objs.size X.env) fp) ([] ++ pinsAt fp s5.heap) σ' H' s' → wipe σ' (own.map fun x => x.2) = wipe σ (own.map fun x => x.2) →
          L2.Inv (X.blk s3 H3 scope (compEnvC scope cl s3.heap.objs.size X.env) fp) [] (wipe σ (own.map fun x => x.2)) H' s' ∧ tn (i + 1) s'.heap ∧ ∀ b, b ∈ fp → H' b = none := fun {σ' H' s'} I9 hw => by
        refine ⟨hw ▸ (L2.Inv.unpinned (pins := []) I9).weak (wipe_length _ _) (fun i v h => (wipe_some h).1), T.keep (i + 1) s5.heap s'.heap t5 fun b hb o e => (I9.pin (b, o) (by simpa using mem_pinsAt hb e)).1, fun b hb => ?_⟩
        obtain ⟨o, e, _⟩ := T.obj (i + 1) _ t5 b hb
        exact (I9.pin (b, o) (by simpa using mem_pinsAt hb e)).2.1
      cases ok with
      | false =>
        rw [if_neg (by decide)] at h7 ⊢
        obtain ⟨m', hm', w'⟩ := hNx _ h7
        obtain ⟨b1, b2, b3⟩ := back I7 hw6
        exact ⟨m', hm', i + 1, H7, b1, b2, b3, w'⟩
      | true =>
        rw [if_pos rfl] at h7 ⊢
        refine thnF ((hE _ _ _ _ _).run _ s7 σ6 H7 _ I7 h7) fun xv s8 ⟨y, H8, I8, ry, c, S, k, hy8, hD8, hk8, nx⟩ => ?_
        subst hy8
        obtain ⟨tk, rfl⟩ := ry
        refine addI_ok (X := X.blk s3 H3 scope (compEnvC scope cl s3.heap.objs.size X.env) fp) I8 hD8 hk8 fun s9 I9 => ?_
        obtain ⟨m', hm', w'⟩ := hNx _ nx
        obtain ⟨b1, b2, b3⟩ := back I9 hw6
        exact ⟨m', hm', i + 1, _, b1, b2, b3, w'⟩
  exact PpSet.codeAny_compStart_set key (T.self _ 0 _ _ _ t4 key)
theorem pe_scI {X : Cx} {elt tg iter : Expr} {ifs : List Expr} {scope : Scope} {own : List (Str × Nat)} {pos : Pos} {wi : TI} {g : TG} {tt : TT} {te : TE} (hc : X.calm = true) (hN : X.N.Nodup) (hI : PI X tg iter wi) (hB : BlkOk X.N X.env.scope scope own)
    (hG : ∀ (s : Shared) (H : Hp) (C : Addr) (cl : List (Str × Addr)) (fp : List Addr), PG (X.blk s H scope (compEnvC scope cl C X.env) fp) tg g)
    (hT : ∀ (s : Shared) (H : Hp) (C : Addr) (cl : List (Str × Addr)) (fp : List Addr), PTs (X.blk s H scope (compEnvC scope cl C X.env) fp) ifs tt)
    (hE : ∀ (s : Shared) (H : Hp) (C : Addr) (cl : List (Str × Addr)) (fp : List Addr), PE (X.blk s H scope (compEnvC scope cl C X.env) fp) elt te)
    (hf : ∀ x : Value, foldedSetIterable iter X.env x = pure x := by intro x; rfl) : PE X (.SetComp elt [⟨tg, iter, ifs, 0⟩] scope pos) (tScI wi g tt te (own.map fun x => x.2)) := by
  refine ⟨fun pins s σ H Q I h => ?_⟩
  rw [PpSet.eval_SetComp]
  have ok := I.ok
  refine PySem.wpAny_comprehension_free rfl hf (closure_ok fun y hy hfr => ok.has _ (hB.free y hy hfr)) hB.kind (fun x hx hl => hl ▸ hB.uniq x hx) ?_
  refine thn (hI.run pins s σ H _ I h) fun v s1 hv => thn hv fun itv s2 hp => ?_
  obtain ⟨it, fp, tn, J, H2, rfl, I2, T, t0, fok, r⟩ := hp
  have hD : H2 s2.heap.objs.size = none := I2.hok.fresh (Nat.le_refl _)
  obtain ⟨W, ⟨m0, w0⟩, step⟩ := r _ hD
  refine PySem.wpAny_newSet_of (knd := intKind X.prog X.w) fun led hset => ?_
  have I3 := I2.laid (h' := s2.heap.push { cls := Value.type "set", data := Data.set #[] 0 (SetTable.fresh 0 0 led) }) (t' := s2.toks) (a := s2.heap.objs.size) (o := .set (fun _ => false) 0) (fun b u e => Heap.get?_push_of_some _ e) (Nat.le_refl _) hset
  have hlt : ∀ b, b ∈ fp → b < s2.heap.objs.size := fun b hb => by
    obtain ⟨o, e, _⟩ := T.obj 0 _ t0 b hb
    exact Heap.lt_size e
  have fok3 : ∀ b, b ∈ fp → FpOk X pins (upd H2 s2.heap.objs.size (.set (fun _ => false) 0)) b ∧ b < (s2.heap.push { cls := Value.type "set", data := Data.set #[] 0 (SetTable.fresh 0 0 led) }).objs.size := fun b hb => by
    have hb2 := hlt b hb
    refine ⟨⟨?_, (fok b hb).2⟩, ?_⟩
    · rw [upd_ne (Nat.ne_of_lt hb2)]; exact (fok b hb).1
    · rw [Heap.size_push]; exact Nat.lt_succ_of_lt hb2
  refine newEnv_comp ?_
  have I4 := block_start I3 hB hN fok3
  exact sc_loop hc hN hB hG hT hE I3 fok3 T (T.keep 0 _ _ t0 fun b hb o e => Heap.get?_push_of_some _ e) ⟨m0, w0⟩ step
/-- len of such a set -/
def rLenS : List V → Hp → VK → Prop := fun xs H Q => ∃ (D : Addr) (S : Int → Bool) (n : Nat), xs = [.ref D] ∧ H D = some (.set S n) ∧ Q (.int (n : Int)) H
theorem c_lenS {X : Cx} : CallR X (.builtin "len") rLenS := fun pins s σ H xs us Q I rv ⟨D, S, n, e, hD, q⟩ => by
  subst e
  cases rv with
  | cons r1 r2 =>
    cases r2
    cases r1
    have ho : Heap.SetOf (intKind X.prog X.w) s.heap D S n := I.hok D _ hD
    obtain ⟨o, es, ep, t, e1, e2, e3, _, _, e6, e7, e8⟩ := ho
    have hlt : es.size < 4096 := e6
    refine PySem.call_len_set e1 e2 e3 e7 (by omega) ⟨.int (n : Int), H, I.tok _, ⟨_, by rw [e8]⟩, q⟩
def dgo : List Int → Nat
  | [] => 0
  | c :: r => if c ∈ r then dgo r else dgo r + 1
/-- how many there are, each counted once -/
def dcount (l : List Int) : Nat := dgo l.reverse
theorem dcount_snoc (l : List Int) (c : Int) : dcount (l ++ [c]) = if c ∈ l then dcount l else dcount l + 1 := by
  unfold dcount
  rw [List.reverse_append]
  show (if c ∈ l.reverse then dgo l.reverse else dgo l.reverse + 1) = _
  simp only [List.mem_reverse]
theorem dgo_le : ∀ l : List Int, dgo l ≤ l.length
  | [] => Nat.le_refl _
  | c :: r => by
    have := dgo_le r
    unfold dgo
    rw [List.length_cons]
    split <;> omega
theorem dgo_nodup : ∀ l : List Int, l.Nodup → dgo l = l.length
  | [], _ => rfl
  | c :: r, h => by
    have h' := List.nodup_cons.mp h
    unfold dgo
    rw [if_neg h'.1, dgo_nodup r h'.2, List.length_cons]
theorem dgo_dup : ∀ l : List Int, ¬ l.Nodup → dgo l < l.length
  | [], h => absurd List.nodup_nil h
  | c :: r, h => by
    unfold dgo
    rw [List.length_cons]
    have := dgo_le r
    by_cases hc : c ∈ r
    · rw [if_pos hc]; omega
    · rw [if_neg hc]
      have := dgo_dup r fun z => h (List.nodup_cons.mpr ⟨hc, z⟩)
      omega
theorem dcount_le (l : List Int) : dcount l ≤ l.length := by
  have := dgo_le l.reverse
  rw [List.length_reverse] at this
  exact this
theorem nodup_rev {l : List Int} : l.reverse.Nodup ↔ l.Nodup := by
  unfold List.Nodup
  rw [List.pairwise_reverse]
  exact ⟨fun h => h.imp fun z e => z e.symm, fun h => h.imp fun z e => z e.symm⟩
theorem dcount_lt (l : List Int) : decide (dcount l < l.length) = !decide l.Nodup := by
  by_cases h : l.Nodup
  · rw [decide_eq_true h, decide_eq_false]
    · rfl
    have := dgo_nodup l.reverse (nodup_rev.mpr h)
    rw [List.length_reverse] at this
    unfold dcount
    omega
  · rw [decide_eq_false h, decide_eq_true]
    · rfl
    have := dgo_dup l.reverse fun z => h (nodup_rev.mp z)
    rw [List.length_reverse] at this
    exact this
section
variable {K : PySem.W.Frag} {J : Jm} {env : List Sl} {R : Dt → Prop} {te : TE} {wi : TI} {g : TG} {vs : List Nat}
theorem ev_lenS (f : Dt → Int) (h : Ei K J env wi fun ds => ds.length ≤ 4000 ∧ (∀ d, d ∈ ds → Gt K J (wipeE env vs) g d vs fun e => Ev K J e te fun y => y = .int (f d)) ∧ R (.int (dcount (ds.map f) : Nat))) : Ev K J env (tCB rLenS (tCons (tScI wi g tYes te vs) tNil)) R := fun B G H σ w E Q q => by
  refine h B G H σ w E _ fun I ds G1 H1 n1 wk ⟨hz, hs, hR⟩ => ?_
  intro D hD
  have w1 := n1.wf w
  have E1 := E.mono n1
  have hn : D ∉ J.ms := w1.notin hD
  have n0 := w1.newM hD (.set (fun _ => false) 0)
  refine ⟨fun i m H' => m = ds.length - i ∧ i ≤ ds.length ∧ ∃ G', Nx J G1 H1 G' H' ∧ G' D = none ∧ H' D = some (.set (fun j => decide (j ∈ (ds.map f).take i)) (dcount ((ds.map f).take i))),
    ⟨ds.length, by simp, Nat.zero_le _, G1, n0, w1.free hD, by rw [upd_same]; simp [dcount, dgo]⟩, ?_⟩
  rintro i m H' ⟨rfl, hi, G', n, hG, hH⟩
  have w' := n.wf w1
  by_cases hlt : i < ds.length
  · refine .inr ⟨wk.go i G' H' n.gg w' hlt, fun H2 => ∃ G2, Nx J G1 H1 G2 H2 ∧ G2 D = none ∧ H2 D = some (.set (fun j => decide (j ∈ (ds.map f).take (i + 1))) (dcount ((ds.map f).take (i + 1)))),
      fun H2 ⟨G2, a, b, c⟩ => ⟨ds.length - (i + 1), by omega, rfl, hlt, G2, a, b, c⟩, fun x H2 y => ?_⟩
    obtain ⟨G2, d, n2, hd', rd⟩ := wk.yld i G' H' x H2 n.gg w' hlt y
    have n02 := n.trans n2
    have w2 := n2.wf w'
    refine hs d (List.mem_of_getElem? hd') B G2 H2 (wipe σ vs) x w2 ((E1.mono n02).wipe vs) rd _ fun e3 σ3 E3 ks ev => ⟨wipe_eq ks.1 ks.2, ?_⟩
    unfold L2.tYes
    simp only [if_true]
    refine ev B G2 H2 σ3 w2 E3 _ fun yv yd G4 H4 n4 ry ky => ?_
    subst ky
    cases ry
    have hG2 := n2.fr D hG (by rw [hH]; simp)
    have hH2 := n2.kp D _ hH hn
    have hG4 := n4.fr D hG2 (by rw [hH2]; simp)
    have hH4 := n4.kp D _ hH2 hn
    have n04 := n02.trans n4
    have ht : (ds.map f).take (i + 1) = (ds.map f).take i ++ [f d] := by
      rw [List.take_add_one, List.getElem?_map, hd']
      rfl
    have hdc := dcount_le ((ds.map f).take i)
    rw [List.length_take, List.length_map] at hdc
    refine ⟨f d, _, _, rfl, hH4, by show _ < 4096; omega, G4, n04.mut hD hG4 hn hH4, hG4, ?_⟩
    rw [upd_same, ht, dcount_snoc]
    congr 2
    · funext j
      simp
    · simp
  · have e' : i = ds.length := by omega
    subst e'
    refine .inl ⟨wk.stop G' H' n.gg w', D, _, _, rfl, hH, q _ _ G' H' (n1.trans n) (.int _) ?_⟩
    rw [← List.length_map (f := f), List.take_length]
    exact hR
end
end Mv

set_option Elab.async false
set_option linter.all false
set_option maxRecDepth 100000
set_option maxHeartbeats 4000000
namespace Mv
open PySem PySem.Spec PyProof.Rows L2
section
variable {K : PySem.W.Frag} {J : Jm} {env : List Sl} {te : TE} {tt : TT}
/-- [e for .. in xs if ..], xs an own list -/
theorem em_lcM {g : TG} {vs : List Nat} {R : List Dt → Prop} {j : Nat} {ds : List Dt} (hj : env[j]? = some (.ml ds)) (h : ds.length ≤ 100000 ∧ ∃ Iv : Nat → List Dt → Prop, Iv 0 [] ∧
    (∀ k d acc, ds[k]? = some d → acc.length ≤ k → Iv k acc → Gt K J (wipeE env vs) g d vs fun e => Et K J e tt fun b => (b = true → Ev K J e te fun y => Iv (k + 1) (acc ++ [y])) ∧ (b = false → Iv (k + 1) acc)) ∧
    ∀ acc, acc.length ≤ ds.length → Iv ds.length acc → R acc) : Em K J env (tLc (iSeq K (tVar j)) g tt te vs) R := fun B G1 H1 σ w1 E1 Q q => by
  obtain ⟨hz, Iv, h0, hs, hd⟩ := h
  obtain ⟨p, us, h1, hHp, rus, hm, hGp⟩ := E1.lst hj
  refine ⟨.ref p, h1, p, rfl, .inl ⟨us, .inl (.inl hHp), ?_⟩⟩
  have wl := walk_list (K := K) (a := p) (xs := us)
  have hul := rus.length
  intro Dl hDl
  have hn : Dl ∉ J.ms := w1.notin hDl
  have n0 := w1.newM hDl (.lst [])
  refine ⟨fun i m H' => m = ds.length - i ∧ i ≤ ds.length ∧ ∃ G' xs acc, Nx J G1 H1 G' H' ∧ G' Dl = none ∧ H' Dl = some (.lst xs) ∧ Da K G' xs acc ∧ acc.length ≤ i ∧ Iv i acc,
    ⟨ds.length, by simp, Nat.zero_le _, G1, [], [], n0, w1.free hDl, upd_same, .nil, Nat.le_refl _, h0⟩, ?_⟩
  rintro i m H' ⟨rfl, hi, G', xs, acc, n, hG, hH, r, hl, pI⟩
  have w' := n.wf w1
  have hHp' := n.kp p _ hHp hm
  by_cases hlt : i < ds.length
  · refine .inr ⟨wl.goes i H' (by omega) (.inl (.inl hHp')), fun H2 => ∃ G2 xs2 acc2, Nx J G1 H1 G2 H2 ∧ G2 Dl = none ∧ H2 Dl = some (.lst xs2) ∧ Da K G2 xs2 acc2 ∧ acc2.length ≤ i + 1 ∧ Iv (i + 1) acc2,
      fun H2 ⟨G2, xs2, acc2, a, b, c, d, e, f⟩ => ⟨ds.length - (i + 1), by omega, rfl, hlt, G2, xs2, acc2, a, b, c, d, e, f⟩, fun x H2 y => ?_⟩
    obtain ⟨e1, e2⟩ := wl.yields i H' x H2 (by omega) (.inl (.inl hHp')) y
    subst e1
    obtain ⟨d, hd', rd0⟩ := rus.get' e2
    have rd := rd0.mono n.gg
    refine hs i d acc hd' hl pI B G' H2 (wipe σ vs) x w' ((E1.mono n).wipe vs) rd _ fun e3 σ3 E3 ks et => ⟨wipe_eq ks.1 ks.2, et B G' H2 σ3 w' E3 _ fun b G3 H3 n3 k => ?_⟩
    have hG3 := n3.fr Dl hG (by rw [hH]; simp)
    have hH3 := n3.kp Dl _ hH hn
    have w3 := n3.wf w'
    cases b with
    | false => exact ⟨G3, xs, acc, n.trans n3, hG3, hH3, r.mono n3.gg, by omega, k.2 rfl⟩
    | true =>
      refine k.1 rfl B G3 H3 σ3 w3 (E3.mono n3) _ fun yv yd G4 H4 n4 ry ky => ?_
      have hG4 := n4.fr Dl hG3 (by rw [hH3]; simp)
      have hH4 := n4.kp Dl _ hH3 hn
      have n04 := (n.trans n3).trans n4
      have n5 := n04.mut (o' := .lst (xs ++ [yv])) hDl hG4 hn hH4
      refine ⟨xs, hH4, sz_lt (by rw [r.length]; omega), G4, xs ++ [yv], acc ++ [yd], n5, hG4, upd_same, ((r.mono n3.gg).mono n4.gg).append (.cons ry .nil), by simp; omega, ky⟩
  · have e' : i = ds.length := by omega
    subst e'
    exact .inl ⟨hul ▸ wl.stops H' (.inl (.inl hHp')), q Dl xs acc G' H' n hG hDl hH r (hd acc hl pI)⟩
theorem em_mapM {g : TG} {vs : List Nat} {R : List Dt → Prop} {j : Nat} {ds : List Dt} (f : Dt → Dt) (hj : env[j]? = some (.ml ds)) (hz : ds.length ≤ 100000) (h2 : ∀ d, d ∈ ds → Gt K J (wipeE env vs) g d vs fun e => Ev K J e te fun y => y = f d) (h3 : R (ds.map f)) : Em K J env (tLc (iSeq K (tVar j)) g tYes te vs) R := by
  refine em_lcM hj ⟨hz, fun k acc => acc = (ds.take k).map f, by simp, fun k d acc hd _ ha => ?_, fun acc _ ha => ?_⟩
  · intro B G H σ v w E r Q q
    refine h2 d (List.mem_of_getElem? hd) B G H σ v w E r Q fun e σ' E' k' x => q e σ' E' k' (et_yes ⟨fun _ => x.imp fun y hy => ?_, fun z => nomatch z⟩)
    subst hy ha
    rw [List.take_add_one, hd]
    simp
  · subst ha
    rw [List.take_length]
    exact h3
end
section
variable {P : Program} {w : World} {K : PySem.W.Frag} {mg : Str → Option Value} {base : Heap}
theorem MkI.mono {j k : Nat} {x : Str} {ps : List Str} {C : Addr} {sp : Sp} (M : MkI P w K mg base j x ps C sp) (h : j ≤ k) : MkI P w K mg base k x ps C sp := by
  obtain ⟨f, fd, m, F, g, b⟩ := M.ex
  exact ⟨f, fd, m, F.mono h, g, b⟩
theorem rec_allB {f : Addr} {fd : FuncData} {x : Str} {ps : List Str} (b : Nat) (W : Nat → Fw) (g : mg x = some (.ref f)) (kp : PySem.W.keepIn K (.ref f) = true) (bb : Binds K fd ps [])
    (step : ∀ n, Cal P w K mg base (n + b) x ps (Ct K (predW W n)) → FnOk P w K mg base CX0 (n + b + 1) f fd ps (Ct K (W n))) : ∀ n, FnOk P w K mg base CX0 (n + b + 1) f fd ps (Ct K (W n))
  | 0 => step 0 ⟨f, fd, ⟨fun vs H Q E h => by obtain ⟨_, _, _, _, _, _, z, _⟩ := h; exact z.elim, fun A outer s H args us vs Q E _ _ _ _ h => by obtain ⟨_, _, _, _, _, _, z, _⟩ := h; exact z.elim⟩, g, kp, bb⟩
  | n + 1 => step (n + 1) ⟨f, fd, by
      have := rec_allB b W g kp bb step n
      rw [show n + 1 + b = n + b + 1 by omega]
      exact this, g, kp, bb⟩
end
end Mv

set_option Elab.async false
set_option linter.all false
set_option maxRecDepth 100000
set_option maxHeartbeats 4000000
namespace Mv
open PySem PySem.Spec PyProof.Rows L2
/-! ### lists put together, and repeated: operands that are plain lists, own or new -/
section
variable {K : PySem.W.Frag} {J : Jm} {env : List Sl} {te ta tb : TE}
/-- an expression gives a plain list, own or new -/
def El (K : PySem.W.Frag) (J : Jm) (env : List Sl) (te : TE) (R : List Dt → Prop) : Prop := ∀ (B G H : Hp) (σ : L2.St), Wf J G H → En K J B G H σ env → ∀ Q : VK,
  (∀ p vs ds G' H', Nx J G H G' H' → p ∉ J.ms → H' p = some (.lst vs) → Da K G' vs ds → R ds → Q (.ref p) H') → te σ H Q
theorem el_var {i : Nat} {xs : List Dt} {R : List Dt → Prop} (hi : env[i]? = some (.ml xs)) (k : R xs) : El K J env (tVar i) R := fun B G H σ w E Q q => by
  obtain ⟨p, vs, h1, hH, r, hm, _⟩ := E.lst hi
  exact ⟨.ref p, h1, q p vs xs G H w.nx hm hH r k⟩
theorem Em.el {R : List Dt → Prop} (h : Em K J env te R) : El K J env te R := fun B G H σ w E Q q =>
  h B G H σ w E Q fun p vs ds G' H' n hG hp hH r k => q p vs ds G' H' n (w.notin hp) hH r k
theorem em_cat {R : List Dt → Prop} (h : El K J env ta fun xs => El K J env tb fun ys => xs.length + ys.length ≤ 100000 ∧ R (xs ++ ys)) : Em K J env (tOp rCat ta tb) R := fun B G H σ w E Q q =>
  h B G H σ w E _ fun p1 v1 d1 G1 H1 n1 m1 h1 r1 k => k B G1 H1 σ (n1.wf w) (E.mono n1) _ fun p2 v2 d2 G2 H2 n2 m2 h2 r2 ⟨hz, k2⟩ => by
    have n12 := n1.trans n2
    have w2 := n12.wf w
    refine ⟨p1, p2, v1, v2, rfl, rfl, n2.kp p1 _ h1 m1, h2, sz_of (by rw [r1.length, r2.length]; exact hz), fun p hp => ?_⟩
    refine q p (v1 ++ v2) (d1 ++ d2) G2 _ (n12.trans (w2.newM hp _)) (w2.free hp) ?_ upd_same ((r1.mono n2.gg).append r2) k2
    cases z : H p with
    | none => rfl
    | some o => exact absurd hp (n12.th p (by rw [z]; simp))
theorem da_flat {G : Hp} {vs : List V} {ds : List Dt} (r : Da K G vs ds) : ∀ n : Nat, Da K G (List.replicate n vs).flatten (List.replicate n ds).flatten
  | 0 => .nil
  | n + 1 => by
    rw [List.replicate_succ, List.replicate_succ, List.flatten_cons, List.flatten_cons]
    exact r.append (da_flat r n)
theorem em_rep {R : List Dt → Prop} (h : El K J env ta fun xs => Ev K J env tb fun x => ∃ i : Int, x = .int i ∧ -100000 ≤ i ∧ i ≤ 100000 ∧ xs.length * i.toNat ≤ 100000 ∧ R (List.replicate i.toNat xs).flatten) : Em K J env (tOp rRep ta tb) R := fun B G H σ w E Q q =>
  h B G H σ w E _ fun p1 v1 d1 G1 H1 n1 m1 h1 r1 k => k B G1 H1 σ (n1.wf w) (E.mono n1) _ fun v x G2 H2 n2 rx ⟨i, e, h0, h9, hz, k2⟩ => by
    subst e
    cases rx
    have n12 := n1.trans n2
    have w2 := n12.wf w
    refine ⟨p1, i, v1, rfl, rfl, n2.kp p1 _ h1 m1, by omega, by omega, sz_of (by rw [r1.length]; exact hz), fun p hp => ?_⟩
    refine q p _ _ G2 _ (n12.trans (w2.newM hp _)) (w2.free hp) ?_ upd_same (da_flat (r1.mono n2.gg) i.toNat) k2
    cases z : H p with
    | none => rfl
    | some o => exact absurd hp (n12.th p (by rw [z]; simp))
end
end Mv

set_option Elab.async false
set_option linter.all false
set_option maxRecDepth 100000
set_option maxHeartbeats 4000000
namespace Mv
open PySem PySem.Spec PyProof.Rows L2
/-! ### dicts whose keys are ints, own ones -/
def getI (kvs : List (Int × Dt)) (n : Int) : Option Dt := (kvs.find? fun kv => decide (kv.1 = n)).map fun kv => kv.2
def putI (kvs : List (Int × Dt)) (n : Int) (d : Dt) : List (Int × Dt) := if (kvs.any fun kv => decide (kv.1 = n)) = true then kvs.map fun kv => if kv.1 = n then (kv.1, d) else kv else kvs ++ [(n, d)]
section
variable {K : PySem.W.Frag} {J : Jm} {env : List Sl} {te ta tb tk tv : TE} {R : Dt → Prop} {D : DE}
theorem inl_eq (a b : Int) : decide ((Sum.inl a : Key) = Sum.inl b) = decide (a = b) := by
  by_cases h : a = b
  · subst h; simp
  · simp [h]
theorem Dk.length {G : Hp} : ∀ {vs : List (Key × V)} {kvs : List (Int × Dt)}, Dk K G vs kvs → vs.length = kvs.length
  | _, _, .nil => rfl
  | _, _, .cons _ t => by rw [List.length_cons, List.length_cons, Dk.length t]
theorem Dk.get {G : Hp} {n : Int} : ∀ {vs : List (Key × V)} {kvs : List (Int × Dt)}, Dk K G vs kvs → (∀ x, getI kvs n = some x → ∃ v, valV vs (Sum.inl n : Key) = some v ∧ Dr K G v x) ∧ (getI kvs n = none → valV vs (Sum.inl n : Key) = none)
  | _, _, .nil => ⟨fun x h => (by cases h), fun _ => rfl⟩
  | _, _, .cons (k := k) (v := v) (d := d) r t => by
    have ih := Dk.get (n := n) t
    unfold getI valV at ih ⊢
    rw [List.find?_cons, List.find?_cons]
    simp only [inl_eq]
    by_cases h : k = n
    · rw [decide_eq_true h]
      exact ⟨fun x hx => (by cases hx; exact ⟨v, rfl, r⟩), fun hx => (by cases hx)⟩
    · rw [decide_eq_false h]
      exact ih
theorem Dk.any {G : Hp} {n : Int} : ∀ {vs : List (Key × V)} {kvs : List (Int × Dt)}, Dk K G vs kvs → (vs.any fun kv => decide (kv.1 = (Sum.inl n : Key))) = kvs.any fun kv => decide (kv.1 = n)
  | _, _, .nil => rfl
  | _, _, .cons r t => by
    rw [List.any_cons, List.any_cons, Dk.any t, inl_eq]
theorem Dk.app {G : Hp} {n : Int} {v : V} {d : Dt} (rd : Dr K G v d) : ∀ {vs : List (Key × V)} {kvs : List (Int × Dt)}, Dk K G vs kvs → Dk K G (vs ++ [((Sum.inl n : Key), v)]) (kvs ++ [(n, d)])
  | _, _, .nil => .cons rd .nil
  | _, _, .cons r t => .cons r (Dk.app rd t)
theorem Dk.upd {G : Hp} {n : Int} {v : V} {d : Dt} (rd : Dr K G v d) : ∀ {vs : List (Key × V)} {kvs : List (Int × Dt)}, Dk K G vs kvs → Dk K G (vs.map fun kv => if kv.1 = (Sum.inl n : Key) then (kv.1, v) else kv) (kvs.map fun kv => if kv.1 = n then (kv.1, d) else kv)
  | _, _, .nil => .nil
  | _, _, .cons (k := k) r t => by
    rw [List.map_cons, List.map_cons]
    by_cases h : k = n
    · subst h
      rw [if_pos rfl, if_pos rfl]
      exact .cons rd (Dk.upd rd t)
    · rw [if_neg (by intro z; exact h (Sum.inl.inj z)), if_neg h]
      exact .cons r (Dk.upd rd t)
theorem Dk.put {G : Hp} {n : Int} {v : V} {d : Dt} {vs : List (Key × V)} {kvs : List (Int × Dt)} (t : Dk K G vs kvs) (rd : Dr K G v d) : Dk K G (putK vs (Sum.inl n : Key) v) (putI kvs n d) := by
  unfold putK putI
  rw [t.any]
  split
  · exact t.upd rd
  · exact t.app rd
theorem putI_len {kvs : List (Int × Dt)} {n : Int} {d : Dt} : (putI kvs n d).length ≤ kvs.length + 1 := by
  unfold putI
  split <;> simp
def isMd : Sl → Bool | .md _ => true | _ => false
def onlyMd : Nat → List Sl → Bool
  | _, [] => true
  | 0, _ :: r => r.all fun s => !isMd s
  | n + 1, s :: r => !isMd s && onlyMd n r
theorem onlyMd_ne : ∀ {i : Nat} {env : List Sl} {j : Nat} {s : Sl}, onlyMd i env = true → j ≠ i → env[j]? = some s → isMd s = false
  | _, [], _, _, _, _, h => by simp at h
  | 0, _ :: r, 0, _, _, hn, _ => absurd rfl hn
  | 0, _ :: r, j + 1, s, h, _, hs => by
    have := List.all_eq_true.mp h s (List.mem_of_getElem? (by simpa using hs))
    simpa using this
  | n + 1, x :: r, 0, s, h, _, hs => by
    unfold onlyMd at h
    rw [Bool.and_eq_true] at h
    simp at hs
    subst hs
    simpa using h.1
  | n + 1, x :: r, j + 1, s, h, hn, hs => by
    unfold onlyMd at h
    rw [Bool.and_eq_true] at h
    exact onlyMd_ne (j := j) h.2 (fun z => hn (by rw [z])) (by simpa using hs)
theorem En.dct {B G H : Hp} {σ : L2.St} (E : En K J B G H σ env) {i : Nat} {kvs : List (Int × Dt)} (hi : env[i]? = some (.md kvs)) : ∃ p vs, σ[i]? = some (some (.ref p)) ∧ B p = none ∧ G p = none ∧ p ∉ J.ms ∧ H p = some (.dK vs) ∧ Dk K G vs kvs := by
  obtain ⟨ov, h1, p, vs, h2, hB, hG, hm, hH, r⟩ := E.ok i _ hi
  exact ⟨p, vs, by rw [h1, h2], hB, hG, hm, hH, r⟩
/-- d[k] -/
theorem ev_dget {i : Nat} {kvs : List (Int × Dt)} (hi : env[i]? = some (.md kvs)) (h : Ev K J env tk fun k => ∃ n x, k = .int n ∧ getI kvs n = some x ∧ R x) : Ev K J env (tDGet (tVar i) tk) R := fun B G H σ w E Q q => by
  obtain ⟨p, vs, h1, _, _, hm, hH, r⟩ := E.dct hi
  refine ⟨.ref p, h1, h B G H σ w E _ fun v k G1 H1 n1 rk ⟨n, x, e, hx, kx⟩ => ?_⟩
  subst e
  cases rk
  obtain ⟨u, h3, h4⟩ := ((r.mono n1.gg).get (n := n)).1 x hx
  exact ⟨p, u, rfl, .inl ⟨vs, Sum.inl n, .inl (n1.kp p _ hH hm), rfl, h3.symm⟩, q u x G1 H1 n1 h4 kx⟩
/-- d[k] = v -/
theorem sv_dput {i : Nat} {kvs : List (Int × Dt)} (hi : env[i]? = some (.md kvs)) (hu : onlyMd i env = true) (hz : kvs.length < 100000) (h : Ev K J env tv fun v => Ev K J env tk fun k => ∃ n, k = .int n ∧ D.nx (env.set i (.md (putI kvs n v)))) :
    Sv K J env (sDPut (tVar i) tk tv) D := fun GB B G H σ a E q1 _ _ _ _ _ =>
  h B G H σ a.wf a.en _ fun v d G1 H1 n1 rd k => by
    have a1 := a.then n1
    obtain ⟨p, vs, h1, hB, hG, hm, hH, r⟩ := a1.en.dct hi
    refine ⟨.ref p, h1, k B G1 H1 σ a1.wf a1.en _ fun y yd G2 H2 n2 ry ⟨n, e, kx⟩ => ?_⟩
    subst e
    cases ry
    have a2 := a1.then n2
    have hH2 := n2.kp p _ hH hm
    have hG2 := n2.fr p hG (by rw [hH]; simp)
    refine ⟨p, _, rfl, .inl ⟨vs, Sum.inl n, hH2, rfl, sz_lt (by rw [r.length]; exact hz), rfl⟩, q1 _ G2 _ σ ?_ kx⟩
    have n3 := a2.nx.mut (o' := .dK (putK vs (Sum.inl n) v)) hB hG2 hm hH2
    refine ⟨⟨n3.gh, n3.ok, fun m hmm => ⟨(a2.wf.ms m hmm).1, by rw [upd_ne (ne_memP hm hmm)]; exact (a2.wf.ms m hmm).2⟩, a2.wf.tr⟩, n3, ⟨by simp [a2.en.len], fun j s hs => ?_, fun j l q hne hx hy => ?_⟩⟩
    · have hil := (List.getElem?_eq_some_iff.mp hi).1
      by_cases e : i = j
      · subst e
        rw [List.getElem?_set_self hil] at hs
        cases hs
        exact ⟨_, h1, p, _, rfl, hB, hG2, hm, upd_same, (r.mono n2.gg).put (rd.mono n2.gg)⟩
      · rw [List.getElem?_set_ne e] at hs
        obtain ⟨ov, g1, g2⟩ := a2.en.ok j s hs
        refine ⟨ov, g1, ?_⟩
        cases s with
        | no => trivial
        | d x => exact g2
        | hand => exact g2
        | hnd => exact g2
        | tap => exact g2
        | xv a d fs => exact g2
        | md kvs' => exact (by have z := onlyMd_ne hu (fun z => e z.symm) hs; cases z)
        | mi q C fs =>
          obtain ⟨dx, us, e3, hB', hG', hm', hH', r'⟩ := g2
          exact ⟨dx, us, e3, hB', hG', hm', by rw [upd_ne (ne_of hH' hH2 (by intro z; cases z))]; exact hH', r'⟩
        | ml xs =>
          obtain ⟨q, us, e3, hB', hG', hm', hH', r'⟩ := g2
          exact ⟨q, us, e3, hB', hG', hm', by rw [upd_ne (ne_of hH' hH2 (by intro z; cases z))]; exact hH', r'⟩
    · have back : ∀ m : Nat, (∃ xs, (env.set i (.md (putI kvs n d)))[m]? = some (Sl.ml xs)) → ∃ xs, env[m]? = some (Sl.ml xs) := fun m ⟨xs, hz⟩ => by
        by_cases e : i = m
        · subst e
          rw [List.getElem?_set_self (List.getElem?_eq_some_iff.mp hi).1] at hz
          cases hz
        · rw [List.getElem?_set_ne e] at hz
          exact ⟨xs, hz⟩
      exact a2.en.ap j l q hne (back j hx) (back l hy)
theorem ev_dget2 {i : Nat} {kvs : List (Int × Dt)} (hi : env[i]? = some (.md kvs)) (h : Ev K J env tk fun k => Ev K J env tv fun z => ∃ n, k = .int n ∧ R ((getI kvs n).getD z)) : Ev K J env (tDGet2 (tVar i) tk tv) R := fun B G H σ w E Q q => by
  obtain ⟨p, vs, h1, _, _, hm, hH, r⟩ := E.dct hi
  refine ⟨.ref p, h1, p, rfl, .inl ⟨vs, .inl hH⟩, h B G H σ w E _ fun v k G1 H1 n1 rk kk => kk B G1 H1 σ (n1.wf w) (E.mono n1) _ fun u z G2 H2 n2 rz ⟨n, e, kx⟩ => ?_⟩
  subst e
  cases rk
  have n12 := n1.trans n2
  have hH2 := n12.kp p _ hH hm
  have g := (r.mono n12.gg).get (n := n)
  cases e : getI kvs n with
  | some x =>
    obtain ⟨y, h3, h4⟩ := g.1 x e
    rw [e] at kx
    exact ⟨some y, .inl ⟨vs, Sum.inl n, .inl hH2, rfl, h3.symm⟩, q y x G2 H2 n12 h4 kx⟩
  | none =>
    rw [e] at kx
    exact ⟨none, .inl ⟨vs, Sum.inl n, .inl hH2, rfl, (g.2 e).symm⟩, q u z G2 H2 n12 rz kx⟩
theorem En.setK {B G H : Hp} {σ : L2.St} (E : En K J B G H σ env) {i : Nat} {p : Addr} {vs : List (Key × V)} {kvs : List (Int × Dt)} (hB : B p = none) (hG : G p = none) (hm : p ∉ J.ms) (hH : H p = some (.dK vs)) (r : Dk K G vs kvs) :
    En K J B G H (σ.set i (some (.ref p))) (env.set i (.md kvs)) := by
  have e0 := E.setN (i := i) (ov := some (.ref p))
  refine ⟨by simp [E.len], fun k s hk => ?_, fun k j q hne hk hj => ?_⟩
  · by_cases e : i = k
    · subst e
      have hi : i < env.length := by
        have := (List.getElem?_eq_some_iff.mp hk).1
        simpa using this
      rw [List.getElem?_set_self hi] at hk
      cases hk
      exact ⟨_, by rw [List.getElem?_set_self (by rw [E.len]; exact hi)], p, vs, rfl, hB, hG, hm, hH, r⟩
    · rw [List.getElem?_set_ne e] at hk
      rw [List.getElem?_set_ne e]
      exact E.ok k s hk
  · have back : ∀ m : Nat, (∃ xs, (env.set i (.md kvs))[m]? = some (Sl.ml xs)) → ∃ xs, (env.set i .no)[m]? = some (Sl.ml xs) := fun m ⟨xs, h⟩ => by
      by_cases e : i = m
      · subst e
        have hi : i < env.length := by
          have := (List.getElem?_eq_some_iff.mp h).1
          simpa using this
        rw [List.getElem?_set_self hi] at h
        cases h
      · rw [List.getElem?_set_ne e] at h ⊢
        exact ⟨xs, h⟩
    exact e0.ap k j q hne (back k hk) (back j hj)
/-- a new dict -/
def Ek (K : PySem.W.Frag) (J : Jm) (env : List Sl) (te : TE) (R : List (Int × Dt) → Prop) : Prop := ∀ (B G H : Hp) (σ : L2.St), Wf J G H → En K J B G H σ env → ∀ Q : VK,
  (∀ p vs kvs G' H', Nx J G H G' H' → G' p = none → H p = none → H' p = some (.dK vs) → Dk K G' vs kvs → R kvs → Q (.ref p) H') → te σ H Q
theorem sv_asgK {i : Nat} (h : Ek K J env te fun kvs => D.nx (env.set i (.md kvs))) : Sv K J env (tAsg te (gName i)) D := fun GB B G H σ a E q1 _ _ _ _ _ =>
  h B G H σ a.wf a.en _ fun p vs kvs G1 H1 n1 hG hp hH r k => by
    have hB : B p = none := by
      cases z : B p with
      | none => rfl
      | some o => exact absurd hp (a.nx.th p (by rw [z]; simp))
    exact q1 _ G1 H1 _ ⟨n1.wf a.wf, a.nx.trans n1, (a.en.mono n1).setK hB hG (a.wf.notin hp) hH r⟩ k
theorem ek_new {R : List (Int × Dt) → Prop} (h : R []) : Ek K J env tDNewK R := fun B G H σ w E Q q p hp => q p [] [] G _ (w.newM hp _) (w.free hp) hp upd_same .nil h
/-- {k: v for ..} -/
theorem ek_dc {wi : TI} {g : TG} {tt : TT} {vs : List Nat} {R : List (Int × Dt) → Prop} (h : Ei K J env wi fun ds => ds.length ≤ 100000 ∧ ∃ Iv : Nat → List (Int × Dt) → Prop, Iv 0 [] ∧
    (∀ k d acc, ds[k]? = some d → acc.length ≤ k → Iv k acc → Gt K J (wipeE env vs) g d vs fun e => Et K J e tt fun b => (b = true → Ev K J e tk fun y => ∃ n, y = .int n ∧ Ev K J e tv fun z => Iv (k + 1) (putI acc n z)) ∧ (b = false → Iv (k + 1) acc)) ∧
    ∀ acc, acc.length ≤ ds.length → Iv ds.length acc → R acc) : Ek K J env (tDc wi g tt tk tv vs) R := fun B G H σ w E Q q => by
  refine h B G H σ w E _ fun I ds G1 H1 n1 wk ⟨hz, Iv, h0, hs, hd⟩ => ?_
  intro Dl hDl
  have w1 := n1.wf w
  have E1 := E.mono n1
  have hn : Dl ∉ J.ms := w1.notin hDl
  have n0 := w1.newM hDl (.dK [])
  refine ⟨fun i m H' => m = ds.length - i ∧ i ≤ ds.length ∧ ∃ G' xs acc, Nx J G1 H1 G' H' ∧ G' Dl = none ∧ H' Dl = some (.dK xs) ∧ Dk K G' xs acc ∧ acc.length ≤ i ∧ Iv i acc,
    ⟨ds.length, by simp, Nat.zero_le _, G1, [], [], n0, w1.free hDl, upd_same, .nil, Nat.le_refl _, h0⟩, ?_⟩
  rintro i m H' ⟨rfl, hi, G', xs, acc, n, hG, hH, r, hl, p⟩
  have w' := n.wf w1
  by_cases hlt : i < ds.length
  · refine .inr ⟨wk.go i G' H' n.gg w' hlt, fun H2 => ∃ G2 xs2 acc2, Nx J G1 H1 G2 H2 ∧ G2 Dl = none ∧ H2 Dl = some (.dK xs2) ∧ Dk K G2 xs2 acc2 ∧ acc2.length ≤ i + 1 ∧ Iv (i + 1) acc2,
      fun H2 ⟨G2, xs2, acc2, a, b, c, d, e, f⟩ => ⟨ds.length - (i + 1), by omega, rfl, hlt, G2, xs2, acc2, a, b, c, d, e, f⟩, fun x H2 y => ?_⟩
    obtain ⟨G2, d, n2, hd', rd⟩ := wk.yld i G' H' x H2 n.gg w' hlt y
    have n02 := n.trans n2
    have w2 := n2.wf w'
    refine hs i d acc hd' hl p B G2 H2 (wipe σ vs) x w2 ((E1.mono n02).wipe vs) rd _ fun e3 σ3 E3 ks et => ⟨wipe_eq ks.1 ks.2, et B G2 H2 σ3 w2 E3 _ fun b G3 H3 n3 k => ?_⟩
    have hG2 := n2.fr Dl hG (by rw [hH]; simp)
    have hH2 := n2.kp Dl _ hH hn
    have hG3 := n3.fr Dl hG2 (by rw [hH2]; simp)
    have hH3 := n3.kp Dl _ hH2 hn
    have w3 := n3.wf w2
    cases b with
    | false => exact ⟨G3, xs, acc, n02.trans n3, hG3, hH3, (r.mono n2.gg).mono n3.gg, by omega, k.2 rfl⟩
    | true =>
      refine k.1 rfl B G3 H3 σ3 w3 (E3.mono n3) _ fun yv yd G4 H4 n4 ry ⟨kn, ek, kz⟩ => kz B G4 H4 σ3 (n4.wf w3) ((E3.mono n3).mono n4) _ fun zv zd G5 H5 n5 rz kI => ?_
      subst ek
      cases ry
      have hG4 := n4.fr Dl hG3 (by rw [hH3]; simp)
      have hH4 := n4.kp Dl _ hH3 hn
      have hG5 := n5.fr Dl hG4 (by rw [hH4]; simp)
      have hH5 := n5.kp Dl _ hH4 hn
      have n05 := ((n02.trans n3).trans n4).trans n5
      have n6 := n05.mut (o' := .dK (putK xs (Sum.inl kn) zv)) hDl hG5 hn hH5
      have r5 := (((r.mono n2.gg).mono n3.gg).mono n4.gg).mono n5.gg
      exact ⟨xs, Sum.inl kn, rfl, hH5, sz_lt (by rw [r.length]; omega), G5, _, putI acc kn zd, n6, hG5, upd_same, r5.put rz, Nat.le_trans putI_len (by omega), kI⟩
  · have e' : i = ds.length := by omega
    subst e'
    exact .inl ⟨wk.stop G' H' n.gg w', q Dl xs acc G' H' (n1.trans n) hG (by
      cases z : H Dl with
      | none => rfl
      | some o => exact absurd hDl (n1.th Dl (by rw [z]; simp))) hH r (hd acc hl p)⟩
end
end Mv

set_option Elab.async false
set_option linter.all false
set_option maxRecDepth 100000
set_option maxHeartbeats 4000000
namespace Mv
open PySem PySem.Spec PyProof.Rows L2
/-- d = {k: v for ..}, the name taking the dict at once -/
theorem ps_setDc {X : Cx} {i : Nat} {y : Str} {py : Pos} {kx vx tg iter : Expr} {ifs : List Expr} {scope : Scope} {own : List (Str × Nat)} {pos spos : Pos} {wi : TI} {g : TG} {tt : TT} {tk tv : TE} (hc : X.calm = true) (hN : X.N.Nodup) (hi : X.N[i]? = some y) (hl : List.lookup y X.env.scope.names = some .local)
    (hs : swapsWith (.DictComp kx vx [⟨tg, iter, ifs, 0⟩] scope pos) (some (.Name y py)) spos.line X.env = pure true) (hI : PI X tg iter wi) (hB : BlkOk X.N X.env.scope scope own)
    (hG : ∀ (s : Shared) (H : Hp) (C : Addr) (cl : List (Str × Addr)) (fp : List Addr), PG (X.blk s H scope (compEnvC scope cl C X.env) fp) tg g)
    (hT : ∀ (s : Shared) (H : Hp) (C : Addr) (cl : List (Str × Addr)) (fp : List Addr), PTs (X.blk s H scope (compEnvC scope cl C X.env) fp) ifs tt)
    (hK : ∀ (s : Shared) (H : Hp) (C : Addr) (cl : List (Str × Addr)) (fp : List Addr), PE (X.blk s H scope (compEnvC scope cl C X.env) fp) kx tk)
    (hV : ∀ (s : Shared) (H : Hp) (C : Addr) (cl : List (Str × Addr)) (fp : List Addr), PE (X.blk s H scope (compEnvC scope cl C X.env) fp) vx tv)
    (hf : ∀ x : Value, foldedSetIterable iter X.env x = pure x := by intro x; rfl) : PS X (.Assign [.Name y py] (.DictComp kx vx [⟨tg, iter, ifs, 0⟩] scope pos) spos) (tAsg (tDc wi g tt tk tv (own.map fun x => x.2)) (gName i)) := by
  refine ⟨fun pins s σ H D I h => ?_⟩
  rw [PySem.exec_Assign_Name_used _ _ _ _ hs]
  refine wpAny_bind (wpAny_standAt ?_)
  refine wpAny_bind ?_
  unfold PySem.evalThenUse
  refine wpAny_bind (thn (dc_core (use := some (assign (.Name y py) X.env)) (Qf := fun _ s' => ∃ σ' H', L2.Inv X pins σ' H' s' ∧ D.nx σ' H') hc hN I hI hB hG hT hK hV hf h fun Dd C s' m H' I' q hns fC => ?_) fun _ s' hx => ?_)
  · refine wpAny_assign_Name (store_ok2 (v := .ref Dd) I' hN hi (.inl hl) rfl (fun s'' I'' ⟨a, sb, ha⟩ => ⟨m, hns.sameBut sb ?_, fun h' sb2 => ⟨_, H', I''.turned (it := C) (fun b o hb e => (sb2.2 b hb).trans e) fC.1 fC.2.1 fC.2.2.2.1 fC.2.2.2.2.1 fC.2.2.2.2.2, q⟩⟩) (.inr hl))
    rcases ha with rfl | ha
    · exact fC.2.1
    · exact fun z => fC.2.2.2.2.1 _ _ ha z.symm
  · exact wpAny_pure (wpAny_pure hx)
theorem sw_trueD {kx vx : Expr} {gs : List Comprehension} {scope : Scope} {pos py : Pos} {y : Str} {l : Nat} {env : PySem.Env} (h1 : env.scope.kind = .function) (h2 : List.lookup y env.scope.names = some .local) (h3 : (py.line == pos.line) = true)
    (h4 : (scope.names.any fun x => match x with | (n, k) => n == y && (k == NameKind.local || k == NameKind.cell)) = false) : swapsWith (.DictComp kx vx gs scope pos) (some (.Name y py)) l env = pure true :=
  (show swapsWith (.DictComp kx vx gs scope pos) (some (.Name y py)) l env = swapsWith (.ListComp kx gs scope pos) (some (.Name y py)) l env from rfl).trans (sw_true h1 h2 h3 h4)
end Mv

set_option Elab.async false
set_option linter.all false
set_option maxRecDepth 100000
set_option maxHeartbeats 4000000
/-! Dicts whose keys are tuples within tuples: what such a dict is, k in d, d[k], d[k] = v, del d[k] (the hand layer's side). -/
namespace Mv
open PySem PySem.Spec PyProof.Rows L2
mutual
/-- a value that is such a key -/
inductive NkV (K : PySem.W.Frag) (H : Hp) : NestedKey → V → Prop
  | int (i : Int) : NkV K H (.num i) (.int i)
  | text (x : Str) : NkV K H (.text x) (.str x)
  | tup {a : Addr} {vs : List V} {ks : List NestedKey} : SqT K H a vs → NkA K H ks vs → NkV K H (.tup ks) (.ref a)
inductive NkA (K : PySem.W.Frag) (H : Hp) : List NestedKey → List V → Prop
  | nil : NkA K H [] []
  | cons {k : NestedKey} {v : V} {ks : List NestedKey} {vs : List V} : NkV K H k v → NkA K H ks vs → NkA K H (k :: ks) (v :: vs)
end
section
variable {X : Cx} {pins : List (Addr × Obj)} {σ : L2.St} {H : Hp} {s : Shared}
mutual
theorem NkV.is (I : Inv X pins σ H s) : ∀ {k : NestedKey} {v : V} {u : Value}, NkV X.K H k v → RelV v u → NestedIs s.heap k u
  | _, _, _, .int i, r => by
    obtain ⟨t, rfl⟩ := r
    exact .int i t
  | _, _, _, .text x, r => by
    obtain ⟨t, rfl⟩ := r
    exact .text x t
  | _, _, _, .tup hs ha, r => by
    cases r
    obtain ⟨its, rv, p, _⟩ := I.tuple hs
    obtain ⟨o, ho, hc, n, hd⟩ := p
    exact .tup ho hc hd (NkA.is I ha rv)
theorem NkA.is (I : Inv X pins σ H s) : ∀ {ks : List NestedKey} {vs : List V} {us : List Value}, NkA X.K H ks vs → Vals vs us → NestedAll s.heap ks us
  | _, _, _, .nil, r => by cases r; exact .nil
  | _, _, _, .cons h t, r => by
    cases r with
    | cons r1 r2 => exact .cons (NkV.is I h r1) (NkA.is I t r2)
end
end
/-- such a dict: its keys with where they stand, its values -/
def ndO (P : Program) (w : World) (a : Addr) (ks : List (NestedKey × Addr × V)) : HO := .ext fun h => (a == sysModules) = false ∧ ∃ (o : Obj) (es : Array DictEntry) (ep : Nat) (xs : List (NestedKey × Addr × Value)), h.get? a = some o ∧ o.ExactDict ∧ o.data = .dict es ep ∧ es.toList = xs.map (entryOfKey (nestedKind P w)) ∧ (xs.map (·.1)).Nodup ∧
  Paired (fun (p : NestedKey × Addr × V) (q : NestedKey × Addr × Value) => p.1 = q.1 ∧ p.2.1 = q.2.1 ∧ RelV p.2.2 q.2.2) ks xs
theorem ndO_ok {P : Program} {w : World} {H : Hp} {h : Heap} {a : Addr} {ks : List (NestedKey × Addr × V)} {xs : List (NestedKey × Addr × Value)} (hm : (a == sysModules) = false) (hd : h.DictOfH (nestedKind P w) a xs) (r : Paired (fun (p : NestedKey × Addr × V) (q : NestedKey × Addr × Value) => p.1 = q.1 ∧ p.2.1 = q.2.1 ∧ RelV p.2.2 q.2.2) ks xs) : ObjOk P w H h a (ndO P w a ks) := by
  obtain ⟨o, es, ep, h1, h2, h3, h4, _, h5⟩ := hd
  exact ⟨⟨hm, o, es, ep, xs, h1, h2, h3, h4, h5, r⟩, ⟨o, h1⟩, fun g1 g2 ⟨hm', o', es', ep', xs', k1, k⟩ hk => ⟨hm', o', es', ep', xs', hk o' k1, k⟩⟩
/-- all its keys stand where they are told to -/
def NdK (K : PySem.W.Frag) (H : Hp) (ks : List (NestedKey × Addr × V)) : Prop := ∀ e ∈ ks, NkV K H e.1 (.ref e.2.1) ∧ e.1.depth ≤ 8
section
variable {X : Cx} {pins : List (Addr × Obj)} {σ : L2.St} {H : Hp} {s : Shared}
theorem nd_at (I : Inv X pins σ H s) {a : Addr} {ks : List (NestedKey × Addr × V)} (hH : H a = some (ndO X.prog X.w a ks)) (hk : NdK X.K H ks) : (a == sysModules) = false ∧ ∃ xs, s.heap.DictOfH (nestedKind X.prog X.w) a xs ∧ Paired (fun (p : NestedKey × Addr × V) (q : NestedKey × Addr × Value) => p.1 = q.1 ∧ p.2.1 = q.2.1 ∧ RelV p.2.2 q.2.2) ks xs := by
  obtain ⟨⟨hm, o, es, ep, xs, h1, h2, h3, h4, h5, r⟩, _⟩ := I.hok a _ hH
  refine ⟨hm, xs, ⟨o, es, ep, h1, h2, h3, h4, fun x hx => ?_, h5⟩, r⟩
  obtain ⟨j, hj, e⟩ := List.getElem_of_mem hx
  obtain ⟨p, hp, e1, e2, _⟩ := L2.DX.pget r (by rw [List.getElem?_eq_getElem hj, e])
  have hp2 := hk p (List.mem_of_getElem? hp)
  rw [← e1, ← e2]
  exact ⟨hp2.1.is I rfl, hp2.2⟩
/-- what it holds at a key -/
def atN (ks : List (NestedKey × Addr × V)) (k : NestedKey) : Option V := (ks.find? fun x => decide (x.1 = k)).map (·.2.2)
abbrev NdR (ks : List (NestedKey × Addr × V)) (xs : List (NestedKey × Addr × Value)) : Prop := Paired (fun (p : NestedKey × Addr × V) (q : NestedKey × Addr × Value) => p.1 = q.1 ∧ p.2.1 = q.2.1 ∧ RelV p.2.2 q.2.2) ks xs
theorem NdR.at : ∀ {ks : List (NestedKey × Addr × V)} {xs : List (NestedKey × Addr × Value)} (k : NestedKey), NdR ks xs → (∀ v, atN ks k = some v → ∃ p, PySem.atKey xs k = some p ∧ RelV v p.2) ∧ (atN ks k = none → PySem.atKey xs k = none)
  | [], _, k, h => by
    cases h
    exact ⟨fun v h => (by cases h), fun _ => rfl⟩
  | e :: ks, _, k, h => by
    cases h with
    | cons h t =>
      rename_i q xs
      obtain ⟨i1, i2⟩ := NdR.at k t
      obtain ⟨e1, e2, e3⟩ := h
      unfold atN PySem.atKey at *
      rw [List.find?_cons, List.find?_cons, ← e1]
      by_cases z : e.1 = k
      · rw [decide_eq_true z]
        exact ⟨fun v hv => ⟨q.2, rfl, by cases hv; exact e3⟩, fun hv => (by cases hv)⟩
      · rw [decide_eq_false z]
        exact ⟨i1, i2⟩
/-- k in d, k not in d -/
def rInN (P : Program) (w : World) (K : PySem.W.Frag) (neg : Bool) : R2 := fun x y H Q => ∃ (b a : Addr) (ks : List (NestedKey × Addr × V)) (k : NestedKey), x = .ref b ∧ y = .ref a ∧ H a = some (ndO P w a ks) ∧ NdK K H ks ∧ NkV K H k (.ref b) ∧ k.depth ≤ 8 ∧ Q (.bl (if neg then !(atN ks k).isSome else (atN ks k).isSome)) H
theorem NdR.has {ks : List (NestedKey × Addr × V)} {xs : List (NestedKey × Addr × Value)} {k : NestedKey} (r : NdR ks xs) : (PySem.atKey xs k).isSome = (atN ks k).isSome := by
  obtain ⟨h1, h2⟩ := NdR.at k r
  cases h : atN ks k with
  | none => rw [h2 h]; rfl
  | some v => obtain ⟨p, hp, _⟩ := h1 v h; rw [hp]; rfl
theorem op_inN (hu : X.A.units + 9 < cLine) : OpR X (compareOp .In) (rInN X.prog X.w X.K false) := by
  intro pins s σ H x y v u Q I rx ry h
  obtain ⟨b, a, ks, k, rfl, rfl, hH, hk, hn, hd, q⟩ := h
  cases rx
  cases ry
  obtain ⟨hm, xs, hx, r⟩ := nd_at I hH hk
  refine wpAny_in_heap (knd := nestedKind X.prog X.w) (show X.A.units + 1 + 8 < cLine by omega) ⟨hn.is I rfl, hd⟩ hm hx ?_
  rw [NdR.has r]
  exact ⟨.bl _, H, I.tok _, rfl, q⟩
/-- d[k], there -/
def rIxN (P : Program) (w : World) (K : PySem.W.Frag) : R2 := fun x y H Q => ∃ (b a : Addr) (ks : List (NestedKey × Addr × V)) (k : NestedKey) (v : V), x = .ref a ∧ y = .ref b ∧ H a = some (ndO P w a ks) ∧ NdK K H ks ∧ NkV K H k (.ref b) ∧ k.depth ≤ 8 ∧ atN ks k = some v ∧ Q v H
theorem nd_getItem {A : Around} {E : Value → Shared → Prop} {Q : Value → Shared → Prop} (hu : A.units + 9 < cLine) (I : Inv X pins σ H s) {a b : Addr} {ks : List (NestedKey × Addr × V)} {k : NestedKey} {v : V} (hH : H a = some (ndO X.prog X.w a ks)) (hk : NdK X.K H ks) (hn : NkV X.K H k (.ref b)) (hd : k.depth ≤ 8) (hv : atN ks k = some v)
    (h : ∀ u s', Inv X pins σ H s' → RelV v u → Q u s') : wpAny (model X.prog X.w) A (getItem (.ref a) (.ref b)) Q E s := by
  obtain ⟨hm, xs, hx, r⟩ := nd_at I hH hk
  obtain ⟨p, hp, rp⟩ := (NdR.at k r).1 v hv
  exact wpAny_getItem_heap (knd := nestedKind X.prog X.w) (show A.units + 1 + 8 < cLine by omega) ⟨hn.is I rfl, hd⟩ hx hp (h _ _ (I.tok _) rp)
theorem op_notInN (hu : X.A.units + 9 < cLine) : OpR X (compareOp .NotIn) (rInN X.prog X.w X.K true) := by
  intro pins s σ H x y v u Q I rx ry h
  obtain ⟨b, a, ks, k, rfl, rfl, hH, hk, hn, hd, q⟩ := h
  cases rx
  cases ry
  obtain ⟨hm, xs, hx, r⟩ := nd_at I hH hk
  refine notIn_keyed (knd := nestedKind X.prog X.w) (show X.A.units + 1 + 8 < cLine by omega) ⟨hn.is I rfl, hd⟩ hm ⟨xs, hx, rfl⟩ ?_
  rw [valueAt_pairsH, Option.isSome_map, NdR.has r]
  exact ⟨.bl _, H, I.tok _, rfl, q⟩
/-- d[k] = v: a key that is there stays where it stands -/
def putN (ks : List (NestedKey × Addr × V)) (k : NestedKey) (b : Addr) (v : V) : List (NestedKey × Addr × V) := if (atN ks k).isSome then ks.map fun x => if x.1 = k then (x.1, x.2.1, v) else x else ks ++ [(k, b, v)]
theorem NdR.put1 {ks : List (NestedKey × Addr × V)} {xs : List (NestedKey × Addr × Value)} {k : NestedKey} {v : V} {u : Value} (r : NdR ks xs) (rv : RelV v u) : NdR (ks.map fun x => if x.1 = k then (x.1, x.2.1, v) else x) (xs.map (PySem.putAt k u)) := by
  induction r with
  | nil => exact .nil
  | @cons p q ps qs h t ih =>
    obtain ⟨e1, e2, e3⟩ := h
    refine .cons ?_ ih
    unfold PySem.putAt
    by_cases z : p.1 = k
    · have z2 : q.1 = k := e1 ▸ z
      simp only [if_pos z, if_pos z2]
      exact ⟨e1, e2, rv⟩
    · have z2 : ¬ q.1 = k := fun y => z (e1.trans y)
      simp only [if_neg z, if_neg z2]
      exact ⟨e1, e2, e3⟩
theorem NdR.put2 {ks : List (NestedKey × Addr × V)} {xs : List (NestedKey × Addr × Value)} {k : NestedKey} {b : Addr} {v : V} {u : Value} (r : NdR ks xs) (rv : RelV v u) : NdR (ks ++ [(k, b, v)]) (xs ++ [(k, b, u)]) := by
  induction r with
  | nil => exact .cons ⟨rfl, rfl, rv⟩ .nil
  | cons h _ ih => exact .cons h ih
theorem NdR.put {ks : List (NestedKey × Addr × V)} {xs : List (NestedKey × Addr × Value)} {k : NestedKey} {b : Addr} {v : V} {u : Value} (r : NdR ks xs) (rv : RelV v u) : NdR (putN ks k b v) (PySem.storedH xs k b u) := by
  unfold putN PySem.storedH
  rw [NdR.has r]
  split
  · exact NdR.put1 r rv
  · exact NdR.put2 r rv
/-- del d[k] -/
def dropN (ks : List (NestedKey × Addr × V)) (k : NestedKey) : List (NestedKey × Addr × V) := ks.filter fun x => decide (x.1 ≠ k)
theorem NdR.drop {ks : List (NestedKey × Addr × V)} {xs : List (NestedKey × Addr × Value)} {k : NestedKey} (r : NdR ks xs) : NdR (dropN ks k) (PySem.withoutH xs k) := by
  induction r with
  | nil => exact .nil
  | @cons p q ps qs h t ih =>
    unfold dropN PySem.withoutH at *
    rw [List.filter_cons, List.filter_cons, ← h.1]
    by_cases z : p.1 = k
    · rw [if_neg (by simp [z]), if_neg (by simp [z])]; exact ih
    · rw [if_pos (by simp [z]), if_pos (by simp [z])]; exact .cons h ih
theorem nd_len {ks : List (NestedKey × Addr × V)} {xs : List (NestedKey × Addr × Value)} (r : NdR ks xs) : ks.length = xs.length := by
  induction r with
  | nil => rfl
  | cons _ _ ih => rw [List.length_cons, List.length_cons, ih]
theorem nd_setItem {A : Around} {E : Value → Shared → Prop} {Q : Unit → Shared → Prop} (hu : A.units + 9 < cLine) (I : Inv X pins σ H s) {a b : Addr} {ks : List (NestedKey × Addr × V)} {k : NestedKey} {v : V} {u : Value} (hH : H a = some (ndO X.prog X.w a ks)) (hk : NdK X.K H ks) (hn : NkV X.K H k (.ref b)) (hd : k.depth ≤ 8) (rv : RelV v u) (hz : ks.length ≤ sizeLine)
    (h : ∀ s', Inv X pins σ (upd H a (ndO X.prog X.w a (putN ks k b v))) s' → Q () s') : wpAny (model X.prog X.w) A (setItem (.ref a) (.ref b) u) Q E s := by
  obtain ⟨hm, xs, hx, r⟩ := nd_at I hH hk
  refine wpAny_setItem_heap (knd := nestedKind X.prog X.w) (show A.units + 1 + 8 < cLine by omega) ⟨hn.is I rfl, hd⟩ hx (fun h' hx' hs => h _ ?_) (by rw [← nd_len r]; exact hz)
  have hex : ∃ o, h'.get? a = some o := let ⟨o, _, _, e, _⟩ := hx'; ⟨o, e⟩
  exact I.write (t' := s.toks + _) (by rw [hH]; trivial) (.inl rfl) (fun c o hc e => (hs.2 c hc).trans e) hex (ndO_ok hm hx' (NdR.put r rv))
theorem nd_delItem {A : Around} {E : Value → Shared → Prop} {Q : Unit → Shared → Prop} (hu : A.units + 9 < cLine) (I : Inv X pins σ H s) {a b : Addr} {ks : List (NestedKey × Addr × V)} {k : NestedKey} {v : V} (hH : H a = some (ndO X.prog X.w a ks)) (hk : NdK X.K H ks) (hn : NkV X.K H k (.ref b)) (hd : k.depth ≤ 8) (hv : atN ks k = some v) (hz : ks.length ≤ sizeLine)
    (h : ∀ s', Inv X pins σ (upd H a (ndO X.prog X.w a (dropN ks k))) s' → Q () s') : wpAny (model X.prog X.w) A (delItem (.ref a) (.ref b)) Q E s := by
  obtain ⟨hm, xs, hx, r⟩ := nd_at I hH hk
  obtain ⟨p, hp, rp⟩ := (NdR.at k r).1 v hv
  refine wpAny_delItem_heap (knd := nestedKind X.prog X.w) (show A.units + 1 + 8 < cLine by omega) ⟨hn.is I rfl, hd⟩ hm hx hp (fun h' hx' hs => h _ ?_) (by rw [← nd_len r]; exact hz)
  have hex : ∃ o, h'.get? a = some o := let ⟨o, _, _, e, _⟩ := hx'; ⟨o, e⟩
  exact I.write (t' := s.toks + _) (by rw [hH]; trivial) (.inl rfl) (fun c o hc e => (hs.2 c hc).trans e) hex (ndO_ok hm hx' (NdR.drop r))
end
/-! keys and values as data -/
mutual
theorem NkV.mono {K : PySem.W.Frag} {G G' : Hp} (e : Same G G') : ∀ {k : NestedKey} {v : V}, NkV K G k v → NkV K G' k v
  | _, _, .int i => .int i
  | _, _, .text x => .text x
  | _, _, .tup hs ha => .tup (same_t e hs) (NkA.mono e ha)
theorem NkA.mono {K : PySem.W.Frag} {G G' : Hp} (e : Same G G') : ∀ {ks : List NestedKey} {vs : List V}, NkA K G ks vs → NkA K G' ks vs
  | _, _, .nil => .nil
  | _, _, .cons h t => .cons (NkV.mono e h) (NkA.mono e t)
end
inductive NdD (K : PySem.W.Frag) (G : Hp) : List (NestedKey × Addr × V) → List (NestedKey × Dt) → Prop
  | nil : NdD K G [] []
  | cons {k : NestedKey} {b : Addr} {v : V} {d : Dt} {ks : List (NestedKey × Addr × V)} {ds : List (NestedKey × Dt)} : NkV K G k (.ref b) → k.depth ≤ 8 → Dr K G v d → NdD K G ks ds → NdD K G ((k, b, v) :: ks) ((k, d) :: ds)
theorem NdD.mono {K : PySem.W.Frag} {G G' : Hp} (e : Same G G') : ∀ {ks : List (NestedKey × Addr × V)} {ds : List (NestedKey × Dt)}, NdD K G ks ds → NdD K G' ks ds
  | _, _, .nil => .nil
  | _, _, .cons h hd r t => .cons (h.mono e) hd (r.mono e) (NdD.mono e t)
theorem NdD.keys {K : PySem.W.Frag} {G : Hp} : ∀ {ks : List (NestedKey × Addr × V)} {ds : List (NestedKey × Dt)}, NdD K G ks ds → NdK K G ks
  | _, _, .nil => fun e h => (nomatch h)
  | _, _, .cons h hd _ t => fun e he => by
    rcases List.mem_cons.mp he with rfl | he
    · exact ⟨h, hd⟩
    · exact NdD.keys t e he
theorem NdD.len {K : PySem.W.Frag} {G : Hp} : ∀ {ks : List (NestedKey × Addr × V)} {ds : List (NestedKey × Dt)}, NdD K G ks ds → ks.length = ds.length
  | _, _, .nil => rfl
  | _, _, .cons _ _ _ t => by rw [List.length_cons, List.length_cons, NdD.len t]
/-- the same over data -/
def atQ (ds : List (NestedKey × Dt)) (k : NestedKey) : Option Dt := (ds.find? fun x => decide (x.1 = k)).map (·.2)
def putQN (ds : List (NestedKey × Dt)) (k : NestedKey) (d : Dt) : List (NestedKey × Dt) := if (atQ ds k).isSome then ds.map fun x => if x.1 = k then (x.1, d) else x else ds ++ [(k, d)]
def dropQ (ds : List (NestedKey × Dt)) (k : NestedKey) : List (NestedKey × Dt) := ds.filter fun x => decide (x.1 ≠ k)
theorem NdD.at {K : PySem.W.Frag} {G : Hp} (k : NestedKey) : ∀ {ks : List (NestedKey × Addr × V)} {ds : List (NestedKey × Dt)}, NdD K G ks ds → (∀ d, atQ ds k = some d → ∃ v, atN ks k = some v ∧ Dr K G v d) ∧ (atQ ds k = none → atN ks k = none)
  | _, _, .nil => ⟨fun d h => (by cases h), fun _ => rfl⟩
  | _, _, .cons (k := k') (v := v) h hd r t => by
    obtain ⟨i1, i2⟩ := NdD.at k t
    unfold atQ atN at *
    rw [List.find?_cons, List.find?_cons]
    by_cases z : k' = k
    · simp only [z, decide_true]
      exact ⟨fun d hd => ⟨v, rfl, by cases hd; exact r⟩, fun hd => (by cases hd)⟩
    · simp only [z, decide_false]
      exact ⟨i1, i2⟩
theorem NdD.has {K : PySem.W.Frag} {G : Hp} {k : NestedKey} {ks : List (NestedKey × Addr × V)} {ds : List (NestedKey × Dt)} (h : NdD K G ks ds) : (atN ks k).isSome = (atQ ds k).isSome := by
  obtain ⟨h1, h2⟩ := h.at k
  cases q : atQ ds k with
  | none => rw [h2 q]; rfl
  | some d => obtain ⟨v, e, _⟩ := h1 d q; rw [e]; rfl
theorem NdD.put1 {K : PySem.W.Frag} {G : Hp} {k : NestedKey} {v : V} {d : Dt} (r : Dr K G v d) : ∀ {ks : List (NestedKey × Addr × V)} {ds : List (NestedKey × Dt)}, NdD K G ks ds → NdD K G (ks.map fun x => if x.1 = k then (x.1, x.2.1, v) else x) (ds.map fun x => if x.1 = k then (x.1, d) else x)
  | _, _, .nil => .nil
  | _, _, .cons (k := k') h hd r' t => by
    rw [List.map_cons, List.map_cons]
    by_cases z : k' = k
    · simp only [if_pos z]
      exact .cons h hd r (NdD.put1 r t)
    · simp only [if_neg z]
      exact .cons h hd r' (NdD.put1 r t)
theorem NdD.put2 {K : PySem.W.Frag} {G : Hp} {k : NestedKey} {b : Addr} {v : V} {d : Dt} (hk : NkV K G k (.ref b)) (h8 : k.depth ≤ 8) (r : Dr K G v d) : ∀ {ks : List (NestedKey × Addr × V)} {ds : List (NestedKey × Dt)}, NdD K G ks ds → NdD K G (ks ++ [(k, b, v)]) (ds ++ [(k, d)])
  | _, _, .nil => .cons hk h8 r .nil
  | _, _, .cons h hd r' t => .cons h hd r' (NdD.put2 hk h8 r t)
theorem NdD.put {K : PySem.W.Frag} {G : Hp} {k : NestedKey} {b : Addr} {v : V} {d : Dt} (hk : NkV K G k (.ref b)) (h8 : k.depth ≤ 8) (r : Dr K G v d) {ks : List (NestedKey × Addr × V)} {ds : List (NestedKey × Dt)} (h : NdD K G ks ds) : NdD K G (putN ks k b v) (putQN ds k d) := by
  unfold putN putQN
  rw [h.has]
  split
  · exact NdD.put1 r h
  · exact NdD.put2 hk h8 r h
theorem NdD.drop {K : PySem.W.Frag} {G : Hp} {k : NestedKey} : ∀ {ks : List (NestedKey × Addr × V)} {ds : List (NestedKey × Dt)}, NdD K G ks ds → NdD K G (dropN ks k) (dropQ ds k)
  | _, _, .nil => .nil
  | _, _, .cons (k := k') h hd r t => by
    have ih := NdD.drop (k := k) t
    unfold dropN dropQ at *
    rw [List.filter_cons, List.filter_cons]
    by_cases z : k' = k
    · rw [if_neg (by simp [z]), if_neg (by simp [z])]; exact ih
    · rw [if_pos (by simp [z]), if_pos (by simp [z])]; exact .cons h hd r ih
end Mv

set_option Elab.async false
set_option linter.all false
set_option maxRecDepth 100000
set_option maxHeartbeats 4000000
/-! Objects that a def changes for its caller: their addresses and what they hold. -/
namespace Mv
open PySem PySem.Spec PyProof.Rows L2

inductive OB where
  | lst (xs : List Dt) | dic (kvs : List (Key × Dt)) | dit (kvs : List (List Key × Dt)) | ins (C : Addr) (fs : List (Str × Dt)) | dn (P : Program) (w : World) (kvs : List (NestedKey × Dt))
inductive Dq (K : PySem.W.Frag) (G : Hp) {κ : Type} : List (κ × V) → List (κ × Dt) → Prop
  | nil : Dq K G [] []
  | cons {k : κ} {v : V} {vs : List (κ × V)} {d : Dt} {ds : List (κ × Dt)} : Dr K G v d → Dq K G vs ds → Dq K G ((k, v) :: vs) ((k, d) :: ds)
theorem Dq.mono {K : PySem.W.Frag} {G G' : Hp} {κ : Type} (e : Same G G') : ∀ {vs : List (κ × V)} {ds : List (κ × Dt)}, Dq K G vs ds → Dq K G' vs ds
  | _, _, .nil => .nil
  | _, _, .cons r t => .cons (r.mono e) (Dq.mono e t)
inductive OR (K : PySem.W.Frag) (G : Hp) : HO → OB → Prop
  | lst {vs : List V} {ds : List Dt} : Da K G vs ds → OR K G (.lst vs) (.lst ds)
  | dic {vs : List (Key × V)} {ds : List (Key × Dt)} : Dq K G vs ds → OR K G (.dK vs) (.dic ds)
  | dit {vs : List (List Key × V)} {ds : List (List Key × Dt)} : Dq K G vs ds → OR K G (.dT vs) (.dit ds)
  | ins {C dx : Addr} {vs : List (Str × V)} {fs : List (Str × Dt)} : Df K G vs fs → OR K G (.ins C dx vs) (.ins C fs)
  | dn {P : Program} {w : World} {a : Addr} {ks : List (NestedKey × Addr × V)} {ds : List (NestedKey × Dt)} : NdD K G ks ds → OR K G (ndO P w a ks) (.dn P w ds)
theorem OR.mono {K : PySem.W.Frag} {G G' : Hp} (e : Same G G') {ho : HO} {ob : OB} (h : OR K G ho ob) : OR K G' ho ob := by
  cases h with
  | lst r => exact .lst (r.mono e)
  | dic r => exact .dic (r.mono e)
  | dit r => exact .dit (r.mono e)
  | ins r => exact .ins (r.mono e)
  | dn r => exact .dn (r.mono e)
abbrev Mm := Addr → Option OB
abbrev Mh := Addr → Option HO
def updM (M : Mm) (a : Addr) (o : OB) : Mm := fun b => if b = a then some o else M b
theorem updM_same {M : Mm} {a : Addr} {o : OB} : updM M a o a = some o := if_pos rfl
theorem updM_ne {M : Mm} {a b : Addr} {o : OB} (h : b ≠ a) : updM M a o b = M b := if_neg h
theorem updM_updM {M : Mm} {a : Addr} {o u : OB} : updM (updM M a o) a u = updM M a u := by
  funext b; unfold updM; split <;> rfl
def RM (K : PySem.W.Frag) (G : Hp) (M : Mm) (MV : Mh) : Prop := ∀ a, (∀ ob, M a = some ob → ∃ ho, MV a = some ho ∧ OR K G ho ob) ∧ (M a = none → MV a = none)
/-- J and the objects told by M -/
def Jt (K : PySem.W.Frag) (J : Jm) (MV : Mh) (M : Mm) : Jm where
  ms := fun b => b ∈ J.ms ∨ MV b ≠ none
  ok := fun H => J.ok H ∧ (∀ a, MV a ≠ none → a ∉ J.ms) ∧ ∀ a o, MV a = some o → H a = some o
  st := fun H H' ⟨a, b, c⟩ k => ⟨J.st H H' a fun x hx => k x (.inl hx), b, fun x o e => by rw [k x (.inr (by rw [e]; simp))]; exact c x o e⟩
  hd := J.hd
  hm := fun k e => .inl (J.hm k e)
  hg := fun k H e o => J.hg k H e o.1
  hp := fun k H H' e ⟨a, b, c⟩ o' q => ⟨J.hp k H H' e a o' fun x hx hn => q x (.inl hx) hn, b, fun x o ex => by
    have hx : MV x ≠ none := by rw [ex]; simp
    rw [q x (.inr hx) fun z => b x hx (by rw [z]; exact J.hm k e)]; exact c x o ex⟩
  tr := fun G => J.tr G ∧ RM K G M MV
  trm := fun G G' e ⟨a, b⟩ => ⟨J.trm G G' e a, fun x => ⟨fun ob h => let ⟨ho, h1, h2⟩ := (b x).1 ob h; ⟨ho, h1, h2.mono e⟩, (b x).2⟩⟩
section
variable {K : PySem.W.Frag} {J : Jm} {MV MV' MV2 MV0 : Mh} {M M' M2 : Mm} {G H G' H' G2 H2 GB B : Hp} {σ σ' : L2.St} {env : List Sl}
theorem Wf.at_ (w : Wf (Jt K J MV M) G H) {a : Addr} {ob : OB} (h : M a = some ob) : ∃ ho, MV a = some ho ∧ H a = some ho ∧ OR K G ho ob := by
  obtain ⟨ho, h1, h2⟩ := (w.tr.2 a).1 ob h
  exact ⟨ho, h1, w.ok.2.2 a ho h1, h2⟩
theorem Wf.lstM (w : Wf (Jt K J MV M) G H) {a : Addr} {ds : List Dt} (h : M a = some (.lst ds)) : ∃ vs, MV a = some (.lst vs) ∧ H a = some (.lst vs) ∧ Da K G vs ds := by
  obtain ⟨ho, h1, h2, h3⟩ := w.at_ h
  cases h3 with
  | lst r => exact ⟨_, h1, h2, r⟩
theorem Wf.insM (w : Wf (Jt K J MV M) G H) {a C : Addr} {fs : List (Str × Dt)} (h : M a = some (.ins C fs)) : ∃ dx vs, MV a = some (.ins C dx vs) ∧ H a = some (.ins C dx vs) ∧ Df K G vs fs := by
  obtain ⟨ho, h1, h2, h3⟩ := w.at_ h
  cases h3 with
  | ins r => exact ⟨_, _, h1, h2, r⟩
theorem Wf.dicM (w : Wf (Jt K J MV M) G H) {a : Addr} {ds : List (Key × Dt)} (h : M a = some (.dic ds)) : ∃ vs, MV a = some (.dK vs) ∧ H a = some (.dK vs) ∧ Dq K G vs ds := by
  obtain ⟨ho, h1, h2, h3⟩ := w.at_ h
  cases h3 with
  | dic r => exact ⟨_, h1, h2, r⟩
theorem Wf.ditM (w : Wf (Jt K J MV M) G H) {a : Addr} {ds : List (List Key × Dt)} (h : M a = some (.dit ds)) : ∃ vs, MV a = some (.dT vs) ∧ H a = some (.dT vs) ∧ Dq K G vs ds := by
  obtain ⟨ho, h1, h2, h3⟩ := w.at_ h
  cases h3 with
  | dit r => exact ⟨_, h1, h2, r⟩
/-- behind a piece of code that changes the objects -/
structure NxM (J : Jm) (MV : Mh) (G H : Hp) (MV' : Mh) (G' H' : Hp) : Prop where
  gg : Same G G'
  fr : ∀ b, G b = none → H b ≠ none → G' b = none
  kp : ∀ b o, H b = some o → b ∉ J.ms → MV b = none → H' b = some o
  th : ∀ b, H b ≠ none → H' b ≠ none
  dm : ∀ b, MV' b ≠ none → MV b ≠ none ∨ H b = none
  dk : ∀ b, MV b ≠ none → MV' b ≠ none
theorem NxM.of (n : Nx (Jt K J MV M) G H G' H') : NxM J MV G H MV G' H' :=
  ⟨n.gg, n.fr, fun b o e h1 h2 => n.kp b o e fun z => z.elim h1 fun z => z h2, n.th, fun b h => .inl h, fun b h => h⟩
theorem NxM.refl : NxM J MV G H MV G H := ⟨Same.refl _, fun b h _ => h, fun b o e _ _ => e, fun b h => h, fun b h => .inl h, fun b h => h⟩
theorem NxM.trans (a : NxM J MV G H MV' G' H') (b : NxM J MV' G' H' MV2 G2 H2) : NxM J MV G H MV2 G2 H2 := by
  refine ⟨a.gg.trans b.gg, fun x h1 h2 => b.fr x (a.fr x h1 h2) (a.th x h2), fun x o e h1 h2 => b.kp x o (a.kp x o e h1 h2) h1 ?_, fun x h => b.th x (a.th x h), fun x h => ?_, fun x h => b.dk x (a.dk x h)⟩
  · cases z : MV' x with
    | none => rfl
    | some o' =>
      rcases a.dm x (by rw [z]; simp) with h | h
      · exact absurd h2 h
      · rw [e] at h; cases h
  · rcases b.dm x h with h | h
    · exact a.dm x h
    · refine .inr ?_
      cases z : H x with
      | none => rfl
      | some o' => exact absurd h (a.th x (by rw [z]; simp))
theorem NxM.none (n : NxM J MV G H MV' G' H') {p : Addr} {o : HO} (hp : H p = some o) (hm : MV p = none) : MV' p = none := by
  cases z : MV' p with
  | none => rfl
  | some o' =>
    rcases n.dm p (by rw [z]; simp) with h | h
    · exact absurd hm h
    · rw [hp] at h; cases h
theorem not_jt {p : Addr} : p ∉ (Jt K J MV M).ms ↔ p ∉ J.ms ∧ MV p = none := by
  refine ⟨fun h => ⟨fun z => h (.inl z), ?_⟩, fun h z => z.elim h.1 fun z => z h.2⟩
  cases z : MV p with
  | none => rfl
  | some o => exact absurd (show p ∈ (Jt K J MV M).ms from .inr (by rw [z]; simp)) h
theorem SlOk.monoM {ov : Option V} {s : Sl} (n : NxM J MV G H MV' G' H') (h : SlOk K (Jt K J MV M) B G H ov s) : SlOk K (Jt K J MV' M') B G' H' ov s := by
  have key : ∀ p o, H p = some o → p ∉ (Jt K J MV M).ms → G p = none → p ∉ (Jt K J MV' M').ms ∧ G' p = none ∧ H' p = some o := fun p o e hm hG => by
    obtain ⟨h1, h2⟩ := not_jt.mp hm
    exact ⟨not_jt.mpr ⟨h1, n.none e h2⟩, n.fr p hG (by rw [e]; simp), n.kp p o e h1 h2⟩
  cases s with
  | no => trivial
  | d x => obtain ⟨v, e, r⟩ := h; exact ⟨v, e, r.mono n.gg⟩
  | ml xs => obtain ⟨p, vs, e, hB, hG, hm, hH, r⟩ := h; obtain ⟨k1, k2, k3⟩ := key p _ hH hm hG; exact ⟨p, vs, e, hB, k2, k1, k3, r.mono n.gg⟩
  | hand => exact h
  | hnd => exact h
  | tap => exact h
  | xv a d fs => obtain ⟨e, vs, g, r⟩ := h; exact ⟨e, vs, n.gg _ _ g, r.mono n.gg⟩
  | mi p C fs => obtain ⟨dx, vs, e, hB, hG, hm, hH, r⟩ := h; obtain ⟨k1, k2, k3⟩ := key p _ hH hm hG; exact ⟨dx, vs, e, hB, k2, k1, k3, r.mono n.gg⟩
  | md kvs => obtain ⟨p, vs, e, hB, hG, hm, hH, r⟩ := h; obtain ⟨k1, k2, k3⟩ := key p _ hH hm hG; exact ⟨p, vs, e, hB, k2, k1, k3, r.mono n.gg⟩
theorem En.monoM (E : En K (Jt K J MV M) B G H σ env) (n : NxM J MV G H MV' G' H') : En K (Jt K J MV' M') B G' H' σ env :=
  ⟨E.len, fun i s h => let ⟨ov, a, b⟩ := E.ok i s h; ⟨ov, a, b.monoM n⟩, E.ap⟩
structure AtM (K : PySem.W.Frag) (J : Jm) (MV0 : Mh) (GB B : Hp) (MV : Mh) (M : Mm) (G H : Hp) (σ : L2.St) (env : List Sl) : Prop where
  wf : Wf (Jt K J MV M) G H
  nx : NxM J MV0 GB B MV G H
  en : En K (Jt K J MV M) B G H σ env
theorem AtM.then (a : AtM K J MV0 GB B MV M G H σ env) (n : Nx (Jt K J MV M) G H G' H') : AtM K J MV0 GB B MV M G' H' σ env :=
  ⟨n.wf a.wf, a.nx.trans (.of n), a.en.mono n⟩
theorem AtM.thenM (a : AtM K J MV0 GB B MV M G H σ env) (n : NxM J MV G H MV' G' H') (w : Wf (Jt K J MV' M') G' H') : AtM K J MV0 GB B MV' M' G' H' σ env :=
  ⟨w, a.nx.trans n, a.en.monoM n⟩
/-- a fresh place is fresh since the entry -/
theorem AtM.freshB (a : AtM K J MV0 GB B MV M G H σ env) {p : Addr} (h : H p = none) : B p = none := by
  cases z : B p with
  | none => rfl
  | some o => exact absurd h (a.nx.th p (by rw [z]; simp))
end
structure DM where
  nx : Mm → List Sl → Prop
  rt : Dt → Mm → Prop
  bk : Mm → List Sl → Prop := fun _ _ => False
  ct : Mm → List Sl → Prop := fun _ _ => False
  xw : WX := fun _ _ _ _ => False
  xc : Addr → List (Str × Dt) → Mm → List Sl → Prop := fun _ _ _ _ => False
section
variable (K : PySem.W.Frag) (J : Jm)
def XOkM (MV0 : Mh) (GB B : Hp) (D : DM) : Prop := ∀ (C d : Addr) (vs : List (Str × V)) (fs : List (Str × Dt)) (env' : List Sl) (MV' : Mh) (M' : Mm) (G' H' : Hp) (σ' : L2.St),
  AtM K J MV0 GB B MV' M' G' H' σ' env' → G' d = some (.xd vs) → Df K G' vs fs → D.xc C fs M' env' → D.xw (.ref C) (some d) σ' H'
structure Rts (MV0 : Mh) (GB B : Hp) (D : DM) (E : Ends) : Prop where
  nx : ∀ M' MV' env' G' H' σ', AtM K J MV0 GB B MV' M' G' H' σ' env' → D.nx M' env' → E.nx σ' H'
  bk : ∀ M' MV' env' G' H' σ', AtM K J MV0 GB B MV' M' G' H' σ' env' → D.bk M' env' → E.bk σ' H'
  ct : ∀ M' MV' env' G' H' σ', AtM K J MV0 GB B MV' M' G' H' σ' env' → D.ct M' env' → E.ct σ' H'
  rt : ∀ v d M' MV' G' H', NxM J MV0 GB B MV' G' H' → Wf (Jt K J MV' M') G' H' → Dr K G' v d → D.rt d M' → E.rt v H'
  x : XOkM K J MV0 GB B D
def SvM (M : Mm) (env : List Sl) (ts : TS) (D : DM) : Prop := ∀ (MV0 MV : Mh) (GB B G H : Hp) (σ : L2.St), AtM K J MV0 GB B MV M G H σ env → ∀ E : Ends, Rts K J MV0 GB B D E → ts E σ H
def EvM (M : Mm) (env : List Sl) (D : DM) (te : TE) (R : Dt → Mm → Prop) : Prop := ∀ (MV0 MV : Mh) (GB B G H : Hp) (σ : L2.St), AtM K J MV0 GB B MV M G H σ env → XOkM K J MV0 GB B D → ∀ Q : VK,
  (∀ v d M' MV' G' H', NxM J MV G H MV' G' H' → AtM K J MV0 GB B MV' M' G' H' σ env → Dr K G' v d → R d M' → Q v H') → te σ H Q
def EtM (M : Mm) (env : List Sl) (D : DM) (tt : TT) (R : Bool → Mm → Prop) : Prop := ∀ (MV0 MV : Mh) (GB B G H : Hp) (σ : L2.St), AtM K J MV0 GB B MV M G H σ env → XOkM K J MV0 GB B D → ∀ Q : Bool → Hp → Prop,
  (∀ b M' MV' G' H', NxM J MV G H MV' G' H' → AtM K J MV0 GB B MV' M' G' H' σ env → R b M' → Q b H') → tt σ H Q
def EdM (M : Mm) (env : List Sl) (D : DM) (ta : TA) (R : List Dt → Mm → Prop) : Prop := ∀ (MV0 MV : Mh) (GB B G H : Hp) (σ : L2.St), AtM K J MV0 GB B MV M G H σ env → XOkM K J MV0 GB B D → ∀ Q : List V → Hp → Prop,
  (∀ vs ds M' MV' G' H', NxM J MV G H MV' G' H' → AtM K J MV0 GB B MV' M' G' H' σ env → Da K G' vs ds → R ds M' → Q vs H') → ta σ H Q
def EaM (M : Mm) (env : List Sl) (D : DM) (ta : TA) (R : List Sl → Mm → Prop) : Prop := ∀ (MV0 MV : Mh) (GB B G H : Hp) (σ : L2.St), AtM K J MV0 GB B MV M G H σ env → XOkM K J MV0 GB B D → ∀ Q : List V → Hp → Prop,
  (∀ vs ss M' MV' G' H', NxM J MV G H MV' G' H' → AtM K J MV0 GB B MV' M' G' H' σ env → SvA K (Jt K J MV' M') G' vs ss → R ss M' → Q vs H') → ta σ H Q
end
section
variable {K : PySem.W.Frag} {J : Jm} {M : Mm} {env : List Sl} {D : DM} {ta tb te : TE} {tt tu : TT} {tr : TA} {ts tv : TS}
theorem evm {R : Dt → Mm → Prop} (h : ∀ MV, Ev K (Jt K J MV M) env te fun d => R d M) : EvM K J M env D te R := fun MV0 MV GB B G H σ a x Q q =>
  h MV B G H σ a.wf a.en Q fun v d G' H' n r k => q v d M MV G' H' (.of n) (a.then n) r k
theorem etm {R : Bool → Mm → Prop} (h : ∀ MV, Et K (Jt K J MV M) env tt fun d => R d M) : EtM K J M env D tt R := fun MV0 MV GB B G H σ a x Q q =>
  h MV B G H σ a.wf a.en Q fun b G' H' n k => q b M MV G' H' (.of n) (a.then n) k
theorem edm {R : List Dt → Mm → Prop} (h : ∀ MV, Ed K (Jt K J MV M) env tr fun d => R d M) : EdM K J M env D tr R := fun MV0 MV GB B G H σ a x Q q =>
  h MV B G H σ a.wf a.en Q fun vs ds G' H' n r k => q vs ds M MV G' H' (.of n) (a.then n) r k
theorem eam {R : List Sl → Mm → Prop} (h : ∀ MV, Ea K (Jt K J MV M) env tr fun d => R d M) : EaM K J M env D tr R := fun MV0 MV GB B G H σ a x Q q =>
  h MV B G H σ a.wf a.en Q fun vs ds G' H' n r k => q vs ds M MV G' H' (.of n) (a.then n) r k
theorem EvM.imp {R R' : Dt → Mm → Prop} (h : EvM K J M env D te R) (k : ∀ d M', R d M' → R' d M') : EvM K J M env D te R' := fun MV0 MV GB B G H σ a x Q q =>
  h MV0 MV GB B G H σ a x Q fun v d M' MV' G' H' sg a' r y => q v d M' MV' G' H' sg a' r (k d M' y)
theorem etm_test {R : Bool → Mm → Prop} (h : EvM K J M env D te fun d M' => ∃ b, d = .bl b ∧ R b M') : EtM K J M env D (tTest te) R := fun MV0 MV GB B G H σ a x Q q =>
  h MV0 MV GB B G H σ a x _ fun v d M' MV' G' H' sg a' r ⟨b, e, k⟩ => by
    subst e; cases r
    exact ⟨b, rfl, q b M' MV' G' H' sg a' k⟩
theorem etm_B {R : Bool → Mm → Prop} (h : EvM K J M env D te fun d M' => ∃ b, d = .bl b ∧ R b M') : EtM K J M env D (tB te) R := fun MV0 MV GB B G H σ a x Q q =>
  h MV0 MV GB B G H σ a x _ fun v d M' MV' G' H' sg a' r ⟨b, e, k⟩ => by
    subst e; cases r
    exact ⟨b, rfl, q b M' MV' G' H' sg a' k⟩
theorem etm_not {R : Bool → Mm → Prop} (h : EtM K J M env D tt fun b M' => R (!b) M') : EtM K J M env D (tNot tt) R := fun MV0 MV GB B G H σ a x Q q =>
  h MV0 MV GB B G H σ a x _ fun b M' MV' G' H' sg a' k => q (!b) M' MV' G' H' sg a' k
theorem etm_and {R : Bool → Mm → Prop} (h : EtM K J M env D tt fun b M' => (b = true → EtM K J M' env D tu R) ∧ (b = false → R false M')) : EtM K J M env D (tAnd tt tu) R := fun MV0 MV GB B G H σ a x Q q =>
  h MV0 MV GB B G H σ a x _ fun b M' MV' G' H' sg a' k => by
    cases b with
    | true => exact k.1 rfl MV0 MV' GB B G' H' σ a' x Q (fun _ _ _ _ _ s2 => q _ _ _ _ _ (sg.trans s2))
    | false => exact q false M' MV' G' H' sg a' (k.2 rfl)
theorem etm_or {R : Bool → Mm → Prop} (h : EtM K J M env D tt fun b M' => (b = true → R true M') ∧ (b = false → EtM K J M' env D tu R)) : EtM K J M env D (tOr tt tu) R := fun MV0 MV GB B G H σ a x Q q =>
  h MV0 MV GB B G H σ a x _ fun b M' MV' G' H' sg a' k => by
    cases b with
    | true => exact q true M' MV' G' H' sg a' (k.1 rfl)
    | false => exact k.2 rfl MV0 MV' GB B G' H' σ a' x Q (fun _ _ _ _ _ s2 => q _ _ _ _ _ (sg.trans s2))
theorem evm_not {R : Dt → Mm → Prop} (h : EvM K J M env D te fun d M' => ∃ b, d = .bl b ∧ R (.bl (!b)) M') : EvM K J M env D (tNotV te) R := fun MV0 MV GB B G H σ a x Q q =>
  h MV0 MV GB B G H σ a x _ fun v d M' MV' G' H' sg a' r ⟨b, e, k⟩ => by
    subst e; cases r
    exact ⟨b, rfl, q _ _ M' MV' G' H' sg a' (.bl _) k⟩
theorem evm_and {R : Dt → Mm → Prop} (h : EvM K J M env D ta fun d M' => ∃ b, d = .bl b ∧ (b = true → EvM K J M' env D tb R) ∧ (b = false → R (.bl false) M')) : EvM K J M env D (tAndV ta tb) R := fun MV0 MV GB B G H σ a x Q q =>
  h MV0 MV GB B G H σ a x _ fun v d M' MV' G' H' sg a' r ⟨b, e, k1, k2⟩ => by
    subst e; cases r
    refine ⟨b, rfl, ?_⟩
    cases b with
    | true => exact k1 rfl MV0 MV' GB B G' H' σ a' x Q (fun _ _ _ _ _ _ s2 => q _ _ _ _ _ _ (sg.trans s2))
    | false => exact q _ _ M' MV' G' H' sg a' (.bl false) (k2 rfl)
theorem evm_or {R : Dt → Mm → Prop} (h : EvM K J M env D ta fun d M' => ∃ b, d = .bl b ∧ (b = true → R (.bl true) M') ∧ (b = false → EvM K J M' env D tb R)) : EvM K J M env D (tOrV ta tb) R := fun MV0 MV GB B G H σ a x Q q =>
  h MV0 MV GB B G H σ a x _ fun v d M' MV' G' H' sg a' r ⟨b, e, k1, k2⟩ => by
    subst e; cases r
    refine ⟨b, rfl, ?_⟩
    cases b with
    | true => exact q _ _ M' MV' G' H' sg a' (.bl true) (k1 rfl)
    | false => exact k2 rfl MV0 MV' GB B G' H' σ a' x Q (fun _ _ _ _ _ _ s2 => q _ _ _ _ _ _ (sg.trans s2))
theorem evm_if {R : Dt → Mm → Prop} (h : EtM K J M env D tt fun b M' => (b = true → EvM K J M' env D ta R) ∧ (b = false → EvM K J M' env D tb R)) : EvM K J M env D (tIf tt ta tb) R := fun MV0 MV GB B G H σ a x Q q =>
  h MV0 MV GB B G H σ a x _ fun b M' MV' G' H' sg a' k => by
    cases b with
    | true => exact k.1 rfl MV0 MV' GB B G' H' σ a' x Q (fun _ _ _ _ _ _ s2 => q _ _ _ _ _ _ (sg.trans s2))
    | false => exact k.2 rfl MV0 MV' GB B G' H' σ a' x Q (fun _ _ _ _ _ _ s2 => q _ _ _ _ _ _ (sg.trans s2))
/-- an operation's first part changes things or raises; the second doesn't -/
theorem evm_op {r : R2} {R : Dt → Mm → Prop} (h : EvM K J M env D ta fun x M' => EvM K J M' env D tb fun y M2 => ∀ MV, O2 K (Jt K J MV M2) r x y fun d => R d M2) : EvM K J M env D (tOp r ta tb) R := fun MV0 MV GB B G H σ a x Q q =>
  h MV0 MV GB B G H σ a x _ fun v d M' MV' G' H' sg a' rd k => by
    refine k MV0 MV' GB B G' H' σ a' x (fun y H2 => r v y H2 Q) fun v2 d2 M2 MV2 G2 H2 s2 a2 rd2 o => ?_
    exact o MV2 G2 H2 v v2 a2.wf (rd.mono s2.gg) rd2 Q fun v3 d3 G3 H3 n3 r3 k3 => q v3 d3 M2 MV2 G3 H3 (sg.trans (s2.trans (.of n3))) (a2.then n3) r3 k3
end
end Mv

set_option Elab.async false
set_option linter.all false
set_option maxRecDepth 100000
set_option maxHeartbeats 4000000
namespace Mv
open PySem PySem.Spec PyProof.Rows L2
section
variable {K : PySem.W.Frag} {J : Jm} {M : Mm} {env : List Sl} {D : DM} {ta tb te ti : TE} {tt tu : TT} {tr : TA} {ts tv : TS} {MV0 : Mh} {GB B : Hp}
theorem AtM.rebase {MV : Mh} {G H : Hp} {σ : L2.St} (a : AtM K J MV0 GB B MV M G H σ env) : AtM K J MV0 G B MV M G H σ env :=
  ⟨a.wf, ⟨Same.refl _, fun b h _ => h, a.nx.kp, a.nx.th, a.nx.dm, a.nx.dk⟩, a.en⟩
theorem NxM.back {MV MV1 : Mh} {G H G1 H1 : Hp} (n : NxM J MV0 GB B MV G H) (m : NxM J MV0 G B MV1 G1 H1) : NxM J MV0 GB B MV1 G1 H1 :=
  ⟨n.gg.trans m.gg, fun b h1 h2 => m.fr b (n.fr b h1 h2) h2, m.kp, m.th, m.dm, m.dk⟩
theorem AtM.back {MV MV1 : Mh} {M1 : Mm} {G H G1 H1 : Hp} {σ : L2.St} {env1 : List Sl} (n : NxM J MV0 GB B MV G H) (a : AtM K J MV0 G B MV1 M1 G1 H1 σ env1) : AtM K J MV0 GB B MV1 M1 G1 H1 σ env1 := ⟨a.wf, n.back a.nx, a.en⟩
/-- as plain state -/
theorem AtM.at_ {MV : Mh} {G H : Hp} {σ : L2.St} (a : AtM K J MV0 GB B MV M G H σ env) : At K (Jt K J MV M) G B G H σ env :=
  ⟨a.wf, ⟨Same.refl _, a.wf.gh, fun b h _ => h, fun b o e hb => by
    obtain ⟨h1, h2⟩ := not_jt.mp hb
    refine a.nx.kp b o e h1 ?_
    cases z : MV0 b with
    | none => rfl
    | some o' => exact absurd h2 (a.nx.dk b (by rw [z]; simp)), a.nx.th, a.wf.ok⟩, a.en⟩
theorem nx_up {MV : Mh} {G H G' H' : Hp} (n : NxM J MV0 GB B MV G H) (m : Nx (Jt K J MV M) G B G' H') : NxM J MV0 GB B MV G' H' :=
  ⟨n.gg.trans m.gg, fun b h1 h2 => m.fr b (n.fr b h1 h2) h2, fun b o e h1 h2 => m.kp b o e (not_jt.mpr ⟨h1, by
    cases z : MV b with
    | none => rfl
    | some o' =>
      rcases n.dm b (by rw [z]; simp) with h | h
      · exact absurd h2 h
      · rw [e] at h; cases h⟩), m.th, n.dm, n.dk⟩
theorem At.up {MV : Mh} {G H G' H' : Hp} {σ : L2.St} {env' : List Sl} (n : NxM J MV0 GB B MV G H) (a : At K (Jt K J MV M) G B G' H' σ env') : AtM K J MV0 GB B MV M G' H' σ env' :=
  ⟨a.wf, nx_up n a.nx, a.en⟩
/-- a statement that leaves the objects alone -/
theorem sm_of (h : ∀ MV, Sv K (Jt K J MV M) env ts { nx := D.nx M, rt := fun _ => False, bk := D.bk M, ct := D.ct M, xw := D.xw, xc := fun C fs e => D.xc C fs M e }) : SvM K J M env ts D := fun MV0 MV GB B G H σ a E r =>
  h MV G B G H σ a.at_ E (fun e G' H' σ' a' x => r.nx M MV e G' H' σ' (At.up a.nx a') x) (fun e G' H' σ' a' x => r.bk M MV e G' H' σ' (At.up a.nx a') x) (fun e G' H' σ' a' x => r.ct M MV e G' H' σ' (At.up a.nx a') x)
    (fun _ _ _ _ _ _ x => x.elim) (fun _ _ _ _ _ _ _ _ _ _ x => x.elim)
    fun C d vs fs e G' H' σ' a' g rf x => r.x C d vs fs e MV M G' H' σ' (At.up a.nx a') g rf x
theorem SvM.imp {D' : DM} (h : SvM K J M env ts D) (k1 : ∀ m e, D.nx m e → D'.nx m e) (k2 : ∀ m e, D.bk m e → D'.bk m e) (k3 : ∀ m e, D.ct m e → D'.ct m e) (k4 : ∀ d m, D.rt d m → D'.rt d m) (k6 : D.xw = D'.xw) (k7 : ∀ C fs m e, D.xc C fs m e → D'.xc C fs m e) : SvM K J M env ts D' := fun MV0 MV GB B G H σ a E r =>
  h MV0 MV GB B G H σ a E ⟨fun M' MV' e G' H' σ' a' x => r.nx M' MV' e G' H' σ' a' (k1 _ _ x), fun M' MV' e G' H' σ' a' x => r.bk M' MV' e G' H' σ' a' (k2 _ _ x), fun M' MV' e G' H' σ' a' x => r.ct M' MV' e G' H' σ' a' (k3 _ _ x),
    fun v d M' MV' G' H' n w rd x => r.rt v d M' MV' G' H' n w rd (k4 _ _ x), fun C d vs fs e MV' M' G' H' σ' a' g rf x => k6 ▸ r.x C d vs fs e MV' M' G' H' σ' a' g rf (k7 _ _ _ _ x)⟩
theorem sm_seq (h : SvM K J M env ts { D with nx := fun m e => SvM K J m e tv D }) : SvM K J M env (tSeq ts tv) D := fun MV0 MV GB B G H σ a E r =>
  h MV0 MV GB B G H σ a { E with nx := tv E } ⟨fun M' MV' e G' H' σ' a' x => x MV0 MV' GB B G' H' σ' a' E r, r.bk, r.ct, r.rt, r.x⟩
theorem sm_mid (N : Mm → List Sl → Prop) (h : SvM K J M env ts { D with nx := N }) (k : ∀ m e, N m e → SvM K J m e tv D) : SvM K J M env (tSeq ts tv) D :=
  sm_seq (h.imp k (fun _ _ x => x) (fun _ _ x => x) (fun _ _ x => x) rfl fun _ _ _ _ x => x)
theorem sm_next (h : D.nx M env) : SvM K J M env tNext D := fun MV0 MV GB B G H σ a E r => r.nx M MV env G H σ a h
theorem sm_break (h : D.bk M env) : SvM K J M env tBreak D := fun MV0 MV GB B G H σ a E r => r.bk M MV env G H σ a h
theorem sm_cont (h : D.ct M env) : SvM K J M env tCont D := fun MV0 MV GB B G H σ a E r => r.ct M MV env G H σ a h
theorem AtM.setD {MV : Mh} {G H : Hp} {σ : L2.St} (a : AtM K J MV0 GB B MV M G H σ env) {i : Nat} {v : V} {d : Dt} (r : Dr K G v d) : AtM K J MV0 GB B MV M G H (σ.set i (some v)) (env.set i (.d d)) := ⟨a.wf, a.nx, a.en.setD r⟩
theorem sm_asg {i : Nat} (h : EvM K J M env D te fun d M' => D.nx M' (env.set i (.d d))) : SvM K J M env (tAsg te (gName i)) D := fun MV0 MV GB B G H σ a E r =>
  h MV0 MV GB B G H σ a r.x _ fun v d M' MV' G' H' _ a' rd k => r.nx M' MV' _ G' H' _ (a'.setD rd) k
theorem sm_asgG {g : TG} (S : List Nat) (h : EvM K J M env D te fun d M' => ∀ MV, Gt K (Jt K J MV M') env g d S (D.nx M')) : SvM K J M env (tAsg te g) D := fun MV0 MV GB B G H σ a E r =>
  h MV0 MV GB B G H σ a r.x _ fun v d M' MV' G' H' _ a' rd k => k MV' B G' H' σ v a'.wf a'.en rd _ fun e σ' E' _ x => r.nx M' MV' e G' H' σ' ⟨a'.wf, a'.nx, E'⟩ x
theorem sm_drop (h : EvM K J M env D te fun _ M' => D.nx M' env) : SvM K J M env (tDrop te) D := fun MV0 MV GB B G H σ a E r =>
  h MV0 MV GB B G H σ a r.x _ fun v d M' MV' G' H' _ a' rd k => r.nx M' MV' _ G' H' _ a' k
theorem sm_ret (h : EvM K J M env D te D.rt) : SvM K J M env (tRet te) D := fun MV0 MV GB B G H σ a E r =>
  h MV0 MV GB B G H σ a r.x _ fun v d M' MV' G' H' _ a' rd k => r.rt v d M' MV' G' H' a'.nx a'.wf rd k
theorem sm_retN (h : D.rt .non M) : SvM K J M env tRetN D := fun MV0 MV GB B G H σ a E r => r.rt .non .non M MV G H a.nx a.wf .non h
theorem sm_if (h : EtM K J M env D tt fun b M' => (b = true → SvM K J M' env ts D) ∧ (b = false → SvM K J M' env tv D)) : SvM K J M env (tIfS tt ts tv) D := fun MV0 MV GB B G H σ a E r =>
  h MV0 MV GB B G H σ a r.x _ fun b M' MV' G' H' _ a' k => by
    cases b with
    | true => exact k.1 rfl MV0 MV' GB B G' H' σ a' E r
    | false => exact k.2 rfl MV0 MV' GB B G' H' σ a' E r
theorem XOkM.rebase {MV : Mh} {G H : Hp} (n : NxM J MV0 GB B MV G H) (x : XOkM K J MV0 GB B D) : XOkM K J MV0 G B D := fun C d vs fs e MV' M' G' H' σ' a' g rf y => x C d vs fs e MV' M' G' H' σ' (AtM.back n a') g rf y
theorem sm_while (P : Nat → Mm → List Sl → Prop) {m : Nat} (h0 : P m M env) (hs : ∀ m M' e, P m M' e → EtM K J M' e D tt fun b M2 => (b = true → SvM K J M2 e ts { D with nx := fun M3 e3 => ∃ m', m' < m ∧ P m' M3 e3, ct := fun M3 e3 => ∃ m', m' < m ∧ P m' M3 e3, bk := D.nx }) ∧ (b = false → D.nx M2 e)) :
    SvM K J M env (tWhile tt ts) D := fun MV0 MV GB B G H σ a E r => by
  refine ⟨fun k σ' H' => ∃ M' MV' e G', AtM K J MV0 GB B MV' M' G' H' σ' e ∧ P k M' e, ⟨m, M, MV, env, G, a, h0⟩, ?_⟩
  rintro k σ' H' ⟨M', MV', e, G', a', p⟩
  refine hs k M' e p MV0 MV' GB B G' H' σ' a' r.x _ fun b M2 MV2 G2 H2 _ a2 q => ?_
  cases b with
  | true =>
    refine (if_pos rfl).symm ▸ ⟨fun σ3 H3 => ∃ m', m' < k ∧ ∃ M3 MV3 e3 G3, AtM K J MV0 GB B MV3 M3 G3 H3 σ3 e3 ∧ P m' M3 e3, fun σ3 H3 ⟨m', hm, M3, MV3, e3, G3, a3, p3⟩ => ⟨m', hm, M3, MV3, e3, G3, a3, p3⟩, ?_⟩
    exact q.1 rfl MV0 MV2 GB B G2 H2 σ' a2 _ ⟨fun M3 MV3 e3 G3 H3 σ3 a3 ⟨m', hm, p3⟩ => ⟨m', hm, M3, MV3, e3, G3, a3, p3⟩, fun M3 MV3 e3 G3 H3 σ3 a3 y => r.nx M3 MV3 e3 G3 H3 σ3 a3 y, fun M3 MV3 e3 G3 H3 σ3 a3 ⟨m', hm, p3⟩ => ⟨m', hm, M3, MV3, e3, G3, a3, p3⟩, r.rt, r.x⟩
  | false =>
    refine (if_neg Bool.false_ne_true).symm ▸ ?_
    exact r.nx M2 MV2 e G2 H2 σ' a2 (q.2 rfl)
/-! arguments -/
theorem edm_cons {R : List Dt → Mm → Prop} (h : EvM K J M env D ta fun x M' => EdM K J M' env D tr fun xs M2 => R (x :: xs) M2) : EdM K J M env D (tCons ta tr) R := fun MV0 MV GB B G H σ a x Q q =>
  h MV0 MV GB B G H σ a x _ fun v d M' MV' G' H' sg a' rd k => k MV0 MV' GB B G' H' σ a' x _ fun vs ds M2 MV2 G2 H2 s2 a2 rs y => q _ _ M2 MV2 G2 H2 (sg.trans s2) a2 (.cons (rd.mono s2.gg) rs) y
theorem eam_cons {R : List Sl → Mm → Prop} (h : EvM K J M env D ta fun x M' => EaM K J M' env D tr fun xs M2 => R (.d x :: xs) M2) : EaM K J M env D (tCons ta tr) R := fun MV0 MV GB B G H σ a x Q q =>
  h MV0 MV GB B G H σ a x _ fun v d M' MV' G' H' sg a' rd k => k MV0 MV' GB B G' H' σ a' x _ fun vs ds M2 MV2 G2 H2 s2 a2 rs y => q _ _ M2 MV2 G2 H2 (sg.trans s2) a2 (.cons (show Sv1 K (Jt K J MV2 M2) G2 v (.d d) from rd.mono s2.gg) rs) y
theorem evm_cb {rc : List V → Hp → VK → Prop} {R : Dt → Mm → Prop} (h : EdM K J M env D tr fun ds M' => ∀ MV, Oc K (Jt K J MV M') rc ds fun d => R d M') : EvM K J M env D (tCB rc tr) R := fun MV0 MV GB B G H σ a x Q q =>
  h MV0 MV GB B G H σ a x _ fun vs ds M' MV' G' H' sg a' rs k => k MV' G' H' vs a'.wf rs Q fun v d G2 H2 n2 rd y => q v d M' MV' G2 H2 (sg.trans (.of n2)) (a'.then n2) rd y
theorem evm_tup {R : Dt → Mm → Prop} (h : EdM K J M env D tr fun ds M' => ds.length ≤ 100000 ∧ R (.tup ds) M') : EvM K J M env D (tTup tr) R := fun MV0 MV GB B G H σ a x Q q =>
  h MV0 MV GB B G H σ a x _ fun vs ds M' MV' G' H' sg a' rs ⟨hz, k⟩ => ⟨sz_of (by rw [rs.length]; exact hz), fun p hp => by
    have n2 := a'.wf.new hp (.tup vs)
    exact q (.ref p) (.tup ds) M' MV' _ _ (sg.trans (.of n2)) (a'.then n2) (.tup (.inl (.inl upd_same)) (rs.mono n2.gg)) k⟩
/-! calls -/
abbrev FwP := Mm → List Sl → (Dt → Mm → Prop) → (Addr → List (Str × Dt) → Mm → Prop) → Prop
def CtP (K : PySem.W.Frag) (W : FwP) : Sp := fun vs H Q E => ∃ (J : Jm) (M : Mm) (MV : Mh) (G : Hp) (ss : List Sl) (P : Dt → Mm → Prop) (PX : Addr → List (Str × Dt) → Mm → Prop), Wf (Jt K J MV M) G H ∧ SvA K (Jt K J MV M) G vs ss ∧ W M ss P PX ∧
  (∀ v d M' MV' G' H', NxM J MV G H MV' G' H' → Wf (Jt K J MV' M') G' H' → Dr K G' v d → P d M' → Q v H') ∧
  ∀ C d vs fs M' MV' G' H', NxM J MV G H MV' G' H' → Wf (Jt K J MV' M') G' H' → G' d = some (.xd vs) → Df K G' vs fs → PX C fs M' → E (.ref C) (some d) H'
theorem evm_callG {W : FwP} {E : L2.St → XK} {R : Dt → Mm → Prop} (hE : ∀ cls d σ H, D.xw cls d σ H → E σ cls d H) (h : EaM K J M env D tr fun ss M' => W M' ss R fun C fs M2 => D.xc C fs M2 env) : EvM K J M env D (tCallS (CtP K W) E tr) R := fun MV0 MV GB B G H σ a x Q q =>
  h MV0 MV GB B G H σ a x _ fun vs ss M' MV' G' H' sg a' rs k =>
    ⟨J, M', MV', G', ss, R, _, a'.wf, rs, k, fun v d M2 MV2 G2 H2 n2 w2 rd y => q v d M2 MV2 G2 H2 (sg.trans n2) (a'.thenM n2 w2) rd y,
      fun C d vs fs M2 MV2 G2 H2 n2 w2 g rf y => hE _ _ _ _ (x C d vs fs env MV2 M2 G2 H2 σ (a'.thenM n2 w2) g rf y)⟩
/-- a call whose error goes where the code wishes -/
theorem evm_call {W : FwP} {R : Dt → Mm → Prop} (h : EaM K J M env D tr fun ss M' => W M' ss R fun C fs M2 => D.xc C fs M2 env) : EvM K J M env D (tCallS (CtP K W) (WE D.xw) tr) R := evm_callG (fun _ _ _ _ z => z) h
/-- a call that lets nothing out -/
theorem evm_call0 {W : FwP} {R : Dt → Mm → Prop} (h : EaM K J M env D tr fun ss M' => W M' ss R fun _ _ _ => False) : EvM K J M env D (tCall (CtP K W) [] E0 tr) R := fun MV0 MV GB B G H σ a x Q q =>
  h MV0 MV GB B G H σ a x _ fun vs ss M' MV' G' H' sg a' rs k => by
    show CtP K W (vs ++ []) H' Q E0
    rw [List.append_nil]
    exact ⟨J, M', MV', G', ss, R, _, a'.wf, rs, k, fun v d M2 MV2 G2 H2 n2 w2 rd y => q v d M2 MV2 G2 H2 (sg.trans n2) (a'.thenM n2 w2) rd y, fun C d vs fs M2 MV2 G2 H2 n2 w2 g rf y => y.elim⟩
/-- by keywords, letting nothing out -/
theorem evm_callKw0 {W : FwP} {pi : List Nat} {R : Dt → Mm → Prop} (h : EaM K J M env D tr fun ss M' => W M' (pi.filterMap fun i => ss[i]?) R fun _ _ _ => False) : EvM K J M env D (tCallK (CtP K W) (kwP pi) E0 tNil tr) R := fun MV0 MV GB B G H σ a x Q q =>
  h MV0 MV GB B G H σ a x _ fun vs ss M' MV' G' H' sg a' rs k =>
    ⟨J, M', MV', G', _, R, _, a'.wf, sva_kw rs, k, fun v d M2 MV2 G2 H2 n2 w2 rd y => q v d M2 MV2 G2 H2 (sg.trans n2) (a'.thenM n2 w2) rd y, fun C d vs fs M2 MV2 G2 H2 n2 w2 g rf y => y.elim⟩
/-- a def of the plain kind that may raise -/
theorem evm_callX {W : FwX} {R : Dt → Mm → Prop} (h : EaM K J M env D tr fun ss M' => W ss (fun d => R d M') fun C fs => D.xc C fs M' env) : EvM K J M env D (tCallS (CtX K W) (WE D.xw) tr) R := fun MV0 MV GB B G H σ a x Q q =>
  h MV0 MV GB B G H σ a x _ fun vs ss M' MV' G' H' sg a' rs k =>
    ⟨Jt K J MV' M', G', ss, _, _, a'.wf, rs, k, fun v d G2 H2 n2 rd y => q v d M' MV' G2 H2 (sg.trans (.of n2)) (a'.then n2) rd y,
      fun C d vs fs G2 H2 n2 g rf y => x C d vs fs env MV' M' G2 H2 σ (a'.then n2) g rf y⟩
end
end Mv

set_option Elab.async false
set_option linter.all false
set_option maxRecDepth 100000
set_option maxHeartbeats 4000000
namespace Mv
open PySem PySem.Spec PyProof.Rows L2
/-! ### walks -/
def AgM (A M : Mm) : Prop := ∀ a o, A a = some o → M a = some o
def A0 : Mm := fun _ => none
def onlyM (a : Addr) (o : OB) : Mm := fun b => if b = a then some o else none
theorem ag0 {M : Mm} : AgM A0 M := fun a o h => nomatch h
theorem ag1 {M : Mm} {a : Addr} {o : OB} : AgM (onlyM a o) M ↔ M a = some o :=
  ⟨fun h => h a o (if_pos rfl), fun h b u e => by
    unfold onlyM at e
    split at e
    · rename_i z; cases e; rw [z]; exact h
    · cases e⟩
structure WkM (K : PySem.W.Frag) (J : Jm) (A : Mm) (G : Hp) (I : It) (ds : List Dt) : Prop where
  go : ∀ i MV M G1 H1, Same G G1 → Wf (Jt K J MV M) G1 H1 → AgM A M → i < ds.length → I.go i H1
  stop : ∀ MV M G1 H1, Same G G1 → Wf (Jt K J MV M) G1 H1 → AgM A M → I.stop ds.length H1
  yld : ∀ i MV M G1 H1 x H2, Same G G1 → Wf (Jt K J MV M) G1 H1 → AgM A M → i < ds.length → I.yld i H1 x H2 → ∃ G2 d, Nx (Jt K J MV M) G1 H1 G2 H2 ∧ ds[i]? = some d ∧ Dr K G2 x d
theorem WkM.of {K : PySem.W.Frag} {J : Jm} {G : Hp} {I : It} {ds : List Dt} (h : ∀ J', Wk K J' G I ds) : WkM K J A0 G I ds :=
  ⟨fun i MV M G1 H1 s w _ hi => (h (Jt K J MV M)).go i G1 H1 s w hi, fun MV M G1 H1 s w _ => (h (Jt K J MV M)).stop G1 H1 s w, fun i MV M G1 H1 x H2 s w _ hi y => (h (Jt K J MV M)).yld i G1 H1 x H2 s w hi y⟩
theorem WkM.wk {K : PySem.W.Frag} {J : Jm} {A : Mm} {G : Hp} {I : It} {ds : List Dt} (h : WkM K J A G I ds) {MV : Mh} {M : Mm} (ag : AgM A M) : Wk K (Jt K J MV M) G I ds :=
  ⟨fun i G1 H1 s w hi => h.go i MV M G1 H1 s w ag hi, fun G1 H1 s w => h.stop MV M G1 H1 s w ag, fun i G1 H1 x H2 s w hi y => h.yld i MV M G1 H1 x H2 s w ag hi y⟩
def EiM (K : PySem.W.Frag) (J : Jm) (M : Mm) (env : List Sl) (D : DM) (wi : TI) (R : Mm → List Dt → Mm → Prop) : Prop := ∀ (MV0 MV : Mh) (GB B G H : Hp) (σ : L2.St), AtM K J MV0 GB B MV M G H σ env → XOkM K J MV0 GB B D → ∀ Q : It → Hp → Prop,
  (∀ I A ds M' MV' G' H', NxM J MV G H MV' G' H' → AtM K J MV0 GB B MV' M' G' H' σ env → AgM A M' → WkM K J A G' I ds → R A ds M' → Q I H') → wi σ H Q
section
variable {K : PySem.W.Frag} {J : Jm} {M : Mm} {env : List Sl} {D : DM} {te tl tk tv : TE} {ta : TA} {tt : TT} {ts : TS} {wi : TI} {g : TG} {vs : List Nat}
/-- in plain code -/
theorem EiM.ei {MV : Mh} {R : List Dt → Prop} (h : EiM K J M env {nx := fun _ _ => False, rt := fun _ _ => False} wi fun A ds M' => M' = M ∧ R ds) : True := trivial
theorem eim_seq {R : Mm → List Dt → Mm → Prop} (h : EvM K J M env D tl fun x M' => ∃ ds, (x = .lst ds ∨ x = .tup ds) ∧ R A0 ds M') : EiM K J M env D (iSeq K tl) R := fun MV0 MV GB B G H σ a x Q q =>
  h MV0 MV GB B G H σ a x _ fun v d M' MV' G' H' sg a' r ⟨ds, e, k⟩ => by
    rcases e with rfl | rfl
    · cases r with
      | lst s t => exact ⟨_, rfl, .inl ⟨_, same_l a'.wf.gh s, q _ A0 ds M' MV' G' H' sg a' ag0 (.of fun _ => wk_list s t) k⟩⟩
    · cases r with
      | tup s t => exact ⟨_, rfl, .inr ⟨_, same_t a'.wf.gh s, q _ A0 ds M' MV' G' H' sg a' ag0 (.of fun _ => wk_tup s t) k⟩⟩
theorem wk_listM {a : Addr} {ds : List Dt} {G : Hp} : WkM K J (onlyM a (.lst ds)) G (Itl K a) ds := by
  refine ⟨fun i MV M G1 H1 sg w ag hi => ?_, fun MV M G1 H1 sg w ag => ?_, fun i MV M G1 H1 x H2 sg w ag hi y => ?_⟩ <;> obtain ⟨vs, h1, h2, r⟩ := w.lstM (ag1.mp ag)
  · exact (walk_list (K := K) (a := a) (xs := vs)).goes i H1 (by rw [r.length]; exact hi) (.inl (.inl h2))
  · have := (walk_list (K := K) (a := a) (xs := vs)).stops H1 (.inl (.inl h2))
    rw [r.length] at this
    exact this
  · obtain ⟨e1, e2⟩ := (walk_list (K := K) (a := a) (xs := vs)).yields i H1 x H2 (by rw [r.length]; exact hi) (.inl (.inl h2)) y
    subst e1
    obtain ⟨d, k1, k2⟩ := r.get' e2
    exact ⟨G1, d, w.nx, k1, k2⟩
theorem eim_seqP {R : Mm → List Dt → Mm → Prop} (h : EvM K J M env D tl fun x M' => ∃ a ds, x = .ptr a ∧ M' a = some (.lst ds) ∧ R (onlyM a (.lst ds)) ds M') : EiM K J M env D (iSeq K tl) R := fun MV0 MV GB B G H σ a x Q q =>
  h MV0 MV GB B G H σ a x _ fun v d M' MV' G' H' sg a' r ⟨p, ds, e, hM, k⟩ => by
    subst e
    cases r
    obtain ⟨vs, h1, h2, r⟩ := a'.wf.lstM hM
    exact ⟨p, rfl, .inl ⟨vs, .inl (.inl h2), q _ _ ds M' MV' G' H' sg a' (ag1.mpr hM) wk_listM k⟩⟩
theorem eim_range {R : Mm → List Dt → Mm → Prop} (h : EdM K J M env D ta fun xs M' => ∃ n : Int, xs = [.int n] ∧ -1000000 ≤ n ∧ n ≤ 1000000 ∧ R A0 ((List.range n.toNat).map fun i => Dt.int (i : Nat)) M') : EiM K J M env D (iRng1 ta) R := fun MV0 MV GB B G H σ a x Q q =>
  h MV0 MV GB B G H σ a x _ fun vs xs M' MV' G' H' sg a' r ⟨n, e, h0, hn, k⟩ => by
    subst e
    cases r with
    | cons r1 r2 =>
      cases r1
      cases r2
      refine ⟨n, rfl, by omega, by omega, q _ A0 _ M' MV' G' H' sg a' ag0 (.of fun _ => wk_range) ?_⟩
      have : (fun i : Nat => Dt.int (0 + (i : Int))) = fun i : Nat => Dt.int (i : Int) := by funext i; rw [Int.zero_add]
      rw [this]
      exact k
theorem eim_enum {R : Mm → List Dt → Mm → Prop} (h : EvM K J M env D te fun x M' => ∃ ds, (x = .lst ds ∨ x = .tup ds) ∧ R A0 (enumD ds) M') : EiM K J M env D (iEnumA K (tCons te tNil)) R := fun MV0 MV GB B G H σ a x Q q =>
  h MV0 MV GB B G H σ a x _ fun v d M' MV' G' H' sg a' r ⟨ds, e, k⟩ => by
    have fin : ∀ {vs : List V}, Da K G' vs ds → ∀ (i : Nat) (x y : V), (some (V.int (i : Nat)) = some x) → vs[i]? = some y → ∃ a b, (enumD ds)[i]? = some (pairD a b) ∧ Dr K G' x a ∧ Dr K G' y b := fun t i x y h1 h2 => by
      cases h1
      obtain ⟨d, h3, h4⟩ := t.get' h2
      exact ⟨_, _, enumD_get h3, .int _, h4⟩
    rcases e with e | e
    · subst e
      cases r with
      | @lst p vs ds s t => exact ⟨p, vs, rfl, .inl ⟨same_l a'.wf.gh s, q _ A0 _ M' MV' G' H' sg a' ag0 (.of fun _ => wk_pairs walk_enum (by rw [enumD_len, t.length]) (fun G2 H2 s1 s2 => same_l (s1.trans s2) s) (fin t)) k⟩⟩
    · subst e
      cases r with
      | @tup p vs ds s t => exact ⟨p, vs, rfl, .inr ⟨same_t a'.wf.gh s, q _ A0 _ M' MV' G' H' sg a' ag0 (.of fun _ => wk_pairs walk_enumT (by rw [enumD_len, t.length]) (fun G2 H2 s1 s2 => same_t (s1.trans s2) s) (fin t)) k⟩⟩
theorem wk_enumM {a : Addr} {ds : List Dt} {G : Hp} : WkM K J (onlyM a (.lst ds)) G (Ite K a) (enumD ds) := by
  refine ⟨fun i MV M G1 H1 sg w ag hi => ?_, fun MV M G1 H1 sg w ag => ?_, fun i MV M G1 H1 x H2 sg w ag hi y => ?_⟩ <;> obtain ⟨vs, h1, h2, r⟩ := w.lstM (ag1.mp ag)
  · exact (walk_enum (K := K) (a := a) (xs := vs)).goes i H1 (by rw [r.length, ← enumD_len]; exact hi) (.inl (.inl h2))
  · have := (walk_enum (K := K) (a := a) (xs := vs)).stops H1 (.inl (.inl h2))
    rw [r.length, ← enumD_len] at this
    exact this
  · obtain ⟨T, u, v, rfl, hT, rfl, k1, k2⟩ := (walk_enum (K := K) (a := a) (xs := vs)).yields i H1 x H2 (by rw [r.length, ← enumD_len]; exact hi) (.inl (.inl h2)) y
    cases k1
    obtain ⟨d, k3, k4⟩ := r.get' k2
    have n2 := w.new hT (.tup [.int (i : Nat), v])
    exact ⟨_, _, n2, enumD_get k3, .tup (.inl (.inl upd_same)) (.cons (.int _) (.cons (k4.mono n2.gg) .nil))⟩
theorem eim_enumP {R : Mm → List Dt → Mm → Prop} (h : EvM K J M env D te fun x M' => ∃ a ds, x = .ptr a ∧ M' a = some (.lst ds) ∧ R (onlyM a (.lst ds)) (enumD ds) M') : EiM K J M env D (iEnumA K (tCons te tNil)) R := fun MV0 MV GB B G H σ a x Q q =>
  h MV0 MV GB B G H σ a x _ fun v d M' MV' G' H' sg a' r ⟨p, ds, e, hM, k⟩ => by
    subst e
    cases r
    obtain ⟨vs, h1, h2, r⟩ := a'.wf.lstM hM
    exact ⟨p, vs, rfl, .inl ⟨.inl (.inl h2), q _ _ _ M' MV' G' H' sg a' (ag1.mpr hM) wk_enumM k⟩⟩
theorem eim_zip {R : Mm → List Dt → Mm → Prop} (h : EdM K J M env D ta fun zs M' => ∃ xs ys, zs = [.tup xs, .tup ys] ∧ xs.length = ys.length ∧ R A0 (zipD xs ys) M') : EiM K J M env D (RZ.iZipA K ta) R := fun MV0 MV GB B G H σ a x Q q =>
  h MV0 MV GB B G H σ a x _ fun vs zs M' MV' G' H' sg a' r ⟨xs, ys, e, hl, k⟩ => by
    subst e
    cases r with
    | cons r1 r2 =>
      cases r2 with
      | cons r2 r3 =>
        cases r3
        cases r1 with
        | @tup p us _ s t =>
          cases r2 with
          | @tup b ws _ s' t' =>
            have hl' : us.length = ws.length := by rw [t.length, t'.length, hl]
            refine ⟨p, b, us, ws, rfl, .inr ⟨same_t a'.wf.gh s, same_t a'.wf.gh s', q _ A0 _ M' MV' G' H' sg a' ag0 (.of fun _ => wk_pairs (walk_zipT hl') (by rw [zipD_len hl, t.length]) (fun G2 H2 s1 s2 => ⟨same_t (s1.trans s2) s, same_t (s1.trans s2) s'⟩) fun i x y h1 h2 => ?_) k⟩⟩
            obtain ⟨c, hc, rc⟩ := t.get' h1
            obtain ⟨d, hd, rd⟩ := t'.get' h2
            exact ⟨c, d, by unfold zipD; rw [List.getElem?_zipWith, hc, hd], rc, rd⟩
/-- a walk in plain code -/
theorem ei_of {MV : Mh} {R : List Dt → Prop} (h : EiM K J M env {nx := fun _ _ => False, rt := fun _ _ => False} wi fun A ds M' => M' = M ∧ R ds) : True := trivial
/-! ### for -/
theorem sm_for (S : List Nat) (h : EiM K J M env D wi fun A ds M0 => ∃ P : Nat → Mm → List Sl → Prop, P 0 M0 env ∧
    (∀ k d M' e, ds[k]? = some d → P k M' e → AgM A M' ∧ ∀ MV, Gt K (Jt K J MV M') e g d S fun e1 => SvM K J M' e1 ts { D with nx := P (k + 1), ct := P (k + 1), bk := D.nx }) ∧ ∀ M' e, P ds.length M' e → AgM A M' ∧ D.nx M' e) : SvM K J M env (tFor wi g ts) D := fun MV0 MV GB B G H σ a E r => by
  refine h MV0 MV GB B G H σ a r.x _ fun I A ds M0 MV1 G1 H1 sg a1 ag wk ⟨P, h0, hs, hd⟩ => ?_
  refine ⟨fun i m σ' H' => m = ds.length - i ∧ i ≤ ds.length ∧ ∃ M' MV' e G', AtM K J MV0 G1 B MV' M' G' H' σ' e ∧ P i M' e, ⟨ds.length, by simp, Nat.zero_le _, M0, MV1, env, G1, a1.rebase, h0⟩, ?_⟩
  rintro i m σ' H' ⟨rfl, hi, M', MV', e, G', a', p⟩
  by_cases hlt : i < ds.length
  · obtain ⟨d0, hd0⟩ : ∃ d, ds[i]? = some d := ⟨ds[i], by simp [hlt]⟩
    have ag' := (hs i d0 M' e hd0 p).1
    refine .inr ⟨wk.go i MV' M' G' H' a'.nx.gg a'.wf ag' hlt, fun σ2 H2 => ∃ M2 MV2 e2 G2, AtM K J MV0 G1 B MV2 M2 G2 H2 σ2 e2 ∧ P (i + 1) M2 e2, fun σ2 H2 ⟨M2, MV2, e2, G2, a2, p2⟩ => ⟨ds.length - (i + 1), by omega, rfl, hlt, M2, MV2, e2, G2, a2, p2⟩, fun x H2 y => ?_⟩
    obtain ⟨G2, d, n2, hd', rd⟩ := wk.yld i MV' M' G' H' x H2 a'.nx.gg a'.wf ag' hlt y
    have a2 := a'.then n2
    refine (hs i d M' e hd' p).2 MV' B G2 H2 σ' x a2.wf a2.en rd _ fun e3 σ3 E3 _ sv => ?_
    exact sv MV0 MV' G1 B G2 H2 σ3 ⟨a2.wf, a2.nx, E3⟩ _ ⟨fun M4 MV4 e4 G4 H4 σ4 a4 x => ⟨M4, MV4, e4, G4, a4, x⟩, fun M4 MV4 e4 G4 H4 σ4 a4 x => r.nx M4 MV4 e4 G4 H4 σ4 (AtM.back a1.nx a4) x, fun M4 MV4 e4 G4 H4 σ4 a4 x => ⟨M4, MV4, e4, G4, a4, x⟩,
      fun v d4 M4 MV4 G4 H4 n4 w4 r4 x => r.rt v d4 M4 MV4 G4 H4 (a1.nx.back n4) w4 r4 x, XOkM.rebase a1.nx r.x⟩
  · have e' : i = ds.length := by omega
    subst e'
    obtain ⟨ag', dn⟩ := hd M' e p
    exact .inl ⟨wk.stop MV' M' G' H' a'.nx.gg a'.wf ag', r.nx M' MV' e G' H' σ' (AtM.back a1.nx a') dn⟩
/-! ### comprehensions whose items change things (they let nothing out) -/
def DX : DM := { nx := fun _ _ => False, rt := fun _ _ => False }
theorem xok0 {MV0 : Mh} {GB B : Hp} : XOkM K J MV0 GB B DX := fun _ _ _ _ _ _ _ _ _ _ _ _ _ z => z.elim
theorem En.lowM {B B' G H : Hp} {σ : L2.St} {MV : Mh} (E : En K (Jt K J MV M) B G H σ env) (hb : ∀ b, B b = none → B' b = none) : En K (Jt K J MV M) B' G H σ env := E.low hb
/-- a new list comes to stand among the told ones -/
theorem Wf.put {MV : Mh} {G H : Hp} (w : Wf (Jt K J MV M) G H) {p : Addr} {ho : HO} {ob : OB} (hj : p ∉ J.ms) (hG : G p = none) (hH : H p = some ho) (r : OR K G ho ob) : Wf (Jt K J (upd MV p ho) (updM M p ob)) G H := by
  refine ⟨w.gh, ⟨w.ok.1, fun a ha => ?_, fun a o e => ?_⟩, fun m hm => ?_, w.tr.1, fun a => ?_⟩
  · by_cases z : a = p
    · subst z; exact hj
    · rw [upd_ne z] at ha; exact w.ok.2.1 a ha
  · by_cases z : a = p
    · subst z; rw [upd_same] at e; cases e; exact hH
    · rw [upd_ne z] at e; exact w.ok.2.2 a o e
  · by_cases z : m = p
    · subst z; exact ⟨hG, by rw [hH]; simp⟩
    · refine w.ms m (hm.elim .inl fun h => .inr ?_)
      rw [upd_ne z] at h; exact h
  · by_cases z : a = p
    · subst z
      refine ⟨fun ob' e => ?_, fun e => ?_⟩
      · rw [updM_same] at e; cases e; exact ⟨ho, upd_same, r⟩
      · rw [updM_same] at e; cases e
    · refine ⟨fun ob' e => ?_, fun e => ?_⟩
      · rw [updM_ne z] at e; rw [upd_ne z]; exact (w.tr.2 a).1 ob' e
      · rw [updM_ne z] at e; rw [upd_ne z]; exact (w.tr.2 a).2 e
theorem Wf.none_ {MV : Mh} {G H : Hp} (w : Wf (Jt K J MV M) G H) {p : Addr} (h : H p = none) : MV p = none ∧ M p = none := by
  have h1 : MV p = none := by
    cases z : MV p with
    | none => rfl
    | some o => have := w.ok.2.2 p o z; rw [h] at this; cases this
  refine ⟨h1, ?_⟩
  cases z : M p with
  | none => rfl
  | some o => obtain ⟨ho, e, _⟩ := (w.tr.2 p).1 o z; rw [h1] at e; cases e
theorem Wf.noneM {MV : Mh} {G H : Hp} (w : Wf (Jt K J MV M) G H) {p : Addr} (h : MV p = none) : M p = none := by
  cases z : M p with
  | none => rfl
  | some o => obtain ⟨ho, e, _⟩ := (w.tr.2 p).1 o z; rw [h] at e; cases e
theorem nxm_put {MV MV' : Mh} {G H : Hp} {p : Addr} {ho : HO} (h : MV p ≠ none ∨ H p = none) {G' H' : Hp} (n : NxM J MV G H MV' G' H') : NxM J MV G H (upd MV' p ho) G' H' :=
  ⟨n.gg, n.fr, n.kp, n.th, fun b hb => by
    by_cases z : b = p
    · subst z; exact h
    · rw [upd_ne z] at hb; exact n.dm b hb, fun b hb => by
    by_cases z : b = p
    · subst z; rw [upd_same]; simp
    · rw [upd_ne z]; exact n.dk b hb⟩
/-- [e for .. in .. if ..]: a new list among the told ones -/
theorem evm_lc {R : Dt → Mm → Prop} (h : EiM K J M env D wi fun A ds M0 => ds.length ≤ 100000 ∧ ∃ Iv : Nat → List Dt → Mm → Prop, Iv 0 [] M0 ∧
    (∀ k d acc M', ds[k]? = some d → acc.length ≤ k → Iv k acc M' → AgM A M' ∧ ∀ MV, Gt K (Jt K J MV M') (wipeE env vs) g d vs fun e => Et K (Jt K J MV M') e tt fun b => (b = true → EvM K J M' e DX te fun y M2 => Iv (k + 1) (acc ++ [y]) M2) ∧ (b = false → Iv (k + 1) acc M')) ∧
    ∀ acc M', acc.length ≤ ds.length → Iv ds.length acc M' → AgM A M' ∧ ∀ p, M' p = none → R (.ptr p) (updM M' p (.lst acc))) : EvM K J M env D (tLc wi g tt te vs) R := fun MV0 MV GB B G H σ a x Q q => by
  refine h MV0 MV GB B G H σ a x _ fun I A ds M0 MV1 G1 H1 sg a1 ag wk ⟨hz, Iv, h0, hs, hd⟩ => ?_
  intro Dl hDl
  have hjD : Dl ∉ J.ms := (not_jt.mp (a1.wf.notin hDl)).1
  have n0 := a1.wf.newM hDl (.lst [])
  have a0 := a1.then n0
  refine ⟨fun i m H' => m = ds.length - i ∧ i ≤ ds.length ∧ ∃ M' MV' G' xs acc, NxM J MV1 G1 H1 MV' G' H' ∧ AtM K J MV0 GB B MV' M' G' H' σ env ∧ MV' Dl = none ∧ G' Dl = none ∧ H' Dl = some (.lst xs) ∧ Da K G' xs acc ∧ acc.length ≤ i ∧ Iv i acc M',
    ⟨ds.length, by simp, Nat.zero_le _, M0, MV1, G1, [], [], .of n0, a0, (a1.wf.none_ hDl).1, a1.wf.free hDl, upd_same, .nil, Nat.le_refl _, h0⟩, ?_⟩
  rintro i m H' ⟨rfl, hi, M', MV', G', xs, acc, s1, a', hMD, hG, hH, r, hl, p⟩
  by_cases hlt : i < ds.length
  · obtain ⟨d0, hd0⟩ : ∃ d, ds[i]? = some d := ⟨ds[i], by simp [hlt]⟩
    have ag' := (hs i d0 acc M' hd0 hl p).1
    refine .inr ⟨wk.go i MV' M' G' H' s1.gg a'.wf ag' hlt, fun H2 => ∃ M2 MV2 G2 xs2 acc2, NxM J MV1 G1 H1 MV2 G2 H2 ∧ AtM K J MV0 GB B MV2 M2 G2 H2 σ env ∧ MV2 Dl = none ∧ G2 Dl = none ∧ H2 Dl = some (.lst xs2) ∧ Da K G2 xs2 acc2 ∧ acc2.length ≤ i + 1 ∧ Iv (i + 1) acc2 M2,
      fun H2 ⟨M2, MV2, G2, xs2, acc2, a, b, c, d, e, f, g⟩ => ⟨ds.length - (i + 1), by omega, rfl, hlt, M2, MV2, G2, xs2, acc2, a, b, c, d, e, f, g⟩, fun x H2 y => ?_⟩
    obtain ⟨G2, d, n2, hd', rd⟩ := wk.yld i MV' M' G' H' x H2 s1.gg a'.wf ag' hlt y
    have a2 := a'.then n2
    refine (hs i d acc M' hd' hl p).2 MV' B G2 H2 (wipe σ vs) x a2.wf (a2.en.wipe vs) rd _ fun e3 σ3 E3 ks et => ⟨wipe_eq ks.1 ks.2, et B G2 H2 σ3 a2.wf E3 _ fun b G3 H3 n3 k => ?_⟩
    have a3 := a2.then n3
    have nn := n2.trans n3
    have hn : Dl ∉ (Jt K J MV' M').ms := not_jt.mpr ⟨hjD, hMD⟩
    have hG3 := nn.fr Dl hG (by rw [hH]; simp)
    have hH3 := nn.kp Dl _ hH hn
    cases b with
    | false => exact ⟨M', MV', G3, xs, acc, s1.trans (.of nn), a3, hMD, hG3, hH3, r.mono nn.gg, by omega, k.2 rfl⟩
    | true =>
      have aE : AtM K J MV0 GB B MV' M' G3 H3 σ3 e3 := ⟨a3.wf, a3.nx, E3.mono n3⟩
      refine k.1 rfl MV0 MV' GB B G3 H3 σ3 aE xok0 _ fun yv yd M4 MV4 G4 H4 n4 a4 ry ky => ?_
      have hG4 := n4.fr Dl hG3 (by rw [hH3]; simp)
      have hH4 := n4.kp Dl _ hH3 hjD hMD
      have hM4 : MV4 Dl = none := n4.none hH3 hMD
      have a5 := a3.thenM n4 a4.wf
      -- the list grows
      have same : ∀ b, b ∈ (Jt K J MV4 M4).ms → upd H4 Dl (.lst (xs ++ [yv])) b = H4 b := fun b hb => upd_ne fun z => by
        subst z
        exact hb.elim hjD fun z => z hM4
      have gh : Same G4 (upd H4 Dl (.lst (xs ++ [yv]))) := fun b o e => by rw [upd_ne (ne_of_none e hG4)]; exact a4.wf.gh b o e
      have w6 : Wf (Jt K J MV4 M4) G4 (upd H4 Dl (.lst (xs ++ [yv]))) := ⟨gh, (Jt K J MV4 M4).st _ _ a4.wf.ok same, fun m hm => ⟨(a4.wf.ms m hm).1, by rw [same m hm]; exact (a4.wf.ms m hm).2⟩, a4.wf.tr⟩
      have up : ∀ {MVx : Mh} {Gx Hx : Hp}, Hx Dl = none → NxM J MVx Gx Hx MV4 G4 H4 → NxM J MVx Gx Hx MV4 G4 (upd H4 Dl (.lst (xs ++ [yv]))) := fun {MVx Gx Hx} hx n => ⟨n.gg, n.fr, fun b o e h1 h2 => by rw [upd_ne (ne_of_none e hx)]; exact n.kp b o e h1 h2, fun b hb => by
        by_cases z : b = Dl
        · subst z; rw [upd_same]; simp
        · rw [upd_ne z]; exact n.th b hb, n.dm, n.dk⟩
      have n16 := (s1.trans (.of nn)).trans n4
      refine ⟨xs, hH4, sz_lt (by rw [r.length]; omega), M4, MV4, G4, xs ++ [yv], acc ++ [yd], up hDl n16, ⟨w6, up (a1.freshB hDl) a5.nx, ?_⟩, hM4, hG4, upd_same, ((r.mono nn.gg).mono n4.gg).append (.cons ry .nil), by simp; omega, ky⟩
      -- the slots stay
      have E1 := a1.en.monoM (up hDl n16) (M' := M4)
      exact E1
  · have e' : i = ds.length := by omega
    subst e'
    obtain ⟨ag', hR⟩ := hd acc M' hl p
    refine .inl ⟨wk.stop MV' M' G' H' s1.gg a'.wf ag', ?_⟩
    have hH0 : H Dl = none := by
      cases z : H Dl with
      | none => rfl
      | some o => exact absurd hDl (sg.th Dl (by rw [z]; simp))
    have nq := nxm_put (ho := .lst xs) (.inr hH0) (sg.trans s1)
    have w7 : Wf (Jt K J (upd MV' Dl (.lst xs)) (updM M' Dl (.lst acc))) G' H' := a'.wf.put hjD hG hH (.lst r)
    exact q (.ref Dl) (.ptr Dl) _ _ G' H' nq (a.thenM nq w7) (.ptr _) (hR Dl (a'.wf.noneM hMD))
end
end Mv

set_option Elab.async false
set_option linter.all false
set_option maxRecDepth 100000
set_option maxHeartbeats 4000000
namespace Mv
open PySem PySem.Spec PyProof.Rows L2
section
variable {K : PySem.W.Frag} {J : Jm} {M : Mm} {MV : Mh} {env : List Sl} {R : Dt → Prop} {te ta tb ti to tk tv : TE} {tr : TA} {D : DM} {ts : TS}
/-! ### reading a told object -/
theorem o2_ixP {a : Addr} {ds : List Dt} {i : Int} {d : Dt} (hM : M a = some (.lst ds)) (h : atD ds i = some d) (k : R d) : O2 K (Jt K J MV M) (rIx K) (.ptr a) (.int i) R := fun G H vx vy w rx ry Q q => by
  cases ry
  cases rx
  obtain ⟨vs, _, h2, t⟩ := w.lstM hM
  obtain ⟨v, e1, e2⟩ := t.at h
  exact .inl ⟨_, _, i, v, rfl, rfl, .inl (.inl h2), e1, q v d G H w.nx e2 k⟩
theorem oc_lenP {a : Addr} {ds : List Dt} (hM : M a = some (.lst ds)) (h : R (.int (ds.length : Int))) : Oc K (Jt K J MV M) (Mv.rLen K) [.ptr a] R := fun G H vs w rs Q q => by
  cases rs with
  | cons r1 r2 =>
    cases r2
    cases r1
    obtain ⟨us, _, h2, t⟩ := w.lstM hM
    exact ⟨_, ds.length, rfl, .inl ⟨_, .inl (.inl h2), t.length.symm⟩, q _ _ G H w.nx (.int _) h⟩
theorem o2_inP {x : Dt} {a : Addr} {ds : List Dt} {neg : Bool} (hM : M a = some (.lst ds)) (hx : flatD x = true) (hs : ds.all flatD = true) (h : R (.bl (if neg then !inD x ds else inD x ds))) : O2 K (Jt K J MV M) (rIn K neg) x (.ptr a) R := fun G H vx vy w rx ry Q q => by
  cases ry
  obtain ⟨us, _, h2, t⟩ := w.lstM hM
  refine ⟨_, _, rfl, .inl (.inl (.inl h2)), flat_of rx hx, all_of t hs, q _ _ G H w.nx (.bl _) ?_⟩
  rw [in_of rx t]
  exact h
theorem oc_tupP {a : Addr} {ds : List Dt} (hM : M a = some (.lst ds)) (h : R (.tup ds)) : Oc K (Jt K J MV M) (Mv.rTup K) [.ptr a] R := fun G H vs w rs Q q => by
  cases rs with
  | cons r1 r2 =>
    cases r2
    cases r1
    obtain ⟨us, _, h2, t⟩ := w.lstM hM
    refine ⟨a, us, rfl, .inl ⟨.inl (.inl h2), fun l hl => ?_⟩⟩
    have n := w.new hl (.tup us)
    exact q _ _ _ _ n (.tup (.inl (.inl upd_same)) (t.mono n.gg)) h
theorem ev_fldP {f : Str} (h : Ev K (Jt K J MV M) env te fun o => ∃ a C fs x, o = .ptr a ∧ M a = some (.ins C fs) ∧ Cls K C ∧ NoAttr K C f ∧ fs.lookup f = some x ∧ R x) : Ev K (Jt K J MV M) env (tFld K te f) R := fun B G H σ w E Q q =>
  h B G H σ w E _ fun v o G1 H1 n1 r ⟨a, C, fs, x, e, hM, hC, hf, hx, k⟩ => by
    subst e
    cases r
    obtain ⟨dx, us, _, h2, t⟩ := (n1.wf w).insM hM
    obtain ⟨y, h3, h4⟩ := df_lookup t hx
    exact ⟨a, C, dx, us, y, rfl, h2, hC, hf, h3, q y x G1 H1 n1 h4 k⟩
theorem evm_fld {f : Str} {R : Dt → Mm → Prop} (h : EvM K J M env D te fun o M' => ∃ a C fs x, o = .ptr a ∧ M' a = some (.ins C fs) ∧ Cls K C ∧ NoAttr K C f ∧ fs.lookup f = some x ∧ R x M') : EvM K J M env D (tFld K te f) R := fun MV0 MV GB B G H σ a x Q q =>
  h MV0 MV GB B G H σ a x _ fun v o M' MV' G' H' n a' r ⟨p, C, fs, y, e, hM, hC, hf, hx, k⟩ => by
    subst e
    cases r
    obtain ⟨dx, us, _, h2, t⟩ := a'.wf.insM hM
    obtain ⟨z, h3, h4⟩ := df_lookup t hx
    exact ⟨p, C, dx, us, z, rfl, h2, hC, hf, h3, q z y M' MV' G' H' n a' h4 k⟩
/-! ### a told object changes -/
theorem Wf.chg {G H : Hp} (w : Wf (Jt K J MV M) G H) {p : Addr} {ho ho' : HO} {ob' : OB} (hp : MV p = some ho) (r : OR K G ho' ob') : Wf (Jt K J (upd MV p ho') (updM M p ob')) G (upd H p ho') := by
  have hne : MV p ≠ none := by rw [hp]; simp
  have hms : p ∈ (Jt K J MV M).ms := .inr hne
  have hG := (w.ms p hms).1
  have hj := w.ok.2.1 p hne
  have gh : Same G (upd H p ho') := fun b o e => by rw [upd_ne (ne_of_none e hG)]; exact w.gh b o e
  refine ⟨gh, ⟨J.st _ _ w.ok.1 fun b hb => upd_ne fun z => hj (z ▸ hb), fun a ha => ?_, fun a o e => ?_⟩, fun m hm => ?_, w.tr.1, fun a => ?_⟩
  · by_cases z : a = p
    · subst z; exact hj
    · rw [upd_ne z] at ha; exact w.ok.2.1 a ha
  · by_cases z : a = p
    · subst z; rw [upd_same] at e; cases e; exact upd_same
    · rw [upd_ne z] at e; rw [upd_ne z]; exact w.ok.2.2 a o e
  · by_cases z : m = p
    · subst z; exact ⟨hG, by rw [upd_same]; simp⟩
    · rw [upd_ne z]
      refine w.ms m (hm.elim .inl fun h => .inr ?_)
      rw [upd_ne z] at h; exact h
  · by_cases z : a = p
    · subst z
      refine ⟨fun ob e => ?_, fun e => ?_⟩
      · rw [updM_same] at e; cases e; exact ⟨ho', upd_same, r⟩
      · rw [updM_same] at e; cases e
    · refine ⟨fun ob e => ?_, fun e => ?_⟩
      · rw [updM_ne z] at e; rw [upd_ne z]; exact (w.tr.2 a).1 ob e
      · rw [updM_ne z] at e; rw [upd_ne z]; exact (w.tr.2 a).2 e
theorem Wf.chgN {G H : Hp} (w : Wf (Jt K J MV M) G H) {p : Addr} {ho ho' : HO} (hp : MV p = some ho) : NxM J MV G H (upd MV p ho') G (upd H p ho') := by
  refine ⟨Same.refl _, fun b h _ => h, fun b o e _ h2 => ?_, fun b hb => ?_, fun b hb => ?_, fun b hb => ?_⟩
  · rw [upd_ne (fun z => by rw [z, hp] at h2; cases h2)]; exact e
  · by_cases z : b = p
    · subst z; rw [upd_same]; simp
    · rw [upd_ne z]; exact hb
  · by_cases z : b = p
    · subst z; exact .inl (by rw [hp]; simp)
    · rw [upd_ne z] at hb; exact .inl hb
  · by_cases z : b = p
    · subst z; rw [upd_same]; simp
    · rw [upd_ne z]; exact hb
/-- xs.append(e) -/
theorem evm_app {R : Dt → Mm → Prop} (h : EvM K J M env D to fun o M1 => ∃ a ds0, o = .ptr a ∧ M1 a = some (.lst ds0) ∧ EvM K J M1 env D te fun d M2 => ∃ ds, M2 a = some (.lst ds) ∧ ds.length < 100000 ∧ R .non (updM M2 a (.lst (ds ++ [d])))) :
    EvM K J M env D (tBM K "list" rAppend to (tCons te tNil)) R := fun MV0 MV GB B G H σ a x Q q =>
  h MV0 MV GB B G H σ a x _ fun v o M1 MV1 G1 H1 n1 a1 r ⟨p, ds0, e, hM, k⟩ => by
    subst e
    cases r
    obtain ⟨vs0, _, h0, _⟩ := a1.wf.lstM hM
    refine ⟨.inl ⟨rfl, vs0, .inl (.inl h0)⟩, k MV0 MV1 GB B G1 H1 σ a1 x _ fun u d M2 MV2 G2 H2 n2 a2 rd ⟨ds, hM2, hz, k2⟩ => ?_⟩
    obtain ⟨us, e1, e2, t⟩ := a2.wf.lstM hM2
    refine ⟨p, us, u, rfl, rfl, e2, sz_lt (by rw [t.length]; exact hz), ?_⟩
    have n3 := a2.wf.chgN (ho' := .lst (us ++ [u])) e1
    exact q _ _ _ _ G2 _ ((n1.trans n2).trans n3) (a2.thenM n3 (a2.wf.chg e1 (.lst (t.append (.cons rd .nil))))) .non k2
theorem da_last {G : Hp} {vs : List V} {ds : List Dt} (t : Da K G vs ds) {d : Dt} (h : ds.getLast? = some d) : ∃ v, vs[vs.length - 1]? = some v ∧ Dr K G v d := by
  rw [List.getLast?_eq_getElem?] at h
  obtain ⟨v, h1, h2⟩ := t.get h
  exact ⟨v, by rw [t.length]; exact h1, h2⟩
theorem Da.dropLast {G : Hp} : ∀ {vs : List V} {ds : List Dt}, Da K G vs ds → Da K G vs.dropLast ds.dropLast
  | _, _, .nil => .nil
  | _, _, .cons r .nil => .nil
  | _, _, .cons r (.cons r2 t) => .cons r (Da.dropLast (.cons r2 t))
/-- xs.pop() -/
theorem evm_pop {R : Dt → Mm → Prop} (h : EvM K J M env D to fun o M1 => ∃ a ds d, o = .ptr a ∧ M1 a = some (.lst ds) ∧ ds.getLast? = some d ∧ R d (updM M1 a (.lst ds.dropLast))) :
    EvM K J M env D (tBM0 K "list" rPop to) R := fun MV0 MV GB B G H σ a x Q q =>
  h MV0 MV GB B G H σ a x _ fun v o M1 MV1 G1 H1 n1 a1 r ⟨p, ds, d, e, hM, hl, k⟩ => by
    subst e
    cases r
    obtain ⟨us, e1, e2, t⟩ := a1.wf.lstM hM
    obtain ⟨u, h1, h2⟩ := da_last t hl
    refine ⟨.inl ⟨rfl, us, .inl (.inl e2)⟩, p, us, u, rfl, rfl, e2, h1, ?_⟩
    have n3 := a1.wf.chgN (ho' := .lst us.dropLast) e1
    exact q _ _ _ _ G1 _ (n1.trans n3) (a1.thenM n3 (a1.wf.chg e1 (.lst t.dropLast))) h2 k
/-- xs.reverse() -/
theorem evm_reverse {R : Dt → Mm → Prop} (h : EvM K J M env D to fun o M1 => ∃ (a : Addr) (ns : List Int), o = .ptr a ∧ M1 a = some (.lst (ns.map Dt.int)) ∧ R .non (updM M1 a (.lst (ns.reverse.map Dt.int)))) :
    EvM K J M env D (tBM0 K "list" rReverse to) R := fun MV0 MV GB B G H σ a x Q q =>
  h MV0 MV GB B G H σ a x _ fun v o M1 MV1 G1 H1 n1 a1 r ⟨p, ns, e, hM, k⟩ => by
    subst e
    cases r
    obtain ⟨us, e1, e2, t⟩ := a1.wf.lstM hM
    have := t.ints_inv
    subst this
    refine ⟨.inl ⟨rfl, _, .inl (.inl e2)⟩, p, _, rfl, rfl, e2, ?_⟩
    have n3 := a1.wf.chgN (ho' := .lst (ns.map V.int).reverse) e1
    refine q _ _ _ _ G1 _ (n1.trans n3) (a1.thenM n3 (a1.wf.chg e1 (.lst ?_))) .non k
    rw [← List.map_reverse]
    exact Da.ints
theorem Da.ints_len {G : Hp} {vs : List V} {ns : List Int} (r : Da K G vs (ns.map Dt.int)) : vs = ns.map V.int := r.ints_inv
/-- xs.remove(k), whole numbers -/
theorem evm_remove {R : Dt → Mm → Prop} (h : EvM K J M env D to fun o M1 => ∃ (a : Addr) (ns0 : List Int), o = .ptr a ∧ M1 a = some (.lst (ns0.map Dt.int)) ∧ EvM K J M1 env D te fun d M2 => ∃ (ns : List Int) (k : Int) (j : Nat), d = .int k ∧ M2 a = some (.lst (ns.map Dt.int)) ∧ ns[j]? = some k ∧ (∀ m : Nat, m < j → ns[m]? ≠ some k) ∧ R .non (updM M2 a (.lst ((ns.eraseIdx j).map Dt.int)))) :
    EvM K J M env D (tBM K "list" rRemI to (tCons te tNil)) R := fun MV0 MV GB B G H σ a x Q q =>
  h MV0 MV GB B G H σ a x _ fun v o M1 MV1 G1 H1 n1 a1 r ⟨p, ds0, e, hM, k⟩ => by
    subst e
    cases r
    obtain ⟨vs0, _, h0, _⟩ := a1.wf.lstM hM
    refine ⟨.inl ⟨rfl, vs0, .inl (.inl h0)⟩, k MV0 MV1 GB B G1 H1 σ a1 x _ fun u d M2 MV2 G2 H2 n2 a2 rd ⟨ns, c, j, ed, hM2, hj, hm, k2⟩ => ?_⟩
    subst ed
    cases rd
    obtain ⟨us, e1, e2, t⟩ := a2.wf.lstM hM2
    have := t.ints_inv
    subst this
    refine ⟨p, ns, c, j, rfl, rfl, e2, hj, hm, ?_⟩
    have n3 := a2.wf.chgN (ho' := .lst ((ns.eraseIdx j).map V.int)) e1
    exact q _ _ _ _ G2 _ ((n1.trans n2).trans n3) (a2.thenM n3 (a2.wf.chg e1 (.lst Da.ints))) .non k2
/-- a new list among the told ones -/
theorem evm_new {R : Dt → Mm → Prop} (h : ∀ MV, Em K (Jt K J MV M) env te fun ds => ∀ p, M p = none → R (.ptr p) (updM M p (.lst ds))) : EvM K J M env D te R := fun MV0 MV GB B G H σ a x Q q =>
  h MV B G H σ a.wf a.en Q fun p vs ds G1 H1 n1 hG hH hp r k => by
    have hj : p ∉ J.ms := (not_jt.mp (a.wf.notin hH)).1
    have hM := a.wf.none_ hH
    have n2 := nxm_put (ho := .lst vs) (.inr hH) (NxM.of n1)
    exact q (.ref p) (.ptr p) _ _ G1 H1 n2 (a.thenM n2 ((n1.wf a.wf).put hj hG hp (.lst r))) (.ptr _) (k p hM.2)
theorem evm_lst {R : Dt → Mm → Prop} (h : EdM K J M env D tr fun ds M' => ds.length ≤ 100000 ∧ ∀ p, M' p = none → R (.ptr p) (updM M' p (.lst ds))) : EvM K J M env D (tLst tr) R := fun MV0 MV GB B G H σ a x Q q =>
  h MV0 MV GB B G H σ a x _ fun vs ds M' MV' G' H' n a' rs ⟨hz, k⟩ => ⟨sz_of (by rw [rs.length]; exact hz), fun p hp => by
    have hj : p ∉ J.ms := (not_jt.mp (a'.wf.notin hp)).1
    have hM := a'.wf.none_ hp
    have n1 := a'.wf.newM hp (.lst vs)
    have hH0 : MV p ≠ none ∨ H p = none := by
      cases z : H p with
      | none => exact .inr rfl
      | some o => exact absurd hp (n.th p (by rw [z]; simp))
    have n2 := nxm_put (ho := .lst vs) hH0 (n.trans (.of n1))
    exact q (.ref p) (.ptr p) _ _ G' _ n2 (a.thenM n2 ((n1.wf a'.wf).put hj (a'.wf.free hp) upd_same (.lst rs))) (.ptr _) (k p hM.2)⟩
/-- xs[k] = e -/
theorem sm_setP (h : EvM K J M env D te fun d M1 => EvM K J M1 env D to fun o M2 => EvM K J M2 env D ti fun i M3 => ∃ a ds j, o = .ptr a ∧ i = .int (j : Nat) ∧ M3 a = some (.lst ds) ∧ j < ds.length ∧ D.nx (updM M3 a (.lst (ds.set j d))) env) :
    SvM K J M env (tAsg te (gSub to ti rSetL)) D := fun MV0 MV GB B G H σ a E r =>
  h MV0 MV GB B G H σ a r.x _ fun v d M1 MV1 G1 H1 n1 a1 rd k => k MV0 MV1 GB B G1 H1 σ a1 r.x _ fun o od M2 MV2 G2 H2 n2 a2 ro k => k MV0 MV2 GB B G2 H2 σ a2 r.x _ fun i idd M3 MV3 G3 H3 n3 a3 ri ⟨p, ds, j, e1, e2, hM, hj, k3⟩ => by
    subst e1 e2
    cases ro
    cases ri
    obtain ⟨us, h1, h2, t⟩ := a3.wf.lstM hM
    refine ⟨p, us, (j : Int), j, rfl, rfl, h2, ixN_nat (by rw [t.length]; exact hj), ?_⟩
    have n4 := a3.wf.chgN (ho' := .lst (us.set j v)) h1
    exact r.nx _ _ env _ _ σ (a3.thenM n4 (a3.wf.chg h1 (.lst (t.set j (rd.mono (n2.gg.trans n3.gg)))))) k3
/-- o.f = e -/
theorem sm_fldP {f : Str} (h : EvM K J M env D tv fun d M1 => EvM K J M1 env D ta fun o M2 => ∃ a C fs, o = .ptr a ∧ M2 a = some (.ins C fs) ∧ Cls K C ∧ NoAttr K C f ∧ fs.length < 1000 ∧ D.nx (updM M2 a (.ins C (putD f d fs))) env) :
    SvM K J M env (sFld K ta tv f) D := fun MV0 MV GB B G H σ a E r =>
  h MV0 MV GB B G H σ a r.x _ fun v d M1 MV1 G1 H1 n1 a1 rd k => k MV0 MV1 GB B G1 H1 σ a1 r.x _ fun o od M2 MV2 G2 H2 n2 a2 ro ⟨p, C, fs, e, hM, hC, hf, hz, k⟩ => by
    subst e
    cases ro
    obtain ⟨dx, us, h1, h2, t⟩ := a2.wf.insM hM
    refine ⟨p, C, dx, us, rfl, h2, hC, hf, by rw [df_len t]; exact hz, ?_⟩
    have n4 := a2.wf.chgN (ho' := .ins C dx (putF f v us)) h1
    exact r.nx _ _ env _ _ σ (a2.thenM n4 (a2.wf.chg h1 (.ins (df_put (rd.mono n2.gg) t)))) k
/-- o.f op= e, whole numbers -/
theorem sm_fldAug {f : Str} {g : Int → Int → Int} {rd : V → V → Hp → VK → Prop} (hrd : ∀ i j H Q, Q (.int (g i j)) H → rd (.int i) (.int j) H Q) (h : EvM K J M env D ta fun o M1 => ∃ a C fs i, o = .ptr a ∧ M1 a = some (.ins C fs) ∧ Cls K C ∧ NoAttr K C f ∧ fs.lookup f = some (.int i) ∧ fs.length < 900 ∧
    EvM K J M1 env D tv fun d M2 => ∃ j, d = .int j ∧ M2 a = some (.ins C fs) ∧ D.nx (updM M2 a (.ins C (putD f (.int (g i j)) fs))) env) :
    SvM K J M env (sFldAug K ta tv rd f) D := fun MV0 MV GB B G H σ a E r =>
  h MV0 MV GB B G H σ a r.x _ fun o od M1 MV1 G1 H1 n1 a1 ro ⟨p, C, fs, i, e, hM, hC, hf, hl, hz, k⟩ => by
    subst e
    cases ro
    obtain ⟨dx, us, h1, h2, t⟩ := a1.wf.insM hM
    obtain ⟨y, h3, h4⟩ := df_lookup t hl
    cases h4
    refine ⟨p, C, dx, us, _, rfl, h2, hC, hf, h3, k MV0 MV1 GB B G1 H1 σ a1 r.x _ fun u d M2 MV2 G2 H2 n2 a2 ru ⟨j, e, hM2, k⟩ => ?_⟩
    subst e
    cases ru
    obtain ⟨dx2, us2, e1, e2, t2⟩ := a2.wf.insM hM2
    refine hrd i j H2 _ ⟨dx2, us2, e2, by rw [df_len t2]; omega, ?_⟩
    have n4 := a2.wf.chgN (ho' := .ins C dx2 (putF f (.int (g i j)) us2)) e1
    exact r.nx _ _ env _ _ σ (a2.thenM n4 (a2.wf.chg e1 (.ins (df_put (.int _) t2)))) k
/-- x op= e, whole numbers -/
theorem sm_aug {i : Nat} {x : Int} {g : Int → Int → Int} (hi : env[i]? = some (.d (.int x))) (h : EvM K J M env D te fun d M' => ∃ j, d = .int j ∧ D.nx M' (env.set i (.d (.int (g x j))))) :
    SvM K J M env (tAug i te (ipI g)) D := fun MV0 MV GB B G H σ a E r => by
  obtain ⟨v, e, rv⟩ := a.en.dat hi
  cases rv
  refine ⟨_, e, h MV0 MV GB B G H σ a r.x _ fun u d M' MV' G' H' n a' rd ⟨j, ed, k⟩ => ?_⟩
  subst ed
  cases rd
  exact ⟨x, j, rfl, rfl, r.nx M' MV' _ G' H' _ (a'.setD (.int _)) k⟩
/-! ### raise -/
theorem sm_raise {C : Addr} {fs : List Str} {sW : WX} (T : OexC K C) (hf : ∀ f ∈ fs, PySem.W.findIn K (.ref C) f = some none) (hW : D.xw = sW) (h : ∀ MV, Ed K (Jt K J MV M) env tr fun ds => ds.length = fs.length ∧ fs.length ≤ 1000 ∧ D.xc C (fs.zip ds).reverse M env) :
    SvM K J M env (tRaiseT (tMkO C (spI K fs) [] tr) sW) D := sm_of fun MV => sv_raise T hf hW (h MV)
/-! ### try -/
def ClM (K : PySem.W.Frag) (J : Jm) (D : DM) (C : Addr) (fs : List (Str × Dt)) (M : Mm) (env : List Sl) : List Clause → Prop
  | [] => False
  | k :: r => ∃ b, PySem.W.exmOne K (.ref C) k.c = some b ∧ (b = true → ∀ a d, SvM K J M (env.set k.i (.xv a d fs)) (k.ts a (.ref C) (some d)) { nx := fun m e => D.nx m (e.set k.i .no), rt := D.rt, bk := fun m e => D.bk m (e.set k.i .no), ct := fun m e => D.ct m (e.set k.i .no) }) ∧
    (b = false → ClM K J D C fs M env r)
theorem wN_ofM {MV0 : Mh} {GB B G H : Hp} {σ : L2.St} {C d : Addr} {vs : List (Str × V)} {fs : List (Str × Dt)} {E : Ends} (a : AtM K J MV0 GB B MV M G H σ env) (g : G d = some (.xd vs)) (rf : Df K G vs fs) (r : Rts K J MV0 GB B D E) :
    ∀ l, ClM K J D C fs M env l → wN K (fun _ _ _ _ => False) E l (.ref C) (some d) σ H
  | [], h => h.elim
  | k :: r', ⟨b, h1, h2, h3⟩ => by
    refine ⟨b, h1, fun hb x hx => ?_, fun hb => wN_ofM a g rf r r' (h3 hb)⟩
    refine h2 hb x d MV0 MV GB B G H _ ⟨a.wf, a.nx, a.en.setX g rf⟩ (outN k.i E) ⟨?_, ?_, ?_, r.rt, fun _ _ _ _ _ _ _ _ _ _ _ _ _ z => z.elim⟩
    · intro M' MV' e G' H' σ' a' z
      exact r.nx M' MV' _ G' H' _ ⟨a'.wf, a'.nx, a'.en.setN⟩ z
    · intro M' MV' e G' H' σ' a' z
      exact r.bk M' MV' _ G' H' _ ⟨a'.wf, a'.nx, a'.en.setN⟩ z
    · intro M' MV' e G' H' σ' a' z
      exact r.ct M' MV' _ G' H' _ ⟨a'.wf, a'.nx, a'.en.setN⟩ z
theorem sm_try {tb : WX → TS} {l : List Clause} (h : ∀ W : WX, SvM K J M env (tb W) { D with xw := W, xc := fun C fs m e => ClM K J D C fs m e l }) : SvM K J M env (tTry K tb (fun _ _ _ _ => False) l) D := fun MV0 MV GB B G H σ a E r =>
  h (wN K (fun _ _ _ _ => False) E l) MV0 MV GB B G H σ a E ⟨r.nx, r.bk, r.ct, r.rt, fun C d vs fs e MV' M' G' H' σ' a' g rf z => wN_ofM a' g rf r l z⟩
end
/-! ### methods -/
def tMethX (C : Addr) (m : Str) (sp : Sp) (E : L2.St → XK) (ta : TE) (t : TA) : TE := fun σ H Q => ta σ H fun x H1 => ∃ a dx fs, x = .ref a ∧ H1 a = some (.ins C dx fs) ∧ fs.lookup m = none ∧ t σ H1 fun vs H2 => sp (x :: vs) H2 Q (E σ)
structure CalM (P : Program) (w : World) (K : PySem.W.Frag) (mg : Str → Option Value) (base : Heap) (k : Nat) (C : Addr) (m : Str) (ps : List Str) (sp : Sp) : Prop where
  ex : ∃ f fd, FnOk P w K mg base (L2.CX P w) k f fd ps sp ∧ Meth K C m f ∧ Binds K fd ps []
  cls : Cls K C
theorem CalM.mono {P : Program} {w : World} {K : PySem.W.Frag} {mg : Str → Option Value} {base : Heap} {j k : Nat} {C : Addr} {m : Str} {ps : List Str} {sp : Sp} (c : CalM P w K mg base j C m ps sp) (h : j ≤ k) : CalM P w K mg base k C m ps sp := by
  obtain ⟨f, fd, F, g, b⟩ := c.ex
  exact ⟨⟨f, fd, F.mono h, g, b⟩, c.cls⟩
section
variable {X : Cx} {k : Nat} {C : Addr} {m : Str} {ps : List Str} {sp : Sp} {o e : Expr} {es : List Expr} {ta : TE} {t : TA} {apos pos : Pos}
theorem pe_methW {pl : Sem Bool} (W : WX) (tk : Takes X W) (c : CalM X.prog X.w X.K X.mg X.base k C m ps sp) (hr : Room k X.A) (he : PE X o ta) (ha : PA X (e :: es) t)
    (hst : starEach (e :: es) X.env = (false, eval e X.env) :: starEach es X.env := by rfl) (hpl : (backTo pos (starEach es X.env)).any (·.1) = false := by rfl)
    (ht : eval (.Call (.Attribute o m apos) (e :: es) [] pos) X.env = (do
      let ov ← eval o X.env
      standAt apos.atName
      let (f, first) ← holding [ov] (getMethod ov m pl)
      callWith pos f first (backTo pos (starEach (e :: es) X.env)) (backToKw pos (keywordEach [] X.env))) := by rfl) :
    PE X (.Call (.Attribute o m apos) (e :: es) [] pos) (tMethX C m sp (WE W) ta t) := by
  obtain ⟨f, fd, F, hm, b⟩ := c.ex
  refine ⟨fun pins s σ H Q I h => ?_⟩
  refine PySem.W.methodCall_KW (pl := pl) (thn (he.run pins s σ H _ I h) fun u s1 ⟨x, H1, I1, rx, a, dx, fs, ex, ea, l, q⟩ => ?_) ht
  subst ex
  obtain rfl : u = Value.ref a := rx
  refine getmeth_ok I1 ea c.cls hm l ?_
  refine PySem.W.callWith_K (first := [.ref a]) (h₀ := X.base) I.ok.mod.kin hm.kp (thn (ha.run pos pins s1 σ H1 _ I1 q) fun us s2 ⟨vs, H2, I2, r, q2⟩ => ⟨I2.kIn, ?_⟩) hst hpl
  exact run_fnS (us := .ref a :: us) (vs := .ref a :: vs) (E := WE W) F hr b (passAt tk σ) I2 (.cons rfl r) q2
theorem pe_methW0 {pl : Sem Bool} (W : WX) (tk : Takes X W) (c : CalM X.prog X.w X.K X.mg X.base k C m ps sp) (hr : Room k X.A) (he : PE X o ta)
    (ht : eval (.Call (.Attribute o m apos) [] [] pos) X.env = (do
      let ov ← eval o X.env
      standAt apos.atName
      let (f, first) ← holding [ov] (getMethod ov m pl)
      callWith pos f first (backTo pos (starEach [] X.env)) (backToKw pos (keywordEach [] X.env))) := by rfl) :
    PE X (.Call (.Attribute o m apos) [] [] pos) (tMethX C m sp (WE W) ta tNil) := by
  obtain ⟨f, fd, F, hm, b⟩ := c.ex
  refine ⟨fun pins s σ H Q I h => ?_⟩
  refine PySem.W.methodCall_KW (pl := pl) (thn (he.run pins s σ H _ I h) fun u s1 ⟨x, H1, I1, rx, a, dx, fs, ex, ea, l, q⟩ => ?_) ht
  subst ex
  obtain rfl : u = Value.ref a := rx
  refine getmeth_ok I1 ea c.cls hm l ?_
  exact PySem.W.callWith_K0 (first := [.ref a]) I1.kIn hm.kp (run_fnS (us := [.ref a]) (vs := [.ref a]) (E := WE W) F hr b (passAt tk σ) I1 (.cons rfl .nil) q)
theorem pe_methE {pl : Sem Bool} (c : CalM X.prog X.w X.K X.mg X.base k C m ps sp) (hr : Room k X.A) (he : PE X o ta) (ha : PA X (e :: es) t)
    (hst : starEach (e :: es) X.env = (false, eval e X.env) :: starEach es X.env := by rfl) (hpl : (backTo pos (starEach es X.env)).any (·.1) = false := by rfl)
    (ht : eval (.Call (.Attribute o m apos) (e :: es) [] pos) X.env = (do
      let ov ← eval o X.env
      standAt apos.atName
      let (f, first) ← holding [ov] (getMethod ov m pl)
      callWith pos f first (backTo pos (starEach (e :: es) X.env)) (backToKw pos (keywordEach [] X.env))) := by rfl) :
    PE X (.Call (.Attribute o m apos) (e :: es) [] pos) (tMethX C m sp (fun _ => E0) ta t) := by
  obtain ⟨f, fd, F, hm, b⟩ := c.ex
  refine ⟨fun pins s σ H Q I h => ?_⟩
  refine PySem.W.methodCall_KW (pl := pl) (thn (he.run pins s σ H _ I h) fun u s1 ⟨x, H1, I1, rx, a, dx, fs, ex, ea, l, q⟩ => ?_) ht
  subst ex
  obtain rfl : u = Value.ref a := rx
  refine getmeth_ok I1 ea c.cls hm l ?_
  refine PySem.W.callWith_K (first := [.ref a]) (h₀ := X.base) I.ok.mod.kin hm.kp (thn (ha.run pos pins s1 σ H1 _ I1 q) fun us s2 ⟨vs, H2, I2, r, q2⟩ => ⟨I2.kIn, ?_⟩) hst hpl
  refine run_fn (dvs := []) (ds := []) (us := .ref a :: us) (vs := .ref a :: vs) F hr b .nil passL I2 (.cons rfl r) ?_
  rw [List.append_nil]
  exact q2
theorem pe_methE0 {pl : Sem Bool} (c : CalM X.prog X.w X.K X.mg X.base k C m ps sp) (hr : Room k X.A) (he : PE X o ta)
    (ht : eval (.Call (.Attribute o m apos) [] [] pos) X.env = (do
      let ov ← eval o X.env
      standAt apos.atName
      let (f, first) ← holding [ov] (getMethod ov m pl)
      callWith pos f first (backTo pos (starEach [] X.env)) (backToKw pos (keywordEach [] X.env))) := by rfl) :
    PE X (.Call (.Attribute o m apos) [] [] pos) (tMethX C m sp (fun _ => E0) ta tNil) := by
  obtain ⟨f, fd, F, hm, b⟩ := c.ex
  refine ⟨fun pins s σ H Q I h => ?_⟩
  refine PySem.W.methodCall_KW (pl := pl) (thn (he.run pins s σ H _ I h) fun u s1 ⟨x, H1, I1, rx, a, dx, fs, ex, ea, l, q⟩ => ?_) ht
  subst ex
  obtain rfl : u = Value.ref a := rx
  refine getmeth_ok I1 ea c.cls hm l ?_
  refine PySem.W.callWith_K0 (first := [.ref a]) I1.kIn hm.kp (run_fn (dvs := []) (ds := []) (us := [.ref a]) (vs := [.ref a]) F hr b .nil passL I1 (.cons rfl .nil) ?_)
  exact q
end
section
variable {K : PySem.W.Frag} {J : Jm} {M : Mm} {env : List Sl} {D : DM} {ta : TE} {t : TA} {C : Addr} {m : Str} {W : FwP} {R : Dt → Mm → Prop}
theorem evm_methG {E : L2.St → XK} (XC : Addr → List (Str × Dt) → Mm → Prop) (hE : (∀ cls d σ H, D.xw cls d σ H → E σ cls d H) ∧ (∀ C fs m, XC C fs m → D.xc C fs m env) ∨ ∀ C fs m, ¬ XC C fs m)
    (h : EvM K J M env D ta fun o M1 => ∃ a fs, o = .ptr a ∧ M1 a = some (.ins C fs) ∧ fs.lookup m = none ∧ EaM K J M1 env D t fun ss M2 => W M2 (.d (.ptr a) :: ss) R XC) : EvM K J M env D (tMethX C m (CtP K W) E ta t) R := fun MV0 MV GB B G H σ a x Q q =>
  h MV0 MV GB B G H σ a x _ fun v o M1 MV1 G1 H1 n1 a1 r ⟨p, fs, e, hM, hl, k⟩ => by
    subst e
    cases r
    obtain ⟨dx, us, _, h2, t⟩ := a1.wf.insM hM
    have hl2 : us.lookup m = none := by
      have : ∀ {us : List (Str × V)} {fs : List (Str × Dt)}, Df K G1 us fs → fs.lookup m = none → us.lookup m = none := by
        intro us fs t
        refine Df.rec (motive_1 := fun _ _ _ => True) (motive_2 := fun _ _ _ => True) (motive_3 := fun us fs _ => fs.lookup m = none → us.lookup m = none) trivial (fun _ => trivial) (fun _ => trivial) (fun _ => trivial) (fun _ => trivial) (fun _ _ _ => trivial) (fun _ _ _ => trivial) (fun _ _ _ => trivial) trivial (fun _ _ _ _ => trivial) (fun h => rfl) (fun {f v vs d ds} _ _ _ ih h => ?_) t
        rw [List.lookup_cons] at h ⊢
        by_cases e : (m == f) = true
        · rw [e] at h; cases h
        · rw [Bool.not_eq_true] at e
          rw [e] at h ⊢
          exact ih h
      exact this t hl
    refine ⟨p, dx, us, rfl, h2, hl2, k MV0 MV1 GB B G1 H1 σ a1 x _ fun vs ss M2 MV2 G2 H2 n2 a2 rs k2 => ?_⟩
    refine ⟨J, M2, MV2, G2, _, R, _, a2.wf, .cons (show Sv1 K (Jt K J MV2 M2) G2 (.ref p) (.d (.ptr p)) from .ptr p) rs, k2, fun v d M3 MV3 G3 H3 n3 w3 rd y => q v d M3 MV3 G3 H3 ((n1.trans n2).trans n3) (a2.thenM n3 w3) rd y, fun C d vs fs M3 MV3 G3 H3 n3 w3 g rf y => ?_⟩
    rcases hE with ⟨hE, hX⟩ | hE
    · exact hE _ _ _ _ (x C d vs fs env MV3 M3 G3 H3 σ (a2.thenM n3 w3) g rf (hX _ _ _ y))
    · exact absurd y (hE _ _ _)
/-- a method of a told instance -/
theorem evm_meth (h : EvM K J M env D ta fun o M1 => ∃ a fs, o = .ptr a ∧ M1 a = some (.ins C fs) ∧ fs.lookup m = none ∧ EaM K J M1 env D t fun ss M2 => W M2 (.d (.ptr a) :: ss) R fun C fs m => D.xc C fs m env) : EvM K J M env D (tMethX C m (CtP K W) (WE D.xw) ta t) R :=
  evm_methG _ (.inl ⟨fun _ _ _ _ z => z, fun _ _ _ z => z⟩) h
theorem evm_meth0 (h : EvM K J M env D ta fun o M1 => ∃ a fs, o = .ptr a ∧ M1 a = some (.ins C fs) ∧ fs.lookup m = none ∧ EaM K J M1 env D t fun ss M2 => W M2 (.d (.ptr a) :: ss) R fun _ _ _ => False) : EvM K J M env D (tMethX C m (CtP K W) (fun _ => E0) ta t) R :=
  evm_methG _ (.inr fun _ _ _ z => z) h
theorem SvA.put {MV MV' : Mh} {M' : Mm} {G : Hp} : ∀ {vs : List V} {ss : List Sl}, SvA K (Jt K J MV M) G vs ss → SvA K (Jt K J MV' M') G vs ss
  | _, _, .nil => .nil
  | _, s :: _, .cons r t => .cons (by cases s <;> first | exact r | exact False.elim r) (SvA.put t)
/-! ### a new instance among the told ones; its __init__ is a def like others -/
theorem evm_make (h : EaM K J M env D t fun ss M1 => ∀ p, M1 p = none → W (updM M1 p (.ins C [])) (.d (.ptr p) :: ss) (fun d M' => d = .non ∧ R (.ptr p) M') fun _ _ _ => False) : EvM K J M env D (tMake C (CtP K W) [] E0 t) R := fun MV0 MV GB B G H σ a x Q q =>
  h MV0 MV GB B G H σ a x _ fun vs ss M1 MV1 G1 H1 n1 a1 rs k => fun y dx hy hdx hne => by
    show CtP K W (.ref y :: (vs ++ [])) _ _ _
    rw [List.append_nil]
    have w1 := a1.wf
    have m2 := w1.newM hdx (.own y)
    have w2 := m2.wf w1
    have hy2 : (upd H1 dx (.own y)) y = none := by rw [upd_ne hne.symm]; exact hy
    have m3 := w2.newM hy2 (.ins C dx [])
    have w3 := m3.wf w2
    have hH0 : MV1 y ≠ none ∨ H1 y = none := .inr hy
    have n3 := nxm_put (ho := .ins C dx []) hH0 ((NxM.of m2).trans (.of m3))
    have hj : y ∉ J.ms := (not_jt.mp (w1.notin hy)).1
    have w4 : Wf (Jt K J (upd MV1 y (.ins C dx [])) (updM M1 y (.ins C []))) G1 (upd (upd H1 dx (.own y)) y (.ins C dx [])) := w3.put hj (w1.free hy) upd_same (.ins .nil)
    have e3 : Same G1 G1 := Same.refl _
    refine ⟨J, _, _, G1, _, _, _, w4, .cons (show Sv1 K (Jt K J _ _) G1 (.ref y) (.d (.ptr y)) from .ptr y) (?_), k y (w1.none_ hy).2, fun v d M4 MV4 G4 H4 n4 w5 rd ⟨ed, kr⟩ => ?_, fun _ _ _ _ _ _ _ _ _ _ _ _ z => z.elim⟩
    · exact rs.put
    · subst ed
      cases rd
      exact ⟨rfl, q (.ref y) (.ptr y) M4 MV4 G4 H4 ((n1.trans n3).trans n4) (a1.thenM (n3.trans n4) w5) (.ptr _) kr⟩
end
/-! ### a def by its body -/
section
variable {P : Program} {w : World} {K : PySem.W.Frag} {mg : Str → Option Value} {base : Heap}
/-- fewer told objects -/
theorem Wf.less {J : Jm} {MV : Mh} {M M' : Mm} {G H : Hp} (w : Wf (Jt K J MV M) G H) (h : ∀ a o, M' a = some o → M a = some o) : Wf (Jt K J (fun a => if (M' a).isSome then MV a else none) M') G H := by
  refine ⟨w.gh, ⟨w.ok.1, fun a ha => ?_, fun a o e => ?_⟩, fun m hm => ?_, w.tr.1, fun a => ?_⟩
  · by_cases z : (M' a).isSome = true
    · simp only [z, if_true] at ha; exact w.ok.2.1 a ha
    · simp only [z] at ha; exact absurd rfl ha
  · by_cases z : (M' a).isSome = true
    · simp only [z, if_true] at e; exact w.ok.2.2 a o e
    · simp only [z] at e; cases e
  · refine w.ms m (hm.elim .inl fun h => .inr ?_)
    by_cases z : (M' m).isSome = true
    · simp only [z, if_true] at h; exact h
    · simp only [z] at h; exact absurd rfl h
  · refine ⟨fun ob e => ?_, fun e => ?_⟩
    · obtain ⟨ho, h1, h2⟩ := (w.tr.2 a).1 ob (h a ob e)
      exact ⟨ho, by simp only [e, Option.isSome_some, if_true]; exact h1, h2⟩
    · simp only [e, Option.isSome_none]; rfl
theorem nxm_less {J : Jm} {MV MV' : Mh} {M0 M : Mm} {M' : Mm} {G H G' H' : Hp} (n : NxM J MV G H MV' G' H') (k : ∀ a, MV a ≠ none → (M' a).isSome = true) : NxM J MV G H (fun a => if (M' a).isSome then MV' a else none) G' H' :=
  ⟨n.gg, n.fr, n.kp, n.th, fun b hb => by
    by_cases z : (M' b).isSome = true
    · simp only [z, if_true] at hb; exact n.dm b hb
    · simp only [z] at hb; exact absurd rfl hb, fun b hb => by
    simp only [k b hb, if_true]; exact n.dk b hb⟩
/-- told at the end: what was told ahead, and no more than wanted -/
def Less (M M' : Mm) (P : Mm → Prop) : Prop := ∃ M2, (∀ a o, M2 a = some o → M' a = some o) ∧ (∀ a, M a ≠ none → M2 a ≠ none) ∧ P M2
theorem less_same {M M' : Mm} {P : Mm → Prop} (h : ∀ a, M a ≠ none → M' a ≠ none) (p : P M') : Less M M' P := ⟨M', fun _ _ e => e, h, p⟩
theorem less_refl {M : Mm} {P : Mm → Prop} (p : P M) : Less M M P := ⟨M, fun _ _ e => e, fun _ h => h, p⟩
theorem ok_ctp {x qual : Str} {st : Stmt} {f : Addr} {fd : FuncData} {N ps : List Str} {k : Nat} {W : FwP} (F : L2.Fun K x qual st f fd) (S : FnScope N ps (defScope st)) (hn : ∀ M ss P PX, W M ss P PX → ss.length = ps.length)
    (hb : ∀ (cdv : Value) (A : Around) (outer : List PySem.Env) (s : Shared) (H : Hp) (E : XK), Room k (A.deeper (envOfC qual (defScope st) s.heap.objs.size f cdv)) →
      ∃ t, PSs (cxOf (L2.CX P w) P w K mg base N qual (defScope st) f cdv A outer s H E) (defBody st) t ∧ ∀ J M ss P PX, W M ss P PX → SvM K J M (startE N ss) t { nx := fun m _ => Less M m (P .non), rt := fun d m => Less M m (P d), xw := fun cls d _ H => E cls d H, xc := fun C fs m _ => Less M m (PX C fs) }) :
    FnOk P w K mg base (L2.CX P w) (k + 1) f fd ps (CtP K W) := by
  refine F.okX S (fun vs H Q E h => ?_) (fun cdv A outer s H vs Q E hr h => ?_)
  · obtain ⟨J, M, MV, G, ss, P, PX, wf, sv, hW, _⟩ := h
    rw [sv.length, hn M ss P PX hW]
  · obtain ⟨J, M, MV, G, ss, P, PX, wf, sv, hW, q, qx⟩ := h
    obtain ⟨t, hp, ht⟩ := hb cdv A outer s H E hr
    refine ⟨t, hp, ?_⟩
    have key : ∀ {MV' : Mh} {M2 : Mm}, (∀ a, M a ≠ none → M2 a ≠ none) → ∀ a, MV a ≠ none → (M2 a).isSome = true := fun {MV' M2} hk a ha => by
      have : M a ≠ none := fun z => ha ((wf.tr.2 a).2 z)
      exact Option.isSome_iff_ne_none.mpr (hk a this)
    refine ht J M ss P PX hW MV MV G H G H (L2.start N vs) ⟨wf, .refl, en_start sv⟩ _ ⟨fun M' MV' e G' H' σ' a ⟨M2, h1, h2, p⟩ => ?_, fun _ _ _ _ _ _ _ x => x.elim, fun _ _ _ _ _ _ _ x => x.elim, fun v d M' MV' G' H' n w' r ⟨M2, h1, h2, p⟩ => ?_, fun C d vs fs e MV' M' G' H' σ' a g r ⟨M2, h1, h2, p⟩ => ?_⟩
    · exact q .non .non M2 _ G' H' (nxm_less (M0 := M) (M := M) a.nx (key (MV' := MV') h2)) (a.wf.less h1) .non p
    · exact q v d M2 _ G' H' (nxm_less (M0 := M) (M := M) n (key (MV' := MV') h2)) (w'.less h1) r p
    · exact qx C d vs fs M2 _ G' H' (nxm_less (M0 := M) (M := M) a.nx (key (MV' := MV') h2)) (a.wf.less h1) g r p
end
end Mv

set_option Elab.async false
set_option linter.all false
set_option maxRecDepth 100000
set_option maxHeartbeats 4000000
namespace Mv
open PySem PySem.Spec PyProof.Rows L2
def Mn : Mm := fun _ => none
def MVn : Mh := fun _ => none
section
variable {K : PySem.W.Frag} {J : Jm} {env : List Sl} {R : Dt → Prop} {te ta tb ti to tk tv : TE} {tr : TA} {D : DE} {ts : TS}
theorem wfN {G H : Hp} (w : Wf J G H) : Wf (Jt K J MVn Mn) G H :=
  ⟨w.gh, ⟨w.ok, fun a h => absurd rfl h, fun a o e => (nomatch e)⟩, fun m hm => w.ms m (hm.elim id fun h => absurd rfl h), w.tr, fun a => ⟨fun ob e => (nomatch e), fun _ => rfl⟩⟩
theorem wfB {MV : Mh} {M : Mm} {G H : Hp} (w : Wf (Jt K J MV M) G H) : Wf J G H := ⟨w.gh, w.ok.1, fun m hm => w.ms m (.inl hm), w.tr.1⟩
theorem SlOk.toM {B G H : Hp} {ov : Option V} {s : Sl} (h : SlOk K J B G H ov s) : SlOk K (Jt K J MVn Mn) B G H ov s := by
  have key : ∀ p, p ∉ J.ms → p ∉ (Jt K J MVn Mn).ms := fun p h => not_jt.mpr ⟨h, rfl⟩
  cases s with
  | no => trivial
  | d x => exact h
  | ml xs => obtain ⟨p, vs, e, hB, hG, hm, r⟩ := h; exact ⟨p, vs, e, hB, hG, key p hm, r⟩
  | hand => exact h
  | hnd => exact h
  | tap => exact h
  | xv a d fs => exact h
  | mi p C fs => obtain ⟨dx, vs, e, hB, hG, hm, r⟩ := h; exact ⟨dx, vs, e, hB, hG, key p hm, r⟩
  | md kvs => obtain ⟨p, vs, e, hB, hG, hm, r⟩ := h; exact ⟨p, vs, e, hB, hG, key p hm, r⟩
theorem SlOk.ofM {MV : Mh} {M : Mm} {B G H : Hp} {ov : Option V} {s : Sl} (h : SlOk K (Jt K J MV M) B G H ov s) : SlOk K J B G H ov s := by
  have key : ∀ p, p ∉ (Jt K J MV M).ms → p ∉ J.ms := fun p h => (not_jt.mp h).1
  cases s with
  | no => trivial
  | d x => exact h
  | ml xs => obtain ⟨p, vs, e, hB, hG, hm, r⟩ := h; exact ⟨p, vs, e, hB, hG, key p hm, r⟩
  | hand => exact h
  | hnd => exact h
  | tap => exact h
  | xv a d fs => exact h
  | mi p C fs => obtain ⟨dx, vs, e, hB, hG, hm, r⟩ := h; exact ⟨dx, vs, e, hB, hG, key p hm, r⟩
  | md kvs => obtain ⟨p, vs, e, hB, hG, hm, r⟩ := h; exact ⟨p, vs, e, hB, hG, key p hm, r⟩
theorem nxN {GB B G H : Hp} (n : Nx J GB B G H) : NxM J MVn GB B MVn G H := ⟨n.gg, n.fr, fun b o e h _ => n.kp b o e h, n.th, fun b h => absurd rfl h, fun b h => h⟩
theorem nxB {MV : Mh} {M : Mm} {GB B G H : Hp} (n : NxM J MVn GB B MV G H) (w : Wf (Jt K J MV M) G H) : Nx J GB B G H := ⟨n.gg, w.gh, n.fr, fun b o e h => n.kp b o e h rfl, n.th, w.ok.1⟩
/-- from here on objects may be told -/
theorem sv_toM (h : SvM K J Mn env ts { nx := fun _ e => D.nx e, rt := fun d _ => D.rt d, bk := fun _ e => D.bk e, ct := fun _ e => D.ct e, xw := D.xw, xc := fun C fs _ e => D.xc C fs e }) : Sv K J env ts D := fun GB B G H σ a E q1 q2 q3 q4 _ q6 => by
  have back : ∀ {M' : Mm} {MV' : Mh} {e : List Sl} {G' H' : Hp} {σ' : L2.St}, AtM K J MVn GB B MV' M' G' H' σ' e → At K J GB B G' H' σ' e := fun a' => ⟨wfB a'.wf, nxB a'.nx a'.wf, ⟨a'.en.len, fun i s hs => let ⟨ov, x, y⟩ := a'.en.ok i s hs; ⟨ov, x, y.ofM⟩, a'.en.ap⟩⟩
  exact h MVn MVn GB B G H σ ⟨wfN a.wf, nxN a.nx, ⟨a.en.len, fun i s hs => let ⟨ov, x, y⟩ := a.en.ok i s hs; ⟨ov, x, y.toM⟩, a.en.ap⟩⟩ E
    ⟨fun M' MV' e G' H' σ' a' x => q1 e G' H' σ' (back a') x, fun M' MV' e G' H' σ' a' x => q2 e G' H' σ' (back a') x, fun M' MV' e G' H' σ' a' x => q3 e G' H' σ' (back a') x, fun v d M' MV' G' H' n w r x => q4 v d G' H' (nxB n w) r x,
      fun C d vs fs e MV' M' G' H' σ' a' g r x => q6 C d vs fs e G' H' σ' (back a') g r x⟩
/-! ### own lists turned round -/
theorem sv_rev {i : Nat} {ns : List Int} (hi : env[i]? = some (.ml (ns.map Dt.int))) (h : D.nx (env.set i (.ml (ns.reverse.map Dt.int)))) : Sv K J env (tDrop (tBM0 K "list" rReverse (tVar i))) D := fun GB B G H σ a E q1 _ _ _ _ _ => by
  obtain ⟨ov, h1, p, vs, h2, hB, hG, hm, hH, r⟩ := a.en.ok i _ hi
  have hs : σ[i]? = some (some (.ref p)) := by rw [h1, h2]
  have := r.ints_inv
  subst this
  refine ⟨.ref p, hs, .inl ⟨rfl, _, .inl (.inl hH)⟩, p, _, rfl, rfl, hH, q1 _ G _ σ ?_ h⟩
  have n2 := a.nx.mut (o' := .lst (ns.map V.int).reverse) hB hG hm hH
  refine ⟨⟨n2.gh, n2.ok, fun m hmm => ⟨(a.wf.ms m hmm).1, ?_⟩, a.wf.tr⟩, n2, ?_⟩
  · rw [upd_ne (ne_memP hm hmm)]; exact (a.wf.ms m hmm).2
  · rw [← List.map_reverse]
    exact a.en.upd1 hi hs Da.ints
end
/-! ### the second kind of hand -/
def W_take1 : Fw := fun ss P => ∃ m : Int, ss = [.hnd, .d (.int m)] ∧ 0 < m ∧ ∀ x : Int, 0 ≤ x → x < m → P (.int x)
def W_asked : FwP := fun M ss P _ => ss = [.hnd] ∧ M = Mn ∧ P (.bl true) Mn
section
variable {P : Program} {w : World} {K : PySem.W.Frag} {mg : Str → Option Value} {base : Heap}
theorem take_ok1 {f : Addr} {fd : FuncData} {qual : Str} {st : Stmt} {N ps : List Str} {k : Nat} (F : L2.Fun K qual qual st f fd) (S : FnScope N ps (defScope st)) (h2 : ps.length = 2)
    (hb : ∀ (cdv : Value) (A : Around) (outer : List PySem.Env) (s : Shared) (H : Hp) (E : XK), Room k (A.deeper (envOfC qual (defScope st) s.heap.objs.size f cdv)) →
      ∃ t, PSs (cxOf CX0 P w K mg base N qual (defScope st) f cdv A outer s H E).nox (defBody st) t ∧
        ∀ (h : Addr) (ns : List Int) (m : Int) (Q : VK), H h = some (.lst (ns.map V.int)) → 0 < m → (ns = [] → Q (.int 0) H) →
          (∀ x : Int, 0 ≤ x → x < m → ns ≠ [] → Q (.int x) (upd H h (.lst (ns.dropLast.map V.int)))) → t { nx := fun _ H' => Q .non H', rt := Q } (L2.start N [.ref h, .int m]) H) :
    FnOk P w K mg base CX0 (k + 1) f fd ps (Ct K W_take1) := by
  refine F.ok S (fun vs H Q E h => ?_) (fun cdv A outer s H vs Q E hr h => ?_)
  · obtain ⟨J, G, ss, P, wf, sv, ⟨m, e, _⟩, _⟩ := h
    rw [sv.length, e, h2]
    rfl
  · obtain ⟨J, G, ss, P, wf, sv, ⟨m, e, hm, hP⟩, q⟩ := h
    obtain ⟨t, hp, ht⟩ := hb cdv A outer s H E hr
    subst e
    cases sv with
    | cons s1 s2 =>
      cases s2 with
      | cons s2 s3 =>
        cases s3
        obtain ⟨h, e1, e2⟩ := s1
        have r2 : Dr K G _ (.int m) := s2
        cases r2
        subst e1
        obtain ⟨ns, a, c⟩ := J.hg _ _ e2 wf.ok
        have hms : h ∈ J.ms := J.hm _ e2
        have hG := (wf.ms h hms).1
        refine ⟨t, hp, ht h ns m Q a hm (fun _ => q _ _ G H wf.nx (.int _) (hP 0 (Int.le_refl _) hm)) fun x h0 h1 hn => q (.int x) (.int x) G _ ?_ (.int x) (hP x h0 h1)⟩
        refine ⟨Same.refl _, fun b o e => ?_, fun b e _ => e, fun b o e hb => ?_, fun b e => ?_, J.hp _ _ _ e2 wf.ok ⟨ns.dropLast, upd_same, by rw [List.length_dropLast]; omega⟩ fun b _ hb => upd_ne hb⟩
        · rw [upd_ne (ne_of_none e hG)]; exact wf.gh b o e
        · rw [upd_ne (fun z => hb (by rw [z]; exact hms))]; exact e
        · by_cases z : b = h
          · subst z; rw [upd_same]; simp
          · rw [upd_ne z]; exact e
/-- a law: try: return asked(hand(script, ..)) except ..: .. -/
theorem ok_lw2 {x qual : Str} {st : Stmt} {f : Addr} {fd : FuncData} {N : List Str} {k : Nat} {W_hand : FwM} {ta : TA} {c : Value} {ts : Addr → Value → Option Addr → TS} (F : L2.Fun K x qual st f fd) (S : FnScope N ["script"] (defScope st))
    (ht : ∀ ns : List Int, ns.length ≤ 63 → Ea K J0 (startE N [.d (.lst (ns.map Dt.int))]) ta fun ss => W_hand ss fun ds => ∃ rs : List Int, ds = rs.map Dt.int ∧ rs.length ≤ 1000)
    (hb : ∀ (cdv : Value) (A : Around) (outer : List PySem.Env) (s : Shared) (H : Hp) (E : XK), Room k (A.deeper (envOfC qual (defScope st) s.heap.objs.size f cdv)) →
      PSs (cxOf CX0 P w K mg base N qual (defScope st) f cdv A outer s H E).nox (defBody st) (fun D σ H => (fun W => tRet (tCallS (CtP K W_asked) (WE W) (tCons (tCall (CtM K W_hand) [] E0 ta) tNil))) (wOnly K c ts (fun _ _ _ _ => False) D) D σ H)) :
    FnOk P w K mg base CX0 (k + 1) f fd ["script"] (spLaw K) := by
  refine F.ok S (fun vs H Q E h => ?_) (fun cdv A outer s H vs Q E hr h => ?_)
  · obtain ⟨a, ns, rfl, _⟩ := h
    rfl
  · obtain ⟨a, ns, rfl, hS, hl, q⟩ := h
    refine ⟨_, hb cdv A outer s H E hr, ?_⟩
    have wf := wf0 H
    have sv : SvA K J0 H [.ref a] [.d (.lst (ns.map Dt.int))] := .cons (show Dr K H (.ref a) (.lst (ns.map Dt.int)) from .lst hS Da.ints) .nil
    refine ht ns hl H H H (L2.start N [.ref a]) wf (en_start sv) _ fun us ss G1 H1 n1 r1 k1 => ?_
    show CtM K W_hand (us ++ []) H1 _ E0
    rw [List.append_nil]
    refine ⟨J0, G1, ss, _, n1.wf wf, r1, k1, fun p ws ds G2 H2 n2 hG hH hp rd ⟨rs, e, hz⟩ => ?_⟩
    subst e
    have := rd.ints_inv
    subst this
    have w2 := n2.wf (n1.wf wf)
    have wj : Wf (Jo p) G2 H2 := ⟨w2.gh, ⟨rs, hp, hz⟩, fun m hm => by
      have : m = p := hm
      subst this
      exact ⟨hG, by rw [hp]; simp⟩, trivial⟩
    refine ⟨Jo p, Mn, MVn, G2, [.hnd], fun d _ => d = .bl true, fun _ _ _ => False, wfN wj, .cons ⟨p, rfl, rfl⟩ .nil, ⟨rfl, rfl, rfl⟩, fun v d M' MV' G' H' _ _ r e => ?_, fun _ _ _ _ _ _ _ _ _ _ _ _ z => z.elim⟩
    subst e
    cases r
    exact q H'
end
/-! ### equality at any depth -/
mutual
def pyD : Dt → PyData
  | .non => .none
  | .bl b => .bool b
  | .int i => .int i
  | .str s => .str s
  | .lst ds => .list (pyDs ds)
  | .tup ds => .tuple (pyDs ds)
  | .ob _ _ => .none
  | .ptr _ => .none
def pyDs : List Dt → List PyData
  | [] => []
  | d :: r => pyD d :: pyDs r
end
mutual
def plainD : Dt → Bool
  | .lst ds => plainDs ds
  | .tup ds => plainDs ds
  | .ob _ _ => false
  | .ptr _ => false
  | _ => true
def plainDs : List Dt → Bool
  | [] => true
  | d :: r => plainD d && plainDs r
end
/-- the program's own equality -/
def eqDD (x y : Dt) : Bool := PyData.eqv (pyD x) (pyD y)
section
variable {K : PySem.W.Frag} {G H : Hp}
mutual
theorem dp_of (e : Same G H) : ∀ {v : V} {d : Dt}, Dr K G v d → plainD d = true → L2.Dp K H v (pyD d)
  | _, .non, r, _ => by cases r; exact .non
  | _, .bl b, r, _ => by cases r; exact .bl b
  | _, .int b, r, _ => by cases r; exact .int b
  | _, .str b, r, _ => by cases r; exact .str b
  | _, .lst ds, r, h => by cases r with | lst s t => exact .lst (same_l e s) (dp_all e t h)
  | _, .tup ds, r, h => by cases r with | tup s t => exact .tup (same_t e s) (dp_all e t h)
  | _, .ob _ _, _, h => by cases h
  | _, .ptr _, _, h => by cases h
theorem dp_all (e : Same G H) : ∀ {vs : List V} {ds : List Dt}, Da K G vs ds → plainDs ds = true → L2.DpAll K H vs (pyDs ds)
  | _, [], r, _ => by cases r; exact .nil
  | _, d :: ds, r, h => by
    cases r with
    | cons r t =>
      have h' : (plainD d && plainDs ds) = true := h
      rw [Bool.and_eq_true] at h'
      exact .cons (dp_of e r h'.1) (dp_all e t h'.2)
end
end
def shapedD (d : Dt) : Bool := plainD d && SeqAt.shaped (pyD d)
section
variable {K : PySem.W.Frag} {J : Jm} {R : Dt → Prop}
theorem o2_eqDD {x y : Dt} (hx : shapedD x = true) (hy : shapedD y = true) (h : R (.bl (eqDD x y))) : O2 K J (rEqD K) x y R := fun G H vx vy w rx ry Q q => by
  have hx := Bool.and_eq_true_iff.mp hx
  have hy := Bool.and_eq_true_iff.mp hy
  exact ⟨_, _, dp_of w.gh rx hx.1, dp_of w.gh ry hy.1, hx.2, hy.2, q _ _ G H w.nx (.bl _) h⟩
theorem o2_neDD {x y : Dt} (hx : shapedD x = true) (hy : shapedD y = true) (h : R (.bl (!eqDD x y))) : O2 K J (rNeD K) x y R := fun G H vx vy w rx ry Q q => by
  have hx := Bool.and_eq_true_iff.mp hx
  have hy := Bool.and_eq_true_iff.mp hy
  exact ⟨_, _, dp_of w.gh rx hx.1, dp_of w.gh ry hy.1, hx.2, hy.2, q _ _ G H w.nx (.bl _) h⟩
end
theorem op_eqDK (K : PySem.W.Frag) {X : Cx} (hu : X.A.units + 64 < cLine) (h : X.K = K := by rfl) : OpR X (compareOp .Eq) (rEqD K) := h ▸ op_eqD hu
theorem op_neDK (K : PySem.W.Frag) {X : Cx} (hu : X.A.units + 64 < cLine) (h : X.K = K := by rfl) : OpR X (compareOp .NotEq) (rNeD K) := h ▸ op_neD hu
theorem ps_fldaugK (K : PySem.W.Frag) {X : Cx} {o value : Expr} {ta tv : TE} {f : Str} {pos tpos : Pos} {op : Operator} {rd : V → V → Hp → VK → Prop} (ha : PE X o ta) (hv : PE X value tv) (hop : InOp X op rd) (hk : X.K = K := by rfl) : PS X (.AugAssign (.Attribute o f tpos) op value pos) (sFldAug K ta tv rd f) := hk ▸ ps_fldaug ha hv hop
theorem pe_bmK (K : PySem.W.Frag) {X : Cx} {o e : Expr} {es : List Expr} {to : TE} {t : TA} {name : Str} {apos cpos : Pos} {T id : String} {r : V → List V → Hp → VK → Prop} (pa : PlainAttrs T) (slot : Slot T name id) (hty : typeOf (.builtin id) = pure (.type "method_descriptor")) (hm : MtR X id r) (ho : PE X o to) (ha : PA X (e :: es) t) (hk : X.K = K := by rfl)
    (hbase : attributeBase o name X.env (eval o X.env) = eval o X.env := by rfl)
    (hfew : ((backTo cpos (starEach (e :: es) X.env)).all (fun x => !x.1) && (backToKw cpos (keywordEach [] X.env)).all (fun x => x.1.isSome)
      && decide ((e :: es).length + ([] : List Keyword).length + (if ([] : List Keyword).isEmpty then 0 else 1) < 30)) = true := by rfl)
    (hline : (apos.endLine == cpos.line) = true := by rfl) (hs : starEach (e :: es) X.env = (false, eval e X.env) :: starEach es X.env := by rfl) (hplain : (backTo cpos (starEach es X.env)).any (·.1) = false := by rfl) :
    PE X (.Call (.Attribute o name apos) (e :: es) [] cpos) (tBM K T r to t) := by subst hk; exact pe_bm pa slot hty hm ho ha hbase hfew hline hs hplain
theorem pe_bm0K (K : PySem.W.Frag) {X : Cx} {o : Expr} {to : TE} {name : Str} {apos cpos : Pos} {T id : String} {r : V → List V → Hp → VK → Prop} (pa : PlainAttrs T) (slot : Slot T name id) (hty : typeOf (.builtin id) = pure (.type "method_descriptor")) (hm : MtR X id r) (ho : PE X o to) (hk : X.K = K := by rfl)
    (hbase : attributeBase o name X.env (eval o X.env) = eval o X.env := by rfl) (hline : (apos.endLine == cpos.line) = true := by rfl) : PE X (.Call (.Attribute o name apos) [] [] cpos) (tBM0 K T r to) := by subst hk; exact pe_bm0 pa slot hty hm ho hbase hline
/-- by keywords, of a def that may raise: lets nothing out -/
structure CalKwX (P : Program) (w : World) (K : PySem.W.Frag) (mg : Str → Option Value) (base : Heap) (k : Nat) (x : Str) (ps ks : List Str) (pi : List Nat) (sp : Sp) : Prop where
  ex : ∃ f fd, FnOk P w K mg base (L2.CX P w) k f fd ps sp ∧ mg x = some (.ref f) ∧ PySem.W.keepIn K (.ref f) = true ∧ KBinds K fd ps ks (kwP pi) (kwP pi)
theorem CalKwX.mono {P : Program} {w : World} {K : PySem.W.Frag} {mg : Str → Option Value} {base : Heap} {j k : Nat} {x : Str} {ps ks : List Str} {pi : List Nat} {sp : Sp} (c : CalKwX P w K mg base j x ps ks pi sp) (h : j ≤ k) : CalKwX P w K mg base k x ps ks pi sp := by
  obtain ⟨f, fd, F, r⟩ := c.ex
  exact ⟨f, fd, F.mono h, r⟩
theorem pe_callKwX {X : Cx} {k : Nat} {x : Str} {ps ks : List Str} {pi : List Nat} {sp : Sp} {p pos : Pos} {kws : List Keyword} {tk : TA} (C : CalKwX X.prog X.w X.K X.mg X.base k x ps ks pi sp) (hr : Room k X.A) (hg : Gl X x)
    (hkw : PK X kws tk) (hall : (backToKw pos (keywordEach kws X.env)).all (·.1.isSome) = true := by rfl) (hks : (backToKw pos (keywordEach kws X.env)).filterMap (·.1) = ks := by rfl) (hdb : (x == ("__debug__" : Str)) = false := by decide)
    (hpl : ((backTo pos (starEach [] X.env)).any (·.1) || (backToKw pos (keywordEach kws X.env)).any (·.1.isNone)) = false := by rfl) : PE X (.Call (.Name x p) [] kws pos) (tCallK sp (kwP pi) E0 tNil tk) := by
  obtain ⟨f, fd, F, hm, hk, hb⟩ := C.ex
  refine ⟨fun pins s σ H Q I h => ?_⟩
  refine wpAny_Call_Name_kw (ld_glob I hg hm ?_ hdb)
  refine PySem.W.callWith_KW0 (h₀ := X.base) I.ok.mod.kin hk hall (thn (hkw.run pos pins s σ H _ I h) fun ws s2 ⟨zs, H2, I2, rz, q2⟩ => ⟨I2.kIn, ?_⟩) hpl
  rw [hks]
  exact run_fnk (us := []) F hr hb passL I2 .nil rz q2
theorem fm_all {α : Type} (ws : List α) : ∀ pi : List Nat, (pi.filterMap fun i => ws[i]?).length = pi.length → ∀ i ∈ pi, i < ws.length
  | [], _, i, hi => by cases hi
  | j :: r, h, i, hi => by
    have hle : (r.filterMap fun i => ws[i]?).length ≤ r.length := List.length_filterMap_le ..
    have hc : (r.filterMap fun i => ws[i]?).length = r.length ∧ j < ws.length := by
      by_cases hj : j < ws.length
      · have e : ((j :: r).filterMap fun i => ws[i]?) = ws[j] :: r.filterMap fun i => ws[i]? := List.filterMap_cons_some (List.getElem?_eq_getElem hj)
        rw [e] at h
        exact ⟨Nat.succ.inj h, hj⟩
      · have e : ((j :: r).filterMap fun i => ws[i]?) = r.filterMap fun i => ws[i]? := List.filterMap_cons_none (List.getElem?_eq_none (Nat.le_of_not_lt hj))
        rw [e] at h
        have h' : (r.filterMap fun i => ws[i]?).length = r.length + 1 := h
        rw [h'] at hle
        exact absurd hle (Nat.not_succ_le_self _)
    rcases List.mem_cons.mp hi with rfl | hi
    · exact hc.2
    · exact fm_all ws r hc.1 i hi
theorem fm_take {α : Type} (ws : List α) (n : Nat) : ∀ pi : List Nat, (∀ i ∈ pi, i < n) → (pi.filterMap fun i => ws[i]?) = pi.filterMap fun i => (ws.take n)[i]?
  | [], _ => rfl
  | j :: r, h => by
    have ih := fm_take ws n r fun i hi => h i (List.mem_cons_of_mem _ hi)
    have e : (ws.take n)[j]? = ws[j]? := by rw [List.getElem?_take, if_pos (h j List.mem_cons_self)]
    cases z : ws[j]? with
    | none => rw [List.filterMap_cons_none z, List.filterMap_cons_none (e.trans z), ih]
    | some v => rw [List.filterMap_cons_some z, List.filterMap_cons_some (e.trans z), ih]
theorem zip_tk {α β : Type} : ∀ (ks : List α) (ws : List β) (n : Nat), ks.length ≤ n → ks.zip ws = ks.zip (ws.take n)
  | [], _, _, _ => rfl
  | _ :: _, [], n, _ => by rw [List.take_nil]
  | _ :: _, _ :: _, 0, h => by cases h
  | k :: ks, w :: ws, n + 1, h => by
    show (k, w) :: ks.zip ws = (k, w) :: ks.zip (ws.take n)
    rw [zip_tk ks ws n (Nat.le_of_succ_le_succ h)]
theorem kbN {K : PySem.W.Frag} {fd : FuncData} {ps ks : List Str} {pi : List Nat} (n : Nat) (h0 : 0 < n) (hp : ps.length = n) (hk : ks.length = n) (hpi : pi.length = n) (hlt : ∀ i ∈ pi, i < n) (hmem : n - 1 ∈ pi)
    (h : ∀ ws : List Value, ws.length = n → bindArgs fd ⟨[], ks.zip ws⟩ = pure (ps.zip (kwP pi [] ws))) : KBinds K fd ps ks (kwP pi) (kwP pi) := by
  refine ⟨fun s us ws _ hl => ?_, fun r rz => kw_rel2 r rz⟩
  cases us with
  | cons u r =>
    have hl' : (0 : Nat) = ps.length := hl
    omega
  | nil =>
    have hl' : (pi.filterMap fun i => ws[i]?).length = ps.length := hl
    have ha := fm_all ws pi (by rw [hl', hp, hpi]) _ hmem
    have hw : n ≤ ws.length := by omega
    have e1 : kwP pi [] ws = kwP pi [] (ws.take n) := fm_take ws n pi hlt
    have e2 : ks.zip ws = ks.zip (ws.take n) := zip_tk _ _ _ (Nat.le_of_eq hk)
    rw [e1, e2]
    exact .of_eq (h _ (by rw [List.length_take]; omega))
end Mv

set_option Elab.async false
set_option linter.all false
set_option maxRecDepth 100000
set_option maxHeartbeats 4000000
namespace Mv
open PySem PySem.Spec PyProof.Rows L2
section
variable {K : PySem.W.Frag} {J : Jm} {M : Mm} {MV : Mh} {env : List Sl} {R : Dt → Prop} {te ta tb ti to tk tv : TE} {tr : TA}
theorem oc_maxP {a : Addr} {ns : List Int} (hM : M a = some (.lst (ns.map Dt.int))) (hne : 0 < ns.length) (h : ∀ m, m ∈ ns → (∀ y ∈ ns, y ≤ m) → R (.int m)) : Oc K (Jt K J MV M) (L2.rMax K) [.ptr a] R := fun G H vs w rs Q q => by
  cases rs with
  | cons r1 r2 =>
    cases r2
    cases r1
    obtain ⟨us, _, h2, t⟩ := w.lstM hM
    have e := t.ints_inv
    subst e
    exact ⟨_, ns, rfl, .inl (.inl h2), hne, fun m hm hy => q _ _ G H w.nx (.int _) (h m hm hy)⟩
theorem oc_sumP {a : Addr} {ns : List Int} (hM : M a = some (.lst (ns.map Dt.int))) (h : R (.int ns.sum)) : Oc K (Jt K J MV M) (rSum K) [.ptr a] R := fun G H vs w rs Q q => by
  cases rs with
  | cons r1 r2 =>
    cases r2
    cases r1
    obtain ⟨us, _, h2, t⟩ := w.lstM hM
    have e := t.ints_inv
    subst e
    exact ⟨_, ns, rfl, .inl (.inl h2), q _ _ G H w.nx (.int _) h⟩
/-- truth of a value -/
theorem et_tru {R : Bool → Prop} (h : Ev K J env te fun x => (∃ ds, (x = .lst ds ∨ x = .tup ds) ∧ R (!ds.isEmpty)) ∨ ∃ i, x = .int i ∧ R (i != 0)) : Et K J env (tTru K te) R := fun B G H σ w E Q q =>
  h B G H σ w E _ fun v x G1 H1 n1 r k => by
    rcases k with ⟨ds, e, k⟩ | ⟨i, e, k⟩
    · rcases e with rfl | rfl
      · cases r with
        | @lst a vs _ s t => exact ⟨_, .inl ⟨vs, same_l n1.gh s, rfl⟩, q _ G1 H1 n1 (by
            have : vs.isEmpty = ds.isEmpty := by cases t <;> rfl
            rw [this]; exact k)⟩
      · cases r with
        | @tup a vs _ s t => exact ⟨_, .inr (.inl ⟨vs, same_t n1.gh s, rfl⟩), q _ G1 H1 n1 (by
            have : vs.isEmpty = ds.isEmpty := by cases t <;> rfl
            rw [this]; exact k)⟩
    · subst e
      cases r
      exact ⟨_, rfl, q _ G1 H1 n1 k⟩
theorem et_truP {R : Bool → Prop} (h : Ev K (Jt K J MV M) env te fun x => ∃ a ds, x = .ptr a ∧ M a = some (.lst ds) ∧ R (!ds.isEmpty)) : Et K (Jt K J MV M) env (tTru K te) R := fun B G H σ w E Q q =>
  h B G H σ w E _ fun v x G1 H1 n1 r ⟨a, ds, e, hM, k⟩ => by
    subst e
    cases r
    obtain ⟨us, _, h2, t⟩ := (n1.wf w).lstM hM
    exact ⟨_, .inl ⟨us, .inl (.inl h2), rfl⟩, q _ G1 H1 n1 (by
      have : us.isEmpty = ds.isEmpty := by cases t <;> rfl
      rw [this]; exact k)⟩
/-- an own list's count of an int -/
theorem ev_countM {i : Nat} {ns : List Int} (hi : env[i]? = some (.ml (ns.map Dt.int))) (h : Ev K J env te fun x => ∃ k, x = .int k ∧ R (.int (ns.count k : Nat))) : Ev K J env (tBM K "list" (rCntI K) (tVar i) (tCons te tNil)) R := fun B G H σ w E Q q => by
  obtain ⟨p, vs, h1, hH, r, hm, hG⟩ := E.lst hi
  refine ⟨.ref p, h1, .inl ⟨rfl, vs, .inl (.inl hH)⟩, h B G H σ w E _ fun v x G1 H1 n1 rx ⟨k, e, kk⟩ => ?_⟩
  subst e
  cases rx
  have := r.ints_inv
  subst this
  exact ⟨p, ns, k, rfl, rfl, .inl (.inl (n1.kp p _ hH hm)), q _ _ G1 H1 n1 (.int _) kk⟩
theorem ev_count {R : Dt → Prop} (h : Ev K J env to fun o => ∃ ns : List Int, o = .lst (ns.map Dt.int) ∧ Ev K J env te fun x => ∃ k, x = .int k ∧ R (.int (ns.count k : Nat))) : Ev K J env (tBM K "list" (rCntI K) to (tCons te tNil)) R := fun B G H σ w E Q q =>
  h B G H σ w E _ fun v o G0 H0 n0 r ⟨ns, e, h⟩ => by
    subst e
    cases r with
    | lst s t =>
      have := t.ints_inv
      subst this
      refine ⟨.inl ⟨rfl, _, same_l n0.gh s⟩, h B G0 H0 σ (n0.wf w) (E.mono n0) _ fun v x G1 H1 n1 rx ⟨k, e, kk⟩ => ?_⟩
      subst e
      cases rx
      exact ⟨_, ns, k, rfl, rfl, same_l (n1.gg.trans n1.gh) s, q _ _ G1 H1 (n0.trans n1) (.int _) kk⟩
end
theorem pt_truK (K : PySem.W.Frag) {X : Cx} {a : Expr} {ta : TE} (ha : PE X a ta) (he : ∀ whole, isTrue a X.env whole = (do let v ← whole; standAt a.pos; holding [v] (truthy v))) (hk : X.K = K := by rfl) : PT X a (tTru K ta) := hk ▸ pt_truth ha he
/-! ### a def of the plain kind in the new layer: by position, letting nothing out -/
section
variable {K : PySem.W.Frag} {J : Jm} {M : Mm} {env : List Sl} {D : DM} {tr : TA}
theorem evm_callC {W : Fw} {R : Dt → Mm → Prop} (h : EaM K J M env D tr fun ss M' => W ss fun d => R d M') : EvM K J M env D (tCall (Ct K W) [] E0 tr) R := fun MV0 MV GB B G H σ a x Q q =>
  h MV0 MV GB B G H σ a x _ fun vs ss M' MV' G' H' n a' rs k => by
    show Ct K W (vs ++ []) H' Q E0
    rw [List.append_nil]
    exact ⟨Jt K J MV' M', G', ss, _, a'.wf, rs, k, fun v d G2 H2 n2 rd y => q v d M' MV' G2 H2 (n.trans (.of n2)) (a'.then n2) rd y⟩
theorem eam_nil {R : List Sl → Mm → Prop} (h : R [] M) : EaM K J M env D tNil R := eam fun MV => ea_nil h
theorem edm_nil {R : List Dt → Mm → Prop} (h : R [] M) : EdM K J M env D tNil R := edm fun MV => ed_nil h
/-- the plain kind that may raise, where it raises nothing -/
theorem ev_callKwX0 {W : FwX} {pi : List Nat} {R : Dt → Prop} {tk : TA} (h : Ea K J env tk fun ss => W (pi.filterMap fun i => ss[i]?) R fun _ _ => False) : Ev K J env (tCallK (CtX K W) (kwP pi) E0 tNil tk) R := fun B G H σ w E Q q =>
  h B G H σ w E _ fun vs ss G1 H1 n1 r k => ⟨J, G1, _, R, _, n1.wf w, sva_kw r, k, fun v d G2 H2 n2 rd x => q v d G2 H2 (n1.trans n2) rd x, fun _ _ _ _ _ _ _ _ _ z => z.elim⟩
end
theorem mt_lcountK (K : PySem.W.Frag) {X : Cx} (h : X.K = K := by rfl) : MtR X "list.count" (rCntI K) := h ▸ mt_lcount
theorem mt_indexK (K : PySem.W.Frag) {X : Cx} (h : X.K = K := by rfl) : MtR X "list.index" (rIndex K) := h ▸ mt_index
end Mv

set_option Elab.async false
set_option linter.all false
set_option maxRecDepth 100000
set_option maxHeartbeats 4000000
namespace Mv
open PySem PySem.Spec PyProof.Rows L2 HT
/-! ### t[::-1] of a tuple -/
section
variable {prog : Program} {w : World} {A : Around} {E : Value → Shared → Prop} {s : Shared}
theorem adjust_rev (n : Nat) : Builtin.Slice.sliceAdjust none none (-1) (n : Int) = ((n : Int) - 1, -1) := by
  unfold Builtin.Slice.sliceAdjust
  simp
theorem places_rev (n : Nat) : Builtin.Slice.slicePlaces ((n : Int) - 1) (-1) (-1) = n := by
  unfold Builtin.Slice.slicePlaces
  simp
  omega
theorem sliceApplied_rev {sl : Addr} {t : Tok} {n : Nat} {Q : Int × Int × Nat → Shared → Prop} (hs : s.heap.IsSliceOf sl .none .none (.int (-1) t))
    (h : Q ((n : Int) - 1, -1, n) s) : wpAny (model prog w) A (Builtin.Slice.sliceApplied (.ref sl) (pure (n : Int))) Q E s := by
  obtain ⟨os, hos, hcs, hds⟩ := id hs
  unfold Builtin.Slice.sliceApplied Builtin.Slice.sliceFields
  refine wpAny_bind (wpAny_bind (wpAny_field hos hds (x := .none) rfl (wpAny_bind (wpAny_field hos hds (x := .none) rfl (wpAny_bind (wpAny_field hos hds (x := .int (-1) t) rfl (wpAny_pure ?_)))))))
  refine wpAny_bind (slicePart_int ?_)
  show wpAny _ _ (if ((-1 : Int) == 0) = true then _ else _) _ _ s
  rw [if_neg (by decide)]
  refine wpAny_bind (slicePart_none (wpAny_bind (slicePart_none (wpAny_bind (wpAny_pure ?_)))))
  show wpAny _ _ (match Builtin.Slice.sliceAdjust none none (-1) (n : Int) with | (lo, hi) => pure (lo, (-1 : Int), Builtin.Slice.slicePlaces lo hi (-1))) _ _ s
  rw [adjust_rev n]
  show wpAny _ _ (pure ((n : Int) - 1, (-1 : Int), Builtin.Slice.slicePlaces ((n : Int) - 1) (-1) (-1))) _ _ s
  rw [places_rev]
  exact wpAny_pure h
theorem pick_rev (xs : Array Value) : ((List.range xs.size).filterMap fun (m : Nat) => xs[((xs.size : Int) - 1 + (m : Int) * -1).toNat]?).toArray = xs.toList.reverse.toArray := by
  congr 1
  have e : ((List.range xs.size).filterMap fun (m : Nat) => xs[((xs.size : Int) - 1 + (m : Int) * -1).toNat]?) = ((List.range xs.size).map fun k => xs.size - 1 - k).filterMap (xs[·]?) := by
    rw [List.filterMap_map]
    refine congrArg (fun f => List.filterMap f (List.range xs.size)) ?_
    funext m
    have : ((xs.size : Int) - 1 + (m : Int) * -1).toNat = xs.size - 1 - m := by omega
    rw [this]
    rfl
  rw [e, PySem.W.krv_range, List.filterMap_reverse, PySem.W.krv_all]
theorem getItem_tuple_rev {t sl : Addr} {tk : Tok} {items : Array Value} {Q : Value → Shared → Prop} (ht : IsTup s.heap t items) (hs : s.heap.IsSliceOf sl .none .none (.int (-1) tk))
    (h : Q (.ref s.heap.objs.size) { s with heap := s.heap.push { cls := .type "tuple", data := .seq items.toList.reverse.toArray } })
    (hsz : items.size ≤ sizeLine) : wpAny (model prog w) A (getItem (.ref t) (.ref sl)) Q E s := by
  have htake : sizeOk (.seq items.toList.reverse.toArray) := by
    show items.toList.reverse.toArray.size ≤ sizeLine
    rw [List.size_toArray, List.length_reverse, Array.length_toList]
    exact hsz
  obtain ⟨os, hos, hcs, hds⟩ := id hs
  have hTs : s.TypeIs (.ref sl) "slice" := ⟨os, hos, hcs⟩
  unfold getItem
  try with_reducible refine wpAny_holding ?_
  first | refine wpAny_bind (wpAny_pure ?_) | skip
  refine wpAny_bind (wpAny_sequenceKey ht.typeIs (by decide) ?_)
  refine wpAny_bind (wpAny_callSpecial?_slot (name := Str.ofString "__getitem__") ht.typeIs PyProof.Rows.slot_tuple_getitem
    (wpAny_call_entry PyProof.Rows.slot_tuple_getitem ht.typeIs entry_tuple_getitem ?_ (args_tuple_getitem _ _)))
  show wpAny _ _ (Builtin.Tuple.tupleItemsOf (.ref t) >>= _) _ _ s
  refine wpAny_bind (tupleItemsOf_ ht ?_)
  refine wpAny_bind (wpAny_typeOf hTs ?_)
  rw [if_pos (by decide)]
  refine wpAny_bind (sliceApplied_rev hs ?_)
  have hno : ¬ ((((items.size : Int) - 1 == 0) && ((-1 : Int) == 1) && (items.size == items.size)) = true) := by
    intro q
    rw [Bool.and_eq_true, Bool.and_eq_true] at q
    exact absurd q.1.2 (by decide)
  show wpAny _ _ (if (((items.size : Int) - 1 == 0) && ((-1 : Int) == 1) && (items.size == items.size)) = true then _ else _) _ _ s
  rw [if_neg hno, pick_rev]
  first
    | exact wpAny_bind (m := Builtin.Tuple.tupleExact _) (wpAny_newObj_type (wpAny_pure ⟨_, rfl, wpAny_pure h⟩) htake)
    | exact wpAny_bind (m := Builtin.Tuple.tupleExact _) (wpAny_newObj_type (wpAny_bind (wpAny_pure (wpAny_pure ⟨_, rfl, wpAny_pure h⟩))) htake)
    | exact wpAny_bind (wpAny_bind (m := Builtin.Tuple.tupleExact _) (wpAny_newObj_type (wpAny_pure (wpAny_pure ⟨_, rfl, wpAny_pure h⟩)) htake))
    | exact wpAny_bind (wpAny_bind (m := Builtin.Tuple.tupleExact _) (wpAny_newObj_type (wpAny_pure ⟨_, rfl, wpAny_pure h⟩) htake))
end
def tRevT (K : PySem.W.Frag) (te : TE) : TE := fun σ H Q => te σ H fun x H1 => ∃ a xs, x = .ref a ∧ SqT K H1 a xs ∧ ∀ p, H1 p = none → Q (.ref p) (upd H1 p (.tup xs.reverse))
theorem pe_revT (K : PySem.W.Frag) {X : Cx} {e : Expr} {te : TE} {k : Nat} {p1 p2 p3 pos : Pos} (he : PE X e te) (hk : X.K = K := by rfl) : PE X (.Subscript e (.Slice none none (some (.UnaryOp .USub (.Constant (.int 1) k p1) p2)) p3) pos) (tRevT K te) := by
  subst hk
  refine ⟨fun pins s σ H Q I h => ?_⟩
  refine Subscript_ (thn (he.run pins s σ H _ I h) fun v s1 ⟨x, H1, I1, r1, q1⟩ => ?_)
  obtain ⟨a, xs, ex, hx, q⟩ := q1
  subst ex
  cases r1
  have hst : PO X (some (.UnaryOp .USub (.Constant (.int 1) k p1) p2)) (tPart (tUn (rU fun i => .int (-i)) (tC (.int 1)))) := po_some (pe_un un_neg pe_int)
  refine wpAny_Slice (thn (po_none.run pins s1 σ H1 (fun o H2 => o = none ∧ H2 = H1) I1 ⟨rfl, rfl⟩) fun vl s2 ⟨l, H2, I2, pl, el, e2⟩ => ?_)
  subst el e2
  refine thn (po_none.run pins s2 σ H2 (fun o H3 => o = none ∧ H3 = H2) I2 ⟨rfl, rfl⟩) fun vu s3 ⟨u, H3, I3, pu, eu, e3⟩ => ?_
  subst eu e3
  refine thn (hst.run pins s3 σ H3 (fun o H4 => o = some (-1) ∧ H4 = H3) I3 ⟨1, rfl, -1, rfl, rfl, rfl⟩) fun vs s4 ⟨o, H4, I4, ps, eo, e4⟩ => ?_
  subst eo e4
  have I5 : Inv X pins σ H4 { s4 with heap := s4.heap.push { cls := .type "slice", data := .fields #[vl, vu, vs] } } := I4.kept (t' := s4.toks) fun b ob q => Heap.get?_push_of_some _ q
  obtain ⟨its, r, ht, hz⟩ := I5.tuple hx
  cases pl
  cases pu
  cases ps with
  | int i t =>
    show wpAny (model X.prog X.w) X.A (subscriptTail e (.Slice none none (some (.UnaryOp .USub (.Constant (.int 1) k p1) p2)) p3) (.ref a) (.ref s4.heap.objs.size)) (EP X pins σ Q) X.xe { s4 with heap := s4.heap.push { cls := .type "slice", data := .fields #[.none, .none, .int (-1) t] } }
    refine tail_any (ops := [.ref a, .ref s4.heap.objs.size]) ht.typeIs PyProof.Rows.slot_tuple_getitem.lookup ?_ (by with_unfolding_all rfl)
    refine getItem_tuple_rev ht (Heap.IsSliceOf.new _ .none .none (.int (-1) t)) ?_ (by rw [List.size_toArray, ← r.length]; exact hz)
    refine ⟨.ref _, _, I5.laid (t' := s4.toks) (o := .tup xs.reverse) (fun b ob q => Heap.get?_push_of_some _ q) (Nat.le_refl _) ?_, rfl, q _ (I5.hok.fresh (Nat.le_refl _))⟩
    exact ⟨by rw [List.length_reverse]; exact hz, _, r.reverse, IsTup.new _ _⟩
section
variable {K : PySem.W.Frag} {J : Jm} {env : List Sl} {R : Dt → Prop} {te : TE}
theorem Da.reverse {G : Hp} : ∀ {vs : List V} {ds : List Dt}, Da K G vs ds → Da K G vs.reverse ds.reverse
  | _, _, .nil => .nil
  | _, _, .cons r t => by
    rw [List.reverse_cons, List.reverse_cons]
    exact (Da.reverse t).append (.cons r .nil)
theorem ev_revT (h : Ev K J env te fun x => ∃ ds, x = .tup ds ∧ R (.tup ds.reverse)) : Ev K J env (tRevT K te) R := fun B G H σ w E Q q =>
  h B G H σ w E _ fun v x G1 H1 n1 r ⟨ds, e, k⟩ => by
    subst e
    cases r with
    | @tup a vs _ s t =>
      refine ⟨a, vs, rfl, same_t n1.gh s, fun p hp => ?_⟩
      have n2 := (n1.wf w).new hp (.tup vs.reverse)
      exact q _ _ _ _ (n1.trans n2) (.tup (.inl (.inl upd_same)) (t.reverse.mono n2.gg)) k
end
end Mv

set_option Elab.async false
set_option linter.all false
set_option maxRecDepth 100000
set_option maxHeartbeats 4000000
namespace Mv
open PySem PySem.Spec PyProof.Rows L2
section
variable {K : PySem.W.Frag} {J : Jm} {env : List Sl} {R : Dt → Prop} {te : TE} {tl th : TO}
theorem sl_listK (K : PySem.W.Frag) {X : Cx} (h : X.K = K := by rfl) : SlR X (rSlL K) := h ▸ sl_list
theorem da_cut {G : Hp} {vs : List V} {ds : List Dt} (t : Da K G vs ds) (lo hi : Option Int) : Da K G (cutV vs lo hi) (cutD ds lo hi) := by
  unfold cutV cutD
  rw [t.length]
  exact (t.drop _).take _
/-- xs[lo:hi] of a list: a new list -/
theorem em_slL {R : List Dt → Prop} (h : Ev K J env te fun x => ∃ xs, x = .lst xs ∧ Ep K J env tl fun lo => Ep K J env th fun hi => R (cutD xs lo hi)) : Em K J env (tSl (rSlL K) te tl th) R := fun B G H σ w E Q q =>
  h B G H σ w E _ fun v x G1 H1 n1 r ⟨xs, e, k⟩ => by
    subst e
    have w1 := n1.wf w
    refine k B G1 H1 σ w1 (E.mono n1) _ fun lo G2 H2 n2 k2 => k2 B G2 H2 σ (n2.wf w1) (E.mono (n1.trans n2)) _ fun hi G3 H3 n3 k3 => ?_
    have n13 := (n1.trans n2).trans n3
    have w3 := n13.wf w
    have r3 := r.mono (n2.gg.trans n3.gg)
    cases r3 with
    | @lst a vs _ s t =>
      refine ⟨a, vs, rfl, same_l w3.gh s, fun p hp => ?_⟩
      refine q p _ _ G3 _ (n13.trans (w3.newM hp _)) (w3.free hp) ?_ upd_same (da_cut t lo hi) k3
      cases z : H p with
      | none => rfl
      | some o => exact absurd hp (n13.th p (by rw [z]; simp))
end
end Mv

set_option Elab.async false
set_option linter.all false
set_option maxRecDepth 100000
set_option maxHeartbeats 4000000
namespace Mv
open PySem PySem.Spec PyProof.Rows L2 PySem.W
/-! ### min(xs, default=d), max(xs, default=d) -/
theorem foldl_mem {α : Type} (f : α → α → α) (hf : ∀ a b, f a b = a ∨ f a b = b) : ∀ (xs : List α) (x : α), xs.foldl f x ∈ x :: xs
  | [], x => by simp
  | y :: r, x => by
    rw [List.foldl_cons]
    have := foldl_mem f hf r (f x y)
    rcases List.mem_cons.mp this with h | h
    · rw [h]
      rcases hf x y with e | e <;> rw [e] <;> simp
    · exact List.mem_cons_of_mem _ (List.mem_cons_of_mem _ h)
def mmD (mx : Bool) (x : PyData) (xs : List PyData) : PyData := if mx then maxD x xs else minD x xs
theorem mm_mem (mx : Bool) (x : PyData) (xs : List PyData) : mmD mx x xs ∈ x :: xs := by
  unfold mmD
  cases mx with
  | true => exact foldl_mem (fun a y => if dataLt a y then y else a) (fun a b => by by_cases h : dataLt a b = true <;> simp [h]) xs x
  | false => exact foldl_mem (fun a y => if dataLt y a then y else a) (fun a b => by by_cases h : dataLt b a = true <;> simp [h]) xs x
def rMMdef (K : PySem.W.Frag) (mx : Bool) : List V → List V → Hp → VK → Prop := fun vs zs H Q => ∃ (a : Addr) (xs : List V) (ds : List PyData) (z : V), vs = [.ref a] ∧ zs = [z] ∧ (SqL K H a xs ∨ SqT K H a xs) ∧ L2.DpAll K H xs ds ∧ AlikeAll ds ∧ PyData.depthAll ds ≤ 50 ∧
  (ds = [] → Q z H) ∧ ∀ (d0 : PyData) (dr : List PyData) (i : Nat) (v : V), ds = d0 :: dr → xs[i]? = some v → ds[i]? = some (mmD mx d0 dr) → Q v H
section
variable {X : Cx}
theorem cr_mmdef (mx : Bool) (hc : X.calm = true) (hu : X.A.units + 64 < cLine) : CallRK X (.builtin (if mx then "max" else "min")) [Str.ofString "default"] (rMMdef X.K mx) := by
  intro pins s σ H vs zs us ws Q I r rz h
  obtain ⟨a, xs, ds, z, rfl, rfl, hs, hd, ha, hdp, h0, h1⟩ := h
  obtain rfl := Vals.ref1 r
  cases rz with
  | cons rz0 rz1 =>
    rename_i w ws'
    cases rz1
    have hh := I.ok.hd hc
    -- the answers, told alike for lists and tuples
    have key : ∀ (its : List Value) (as : List Addr), Vals xs its → ReadsAll s.heap its ds as →
        (ds = [] → ∀ h' tk, (∀ b o, s.heap.get? b = some o → h'.get? b = some o) → EP X pins σ Q w { s with heap := h', toks := tk }) ∧
        (∀ (y : PyData) (ys : List PyData) (i : Nat) v h' tk bs, ds = y :: ys → its.toArray[i]? = some v → Reads h' v (mmD mx y ys) bs → (∀ b o, s.heap.get? b = some o → h'.get? b = some o) → EP X pins σ Q v { s with heap := h', toks := tk }) := by
      intro its as rv hr
      refine ⟨fun e h' tk hk => ⟨z, H, I.kept (t' := tk) hk, rz0, h0 e⟩, fun y ys i v h' tk bs e hv hr2 hk => ?_⟩
      have hv' : its[i]? = some v := by simpa using hv
      have hlx : i < xs.length := by rw [rv.length]; exact (List.getElem?_eq_some_iff.mp hv').1
      obtain ⟨u, hu', rx⟩ := rv.get (List.getElem?_eq_getElem hlx)
      have : u = v := Option.some.inj (hu'.symm.trans hv')
      subst this
      have hx : xs[i]? = some xs[i] := List.getElem?_eq_getElem hlx
      generalize xs[i] = x at hx rx
      obtain ⟨cs, r3, hlt, hmem, _⟩ := readsAll_at hr i u hv'
      have hgd : ds.getD i .none = ds[i] := by rw [List.getD_eq_getElem?_getD, List.getElem?_eq_getElem hlt]; rfl
      have hal := ha.1 _ hmem _ (by rw [e]; exact mm_mem mx y ys)
      have eq : ds.getD i .none = mmD mx y ys := alike_unique _ _ u _ _ hal (Reads.keeps hk r3) hr2
      refine ⟨x, H, I.kept (t' := tk) hk, rx, h1 y ys i x e hx ?_⟩
      rw [List.getElem?_eq_getElem hlt, ← hgd, eq]
    have hdep : X.A.units + 1 + PyData.depthAll ds < cLine := by omega
    rcases hs with hs | hs
    · obtain ⟨its, rv, hl, _⟩ := I.list hs
      obtain ⟨as, hr⟩ := L2.Dp.readsAll I ds xs its hd rv
      obtain ⟨k0, k1⟩ := key its as rv hr
      cases mx with
      | true => exact max_list_default hh hl.isList (by simpa using hr) ha hdep k0 k1
      | false => exact min_list_default hh hl.isList (by simpa using hr) ha hdep k0 k1
    · obtain ⟨its, rv, hl, _⟩ := I.tuple hs
      obtain ⟨as, hr⟩ := L2.Dp.readsAll I ds xs its hd rv
      obtain ⟨k0, k1⟩ := key its as rv hr
      have hlT : s.heap.IsTuple a its.toArray := hl
      cases mx with
      | true => exact max_tuple_default hh hlT (by simpa using hr) ha hdep k0 k1
      | false => exact min_tuple_default hh hlT (by simpa using hr) ha hdep k0 k1
end
end Mv

set_option Elab.async false
set_option linter.all false
set_option maxRecDepth 100000
set_option maxHeartbeats 4000000
/-! Walks over own dicts with int keys; the sum of their values. -/
namespace Mv
open PySem PySem.Spec PyProof.Rows L2
/-- J, and an own dict at p that is only read -/
def Jf (K : PySem.W.Frag) (J : Jm) (p : Addr) (od : Obj) (vs : List (Key × V)) (kvs : List (Int × Dt)) : Jm where
  ms := fun b => b ∈ J.ms ∨ b = p
  ok := fun H => J.ok H ∧ p ∉ J.ms ∧ H p = some (.frz od (.dK vs))
  st := fun H H' ⟨a, b, c⟩ k => ⟨J.st H H' a fun x hx => k x (.inl hx), b, by rw [k p (.inr rfl)]; exact c⟩
  hd := J.hd
  hm := fun k e => .inl (J.hm k e)
  hg := fun k H e o => J.hg k H e o.1
  hp := fun k H H' e ⟨a, b, c⟩ o' q => ⟨J.hp k H H' e a o' fun x hx hn => q x (.inl hx) hn, b, by
    rw [q p (.inr rfl) fun z => b (by rw [z]; exact J.hm k e)]; exact c⟩
  tr := fun G => J.tr G ∧ Dk K G vs kvs
  trm := fun G G' e ⟨a, b⟩ => ⟨J.trm G G' e a, b.mono e⟩
section
variable {K : PySem.W.Frag} {J : Jm} {env : List Sl} {te ta tb tk tv td : TE} {R : Dt → Prop} {D : DE} {t : TS} {p : Addr} {od : Obj} {vs : List (Key × V)} {kvs : List (Int × Dt)} {G H GB B G' H' : Hp} {σ : L2.St}
theorem not_jf {q : Addr} : q ∉ (Jf K J p od vs kvs).ms ↔ q ∉ J.ms ∧ q ≠ p := ⟨fun h => ⟨fun z => h (.inl z), fun z => h (.inr z)⟩, fun h z => z.elim h.1 h.2⟩
/-- d[k] of a dict that is only read -/
theorem ev_fget {i : Nat} (hi : env[i]? = some (.d (.ptr p))) (h : Ev K (Jf K J p od vs kvs) env tk fun k => ∃ n x, k = .int n ∧ getI kvs n = some x ∧ R x) : Ev K (Jf K J p od vs kvs) env (tDGet (tVar i) tk) R := fun B G H σ w E Q q => by
  obtain ⟨v, h1, r⟩ := E.dat hi
  cases r
  refine ⟨.ref p, h1, h B G H σ w E _ fun v k G1 H1 n1 rk ⟨n, x, e, hx, kx⟩ => ?_⟩
  subst e
  cases rk
  have w1 := n1.wf w
  obtain ⟨u, h3, h4⟩ := (w1.tr.2.get (n := n)).1 x hx
  exact ⟨p, u, rfl, .inl ⟨vs, Sum.inl n, .inr ⟨od, n1.ok.2.2⟩, rfl, h3.symm⟩, q u x G1 H1 n1 h4 kx⟩
theorem Dk.at : ∀ {vs : List (Key × V)} {kvs : List (Int × Dt)}, Dk K G vs kvs → ∀ {i : Nat} {k : Key} {v : V}, vs[i]? = some (k, v) → ∃ n x, k = Sum.inl n ∧ kvs[i]? = some (n, x) ∧ Dr K G v x
  | _, _, .cons r t, 0, k, v, e => by
    have e' := Option.some.inj (show some _ = some (k, v) from e)
    cases e'
    exact ⟨_, _, rfl, rfl, r⟩
  | _, _, .cons r t, i + 1, k, v, e => by
    obtain ⟨n, x, a, b, c⟩ := Dk.at t (i := i) (by simpa using e)
    exact ⟨n, x, a, by simpa using b, c⟩
/-- for k in d -/
theorem ei_keysF {i : Nat} {Z : List Dt → Prop} (hi : env[i]? = some (.d (.ptr p))) (h : Z (kvs.map fun kv => .int kv.1)) : Ei K (Jf K J p od vs kvs) env (iKeys (tVar i)) Z := fun B G H σ w E Q q => by
  obtain ⟨v, h1, r⟩ := E.dat hi
  cases r
  refine ⟨.ref p, h1, p, od, rfl, .inl ⟨vs, w.ok.2.2, q _ _ G H w.nx ?_ h⟩⟩
  have wl := walk_keys (d := p) (o := od) (kvs := vs)
  have hl := w.tr.2.length
  refine ⟨fun i G1 H1 sg w1 hi => wl.goes i H1 (by rw [List.length_map] at hi; omega) w1.ok.2.2, fun G1 H1 sg w1 => ?_, fun i G1 H1 x H2 sg w1 hi y => ?_⟩
  · rw [List.length_map, ← hl]
    exact wl.stops H1 w1.ok.2.2
  · obtain ⟨e1, k, v, hk, ex⟩ := wl.yields i H1 x H2 (by rw [List.length_map] at hi; omega) w1.ok.2.2 y
    subst e1
    obtain ⟨n, z, e, hz, _⟩ := w1.tr.2.at hk
    subst e ex
    exact ⟨G1, .int n, w1.nx, by rw [List.getElem?_map, hz]; rfl, .int n⟩
theorem wfF {i : Nat} (w : Wf J G H) (hG : G p = none) (hm : p ∉ J.ms) (hH : H p = some (.dK vs)) (r : Dk K G vs kvs) : Wf (Jf K J p od vs kvs) G (upd H p (.frz od (.dK vs))) := by
  refine ⟨fun b u e => ?_, ⟨J.st H _ w.ok fun b hb => upd_ne (ne_memP hm hb), hm, upd_same⟩, fun m hm' => ?_, w.tr, r⟩
  · rw [upd_ne (ne_of_none e hG)]; exact w.gh b u e
  · rcases hm' with hm' | rfl
    · exact ⟨(w.ms m hm').1, by rw [upd_ne (ne_memP hm hm')]; exact (w.ms m hm').2⟩
    · exact ⟨hG, by rw [upd_same]; simp⟩
theorem sv_lock {i : Nat} (hi : env[i]? = some (.md kvs)) (hu : onlyMd i env = true)
    (h : ∀ p od vs, Sv K (Jf K J p od vs kvs) (env.set i (.d (.ptr p))) t ⟨fun e => e[i]? = some (.d (.ptr p)) ∧ D.nx (e.set i (.md kvs)), fun _ => False, fun _ => False, fun _ => False, fun _ => False, D.xw, fun _ _ _ => False⟩) : Sv K J env (tLock t) D := fun GB B G H σ a E q1 _ _ _ _ _ => by
  obtain ⟨p, vs, h1, hB, hG, hm, hH, r⟩ := a.en.dct hi
  have hil := (List.getElem?_eq_some_iff.mp hi).1
  refine ⟨p, .dK vs, hH, trivial, fun od => ?_⟩
  refine h p od vs GB B G _ σ ⟨wfF (i := i) a.wf hG hm hH r, ⟨a.nx.gg, fun b u e => ?_, fun b e1 e2 => a.nx.fr b e1 e2, fun b o e hb => ?_, fun b hb => ?_, (wfF (i := i) (od := od) a.wf hG hm hH r).ok⟩, ?_⟩ _ (fun e G2 H2 σ2 a2 ⟨ei, k⟩ => ?_) (fun _ _ _ _ _ z => z.elim) (fun _ _ _ _ _ z => z.elim) (fun _ _ _ _ _ _ z => z.elim) (fun _ _ _ _ _ _ _ _ _ _ z => z.elim) (fun _ _ _ _ _ _ _ _ _ _ _ z => z.elim)
  · rw [upd_ne (ne_of_none e hG)]; exact a.wf.gh b u e
  · obtain ⟨hb1, hb2⟩ := not_jf.mp hb
    rw [upd_ne hb2]
    exact a.nx.kp b o e hb1
  · by_cases z : b = p
    · rw [z, upd_same]; simp
    · rw [upd_ne z]; exact a.nx.th b hb
  · refine ⟨by simp [a.en.len], fun j s hs => ?_, fun j l q hne hx hy => ?_⟩
    · by_cases e : i = j
      · subst e
        rw [List.getElem?_set_self hil] at hs
        cases hs
        exact ⟨_, h1, _, rfl, .ptr p⟩
      · rw [List.getElem?_set_ne e] at hs
        obtain ⟨ov, g1, g2⟩ := a.en.ok j s hs
        refine ⟨ov, g1, ?_⟩
        cases s with
        | no => trivial
        | d x => exact g2
        | hand => exact g2
        | hnd => exact g2
        | tap => exact g2
        | xv a d fs => exact g2
        | md kvs' => exact (by have z := onlyMd_ne hu (fun z => e z.symm) hs; cases z)
        | mi q C fs =>
          obtain ⟨dx, us, e3, hB', hG', hm', hH', r'⟩ := g2
          have hne := ne_of hH' hH (by intro z; cases z)
          exact ⟨dx, us, e3, hB', hG', not_jf.mpr ⟨hm', hne⟩, by rw [upd_ne hne]; exact hH', r'⟩
        | ml xs =>
          obtain ⟨q, us, e3, hB', hG', hm', hH', r'⟩ := g2
          have hne := ne_of hH' hH (by intro z; cases z)
          exact ⟨q, us, e3, hB', hG', not_jf.mpr ⟨hm', hne⟩, by rw [upd_ne hne]; exact hH', r'⟩
    · have back : ∀ m : Nat, (∃ xs, (env.set i (.d (.ptr p)))[m]? = some (Sl.ml xs)) → ∃ xs, env[m]? = some (Sl.ml xs) := fun m ⟨xs, hz⟩ => by
        by_cases e : i = m
        · subst e
          rw [List.getElem?_set_self hil] at hz
          cases hz
        · rw [List.getElem?_set_ne e] at hz
          exact ⟨xs, hz⟩
      exact a.en.ap j l q hne (back j hx) (back l hy)
  · have w2 := a2.wf
    have hG2 := (w2.ms p (.inr rfl)).1
    have hH2 := w2.ok.2.2
    refine ⟨hH2, q1 _ G2 _ σ2 ⟨⟨fun b u e => ?_, J.st H2 _ w2.ok.1 fun b hb => upd_ne (ne_memP hm hb), fun m hm' => ?_, w2.tr.1⟩, ⟨a2.nx.gg, fun b u e => ?_, a2.nx.fr, fun b o e hb => ?_, fun b hb => ?_, J.st H2 _ w2.ok.1 fun b hb => upd_ne (ne_memP hm hb)⟩, ⟨by simp [a2.en.len], fun j s hs => ?_, fun j l q hne hx hy => ?_⟩⟩ k⟩
    · rw [upd_ne (ne_of_none e hG2)]; exact w2.gh b u e
    · obtain ⟨m1, m2⟩ := w2.ms m (.inl hm')
      exact ⟨m1, by rw [upd_ne (ne_memP hm hm')]; exact m2⟩
    · rw [upd_ne (ne_of_none e hG2)]; exact w2.gh b u e
    · have hb2 : b ≠ p := fun z => by rw [z, hB] at e; cases e
      rw [upd_ne hb2]
      exact a2.nx.kp b o e (not_jf.mpr ⟨hb, hb2⟩)
    · by_cases z : b = p
      · rw [z, upd_same]; simp
      · rw [upd_ne z]; exact a2.nx.th b hb
    · have hel := (List.getElem?_eq_some_iff.mp ei).1
      by_cases e' : i = j
      · subst e'
        rw [List.getElem?_set_self hel] at hs
        cases hs
        obtain ⟨v, g1, r1⟩ := a2.en.dat ei
        cases r1
        exact ⟨_, g1, p, vs, rfl, hB, hG2, hm, upd_same, w2.tr.2⟩
      · rw [List.getElem?_set_ne e'] at hs
        obtain ⟨ov, g1, g2⟩ := a2.en.ok j s hs
        refine ⟨ov, g1, ?_⟩
        cases s with
        | no => trivial
        | d x => exact g2
        | hand => exact g2
        | hnd => exact g2
        | tap => exact g2
        | xv a d fs => exact g2
        | md kvs' =>
          obtain ⟨q, us, e3, hB', hG', hm', hH', r'⟩ := g2
          obtain ⟨m1, m2⟩ := not_jf.mp hm'
          exact ⟨q, us, e3, hB', hG', m1, by rw [upd_ne m2]; exact hH', r'⟩
        | mi q C fs =>
          obtain ⟨dx, us, e3, hB', hG', hm', hH', r'⟩ := g2
          obtain ⟨m1, m2⟩ := not_jf.mp hm'
          exact ⟨dx, us, e3, hB', hG', m1, by rw [upd_ne m2]; exact hH', r'⟩
        | ml xs =>
          obtain ⟨q, us, e3, hB', hG', hm', hH', r'⟩ := g2
          obtain ⟨m1, m2⟩ := not_jf.mp hm'
          exact ⟨q, us, e3, hB', hG', m1, by rw [upd_ne m2]; exact hH', r'⟩
    · have hel := (List.getElem?_eq_some_iff.mp ei).1
      have back : ∀ m : Nat, (∃ xs, (e.set i (.md kvs))[m]? = some (Sl.ml xs)) → ∃ xs, e[m]? = some (Sl.ml xs) := fun m ⟨xs, hz⟩ => by
        by_cases e' : i = m
        · subst e'
          rw [List.getElem?_set_self hel] at hz
          cases hz
        · rw [List.getElem?_set_ne e'] at hz
          exact ⟨xs, hz⟩
      exact a2.en.ap j l q hne (back j hx) (back l hy)
end
theorem hu1 {n : Nat} (h : n + 64 < cLine) : n + 1 < cLine := by omega
/-! ### sum(d.values()) -/
/-- sum(o.values()), a dict with int values -/
def tSumVals (td : TE) : TE := fun σ H Q => td σ H fun x H1 => ∃ (a : Addr) (kvs : List (Key × V)) (is : List Int), x = V.ref a ∧ H1 a = some (.dK kvs) ∧ kvs.map (·.2) = is.map V.int ∧ Q (.int is.sum) H1
section
variable {X : Cx} {o : Expr} {p pos apos mpos : Pos} {td : TE}
theorem preSum_ints : ∀ (is : List Int) (n : Nat), n ≤ is.length → preSum (fun i => is.getD i 0) n = (is.take n).sum
  | _, 0, _ => rfl
  | is, n + 1, hn => by
    have hx : is[n]? = some is[n] := List.getElem?_eq_getElem hn
    show preSum _ n + is.getD n 0 = _
    rw [preSum_ints is n (Nat.le_of_succ_le hn), List.take_succ, hx, List.sum_append, List.getD_eq_getElem?_getD, hx]
    simp
theorem pe_sumVals (hc : X.calm = true) (hg : Gl X "sum") (hm : X.mg "sum" = none) (hd : PE X o td) (hbase : attributeBase o "values" X.env (eval o X.env) = eval o X.env := by rfl) (hline : (apos.endLine == mpos.line) = true := by rfl)
    (hse : starEach [Expr.Call (.Attribute o "values" apos) [] [] mpos] X.env = [(false, eval (Expr.Call (.Attribute o "values" apos) [] [] mpos) X.env)] := by rfl) :
    PE X (.Call (.Name "sum" p) [.Call (.Attribute o "values" apos) [] [] mpos] [] pos) (tSumVals td) := by
  refine ⟨fun pins s σ H Q I h => ?_⟩
  refine wpAny_Call_Name_kw (ld_blt I hg hm (u := .builtin "sum") (by first | rfl | decide +kernel) ?_ (by first | decide +kernel | decide) (by first | decide +kernel | decide))
  rw [hse]
  refine PySem.callWith_builtin1 (wpAny_Call_method0_late hbase hline (thn (hd.run pins s σ H _ I h) fun v s1 ⟨x, H1, I1, r1, a, kvs, is, ex, ha, hv, q⟩ => ?_))
  subst ex
  obtain rfl : v = Value.ref a := r1
  obtain ⟨_, hsys, vs, rel, dof⟩ := dk_of I1.hok ha
  obtain ⟨ep, dat⟩ := dof.dictAt
  have dat' := dat
  obtain ⟨ob, es, ho, ex, hdat, hko, hpr, hnd⟩ := dat'
  refine ⟨"dict", "dict.values", F.plainAttrs_dict, F.slot_dict_values, F.type_dict_values, ⟨ob, ho, ex.1⟩, fun b e => ?_, Calls.callWith_builtin rfl (PySem.evalArgs_none ?_)⟩
  · cases e
    exact ⟨ob, ho, ex.2.1⟩
  refine call_meetsIn F.slot_dict_values ⟨ob, ho, ex.1⟩ F.entry_dict_values (F.args_dict_values_1 _) (meets_dict_values (mixKind X.prog X.w) a hsys) ⟨⟨vs, dof⟩, ?_⟩
  have k1 : ∀ b u, s1.heap.get? b = some u → (s1.heap.push { cls := .type "dict_values", data := .fields #[.ref a] }).get? b = some u := fun b u e => Heap.get?_push_of_some _ e
  have dat1 : (s1.heap.push { cls := .type "dict_values", data := .fields #[.ref a] }).DictAt (mixKind X.prog X.w) a vs ep := dat.keep k1
  have hlv : vs.length = is.length := by
    have e1 := congrArg List.length hv
    rw [List.length_map, List.length_map] at e1
    rw [← e1]
    exact (KV.length rel).symm
  have hval : ∀ (i : Nat) (v : Value), (∃ k, vs[i]? = some (k, v)) → ∃ t, v = Value.int (is.getD i 0) t := fun i v ⟨k, hk⟩ => by
    obtain ⟨x, h1, h2⟩ := KV.at' rel hk
    have e1 : (kvs.map (·.2))[i]? = some x := by rw [List.getElem?_map, h1] <;> rfl
    rw [hv, List.getElem?_map] at e1
    obtain ⟨j, hj, e2⟩ := Option.map_eq_some_iff.mp e1
    subst e2
    obtain ⟨t, e3⟩ := h2
    refine ⟨t, ?_⟩
    rw [e3, List.getD_eq_getElem?_getD, hj] <;> rfl
  refine call_sum_walkAnyS (wpAny_pyIter_values (v := s1.heap.objs.size) (d := a) ⟨_, Heap.get?_push_size _ rfl, rfl, rfl⟩ dat1 ?_)
  have hlt : a < s1.heap.objs.size := Heap.lt_size ho
  have hsz : (s1.heap.push { cls := .type "dict_values", data := .fields #[.ref a] }).objs.size = s1.heap.objs.size + 1 := Heap.size_push _ _
  refine ⟨_, _, _, _, _, _, _, fun i => is.getD i 0, rfl, (Walks.dictValues (knd := mixKind X.prog X.w) (A := X.A.in1) (I.ok.hd hc) (s1.heap.push { cls := .type "dict_values", data := .fields #[.ref a] }).objs.size a (by rw [hsz]; exact Nat.ne_of_lt (Nat.lt_succ_of_lt hlt)) vs ep).toS,
    ⟨⟨_, Heap.get?_push_size _ rfl, rfl, rfl⟩, dat1.keep fun b u e => Heap.get?_push_of_some _ e⟩, fun b hb => ?_, fun i v hP => hval i v hP, fun s' t' mv => ?_⟩
  · show b < ((s1.heap.push _).push _).objs.size
    rw [Heap.size_push, Heap.size_push]
    rw [hsz] at hb
    rcases List.mem_cons.mp hb with e | hb
    · rw [e]
      exact Nat.lt_succ_self _
    · have e : b = a := List.mem_singleton.mp hb
      rw [e]
      exact Nat.lt_succ_of_lt (Nat.lt_succ_of_lt hlt)
  · have es := Moved.eq_with mv
    rw [es]
    refine ⟨.int _, H1, I1.kept (t' := s'.toks) fun b u e => mv.heap b u (fun hmem => ?_) (Heap.get?_push_of_some _ (k1 b u e)), ⟨t', rfl⟩, ?_⟩
    · have e1 : b = (s1.heap.push { cls := .type "dict_values", data := .fields #[.ref a] }).objs.size := List.mem_singleton.mp hmem
      have e2 := Heap.lt_size e
      rw [hsz] at e1
      rw [e1] at e2
      exact absurd e2 (Nat.not_lt.mpr (Nat.le_succ _))
    · have e1 : preSum (fun i => is.getD i 0) vs.length = is.sum := by
        rw [preSum_ints is _ (by omega), hlv, List.take_length]
      rw [e1]
      exact q
end
section
variable {K : PySem.W.Frag} {J : Jm} {env : List Sl} {R : Dt → Prop}
theorem Dk.ints {G : Hp} : ∀ {vs : List (Key × V)} {ks : List (Int × Int)}, Dk K G vs (ks.map fun x => (x.1, Dt.int x.2)) → vs.map (·.2) = (ks.map (·.2)).map V.int
  | _, [], .nil => rfl
  | _, (k, x) :: ks, .cons r t => by
    cases r
    simp only [List.map_cons]
    rw [Dk.ints t]
theorem ev_sumVals {i : Nat} {ks : List (Int × Int)} (hi : env[i]? = some (.md (ks.map fun x => (x.1, Dt.int x.2)))) (h : R (.int (ks.map (·.2)).sum)) : Ev K J env (tSumVals (tVar i)) R := fun B G H σ w E Q q => by
  obtain ⟨p, vs, h1, _, _, hm, hH, r⟩ := E.dct hi
  exact ⟨.ref p, h1, p, vs, _, rfl, hH, r.ints, q _ _ G H w.nx (.int _) h⟩
end
end Mv

set_option Elab.async false
set_option linter.all false
set_option maxRecDepth 100000
set_option maxHeartbeats 4000000
namespace Mv
open PySem PySem.Spec PyProof.Rows L2 PySem.W
section
variable {K : PySem.W.Frag} {J : Jm} {env : List Sl}
/-- the hand of the second kind handed on -/
theorem ea_hnd {i : Nat} {tr : TA} {R : List Sl → Prop} (hh : env[i]? = some .hnd) (h : Ea K J env tr fun xs => R (.hnd :: xs)) : Ea K J env (tCons (tVar i) tr) R := fun B G H σ w E Q q => by
  obtain ⟨ov, a, hh, b, c⟩ := E.ok i _ hh
  exact ⟨.ref hh, by rw [a, b], h B G H σ w E _ fun vs ds G2 H2 n2 rs x => q _ _ G2 H2 n2 (.cons (show Sv1 K J G2 (.ref hh) .hnd from ⟨hh, rfl, c⟩) rs) x⟩
theorem pyDs_get : ∀ {ds : List Dt} {i : Nat} {y : PyData}, (pyDs ds)[i]? = some y → ∃ d, ds[i]? = some d ∧ y = pyD d
  | d :: r, 0, y, h => ⟨d, rfl, (Option.some.inj h).symm⟩
  | d :: r, i + 1, y, h => by
    obtain ⟨e, h1, h2⟩ := pyDs_get (ds := r) (i := i) (by simpa [pyDs] using h)
    exact ⟨e, by simpa using h1, h2⟩
  | [], i, y, h => by simp [pyDs] at h
/-- min(xs, default=z), max(xs, default=z) -/
theorem ev_mmdef (mx : Bool) {ta tk : TA} {R : Dt → Prop} (h : Ed K J env ta fun ds => ∃ es : List Dt, (ds = [.lst es] ∨ ds = [.tup es]) ∧ plainDs es = true ∧ AlikeAll (pyDs es) ∧ PyData.depthAll (pyDs es) ≤ 50 ∧
    Ed K J env tk fun zs => ∃ z, zs = [z] ∧ (es = [] → R z) ∧ ∀ d r, es = d :: r → ∀ y ∈ es, pyD y = mmD mx (pyD d) (pyDs r) → R y) : Ev K J env (tCKw (rMMdef K mx) ta tk) R := fun B G H σ w E Q q =>
  h B G H σ w E _ fun vs ds G1 H1 n1 r1 ⟨es, he, hp, ha, hd, hk⟩ => hk B G1 H1 σ (n1.wf w) (E.mono n1) _ fun ws zs G2 H2 n2 r2 ⟨z, ez, k0, k1⟩ => by
    subst ez
    have n12 := n1.trans n2
    cases r2 with
    | cons rz rn =>
      cases rn
      have fin : ∀ (a : Addr) (us : List V), (SqL K H2 a us ∨ SqT K H2 a us) → Da K G2 us es → rMMdef K mx [.ref a] [_] H2 Q := fun a us hs t => by
        refine ⟨a, us, pyDs es, _, rfl, rfl, hs, dp_all n2.gh t hp, ha, hd, fun e => ?_, fun d0 dr i v e hv hm => ?_⟩
        · refine q _ _ G2 H2 n12 rz (k0 ?_)
          cases es with
          | nil => rfl
          | cons d r => cases e
        · cases es with
          | nil => cases e
          | cons d r =>
            cases e
            obtain ⟨y, hy, ry⟩ := t.get' hv
            obtain ⟨y', hy', e'⟩ := pyDs_get hm
            rw [hy] at hy'
            cases hy'
            exact q v y G2 H2 n12 ry (k1 _ _ rfl _ (List.mem_of_getElem? hy) e'.symm)
      rcases he with rfl | rfl
      · cases r1 with
        | cons r s =>
          cases s
          cases r with
          | lst s t => exact fin _ _ (.inl (same_l (n2.gg.trans n2.gh) s)) (t.mono n2.gg)
      · cases r1 with
        | cons r s =>
          cases s
          cases r with
          | tup s t => exact fin _ _ (.inr (same_t (n2.gg.trans n2.gh) s)) (t.mono n2.gg)
/-! of whole numbers -/
def mmI (mx : Bool) (n : Int) (r : List Int) : Int := r.foldl (fun a y => if (if mx then a < y else y < a) then y else a) n
theorem mm_ints (mx : Bool) : ∀ (r : List Int) (n : Int), mmD mx (.int n) (r.map PyData.int) = .int (mmI mx n r)
  | [], n => by cases mx <;> rfl
  | y :: r, n => by
    have ih := mm_ints mx r
    have e1 : mmD mx (.int n) ((y :: r).map PyData.int) = mmD mx (if (if mx then dataLt (.int n) (.int y) else dataLt (.int y) (.int n)) = true then .int y else .int n) (r.map PyData.int) := by
      cases mx <;> rfl
    have e2 : (if (if mx then dataLt (.int n) (.int y) else dataLt (.int y) (.int n)) = true then PyData.int y else .int n) = .int (if (if mx then n < y else y < n) then y else n) := by
      cases mx
      · simp only [Bool.false_eq_true, if_false, dataLt_int, decide_eq_true_eq]
        split <;> rfl
      · simp only [if_true, dataLt_int, decide_eq_true_eq]
        split <;> rfl
    rw [e1, e2, ih]
    rfl
theorem pyDs_ints : ∀ l : List Int, pyDs (l.map Dt.int) = l.map PyData.int
  | [] => rfl
  | x :: r => by show pyD _ :: pyDs _ = _; rw [pyDs_ints r]; rfl
theorem plain_ints : ∀ l : List Int, plainDs (l.map Dt.int) = true
  | [] => rfl
  | x :: r => by show (true && plainDs (r.map Dt.int)) = true; rw [plain_ints r]; rfl
theorem depth_ints : ∀ l : List Int, PyData.depthAll (l.map PyData.int) ≤ 50
  | [] => by simp [PyData.depthAll]
  | x :: r => by
    have := depth_ints r
    simp [PyData.depthAll, PyData.depth] at this ⊢
    omega
theorem alike_ints (l : List Int) : AlikeAll (l.map PyData.int) := by
  refine ⟨fun x hx y hy => ?_, fun x hx => ?_⟩
  · obtain ⟨i, _, rfl⟩ := List.mem_map.mp hx
    obtain ⟨j, _, rfl⟩ := List.mem_map.mp hy
    simp [alike]
  · obtain ⟨i, _, rfl⟩ := List.mem_map.mp hx
    exact fun z => by cases z
theorem ev_mmdefI (mx : Bool) {ta tk : TA} {R : Dt → Prop} (h : Ed K J env ta fun ds => ∃ ns : List Int, (ds = [.lst (ns.map Dt.int)] ∨ ds = [.tup (ns.map Dt.int)]) ∧
    Ed K J env tk fun zs => ∃ z, zs = [z] ∧ (ns = [] → R z) ∧ ∀ n r, ns = n :: r → R (.int (mmI mx n r))) : Ev K J env (tCKw (rMMdef K mx) ta tk) R :=
  ev_mmdef mx fun B G H σ w E Q q => h B G H σ w E Q fun vs ds G' H' n rs ⟨ns, e, k⟩ => q vs ds G' H' n rs ⟨_, e, plain_ints ns, by rw [pyDs_ints]; exact alike_ints ns, by rw [pyDs_ints]; exact depth_ints ns,
    fun B G H σ w E Q q => k B G H σ w E Q fun vs zs G' H' n rs ⟨z, ez, k0, k1⟩ => q vs zs G' H' n rs ⟨z, ez, fun z => k0 (by cases ns with | nil => rfl | cons a b => cases z), fun d r er y hy ey => by
      cases ns with
      | nil => cases er
      | cons a b =>
        cases er
        obtain ⟨i, _, rfl⟩ := List.mem_map.mp hy
        rw [pyDs_ints] at ey
        have ey2 : PyData.int i = mmD mx (.int a) (b.map PyData.int) := ey
        rw [mm_ints] at ey2
        cases ey2
        exact k1 a b rfl⟩⟩
/-! of pairs of whole numbers -/
abbrev iiD (p : Int × Int) : Dt := .tup [.int p.1, .int p.2]
def ltP (p q : Int × Int) : Prop := p.1 < q.1 ∨ (p.1 = q.1 ∧ p.2 < q.2)
instance (p q : Int × Int) : Decidable (ltP p q) := inferInstanceAs (Decidable (_ ∨ _))
def minP (n : Int × Int) (r : List (Int × Int)) : Int × Int := r.foldl (fun a y => if ltP y a then y else a) n
def pyP (p : Int × Int) : PyData := .tuple [.int p.1, .int p.2]
theorem mm_pairs : ∀ (r : List (Int × Int)) (n : Int × Int), mmD false (pyP n) (r.map pyP) = pyP (minP n r)
  | [], n => rfl
  | y :: r, n => by
    have ih := mm_pairs r
    have e1 : mmD false (pyP n) ((y :: r).map pyP) = mmD false (if dataLt (pyP y) (pyP n) = true then pyP y else pyP n) (r.map pyP) := rfl
    have e2 : (if dataLt (pyP y) (pyP n) = true then pyP y else pyP n) = pyP (if ltP y n then y else n) := by
      unfold pyP
      rw [dataLt_ii]
      show (if decide (ltP y n) = true then _ else _) = _
      by_cases h : ltP y n
      · rw [if_pos (decide_eq_true h), if_pos h]
      · rw [if_neg (by simpa using h), if_neg h]
    rw [e1, e2, ih]
    rfl
theorem pyDs_pairs : ∀ l : List (Int × Int), pyDs (l.map iiD) = l.map pyP
  | [] => rfl
  | x :: r => by show pyD _ :: pyDs _ = _; rw [pyDs_pairs r]; rfl
theorem plain_pairs : ∀ l : List (Int × Int), plainDs (l.map iiD) = true
  | [] => rfl
  | x :: r => by show (true && plainDs (r.map iiD)) = true; rw [plain_pairs r]; rfl
theorem depth_pairs : ∀ l : List (Int × Int), PyData.depthAll (l.map pyP) ≤ 50
  | [] => by simp [PyData.depthAll]
  | x :: r => by
    have := depth_pairs r
    simp [PyData.depthAll, PyData.depth, pyP] at this ⊢
    omega
theorem alike_pairs (l : List (Int × Int)) : AlikeAll (l.map pyP) := by
  refine ⟨fun x hx y hy => ?_, fun x hx => ?_⟩
  · obtain ⟨i, _, rfl⟩ := List.mem_map.mp hx
    obtain ⟨j, _, rfl⟩ := List.mem_map.mp hy
    simp [alike, alikeAll, pyP]
  · obtain ⟨i, _, rfl⟩ := List.mem_map.mp hx
    exact fun z => by cases z
theorem ev_mindefP {ta tk : TA} {R : Dt → Prop} (h : Ed K J env ta fun ds => ∃ ns : List (Int × Int), (ds = [.lst (ns.map iiD)] ∨ ds = [.tup (ns.map iiD)]) ∧
    Ed K J env tk fun zs => ∃ z, zs = [z] ∧ (ns = [] → R z) ∧ ∀ n r, ns = n :: r → R (iiD (minP n r))) : Ev K J env (tCKw (rMMdef K false) ta tk) R :=
  ev_mmdef false fun B G H σ w E Q q => h B G H σ w E Q fun vs ds G' H' n rs ⟨ns, e, k⟩ => q vs ds G' H' n rs ⟨_, e, plain_pairs ns, by rw [pyDs_pairs]; exact alike_pairs ns, by rw [pyDs_pairs]; exact depth_pairs ns,
    fun B G H σ w E Q q => k B G H σ w E Q fun vs zs G' H' n rs ⟨z, ez, k0, k1⟩ => q vs zs G' H' n rs ⟨z, ez, fun z => k0 (by cases ns with | nil => rfl | cons a b => cases z), fun d r er y hy ey => by
      cases ns with
      | nil => cases er
      | cons a b =>
        cases er
        obtain ⟨i, _, rfl⟩ := List.mem_map.mp hy
        rw [pyDs_pairs] at ey
        have ey2 : pyP i = mmD false (pyP a) (b.map pyP) := ey
        rw [mm_pairs] at ey2
        have e3 : i = minP a b := by
          unfold pyP at ey2
          injection ey2 with e
          injection e with e1 e
          injection e with e2
          injection e1 with e1
          injection e2 with e2
          exact Prod.ext e1 e2
        rw [e3]
        exact k1 a b rfl⟩⟩
end
theorem cr_mmdefK (K : PySem.W.Frag) {X : Cx} (mx : Bool) (hc : X.calm = true) (hu : X.A.units + 64 < cLine) (h : X.K = K := by rfl) : CallRK X (.builtin (if mx then "max" else "min")) [Str.ofString "default"] (rMMdef K mx) := h ▸ cr_mmdef mx hc hu
theorem cr_maxdK (K : PySem.W.Frag) {X : Cx} (hc : X.calm = true) (hu : X.A.units + 64 < cLine) (h : X.K = K := by rfl) : CallRK X (.builtin "max") [Str.ofString "default"] (rMMdef K true) := cr_mmdefK K true hc hu h
theorem cr_mindK (K : PySem.W.Frag) {X : Cx} (hc : X.calm = true) (hu : X.A.units + 64 < cLine) (h : X.K = K := by rfl) : CallRK X (.builtin "min") [Str.ofString "default"] (rMMdef K false) := cr_mmdefK K false hc hu h
end Mv

set_option Elab.async false
set_option linter.all false
set_option maxRecDepth 100000
set_option maxHeartbeats 4000000
/-! for k, v in d.items(), d a dict with tuple keys. -/
namespace L2
open PySem PySem.Spec PyProof.Rows
/-- the pairs of a dict with tuple keys, each a new tuple -/
def Itit (d : Addr) (o : Obj) (kvs : List (List Key × V)) : It :=
  ⟨fun i H => H d = some (.frz o (.dT kvs)) ∧ i < kvs.length, fun i H x H' => ∃ (T q : Addr) (k : List Key) (v : V), kvs[i]? = some (k, v) ∧ x = .ref T ∧ H T = none ∧ H q = some (.tup (k.map kV)) ∧ H' = upd H T (.tup [.ref q, v]), fun i H => H d = some (.frz o (.dT kvs)) ∧ kvs.length ≤ i⟩
section
variable {X : Cx} {pins : List (Addr × Obj)} {σ : St} {H : Hp} {s : Shared} {d : Addr} {o : Obj}
theorem Inv.frzT2 {kvs : List (List Key × V)} (I : Inv X pins σ H s) (h : H d = some (.frz o (.dT kvs))) :
    (d == sysModules) = false ∧ s.heap.get? d = some o ∧ o.ExactDict ∧ ∃ (es : Array DictEntry) (ep : Nat), o.data = .dict es ep ∧ es.size = kvs.length ∧
      ∀ (i : Nat) (k : List Key) (v : V), kvs[i]? = some (k, v) → ∃ (en : DictEntry) (q : Addr), es[i]? = some en ∧ en.key = .ref q ∧ H q = some (.tup (k.map kV)) ∧ RelV v en.val := by
  obtain ⟨hd, z, hs, xs, pr, o', es, ep, ho, hx, hdt, he, _⟩ := I.hok d _ h
  rw [hd] at ho
  cases ho
  refine ⟨hs, hd, hx, es, ep, hdt, ?_, fun i k v e => ?_⟩
  · have l1 : es.size = xs.length := size_of_entries he
    have l2 : kvs.length = xs.length := Paired.length pr
    omega
  · obtain ⟨b, hb, e1, e2, e3⟩ := paired_get pr e
    have q := entry_at he i
    rw [hb] at q
    exact ⟨_, b.2.1, q, rfl, e2, e3⟩
end
section
variable {P : Program} {w : World} {K : PySem.W.Frag} {d : Addr} {o : Obj} {es : Array DictEntry} {ep : Nat}
theorem turn_itemsT {kvs : List (List Key × V)} {elts : List Expr} {kk : Nat} {tpos : Pos} (it : Addr) (hod : o.data = .dict es ep) :
    Turn P w K (.Tuple elts kk tpos) (Itit d o kvs) [it] it (fun i h => ∃ ok ov, IsItemIter h it d i kvs.length ep ok ov) where
  mem := by simp
  obj := fun i h st b hb => by
    have e : b = it := by simpa using hb
    subst e
    obtain ⟨ok, ov, e⟩ := st
    exact ⟨_, e, fun v z => nomatch z⟩
  keep := fun i h h' st k => let ⟨ok, ov, e⟩ := st; ⟨ok, ov, k it (by simp) _ e⟩
  item := by
    intro X hP hw hK hc i pins s σ H E I hf st hg
    subst hP hw hK
    obtain ⟨hd, hi⟩ := hg
    obtain ⟨hs, hgd, hx, es', ep', hdt, hsz, hent⟩ := I.frzT2 hd
    obtain ⟨rfl, rfl⟩ := dict_ep hod hdt
    obtain ⟨⟨k, v⟩, hkv⟩ : ∃ p, kvs[i]? = some p := ⟨kvs[i], List.getElem?_eq_getElem hi⟩
    obtain ⟨en, q, hen, hkey, hq, ru⟩ := hent i k v hkv
    obtain ⟨ok, ov, he⟩ := st
    rw [← hsz] at he
    have hies : i < es'.size := by rw [hsz]; exact hi
    have een : es'[i] = en := Option.some.inj ((Array.getElem?_eq_getElem hies).symm.trans hen)
    have hlt : it < s.heap.objs.size := Heap.lt_size he
    refine DT.nextI he ⟨o, hgd, hx, hdt⟩ hies fun h' ho hT hz hk => ?_
    rw [een, hkey] at ho hT
    refine ⟨_, rfl, wpAny_letOwnedTupleGo_items (s := { s with heap := h' }) ho fun h'' he' sb => ?_⟩
    have hT2 : h''.get? s.heap.objs.size = some { cls := .type "tuple", data := .seq #[.ref q, en.val] } := (sb.2 _ (Nat.ne_of_gt hlt)).trans hT
    have new : ObjOk X.prog X.w (upd H s.heap.objs.size (.tup [.ref q, v])) h'' s.heap.objs.size (.tup [.ref q, v]) :=
      ⟨by show 2 ≤ sizeLine; decide, [.ref q, en.val], .cons (show RelV (.ref q) (.ref q) from rfl) (.cons ru .nil), ⟨_, hT2, rfl, _, rfl⟩⟩
    have I1 : Inv X pins σ (upd H s.heap.objs.size (.tup [.ref q, v])) { s with heap := h'' } :=
      I.turnedNew (t' := s.toks) (ch := [it]) (fun b ob hb e => (sb.2 b (by simpa using hb)).trans (hk b ob (by simpa using hb) e)) hf (Nat.le_refl _) new
    refine ⟨.ref s.heap.objs.size, _, I1, rfl, ⟨_, q, k, v, hkv, rfl, I.hok.fresh (Nat.le_refl _), hq, rfl⟩, ⟨.ref q, en.val, ?_⟩, fun b hb => ?_⟩
    · rw [← hsz]; exact he'
    · have e : b = it := by simpa using hb
      rw [e, upd_ne (Nat.ne_of_lt hlt)]
      exact (hf it (by simp)).1
  done := by
    intro X hP hw hK hc i pins s σ H E I hf st hg
    subst hP hw hK
    obtain ⟨hd, hi⟩ := hg
    obtain ⟨f0, f1, f2, f3, f4, f5⟩ := hf it (by simp)
    obtain ⟨hs, hgd, hx, es', ep', hdt, hsz, hent⟩ := I.frzT2 hd
    obtain ⟨rfl, rfl⟩ := dict_ep hod hdt
    obtain ⟨ok, ov, he⟩ := st
    rw [← hsz] at he
    exact DT.endI (I.ok.hd hc) he ⟨o, hgd, hx, hdt⟩ (by rw [hsz]; exact hi) fun h' eb => ⟨rfl, I.turned (t' := s.toks) (fun b ob hb e => eb b ob hb e) f0 f1 f3 f4 f5⟩
  self := fun A i s Q E st h => let ⟨_, _, e⟩ := st; PySem.W.kcp_self e h
end
/-- the dict is locked -/
def iItemsT (td : TE) : TI := fun σ H R => td σ H fun x H1 => ∃ d o kvs, x = .ref d ∧ H1 d = some (.frz o (.dT kvs)) ∧ R (Itit d o kvs) H1
section
variable {X : Cx} {e : Expr} {td : TE} {apos cpos : Pos}
theorem pi_itemsT {elts : List Expr} {kk : Nat} {tpos : Pos} (he : PE X e td) (hbase : attributeBase e "items" X.env (eval e X.env) = eval e X.env := by rfl) (hline : (apos.endLine == cpos.line) = true := by rfl) :
    PI X (.Tuple elts kk tpos) (.Call (.Attribute e "items" apos) [] [] cpos) (iItemsT td) := by
  refine ⟨fun pins s σ H R I h => ?_⟩
  refine wpAny_Call_method (T := "dict") (id := "dict.items") hbase rfl hline F.plainAttrs_dict F.slot_dict_items F.type_dict_items (thn (he.run pins s σ H _ I h) fun u s1 ⟨x, H1, I1, rx, d, o, kvs, ex, hd, q⟩ => ?_)
  subst ex
  obtain rfl : u = Value.ref d := rx
  obtain ⟨hs, hgd, hx, es, ep, hdt, hsz, hent⟩ := I1.frzT2 hd
  have raw : DT.Raw s1.heap d es ep := ⟨o, hgd, hx, hdt⟩
  refine ⟨raw.typeIs, fun b eb => ⟨o, by cases eb; exact hgd, hx.2.1⟩, ?_⟩
  have I2 : Inv X pins σ H1 { s1 with heap := s1.heap.push { cls := .type "dict_items", data := .fields #[.ref d] } } := I1.kept (t' := s1.toks) fun b ob q => Heap.get?_push_of_some _ q
  have fin : wpAny (model X.prog X.w) X.A (pyIter (.ref s1.heap.objs.size)) (PIE X pins σ (.Tuple elts kk tpos) R) X.xe { s1 with heap := s1.heap.push { cls := .type "dict_items", data := .fields #[.ref d] } } := by
    refine DT.iterI (d := d) ⟨_, Heap.get?_push_size _ rfl, rfl, rfl⟩ (raw.push _) (pi_one (tk := s1.toks) I2 _ (turn_itemsT _ hdt) ⟨.none, .none, ?_⟩ q)
    rw [← hsz]
    exact Heap.get?_push_size _ rfl
  show wpAny _ _ (callWith cpos (.builtin "dict.items") [.ref d] [] []) _ X.xe s1
  exact method_meetsIn F.slot_dict_items F.entry_dict_items rfl (PySem.evalArgs_none ⟨rfl, raw.typeIs, F.args_dict_items_1 _, _, DT.meetsItems (es := es) (ep := ep) hs, raw, fin⟩)
end
end L2

set_option Elab.async false
set_option linter.all false
set_option maxRecDepth 100000
set_option maxHeartbeats 4000000
/-! Told dicts whose keys are pairs of whole numbers. -/
namespace Mv
open PySem PySem.Spec PyProof.Rows L2
def getQ {κ : Type} [DecidableEq κ] (kvs : List (κ × Dt)) (k : κ) : Option Dt := (kvs.find? fun kv => decide (kv.1 = k)).map fun kv => kv.2
def putQ {κ : Type} [DecidableEq κ] (kvs : List (κ × Dt)) (k : κ) (d : Dt) : List (κ × Dt) := if (kvs.any fun kv => decide (kv.1 = k)) = true then kvs.map fun kv => if kv.1 = k then (kv.1, d) else kv else kvs ++ [(k, d)]
section
variable {K : PySem.W.Frag} {G : Hp}
theorem Dq.length {κ : Type} : ∀ {vs : List (κ × V)} {kvs : List (κ × Dt)}, Dq K G vs kvs → vs.length = kvs.length
  | _, _, .nil => rfl
  | _, _, .cons _ t => by rw [List.length_cons, List.length_cons, Dq.length t]
theorem Dq.get {κ : Type} [DecidableEq κ] {n : κ} : ∀ {vs : List (κ × V)} {kvs : List (κ × Dt)}, Dq K G vs kvs → (∀ x, getQ kvs n = some x → ∃ v, valV vs n = some v ∧ Dr K G v x) ∧ (getQ kvs n = none → valV vs n = none)
  | _, _, .nil => ⟨fun x h => (by cases h), fun _ => rfl⟩
  | _, _, .cons (k := k) (v := v) (d := d) r t => by
    have ih := Dq.get (n := n) t
    unfold getQ valV at ih ⊢
    rw [List.find?_cons, List.find?_cons]
    by_cases h : k = n
    · rw [decide_eq_true h]
      exact ⟨fun x hx => (by cases hx; exact ⟨v, rfl, r⟩), fun hx => (by cases hx)⟩
    · rw [decide_eq_false h]
      exact ih
theorem Dq.any {κ : Type} [DecidableEq κ] {n : κ} : ∀ {vs : List (κ × V)} {kvs : List (κ × Dt)}, Dq K G vs kvs → (vs.any fun kv => decide (kv.1 = n)) = kvs.any fun kv => decide (kv.1 = n)
  | _, _, .nil => rfl
  | _, _, .cons r t => by
    rw [List.any_cons, List.any_cons, Dq.any t]
theorem Dq.app {κ : Type} {n : κ} {v : V} {d : Dt} (rd : Dr K G v d) : ∀ {vs : List (κ × V)} {kvs : List (κ × Dt)}, Dq K G vs kvs → Dq K G (vs ++ [(n, v)]) (kvs ++ [(n, d)])
  | _, _, .nil => .cons rd .nil
  | _, _, .cons r t => .cons r (Dq.app rd t)
theorem Dq.upd {κ : Type} [DecidableEq κ] {n : κ} {v : V} {d : Dt} (rd : Dr K G v d) : ∀ {vs : List (κ × V)} {kvs : List (κ × Dt)}, Dq K G vs kvs → Dq K G (vs.map fun kv => if kv.1 = n then (kv.1, v) else kv) (kvs.map fun kv => if kv.1 = n then (kv.1, d) else kv)
  | _, _, .nil => .nil
  | _, _, .cons (k := k) r t => by
    rw [List.map_cons, List.map_cons]
    by_cases h : k = n
    · subst h
      rw [if_pos rfl, if_pos rfl]
      exact .cons rd (Dq.upd rd t)
    · rw [if_neg h, if_neg h]
      exact .cons r (Dq.upd rd t)
theorem Dq.put {κ : Type} [DecidableEq κ] {n : κ} {v : V} {d : Dt} {vs : List (κ × V)} {kvs : List (κ × Dt)} (t : Dq K G vs kvs) (rd : Dr K G v d) : Dq K G (putK vs n v) (putQ kvs n d) := by
  unfold putK putQ
  rw [t.any]
  split
  · exact t.upd rd
  · exact t.app rd
theorem Dq.at {κ : Type} : ∀ {vs : List (κ × V)} {kvs : List (κ × Dt)}, Dq K G vs kvs → ∀ {i : Nat} {k : κ} {v : V}, vs[i]? = some (k, v) → ∃ x, kvs[i]? = some (k, x) ∧ Dr K G v x
  | _, _, .cons r t, 0, k, v, e => by
    have e' := Option.some.inj (show some _ = some (k, v) from e)
    cases e'
    exact ⟨_, rfl, r⟩
  | _, _, .cons r t, i + 1, k, v, e => by
    obtain ⟨x, b, c⟩ := Dq.at t (i := i) (by simpa using e)
    exact ⟨x, by simpa using b, c⟩
end
/-- the key of a pair of whole numbers -/
abbrev k2 (a b : Int) : List Key := [Sum.inl a, Sum.inl b]
section
variable {K : PySem.W.Frag} {J : Jm} {M : Mm} {MV : Mh} {env : List Sl} {D : DM} {te ta tb tv td : TE} {R : Dt → Mm → Prop}
/-- {} -/
theorem evm_dnewT (h : ∀ p, M p = none → R (.ptr p) (updM M p (.dit []))) : EvM K J M env D tDNewT R := fun MV0 MV GB B G H σ a x Q q p hp => by
  have hj : p ∉ J.ms := (not_jt.mp (a.wf.notin hp)).1
  have hM := a.wf.none_ hp
  have n1 := a.wf.newM hp (.dT [])
  have n2 := nxm_put (ho := .dT []) (.inr hp) (NxM.of n1)
  exact q (.ref p) (.ptr p) _ _ G _ n2 (a.thenM n2 ((n1.wf a.wf).put hj (a.wf.free hp) upd_same (.dit .nil))) (.ptr _) (h p hM.2)
/-- a new pair of whole numbers, of which is known how it lies -/
theorem ev_key {R : Dt → Prop} {Q : VK} {B G H : Hp} {σ : L2.St} (w : Wf J G H) (E : En K J B G H σ env) (h : Ev K J env ta fun x => ∃ m, x = .int m ∧ Ev K J env tb fun y => ∃ n, y = .int n ∧ R (.tup [.int m, .int n]))
    (q : ∀ p m n G' H', Nx J G H G' H' → H' p = some (.tup ((k2 m n).map kV)) → R (.tup [.int m, .int n]) → Q (.ref p) H') : tTup (tCons ta (tCons tb tNil)) σ H Q :=
  h B G H σ w E _ fun v x G1 H1 n1 r1 ⟨m, e1, k⟩ => k B G1 H1 σ (n1.wf w) (E.mono n1) _ fun u y G2 H2 n2 r2 ⟨n, e2, k2'⟩ => ⟨by show 2 ≤ sizeLine; decide, fun p hp => by
    subst e1 e2
    cases r1
    cases r2
    have n12 := n1.trans n2
    have n3 := (n12.wf w).new hp (.tup [.int m, .int n])
    exact q p m n _ _ (n12.trans n3) upd_same k2'⟩
/-- d.get((m, n), z) -/
theorem ev_dget2T {R : Dt → Prop} {i : Nat} {p : Addr} {kvs : List (List Key × Dt)} (hi : env[i]? = some (.d (.ptr p))) (hM : M p = some (.dit kvs)) (h : Ev K (Jt K J MV M) env ta fun x => ∃ m, x = .int m ∧ Ev K (Jt K J MV M) env tb fun y => ∃ n, y = .int n ∧ Ev K (Jt K J MV M) env tv fun z => R ((getQ kvs (k2 m n)).getD z)) :
    Ev K (Jt K J MV M) env (tDGet2 (tVar i) (tTup (tCons ta (tCons tb tNil))) tv) R := fun B G H σ w E Q q => by
  obtain ⟨v, h1, r⟩ := E.dat hi
  cases r
  obtain ⟨vs0, hv0, hH0, _⟩ := w.ditM hM
  refine ⟨.ref p, h1, p, rfl, .inr ⟨vs0, .inl hH0⟩, h B G H σ w E _ fun v x G1 H1 n1 r1 ⟨m, e1, k⟩ => k B G1 H1 σ (n1.wf w) (E.mono n1) _ fun u y G2 H2 n2 r2 ⟨n, e2, k2'⟩ => ⟨by show 2 ≤ sizeLine; decide, fun b hb => ?_⟩⟩
  subst e1 e2
  cases r1
  cases r2
  have n12 := n1.trans n2
  have w2 := n12.wf w
  have n3 := w2.new hb (.tup [.int m, .int n])
  have w3 := n3.wf w2
  have E3 := (E.mono n12).mono n3
  refine k2' B _ _ σ w3 E3 _ fun u z G4 H4 n4 rz kx => ?_
  have w4 := n4.wf w3
  obtain ⟨vs, _, hH, rq⟩ := w4.ditM hM
  have hbt : H4 b = some (.tup ((k2 m n).map kV)) := n4.gh _ _ (n4.gg _ _ upd_same)
  have g := rq.get (n := k2 m n)
  have nn := (n12.trans n3).trans n4
  cases e : getQ kvs (k2 m n) with
  | some x =>
    obtain ⟨y, h3, h4⟩ := g.1 x e
    rw [e] at kx
    exact ⟨some y, .inr ⟨vs, k2 m n, b, .inl hH, rfl, hbt, h3.symm⟩, q y x G4 H4 nn h4 kx⟩
  | none =>
    rw [e] at kx
    exact ⟨none, .inr ⟨vs, k2 m n, b, .inl hH, rfl, hbt, (g.2 e).symm⟩, q u z G4 H4 nn rz kx⟩
/-- d[m, n] = e -/
theorem sm_dputT {i : Nat} {p : Addr} {kvs : List (List Key × Dt)} (hi : env[i]? = some (.d (.ptr p))) (hM : M p = some (.dit kvs)) (hz : kvs.length < 100000)
    (h : ∀ MV, Ev K (Jt K J MV M) env tv fun d => Ev K (Jt K J MV M) env ta fun x => ∃ m, x = .int m ∧ Ev K (Jt K J MV M) env tb fun y => ∃ n, y = .int n ∧ D.nx (updM M p (.dit (putQ kvs (k2 m n) d))) env) :
    SvM K J M env (sDPut (tVar i) (tTup (tCons ta (tCons tb tNil))) tv) D := fun MV0 MV GB B G H σ a E r =>
  h MV B G H σ a.wf a.en _ fun v d G1 H1 n1 rd k => by
    have a1 := a.then n1
    obtain ⟨v0, h1, r0⟩ := a1.en.dat hi
    cases r0
    refine ⟨.ref p, h1, k B G1 H1 σ a1.wf a1.en _ fun v1 x G2 H2 n2 r1 ⟨m, e1, k⟩ => k B G2 H2 σ (n2.wf a1.wf) (a1.en.mono n2) _ fun u y G3 H3 n3 r2 ⟨n, e2, kx⟩ => ⟨by show 2 ≤ sizeLine; decide, fun b hb => ?_⟩⟩
    subst e1 e2
    cases r1
    cases r2
    have a3 := (a1.then n2).then n3
    have n4 := a3.wf.new hb (.tup [.int m, .int n])
    have a4 := a3.then n4
    obtain ⟨us, e1, e2, t⟩ := a4.wf.ditM hM
    have n5 := a4.wf.chgN (ho' := .dT (putK us (k2 m n) v)) e1
    refine ⟨p, _, rfl, .inr ⟨us, k2 m n, b, e2, rfl, upd_same, sz_lt (by rw [t.length]; exact hz), rfl⟩, r.nx _ _ env _ _ σ (a4.thenM n5 (a4.wf.chg e1 (.dit (t.put (rd.mono ((n2.gg.trans n3.gg).trans n4.gg)))))) kx⟩
end
end Mv

set_option Elab.async false
set_option linter.all false
set_option maxRecDepth 100000
set_option maxHeartbeats 4000000
/-! [e for (m, n), v in d.items() if ..], d a told dict whose keys are pairs of whole numbers. -/
namespace Mv
open PySem PySem.Spec PyProof.Rows L2
theorem upd_back {H : Hp} {p : Addr} {o u : HO} (h : H p = some o) : upd (upd H p u) p o = H := by
  funext b
  by_cases e : b = p
  · subst e; rw [upd_same, h]
  · rw [upd_ne e, upd_ne e]
/-- the told objects, that at p only read -/
def JfT (K : PySem.W.Frag) (J : Jm) (MV : Mh) (M : Mm) (p : Addr) (od : Obj) (vs : List (List Key × V)) (kvs : List (List Key × Dt)) (hp : p ∈ (Jt K J MV M).ms) : Jm where
  ms := (Jt K J MV M).ms
  ok := fun H => (Jt K J MV M).ok (upd H p (.dT vs)) ∧ H p = some (.frz od (.dT vs))
  st := fun H H' ⟨a, b⟩ k => ⟨(Jt K J MV M).st _ _ a fun x hx => by
    by_cases z : x = p
    · subst z; rw [upd_same, upd_same]
    · rw [upd_ne z, upd_ne z]; exact k x hx, by rw [k p hp]; exact b⟩
  hd := none
  hm := fun k e => nomatch e
  hg := fun k H e => nomatch e
  hp := fun k H H' e => nomatch e
  tr := fun G => (Jt K J MV M).tr G ∧ Dq K G vs kvs
  trm := fun G G' e ⟨a, b⟩ => ⟨(Jt K J MV M).trm G G' e a, b.mono e⟩
def plainE (env : List Sl) : Bool := env.all fun s => match s with
  | .d _ => true
  | .no => true
  | _ => false
section
variable {K : PySem.W.Frag} {J : Jm} {MV : Mh} {M : Mm} {env : List Sl} {te : TE} {tt : TT} {R : List Dt → Prop} {p : Addr} {kvs : List (List Key × Dt)} {od : Obj} {vs : List (List Key × V)} {hp : p ∈ (Jt K J MV M).ms}
theorem En.plain {J1 J2 : Jm} {B G H G' H' : Hp} {σ : L2.St} (E : En K J1 B G H σ env) (h : plainE env = true) (sg : Same G G') : En K J2 B G' H' σ env := by
  refine ⟨E.len, fun i s hs => ?_, fun i j q hne ⟨xs, hx⟩ => ?_⟩
  · obtain ⟨ov, h1, h2⟩ := E.ok i s hs
    refine ⟨ov, h1, ?_⟩
    have := List.all_eq_true.mp h s (List.mem_of_getElem? hs)
    cases s <;> first | exact trivial | (cases this; done) | skip
    obtain ⟨v, e, r⟩ := h2
    exact ⟨v, e, r.mono sg⟩
  · have := List.all_eq_true.mp h _ (List.mem_of_getElem? hx)
    cases this
theorem em_lockT (hpl : plainE env = true) (hM : M p = some (.dit kvs)) (h : ∀ od vs hp, Em K (JfT K J MV M p od vs kvs hp) env te R) : Em K (Jt K J MV M) env (tLockE te) R := fun B G H σ w E Q q => by
  obtain ⟨vs, hv, hH, rq⟩ := w.ditM hM
  have hp : p ∈ (Jt K J MV M).ms := .inr (by rw [hv]; simp)
  have hG := (w.ms p hp).1
  refine ⟨p, .dT vs, hH, trivial, fun od => ?_⟩
  have w' : Wf (JfT K J MV M p od vs kvs hp) G (upd H p (.frz od (.dT vs))) := by
    refine ⟨fun b u e => ?_, ⟨by rw [upd_back hH]; exact w.ok, upd_same⟩, fun m hm => ⟨(w.ms m hm).1, ?_⟩, w.tr, rq⟩
    · rw [upd_ne (ne_of_none e hG)]; exact w.gh b u e
    · by_cases z : m = p
      · subst z; rw [upd_same]; simp
      · rw [upd_ne z]; exact (w.ms m hm).2
  refine h od vs hp B G _ σ w' (E.plain hpl (Same.refl _)) _ fun p' vs' ds G' H' n hG' hH0 hH' r k => ?_
  have hpG : G' p = none := n.fr p hG (by rw [upd_same]; simp)
  have hne : p' ≠ p := fun z => by
    have := n.ok.2
    rw [← z, hH'] at this
    cases this
  refine ⟨n.ok.2, q p' vs' ds G' _ ⟨n.gg, fun b u e => ?_, fun b h1 h2 => n.fr b h1 ?_, fun b o e hb => ?_, fun b hb => ?_, n.ok.1⟩ hG' ?_ (by rw [upd_ne hne]; exact hH') r k⟩
  · rw [upd_ne (ne_of_none e hpG)]; exact n.gh b u e
  · by_cases z : b = p
    · subst z; rw [upd_same]; simp
    · rw [upd_ne z]; exact h2
  · have z : b ≠ p := fun z => hb (by rw [z]; exact hp)
    rw [upd_ne z]
    exact n.kp b o (by rw [upd_ne z]; exact e) hb
  · by_cases z : b = p
    · subst z; rw [upd_same]; simp
    · rw [upd_ne z]
      exact n.th b (by rw [upd_ne z]; exact hb)
  · rw [upd_ne hne] at hH0
    exact hH0
theorem em_lcT {i a b c : Nat} {ws : List Nat} (hi : env[i]? = some (.d (.ptr p))) (ha : a ∈ ws) (hb : b ∈ ws) (hc : c ∈ ws) (hk : ∀ q ∈ kvs, ∃ m n, q.1 = k2 m n) (hz : kvs.length ≤ 100000)
    (h : ∃ Iv : Nat → List Dt → Prop, Iv 0 [] ∧
      (∀ k m n d acc, kvs[k]? = some (k2 m n, d) → acc.length ≤ k → Iv k acc → Et K (JfT K J MV M p od vs kvs hp) ((((wipeE env ws).set a (.d (.int m))).set b (.d (.int n))).set c (.d d)) tt fun bo =>
        (bo = true → Ev K (JfT K J MV M p od vs kvs hp) ((((wipeE env ws).set a (.d (.int m))).set b (.d (.int n))).set c (.d d)) te fun y => Iv (k + 1) (acc ++ [y])) ∧ (bo = false → Iv (k + 1) acc)) ∧
      ∀ acc, acc.length ≤ kvs.length → Iv kvs.length acc → R acc) :
    Em K (JfT K J MV M p od vs kvs hp) env (tLc (iItemsT (tVar i)) (gTup K 2 (gCons (gTup K 2 (gCons (gName a) (gCons (gName b) gNil))) (gCons (gName c) gNil))) tt te ws) R := fun B G1 H1 σ w1 E1 Q q => by
  obtain ⟨v, h1, r⟩ := E1.dat hi
  cases r
  obtain ⟨Iv, h0, hs, hd⟩ := h
  refine ⟨.ref p, h1, p, od, vs, rfl, w1.ok.2, ?_⟩
  intro Dl hDl
  have hlen := w1.tr.2.length
  have hn : Dl ∉ (JfT K J MV M p od vs kvs hp).ms := w1.notin hDl
  have n0 := w1.newM hDl (.lst [])
  refine ⟨fun i m H' => m = kvs.length - i ∧ i ≤ kvs.length ∧ ∃ G' xs acc, Nx (JfT K J MV M p od vs kvs hp) G1 H1 G' H' ∧ G' Dl = none ∧ H' Dl = some (.lst xs) ∧ Da K G' xs acc ∧ acc.length ≤ i ∧ Iv i acc,
    ⟨kvs.length, by simp, Nat.zero_le _, G1, [], [], n0, w1.free hDl, upd_same, .nil, Nat.le_refl _, h0⟩, ?_⟩
  rintro i m H' ⟨rfl, hi, G', xs, acc, n, hG, hH, r, hl, pI⟩
  have w' := n.wf w1
  by_cases hlt : i < kvs.length
  · refine .inr ⟨⟨w'.ok.2, by omega⟩, fun H2 => ∃ G2 xs2 acc2, Nx (JfT K J MV M p od vs kvs hp) G1 H1 G2 H2 ∧ G2 Dl = none ∧ H2 Dl = some (.lst xs2) ∧ Da K G2 xs2 acc2 ∧ acc2.length ≤ i + 1 ∧ Iv (i + 1) acc2,
      fun H2 ⟨G2, xs2, acc2, a, b, c, d, e, f⟩ => ⟨kvs.length - (i + 1), by omega, rfl, hlt, G2, xs2, acc2, a, b, c, d, e, f⟩, fun x H2 y => ?_⟩
    obtain ⟨T, qa, k, v, hv, rfl, hT, hq, rfl⟩ := y
    obtain ⟨d, hkd, rv⟩ := w'.tr.2.at hv
    obtain ⟨mm, nn, ek⟩ := hk _ (List.mem_of_getElem? hkd)
    have ek : k = k2 mm nn := ek
    subst ek
    have n2 := w'.new hT (.tup [.ref qa, v])
    have n02 := n.trans n2
    have w2 := n2.wf w'
    have hqT : qa ≠ T := fun z => by rw [z, hT] at hq; cases hq
    have hq2 : (upd H' T (.tup [.ref qa, v])) qa = some (.tup [V.int mm, V.int nn]) := by rw [upd_ne hqT]; exact hq
    have E3 : En K (JfT K J MV M p od vs kvs hp) B (upd G' T (.tup [.ref qa, v])) (upd H' T (.tup [.ref qa, v])) ((((wipe σ ws).set a (some (.int mm))).set b (some (.int nn))).set c (some v)) ((((wipeE env ws).set a (.d (.int mm))).set b (.d (.int nn))).set c (.d d)) :=
      ((((E1.mono n02).wipe ws).setD (.int mm)).setD (.int nn)).setD (rv.mono n2.gg)
    refine ⟨T, [.ref qa, v], rfl, .inl (.inl upd_same), rfl, .ref qa, [v], rfl, ⟨qa, [V.int mm, V.int nn], rfl, .inl (.inl hq2), rfl, .int mm, [.int nn], rfl, .int nn, [], rfl, rfl, v, [], rfl, rfl, ?_⟩⟩
    refine ⟨wipe_eq (by simp) fun j hj => ?_, ?_⟩
    · rw [List.getElem?_set_ne (fun z => hj (by rw [← z]; exact hc)), List.getElem?_set_ne (fun z => hj (by rw [← z]; exact hb)), List.getElem?_set_ne (fun z => hj (by rw [← z]; exact ha))]
    refine hs i mm nn d acc hkd hl pI B _ _ _ w2 E3 _ fun bo G3 H3 n3 k => ?_
    have hG2 := n2.fr Dl hG (by rw [hH]; simp)
    have hH2 := n2.kp Dl _ hH hn
    have hG3 := n3.fr Dl hG2 (by rw [hH2]; simp)
    have hH3 := n3.kp Dl _ hH2 hn
    have w3 := n3.wf w2
    cases bo with
    | false => exact ⟨G3, xs, acc, n02.trans n3, hG3, hH3, (r.mono n2.gg).mono n3.gg, by omega, k.2 rfl⟩
    | true =>
      refine k.1 rfl B G3 H3 _ w3 (E3.mono n3) _ fun yv yd G4 H4 n4 ry ky => ?_
      have hG4 := n4.fr Dl hG3 (by rw [hH3]; simp)
      have hH4 := n4.kp Dl _ hH3 hn
      have n04 := (n02.trans n3).trans n4
      have n5 := n04.mut (o' := .lst (xs ++ [yv])) hDl hG4 hn hH4
      refine ⟨xs, hH4, sz_lt (by rw [r.length]; omega), G4, xs ++ [yv], acc ++ [yd], n5, hG4, upd_same, (((r.mono n2.gg).mono n3.gg).mono n4.gg).append (.cons ry .nil), by simp; omega, ky⟩
  · have e' : i = kvs.length := by omega
    subst e'
    exact .inl ⟨⟨w'.ok.2, by omega⟩, q Dl xs acc G' H' n hG (by
      cases z : H1 Dl with
      | none => rfl
      | some o => exact absurd hDl (by rw [z]; simp)) hH r (hd acc hl pI)⟩
end
end Mv

set_option Elab.async false
set_option linter.all false
set_option maxRecDepth 100000
set_option maxHeartbeats 4000000
/-! sorted(t), max(t), t a tuple of whole numbers. -/
namespace SrtO
open PySem PySem.Spec PyProof.Rows
open Sem (wp)
section
variable {prog : Program} {w : World} {A : Around} {E : Value → Shared → Prop} {s : Shared}
theorem collect_tuple {l : Addr} {vs : List Value} {Q : List Value → Shared → Prop} (hl : s.heap.IsTuple l vs.toArray)
    (h : Q vs { s with heap := (s.heap.push (seqObj "list" #[] 0)).update s.heap.objs.size (Obj.mapSeq (· ++ vs.toArray)) }) (hsz : vs.length ≤ sizeLine) :
    wpAny (model prog w) A (collect (.ref l)) Q E s := by
  obtain ⟨o, ho, hc, n, hd⟩ := id hl
  unfold collect
  refine wpAny_bind (wpAny_runValue (codeAny_builtin entry_proto_collect' ?_))
  show wpAny _ _ (do again (.builtin "list.__iadd__" ⟨[← newList [], .ref l], []⟩)) _ _ s
  refine wpAny_bind (wpAny_newList (wpAny_pure ⟨Code.quiet_builtin _ (by decide +kernel), codeAny_builtin entry_list_iadd' ?_⟩))
  show wpAny _ _ (Builtin.List.listExtendWith (.ref s.heap.objs.size) (.ref l) (.ref s.heap.objs.size)) _ _ { s with heap := s.heap.push (seqObj "list" #[] 0) }
  unfold Builtin.List.listExtendWith
  have ho' : (s.heap.push (seqObj "list" #[] 0)).get? l = some o := Heap.get?_push_of_some _ ho
  refine wpAny_bind (wpAny_typeOf (T := "tuple") ⟨o, ho', hc⟩ ?_)
  have ht : (Value.type "tuple" == Value.type "tuple") = true := by rfl
  rw [if_pos (by rw [ht]; simp)]
  refine wpAny_bind (listItems_at ho' hd ?_)
  refine wpAny_bind (listItems_at (xs := #[]) (n := 0) (Heap.get?_push_size _ rfl) rfl ?_)
  rw [if_neg (by simp)]
  refine wpAny_bind (listUpdate_at (xs := #[]) (n := 0) (Heap.get?_push_size _ rfl) rfl ?_ (Nat.zero_le _) (by show (#[] ++ vs.toArray).size ≤ sizeLine + 1; simp only [Array.size_append, List.size_toArray, List.length_nil]; omega))
  refine wpAny_pure ?_
  show wpAny (model prog w) A (do
      let o ← load s.heap.objs.size
      match o.data with
      | .seq xs _ => pure xs.toList
      | _ => unsupported "internal:collect") Q E { s with heap := (s.heap.push (seqObj "list" #[] 0)).update s.heap.objs.size (Obj.mapSeq (· ++ vs.toArray)) }
  refine wpAny_bind (wpAny_load (get?_update_seq (Heap.get?_push_size _ rfl) _) ?_)
  show wpAny _ _ (pure ((#[] : Array Value) ++ vs.toArray).toList) Q E _
  rw [show ((#[] : Array Value) ++ vs.toArray).toList = vs by simp]
  exact wpAny_pure h
theorem sorted_ordT {l : Addr} {vs : List Value} {ltv : Value → Value → Bool} {Q : Value → Shared → Prop} (O : Swo ltv) (hl : s.heap.IsTuple l vs.toArray) (hz : vs.length ≤ sizeLine)
    (hS : 2 ≤ vs.length → ∀ (h₁ : Heap) (a : Addr), h₁.get? a = some (seqObj "list" vs.toArray 0) → (∀ b o, s.heap.get? b = some o → b ≠ a ∧ h₁.get? b = some o) → SortableO prog w A.in1.in1 { s with heap := h₁ } a vs ltv)
    (h : ∀ out : List Value, Srtd ltv out → Stb ltv out vs → Q (.ref (s.heap.objs.size + 1)) { s with heap := sortedAll s.heap vs out.toArray }) :
    wpAny (model prog w) A (call (.builtin "sorted") [.ref l]) Q E s := by
  refine Calls.call_function_entry kind_sorted plain_sorted entry_sorted (args_sorted1 _) ?_
  unfold Builtin.«sorted»
  refine wpAny_bind (m := checkCount "sorted" 1 1 _) (wpAny_pure ?_)
  refine wpAny_bind (collect_tuple hl ?_ hz)
  refine wpAny_bind (wpAny_newList ?_ hz)
  have hsz : ((s.heap.push (seqObj "list" #[] 0)).update s.heap.objs.size (Obj.mapSeq (· ++ vs.toArray))).objs.size = s.heap.objs.size + 1 := by
    rw [Heap.size_update, size_push']
  have hoL : (((s.heap.push (seqObj "list" #[] 0)).update s.heap.objs.size (Obj.mapSeq (· ++ vs.toArray))).push (seqObj "list" vs.toArray 0)).get? (s.heap.objs.size + 1) = some (seqObj "list" vs.toArray 0) := by
    rw [← hsz]; exact Heap.get?_push_size _ rfl
  have keep : ∀ b o, s.heap.get? b = some o → b ≠ s.heap.objs.size + 1 ∧ (((s.heap.push (seqObj "list" #[] 0)).update s.heap.objs.size (Obj.mapSeq (· ++ vs.toArray))).push (seqObj "list" vs.toArray 0)).get? b = some o := fun b o q => by
    have hlt : b < s.heap.objs.size := Heap.lt_size q
    refine ⟨Nat.ne_of_lt (Nat.lt_succ_of_lt hlt), Heap.get?_push_of_some _ ?_⟩
    rw [Heap.get?_update_ne _ _ _ _ (Nat.ne_of_lt hlt)]
    exact Heap.get?_push_of_some _ q
  show wpAny _ _ _ _ _ { s with heap := ((s.heap.push (seqObj "list" #[] 0)).update s.heap.objs.size (Obj.mapSeq (· ++ vs.toArray))).push (seqObj "list" vs.toArray 0) }
  rw [hsz]
  refine wpAny_bind (wpAny_holding (wpAny_call_entry slot_list_sort ⟨_, hoL, rfl⟩ entry_list_sort (list_sort_ord O hoL hz (fun h2 => hS h2 _ _ hoL keep) fun out hs hb => ⟨_, rfl, ?_⟩) (args_list_sort _)))
  exact wpAny_pure ⟨_, rfl, h out hs hb⟩
end
end SrtO
namespace L2
open PySem PySem.Spec PyProof.Rows
/-- sorted(xs), a list or a tuple of whole numbers -/
def rSorted2 (K : PySem.W.Frag) : List V → Hp → VK → Prop := fun vs H Q => ∃ (a : Addr) (ns : List Int), vs = [V.ref a] ∧ (SqL K H a (ns.map V.int) ∨ SqT K H a (ns.map V.int)) ∧
  ∀ (ns' : List Int) (p : Addr), ns'.Perm ns → ns'.Pairwise (· ≤ ·) → H p = none → Q (.ref p) (upd H p (.lst (ns'.map V.int)))
section
variable {X : Cx}
theorem cr_sorted2 : CallR X (.builtin "sorted") (rSorted2 X.K) := by
  intro pins s σ H vs us Q I r h
  obtain ⟨a, ns, rfl, hs, q⟩ := h
  rcases hs with hs | hs
  · exact cr_sortedI pins s σ H _ us Q I r ⟨a, ns, rfl, hs, q⟩
  · obtain ⟨its, rv, hl, hz⟩ := I.tuple hs
    rw [Vals.ref1 r]
    have hi := rv.ints
    have hl' : s.heap.IsTuple a its.toArray := hl
    refine SrtO.sorted_ordT SrtO.swo_int hl' (by rw [← rv.length]; exact hz) (fun h2 h₁ a' _ _ => SrtO.ints_sortable hi h2) fun out h1 h2 => ?_
    obtain ⟨k1, k2, k3⟩ := SrtO.ints_out hi h1 h2
    obtain ⟨ep, he'⟩ := PyProof.Rows.sortedAll_at s.heap its out.toArray
    have hlen : ((out.map SrtO.iv).map V.int).length ≤ sizeLine := by
      rw [List.length_map, k2.length_eq]
      rw [List.length_map] at hz
      exact hz
    exact ⟨.ref _, upd H (s.heap.objs.size + 1) (.lst ((out.map SrtO.iv).map V.int)), I.laid (t' := s.toks) (fun _ _ => PyProof.Rows.sortedAll_old) (Nat.le_succ _) ⟨hlen, out, ep, vals_of_ints k1, he'⟩, rfl, q _ _ k2 k3 (I.hok.fresh (Nat.le_succ _))⟩
end
end L2
namespace Mv
open PySem PySem.Spec PyProof.Rows L2
theorem cr_sorted2K (K : PySem.W.Frag) {X : Cx} (h : X.K = K := by rfl) : CallR X (.builtin "sorted") (rSorted2 K) := h ▸ cr_sorted2
section
variable {K : PySem.W.Frag} {J : Jm} {R : Dt → Prop}
theorem oc_sorted2 {ns : List Int} {x : Dt} (hx : x = .lst (ns.map Dt.int) ∨ x = .tup (ns.map Dt.int)) (h : ∀ ns' : List Int, ns'.Perm ns → ns'.Pairwise (· ≤ ·) → R (.lst (ns'.map Dt.int))) : Oc K J (rSorted2 K) [x] R := fun G H vs w rs Q q => by
  cases rs with
  | cons r1 r2 =>
    cases r2
    have fin : ∀ a, (SqL K H a (ns.map V.int) ∨ SqT K H a (ns.map V.int)) → rSorted2 K [.ref a] H Q := fun a hs => ⟨a, ns, rfl, hs, fun ns' p hp1 hp2 hp => by
      have n2 := w.new hp (.lst (ns'.map V.int))
      exact q (.ref p) _ _ _ n2 (.lst (.inl (.inl upd_same)) Da.ints) (h ns' hp1 hp2)⟩
    rcases hx with rfl | rfl
    · cases r1 with
      | lst s t =>
        have e := t.ints_inv
        subst e
        exact fin _ (.inl (same_l w.gh s))
    · cases r1 with
      | tup s t =>
        have e := t.ints_inv
        subst e
        exact fin _ (.inr (same_t w.gh s))
end
end Mv

set_option Elab.async false
set_option linter.all false
set_option maxRecDepth 100000
set_option maxHeartbeats 4000000
/-! max(xs), xs a list or a tuple of whole numbers. -/
namespace Mv
open PySem PySem.Spec PyProof.Rows L2 PySem.W
def rMax2 (K : PySem.W.Frag) : List V → Hp → VK → Prop := fun vs H Q => ∃ (a : Addr) (n : Int) (r : List Int), vs = [.ref a] ∧ (SqL K H a ((n :: r).map V.int) ∨ SqT K H a ((n :: r).map V.int)) ∧ Q (.int (mmI true n r)) H
theorem dpa_ints {K : PySem.W.Frag} {H : Hp} : ∀ l : List Int, L2.DpAll K H (l.map V.int) (l.map PyData.int)
  | [] => .nil
  | x :: r => .cons (.int x) (dpa_ints r)
section
variable {X : Cx}
theorem cr_max2 (hc : X.calm = true) (hu : X.A.units + 64 < cLine) : CallR X (.builtin "max") (rMax2 X.K) := by
  intro pins s σ H vs us Q I r h
  obtain ⟨a, n, l, rfl, hs, q⟩ := h
  obtain rfl := Vals.ref1 r
  have hh := I.ok.hd hc
  have ha := alike_ints (n :: l)
  have hd := depth_ints (n :: l)
  have hdep : X.A.units + 1 + PyData.depthAll ((n :: l).map PyData.int) < cLine := by omega
  have key : ∀ (its : List Value) (as : List Addr), Vals ((n :: l).map V.int) its → ReadsAll s.heap its ((n :: l).map PyData.int) as →
      (∀ (i : Nat) v h' tk bs, its.toArray[i]? = some v → Reads h' v (maxD (.int n) (l.map PyData.int)) bs → (∀ b o, s.heap.get? b = some o → h'.get? b = some o) → EP X pins σ Q v { s with heap := h', toks := tk }) := by
    intro its as rv hr i v h' tk bs hv hr2 hk
    have hv' : its[i]? = some v := by simpa using hv
    have hlx : i < ((n :: l).map V.int).length := by rw [rv.length]; exact (List.getElem?_eq_some_iff.mp hv').1
    have hl2 : i < (n :: l).length := by rw [List.length_map] at hlx; exact hlx
    obtain ⟨u, hu', rx⟩ := rv.get (show ((n :: l).map V.int)[i]? = some (V.int (n :: l)[i]) by rw [List.getElem?_map, List.getElem?_eq_getElem hl2]; rfl)
    have : u = v := Option.some.inj (hu'.symm.trans hv')
    subst this
    obtain ⟨cs, r3, hlt, hmem, _⟩ := readsAll_at hr i u hv'
    have hgd : ((n :: l).map PyData.int).getD i .none = .int (n :: l)[i] := by rw [List.getD_eq_getElem?_getD, List.getElem?_map, List.getElem?_eq_getElem hl2]; rfl
    have hmx : maxD (.int n) (l.map PyData.int) = .int (mmI true n l) := mm_ints true l n
    rw [hgd] at r3 hmem
    rw [hmx] at hr2
    have hal : alike (.int (n :: l)[i]) (.int (mmI true n l)) = true := by simp [alike]
    have eq := alike_unique _ _ u _ _ hal (Reads.keeps hk r3) hr2
    injection eq with eq
    rw [eq] at rx
    exact ⟨_, H, I.kept (t' := tk) hk, rx, q⟩
  rcases hs with hs | hs
  · obtain ⟨its, rv, hl, _⟩ := I.list hs
    obtain ⟨as, hr⟩ := L2.Dp.readsAll I _ _ its (dpa_ints (n :: l)) rv
    have k := key its as rv hr
    exact max_list_data (x := .int n) (xs := l.map PyData.int) hh hl.isList (by simpa using hr) ha hdep k
  · obtain ⟨its, rv, hl, _⟩ := I.tuple hs
    obtain ⟨as, hr⟩ := L2.Dp.readsAll I _ _ its (dpa_ints (n :: l)) rv
    have hlT : s.heap.IsTuple a its.toArray := hl
    have k := key its as rv hr
    exact max_tuple_data (x := .int n) (xs := l.map PyData.int) hh hlT (by simpa using hr) ha hdep k
end
theorem cr_max2K (K : PySem.W.Frag) {X : Cx} (hc : X.calm = true) (hu : X.A.units + 64 < cLine) (h : X.K = K := by rfl) : CallR X (.builtin "max") (rMax2 K) := h ▸ cr_max2 hc hu
section
variable {K : PySem.W.Frag} {J : Jm} {R : Dt → Prop}
theorem oc_max2 {n : Int} {r : List Int} {x : Dt} (hx : x = .lst ((n :: r).map Dt.int) ∨ x = .tup ((n :: r).map Dt.int)) (h : R (.int (mmI true n r))) : Oc K J (rMax2 K) [x] R := fun G H vs w rs Q q => by
  cases rs with
  | cons r1 r2 =>
    cases r2
    rcases hx with rfl | rfl
    · cases r1 with
      | lst s t =>
        have e := t.ints_inv
        subst e
        exact ⟨_, n, r, rfl, .inl (same_l w.gh s), q _ _ G H w.nx (.int _) h⟩
    · cases r1 with
      | tup s t =>
        have e := t.ints_inv
        subst e
        exact ⟨_, n, r, rfl, .inr (same_t w.gh s), q _ _ G H w.nx (.int _) h⟩
end
end Mv

set_option Elab.async false
set_option linter.all false
set_option maxRecDepth 100000
set_option maxHeartbeats 4000000
namespace Mv
open PySem PySem.Spec PyProof.Rows L2
section
variable {K : PySem.W.Frag} {J : Jm} {env : List Sl} {te : TE} {R : Dt → Prop}
theorem ev_isiTL (h : Ev K J env te fun x => noOb x = true ∧ R (.bl (isiD x "tuple" || isiD x "list"))) : Ev K J env (tCB (rIsiT K) (tCons te (tCons (tTup (tCons (tC (.ty "tuple")) (tCons (tC (.ty "list")) tNil))) tNil))) R := fun B G H σ w E Q q =>
  h B G H σ w E _ fun v x G1 H1 n1 r ⟨hn, k⟩ => ⟨by show 2 ≤ sizeLine; decide, fun p hp => by
    have w1 := n1.wf w
    have n2 := w1.new hp (.tup [.ty "tuple", .ty "list"])
    obtain ⟨t, ht, hk⟩ : ∃ t, tyD x = some t ∧ PySem.W.kitAny K (.type t) [.type "tuple", .type "list"] = some (isiD x "tuple" || isiD x "list") := by
      cases x <;> first | exact ⟨_, rfl, rfl⟩ | (cases hn)
    exact ⟨v, p, [.ty "tuple", .ty "list"], .type t, [.type "tuple", .type "list"], _, rfl, upd_same, .cons (.ty _) (.cons (.ty _) .nil), ty_of (r.mono n2.gg) (n2.wf w1).gh ht, hk, q _ _ _ _ (n1.trans n2) (.bl _) k⟩⟩
theorem o2_eqN (h : R (.bl true)) : O2 K J L2.rEq .non .non R := fun G H vx vy w rx ry Q q => by
  cases rx
  cases ry
  refine ⟨rfl, ?_⟩
  rw [decide_eq_true rfl]
  exact q _ _ G H w.nx (.bl _) h
end
end Mv

set_option Elab.async false
set_option linter.all false
set_option maxRecDepth 100000
set_option maxHeartbeats 4000000
/-! isinstance of a caught error that keeps its arguments; defs of the telling kind that call themselves. -/
namespace Mv
open PySem PySem.Spec PyProof.Rows L2
section
open PySem.W
variable {prog : Program} {w : World} {A : Around} {E : Value → Shared → Prop} {K : Frag} {x D : Addr} {ox : Obj} {od : Option Obj}
theorem find_cls (c : ExcC K D) : findObj K D od "__class__" = some (.bind (.builtin "getset_descriptor.__get__") (.builtin "object.__class__")) := by
  obtain ⟨cd, hc, _⟩ := any_some c.hd
  unfold findObj
  rw [hc, Option.bind_some, c.ha, Option.bind_some]; simp [c.hn, c.ht]
theorem read_cls {s : Shared} {Q : Option Value → Shared → Prop} (c : ExcC K D) (X : K.In s.heap) (I : InstAt s.heap x ox D od) (q : Q (some (.ref D)) { s with toks := s.toks + 1 }) : wpAny (model prog w) A (getAttr? (.ref x) "__class__") Q E s := by
  obtain ⟨hp, g, d, t, os⟩ := s
  have T0 := I.type (M := model prog w); have T1 := looks_findIn (M := model prog w) X c.hg; have T2 := looks_findIn (M := model prog w) X c.hk
  have T3 := looks_find (M := model prog w) X I (find_cls c (od := od)); have sb : Looks (model prog w) hp (isInstance (.ref x) (.type "BaseException")) true := T0.andThen (looks_subIn X c.hs)
  have z2 : (Value.builtin "BaseException.__getattribute__" == Value.builtin "object.__getattribute__") = false := by decide +kernel
  have z0 : (false && onTheHeap (Value.builtin "BaseException.__getattribute__")) = false := rfl
  have z1 : (onTheHeap (Value.ref D) && Value.builtin "BaseException.__getattribute__" == Value.builtin "object.__getattribute__") = false := by rw [z2] <;> rfl
  unfold getAttr? getAttrBy? getAttrBy; refine wpAny_bind (wpAny_mkText (wpAny_bind (wpAny_attempt (wpAny_holding (wpAny_bind (T0.at (wpAny_bind (T1.at ?_))))))))
  show wpAny _ _ (ite ((onTheHeap (Value.ref D) && Value.builtin "BaseException.__getattribute__" == Value.builtin "object.__getattribute__") = true) _ _) _ _ _
  rw [z1, if_neg Bool.false_ne_true]; unfold getAttrByItsOwn hookBefore
  refine wpAny_bind ?_; rw [if_pos (show onTheHeap (Value.ref D) = true from rfl)]
  refine T2.at (wpAny_bind (wpAny_attempt (wpAny_holding ?_))); unfold callGetattribute
  rw [z0, if_neg Bool.false_ne_true]; unfold boundAndCalled
  rw [PySem.F.excAttr_ValueError.ga.bind (.ref x)]; refine wpAny_bind (wpAny_pure ?_)
  show wpAny _ _ (call (.builtin "BaseException.__getattribute__") [.ref x, .str "__class__" t]) _ _ _
  refine wpAny_call (codeAny_call_builtin PySem.F.excAttr_ValueError.ga.plain PySem.F.entry_bexc_ga (@check_slot (model prog w) _ _ ⟨hp, g, d, t + 1, os⟩ "BaseException.__getattribute__" "BaseException" "__getattribute__" (.ref x) [.str "__class__" t] [] _ (by decide +kernel) (by decide +kernel) sb (PySem.F.args_bexc_ga (.ref x) (.str "__class__" t)) ?_))
  unfold Builtin.«object.__getattribute__»; refine wpAny_bind (wpAny_of_eq (a := ((Value.ref x : Value), [Value.str "__class__" t])) (by first | rfl | (simp only [slotArgs]; rfl)) ?_)
  refine wpAny_pure (wpAny_bind (T0.at (wpAny_bind (T3.at ?_)))) |> wpAny_bind
  show wpAny _ _ (holding [Value.builtin "object.__class__"] (call (.builtin "getset_descriptor.__get__") [.builtin "object.__class__", .ref x, .ref D]) >>= ret) _ _ _
  refine wpAny_bind (wpAny_holding (wpAny_call (class_get (s := ⟨hp, g, d, t + 1, os⟩) (ox := ox) (od := od) X I c.hm (wpAny_pure ?_))))
  show wpAny _ _ (handedOut (.ref D)) _ _ _; rw [handedOut_of (v := .ref D) rfl]
  first | exact wpAny_pure (wpAny_pure q) | exact wpAny_pure q | exact wpAny_pure (wpAny_bind (wpAny_pure (wpAny_pure q)))
theorem kit_err (c : ExcC K D) : KitX K (.ref x) (.ref D) (fun h => InstAt h x ox D od) := by
  obtain ⟨cd, hc, _⟩ := any_some c.hd
  unfold clsIn at hc; split at hc
  · rename_i c' d' cd' sl' ho
    refine ⟨fun _ _ _ I => I.type, fun _ _ X _ A' Q' E' s' k q => ?_, fun h tp dd its n sl X htp => ?_, fun X I k => read_cls c X I k⟩
    · unfold isType loadHead; exact wpAny_bind (wpAny_loadPart (k _ _ (X _ _ ho)) (wpAny_pure q))
    · by_cases e : (Value.ref D == Value.ref tp) = true
      · cases beq_iff_eq.mp e; exact nomatch (X _ _ ho).symm.trans htp
      · simpa using e
  · cases hc
end
/-- isinstance(e, C), e the caught error: a where it lies, cls its class, d its dict -/
def rIsX (K : PySem.W.Frag) (a : Addr) (cls : Value) (d : Option Addr) : List V → Hp → VK → Prop := fun xs H Q => ∃ (D C : Addr) (b : Bool) (dd : Addr) (fs : List (Str × V)),
  xs = [.ref a, .ref C] ∧ cls = .ref D ∧ d = some dd ∧ H dd = some (.xd fs) ∧ ExcC K D ∧ PySem.W.kitOne K (.ref D) (.ref C) = some b ∧ Q (.bl b) H
theorem call_isX {X : Cx} {a : Addr} {oe : Obj} {cls : Value} {d : Option Addr} {pn : List (Addr × Obj)} (hz : Zc cls d oe) (hf : ∃ vs, oe.data = .fields vs) (K : PySem.W.Frag) (hk : X.K = K := by rfl) : CallR (X.suite a ((a, oe) :: pn)) (.builtin "isinstance") (rIsX K a cls d) := by
  subst hk
  intro pins s σ H xs us Q I r h
  obtain ⟨D, C, b, dd, fs, rfl, rfl, rfl, ea, hc, e, q⟩ := h
  obtain ⟨u1, u2, rfl, r1, r2⟩ := vals2 r
  cases (show u1 = Value.ref a from r1)
  cases (show u2 = Value.ref C from r2)
  obtain ⟨ha, _⟩ := I.pin (a, oe) (List.mem_append_left _ List.mem_cons_self)
  obtain ⟨vs, hd⟩ := hf
  obtain ⟨mA, hns, _⟩ := (show ObjOk X.prog X.w H s.heap dd (.xd fs) from I.hok dd _ ea)
  obtain ⟨od, ho, _⟩ := lookIn_ns hns
  have J : PySem.W.InstAt s.heap a oe D (some od) := ⟨ha, hz.1, by unfold PySem.W.notCls; rw [hd] <;> rfl, by rw [hz.2]; exact ho⟩
  exact PySem.W.kia_one (kit_err hc) I.kIn J e (fun z => nomatch z) fun tk => ⟨.bl b, H, I.kept (t' := tk) fun _ _ z => z, rfl, q⟩
section
variable {K : PySem.W.Frag} {J : Jm} {env : List Sl} {R : Dt → Prop}
theorem ev_isX {a d C D : Addr} {i : Nat} {fs : List (Str × Dt)} {b : Bool} (hi : env[i]? = some (.xv a d fs)) (c : ExcC K D) (hb : PySem.W.kitOne K (.ref D) (.ref C) = some b) (k : R (.bl b)) :
    Ev K J env (tCB (rIsX K a (.ref D) (some d)) (tCons (tVar i) (tCons (tC (.ref C)) tNil))) R := fun B G H σ w E Q q => by
  obtain ⟨ov, h1, h2, vs, g, r⟩ := E.ok i _ hi
  subst h2
  refine ⟨_, h1, ?_⟩
  exact ⟨D, C, b, d, vs, rfl, rfl, rfl, w.gh d _ g, c, hb, q _ _ G H w.nx (.bl _) k⟩
end
/-! ### defs that call themselves, of the telling kind -/
def predWP (W : Nat → FwP) : Nat → FwP
  | 0 => fun _ _ _ _ => False
  | n + 1 => W n
section
variable {P : Program} {w : World} {K : PySem.W.Frag} {mg : Str → Option Value} {base : Heap}
theorem rec_allP {f : Addr} {fd : FuncData} {x : Str} {ps : List Str} (b : Nat) (W : Nat → FwP) (g : mg x = some (.ref f)) (kp : PySem.W.keepIn K (.ref f) = true) (bb : Binds K fd ps [])
    (step : ∀ n, CalX P w K mg base (n + b) x ps (CtP K (predWP W n)) → FnOk P w K mg base (L2.CX P w) (n + b + 1) f fd ps (CtP K (W n))) : ∀ n, FnOk P w K mg base (L2.CX P w) (n + b + 1) f fd ps (CtP K (W n))
  | 0 => step 0 ⟨f, fd, ⟨fun vs H Q E h => by obtain ⟨_, _, _, _, _, _, _, _, _, z, _⟩ := h; exact z.elim, fun A outer s H args us vs Q E _ _ _ _ h => by obtain ⟨_, _, _, _, _, _, _, _, _, z, _⟩ := h; exact z.elim⟩, g, kp, bb⟩
  | n + 1 => step (n + 1) ⟨f, fd, by
      have := rec_allP b W g kp bb step n
      rw [show n + 1 + b = n + b + 1 by omega]
      exact this, g, kp, bb⟩
theorem updM_self {M : Mm} {a : Addr} {o : OB} (h : M a = some o) : updM M a o = M := by
  funext b
  by_cases e : b = a
  · subst e; rw [updM_same, h]
  · rw [updM_ne e]
theorem updM_comm {M : Mm} {a b : Addr} {o u : OB} (h : a ≠ b) : updM (updM M a o) b u = updM (updM M b u) a o := by
  funext c
  unfold updM
  by_cases e : c = b
  · subst e
    by_cases e2 : c = a
    · exact absurd e2.symm h
    · simp [e2]
  · simp [e]
end
end Mv

set_option Elab.async false
set_option linter.all false
set_option maxRecDepth 100000
set_option maxHeartbeats 4000000
/-! Equality of any data with itself: what the comparison asks, and its answer. -/
namespace Mv
open PySem PySem.Spec PyProof.Rows L2
mutual
/-- all texts within are made of code points -/
def txtD : Dt → Bool
  | .str s => PyData.strOk s
  | .lst ds => txtDs ds
  | .tup ds => txtDs ds
  | _ => true
def txtDs : List Dt → Bool
  | [] => true
  | d :: r => txtD d && txtDs r
end
theorem txtDs_iff : ∀ {ds : List Dt}, txtDs ds = true ↔ ∀ d ∈ ds, txtD d = true
  | [] => by simp [txtDs]
  | d :: r => by
    rw [show txtDs (d :: r) = (txtD d && txtDs r) from by simp only [txtDs], Bool.and_eq_true, txtDs_iff (ds := r)]
    simp
theorem txt_lst {ds : List Dt} : txtD (.lst ds) = txtDs ds := by simp only [txtD]
theorem txt_tup {ds : List Dt} : txtD (.tup ds) = txtDs ds := by simp only [txtD]
theorem plainDs_iff : ∀ {ds : List Dt}, plainDs ds = true ↔ ∀ d ∈ ds, plainD d = true
  | [] => by simp [plainDs]
  | d :: r => by
    rw [show plainDs (d :: r) = (plainD d && plainDs r) from by simp only [plainDs], Bool.and_eq_true, plainDs_iff (ds := r)]
    simp
theorem flat_plain : ∀ {n : Nat} {d : Dt}, Flat n d → plainD d = true := fun {n} {d} h => by
  induction h with
  | non => simp [plainD]
  | bl => simp [plainD]
  | int => simp [plainD]
  | str => simp [plainD]
  | lst n ds hz _ ih => rw [show plainD (.lst ds) = plainDs ds from by simp only [plainD]]; exact plainDs_iff.mpr ih
  | tup n ds hz _ ih => rw [show plainD (.tup ds) = plainDs ds from by simp only [plainD]]; exact plainDs_iff.mpr ih
theorem depthAll_le {m : Nat} : ∀ {ds : List Dt}, (∀ d ∈ ds, (pyD d).depth ≤ m) → PyData.depthAll (pyDs ds) ≤ m
  | [], _ => by simp [pyDs, PyData.depthAll]
  | d :: r, h => by
    have h1 := h d List.mem_cons_self
    have h2 := depthAll_le (ds := r) fun x hx => h x (List.mem_cons_of_mem _ hx)
    simp only [pyDs, PyData.depthAll]
    omega
theorem flat_depth : ∀ {n : Nat} {d : Dt}, Flat n d → (pyD d).depth ≤ n := fun {n} {d} h => by
  induction h with
  | non => simp [pyD, PyData.depth]
  | bl => simp [pyD, PyData.depth]
  | int => simp [pyD, PyData.depth]
  | str => simp [pyD, PyData.depth]
  | lst n ds hz _ ih => simp only [pyD, PyData.depth]; have := depthAll_le ih; omega
  | tup n ds hz _ ih => simp only [pyD, PyData.depth]; have := depthAll_le ih; omega
theorem canAll_of : ∀ {ds : List Dt}, (∀ d ∈ ds, (pyD d).canLay0 = true) → PyData.canLayAll0 (pyDs ds) = true
  | [], _ => by simp [pyDs, PyData.canLayAll0]
  | d :: r, h => by
    simp only [pyDs, PyData.canLayAll0]
    rw [h d List.mem_cons_self, canAll_of (ds := r) fun x hx => h x (List.mem_cons_of_mem _ hx)]
    rfl
theorem flat_can : ∀ {n : Nat} {d : Dt}, Flat n d → txtD d = true → (pyD d).canLay0 = true := fun {n} {d} h => by
  induction h with
  | non => simp [pyD, PyData.canLay0]
  | bl => simp [pyD, PyData.canLay0]
  | int => simp [pyD, PyData.canLay0]
  | str n s => intro t; simp only [pyD, PyData.canLay0]; simpa [txtD] using t
  | lst n ds hz _ ih =>
    intro t
    rw [txt_lst] at t
    simp only [pyD, PyData.canLay0]
    exact canAll_of fun d hd => ih d hd (txtDs_iff.mp t d hd)
  | tup n ds hz _ ih =>
    intro t
    rw [txt_tup] at t
    simp only [pyD, PyData.canLay0]
    exact canAll_of fun d hd => ih d hd (txtDs_iff.mp t d hd)
theorem shaped_of {n : Nat} {d : Dt} (h : Flat n d) (hn : n ≤ 64) (t : txtD d = true) : shapedD d = true := by
  unfold shapedD SeqAt.shaped
  rw [flat_plain h, flat_can h t, decide_eq_true (Nat.le_trans (flat_depth h) hn)]
  rfl
theorem eqvAll_refl : ∀ {ds : List Dt}, (∀ d ∈ ds, PyData.eqv (pyD d) (pyD d) = true) → PyData.eqvAll (pyDs ds) (pyDs ds) = true
  | [], _ => by simp [pyDs, PyData.eqvAll]
  | d :: r, h => by
    simp only [pyDs, PyData.eqvAll]
    rw [h d List.mem_cons_self, eqvAll_refl (ds := r) fun x hx => h x (List.mem_cons_of_mem _ hx)]
    rfl
theorem eqDD_refl {n : Nat} {d : Dt} (h : Flat n d) : eqDD d d = true := by
  unfold eqDD
  induction h with
  | non => simp [pyD, PyData.eqv]
  | bl => simp [pyD, PyData.eqv]
  | int => simp [pyD, PyData.eqv]
  | str => simp [pyD, PyData.eqv]
  | lst n ds hz _ ih => simp only [pyD, PyData.eqv]; exact eqvAll_refl ih
  | tup n ds hz _ ih => simp only [pyD, PyData.eqv]; exact eqvAll_refl ih
theorem kit_sub {K : PySem.W.Frag} {C D : Addr} {b : Bool} (h1 : PySem.W.isClsIn K D = true) (h3 : PySem.W.typeIn K (.ref D) = some (.type "type")) (h4 : PySem.W.subIn K (.ref C) (.ref D) = some b) (h5 : PySem.W.subIn K (.ref C) (.ref C) = some true) :
    PySem.W.kitOne K (.ref C) (.ref D) = some b := by
  unfold PySem.W.kitOne
  by_cases e : (Value.ref C == Value.ref D) = true
  · rw [if_pos e]
    have e : C = D := Value.ref.inj (beq_iff_eq.mp e)
    subst e
    rw [← h4, h5]
  · rw [if_neg e]
    unfold PySem.W.isClsIn at h1
    show (if ((PySem.W.clsIn K D).isSome && PySem.W.typeIn K (.ref D) == some (.type "type")) = true then PySem.W.subIn K (.ref C) (.ref D) else none) = some b
    rw [h1, h3, if_pos (by decide)]
    exact h4
end Mv

set_option Elab.async false
set_option linter.all false
set_option maxRecDepth 100000
set_option maxHeartbeats 4000000
/-! Told dicts whose keys are whole numbers; n & 1. -/
namespace Mv
open PySem PySem.Spec PyProof.Rows L2
section
variable {K : PySem.W.Frag} {J : Jm} {MV : Mh} {M : Mm} {env : List Sl} {td tk tv : TE} {D : DM} {R : Dt → Prop}
/-- {} among the told objects -/
theorem evm_dnewI {R : Dt → Mm → Prop} (h : ∀ p, M p = none → R (.ptr p) (updM M p (.dic []))) : EvM K J M env D tDNewK R := fun MV0 MV GB B G H σ a x Q q p hp => by
  have hj : p ∉ J.ms := (not_jt.mp (a.wf.notin hp)).1
  have hM := a.wf.none_ hp
  have n1 := a.wf.newM hp (.dK [])
  have n2 := nxm_put (ho := .dK []) (.inr hp) (NxM.of n1)
  exact q (.ref p) (.ptr p) _ _ G _ n2 (a.thenM n2 ((n1.wf a.wf).put hj (a.wf.free hp) upd_same (.dic .nil))) (.ptr _) (h p hM.2)
/-- d[n] -/
theorem ev_dgetI (h : Ev K (Jt K J MV M) env td fun o => ∃ p kvs, o = .ptr p ∧ M p = some (.dic kvs) ∧ Ev K (Jt K J MV M) env tk fun k => ∃ (n : Int) (x : Dt), k = .int n ∧ getQ kvs (Sum.inl n : Key) = some x ∧ R x) : Ev K (Jt K J MV M) env (tDGet td tk) R :=
  fun B G H σ w E Q q => h B G H σ w E _ fun v o G1 H1 n1 r1 ⟨p, kvs, e1, hM, h2⟩ => by
    subst e1
    cases r1
    refine h2 B G1 H1 σ (n1.wf w) (E.mono n1) _ fun u k G2 H2 n2 r2 ⟨n, x, e2, hx, kx⟩ => ?_
    subst e2
    cases r2
    obtain ⟨vs, _, hH, r⟩ := (n2.wf (n1.wf w)).dicM hM
    obtain ⟨y, h3, h4⟩ := (r.get (n := (Sum.inl n : Key))).1 x hx
    exact ⟨p, y, rfl, .inl ⟨vs, Sum.inl n, .inl hH, rfl, h3.symm⟩, q y x G2 H2 (n1.trans n2) h4 kx⟩
/-- n in d -/
theorem ev_dinI (h : Ev K (Jt K J MV M) env tk fun k => ∃ n : Int, k = .int n ∧ Ev K (Jt K J MV M) env td fun o => ∃ p kvs, o = .ptr p ∧ M p = some (.dic kvs) ∧ R (.bl (getQ kvs (Sum.inl n : Key)).isSome)) : Ev K (Jt K J MV M) env (tDIn tk td) R :=
  fun B G H σ w E Q q => h B G H σ w E _ fun v k G1 H1 n1 r1 ⟨n, e1, h2⟩ => by
    subst e1
    cases r1
    refine h2 B G1 H1 σ (n1.wf w) (E.mono n1) _ fun u o G2 H2 n2 r2 ⟨p, kvs, e2, hM, kx⟩ => ?_
    subst e2
    cases r2
    obtain ⟨vs, _, hH, r⟩ := (n2.wf (n1.wf w)).dicM hM
    have g := r.get (n := (Sum.inl n : Key))
    cases e : getQ kvs (Sum.inl n : Key) with
    | some x =>
      obtain ⟨y, h3, _⟩ := g.1 x e
      rw [e] at kx
      exact ⟨p, some y, rfl, .inl ⟨vs, Sum.inl n, .inl hH, rfl, h3.symm⟩, q _ _ G2 H2 (n1.trans n2) (.bl _) kx⟩
    | none =>
      rw [e] at kx
      exact ⟨p, none, rfl, .inl ⟨vs, Sum.inl n, .inl hH, rfl, (g.2 e).symm⟩, q _ _ G2 H2 (n1.trans n2) (.bl _) kx⟩
/-- d[n] = e -/
theorem sm_dputI (h : EvM K J M env D tv fun d M1 => EvM K J M1 env D td fun o M2 => EvM K J M2 env D tk fun k M3 => ∃ (p : Addr) (kvs : List (Key × Dt)) (n : Int), o = .ptr p ∧ M3 p = some (.dic kvs) ∧ k = .int n ∧ kvs.length < 100000 ∧ D.nx (updM M3 p (.dic (putQ kvs (Sum.inl n : Key) d))) env) :
    SvM K J M env (sDPut td tk tv) D := fun MV0 MV GB B G H σ a E r =>
  h MV0 MV GB B G H σ a r.x _ fun v d M1 MV1 G1 H1 n1 a1 rd h2 => h2 MV0 MV1 GB B G1 H1 σ a1 r.x _ fun u o M2 MV2 G2 H2 n2 a2 ro h3 => h3 MV0 MV2 GB B G2 H2 σ a2 r.x _ fun y k M3 MV3 G3 H3 n3 a3 rk ⟨p, kvs, n, e1, hM, e2, hz, hx⟩ => by
    subst e1 e2
    cases ro
    cases rk
    obtain ⟨us, e1, e2, t⟩ := a3.wf.dicM hM
    have n5 := a3.wf.chgN (ho' := .dK (putK us (Sum.inl n : Key) v)) e1
    refine ⟨p, _, rfl, .inl ⟨us, Sum.inl n, e2, rfl, sz_lt (by rw [t.length]; exact hz), rfl⟩, r.nx _ _ env _ _ σ (a3.thenM n5 (a3.wf.chg e1 (.dic (t.put (rd.mono (n2.gg.trans n3.gg)))))) hx⟩
/-- n & 1 -/
def rOdd : R2 := fun x y H Q => ∃ n : Nat, x = .int (n : Int) ∧ y = .int 1 ∧ Q (.int ((n % 2 : Nat) : Int)) H
theorem op_oddK {X : Cx} : OpR X (binaryOp .BitAnd) rOdd := op_odd
theorem o2_odd {J : Jm} {n : Nat} (h : R (.int ((n % 2 : Nat) : Int))) : O2 K J rOdd (.int (n : Int)) (.int 1) R := fun G H vx vy w rx ry Q q => by
  cases rx
  cases ry
  exact ⟨n, rfl, rfl, q _ _ G H w.nx (.int _) h⟩
/-- list(range(n)) -/
theorem em_listRg {J : Jm} {te : TE} {R : List Dt → Prop} (h : Ev K J env te fun x => ∃ n : Nat, x = .int (n : Int) ∧ n ≤ 100000 ∧ R ((List.range n).map fun i => Dt.int (i : Nat))) : Em K J env (tLstRg (tRg1 te)) R := fun B G H σ w E Q q =>
  h B G H σ w E _ fun v x G1 H1 n1 r1 ⟨n, e, hn, k⟩ => by
    subst e
    cases r1
    refine ⟨_, rfl, RgOk.of_le (Int.le_refl _) (by omega) (by decide) (by omega), fun p hp => ?_⟩
    have n2 := (n1.wf w).newM hp (.lst (rgV 0 (n : Int)))
    have e : rgV 0 (n : Int) = (List.range n).map fun i => V.int ((i : Nat) : Int) := by
      unfold rgV
      rw [show ((n : Int) - 0).toNat = n by omega]
      exact List.map_congr_left fun i _ => by rw [Int.zero_add]
    have hp0 : H p = none := by
      cases q : H p with
      | none => rfl
      | some o => exact absurd hp (n1.th p (by rw [q]; simp))
    refine q p _ _ G1 _ (n1.trans n2) ((n1.wf w).free hp) hp0 upd_same ?_ k
    rw [e]
    have : (List.range n).map (fun i => V.int ((i : Nat) : Int)) = ((List.range n).map fun i => ((i : Nat) : Int)).map V.int := by rw [List.map_map]; rfl
    rw [this]
    have : (List.range n).map (fun i => Dt.int ((i : Nat) : Int)) = ((List.range n).map fun i => ((i : Nat) : Int)).map Dt.int := by rw [List.map_map]; rfl
    rw [this]
    exact Da.ints
end
end Mv

set_option Elab.async false
set_option linter.all false
set_option maxRecDepth 100000
set_option maxHeartbeats 4000000
/-! t * n of a tuple, n from 0 on; x in a list, x not in a list, at any depth. -/
namespace Mv
open PySem PySem.Spec PyProof.Rows L2
theorem tup_mul1 (l : Addr) (its : Array Value) (n : Nat) (dd : Option Addr) (sl : Array (Option Value)) (u : Tok) (c1 : (its.isEmpty || (1 : Int) == 1) = true) : Meets (Builtin.«tuple.__mul__» ⟨[.ref l, .int 1 u], []⟩) (fun _ R s => s.heap.get? l = some ⟨.type "tuple", dd, .seq its n, sl⟩ ∧ R (.ok (.ret (.ref l))) s) :=
  .of_wp fun prog w A R s ⟨hl, q⟩ => by
    obtain ⟨hp, g, d, tk, os⟩ := s
    have f1 := AutoSeq1.idx_int
    wp_walk using wpAny_loadPart' hl
    exact ⟨_, rfl, q⟩
theorem tup_mul0 (l : Addr) (its : Array Value) (n : Nat) (dd : Option Addr) (sl : Array (Option Value)) (u : Tok) (c1 : (its.isEmpty || (0 : Int) == 1) = false) : Meets (Builtin.«tuple.__mul__» ⟨[.ref l, .int 0 u], []⟩) (fun _ R s => s.heap.get? l = some ⟨.type "tuple", dd, .seq its n, sl⟩ ∧ R (.ok (.ret (.ref s.heap.objs.size))) { s with heap := s.heap.push { cls := Value.type "tuple", data := Data.seq #[] } }) :=
  .of_wp fun prog w A R s ⟨hl, q⟩ => by
    obtain ⟨hp, g, d, tk, os⟩ := s
    have f1 := AutoSeq1.idx_int
    wp_walk using wpAny_loadPart' hl
    refine wpAny_ite_false (decide_eq_false fun z => ?_) ?_
    · rw [c1] at z; cases z
    wp_walk using wpAny_loadPart' hl
    exact ⟨_, rfl, q⟩
def rRepT2 (K : PySem.W.Frag) : R2 := fun x y H Q => ∃ l k xs, x = .ref l ∧ y = .int k ∧ SqT K H l xs ∧ xs ≠ [] ∧ 0 ≤ k ∧ k ≤ 1000 ∧ xs.length ≤ 1000 ∧ (k = 1 → Q (.ref l) H) ∧ (k ≠ 1 → ∀ p, H p = none → Q (.ref p) (upd H p (.tup (List.replicate k.toNat xs).flatten)))
theorem op_repTK (K : PySem.W.Frag) {X : Cx} (hk : X.K = K := by rfl) : OpR X (binaryOp .Mult) (rRepT2 K) := by
  subst hk
  intro pins s σ H x y v u Q I rx ry h
  obtain ⟨l, k, xs, rfl, rfl, hT, hne, h1, h2, hz, q1, q2⟩ := h
  by_cases hk2 : 2 ≤ k
  · exact op_repT pins s σ H _ _ v u Q I rx ry ⟨l, k, xs, rfl, rfl, hT, hne, hk2, h2, hz, q2 (by omega)⟩
  · cases rx
    obtain ⟨t, rfl⟩ := ry
    obtain ⟨its, r, ⟨⟨cls, dd, data, sl⟩, ho, hc, n, hd⟩, hs⟩ := I.tuple hT
    simp only at hc hd
    subst hc hd
    have hie : its.toArray.isEmpty = false := by
      cases its with
      | nil => exact absurd (List.eq_nil_of_length_eq_zero r.length) hne
      | cons a b => rfl
    by_cases hk1 : k = 1
    · subst hk1
      refine wpAny_binaryOp_repeat_ref (T := "tuple") (U := "int") (by decide) ⟨_, ho, rfl⟩ (fun s' => typeIs_int s' 1 t) noFill_tuple_mul F.fills_int_mul F.slot_int_rmul repeat_tuple F.slot_int_index.lookup
        (call_meets F.slot_int_rmul (typeIs_int s 1 t) F.entry_int_rmul (F.args_int_rmul_2 _ _) (int_rmul_tuple 1 t l its.toArray n dd sl) ⟨ho, rfl, ⟨_, ho, rfl⟩, ?_⟩)
      exact call_meets F.slot_tuple_mul ⟨_, ho, rfl⟩ F.entry_tuple_mul (F.args_tuple_mul_2 _ _) (tup_mul1 l its.toArray n dd sl t (by simp)) ⟨ho, .ref l, H, I, rfl, q1 rfl⟩
    · have hk0 : k = 0 := by omega
      subst hk0
      refine wpAny_binaryOp_repeat_ref (T := "tuple") (U := "int") (by decide) ⟨_, ho, rfl⟩ (fun s' => typeIs_int s' 0 t) noFill_tuple_mul F.fills_int_mul F.slot_int_rmul repeat_tuple F.slot_int_index.lookup
        (call_meets F.slot_int_rmul (typeIs_int s 0 t) F.entry_int_rmul (F.args_int_rmul_2 _ _) (int_rmul_tuple 0 t l its.toArray n dd sl) ⟨ho, rfl, ⟨_, ho, rfl⟩, ?_⟩)
      refine call_meets F.slot_tuple_mul ⟨_, ho, rfl⟩ F.entry_tuple_mul (F.args_tuple_mul_2 _ _) (tup_mul0 l its.toArray n dd sl t (by rw [hie]; rfl)) ⟨ho, ?_⟩
      refine ⟨.ref s.heap.objs.size, _, I.laid (t' := s.toks) (o := .tup []) (fun b ob q => Heap.get?_push_of_some _ q) (Nat.le_refl _) ?_, rfl, q2 (by decide) _ (I.hok.fresh (Nat.le_refl _))⟩
      exact ⟨Nat.zero_le _, [], .nil, IsTup.new _ _⟩
section
variable {K : PySem.W.Frag} {J : Jm} {R : Dt → Prop}
theorem o2_repT {xs : List Dt} {k : Int} (hne : xs ≠ []) (h0 : 0 ≤ k) (h1 : k ≤ 1000) (hz : xs.length ≤ 1000) (h : R (.tup (List.replicate k.toNat xs).flatten)) : O2 K J (rRepT2 K) (.tup xs) (.int k) R := fun G H vx vy w rx ry Q q => by
  cases rx with
  | @tup _ vs _ s t =>
    cases ry
    refine ⟨_, k, _, rfl, rfl, same_t w.gh s, fun z => hne (t.nil_iff.mp z), h0, h1, by rw [t.length]; exact hz, fun e => ?_, fun _ p hp => ?_⟩
    · subst e
      refine q _ (.tup xs) G H w.nx (.tup s t) ?_
      have : (List.replicate (1 : Int).toNat xs).flatten = xs := by show (List.replicate 1 xs).flatten = xs; simp
      rw [this] at h
      exact h
    · have n1 := w.new hp (.tup (List.replicate k.toNat vs).flatten)
      exact q _ _ _ _ n1 (.tup (.inl (.inl upd_same)) (da_flat (t.mono n1.gg) k.toNat)) h
/-! at any depth -/
theorem op_inDK (K : PySem.W.Frag) {X : Cx} (hu : X.A.units + 65 < cLine) (h : X.K = K := by rfl) : OpR X (compareOp .In) (rInD K) := by subst h; exact op_inD hu
theorem op_notInDK (K : PySem.W.Frag) {X : Cx} (hu : X.A.units + 65 < cLine) (h : X.K = K := by rfl) : OpR X (compareOp .NotIn) (rNotInD K) := by subst h; exact op_notInD hu
theorem units65 {k : Nat} {A : Around} (r : Room k A) : A.units + 65 < cLine := by have := r.un; omega
theorem any_pyDs {z : PyData} : ∀ {ds : List Dt}, ((pyDs ds).any fun y => PyData.eqv y z) = ds.any fun d => PyData.eqv (pyD d) z
  | [] => rfl
  | d :: r => by
    show (_ || (pyDs r).any _) = (_ || r.any _)
    rw [any_pyDs (ds := r)]
theorem o2_inDD {x : Dt} {ds : List Dt} (hx : shapedD x = true) (hy : shapedD (.lst ds) = true) (h : R (.bl (ds.any fun d => eqDD d x))) : O2 K J (rInD K) x (.lst ds) R := fun G H vx vy w rx ry Q q => by
  have hx := Bool.and_eq_true_iff.mp hx
  have hy := Bool.and_eq_true_iff.mp hy
  refine ⟨_, pyDs ds, dp_of w.gh rx hx.1, ?_, hx.2, ?_, q _ _ G H w.nx (.bl _) ?_⟩
  · have := dp_of w.gh ry hy.1; simpa only [pyD] using this
  · simpa only [pyD] using hy.2
  · rw [any_pyDs]; exact h
theorem o2_notInDD {x : Dt} {ds : List Dt} (hx : shapedD x = true) (hy : shapedD (.lst ds) = true) (h : R (.bl (!ds.any fun d => eqDD d x))) : O2 K J (rNotInD K) x (.lst ds) R := fun G H vx vy w rx ry Q q => by
  have hx := Bool.and_eq_true_iff.mp hx
  have hy := Bool.and_eq_true_iff.mp hy
  refine ⟨_, pyDs ds, dp_of w.gh rx hx.1, ?_, hx.2, ?_, q _ _ G H w.nx (.bl _) ?_⟩
  · have := dp_of w.gh ry hy.1; simpa only [pyD] using this
  · simpa only [pyD] using hy.2
  · rw [any_pyDs]; exact h
end
end Mv

set_option Elab.async false
set_option linter.all false
set_option maxRecDepth 100000
set_option maxHeartbeats 4000000
/-! xs[i] op= e of a told list; xs.extend(ys); sorted(d); xs.index(k); None == i. -/
namespace Mv
open PySem PySem.Spec PyProof.Rows L2
def rGetL : V → V → Hp → VK → Prop := fun x y H Q => ∃ (p : Addr) (xs : List V) (j : Nat) (v : V), x = .ref p ∧ y = .int (j : Int) ∧ H p = some (.lst xs) ∧ xs[j]? = some v ∧ Q v H
theorem pget_list {X : Cx} : PGet X rGetL := by
  intro pins s σ H o i ov iv Q I ro ri h
  obtain ⟨p, xs, j, v, rfl, rfl, hp, hj, q⟩ := h
  cases ro
  obtain ⟨t, rfl⟩ := ri
  obtain ⟨its, r, pl, hz⟩ := I.list (.inl (.inl hp))
  obtain ⟨w, ew, rw'⟩ := r.get hj
  have hl := r.length
  have hn := line63
  have hjl := (List.getElem?_eq_some_iff.mp hj).1
  exact wpAny_getItem_list pl.isList (Int.natCast_nonneg j) (by omega) (by simpa using ew) ⟨v, H, I, rw', q⟩
section
variable {K : PySem.W.Frag} {J : Jm} {M : Mm} {env : List Sl} {to ti te : TE} {D : DM}
/-- xs[i] op= e, whole numbers -/
theorem sm_augSP {g : Int → Int → Int} (h : EvM K J M env D to fun o M1 => EvM K J M1 env D ti fun i M2 => ∃ (p : Addr) (ds : List Dt) (j : Nat) (x : Int), o = .ptr p ∧ i = .int (j : Int) ∧ M2 p = some (.lst ds) ∧ ds[j]? = some (.int x) ∧
    EvM K J M2 env D te fun d M3 => ∃ y, d = .int y ∧ M3 p = some (.lst ds) ∧ D.nx (updM M3 p (.lst (ds.set j (.int (g x y))))) env) : SvM K J M env (tAugS to ti te rGetL (ipI g) rSetL) D := fun MV0 MV GB B G H σ a E r =>
  h MV0 MV GB B G H σ a r.x _ fun v o M1 MV1 G1 H1 n1 a1 ro h2 => h2 MV0 MV1 GB B G1 H1 σ a1 r.x _ fun u i M2 MV2 G2 H2 n2 a2 ri ⟨p, ds, j, x, e1, e2, hM, hj, h3⟩ => by
    subst e1 e2
    cases ro
    cases ri
    obtain ⟨us, e1, e2, t⟩ := a2.wf.lstM hM
    obtain ⟨w, hw, rw'⟩ := t.get hj
    cases rw'
    refine ⟨p, us, j, _, rfl, rfl, e2, hw, h3 MV0 MV2 GB B G2 H2 σ a2 r.x _ fun z d M3 MV3 G3 H3 n3 a3 rd ⟨y, e3, hM3, hx⟩ => ?_⟩
    subst e3
    cases rd
    obtain ⟨us3, e4, e5, t3⟩ := a3.wf.lstM hM3
    have hjl : j < us3.length := by rw [t3.length]; exact (List.getElem?_eq_some_iff.mp hj).1
    refine ⟨x, y, rfl, rfl, p, us3, (j : Int), j, rfl, rfl, e5, ixN_nat hjl, ?_⟩
    have n5 := a3.wf.chgN (ho' := .lst (us3.set j (.int (g x y)))) e4
    exact r.nx _ _ env _ _ σ (a3.thenM n5 (a3.wf.chg e4 (.lst (t3.set j (.int _))))) hx
/-- xs.extend(ys), both told -/
theorem evm_extend {R : Dt → Mm → Prop} (h : EvM K J M env D to fun o M1 => ∃ a ds0, o = .ptr a ∧ M1 a = some (.lst ds0) ∧ EvM K J M1 env D te fun d M2 => ∃ b ds es, d = .ptr b ∧ M2 a = some (.lst ds) ∧ M2 b = some (.lst es) ∧ ds.length + es.length ≤ 100000 ∧ R .non (updM M2 a (.lst (ds ++ es)))) :
    EvM K J M env D (tBM K "list" rExtend to (tCons te tNil)) R := fun MV0 MV GB B G H σ a x Q q =>
  h MV0 MV GB B G H σ a x _ fun v o M1 MV1 G1 H1 n1 a1 r ⟨p, ds0, e, hM, k⟩ => by
    subst e
    cases r
    obtain ⟨vs0, _, h0, _⟩ := a1.wf.lstM hM
    refine ⟨.inl ⟨rfl, vs0, .inl (.inl h0)⟩, k MV0 MV1 GB B G1 H1 σ a1 x _ fun u d M2 MV2 G2 H2 n2 a2 rd ⟨b, ds, es, e0, hM2, hM3, hz, k2⟩ => ?_⟩
    subst e0
    cases rd
    obtain ⟨us, e1, e2, t⟩ := a2.wf.lstM hM2
    obtain ⟨ws, e3, e4, t2⟩ := a2.wf.lstM hM3
    refine ⟨p, b, us, ws, rfl, rfl, e2, e4, sz_of (by rw [t.length, t2.length]; exact hz), ?_⟩
    have n3 := a2.wf.chgN (ho' := .lst (us ++ ws)) e1
    exact q _ _ _ _ G2 _ ((n1.trans n2).trans n3) (a2.thenM n3 (a2.wf.chg e1 (.lst (t.append t2)))) .non k2
/-- sorted(d), d's keys whole numbers -/
def rSortDI : List V → Hp → VK → Prop := fun xs H Q => ∃ (a : Addr) (kvs : List (Key × V)) (ks : List Int), xs = [.ref a] ∧ Rd H a (.dK kvs) ∧ kvs.map (·.1) = ks.map Sum.inl ∧ ks.length < 64 ∧
    ∀ (ys : List Int) (p : Addr), ys.Perm ks → ys.Pairwise (· ≤ ·) → H p = none → Q (.ref p) (upd H p (.lst (ys.map V.int)))
theorem cr_sortDI {X : Cx} (hc : X.calm = true := by rfl) : CallR X (.builtin "sorted") rSortDI := call_sortedDI hc
theorem Dq.keys {κ : Type} {G : Hp} : ∀ {vs : List (κ × V)} {kvs : List (κ × Dt)}, Dq K G vs kvs → vs.map (·.1) = kvs.map (·.1)
  | _, _, .nil => rfl
  | _, _, .cons _ t => by rw [List.map_cons, List.map_cons, Dq.keys t]
theorem oc_sortDI {MV : Mh} {R : Dt → Prop} {p : Addr} {kvs : List (Key × Dt)} {ks : List Int} (hM : M p = some (.dic kvs)) (hk : kvs.map (·.1) = ks.map Sum.inl) (hz : ks.length < 64) (h : ∀ ys : List Int, ys.Perm ks → ys.Pairwise (· ≤ ·) → R (.lst (ys.map Dt.int))) :
    Oc K (Jt K J MV M) rSortDI [.ptr p] R := fun G H vs w r Q q => by
  cases r with
  | cons r1 r2 =>
    cases r2
    cases r1
    obtain ⟨us, _, hH, t⟩ := w.dicM hM
    refine ⟨p, us, ks, rfl, .inl hH, t.keys.trans hk, hz, fun ys b hp hs hb => ?_⟩
    have n1 := w.new hb (.lst (ys.map V.int))
    exact q _ _ _ _ n1 (.lst (.inl (.inl upd_same)) Da.ints) (h ys hp hs)
theorem eqV_int {a b : Int} : eqV (V.int a) (.int b) = decide (a = b) := by
  show (a == b) = _
  by_cases h : a = b
  · subst h; simp
  · simp [h]
/-- xs.index(k) of a list of whole numbers -/
theorem ev_index {J : Jm} {R : Dt → Prop} (h : Ev K J env to fun o => ∃ ns : List Int, o = .lst (ns.map Dt.int) ∧ Ev K J env te fun x => ∃ k, x = .int k ∧ k ∈ ns ∧ R (.int (ns.idxOf k : Nat))) : Ev K J env (tBM K "list" (rIndex K) to (tCons te tNil)) R := fun B G H σ w E Q q =>
  h B G H σ w E _ fun v o G0 H0 n0 r ⟨ns, e, h⟩ => by
    subst e
    cases r with
    | lst s t =>
      have := t.ints_inv
      subst this
      refine ⟨.inl ⟨rfl, _, same_l n0.gh s⟩, h B G0 H0 σ (n0.wf w) (E.mono n0) _ fun v x G1 H1 n1 rx ⟨k, e, hk, kk⟩ => ?_⟩
      subst e
      cases rx
      have hlt := List.idxOf_lt_length_of_mem hk
      have hge := List.getElem_idxOf hlt
      refine ⟨_, ns.map V.int, .int k, ns.idxOf k, .int k, rfl, rfl, same_l (n1.gg.trans n1.gh) s, rfl, List.all_eq_true.mpr fun z hz => ?_, ?_, ?_, fun m z hm hz => ?_, q _ _ G1 H1 (n0.trans n1) (.int _) kk⟩
      · obtain ⟨i, _, rfl⟩ := List.mem_map.mp hz
        rfl
      · rw [List.getElem?_map, List.getElem?_eq_getElem hlt, hge]; rfl
      · rw [eqV_int]; simp
      · rw [List.getElem?_map] at hz
        have hm2 : m < ns.length := by omega
        rw [List.getElem?_eq_getElem hm2] at hz
        have hz : V.int ns[m] = z := by simpa using hz
        subst hz
        rw [eqV_int]
        refine decide_eq_false fun e => ?_
        have := List.not_of_lt_findIdx (p := fun x => x == k) (xs := ns) (i := m) (by unfold List.idxOf at hm; exact hm)
        simp [e] at this
theorem o2_eqNI {J : Jm} {R : Dt → Prop} {i : Int} (h : R (.bl false)) : O2 K J L2.rEq .non (.int i) R := fun G H vx vy w rx ry Q q => by
  cases rx; cases ry
  exact ⟨rfl, q _ _ G H w.nx (.bl _) h⟩
end
end Mv

set_option Elab.async false
set_option linter.all false
set_option maxRecDepth 100000
set_option maxHeartbeats 4000000
/-! zip of two sequences, a list or a tuple each. -/
namespace Mv
open PySem PySem.Spec PyProof.Rows L2
/-- f: a tuple; otherwise a list -/
def SqF (K : PySem.W.Frag) (f : Bool) (H : Hp) (a : Addr) (xs : List V) : Prop := match f with | true => SqT K H a xs | false => SqL K H a xs
def atF (f : Bool) (i a : Addr) (k : Nat) (h : Heap) : Prop := match f with | true => h.IsTupleIter i a k | false => h.IsListIter i a k
def ofF (f : Bool) (a : Addr) (us : Array Value) (h : Heap) : Prop := match f with | true => h.IsTuple a us | false => h.IsList a us
theorem drawsF {P : Program} {w : World} {A : Around} (f : Bool) (hh : A.handled = none) {it a : Addr} (ne : a ≠ it) (us : Array Value) :
    Draws P w A it [it, a] us.size (fun i v => us[i]? = some v) (fun i h => atF f it a i h ∧ ofF f a us h) := by
  cases f
  · exact Draws.list hh it a ne us
  · exact Draws.tuple hh it a ne us
def startF (f : Bool) (a : Addr) : Obj := match f with
  | true => { cls := .type "tuple_iterator", data := .fields #[.ref a, .int 0 0] }
  | false => { cls := .type "list_iterator", data := .fields #[.ref a, .int 0 0] }
theorem beginsF (f : Bool) (a : Addr) (us : Array Value) : Begins (.ref a) (startF f a) (ofF f a us) := by
  cases f
  · exact begins_list a us
  · exact begins_tuple a us
theorem startF_at {f : Bool} {a it : Addr} {h : Heap} (e : h.get? it = some (startF f a)) : atF f it a 0 h := by
  cases f <;> exact ⟨_, e, rfl, rfl⟩
theorem atF_obj {f : Bool} {it a : Addr} {k : Nat} {h : Heap} (e : atF f it a k h) : ∃ o, h.get? it = some o ∧ ∀ v, o.data ≠ .cell v := by
  cases f <;> (obtain ⟨o, e1, _, e2⟩ := e; exact ⟨o, e1, fun v q => by rw [e2] at q; cases q⟩)
theorem atF_keep {f : Bool} {it a : Addr} {k : Nat} {h h' : Heap} (e : atF f it a k h) (q : ∀ o, h.get? it = some o → h'.get? it = some o) : atF f it a k h' := by
  cases f
  · exact Heap.IsListIter.at (show Heap.IsListIter h it a k from e) fun o z => q o z
  · exact Heap.IsTupleIter.at (show Heap.IsTupleIter h it a k from e) fun o z => q o z
section
variable {X : Cx} {pins : List (Addr × Obj)} {σ : L2.St} {H : Hp} {s : Shared}
theorem seqF {f : Bool} {a : Addr} {xs : List V} (I : Inv X pins σ H s) (h : SqF X.K f H a xs) : ∃ us : List Value, Vals xs us ∧ ofF f a us.toArray s.heap ∧ a < s.heap.objs.size := by
  cases f
  · obtain ⟨us, r, p, _⟩ := I.list h
    exact ⟨us, r, p.isList, p.lt⟩
  · obtain ⟨us, r, p, _⟩ := I.tuple h
    exact ⟨us, r, p, p.lt⟩
theorem oneF {f : Bool} {a : Addr} {xs ys : List V} (I : Inv X pins σ H s) (h : SqF X.K f H a xs) (h' : SqF X.K f H a ys) : xs = ys := by
  cases f
  · exact I.list_inj h h'
  · exact I.tuple_inj h h'
end
/-- what stands at a and b turn by turn, in new pairs -/
def ItF (K : PySem.W.Frag) (f g : Bool) (a b : Addr) : It where
  go i H := ∃ xs ys x y, SqF K f H a xs ∧ SqF K g H b ys ∧ xs[i]? = some x ∧ ys[i]? = some y
  yld i H v H' := ∃ T x y, v = .ref T ∧ H T = none ∧ H' = upd H T (.tup [x, y]) ∧ (∀ xs, SqF K f H a xs → xs[i]? = some x) ∧ ∀ ys, SqF K g H b ys → ys[i]? = some y
  stop i H := ∃ xs ys, SqF K f H a xs ∧ SqF K g H b ys ∧ i = min xs.length ys.length
def tnF (f g : Bool) (N : Nat) (a b : Addr) (i : Nat) (h : Heap) : Prop :=
  IsZip h (N + 4) (N + 2) (N + 3) .none ∧ IsTupOf2 h (N + 2) (.ref N) (.ref (N + 1)) ∧ (∃ u v, IsTupOf2 h (N + 3) u v) ∧ atF f N a i h ∧ atF g (N + 1) b i h
theorem mem5 {N : Nat} {c : Addr} (h : c ∈ [N + 4, N + 2, N + 3, N, N + 1]) : c = N + 4 ∨ c = N + 2 ∨ c = N + 3 ∨ c = N ∨ c = N + 1 := by simpa using h
theorem tnF_obj {f g : Bool} {N : Nat} {a b : Addr} {i : Nat} {h : Heap} (t : tnF f g N a b i h) (c : Addr) (hc : c ∈ [N + 4, N + 2, N + 3, N, N + 1]) : ∃ o, h.get? c = some o ∧ ∀ v, o.data ≠ .cell v := by
  obtain ⟨t1, t2, ⟨u, v, t3⟩, t4, t5⟩ := t
  rcases mem5 hc with e | e | e | e | e <;> rw [e]
  · exact ⟨_, t1, fun _ q => nomatch q⟩
  · exact ⟨_, t2, fun _ q => nomatch q⟩
  · exact ⟨_, t3, fun _ q => nomatch q⟩
  · exact atF_obj t4
  · exact atF_obj t5
theorem sepF {N a b : Nat} (ha : a < N) (hb : b < N) : ZipSep2 (N + 4) (N + 2) (N + 3) N (N + 1) [N, a] [N + 1, b] :=
  zip_sep2 (fp1 := [a]) (fp2 := [b]) (fun c hc => by rw [List.mem_singleton.mp hc]; exact ha) (fun c hc => by rw [List.mem_singleton.mp hc]; exact hb)
theorem turnF {P : Program} {w : World} {K : PySem.W.Frag} {elts : List Expr} {kk : Nat} {tpos : Pos} {f g : Bool} {N : Nat} {a b : Addr} (ha : a < N) (hb : b < N) :
    Turn P w K (.Tuple elts kk tpos) (ItF K f g a b) [N + 4, N + 2, N + 3, N, N + 1] (N + 4) (tnF f g N a b) where
  mem := List.mem_cons_self ..
  obj := fun i h t => tnF_obj t
  keep := fun i h h' t k => by
    obtain ⟨t1, t2, ⟨u, v, t3⟩, t4, t5⟩ := t
    exact ⟨k _ (by simp) _ t1, k _ (by simp) _ t2, ⟨u, v, k _ (by simp) _ t3⟩, atF_keep t4 (k _ (by simp)), atF_keep t5 (k _ (by simp))⟩
  item := by
    intro X hP hw hK hc i pins s σ H E I hf t hg
    subst hP hw hK
    obtain ⟨xs, ys, x, y, q1, q2, x1, y1⟩ := hg
    obtain ⟨us, r1, p1, _⟩ := seqF I q1
    obtain ⟨vs, r2, p2, _⟩ := seqF I q2
    obtain ⟨u, hu, ru⟩ := r1.get x1
    obtain ⟨v, hv, rv⟩ := r2.get y1
    have hob := fun c hc => tnF_obj t c hc
    obtain ⟨t1, t2, t3, t4, t5⟩ := t
    have l1 := (List.getElem?_eq_some_iff.mp hu).1
    have l2 := (List.getElem?_eq_some_iff.mp hv).1
    have W := WalksT.zipD2 (prog := X.prog) (w := X.w) (A := X.A) (sepF ha hb) (drawsF (A := X.A.in1) f (I.ok.hd hc) (Nat.ne_of_lt ha) us.toArray) (drawsF (A := X.A.in1) g (I.ok.hd hc) (show b ≠ N + 1 from Nat.ne_of_lt (Nat.lt_succ_of_lt hb)) vs.toArray)
    refine W.item i s _ _ (by simp; omega) ⟨t1, t2, t3, ⟨t4, p1⟩, ⟨t5, p2⟩⟩ fun T vals h1 tk ⟨z1, z2, e1, e2, e3⟩ hle hT mid k1 => ⟨_, rfl, ?_⟩
    have hz1 : z1 = u := by
      have : us[i]? = some z1 := by simpa using e1
      exact Option.some.inj (this.symm.trans hu)
    have hz2 : z2 = v := by
      have : vs[i]? = some z2 := by simpa using e2
      exact Option.some.inj (this.symm.trans hv)
    subst hz1 hz2 e3
    have ap := W.apart _ _ _ mid
    refine W.go elts kk tpos i T _ _ _ mid fun h2 st2 k2 => ?_
    obtain ⟨s1, s2, s3, ⟨s4, _⟩, s5, _⟩ := st2
    have hT2 : Heap.IsTuple h2 T #[z1, z2] := by
      obtain ⟨o, ho, r⟩ := hT
      exact ⟨o, k2 _ _ ap ho, r⟩
    have new : ObjOk X.prog X.w (upd H T (.tup [x, y])) h2 T (.tup [x, y]) := ⟨by show 2 ≤ sizeLine; decide, [z1, z2], .cons ru (.cons rv .nil), hT2⟩
    have sub : ∀ c, c ∉ [N + 4, N + 2, N + 3, N, N + 1] → c ∉ [N + 4, N + 3, N, N + 1] := fun c hc q => hc (by
      have q' : c = N + 4 ∨ c = N + 3 ∨ c = N ∨ c = N + 1 := by simpa using q
      rcases q' with q' | q' | q' | q' <;> simp [q'])
    refine ⟨.ref T, _, I.turnedNew (ch := [N + 4, N + 2, N + 3, N, N + 1]) (fun c o hc e => k2 c o (sub c hc) (k1 c o (sub c hc) e)) hf hle new, rfl, ⟨T, x, y, rfl, I.hok.fresh hle, rfl, fun l hl => by rw [oneF I hl q1]; exact x1, fun l hl => by rw [oneF I hl q2]; exact y1⟩,
      ⟨s1, s2, s3, s4, s5⟩, fun c hc => ?_⟩
    obtain ⟨o, e, _⟩ := hob c hc
    have lt := Heap.lt_size e
    rw [upd_ne (fun z : c = T => by rw [z] at lt; exact Nat.lt_irrefl _ (Nat.lt_of_lt_of_le lt hle))]
    exact (hf c hc).1
  done := by
    intro X hP hw hK hc i pins s σ H E I hf t hg
    subst hP hw hK
    obtain ⟨xs, ys, q1, q2, e⟩ := hg
    obtain ⟨us, r1, p1, _⟩ := seqF I q1
    obtain ⟨vs, r2, p2, _⟩ := seqF I q2
    obtain ⟨t1, t2, t3, t4, t5⟩ := t
    have W := WalksT.zipD2 (prog := X.prog) (w := X.w) (A := X.A) (sepF ha hb) (drawsF (A := X.A.in1) f (I.ok.hd hc) (Nat.ne_of_lt ha) us.toArray) (drawsF (A := X.A.in1) g (I.ok.hd hc) (show b ≠ N + 1 from Nat.ne_of_lt (Nat.lt_succ_of_lt hb)) vs.toArray)
    have e' : i = min us.toArray.size vs.toArray.size := by
      have := r1.length
      have := r2.length
      simp
      omega
    subst e'
    exact W.done s _ _ ⟨t1, t2, t3, ⟨t4, p1⟩, ⟨t5, p2⟩⟩ fun h' tk k => ⟨rfl, I.turnedL (ch := [N + 4, N + 2, N + 3, N, N + 1]) (fun c o hc e => k c o (fun q => hc (by
      have q' : c = N + 4 ∨ c = N + 3 ∨ c = N ∨ c = N + 1 := by simpa using q
      rcases q' with q' | q' | q' | q' <;> simp [q'])) e) hf⟩
  self := fun A i s Q E t h => wpAny_pyIter_zip t.1 h
def iZipF (K : PySem.W.Frag) (f g : Bool) (ta : TA) : TI := fun σ H R => ta σ H fun vs H1 => ∃ a b xs ys, vs = [.ref a, .ref b] ∧ SqF K f H1 a xs ∧ SqF K g H1 b ys ∧ R (ItF K f g a b) H1
theorem pi_zipF {X : Cx} {K : PySem.W.Frag} (f g : Bool) {e e2 : Expr} {ta : TA} {p pos tpos : Pos} {elts : List Expr} {kk : Nat} (hK : X.K = K) (hg : Gl X "zip") (hm : X.mg "zip" = none) (ha : PA X [e, e2] ta)
    (hs : starEach [e, e2] X.env = (false, eval e X.env) :: starEach [e2] X.env := by rfl) (hp : (backTo pos (starEach [e2] X.env)).any (·.1) = false := by rfl) :
    PI X (.Tuple elts kk tpos) (.Call (.Name "zip" p) [e, e2] [] pos) (iZipF K f g ta) := by
  subst hK
  refine ⟨fun pins s σ H R I h => Call_ (ld_blt I hg hm PyProof.Rows.boot_zip (PyProof.Rows.callWith_type1 (thn (ha.run pos pins s σ H _ I h) fun us s1 hv => ?_) hs hp))⟩
  obtain ⟨vs, H1, I1, r1, a, b, xs, ys, ex, q1, q2, q3⟩ := hv
  subst ex
  obtain ⟨u, v, rfl, ra, rb⟩ : ∃ u v, us = [u, v] ∧ RelV (.ref a) u ∧ RelV (.ref b) v := by
    cases r1 with
    | cons h1 h2 =>
      cases h2 with
      | cons h2 h3 =>
        cases h3
        exact ⟨_, _, rfl, h1, h2⟩
  cases ra
  cases rb
  obtain ⟨us, _, p1, l1⟩ := seqF I1 q1
  obtain ⟨ws, _, p2, l2⟩ := seqF I1 q2
  refine zip_begins2 (beginsF f a us.toArray) (beginsF g b ws.toArray) p1 p2 fun h' y1 y2 y3 y4 y5 y6 y7 => wpAny_pyIter_zip y1 ?_
  have I2 : Inv X pins σ H1 { s1 with heap := h' } := I1.kept (t' := s1.toks) y7
  refine ⟨s1.heap.objs.size + 4, _, _, _, H1, rfl, I2, turnF (f := f) (g := g) l1 l2, ⟨y1, y2, ⟨_, _, y3⟩, startF_at y4, startF_at y5⟩, fun c hc => ?_, q3⟩
  have hle : s1.heap.objs.size ≤ c := by rcases mem5 hc with e | e | e | e | e <;> (rw [e]; first | exact Nat.le_refl _ | exact Nat.le_add_right _ _)
  exact I1.fpOk hle (I1.hok.fresh hle)
end Mv
namespace Mv
open PySem PySem.Spec PyProof.Rows L2
section
variable {K : PySem.W.Frag} {J : Jm} {M : Mm} {env : List Sl} {D : DM} {ta : TA}
def mkF (f : Bool) (xs : List Dt) : Dt := match f with | true => .tup xs | false => .lst xs
theorem walkF {f g : Bool} {a b : Addr} {xs ys : List V} (h : xs.length = ys.length) : Walk (ItF K f g a b) xs.length (fun H => SqF K f H a xs ∧ SqF K g H b ys) (YPair (fun i => xs[i]?) fun i => ys[i]?) := by
  refine ⟨fun i _ hi q => ⟨xs, ys, xs[i], ys[i]'(h ▸ hi), q.1, q.2, List.getElem?_eq_getElem _, List.getElem?_eq_getElem _⟩, fun _ q => ⟨xs, ys, q.1, q.2, by omega⟩, fun i H v H' _ q y => ?_⟩
  obtain ⟨T, x, y, y1, y2, y3, y4, y5⟩ := y
  exact ⟨T, x, y, y1, y2, y3, y4 xs q.1, y5 ys q.2⟩
/-- a datum of the kind stands in H -/
theorem drF {f : Bool} {G : Hp} {v : V} {xs : List Dt} (r : Dr K G v (mkF f xs)) : ∃ a us, v = .ref a ∧ SqF K f G a us ∧ Da K G us xs := by
  cases f
  · cases r with
    | lst s t => exact ⟨_, _, rfl, s, t⟩
  · cases r with
    | tup s t => exact ⟨_, _, rfl, s, t⟩
theorem sameF {f : Bool} {G H : Hp} {a : Addr} {us : List V} (sg : Same G H) (s : SqF K f G a us) : SqF K f H a us := by
  cases f
  · exact same_l sg s
  · exact same_t sg s
theorem zipD_get {xs ys : List Dt} {i : Nat} {c d : Dt} (h1 : xs[i]? = some c) (h2 : ys[i]? = some d) : (zipD xs ys)[i]? = some (pairD c d) := by
  unfold zipD
  rw [List.getElem?_zipWith, h1, h2]
theorem eim_zipF {f g : Bool} {R : Mm → List Dt → Mm → Prop} (h : EdM K J M env D ta fun zs M' => ∃ xs ys, zs = [mkF f xs, mkF g ys] ∧ xs.length = ys.length ∧ R A0 (zipD xs ys) M') : EiM K J M env D (iZipF K f g ta) R := fun MV0 MV GB B G H σ a x Q q =>
  h MV0 MV GB B G H σ a x _ fun vs zs M' MV' G' H' sg a' r ⟨xs, ys, e, hl, k⟩ => by
    subst e
    cases r with
    | cons r1 r2 =>
      cases r2 with
      | cons r2 r3 =>
        cases r3
        obtain ⟨p, us, rfl, s, t⟩ := drF r1
        obtain ⟨b, ws, rfl, s', t'⟩ := drF r2
        have hl' : us.length = ws.length := by rw [t.length, t'.length, hl]
        refine ⟨p, b, us, ws, rfl, sameF a'.wf.gh s, sameF a'.wf.gh s', q _ A0 _ M' MV' G' H' sg a' ag0 (.of fun _ => wk_pairs (walkF hl') (by rw [zipD_len hl, t.length]) (fun G2 H2 s1 s2 => ⟨sameF (s1.trans s2) s, sameF (s1.trans s2) s'⟩) fun i x y h1 h2 => ?_) k⟩
        obtain ⟨c, hc, rc⟩ := t.get' h1
        obtain ⟨d, hd, rd⟩ := t'.get' h2
        exact ⟨c, d, zipD_get hc hd, rc, rd⟩
/-- one of the two told -/
theorem wk_zipM {f g : Bool} {a b p : Addr} {xs ys zs : List Dt} {G : Hp} (hl : xs.length = ys.length)
    (ex : ∀ MV M' G1 H1, Same G G1 → Wf (Jt K J MV M') G1 H1 → M' p = some (.lst zs) → ∃ us ws, SqF K f H1 a us ∧ SqF K g H1 b ws ∧ Da K G1 us xs ∧ Da K G1 ws ys) : WkM K J (onlyM p (.lst zs)) G (ItF K f g a b) (zipD xs ys) := by
  refine ⟨fun i MV M G1 H1 sg w ag hi => ?_, fun MV M G1 H1 sg w ag => ?_, fun i MV M G1 H1 x H2 sg w ag hi y => ?_⟩ <;> obtain ⟨us, ws, s1, s2, t1, t2⟩ := ex MV M G1 H1 sg w (ag1.mp ag) <;>
    have hl' : us.length = ws.length := by rw [t1.length, t2.length, hl]
  · exact (walkF hl').goes i H1 (by rw [t1.length, ← zipD_len hl]; exact hi) ⟨s1, s2⟩
  · have := (walkF (K := K) hl').stops H1 ⟨s1, s2⟩
    rw [t1.length, ← zipD_len hl] at this
    exact this
  · obtain ⟨T, u, v, rfl, hT, rfl, k1, k2⟩ := (walkF hl').yields i H1 x H2 (by rw [t1.length, ← zipD_len hl]; exact hi) ⟨s1, s2⟩ y
    obtain ⟨c, hc, rc⟩ := t1.get' k1
    obtain ⟨d, hd, rd⟩ := t2.get' k2
    have n2 := w.new hT (.tup [u, v])
    exact ⟨_, _, n2, zipD_get hc hd, .tup (.inl (.inl upd_same)) (.cons (rc.mono n2.gg) (.cons (rd.mono n2.gg) .nil))⟩
theorem eim_zipPF {g : Bool} {R : Mm → List Dt → Mm → Prop} (h : EdM K J M env D ta fun zs M' => ∃ p xs ys, zs = [.ptr p, mkF g ys] ∧ M' p = some (.lst xs) ∧ xs.length = ys.length ∧ R (onlyM p (.lst xs)) (zipD xs ys) M') :
    EiM K J M env D (iZipF K false g ta) R := fun MV0 MV GB B G H σ a x Q q =>
  h MV0 MV GB B G H σ a x _ fun vs zs M' MV' G' H' sg a' r ⟨p, xs, ys, e, hM, hl, k⟩ => by
    subst e
    cases r with
    | cons r1 r2 =>
      cases r2 with
      | cons r2 r3 =>
        cases r3
        cases r1
        obtain ⟨b, ws, rfl, s', t'⟩ := drF r2
        obtain ⟨us, e1, e2, t⟩ := a'.wf.lstM hM
        refine ⟨p, b, us, ws, rfl, .inl (.inl e2), sameF a'.wf.gh s', q _ _ _ M' MV' G' H' sg a' (ag1.mpr hM) (wk_zipM hl fun MV2 M2 G1 H1 s1 w1 hM1 => ?_) k⟩
        obtain ⟨us1, _, e3, t1⟩ := w1.lstM hM1
        exact ⟨us1, ws, .inl (.inl e3), sameF (s1.trans w1.gh) s', t1, t'.mono s1⟩
theorem eim_zipFP {f : Bool} {R : Mm → List Dt → Mm → Prop} (h : EdM K J M env D ta fun zs M' => ∃ p xs ys, zs = [mkF f xs, .ptr p] ∧ M' p = some (.lst ys) ∧ xs.length = ys.length ∧ R (onlyM p (.lst ys)) (zipD xs ys) M') :
    EiM K J M env D (iZipF K f false ta) R := fun MV0 MV GB B G H σ a x Q q =>
  h MV0 MV GB B G H σ a x _ fun vs zs M' MV' G' H' sg a' r ⟨p, xs, ys, e, hM, hl, k⟩ => by
    subst e
    cases r with
    | cons r1 r2 =>
      cases r2 with
      | cons r2 r3 =>
        cases r3
        cases r2
        obtain ⟨b, ws, rfl, s', t'⟩ := drF r1
        obtain ⟨us, e1, e2, t⟩ := a'.wf.lstM hM
        refine ⟨b, p, ws, us, rfl, sameF a'.wf.gh s', .inl (.inl e2), q _ _ _ M' MV' G' H' sg a' (ag1.mpr hM) (wk_zipM hl fun MV2 M2 G1 H1 s1 w1 hM1 => ?_) k⟩
        obtain ⟨us1, _, e3, t1⟩ := w1.lstM hM1
        exact ⟨ws, us1, sameF (s1.trans w1.gh) s', .inl (.inl e3), t'.mono s1, t1⟩
end
end Mv

set_option Elab.async false
set_option linter.all false
set_option maxRecDepth 100000
set_option maxHeartbeats 4000000
/-! a told list zipped, the objects left alone -/
namespace Mv
open PySem PySem.Spec PyProof.Rows L2
section
variable {K : PySem.W.Frag} {J : Jm} {M : Mm} {MV : Mh} {env : List Sl} {ta : TA}
theorem ei_zipPF {g : Bool} {R : List Dt → Prop} (h : Ed K (Jt K J MV M) env ta fun zs => ∃ p xs ys, zs = [.ptr p, mkF g ys] ∧ M p = some (.lst xs) ∧ xs.length = ys.length ∧ R (zipD xs ys)) :
    Ei K (Jt K J MV M) env (iZipF K false g ta) R := fun B G H σ w E Q q =>
  h B G H σ w E _ fun vs zs G1 H1 n1 r ⟨p, xs, ys, e, hM, hl, k⟩ => by
    subst e
    have w1 := n1.wf w
    cases r with
    | cons r1 r2 =>
      cases r2 with
      | cons r2 r3 =>
        cases r3
        cases r1
        obtain ⟨b, ws, rfl, s', t'⟩ := drF r2
        obtain ⟨us, e1, e2, t⟩ := w1.lstM hM
        refine ⟨p, b, us, ws, rfl, .inl (.inl e2), sameF w1.gh s', q _ _ G1 H1 n1 (WkM.wk (A := onlyM p (.lst xs)) (wk_zipM hl fun MV2 M2 G2 H2 s1 w2 hM1 => ?_) (ag1.mpr hM)) k⟩
        obtain ⟨us1, _, e3, t1⟩ := w2.lstM hM1
        exact ⟨us1, ws, .inl (.inl e3), sameF (s1.trans w2.gh) s', t1, t'.mono s1⟩
theorem ei_zipF {J : Jm} {f g : Bool} {R : List Dt → Prop} (h : Ed K J env ta fun zs => ∃ xs ys, zs = [mkF f xs, mkF g ys] ∧ xs.length = ys.length ∧ R (zipD xs ys)) : Ei K J env (iZipF K f g ta) R := fun B G H σ w E Q q =>
  h B G H σ w E _ fun vs zs G1 H1 n1 r ⟨xs, ys, e, hl, k⟩ => by
    subst e
    have w1 := n1.wf w
    cases r with
    | cons r1 r2 =>
      cases r2 with
      | cons r2 r3 =>
        cases r3
        obtain ⟨p, us, rfl, s, t⟩ := drF r1
        obtain ⟨b, ws, rfl, s', t'⟩ := drF r2
        have hl' : us.length = ws.length := by rw [t.length, t'.length, hl]
        refine ⟨p, b, us, ws, rfl, sameF w1.gh s, sameF w1.gh s', q _ _ G1 H1 n1 (wk_pairs (walkF hl') (by rw [zipD_len hl, t.length]) (fun G2 H2 s1 s2 => ⟨sameF (s1.trans s2) s, sameF (s1.trans s2) s'⟩) fun i x y h1 h2 => ?_) k⟩
        obtain ⟨c, hc, rc⟩ := t.get' h1
        obtain ⟨d, hd, rd⟩ := t'.get' h2
        exact ⟨c, d, zipD_get hc hd, rc, rd⟩
theorem ei_zipFP {f : Bool} {R : List Dt → Prop} (h : Ed K (Jt K J MV M) env ta fun zs => ∃ p xs ys, zs = [mkF f xs, .ptr p] ∧ M p = some (.lst ys) ∧ xs.length = ys.length ∧ R (zipD xs ys)) :
    Ei K (Jt K J MV M) env (iZipF K f false ta) R := fun B G H σ w E Q q =>
  h B G H σ w E _ fun vs zs G1 H1 n1 r ⟨p, xs, ys, e, hM, hl, k⟩ => by
    subst e
    have w1 := n1.wf w
    cases r with
    | cons r1 r2 =>
      cases r2 with
      | cons r2 r3 =>
        cases r3
        cases r2
        obtain ⟨b, ws, rfl, s', t'⟩ := drF r1
        obtain ⟨us, e1, e2, t⟩ := w1.lstM hM
        refine ⟨b, p, ws, us, rfl, sameF w1.gh s', .inl (.inl e2), q _ _ G1 H1 n1 (WkM.wk (A := onlyM p (.lst ys)) (wk_zipM hl fun MV2 M2 G2 H2 s1 w2 hM1 => ?_) (ag1.mpr hM)) k⟩
        obtain ⟨us1, _, e3, t1⟩ := w2.lstM hM1
        exact ⟨ws, us1, sameF (s1.trans w2.gh) s', .inl (.inl e3), t'.mono s1, t1⟩
end
section
variable {K : PySem.W.Frag} {J : Jm} {R : Dt → Prop}
/-- the least of a list of whole numbers -/
theorem oc_minL {ns : List Int} (hne : 0 < ns.length) (h : ∀ m, m ∈ ns → (∀ y ∈ ns, m ≤ y) → R (.int m)) : Oc K J (L2.rMin K) [.lst (ns.map Dt.int)] R := fun G H vs w rs Q q => by
  cases rs with
  | cons r1 r2 =>
    cases r2
    cases r1 with
    | lst s t =>
      have e := t.ints_inv
      subst e
      exact ⟨_, ns, rfl, same_l w.gh s, hne, fun m hm hy => q _ _ G H w.nx (.int _) (h m hm hy)⟩
theorem c_minLK (K : PySem.W.Frag) {X : Cx} (hc : X.calm = true := by rfl) (h : X.K = K := by rfl) : CallR X (.builtin "min") (L2.rMin K) := h ▸ cr_min hc
end
section
variable {K : PySem.W.Frag} {J : Jm} {env : List Sl} {te : TE} {D : DE}
/-- return of a list that is new -/
theorem sv_retE (h : Em K J env te D.rm) : Sv K J env (tRet te) D := fun GB B G H σ a E _ _ _ _ q5 _ =>
  h B G H σ a.wf a.en _ fun p vs ds G1 H1 n1 hG hH hp r k => q5 p vs ds G1 H1 (a.nx.trans n1) hG (by
    cases z : B p with
    | none => rfl
    | some o => exact absurd hH (a.nx.th p (by rw [z]; simp))) hp r k
end
section
variable {K : PySem.W.Frag} {J : Jm} {env : List Sl} {tl th : TO}
/-- xs[lo:hi] of a slot's own list -/
theorem em_slM {i : Nat} {xs : List Dt} {R : List Dt → Prop} (hi : env[i]? = some (.ml xs)) (h : Ep K J env tl fun lo => Ep K J env th fun hi => R (cutD xs lo hi)) : Em K J env (tSl (rSlL K) (tVar i) tl th) R := fun B G H σ w E Q q => by
  obtain ⟨p, vs, h1, hH, r, hm, hG⟩ := E.lst hi
  refine ⟨.ref p, h1, h B G H σ w E _ fun lo G2 H2 n2 k2 => k2 B G2 H2 σ (n2.wf w) (E.mono n2) _ fun hi G3 H3 n3 k3 => ?_⟩
  have n := n2.trans n3
  have w3 := n.wf w
  refine ⟨p, vs, rfl, .inl (.inl (n.kp p _ hH hm)), fun l hl => ?_⟩
  refine q l _ _ G3 _ (n.trans (w3.newM hl _)) (w3.free hl) ?_ upd_same (da_cut (r.mono n.gg) lo hi) k3
  cases z : H l with
  | none => rfl
  | some o => exact absurd hl (n.th l (by rw [z]; simp))
end
section
variable {K : PySem.W.Frag} {J : Jm} {M : Mm} {MV : Mh} {R : Dt → Prop}
/-- the least of a told list -/
theorem oc_minP {a : Addr} {ns : List Int} (hM : M a = some (.lst (ns.map Dt.int))) (hne : 0 < ns.length) (h : ∀ m, m ∈ ns → (∀ y ∈ ns, m ≤ y) → R (.int m)) : Oc K (Jt K J MV M) (L2.rMin K) [.ptr a] R := fun G H vs w rs Q q => by
  cases rs with
  | cons r1 r2 =>
    cases r2
    cases r1
    obtain ⟨us, _, e2, t⟩ := w.lstM hM
    have e := t.ints_inv
    subst e
    exact ⟨a, ns, rfl, .inl (.inl e2), hne, fun m hm hy => q _ _ G H w.nx (.int _) (h m hm hy)⟩
end
section
variable {K : PySem.W.Frag} {J : Jm} {env : List Sl} {ta : TA}
theorem ei_range2 {R : List Dt → Prop} (h : Ed K J env ta fun xs => ∃ i j : Int, xs = [.int i, .int j] ∧ -1000000 ≤ i ∧ i ≤ 1000000 ∧ -1000000 ≤ j ∧ j ≤ 1000000 ∧ R ((List.range (j - i).toNat).map fun k => Dt.int (i + (k : Nat)))) : Ei K J env (iRng2 ta) R := fun B G H σ w E Q q =>
  h B G H σ w E _ fun vs xs G1 H1 n1 r ⟨i, j, e, h0, h1, h2, h3, k⟩ => by
    subst e
    cases r with
    | cons r1 r2 =>
      cases r2 with
      | cons r2 r3 =>
        cases r1
        cases r2
        cases r3
        exact ⟨i, j, rfl, ⟨by omega, by omega, by omega, by omega⟩, q _ _ G1 H1 n1 wk_range k⟩
end
end Mv

set_option Elab.async false
set_option linter.all false
set_option maxRecDepth 100000
set_option maxHeartbeats 4000000
/-! an instance made without arguments -/
namespace Mv
open PySem PySem.Spec PyProof.Rows L2
theorem pe_makeC0 {X : Cx} {k : Nat} {x : Str} {ps : List Str} {C : Addr} {sp : Sp} {p pos : Pos} (M : MkI X.prog X.w X.K X.mg X.base k x ps C sp) (hr : Room (k + 1) X.A) (hg : Gl X x) (hdb : (x == ("__debug__" : Str)) = false := by decide) :
    PE X (.Call (.Name x p) [] [] pos) (tMake C sp [] E0 tNil) := by
  obtain ⟨f, fd, m, F, g, b⟩ := M.ex
  exact pe_make0 m F hr hg g b .nil passL hdb
section
variable {K : PySem.W.Frag} {J : Jm} {M : Mm} {env : List Sl} {D : DM} {ta : TA}
/-- a, b = x, y with plain names -/
theorem sm_par {i j : Nat} (h : EdM K J M env D ta fun ds M' => ∃ d e, ds = [d, e] ∧ D.nx M' ((env.set i (.d d)).set j (.d e))) : SvM K J M env (tPar i j ta) D := fun MV0 MV GB B G H σ a E r =>
  h MV0 MV GB B G H σ a r.x _ fun vs ds M' MV' G' H' _ a' rs ⟨d, e, he, k⟩ => by
    subst he
    cases rs with
    | cons r1 r2 =>
      cases r2 with
      | cons r2 r3 =>
        cases r3
        exact ⟨_, _, rfl, r.nx M' MV' _ G' H' _ ((a'.setD r1).setD r2) k⟩
end
end Mv

set_option Elab.async false
set_option linter.all false
set_option maxRecDepth 100000
set_option maxHeartbeats 4000000
/-! Truth values within sums; str of an int and of a truth value; data of which all parts are small. -/
namespace Mv
open PySem PySem.Spec PyProof.Rows L2
def rJ (g : Int → Int → Int) : R2 := fun x y H Q => (∃ i j, x = .int i ∧ y = .int j ∧ Q (.int (g i j)) H) ∨ (∃ (b : Bool) (j : Int), x = .bl b ∧ y = .int j ∧ Q (.int (g (if b = true then 1 else 0) j)) H) ∨ ∃ (i : Int) (b : Bool), x = .int i ∧ y = .bl b ∧ Q (.int (g i (if b = true then 1 else 0))) H
section
variable {X : Cx}
theorem op_addJ : OpR X (binaryOp .Add) (rJ (· + ·)) := by
  intro pins s σ H x y v u Q I rx ry h
  rcases h with ⟨i, j, rfl, rfl, q⟩ | ⟨b, j, rfl, rfl, q⟩ | ⟨i, b, rfl, rfl, q⟩
  · obtain ⟨t, rfl⟩ := rx
    obtain ⟨t', rfl⟩ := ry
    exact add_int ⟨.int _, H, I.tok _, ⟨_, rfl⟩, q⟩
  · cases rx
    obtain ⟨t', rfl⟩ := ry
    exact PySem.IntBool.add_bool_int ⟨.int _, H, I.tok _, ⟨_, rfl⟩, q⟩
  · obtain ⟨t, rfl⟩ := rx
    cases ry
    exact PySem.add_int_bool ⟨.int _, H, I.tok _, ⟨_, rfl⟩, q⟩
theorem op_subJ : OpR X (binaryOp .Sub) (rJ (· - ·)) := by
  intro pins s σ H x y v u Q I rx ry h
  rcases h with ⟨i, j, rfl, rfl, q⟩ | ⟨b, j, rfl, rfl, q⟩ | ⟨i, b, rfl, rfl, q⟩
  · obtain ⟨t, rfl⟩ := rx
    obtain ⟨t', rfl⟩ := ry
    exact sub_int ⟨.int _, H, I.tok _, ⟨_, rfl⟩, q⟩
  · cases rx
    obtain ⟨t', rfl⟩ := ry
    exact PySem.IntBool.sub_bool_int ⟨.int _, H, I.tok _, ⟨_, rfl⟩, q⟩
  · obtain ⟨t, rfl⟩ := rx
    cases ry
    exact PySem.IntBool.sub_int_bool ⟨.int _, H, I.tok _, ⟨_, rfl⟩, q⟩
def rStrX : List V → Hp → VK → Prop := fun xs H Q => (∃ i, xs = [.int i] ∧ i.natAbs.log2 < 1920 ∧ Q (.str (Str.ofString (toString i))) H) ∨ ∃ b : Bool, xs = [.bl b] ∧ Q (.str (if b then "True" else "False")) H
theorem c_strX : CallR X (.type "str") rStrX := by
  intro pins s σ H xs us Q I r h
  rcases h with ⟨i, rfl, hz, q⟩ | ⟨b, rfl, q⟩
  · obtain ⟨u, rfl, t, rfl⟩ := vals1 r
    exact PySem.P.str_of_int hz ⟨.str _, H, I.tok _, ⟨_, rfl⟩, q⟩
  · obtain ⟨u, rfl, r1⟩ := vals1 r
    cases r1
    exact PySem.P.str_of_bool ⟨.str _, H, I.tok _, ⟨_, rfl⟩, q⟩
end
/-- an int, or a truth value as one -/
def intV : Dt → Option Int
  | .int i => some i
  | .bl b => some (if b = true then 1 else 0)
  | _ => none
section
variable {K : PySem.W.Frag} {J : Jm} {R : Dt → Prop}
theorem o2_JL {g : Int → Int → Int} {x : Dt} {i j : Int} (hx : intV x = some i) (h : R (.int (g i j))) : O2 K J (rJ g) x (.int j) R := fun G H vx vy w rx ry Q q => by
  cases x <;> cases hx
  · cases rx; cases ry
    exact .inr (.inl ⟨_, j, rfl, rfl, q _ _ G H w.nx (.int _) h⟩)
  · cases rx; cases ry
    exact .inl ⟨_, j, rfl, rfl, q _ _ G H w.nx (.int _) h⟩
theorem o2_JR {g : Int → Int → Int} {y : Dt} {i j : Int} (hy : intV y = some j) (h : R (.int (g i j))) : O2 K J (rJ g) (.int i) y R := fun G H vx vy w rx ry Q q => by
  cases y <;> cases hy
  · cases rx; cases ry
    exact .inr (.inr ⟨i, _, rfl, rfl, q _ _ G H w.nx (.int _) h⟩)
  · cases rx; cases ry
    exact .inl ⟨i, _, rfl, rfl, q _ _ G H w.nx (.int _) h⟩
theorem strOk_of (s : String) : PyData.strOk (Str.ofString s) = true := by
  unfold PyData.strOk
  rw [Str.ofString_eq_toList]
  rw [Array.all_eq_true_iff_forall_mem]
  intro x hx
  have hx : x ∈ s.toList.map Char.toNat := by simpa using hx
  obtain ⟨c, _, rfl⟩ := List.mem_map.mp hx
  have h := c.valid
  rw [decide_eq_true_eq]
  show c.val.toNat < 0x110000
  rcases h with h | h
  · have h : c.val.toNat < 0xd800 := h
    omega
  · exact h.2
theorem oc_strX {x : Dt} {i : Int} (hx : intV x = some i) (hz : i.natAbs ≤ 100000) (h : ∀ s, PyData.strOk s = true → R (.str s)) : Oc K J rStrX [x] R := fun G H vs w rs Q q => by
  cases rs with
  | cons r1 r2 =>
    cases r2
    cases x <;> cases hx
    · cases r1
      rename_i b
      exact .inr ⟨b, rfl, q _ _ G H w.nx (.str _) (h _ (by cases b <;> exact strOk_of _))⟩
    · cases r1
      refine .inl ⟨i, rfl, ?_, q _ _ G H w.nx (.str _) (h _ (strOk_of _))⟩
      by_cases h0 : i.natAbs = 0
      · rw [h0]; decide
      · have := Nat.log2_self_le h0
        have h2 : i.natAbs.log2 < 2 ^ i.natAbs.log2 := Nat.lt_two_pow_self
        have h3 : i.natAbs.log2 ≤ 100000 := by omega
        by_cases h4 : i.natAbs.log2 < 20
        · omega
        · have : 2 ^ 20 ≤ 2 ^ i.natAbs.log2 := Nat.pow_le_pow_right (by decide) (by omega)
          have e : (2 : Nat) ^ 20 = 1048576 := by decide
          omega
end
/-- data of which all parts are small: so many members at most, ints so great at most -/
inductive Tam (c : Nat) : Nat → Dt → Prop
  | non (n : Nat) : Tam c n .non
  | bl (n : Nat) (b : Bool) : Tam c n (.bl b)
  | int (n : Nat) (i : Int) (h : i.natAbs ≤ c + 100) : Tam c n (.int i)
  | str (n : Nat) (s : Str) (h : PyData.strOk s = true) : Tam c n (.str s)
  | lst (n : Nat) (ds : List Dt) (hz : ds.length ≤ c) (h : ∀ d, d ∈ ds → Tam c n d) : Tam c (n + 1) (.lst ds)
  | tup (n : Nat) (ds : List Dt) (hz : ds.length ≤ c) (h : ∀ d, d ∈ ds → Tam c n d) : Tam c (n + 1) (.tup ds)
theorem Tam.mono {c c' n n' : Nat} {d : Dt} (h : Tam c n d) (h1 : c ≤ c') (h2 : n ≤ n') : Tam c' n' d := by
  induction h generalizing n' with
  | non => exact .non _
  | bl => exact .bl _ _
  | int n i h => exact .int _ _ (by omega)
  | str n s h => exact .str _ _ h
  | lst n ds hz h ih =>
    obtain ⟨m, rfl⟩ : ∃ m, n' = m + 1 := ⟨n' - 1, by omega⟩
    exact .lst _ _ (by omega) fun d hd => ih d hd (by omega)
  | tup n ds hz h ih =>
    obtain ⟨m, rfl⟩ : ∃ m, n' = m + 1 := ⟨n' - 1, by omega⟩
    exact .tup _ _ (by omega) fun d hd => ih d hd (by omega)
theorem Tam.flat {c n : Nat} {d : Dt} (h : Tam c n d) (hc : c ≤ 100000) : Flat n d := by
  induction h with
  | non => exact .non _
  | bl => exact .bl _ _
  | int => exact .int _ _
  | str => exact .str _ _
  | lst n ds hz h ih => exact .lst _ _ (by omega) ih
  | tup n ds hz h ih => exact .tup _ _ (by omega) ih
theorem Tam.txt {c n : Nat} {d : Dt} (h : Tam c n d) : txtD d = true := by
  induction h with
  | non => simp [txtD]
  | bl => simp [txtD]
  | int => simp [txtD]
  | str n s h => simpa [txtD] using h
  | lst n ds hz h ih => rw [txt_lst]; exact txtDs_iff.mpr ih
  | tup n ds hz h ih => rw [txt_tup]; exact txtDs_iff.mpr ih
theorem Tam.intV {c n : Nat} {d : Dt} {i : Int} (h : Tam c n d) (e : Mv.intV d = some i) : i.natAbs ≤ c + 100 := by
  cases h <;> cases e
  · rename_i b
    cases b <;> simp <;> omega
  · assumption
theorem cut_mem {ds : List Dt} {lo hi : Option Int} {d : Dt} (h : d ∈ cutD ds lo hi) : d ∈ ds := List.mem_of_mem_drop (List.mem_of_mem_take h)
theorem cut_two {ds : List Dt} {a b : Nat} : (cutD ds (some (a : Int)) (some (b : Int))).length ≤ min (b - a) (ds.length - a) := by
  unfold cutD
  rw [sIx_nat, sIx_nat, List.length_take, List.length_drop]
  omega
end Mv

set_option Elab.async false
set_option linter.all false
set_option maxRecDepth 100000
set_option maxHeartbeats 4000000
/-! a, b, c = a list; calls by keywords whose error goes where the code wishes. -/
namespace Mv
open PySem PySem.Spec PyProof.Rows L2
section
variable {K : PySem.W.Frag} {J : Jm} {env : List Sl} {X : Cx}
theorem pg_lstK (n : Nat) {es : List Expr} {k : Nat} {t : TGs} {pos : Pos} (hc : X.calm = true) (h : PGs X es t) (hk : X.K = K := by rfl)
    (hn : (assignEach es X.env).length = n := by rfl) (hst : (assignEach es X.env).findIdx? (·.1) = none := by rfl) : PG X (.Tuple es k pos) (gLst K n t) := hk ▸ pg_lst hc h hn hst
theorem gt_lst {u : TGs} {n : Nat} {ds : List Dt} {S : List Nat} {R : List Sl → Prop} (hn : ds.length = n) (h : Gs K J env u ds S R) : Gt K J env (gLst K n u) (.lst ds) S R := fun B G H σ v w E r Q q => by
  cases r with
  | lst s t => exact ⟨_, _, rfl, same_l w.gh s, by rw [t.length]; exact hn, h B G H σ _ w E t Q q⟩
def tCallKS (sp : Sp) (gV : List V → List V → List V) (E : L2.St → XK) (tk : TA) : TE := fun σ H Q => tk σ H fun zs H2 => sp (gV [] zs) H2 Q (E σ)
theorem run_fnkS {CX : CXT} {k : Nat} {f : Addr} {fd : FuncData} {ps ks : List Str} {sp : Sp} {E : L2.St → XK} {g : List Value → List Value → List Value} {gV : List V → List V → List V} {pins : List (Addr × Obj)} {σ : L2.St} {H : Hp} {s : Shared} {Q : VK} {us ws : List Value} {vs zs : List V}
    (F : FnOk X.prog X.w X.K X.mg X.base CX k f fd ps sp) (hr : Room k X.A) (hb : KBinds X.K fd ps ks g gV) (hx : PassesAt CX X σ (E σ))
    (I : Inv X pins σ H s) (r : Vals vs us) (rz : Vals zs ws) (h : sp (gV vs zs) H Q (E σ)) : wpAny (model X.prog X.w) X.A (call (.ref f) us (ks.zip ws)) (EP X pins σ Q) X.xe s := by
  have r2 := hb.rel r rz
  have hl : (g us ws).length = ps.length := by rw [← r2.length]; exact F.len _ _ _ _ h
  refine wpAny_call (codeAny_mono (F.run X.A X.stack s H ⟨us, ks.zip ws⟩ (g us ws) (gV vs zs) Q (E σ) hr I.env0 (hb.to s us ws I.kIn hl) r2 h) fun r s' hq => ?_)
  cases r with
  | error e => exact hx pins H s e s' I hq
  | ok fl =>
    cases fl with
    | ret u => exact I.after hq
    | next => exact False.elim hq
    | brk => exact False.elim hq
    | cont => exact False.elim hq
theorem pe_callKwW (W : WX) (tw : Takes X W) {k : Nat} {x : Str} {ps ks : List Str} {pi : List Nat} {sp : Sp} {p pos : Pos} {kws : List Keyword} {tk : TA} (C : CalKwX X.prog X.w X.K X.mg X.base k x ps ks pi sp) (hr : Room k X.A) (hg : Gl X x)
    (hkw : PK X kws tk) (hall : (backToKw pos (keywordEach kws X.env)).all (·.1.isSome) = true := by rfl) (hks : (backToKw pos (keywordEach kws X.env)).filterMap (·.1) = ks := by rfl) (hdb : (x == ("__debug__" : Str)) = false := by decide)
    (hpl : ((backTo pos (starEach [] X.env)).any (·.1) || (backToKw pos (keywordEach kws X.env)).any (·.1.isNone)) = false := by rfl) : PE X (.Call (.Name x p) [] kws pos) (tCallKS sp (kwP pi) (WE W) tk) := by
  obtain ⟨f, fd, F, hm, hk, hb⟩ := C.ex
  refine ⟨fun pins s σ H Q I h => ?_⟩
  refine wpAny_Call_Name_kw (ld_glob I hg hm ?_ hdb)
  refine PySem.W.callWith_KW0 (h₀ := X.base) I.ok.mod.kin hk hall (thn (hkw.run pos pins s σ H _ I h) fun ws s2 ⟨zs, H2, I2, rz, q2⟩ => ⟨I2.kIn, ?_⟩) hpl
  rw [hks]
  exact run_fnkS (us := []) F hr hb (passAt tw σ) I2 .nil rz q2
end
section
variable {K : PySem.W.Frag} {J : Jm} {M : Mm} {env : List Sl} {D : DM} {tr : TA}
/-- by keywords: its error goes where the code wishes -/
theorem evm_callKw {W : FwP} {pi : List Nat} {R : Dt → Mm → Prop} (h : EaM K J M env D tr fun ss M' => W M' (pi.filterMap fun i => ss[i]?) R fun C fs M2 => D.xc C fs M2 env) : EvM K J M env D (tCallKS (CtP K W) (kwP pi) (WE D.xw) tr) R := fun MV0 MV GB B G H σ a x Q q =>
  h MV0 MV GB B G H σ a x _ fun vs ss M' MV' G' H' sg a' rs k =>
    ⟨J, M', MV', G', _, R, _, a'.wf, sva_kw rs, k, fun v d M2 MV2 G2 H2 n2 w2 rd y => q v d M2 MV2 G2 H2 (sg.trans n2) (a'.thenM n2 w2) rd y,
      fun C d vs fs M2 MV2 G2 H2 n2 w2 g rf y => x C d vs fs env MV2 M2 G2 H2 σ (a'.thenM n2 w2) g rf y⟩
end
end Mv

set_option Elab.async false
set_option linter.all false
set_option maxRecDepth 100000
set_option maxHeartbeats 4000000
/-! A def that raises nothing and goes through nothing, called where an error is handled: nothing is asked of the error but that it stands. -/
namespace Mv
open PySem PySem.Spec PyProof.Rows L2
/-- what such a def promises there -/
structure FnC (P : Program) (w : World) (K : PySem.W.Frag) (mg : Str → Option Value) (base : Heap) (k : Nat) (f : Addr) (fd : FuncData) (ps : List Str) (sp : Sp) : Prop where
  ln : ∀ vs H Q E, sp vs H Q E → vs.length = ps.length
  go : ∀ (A : Around) (stk : List PySem.Env) (s : Shared) (H : Hp) (as : Args) (us : List Value) (vs : List V) (Q : VK) (pin : Addr × Obj), L2H.RoomH k A → L2H.PinOk stk H s pin →
    Env0 P w K mg base A stk s H → BindsTo s fd as (ps.zip us) → Vals vs us → sp vs H Q E0 → codeAny (model P w) A (.call (.ref f) as) (CR CX0 stk P w H s Q E0) s
section
variable {P : Program} {w : World} {K : PySem.W.Frag} {mg : Str → Option Value} {base : Heap}
theorem fnC_of {x qual : Str} {st : Stmt} {f : Addr} {fd : FuncData} {N ps : List Str} {k : Nat} {sp : Sp} (F : L2.Fun K x qual st f fd) (S : FnScope N ps (defScope st)) (hn : ∀ vs H Q E, sp vs H Q E → vs.length = ps.length)
    (hb : ∀ (cdv : Value) (A : Around) (stk : List PySem.Env) (s : Shared) (H : Hp) (vs : List V) (Q : VK) (pin : Addr × Obj), L2H.RoomH k (A.deeper (envOfC qual (defScope st) s.heap.objs.size f cdv)) → sp vs H Q E0 →
      ∃ t, PSs (L2H.cxH CX0 P w K mg base N qual (defScope st) f cdv A stk s H E0 pin) (defBody st) t ∧ t { nx := fun _ H' => Q .non H', rt := Q } (L2.start N vs) H) : FnC P w K mg base (k + 1) f fd ps sp := by
  obtain ⟨_, _, _, _, _, _, cdv, _, _, rfl, look, hcode⟩ := F.ex
  refine ⟨hn, fun A stk s H as us vs Q pin room hpin e0 hbind rv hsp => ?_⟩
  have len := hn _ _ _ _ hsp
  have hin : K.In s.heap := e0.mod.kin.keeps fun b o e => (e0.bs b o e).1
  have hlim := e0.mod.nolimit.keeps (h' := s.heap) fun b o e => (e0.bs b o e).1
  have kinds : ∀ y ∈ ps.zip us, (defScope st).names.lookup y.1 = some .local ∨ ((defScope st).names.lookup y.1 = some .cell ∧ ((cellsFrom (s.heap.objs.size + 1) (defScope st).names []).lookup y.1).isSome = true) := by
    rintro ⟨a, b⟩ hy
    exact (S.par a (List.of_mem_zip hy).1).elim .inl fun q => .inr ⟨q, PySem.W.cellsFrom_some _ _ _ (.inl q)⟩
  refine codeAny_call_function room.depth (hin _ _ look) rfl S.co S.gen rfl (PySem.W.codeRec_of hin hcode) (hbind _ _ _ _ (wpAny_newFunctionEnv_cells S.kind kinds fun env e s1 made => ?_))
  subst e
  refine ⟨hlim.keeps made.toInCall.keep, codeAny_func ?_⟩
  obtain ⟨t, hp, ht⟩ := hb cdv A stk s H vs Q pin (room.deeper _) hsp
  refine wpAny_mono (hp.run [] s1 (L2.start N vs) H _ (L2H.inv_startH S hpin e0 len rv made) ht) (fun fl s' out => ?_) fun _ _ z => z
  match fl, out with
  | .ret u, ⟨v, σ2, H2, I2, r2, q2⟩ => exact ⟨v, H2, I2.os, I2.bare, I2.base, I2.hok, r2, q2⟩
  | .next, ⟨σ2, H2, I2, q2⟩ => exact ⟨.non, H2, I2.os, I2.bare, I2.base, I2.hok, rfl, q2⟩
  | .brk, ⟨_, _, _, q2⟩ => exact q2.elim
  | .cont, ⟨_, _, _, q2⟩ => exact q2.elim
theorem ok_ctC {x qual : Str} {st : Stmt} {f : Addr} {fd : FuncData} {N ps : List Str} {k : Nat} {W : Fw} (F : L2.Fun K x qual st f fd) (S : FnScope N ps (defScope st)) (hn : ∀ ss P, W ss P → ss.length = ps.length)
    (hb : ∀ (cdv : Value) (A : Around) (stk : List PySem.Env) (s : Shared) (H : Hp) (pin : Addr × Obj), L2H.RoomH k (A.deeper (envOfC qual (defScope st) s.heap.objs.size f cdv)) →
      ∃ t, PSs (L2H.cxH CX0 P w K mg base N qual (defScope st) f cdv A stk s H E0 pin) (defBody st) t ∧ ∀ J ss P, W ss P → Sv K J (startE N ss) t { nx := fun _ => P .non, rt := P }) : FnC P w K mg base (k + 1) f fd ps (Ct K W) := by
  refine fnC_of F S (fun vs H Q E h => ?_) (fun cdv A stk s H vs Q pin hr h => ?_)
  · obtain ⟨J, G, ss, P, wf, sv, hW, _⟩ := h
    rw [sv.length, hn ss P hW]
  · obtain ⟨J, G, ss, P, wf, sv, hW, q⟩ := h
    obtain ⟨t, hp, ht⟩ := hb cdv A stk s H pin hr
    refine ⟨t, hp, ?_⟩
    exact ht J ss P hW G H G H (L2.start N vs) ⟨wf, wf.nx, en_start sv⟩ _ (fun e G' H' σ' a x => q .non .non G' H' a.nx .non x) (fun _ _ _ _ _ x => x.elim) (fun _ _ _ _ _ x => x.elim) (fun v d G' H' n r x => q v d G' H' n r x) (fun _ _ _ _ _ _ _ _ _ _ x => x.elim) (fun _ _ _ _ _ _ _ _ _ _ _ x => x.elim)
end
/-- a callable one, by its name -/
structure CalC (P : Program) (w : World) (K : PySem.W.Frag) (mg : Str → Option Value) (base : Heap) (k : Nat) (x : Str) (ps : List Str) (sp : Sp) : Prop where
  ex : ∃ f fd, FnC P w K mg base k f fd ps sp ∧ mg x = some (.ref f) ∧ PySem.W.keepIn K (.ref f) = true ∧ Binds K fd ps []
theorem FnC.up {P : Program} {w : World} {K : PySem.W.Frag} {mg : Str → Option Value} {base : Heap} {j k : Nat} {f : Addr} {fd : FuncData} {ps : List Str} {sp : Sp} (F : FnC P w K mg base j f fd ps sp) (h : j ≤ k) : FnC P w K mg base k f fd ps sp :=
  ⟨F.ln, fun A stk s H as us vs Q pin r => F.go A stk s H as us vs Q pin (r.mono h)⟩
theorem CalC.mono {P : Program} {w : World} {K : PySem.W.Frag} {mg : Str → Option Value} {base : Heap} {j k : Nat} {x : Str} {ps : List Str} {sp : Sp} (C : CalC P w K mg base j x ps sp) (h : j ≤ k) : CalC P w K mg base k x ps sp := by
  obtain ⟨f, fd, F, g⟩ := C.ex
  exact ⟨f, fd, F.up h, g⟩
section
variable {X : Cx}
theorem pe_callHot {k : Nat} {x : Str} {ps : List Str} {sp : Sp} {p pos : Pos} {e : Expr} {es : List Expr} {t : TA} (C : CalC X.prog X.w X.K X.mg X.base k x ps sp) (hr : L2H.RoomH k X.A) {pin : Addr × Obj} (hp : pin ∈ X.pn) (hg : Gl X x)
    (ha : PA X (e :: es) t) (hdb : (x == ("__debug__" : Str)) = false := by decide) (he : starEach (e :: es) X.env = (false, eval e X.env) :: starEach es X.env := by rfl) (hpl : (backTo pos (starEach es X.env)).any (·.1) = false := by rfl) :
    PE X (.Call (.Name x p) (e :: es) [] pos) (tCall sp [] E0 t) := by
  obtain ⟨f, fd, F, hm, hk, hb⟩ := C.ex
  refine ⟨fun pins s σ H Q I h => ?_⟩
  refine wpAny_Call_Name_kw (ld_glob I hg hm ?_ hdb)
  refine PySem.W.callWith_K (h₀ := X.base) I.ok.mod.kin hk (thn (ha.run pos pins s σ H _ I h) fun us s1 ⟨vs, H1, I1, r, q⟩ => ⟨I1.kIn, ?_⟩) he hpl
  have q : sp (vs ++ []) H1 Q E0 := q
  rw [List.append_nil] at q
  have hlen : us.length = ps.length := by rw [← r.length]; exact F.ln _ _ _ _ q
  have bnd := hb s1 us I1.kIn (by rw [List.append_nil]; exact hlen)
  rw [List.append_nil] at bnd
  obtain ⟨g1, g2, g3, g4, g5⟩ := I1.pin pin (List.mem_append_left _ hp)
  have pok : L2H.PinOk X.stack H1 s1 pin := ⟨g1, g2, fun z => (List.mem_cons.mp (I1.stkSub pin.1 z)).elim g3 g4, g5⟩
  refine wpAny_call (codeAny_mono (F.go X.A X.stack s1 H1 ⟨us, []⟩ us vs Q pin hr pok I1.env0 bnd r q) fun out s2 hq => ?_)
  match out, hq with
  | .ok (.ret u), hq => exact I1.after hq
  | .ok .next, hq => exact hq.elim
  | .ok .brk, hq => exact hq.elim
  | .ok .cont, hq => exact hq.elim
  | .error e, hq => exact hq.elim
end
section
variable {K : PySem.W.Frag} {J : Jm} {M : Mm} {env : List Sl} {D : DM} {ta : TA}
theorem eim_range2 {R : Mm → List Dt → Mm → Prop} (h : EdM K J M env D ta fun xs M' => ∃ i j : Int, xs = [.int i, .int j] ∧ -1000000 ≤ i ∧ i ≤ 1000000 ∧ -1000000 ≤ j ∧ j ≤ 1000000 ∧ R A0 ((List.range (j - i).toNat).map fun k => Dt.int (i + (k : Nat))) M') : EiM K J M env D (iRng2 ta) R := fun MV0 MV GB B G H σ a x Q q =>
  h MV0 MV GB B G H σ a x _ fun vs xs M' MV' G' H' sg a' r ⟨i, j, e, h0, h1, h2, h3, k⟩ => by
    subst e
    cases r with
    | cons r1 r2 =>
      cases r2 with
      | cons r2 r3 =>
        cases r1
        cases r2
        cases r3
        exact ⟨i, j, rfl, ⟨by omega, by omega, by omega, by omega⟩, q _ A0 _ M' MV' G' H' sg a' ag0 (.of fun _ => wk_range) k⟩
end
end Mv

set_option Elab.async false
set_option linter.all false
set_option maxRecDepth 100000
set_option maxHeartbeats 4000000
/-! Told dicts whose keys are texts, their displays; the tape: a dict of draws as the third kind of hand. -/
namespace Mv
open PySem PySem.Spec PyProof.Rows L2
section
variable {K : PySem.W.Frag} {J : Jm} {env : List Sl}
/-- the tape handed on -/
theorem ea_tap {i : Nat} {tr : TA} {R : List Sl → Prop} (hh : env[i]? = some .tap) (h : Ea K J env tr fun xs => R (.tap :: xs)) : Ea K J env (tCons (tVar i) tr) R := fun B G H σ w E Q q => by
  obtain ⟨ov, a, p, c, b, e⟩ := E.ok i _ hh
  exact ⟨.ref p, by rw [a, b], h B G H σ w E _ fun vs ds G2 H2 n2 rs x => q _ _ G2 H2 n2 (.cons (show Sv1 K J G2 (.ref p) .tap from ⟨p, c, rfl, e⟩) rs) x⟩
end
section
variable {K : PySem.W.Frag} {J : Jm} {MV : Mh} {M : Mm} {env : List Sl} {td tk tv : TE} {D : DM} {R : Dt → Prop}
/-- d["s"] -/
theorem ev_dgetS (h : Ev K (Jt K J MV M) env td fun o => ∃ p kvs, o = .ptr p ∧ M p = some (.dic kvs) ∧ Ev K (Jt K J MV M) env tk fun k => ∃ (s : Str) (x : Dt), k = .str s ∧ getQ kvs (Sum.inr s : Key) = some x ∧ R x) : Ev K (Jt K J MV M) env (tDGet td tk) R :=
  fun B G H σ w E Q q => h B G H σ w E _ fun v o G1 H1 n1 r1 ⟨p, kvs, e1, hM, h2⟩ => by
    subst e1
    cases r1
    refine h2 B G1 H1 σ (n1.wf w) (E.mono n1) _ fun u k G2 H2 n2 r2 ⟨s, x, e2, hx, kx⟩ => ?_
    subst e2
    cases r2
    obtain ⟨vs, _, hH, r⟩ := (n2.wf (n1.wf w)).dicM hM
    obtain ⟨y, h3, h4⟩ := (r.get (n := (Sum.inr s : Key))).1 x hx
    exact ⟨p, y, rfl, .inl ⟨vs, Sum.inr s, .inl hH, rfl, h3.symm⟩, q y x G2 H2 (n1.trans n2) h4 kx⟩
/-- d["s"] = e -/
theorem sm_dputS (h : EvM K J M env D tv fun d M1 => EvM K J M1 env D td fun o M2 => EvM K J M2 env D tk fun k M3 => ∃ (p : Addr) (kvs : List (Key × Dt)) (s : Str), o = .ptr p ∧ M3 p = some (.dic kvs) ∧ k = .str s ∧ kvs.length < 100000 ∧ D.nx (updM M3 p (.dic (putQ kvs (Sum.inr s : Key) d))) env) :
    SvM K J M env (sDPut td tk tv) D := fun MV0 MV GB B G H σ a E r =>
  h MV0 MV GB B G H σ a r.x _ fun v d M1 MV1 G1 H1 n1 a1 rd h2 => h2 MV0 MV1 GB B G1 H1 σ a1 r.x _ fun u o M2 MV2 G2 H2 n2 a2 ro h3 => h3 MV0 MV2 GB B G2 H2 σ a2 r.x _ fun y k M3 MV3 G3 H3 n3 a3 rk ⟨p, kvs, s, e1, hM, e2, hz, hx⟩ => by
    subst e1 e2
    cases ro
    cases rk
    obtain ⟨us, e1, e2, t⟩ := a3.wf.dicM hM
    have n5 := a3.wf.chgN (ho' := .dK (putK us (Sum.inr s : Key) v)) e1
    refine ⟨p, _, rfl, .inl ⟨us, Sum.inr s, e2, rfl, sz_lt (by rw [t.length]; exact hz), rfl⟩, r.nx _ _ env _ _ σ (a3.thenM n5 (a3.wf.chg e1 (.dic (t.put (rd.mono (n2.gg.trans n3.gg)))))) hx⟩
end
/-! ### displays with texts as keys -/
def EpD (K : PySem.W.Frag) (J : Jm) (env : List Sl) : List (TE × TE) → (List (Key × Dt) → Prop) → Prop
  | [], R => R []
  | (tk, tv) :: r, R => Ev K J env tk fun k => ∃ s, k = .str s ∧ Ev K J env tv fun d => EpD K J env r fun l => R ((Sum.inr s, d) :: l)
def mergeQ (l : List (Key × Dt)) : List (Key × Dt) := l.foldl (fun acc kv => putQ acc kv.1 kv.2) []
theorem dq_merge {K : PySem.W.Frag} {G : Hp} : ∀ {more : List (Key × V)} {l : List (Key × Dt)} {vs : List (Key × V)} {ds : List (Key × Dt)}, Dq K G more l → Dq K G vs ds → Dq K G (mergeK vs more) (l.foldl (fun acc kv => putQ acc kv.1 kv.2) ds)
  | _, _, _, _, .nil, h => h
  | _, _, vs, ds, .cons (k := k) (v := v) (vs := more) (d := d) (ds := l) r t, h => by
    show Dq K G (mergeK (putK vs k v) more) (l.foldl (fun acc kv => putQ acc kv.1 kv.2) (putQ ds k d))
    exact dq_merge t (h.put r)
theorem epd_run {K : PySem.W.Frag} {J : Jm} {env : List Sl} : ∀ {trs : List (TE × TE)} {R : List (Key × Dt) → Prop}, EpD K J env trs R → ∀ (B G H : Hp) (σ : L2.St), Wf J G H → En K J B G H σ env → ∀ Q : List (V × V) → Hp → Prop,
    (∀ (kvs : List (Key × V)) (l : List (Key × Dt)) (G' H' : Hp), Nx J G H G' H' → Dq K G' kvs l → R l → Q (kvs.map fun kv => (kV kv.1, kv.2)) H') → tPairs trs σ H Q
  | [], R, h, B, G, H, σ, w, E, Q, q => q [] [] G H w.nx .nil h
  | (tk, tv) :: r, R, h, B, G, H, σ, w, E, Q, q => by
    refine h B G H σ w E _ fun v k G1 H1 n1 r1 ⟨s, e, h2⟩ => ?_
    subst e
    cases r1
    refine h2 B G1 H1 σ (n1.wf w) (E.mono n1) _ fun u d G2 H2 n2 r2 h3 => ?_
    have n12 := n1.trans n2
    refine epd_run h3 B G2 H2 σ (n12.wf w) (E.mono n12) _ fun kvs l G3 H3 n3 rq hl => ?_
    exact q ((Sum.inr s, u) :: kvs) _ G3 H3 (n12.trans n3) (.cons (r2.mono n3.gg) rq) hl
theorem evm_disp {K : PySem.W.Frag} {J : Jm} {M : Mm} {env : List Sl} {D : DM} {trs : List (TE × TE)} {R : Dt → Mm → Prop}
    (h : ∀ p, M p = none → ∀ MV, EpD K (Jt K J MV (updM M p (.dic []))) env trs fun l => l.length ≤ 15 ∧ R (.ptr p) (updM M p (.dic (mergeQ l)))) : EvM K J M env D (tDisp trs) R := fun MV0 MV GB B G H σ a x Q q p hp => by
  have hj : p ∉ J.ms := (not_jt.mp (a.wf.notin hp)).1
  have hM := a.wf.none_ hp
  have n1 := a.wf.newM hp (.dK [])
  have n2 := nxm_put (ho := .dK []) (.inr hp) (NxM.of n1)
  have a2 := a.thenM n2 ((n1.wf a.wf).put hj (a.wf.free hp) upd_same (.dic .nil))
  refine epd_run (h p hM.2 _) B G _ σ a2.wf a2.en _ fun kvs l G3 H3 n3 rq ⟨hz, k⟩ => ?_
  have a3 := a2.then n3
  obtain ⟨us, e1, e2, t⟩ := a3.wf.dicM (updM_same (M := M) (a := p) (o := .dic []))
  cases t
  have n5 := a3.wf.chgN (ho' := .dK (mergeK [] kvs)) e1
  have a5 := a3.thenM n5 (a3.wf.chg (ob' := .dic (mergeQ l)) e1 (.dic (dq_merge rq .nil)))
  rw [updM_updM] at a5
  exact ⟨e2, kvs, rfl, by rw [rq.length]; exact hz, q (.ref p) (.ptr p) _ _ G3 _ (n2.trans ((NxM.of n3).trans n5)) a5 (.ptr _) k⟩
/-! ### the tape -/
def tapeD (c : Addr) (a g l s t : Int) : List (Key × Dt) := [(Sum.inr ("cells" : Str), .ptr c), (Sum.inr ("at" : Str), .int a), (Sum.inr ("great" : Str), .int g), (Sum.inr ("left" : Str), .int l), (Sum.inr ("seed" : Str), .int s), (Sum.inr ("turn" : Str), .int t)]
def W_draw : Fw := fun ss P => ∃ m : Int, ss = [.tap, .d (.int m)] ∧ 0 < m ∧ ∀ x : Int, 0 ≤ x → x < m → P (.int x)
/-- the same, of the tape as a told dict -/
def W_drawM : FwP := fun M ss P _ => ∃ (p c : Addr) (ns : List Int) (a g l s t m : Int), ss = [.d (.ptr p), .d (.int m)] ∧ M p = some (.dic (tapeD c a g l s t)) ∧ M c = some (.lst (ns.map Dt.int)) ∧ p ≠ c ∧ 0 ≤ a ∧ ns.length ≤ 63 ∧ 0 < m ∧
  ∀ x a' g' l' s' t' : Int, 0 ≤ x → x < m → 0 ≤ a' → P (.int x) (updM M p (.dic (tapeD c a' g' l' s' t')))
theorem tape_dq {K : PySem.W.Frag} {G : Hp} {c : Addr} {a g l s t : Int} : Dq K G (tapeV c a g l s t) (tapeD c a g l s t) := .cons (.ptr c) (.cons (.int _) (.cons (.int _) (.cons (.int _) (.cons (.int _) (.cons (.int _) .nil)))))
theorem tape_inv {K : PySem.W.Frag} {G : Hp} {c : Addr} {a g l s t : Int} {us : List (Key × V)} (h : Dq K G us (tapeD c a g l s t)) : us = tapeV c a g l s t := by
  cases h with
  | cons r1 h =>
  cases h with
  | cons r2 h =>
  cases h with
  | cons r3 h =>
  cases h with
  | cons r4 h =>
  cases h with
  | cons r5 h =>
  cases h with
  | cons r6 h =>
  cases h
  cases r1; cases r2; cases r3; cases r4; cases r5; cases r6
  rfl
theorem draw_of {P : Program} {w : World} {K : PySem.W.Frag} {mg : Str → Option Value} {base : Heap} {k : Nat} {f : Addr} {fd : FuncData} {ps : List Str} (F : FnOk P w K mg base (L2.CX P w) k f fd ps (CtP K W_drawM)) : FnOk P w K mg base CX0 k f fd ps (Ct K W_draw) := by
  have conv : ∀ (vs : List V) (H : Hp) (Q : VK) (E : XK), Ct K W_draw vs H Q E → CtP K W_drawM vs H Q E0 := fun vs H Q E h => by
    obtain ⟨J, G, ss, P, wf, sv, ⟨m, e, hm, hP⟩, q⟩ := h
    subst e
    cases sv with
    | cons s1 s2 =>
      cases s2 with
      | cons s2 s3 =>
        cases s3
        obtain ⟨p, c, e1, e2⟩ := s1
        have r2 : Dr K G _ (.int m) := s2
        cases r2
        subst e1
        obtain ⟨ns, a, g, l, s, t, hp, hc, ha, hn⟩ := J.hg _ _ e2 wf.ok
        have hpc : p ≠ c := fun z => by rw [z, hc] at hp; cases hp
        have hms : p ∈ J.ms := J.hm _ e2
        have hG := (wf.ms p hms).1
        let G1 : Hp := fun b => if b = c then none else G b
        have g1 : Same G1 H := fun b o e => by
          show H b = some o
          have e : (if b = c then none else G b) = some o := e
          by_cases hb : b = c
          · rw [if_pos hb] at e; cases e
          · rw [if_neg hb] at e; exact wf.gh b o e
        have g1p : G1 p = none := (if_neg hpc).trans hG
        have g1c : G1 c = none := if_pos rfl
        let MV : Mh := fun b => if b = p then some (.dK (tapeV c a g l s t)) else if b = c then some (.lst (ns.map V.int)) else none
        let M : Mm := fun b => if b = p then some (.dic (tapeD c a g l s t)) else if b = c then some (.lst (ns.map Dt.int)) else none
        have mvp : MV p = some (.dK (tapeV c a g l s t)) := if_pos rfl
        have mvc : MV c = some (.lst (ns.map V.int)) := (if_neg hpc.symm).trans (if_pos rfl)
        have mvn : ∀ b, b ≠ p → b ≠ c → MV b = none := fun b h1 h2 => (if_neg h1).trans (if_neg h2)
        have mp : M p = some (.dic (tapeD c a g l s t)) := if_pos rfl
        have mc : M c = some (.lst (ns.map Dt.int)) := (if_neg hpc.symm).trans (if_pos rfl)
        have mn : ∀ b, b ≠ p → b ≠ c → M b = none := fun b h1 h2 => (if_neg h1).trans (if_neg h2)
        have wj : Wf (Jt K J0 MV M) G1 H := by
          refine ⟨g1, ⟨trivial, fun b _ z => z.elim, fun b o e => ?_⟩, fun b hb => ?_, trivial, fun b => ⟨fun ob e => ?_, fun e => ?_⟩⟩
          · by_cases h1 : b = p
            · rw [h1, mvp] at e; cases e; rw [h1]; exact hp
            · by_cases h2 : b = c
              · rw [h2, mvc] at e; cases e; rw [h2]; exact hc
              · rw [mvn b h1 h2] at e; cases e
          · rcases hb with hb | hb
            · exact hb.elim
            · by_cases h1 : b = p
              · rw [h1, hp]; exact ⟨g1p, by simp⟩
              · by_cases h2 : b = c
                · rw [h2, hc]; exact ⟨g1c, by simp⟩
                · exact absurd (mvn b h1 h2) hb
          · by_cases h1 : b = p
            · rw [h1, mp] at e; cases e; rw [h1]; exact ⟨_, mvp, .dic tape_dq⟩
            · by_cases h2 : b = c
              · rw [h2, mc] at e; cases e; rw [h2]; exact ⟨_, mvc, .lst Da.ints⟩
              · rw [mn b h1 h2] at e; cases e
          · by_cases h1 : b = p
            · rw [h1, mp] at e; cases e
            · by_cases h2 : b = c
              · rw [h2, mc] at e; cases e
              · exact mvn b h1 h2
        refine ⟨J0, M, MV, G1, [.d (.ptr p), .d (.int m)], fun d M2 => ∃ x a' g' l' s' t' : Int, d = .int x ∧ 0 ≤ x ∧ x < m ∧ 0 ≤ a' ∧ M2 = updM M p (.dic (tapeD c a' g' l' s' t')), fun _ _ _ => False, wj, .cons (show Dr K G1 (.ref p) (.ptr p) from .ptr p) (.cons (show Dr K G1 (.int m) (.int m) from .int m) .nil),
          ⟨p, c, ns, a, g, l, s, t, m, rfl, mp, mc, hpc, ha, hn, hm, fun x a' g' l' s' t' h0 h1 h2 => ⟨x, a', g', l', s', t', rfl, h0, h1, h2, rfl⟩⟩, ?_, fun _ _ _ _ _ _ _ _ _ _ _ _ z => z.elim⟩
        rintro v d M' MV' G' H' n w' rd ⟨x, a', g', l', s', t', rfl, h0, h1, h2, rfl⟩
        cases rd
        obtain ⟨us, _, hHp, rq⟩ := w'.dicM (updM_same (M := M) (a := p) (o := .dic (tapeD c a' g' l' s' t')))
        obtain ⟨ws, _, hHc, rl⟩ := w'.lstM (show updM M p (.dic (tapeD c a' g' l' s' t')) c = some (.lst (ns.map Dt.int)) from (updM_ne hpc.symm).trans mc)
        have hHc : H' c = some (.lst (ns.map V.int)) := by rw [hHc, rl.ints_inv]
        have hHp : H' p = some (.dK (tapeV c a' g' l' s' t')) := by rw [hHp, tape_inv rq]
        have kp : ∀ b o, H b = some o → b ≠ p → H' b = some o := fun b o e hb => by
          by_cases h2 : b = c
          · rw [h2, hc] at e; cases e; rw [h2]; exact hHc
          · exact n.kp b o e (fun z => z.elim) (mvn b hb h2)
        refine q (.int x) (.int x) G H' ⟨Same.refl _, fun b o e => ?_, fun b h _ => h, fun b o e hb => kp b o e fun z => hb (by rw [z]; exact hms), n.th, ?_⟩ (.int x) (hP x h0 h1)
        · exact kp b o (wf.gh b o e) (fun z => by rw [z, hG] at e; cases e)
        · refine J.hp _ _ _ e2 wf.ok ⟨ns, a', g', l', s', t', hHp, hHc, h2, hn⟩ fun b hb hne => ?_
          have hb' : b ≠ p := hne
          cases e : H b with
          | none => exact absurd e (wf.ms b hb).2
          | some o => exact kp b o e hb'
  refine ⟨fun vs H Q E h => F.len vs H Q E0 (conv vs H Q E h), fun A outer s H as us vs Q E hr e0 hb hv h => ?_⟩
  refine codeAny_mono (F.run A outer s H as us vs Q E0 hr e0 hb hv (conv vs H Q E h)) fun r s' hq => ?_
  cases r with
  | ok fl => cases fl <;> exact hq
  | error e =>
    obtain ⟨_, _, _, _, _, _, _, _, _, _, _, _, z⟩ := (show L2.CX P w outer H s E0 e s' from hq)
    exact z.elim
/-- the jm of a law that has a tape -/
def JT (p c : Addr) : Jm where
  ms := fun b => b = p ∨ b = c
  ok := TapeAt p c
  st := fun H H' ⟨ns, a, g, l, s, t, h1, h2, h3⟩ k => ⟨ns, a, g, l, s, t, by rw [k p (.inl rfl)]; exact h1, by rw [k c (.inr rfl)]; exact h2, h3⟩
  hd := some (.tap p c)
  hm := fun k e => by cases e; exact .inl rfl
  hg := fun k H e o => by cases e; exact o
  hp := fun k H H' e o o' _ => by cases e; exact o'
  tr := fun _ => True
  trm := fun _ _ _ _ => trivial
/-- the maker of a tape -/
def spTape (K : PySem.W.Frag) : Sp := fun vs H Q _ => ∃ (x : Addr) (ns : List Int), vs = [.ref x] ∧ SqL K H x (ns.map V.int) ∧ ns.length ≤ 63 ∧ ∀ (p c : Addr) (H' : Hp), p ≠ c → H p = none → H c = none → H' p = some (.dK (tapeV c 0 0 0 7 0)) → H' c = some (.lst (ns.map V.int)) → (∀ b, b ≠ p → b ≠ c → H' b = H b) → Q (.ref p) H'
section
variable {P : Program} {w : World} {K : PySem.W.Frag} {mg : Str → Option Value} {base : Heap}
theorem En.setT {J : Jm} {B G H : Hp} {σ : L2.St} {env : List Sl} (E : En K J B G H σ env) {i : Nat} {p c : Addr} (hd : J.hd = some (.tap p c)) : En K J B G H (σ.set i (some (.ref p))) (env.set i .tap) := by
  have e0 := E.setN (i := i) (ov := some (.ref p))
  refine ⟨by simp [E.len], fun k s hk => ?_, fun k j q hne hk hj => ?_⟩
  · by_cases e : i = k
    · subst e
      have hi : i < env.length := by
        have := (List.getElem?_eq_some_iff.mp hk).1
        simpa using this
      rw [List.getElem?_set_self hi] at hk
      cases hk
      exact ⟨_, by rw [List.getElem?_set_self (by rw [E.len]; exact hi)], p, c, rfl, hd⟩
    · exact e0.ok k s (by rw [List.getElem?_set_ne e] at hk ⊢; exact hk)
  · have conv : ∀ z : Nat, (∃ xs : List Dt, (env.set i .tap)[z]? = some (Sl.ml xs)) → ∃ xs : List Dt, (env.set i .no)[z]? = some (Sl.ml xs) := fun z hz0 => by
      obtain ⟨xs, hz⟩ := hz0
      by_cases e : i = z
      · subst e
        have hi : i < env.length := by
          have := (List.getElem?_eq_some_iff.mp hz).1
          simpa using this
        rw [List.getElem?_set_self hi] at hz
        cases hz
      · exact ⟨xs, by rw [List.getElem?_set_ne e] at hz ⊢; exact hz⟩
    exact e0.ap k j q hne (conv k hk) (conv j hj)
theorem ok_lwT {x qual : Str} {st : Stmt} {f : Addr} {fd : FuncData} {N : List Str} {k : Nat} (F : L2.Fun K x qual st f fd) (S : FnScope N ["script"] (defScope st)) (hN : 1 < N.length)
    (hb : ∀ (cdv : Value) (A : Around) (outer : List PySem.Env) (s : Shared) (H : Hp) (E : XK), Room k (A.deeper (envOfC qual (defScope st) s.heap.objs.size f cdv)) →
      ∃ t, PSs (cxOf CX0 P w K mg base N qual (defScope st) f cdv A outer s H E).nox (defBody st) (tSeq (tAsg (tCall (spTape K) [] E0 (tCons (tVar 0) tNil)) (gName 1)) t) ∧
        ∀ (ns : List Int) (p c : Addr), SvM K (JT p c) Mn ((startE N [.d (.lst (ns.map Dt.int))]).set 1 .tap) t { nx := fun _ _ => False, rt := fun d _ => d = .bl true }) :
    FnOk P w K mg base CX0 (k + 1) f fd ["script"] (spLaw K) := by
  refine F.ok S (fun vs H Q E h => ?_) (fun cdv A outer s H vs Q E hr h => ?_)
  · obtain ⟨a, ns, rfl, _⟩ := h
    rfl
  · obtain ⟨a, ns, rfl, hS, hl, q⟩ := h
    obtain ⟨t, hp, ht⟩ := hb cdv A outer s H E hr
    refine ⟨_, hp, ?_⟩
    have sv : SvA K J0 H [.ref a] [.d (.lst (ns.map Dt.int))] := .cons (show Dr K H (.ref a) (.lst (ns.map Dt.int)) from .lst hS Da.ints) .nil
    refine ⟨.ref a, by unfold L2.start; rfl, ?_⟩
    show spTape K [.ref a] H (fun x H1 => t { nx := fun x H' => Q V.non H', rt := Q } ((L2.start N [V.ref a]).set 1 (some x)) H1) E0
    refine ⟨a, ns, rfl, hS, hl, fun p c H' hpc hp hc h1 h2 hk => ?_⟩
    have hd : (JT p c).hd = some (.tap p c) := rfl
    have sv : SvA K (JT p c) H [.ref a] [.d (.lst (ns.map Dt.int))] := .cons (show Dr K H (.ref a) (.lst (ns.map Dt.int)) from .lst hS Da.ints) .nil
    have en1 := (en_start (K := K) (J := JT p c) (G := H) (H := H') (N := N) sv).setT (i := 1) hd
    have keep : ∀ b o, H b = some o → H' b = some o := fun b o e => (hk b (fun z => by rw [z, hp] at e; cases e) (fun z => by rw [z, hc] at e; cases e)).trans e
    have wf : Wf (JT p c) H H' := ⟨keep, ⟨ns, 0, 0, 0, 7, 0, h1, h2, Int.le_refl _, hl⟩, fun m hm => by
      rcases hm with hm | hm
      · rw [hm, h1]; exact ⟨hp, by simp⟩
      · rw [hm, h2]; exact ⟨hc, by simp⟩, trivial⟩
    refine ht ns p c MVn MVn H H' H H' _ ⟨wfN wf, nxN wf.nx, ?_⟩ _ ⟨fun _ _ _ _ _ _ _ x => x.elim, fun _ _ _ _ _ _ _ x => x.elim, fun _ _ _ _ _ _ _ x => x.elim, fun v d M' MV' G' H2 n w' r x => ?_, fun _ _ _ _ _ _ _ _ _ _ _ _ _ x => x.elim⟩
    · exact ⟨en1.len, fun i s hs => let ⟨ov, x, y⟩ := en1.ok i s hs; ⟨ov, x, y.toM⟩, en1.ap⟩
    · have x : d = .bl true := x
      subst x
      cases r
      exact q H2
end
end Mv

set_option Elab.async false
set_option linter.all false
set_option maxRecDepth 100000
set_option maxHeartbeats 4000000
/-! sorted of a list of tuples (some order of it); repr of an int. -/
namespace Mv
open PySem PySem.Spec PyProof.Rows L2
def rReprI : List V → Hp → VK → Prop := fun xs H Q => ∃ i : Int, xs = [.int i] ∧ i.natAbs.log2 < 1920 ∧ Q (.str (toString i : String)) H
theorem c_reprI {X : Cx} : CallR X (.builtin "repr") rReprI := SkE.call_repr_int
theorem oc_reprI {K : PySem.W.Frag} {J : Jm} {R : Dt → Prop} {i : Int} (hz : i.natAbs ≤ 100000) (h : R (.str (Str.ofString (toString i)))) : Oc K J rReprI [.int i] R := fun G H vs w rs Q q => by
  cases rs with
  | cons r1 r2 =>
    cases r2
    cases r1
    refine ⟨i, rfl, ?_, q _ _ G H w.nx (.str _) h⟩
    by_cases h0 : i.natAbs = 0
    · rw [h0]; decide
    · have := Nat.log2_self_le h0
      by_cases h4 : i.natAbs.log2 < 20
      · omega
      · have : 2 ^ 20 ≤ 2 ^ i.natAbs.log2 := Nat.pow_le_pow_right (by decide) (by omega)
        have e : (2 : Nat) ^ 20 = 1048576 := by decide
        omega
/-- sorted(xs), xs a list of data that can be sorted -/
def rSortedP (K : PySem.W.Frag) : List V → Hp → VK → Prop := fun xs H Q => ∃ (a : Addr) (bs : List (V × Dt)), xs = [.ref a] ∧ SqL K H a (bs.map Prod.fst) ∧ (∀ b ∈ bs, Dp K H b.1 (pyD b.2)) ∧ PySem.W.AllAlike (bs.map fun b => pyD b.2) ∧ PySem.W.Sortable (bs.map fun b => pyD b.2) ∧ (∀ b ∈ bs, (pyD b.2).depth ≤ 60) ∧
  ∀ (bs' : List (V × Dt)) (p : Addr), bs'.Perm bs → H p = none → Q (.ref p) (upd H p (.lst (bs'.map Prod.fst)))
theorem each_of {X : Cx} {pins : List (Addr × Obj)} {σ : L2.St} {H : Hp} {s : Shared} (I : Inv X pins σ H s) : ∀ {bs : List (V × Dt)} {its : List Value}, Vals (bs.map Prod.fst) its → (∀ b ∈ bs, Dp X.K H b.1 (pyD b.2)) →
    PySem.W.EachIs (fun (u : Value) (b : V × Dt) => RelV b.1 u) its bs ∧ PySem.W.EachIs (fun (u : Value) (b : V × Dt) => ∃ as, Reads s.heap u (pyD b.2) as) its bs
  | [], _, r, _ => by cases r; exact ⟨.nil, .nil⟩
  | b :: bs, _, r, h => by
    cases r with
    | cons r1 r2 =>
      obtain ⟨k1, k2⟩ := each_of I r2 fun x hx => h x (List.mem_cons_of_mem _ hx)
      exact ⟨.cons r1 k1, .cons (Dp.reads I _ _ _ (h b List.mem_cons_self) r1) k2⟩
theorem vals_each : ∀ {bs : List (V × Dt)} {its : List Value}, PySem.W.EachIs (fun (u : Value) (b : V × Dt) => RelV b.1 u) its bs → Vals (bs.map Prod.fst) its
  | _, _, .nil => .nil
  | _, _, .cons h t => .cons h (vals_each t)
theorem cr_sortedPK (K : PySem.W.Frag) {X : Cx} (hu : X.A.units + 64 < cLine) (hk : X.K = K := by rfl) : CallR X (.builtin "sorted") (rSortedP K) := by
  subst hk
  intro pins s σ H vs us Q I r h
  obtain ⟨a, bs, rfl, hs, hd, hal, hso, hdp, q⟩ := h
  obtain ⟨its, rv, hl, hz⟩ := I.list hs
  rw [Vals.ref1 r]
  obtain ⟨e1, e2⟩ := each_of I rv hd
  refine PySem.W.sorted_data (enc := fun b : V × Dt => pyD b.2) hl.isList e1 e2 hal hso (by rw [← e1.length, ← rv.length]; exact hz) (fun b hb => by have := hdp b hb; omega) fun out hlen hout => ?_
  have hp : (bs.mergeSort (PySem.W.dataLe false fun b : V × Dt => pyD b.2)).Perm bs := List.mergeSort_perm _ _
  obtain ⟨ep, he'⟩ := PyProof.Rows.sortedAll_at s.heap its out.toArray
  have hlen2 : ((bs.mergeSort (PySem.W.dataLe false fun b : V × Dt => pyD b.2)).map Prod.fst).length ≤ sizeLine := by
    rw [List.length_map, hp.length_eq]
    rw [List.length_map] at hz
    exact hz
  exact ⟨.ref _, upd H (s.heap.objs.size + 1) (.lst ((bs.mergeSort (PySem.W.dataLe false fun b : V × Dt => pyD b.2)).map Prod.fst)), I.laid (t' := s.toks) (fun _ _ => PyProof.Rows.sortedAll_old) (Nat.le_succ _) ⟨hlen2, out, ep, vals_each hout, he'⟩, rfl, q _ _ hp (I.hok.fresh (Nat.le_succ _))⟩
theorem da_zip {K : PySem.W.Frag} {G : Hp} : ∀ {vs : List V} {ds : List Dt}, Da K G vs ds → (vs.zip ds).map Prod.fst = vs ∧ (vs.zip ds).map Prod.snd = ds ∧ ∀ b ∈ vs.zip ds, Dr K G b.1 b.2
  | _, _, .nil => ⟨rfl, rfl, fun b h => (nomatch h)⟩
  | _, _, .cons (v := v) (d := d) r t => by
    obtain ⟨h1, h2, h3⟩ := da_zip t
    refine ⟨by rw [List.zip_cons_cons, List.map_cons, h1], by rw [List.zip_cons_cons, List.map_cons, h2], fun b hb => ?_⟩
    rcases List.mem_cons.mp hb with rfl | hb
    · exact r
    · exact h3 b hb
theorem da_pairs {K : PySem.W.Frag} {G : Hp} : ∀ {bs : List (V × Dt)}, (∀ b ∈ bs, Dr K G b.1 b.2) → Da K G (bs.map Prod.fst) (bs.map Prod.snd)
  | [], _ => .nil
  | b :: bs, h => .cons (h b List.mem_cons_self) (da_pairs fun x hx => h x (List.mem_cons_of_mem _ hx))
theorem oc_sortedP {K : PySem.W.Frag} {J : Jm} {R : Dt → Prop} {ds : List Dt} (hpl : plainDs ds = true) (hal : PySem.W.AllAlike (ds.map pyD)) (hso : PySem.W.Sortable (ds.map pyD)) (hdp : ∀ d ∈ ds, (pyD d).depth ≤ 60) (h : ∀ ds' : List Dt, ds'.Perm ds → R (.lst ds')) : Oc K J (rSortedP K) [.lst ds] R := fun G H vs w rs Q q => by
  cases rs with
  | cons r1 r2 =>
    cases r2
    cases r1 with
    | @lst a us _ s t =>
      obtain ⟨h1, h2, h3⟩ := da_zip t
      have e : ((us.zip ds).map fun b => pyD b.2) = ds.map pyD := by
        have h4 := congrArg (List.map pyD) h2
        rw [List.map_map] at h4
        exact h4
      have hmem : ∀ b ∈ us.zip ds, b.2 ∈ ds := fun b hb => by rw [← h2]; exact List.mem_map.mpr ⟨b, hb, rfl⟩
      refine ⟨a, us.zip ds, rfl, by rw [h1]; exact same_l w.gh s, fun b hb => dp_of w.gh (h3 b hb) (plainDs_iff.mp hpl _ (hmem b hb)), by rw [e]; exact hal, by rw [e]; exact hso, fun b hb => hdp _ (hmem b hb), fun bs' p hp hpn => ?_⟩
      have n2 := w.new hpn (.lst (bs'.map Prod.fst))
      have hda := da_pairs (K := K) (G := G) (bs := bs') fun b hb => h3 b (hp.mem_iff.mp hb)
      refine q (.ref p) (.lst (bs'.map Prod.snd)) _ _ n2 (.lst (.inl (.inl upd_same)) (hda.mono n2.gg)) (h _ ?_)
      have := hp.map Prod.snd
      rw [h2] at this
      exact this
theorem c_anyK (K : PySem.W.Frag) {X : Cx} (hc : X.calm = true := by rfl) (h : X.K = K := by rfl) : CallR X (.builtin "any") (rAny K) := h ▸ cr_any hc
theorem oc_any {K : PySem.W.Frag} {J : Jm} {R : Dt → Prop} {bs : List Bool} (h : R (.bl (bs.any id))) : Oc K J (rAny K) [.lst (bs.map Dt.bl)] R := fun G H vs w rs Q q => by
  cases rs with
  | cons r1 r2 =>
    cases r2
    cases r1 with
    | lst s t =>
      have e := bools_inv t
      subst e
      exact ⟨_, bs, rfl, same_l w.gh s, q _ _ G H w.nx (.bl _) h⟩
/-- tuple(range(n)) -/
theorem ev_tupRg {K : PySem.W.Frag} {J : Jm} {env : List Sl} {te : TE} {R : Dt → Prop} (h : Ev K J env te fun x => ∃ n : Nat, x = .int (n : Int) ∧ n ≤ 100000 ∧ R (.tup ((List.range n).map fun i => Dt.int (i : Nat)))) : Ev K J env (tTupRg (tRg1 te)) R := fun B G H σ w E Q q =>
  h B G H σ w E _ fun v x G1 H1 n1 r1 ⟨n, e, hn, k⟩ => by
    subst e
    cases r1
    refine ⟨_, rfl, RgOk.of_le (Int.le_refl _) (by omega) (by decide) (by omega), fun p hp => ?_⟩
    have n2 := (n1.wf w).new hp (.tup (rgV 0 (n : Int)))
    have e : rgV 0 (n : Int) = ((List.range n).map fun i => ((i : Nat) : Int)).map V.int := by
      unfold rgV
      rw [show ((n : Int) - 0).toNat = n by omega, List.map_map]
      exact List.map_congr_left fun i _ => by rw [Int.zero_add]; rfl
    have e2 : (List.range n).map (fun i => Dt.int ((i : Nat) : Int)) = ((List.range n).map fun i => ((i : Nat) : Int)).map Dt.int := by rw [List.map_map]; rfl
    refine q (.ref p) _ _ _ (n1.trans n2) (.tup (.inl (.inl upd_same)) ?_) k
    rw [e, e2]
    exact Da.ints
end Mv

set_option Elab.async false
set_option linter.all false
set_option maxRecDepth 100000
set_option maxHeartbeats 4000000
/-! repr of lists and tuples: a def's promise that knows that no guard stands (FnG), its end. -/
namespace Mv
open PySem PySem.Spec PyProof.Rows L2
/-- what a def promises where no guard of repr stands -/
structure FnG (P : Program) (w : World) (K : PySem.W.Frag) (mg : Str → Option Value) (base : Heap) (k : Nat) (f : Addr) (fd : FuncData) (ps : List Str) (sp : Sp) : Prop where
  ln : ∀ vs H Q E, sp vs H Q E → vs.length = ps.length
  go : ∀ (A : Around) (stk : List PySem.Env) (s : Shared) (H : Hp) (as : Args) (us : List Value) (vs : List V) (Q : VK) (E : XK), Room k A → A.guards = some [] →
    Env0 P w K mg base A stk s H → BindsTo s fd as (ps.zip us) → Vals vs us → sp vs H Q E → codeAny (model P w) A (.call (.ref f) as) (CR CX0 stk P w H s Q E) s
section
variable {P : Program} {w : World} {K : PySem.W.Frag} {mg : Str → Option Value} {base : Heap}
theorem fnG_of {x qual : Str} {st : Stmt} {f : Addr} {fd : FuncData} {N ps : List Str} {k : Nat} {sp : Sp} (F : L2.Fun K x qual st f fd) (S : FnScope N ps (defScope st)) (hn : ∀ vs H Q E, sp vs H Q E → vs.length = ps.length)
    (hb : ∀ (cdv : Value) (A : Around) (stk : List PySem.Env) (s : Shared) (H : Hp) (vs : List V) (Q : VK) (E : XK), Room k (A.deeper (envOfC qual (defScope st) s.heap.objs.size f cdv)) → (A.deeper (envOfC qual (defScope st) s.heap.objs.size f cdv)).guards = some [] → sp vs H Q E →
      ∃ t, PSs (cxOf CX0 P w K mg base N qual (defScope st) f cdv A stk s H E).nox (defBody st) t ∧ t { nx := fun _ H' => Q .non H', rt := Q } (L2.start N vs) H) : FnG P w K mg base (k + 1) f fd ps sp := by
  obtain ⟨_, _, _, _, _, _, cdv, _, _, rfl, look, hcode⟩ := F.ex
  refine ⟨hn, fun A stk s H as us vs Q E room hguard e0 hbind rv hsp => ?_⟩
  have len := hn _ _ _ _ hsp
  have hin : K.In s.heap := e0.mod.kin.keeps fun b o e => (e0.bs b o e).1
  have hlim := e0.mod.nolimit.keeps (h' := s.heap) fun b o e => (e0.bs b o e).1
  have kinds : ∀ y ∈ ps.zip us, (defScope st).names.lookup y.1 = some .local ∨ ((defScope st).names.lookup y.1 = some .cell ∧ ((cellsFrom (s.heap.objs.size + 1) (defScope st).names []).lookup y.1).isSome = true) := by
    rintro ⟨a, b⟩ hy
    exact (S.par a (List.of_mem_zip hy).1).elim .inl fun q => .inr ⟨q, PySem.W.cellsFrom_some _ _ _ (.inl q)⟩
  refine codeAny_call_function room.depth (hin _ _ look) rfl S.co S.gen rfl (PySem.W.codeRec_of hin hcode) (hbind _ _ _ _ (wpAny_newFunctionEnv_cells S.kind kinds fun env e s1 made => ?_))
  subst e
  refine ⟨hlim.keeps made.toInCall.keep, codeAny_func ?_⟩
  obtain ⟨t, hp, ht⟩ := hb cdv A stk s H vs Q E (room.deeper _) hguard hsp
  refine wpAny_mono (hp.nox.run [] s1 (L2.start N vs) H _ (inv_start S room.hd e0 len rv made) ht) (fun fl s' out => ?_) fun _ _ z => z
  match fl, out with
  | .ret u, ⟨v, σ2, H2, I2, r2, q2⟩ => exact ⟨v, H2, I2.os, I2.bare, I2.base, I2.hok, r2, q2⟩
  | .next, ⟨σ2, H2, I2, q2⟩ => exact ⟨.non, H2, I2.os, I2.bare, I2.base, I2.hok, rfl, q2⟩
  | .brk, ⟨_, _, _, q2⟩ => exact q2.elim
  | .cont, ⟨_, _, _, q2⟩ => exact q2.elim
end
/-! repr -/
def rReprT (K : PySem.W.Frag) : List V → Hp → VK → Prop := fun xs H Q => ∃ (a : Addr) (d : PyData), xs = [.ref a] ∧ Dp K H (.ref a) d ∧ d.showable = true ∧ d.hasDict = false ∧ d.depth ≤ 60 ∧ d.shown.length ≤ sizeLine ∧ Q (.str d.shown) H
theorem cr_reprTK (K : PySem.W.Frag) {X : Cx} (hg : X.A.guards = some []) (hu : X.A.units + 64 < cLine) (hk : X.K = K := by rfl) : CallR X (.builtin "repr") (rReprT K) := by
  subst hk
  intro pins s σ H vs us Q I r h
  obtain ⟨a, d, rfl, hd, h1, h2, h3, h4, q⟩ := h
  rw [Vals.ref1 r]
  obtain ⟨as, rd⟩ := Dp.reads I _ _ _ hd (show RelV (.ref a) (.ref a) from rfl)
  exact repr_of_reads' rd h1 (PyData.noDict_hsm h2) hg (by omega) (fun _ _ e => e) (fun h' u tk hk => ⟨.str d.shown, H, I.kept hk, ⟨_, rfl⟩, q⟩) h4
theorem oc_reprT {K : PySem.W.Frag} {J : Jm} {R : Dt → Prop} {d : Dt} {ds : List Dt} (hd : d = .tup ds ∨ d = .lst ds) (hpl : plainD d = true) (hs : (pyD d).showable = true) (hn : (pyD d).hasDict = false) (hdp : (pyD d).depth ≤ 60) (hz : (pyD d).shown.length ≤ sizeLine) (h : R (.str (pyD d).shown)) : Oc K J (rReprT K) [d] R := fun G H vs w rs Q q => by
  cases rs with
  | cons r1 r2 =>
    cases r2
    have hdp2 := dp_of w.gh r1 hpl
    rcases hd with rfl | rfl
    · cases r1 with
      | tup s t => exact ⟨_, _, rfl, hdp2, hs, hn, hdp, hz, q _ _ G H w.nx (.str _) h⟩
    · cases r1 with
      | lst s t => exact ⟨_, _, rfl, hdp2, hs, hn, hdp, hz, q _ _ G H w.nx (.str _) h⟩
/-! the end -/
/-- the script tracked as a list that none changes, unless it is one of the module's own -/
def hpS (K : PySem.W.Frag) (a : Addr) (vs : List Value) (ns : List Int) : Hp := fun b => if b = a ∧ K.lookup a = none then some (.frz { cls := .type "list", data := .seq vs.toArray } (.lst (ns.map V.int))) else none
section
variable {P : Program} {w : World} {K : PySem.W.Frag} {mg mb : Str → Option Value}
theorem hpS_some {a b : Addr} {vs : List Value} {ns : List Int} (h : hpS K a vs ns b ≠ none) : b = a ∧ K.lookup a = none := by
  unfold hpS at h
  by_cases q : b = a ∧ K.lookup a = none
  · exact q
  · rw [if_neg q] at h; exact absurd rfl h
theorem hpS_at {a : Addr} {vs : List Value} {ns : List Int} (h : K.lookup a = none) : hpS K a vs ns a = some (.frz { cls := .type "list", data := .seq vs.toArray } (.lst (ns.map V.int))) := if_pos ⟨rfl, h⟩
theorem law_goG {k : Nat} {fa a : Addr} {fd : FuncData} {x : Str} {sp : Sp} {s : Shared} {vs : List Value} {ns : List Int} (KX : K.In s.heap) (hG : s.heap.Ns mainGlobals mg) (hB : s.heap.Ns builtinsNs mb) (hBb : ∀ x : Str, x ≠ "__name__" → mb x = bootBuiltins x)
    (hlim : s.heap.NoLimit) (hg : s.gens = #[]) (ha : s.heap.get? a = some { cls := .type "list", data := .seq vs.toArray }) (hi : IntsAre vs ns) (hl : ns.length ≤ sizeLine) (hr : Room k callerA)
    (F : ∀ base : Heap, K.In base → base.Ns mainGlobals mg → FnG P w K mg base k fa fd [x] sp) (hbind : ∀ (s : Shared) (u : Value), BindsTo s fd ⟨[u], []⟩ [(x, u)])
    (hsp : ∀ H : Hp, SqL K H a (ns.map V.int) → sp [.ref a] H (fun v _ => v = .bl true) E0) :
    codeAny (model P w) callerA (.call (.ref fa) ⟨[.ref a], []⟩) (fun r s' => r = .ok (.ret (.bool true)) ∧ OldK s.heap s'.heap ∧ s'.os = s.os ∧ AllBare s'.gens) s := by
  have rv := vals_ints hi
  have lenV := hi.length
  have only : ∀ b o, s.heap.get? b = some o → (b = a → K.lookup a = none → False) → (hidT s.heap (hpS K a vs ns)).get? b = some o := fun b o e hn => hidT_get e (by
    cases q : hpS K a vs ns b with
    | none => rfl
    | some u =>
      obtain ⟨h1, h2⟩ := hpS_some (K := K) (a := a) (b := b) (vs := vs) (ns := ns) (by rw [q]; simp)
      exact (hn h1 h2).elim)
  have keepD : ∀ (b : Addr) (m : Str → Option Value), s.heap.Ns b m → (hidT s.heap (hpS K a vs ns)).Ns b m := fun b m ⟨o, es, ep, e, d, r⟩ => ⟨o, es, ep, only b o e (fun h1 _ => by
    subst h1
    rw [ha] at e
    cases e
    cases (show Data.seq vs.toArray _ = Data.dict es ep from d)), d, r⟩
  have hin : K.In (hidT s.heap (hpS K a vs ns)) := fun b o e => only b o (KX b o e) fun h1 h2 => by
    subst h1
    rw [h2] at e
    cases e
  have hok : HOk P w (hpS K a vs ns) s.heap := fun b u e => by
    obtain ⟨h1, h2⟩ := hpS_some (K := K) (a := a) (b := b) (vs := vs) (ns := ns) (by rw [e]; simp)
    subst h1
    rw [hpS_at h2] at e
    cases e
    exact ⟨ha, by rw [List.length_map]; exact hl, vs, _, rv, ha⟩
  have sq : SqL K (hpS K a vs ns) a (ns.map V.int) := by
    cases hk : K.lookup a with
    | some o =>
      have e := KX a o hk
      rw [ha] at e
      cases e
      exact .inr ⟨_, vs.toArray, _, hk, rfl, rfl, rfl, by rw [List.size_toArray, lenV]; exact hl, by simpa using rv⟩
    | none => exact .inl (.inr ⟨_, hpS_at hk⟩)
  obtain ⟨mc, l1, l2⟩ := hlim
  have e0 : Env0 P w K mg (hidT s.heap (hpS K a vs ns)) callerA [] s (hpS K a vs ns) :=
    ⟨rfl, ⟨hin, keepD _ _ hG, ⟨mb, keepD _ _ hB, hBb⟩, ⟨mc, keepD _ _ l1, l2⟩⟩, fun b o e => of_hidT e, Nat.le_of_eq (hidT_size _ _), trivial, fun b hb => (by cases (show b ∈ ([] : List Addr) from hb)), hok, .of_eq hg⟩
  refine codeAny_mono ((F _ hin (keepD _ _ hG)).go callerA [] s _ ⟨[.ref a], []⟩ [.ref a] [.ref a] _ E0 hr rfl e0 (hbind s (.ref a)) (.cons rfl .nil) (hsp _ sq)) fun r s' out => ?_
  match r, out with
  | .ok (.ret u), ⟨v, H', os, bare, un, hok', r', q⟩ =>
    have q : v = .bl true := q
    subst q
    obtain rfl : u = Value.bool true := r'
    refine ⟨rfl, OldK.of_keep fun b o e => ?_, os, bare⟩
    cases hq : hpS K a vs ns b with
    | none => exact un.keep b o e hq (fun z => by cases (show b ∈ ([] : List Addr) from z)) (by simp)
    | some u =>
      obtain ⟨h1, h2⟩ := hpS_some (K := K) (a := a) (b := b) (vs := vs) (ns := ns) (by rw [hq]; simp)
      subst h1
      have later := un.frzs b _ _ (hpS_at h2)
      rw [ha] at e
      cases e
      exact (hok' b _ later).1
  | .ok .next, z => exact z.elim
  | .ok .brk, z => exact z.elim
  | .ok .cont, z => exact z.elim
  | .error e, z => exact z.elim
end
theorem walk_ofG {l : PySem.W.OpenLaw} {n k : Nat} {q : Program} {loose : List Str} {XP : (Str → Option Value) → Heap → Prop} {YP : World → Heap → Prop} {d : DefRec} {K : Params → PySem.W.Frag} {sp : World → Sp} {x : Str} (hn : l.most = some n) (hn2 : n ≤ sizeLine)
    (hdf : d.params.defaults = []) (hr : Room k callerA) (hY : ∀ (w : World) (h : Heap), YP w h → (K w.params).In h)
    (F : ∀ (w : World) (mg : Str → Option Value) (fa : Addr) (h : Heap), (K w.params).In h → h.Ns mainGlobals mg → mg d.name = some (.ref fa) →
      ∃ fd : FuncData, (∀ (s : Shared) (u : Value), BindsTo s fd ⟨[u], []⟩ [(x, u)]) ∧ ∀ base : Heap, (K w.params).In base → base.Ns mainGlobals mg → FnG l.prog w (K w.params) mg base k fa fd [x] (sp w))
    (hsp : ∀ (w : World) (H : Hp) (a : Addr) (ns : List Int), ns.length ≤ n → SqL (K w.params) H a (ns.map V.int) → sp w [.ref a] H (fun v _ => v = .bl true) E0) :
    PySem.W.WalkO q loose XP YP l.row.toRowW d [] (fun f vs => PySem.call f vs) := by
  refine Att.attach_call hn hdf fun w s₀ s₁ mg mb fa o pm cd doc a vs ns G Y ho hd hcd hmg hobj hints hlen hg => ?_
  obtain ⟨fd, hb, hF⟩ := F w mg fa _ (hY w _ Y) G.T.g hmg
  exact law_goG (hY w _ Y) G.T.g G.T.b G.T.builtins G.T.nolimit hg hobj hints (Nat.le_trans hlen hn2) hr hF hb fun H hS => hsp w H a ns hlen hS
section
variable {P : Program} {w : World} {K : PySem.W.Frag} {mg : Str → Option Value} {base : Heap}
theorem tape_start {N : List Str} {t : TS} {a : Addr} {ns : List Int} {H : Hp} {Q : VK} (hN : 1 < N.length) (hS : SqL K H a (ns.map V.int)) (hl : ns.length ≤ 63) (q : ∀ H', Q (.bl true) H')
    (ht : ∀ (ns : List Int) (p c : Addr), SvM K (JT p c) Mn ((startE N [.d (.lst (ns.map Dt.int))]).set 1 .tap) t { nx := fun _ _ => False, rt := fun d _ => d = .bl true }) :
    tSeq (tAsg (tCall (spTape K) [] E0 (tCons (tVar 0) tNil)) (gName 1)) t { nx := fun _ H' => Q .non H', rt := Q } (L2.start N [.ref a]) H := by
  refine ⟨.ref a, by unfold L2.start; rfl, ?_⟩
  show spTape K [.ref a] H (fun x H1 => t { nx := fun x H' => Q V.non H', rt := Q } ((L2.start N [V.ref a]).set 1 (some x)) H1) E0
  refine ⟨a, ns, rfl, hS, hl, fun p c H' hpc hp hc h1 h2 hk => ?_⟩
  have hd : (JT p c).hd = some (.tap p c) := rfl
  have sv : SvA K (JT p c) H [.ref a] [.d (.lst (ns.map Dt.int))] := .cons (show Dr K H (.ref a) (.lst (ns.map Dt.int)) from .lst hS Da.ints) .nil
  have en1 := (en_start (K := K) (J := JT p c) (G := H) (H := H') (N := N) sv).setT (i := 1) hd
  have keep : ∀ b o, H b = some o → H' b = some o := fun b o e => (hk b (fun z => by rw [z, hp] at e; cases e) (fun z => by rw [z, hc] at e; cases e)).trans e
  have wf : Wf (JT p c) H H' := ⟨keep, ⟨ns, 0, 0, 0, 7, 0, h1, h2, Int.le_refl _, hl⟩, fun m hm => by
    rcases hm with hm | hm
    · rw [hm, h1]; exact ⟨hp, by simp⟩
    · rw [hm, h2]; exact ⟨hc, by simp⟩, trivial⟩
  refine ht ns p c MVn MVn H H' H H' _ ⟨wfN wf, nxN wf.nx, ?_⟩ _ ⟨fun _ _ _ _ _ _ _ x => x.elim, fun _ _ _ _ _ _ _ x => x.elim, fun _ _ _ _ _ _ _ x => x.elim, fun v d M' MV' G' H2 n w' r x => ?_, fun _ _ _ _ _ _ _ _ _ _ _ _ _ x => x.elim⟩
  · exact ⟨en1.len, fun i s hs => let ⟨ov, x, y⟩ := en1.ok i s hs; ⟨ov, x, y.toM⟩, en1.ap⟩
  · have x : d = .bl true := x
    subst x
    cases r
    exact q H2
theorem ok_lwTG {x qual : Str} {st : Stmt} {f : Addr} {fd : FuncData} {N : List Str} {k : Nat} (F : L2.Fun K x qual st f fd) (S : FnScope N ["script"] (defScope st)) (hN : 1 < N.length)
    (hb : ∀ (cdv : Value) (A : Around) (outer : List PySem.Env) (s : Shared) (H : Hp) (E : XK), Room k (A.deeper (envOfC qual (defScope st) s.heap.objs.size f cdv)) → (A.deeper (envOfC qual (defScope st) s.heap.objs.size f cdv)).guards = some [] →
      ∃ t, PSs (cxOf CX0 P w K mg base N qual (defScope st) f cdv A outer s H E).nox (defBody st) (tSeq (tAsg (tCall (spTape K) [] E0 (tCons (tVar 0) tNil)) (gName 1)) t) ∧
        ∀ (ns : List Int) (p c : Addr), SvM K (JT p c) Mn ((startE N [.d (.lst (ns.map Dt.int))]).set 1 .tap) t { nx := fun _ _ => False, rt := fun d _ => d = .bl true }) :
    FnG P w K mg base (k + 1) f fd ["script"] (spLaw K) := by
  refine fnG_of F S (fun vs H Q E h => ?_) (fun cdv A outer s H vs Q E hr hgd h => ?_)
  · obtain ⟨a, ns, rfl, _⟩ := h
    rfl
  · obtain ⟨a, ns, rfl, hS, hl, q⟩ := h
    obtain ⟨t, hp, ht⟩ := hb cdv A outer s H E hr hgd
    exact ⟨_, hp, tape_start hN hS hl q ht⟩
end
end Mv

set_option Elab.async false
set_option linter.all false
set_option maxRecDepth 100000
set_option maxHeartbeats 4000000
/-! Told dicts whose keys are tuples within tuples: keys as data, where such a dict stands, k in d. -/
namespace Mv
open PySem PySem.Spec PyProof.Rows L2
mutual
/-- data that is a key -/
def nkD : Dt → Option NestedKey
  | .int i => some (.num i)
  | .str x => some (.text x)
  | .tup ds => (nkDs ds).map .tup
  | _ => none
def nkDs : List Dt → Option (List NestedKey)
  | [] => some []
  | d :: ds => match nkD d, nkDs ds with
    | some k, some ks => some (k :: ks)
    | _, _ => none
end
mutual
theorem nk_dr {K : PySem.W.Frag} {G : Hp} : ∀ {v : V} {d : Dt} {k : NestedKey}, Dr K G v d → nkD d = some k → NkV K G k v
  | _, .int i, k, r, h => by
    cases r
    simp only [nkD] at h
    cases h
    exact .int i
  | _, .str x, k, r, h => by
    cases r
    simp only [nkD] at h
    cases h
    exact .text x
  | _, .tup ds, k, r, h => by
    cases r with
    | tup s t =>
      simp only [nkD] at h
      obtain ⟨ks, h1, rfl⟩ := Option.map_eq_some_iff.mp h
      exact .tup s (nk_da t h1)
  | _, .non, k, r, h => by simp [nkD] at h
  | _, .bl _, k, r, h => by simp [nkD] at h
  | _, .lst _, k, r, h => by simp [nkD] at h
  | _, .ob _ _, k, r, h => by simp [nkD] at h
  | _, .ptr _, k, r, h => by simp [nkD] at h
theorem nk_da {K : PySem.W.Frag} {G : Hp} : ∀ {vs : List V} {ds : List Dt} {ks : List NestedKey}, Da K G vs ds → nkDs ds = some ks → NkA K G ks vs
  | _, [], ks, r, h => by
    cases r
    simp only [nkDs] at h
    cases h
    exact .nil
  | _, d :: ds, ks, r, h => by
    cases r with
    | cons r1 r2 =>
      simp only [nkDs] at h
      cases h1 : nkD d with
      | none => rw [h1] at h; cases h
      | some k =>
        cases h2 : nkDs ds with
        | none => rw [h1, h2] at h; cases h
        | some ks' =>
          rw [h1, h2] at h
          cases h
          exact .cons (nk_dr r1 h1) (nk_da r2 h2)
end
/-- such a dict stands where it is told to -/
theorem nd_addr {P : Program} {w w' : World} {P' : Program} {H : Hp} {h : Heap} {p a : Addr} {ks : List (NestedKey × Addr × V)} (ok : ObjOk P w H h p (ndO P' w' a ks)) : a = p := by
  by_cases e : a = p
  · exact e
  · exfalso
    obtain ⟨h1, _, h3⟩ := ok
    obtain ⟨G, g1, g2⟩ := restrict h fun b => decide (b ≠ a)
    obtain ⟨_, o, es, ep, xs, q, _⟩ := h3 h G h1 fun o ho => by rw [g1 p (decide_eq_true fun z => e z.symm)]; exact ho
    rw [g2 a (by simp)] at q
    cases q
section
variable {X : Cx}
/-- the same rules, where the dict stands as told -/
def rInP (P : Program) (w : World) (K : PySem.W.Frag) (neg : Bool) : R2 := fun x y H Q => ∃ (b p a : Addr) (ks : List (NestedKey × Addr × V)) (k : NestedKey), x = .ref b ∧ y = .ref p ∧ H p = some (ndO P w a ks) ∧ NdK K H ks ∧ NkV K H k (.ref b) ∧ k.depth ≤ 8 ∧ Q (.bl (if neg then !(atN ks k).isSome else (atN ks k).isSome)) H
theorem op_inP (hu : X.A.units + 9 < cLine) : OpR X (compareOp .In) (rInP X.prog X.w X.K false) := by
  intro pins s σ H x y v u Q I rx ry h
  obtain ⟨b, p, a, ks, k, rfl, rfl, hH, r⟩ := h
  have e := nd_addr (I.hok p _ hH)
  subst e
  exact op_inN hu pins s σ H _ _ v u Q I rx ry ⟨b, a, ks, k, rfl, rfl, hH, r⟩
theorem op_notInP (hu : X.A.units + 9 < cLine) : OpR X (compareOp .NotIn) (rInP X.prog X.w X.K true) := by
  intro pins s σ H x y v u Q I rx ry h
  obtain ⟨b, p, a, ks, k, rfl, rfl, hH, r⟩ := h
  have e := nd_addr (I.hok p _ hH)
  subst e
  exact op_notInN hu pins s σ H _ _ v u Q I rx ry ⟨b, a, ks, k, rfl, rfl, hH, r⟩
theorem op_inPK {P : Program} {w : World} (K : PySem.W.Frag) (hu : X.A.units + 64 < cLine) (hk : X.K = K := by rfl) (hp : X.prog = P := by rfl) (hw : X.w = w := by rfl) : OpR X (compareOp .In) (rInP P w K false) := by
  subst hk hp hw
  exact op_inP (by omega)
theorem op_notInPK {P : Program} {w : World} (K : PySem.W.Frag) (hu : X.A.units + 64 < cLine) (hk : X.K = K := by rfl) (hp : X.prog = P := by rfl) (hw : X.w = w := by rfl) : OpR X (compareOp .NotIn) (rInP P w K true) := by
  subst hk hp hw
  exact op_notInP (by omega)
end
/-! {}, d[k], d[k] = v, del d[k] as terms -/
def tDNewN (P : Program) (w : World) : TE := fun _ H Q => ∀ p, H p = none → Q (.ref p) (upd H p (ndO P w p []))
def tDGetN (P : Program) (w : World) (K : PySem.W.Frag) (td ty : TE) : TE := fun σ H Q => td σ H fun x H1 => ty σ H1 fun y H2 => ∃ (p a b : Addr) (ks : List (NestedKey × Addr × V)) (k : NestedKey) (v : V), x = .ref p ∧ y = .ref b ∧ H2 p = some (ndO P w a ks) ∧ NdK K H2 ks ∧ NkV K H2 k (.ref b) ∧ k.depth ≤ 8 ∧ atN ks k = some v ∧ Q v H2
def sDPutN (P : Program) (w : World) (K : PySem.W.Frag) (td ty tv : TE) : TS := fun D σ H => tv σ H fun v H1 => td σ H1 fun x H2 => ty σ H2 fun y H3 => ∃ (p a b : Addr) (ks : List (NestedKey × Addr × V)) (k : NestedKey), x = .ref p ∧ y = .ref b ∧ H3 p = some (ndO P w a ks) ∧ NdK K H3 ks ∧ NkV K H3 k (.ref b) ∧ k.depth ≤ 8 ∧ ks.length ≤ sizeLine ∧ D.nx σ (upd H3 p (ndO P w p (putN ks k b v)))
def sDDelN (P : Program) (w : World) (K : PySem.W.Frag) (td ty : TE) : TS := fun D σ H => td σ H fun x H1 => ty σ H1 fun y H2 => ∃ (p a b : Addr) (ks : List (NestedKey × Addr × V)) (k : NestedKey) (v : V), x = .ref p ∧ y = .ref b ∧ H2 p = some (ndO P w a ks) ∧ NdK K H2 ks ∧ NkV K H2 k (.ref b) ∧ k.depth ≤ 8 ∧ atN ks k = some v ∧ ks.length ≤ sizeLine ∧ D.nx σ (upd H2 p (ndO P w p (dropN ks k)))
section
variable {X : Cx} {o i e value : Expr} {pos pos' tpos : Pos} {td ty tv : TE}
theorem nd_empty {P : Program} {w : World} {H : Hp} (h : Heap) (hb : sysModules < h.objs.size) : ObjOk P w H (h.push { cls := .type "dict", data := .dict #[] }) h.objs.size (ndO P w h.objs.size []) :=
  ndO_ok (beq_eq_false_iff_ne.mpr (Ne.symm (Nat.ne_of_lt hb))) (Heap.DictOfH.new h) .nil
theorem pe_dnewN : PE X (.Dict [] [] pos) (tDNewN X.prog X.w) := ⟨fun pins s σ H Q I h =>
  wpAny_Dict_empty ⟨.ref s.heap.objs.size, _, I.laid (a := s.heap.objs.size) (o := ndO X.prog X.w s.heap.objs.size []) (t' := s.toks) (fun _ _ q => Heap.get?_push_of_some _ q) (Nat.le_refl _) (nd_empty s.heap I.big), rfl, h _ (I.hok.fresh (Nat.le_refl _))⟩⟩
theorem pe_dgetN (hu : X.A.units + 64 < cLine) (ho : PE X o td) (hi : PE X i ty) (hs : NoSl i) : PE X (.Subscript o i pos) (tDGetN X.prog X.w X.K td ty) := by
  refine ⟨fun pins s σ H Q I h => ?_⟩
  refine subD_of PySem.F.slot_dict_getitem.lookup hs (thn (ho.run pins s σ H _ I h) fun u s1 ⟨x, H1, I1, rx, q1⟩ => thn (hi.run pins s1 σ H1 _ I1 q1) fun iv s2 ⟨y, H2, I2, ry, p, a, b, ks, k, v, ex, ey, hH, hk, hn, hd, hv, q2⟩ => ?_)
  subst ex ey
  obtain rfl : u = Value.ref p := rx
  obtain rfl : iv = Value.ref b := ry
  have e := nd_addr (I2.hok p _ hH)
  subst e
  obtain ⟨_, xs, hx, _⟩ := nd_at I2 hH hk
  exact ⟨hx.typeIs, nd_getItem (by omega) I2 hH hk hn hd hv fun w' s3 I3 rw' => ⟨v, H2, I3, rw', q2⟩⟩
theorem ps_dputN (hu : X.A.units + 64 < cLine) (ho : PE X o td) (hi : PE X i ty) (hv : PE X value tv) (hs : swapsWith value (some (.Subscript o i pos')) pos.line X.env = pure false) :
    PS X (.Assign [.Subscript o i pos'] value pos) (sDPutN X.prog X.w X.K td ty tv) := by
  refine ⟨fun pins s σ H D I h => ?_⟩
  refine wpAny_Assign_Subscript (thn (hv.run pins s σ H _ I h) fun r s1 ⟨v, H1, I1, rv, q1⟩ => thn (ho.run pins s1 σ H1 _ I1 q1) fun u s2 ⟨x, H2, I2, rx, q2⟩ => thn (hi.run pins s2 σ H2 _ I2 q2) fun iv s3 ⟨y, H3, I3, ry, p, a, b, ks, k, ex, ey, hH, hk, hn, hd, hz, q3⟩ => ?_) hs
  subst ex ey
  obtain rfl : u = Value.ref p := rx
  obtain rfl : iv = Value.ref b := ry
  have e := nd_addr (I3.hok p _ hH)
  subst e
  exact nd_setItem (by omega) I3 hH hk hn hd rv hz fun s4 I4 => ⟨σ, _, I4, q3⟩
theorem ps_ddelN (hu : X.A.units + 64 < cLine) (ho : PE X o td) (hi : PE X i ty) : PS X (.Delete [.Subscript o i tpos] pos) (sDDelN X.prog X.w X.K td ty) := by
  refine ⟨fun pins s σ H D I h => ?_⟩
  refine wpAny_Delete (wpAny_deleteEach_cons (wpAny_delete_Subscript (thn (ho.run pins s σ H _ I h) fun u s1 ⟨x, H1, I1, rx, q1⟩ => thn (hi.run pins s1 σ H1 _ I1 q1) fun iv s2 ⟨y, H2, I2, ry, p, a, b, ks, k, v, ex, ey, hH, hk, hn, hd, hv, hz, q2⟩ => ?_)))
  subst ex ey
  obtain rfl : u = Value.ref p := rx
  obtain rfl : iv = Value.ref b := ry
  have e := nd_addr (I2.hok p _ hH)
  subst e
  exact nd_delItem (by omega) I2 hH hk hn hd hv hz fun s3 I3 => wpAny_deleteEach_nil ⟨σ, _, I3, q2⟩
end
section
variable {K : PySem.W.Frag} {J : Jm} {M : Mm} {MV : Mh} {G H : Hp}
theorem Wf.dnM {P : Program} {w0 : World} (w : Wf (Jt K J MV M) G H) {p : Addr} {ds : List (NestedKey × Dt)} (h : M p = some (.dn P w0 ds)) : ∃ (a : Addr) (ks : List (NestedKey × Addr × V)), MV p = some (ndO P w0 a ks) ∧ H p = some (ndO P w0 a ks) ∧ NdD K G ks ds := by
  obtain ⟨ho, h1, h2, h3⟩ := w.at_ h
  generalize e : OB.dn P w0 ds = ob at h3
  cases h3 with
  | lst _ => cases e
  | dic _ => cases e
  | dit _ => cases e
  | ins _ => cases e
  | dn r => cases e; exact ⟨_, _, h1, h2, r⟩
/-- k in d -/
theorem o2_inN {P : Program} {w0 : World} {neg : Bool} {R : Dt → Prop} {p : Addr} {ds : List (NestedKey × Dt)} {xs : List Dt} {k : NestedKey} (hM : M p = some (.dn P w0 ds)) (hx : nkD (.tup xs) = some k) (h8 : k.depth ≤ 8) (h : R (.bl (if neg then !(atQ ds k).isSome else (atQ ds k).isSome))) :
    O2 K (Jt K J MV M) (rInP P w0 K neg) (.tup xs) (.ptr p) R := fun G H vx vy w rx ry Q q => by
  cases ry
  obtain ⟨a, ks, _, hH, r⟩ := w.dnM hM
  have hk := nk_dr rx hx
  cases rx with
  | tup s t =>
    refine ⟨_, p, a, ks, k, rfl, rfl, hH, fun e he => ⟨NkV.mono w.gh (r.keys e he).1, (r.keys e he).2⟩, NkV.mono w.gh hk, h8, ?_⟩
    rw [r.has]
    exact q _ _ G H w.nx (.bl _) h
theorem nd_keysH {P : Program} {w0 : World} {ks : List (NestedKey × Addr × V)} {ds : List (NestedKey × Dt)} (r : NdD K G ks ds) (e : Same G H) : NdK K H ks := fun x hx => ⟨NkV.mono e (r.keys x hx).1, (r.keys x hx).2⟩
end
section
variable {K : PySem.W.Frag} {J : Jm} {M : Mm} {MV : Mh} {env : List Sl} {D : DM} {tk tv : TE} {P : Program} {w0 : World} {i : Nat} {p : Addr} {ds : List (NestedKey × Dt)}
/-- {} -/
theorem evm_dnewN {R : Dt → Mm → Prop} (h : ∀ p, M p = none → R (.ptr p) (updM M p (.dn P w0 []))) : EvM K J M env D (tDNewN P w0) R := fun MV0 MV GB B G H σ a x Q q p hp => by
  have hj : p ∉ J.ms := (not_jt.mp (a.wf.notin hp)).1
  have hM := a.wf.none_ hp
  have n1 := a.wf.newM hp (ndO P w0 p [])
  have n2 := nxm_put (ho := ndO P w0 p []) (.inr hp) (NxM.of n1)
  exact q (.ref p) (.ptr p) _ _ G _ n2 (a.thenM n2 ((n1.wf a.wf).put hj (a.wf.free hp) upd_same (.dn .nil))) (.ptr _) (h p hM.2)
/-- d[k] -/
theorem ev_dgetN {R : Dt → Prop} (hi : env[i]? = some (.d (.ptr p))) (hM : M p = some (.dn P w0 ds)) (h : Ev K (Jt K J MV M) env tk fun x => ∃ xs k d, x = .tup xs ∧ nkD x = some k ∧ k.depth ≤ 8 ∧ atQ ds k = some d ∧ R d) : Ev K (Jt K J MV M) env (tDGetN P w0 K (tVar i) tk) R := fun B G H σ w E Q q => by
  obtain ⟨v, h1, r⟩ := E.dat hi
  cases r
  refine ⟨.ref p, h1, h B G H σ w E _ fun y x G1 H1 n1 rx ⟨xs, k, d, ex, hx, h8, hd, kx⟩ => ?_⟩
  subst ex
  have w1 := n1.wf w
  obtain ⟨a', ks, _, hH, t⟩ := w1.dnM hM
  have hk := nk_dr rx hx
  cases rx with
  | tup s t' =>
    obtain ⟨v, hv, rv⟩ := (t.at k).1 d hd
    exact ⟨p, a', _, ks, k, v, rfl, rfl, hH, nd_keysH (P := P) (w0 := w0) t w1.gh, NkV.mono w1.gh hk, h8, hv, q v d G1 H1 n1 rv kx⟩
/-- d[k] = v -/
theorem sm_dputN (hi : env[i]? = some (.d (.ptr p))) (hM : M p = some (.dn P w0 ds)) (hz : ds.length ≤ 100000) (h : ∀ MV, Ev K (Jt K J MV M) env tv fun d => Ev K (Jt K J MV M) env tk fun x => ∃ xs k, x = .tup xs ∧ nkD x = some k ∧ k.depth ≤ 8 ∧ D.nx (updM M p (.dn P w0 (putQN ds k d))) env) :
    SvM K J M env (sDPutN P w0 K (tVar i) tk tv) D := fun MV0 MV GB B G H σ a E r =>
  h MV B G H σ a.wf a.en _ fun v d G1 H1 n1 rd k => by
    have a1 := a.then n1
    obtain ⟨v0, h1, r0⟩ := a1.en.dat hi
    cases r0
    refine ⟨.ref p, h1, k B G1 H1 σ a1.wf a1.en _ fun y x G2 H2 n2 rx ⟨xs, k, ex, hx, h8, kx⟩ => ?_⟩
    subst ex
    have a2 := a1.then n2
    obtain ⟨a', ks, e1, e2, t⟩ := a2.wf.dnM hM
    have hk := nk_dr rx hx
    cases rx with
    | @tup b us _ s t' =>
      have n5 := a2.wf.chgN (ho' := ndO P w0 p (putN ks k b v)) e1
      exact ⟨p, a', b, ks, k, rfl, rfl, e2, nd_keysH (P := P) (w0 := w0) t a2.wf.gh, NkV.mono a2.wf.gh hk, h8, sz_of (by rw [t.len]; exact hz), r.nx _ _ env _ _ σ (a2.thenM n5 (a2.wf.chg e1 (.dn (t.put hk h8 (rd.mono n2.gg))))) kx⟩
/-- del d[k] -/
theorem sm_ddelN (hi : env[i]? = some (.d (.ptr p))) (hM : M p = some (.dn P w0 ds)) (hz : ds.length ≤ 100000) (h : ∀ MV, Ev K (Jt K J MV M) env tk fun x => ∃ xs k, x = .tup xs ∧ nkD x = some k ∧ k.depth ≤ 8 ∧ (atQ ds k).isSome = true ∧ D.nx (updM M p (.dn P w0 (dropQ ds k))) env) :
    SvM K J M env (sDDelN P w0 K (tVar i) tk) D := fun MV0 MV GB B G H σ a E r => by
  obtain ⟨v0, h1, r0⟩ := a.en.dat hi
  cases r0
  refine ⟨.ref p, h1, h MV B G H σ a.wf a.en _ fun y x G2 H2 n2 rx ⟨xs, k, ex, hx, h8, hs, kx⟩ => ?_⟩
  subst ex
  have a2 := a.then n2
  obtain ⟨a', ks, e1, e2, t⟩ := a2.wf.dnM hM
  have hk := nk_dr rx hx
  obtain ⟨v, hv⟩ := Option.isSome_iff_exists.mp (t.has.trans hs)
  cases rx with
  | @tup b us _ s t' =>
    have n5 := a2.wf.chgN (ho' := ndO P w0 p (dropN ks k)) e1
    exact ⟨p, a', b, ks, k, v, rfl, rfl, e2, nd_keysH (P := P) (w0 := w0) t a2.wf.gh, NkV.mono a2.wf.gh hk, h8, hv, sz_of (by rw [t.len]; exact hz), r.nx _ _ env _ _ σ (a2.thenM n5 (a2.wf.chg e1 (.dn t.drop))) kx⟩
/-! the dict by any expression (a field of a told instance, say) -/
theorem ev_dgetNE {td : TE} {R : Dt → Prop} (h : Ev K (Jt K J MV M) env td fun z => ∃ p ds, z = .ptr p ∧ M p = some (.dn P w0 ds) ∧ Ev K (Jt K J MV M) env tk fun x => ∃ xs k d, x = .tup xs ∧ nkD x = some k ∧ k.depth ≤ 8 ∧ atQ ds k = some d ∧ R d) : Ev K (Jt K J MV M) env (tDGetN P w0 K td tk) R := fun B G H σ w E Q q =>
  h B G H σ w E _ fun z zd G0 H0 n0 rz ⟨p, ds, ez, hM, h⟩ => by
    subst ez
    cases rz
    refine h B G0 H0 σ (n0.wf w) (E.mono n0) _ fun y x G1 H1 n1 rx ⟨xs, k, d, ex, hx, h8, hd, kx⟩ => ?_
    subst ex
    have w1 := n1.wf (n0.wf w)
    obtain ⟨a', ks, _, hH, t⟩ := w1.dnM hM
    have hk := nk_dr rx hx
    cases rx with
    | tup s t' =>
      obtain ⟨v, hv, rv⟩ := (t.at k).1 d hd
      exact ⟨p, a', _, ks, k, v, rfl, rfl, hH, nd_keysH (P := P) (w0 := w0) t w1.gh, NkV.mono w1.gh hk, h8, hv, q v d G1 H1 (n0.trans n1) rv kx⟩
theorem sm_dputNE {td : TE} (h : ∀ MV, Ev K (Jt K J MV M) env tv fun d => Ev K (Jt K J MV M) env td fun z => ∃ p ds, z = .ptr p ∧ M p = some (.dn P w0 ds) ∧ ds.length ≤ 100000 ∧ Ev K (Jt K J MV M) env tk fun x => ∃ xs k, x = .tup xs ∧ nkD x = some k ∧ k.depth ≤ 8 ∧ D.nx (updM M p (.dn P w0 (putQN ds k d))) env) :
    SvM K J M env (sDPutN P w0 K td tk tv) D := fun MV0 MV GB B G H σ a E r =>
  h MV B G H σ a.wf a.en _ fun v d G1 H1 n1 rd k => by
    have a1 := a.then n1
    refine k B G1 H1 σ a1.wf a1.en _ fun z zd G0 H0 n0 rz ⟨p, ds, ez, hM, hz, k⟩ => ?_
    subst ez
    cases rz
    have a0 := a1.then n0
    refine k B G0 H0 σ a0.wf a0.en _ fun y x G2 H2 n2 rx ⟨xs, k, ex, hx, h8, kx⟩ => ?_
    subst ex
    have a2 := a0.then n2
    obtain ⟨a', ks, e1, e2, t⟩ := a2.wf.dnM hM
    have hk := nk_dr rx hx
    cases rx with
    | @tup b us _ s t' =>
      have n5 := a2.wf.chgN (ho' := ndO P w0 p (putN ks k b v)) e1
      exact ⟨p, a', b, ks, k, rfl, rfl, e2, nd_keysH (P := P) (w0 := w0) t a2.wf.gh, NkV.mono a2.wf.gh hk, h8, sz_of (by rw [t.len]; exact hz), r.nx _ _ env _ _ σ (a2.thenM n5 (a2.wf.chg e1 (.dn (t.put hk h8 (rd.mono (n0.gg.trans n2.gg)))))) kx⟩
theorem sm_ddelNE {td : TE} (h : ∀ MV, Ev K (Jt K J MV M) env td fun z => ∃ p ds, z = .ptr p ∧ M p = some (.dn P w0 ds) ∧ ds.length ≤ 100000 ∧ Ev K (Jt K J MV M) env tk fun x => ∃ xs k, x = .tup xs ∧ nkD x = some k ∧ k.depth ≤ 8 ∧ (atQ ds k).isSome = true ∧ D.nx (updM M p (.dn P w0 (dropQ ds k))) env) :
    SvM K J M env (sDDelN P w0 K td tk) D := fun MV0 MV GB B G H σ a E r =>
  h MV B G H σ a.wf a.en _ fun z zd G0 H0 n0 rz ⟨p, ds, ez, hM, hz, k⟩ => by
    subst ez
    cases rz
    have a0 := a.then n0
    refine k B G0 H0 σ a0.wf a0.en _ fun y x G2 H2 n2 rx ⟨xs, k, ex, hx, h8, hs, kx⟩ => ?_
    subst ex
    have a2 := a0.then n2
    obtain ⟨a', ks, e1, e2, t⟩ := a2.wf.dnM hM
    have hk := nk_dr rx hx
    obtain ⟨v, hv⟩ := Option.isSome_iff_exists.mp (t.has.trans hs)
    cases rx with
    | @tup b us _ s t' =>
      have n5 := a2.wf.chgN (ho' := ndO P w0 p (dropN ks k)) e1
      exact ⟨p, a', b, ks, k, v, rfl, rfl, e2, nd_keysH (P := P) (w0 := w0) t a2.wf.gh, NkV.mono a2.wf.gh hk, h8, hv, sz_of (by rw [t.len]; exact hz), r.nx _ _ env _ _ σ (a2.thenM n5 (a2.wf.chg e1 (.dn t.drop))) kx⟩
end
end Mv

set_option Elab.async false
set_option linter.all false
set_option maxRecDepth 100000
set_option maxHeartbeats 4000000
/-! any(xs), xs a list of whole numbers. -/
namespace Mv
open PySem PySem.Spec PyProof.Rows L2 PySem.W
def rAnyI (K : PySem.W.Frag) : List V → Hp → VK → Prop := fun vs H Q => ∃ (a : Addr) (r : List Int), vs = [.ref a] ∧ SqL K H a (r.map V.int) ∧ Q (.bl (r.any fun i => i != 0)) H
theorem plain_intsP : ∀ l : List Int, PyData.plainAll (l.map PyData.int) = true
  | [] => rfl
  | x :: r => by
    show PyData.plainAll (.int x :: r.map PyData.int) = true
    rw [PyData.plainAll, plain_intsP r]; rfl
theorem any_ints (l : List Int) : (l.map PyData.int).any PyData.truthy = l.any fun i => i != 0 := by
  rw [List.any_map]
  congr 1
section
variable {X : Cx}
theorem cr_anyI (hc : X.calm = true) : CallR X (.builtin "any") (rAnyI X.K) := by
  intro pins s σ H vs us Q I r h
  obtain ⟨a, l, rfl, hs, q⟩ := h
  obtain rfl := Vals.ref1 r
  have hh := I.ok.hd hc
  obtain ⟨its, rv, hl, _⟩ := I.list hs
  obtain ⟨as, hr⟩ := L2.Dp.readsAll I _ _ its (dpa_ints l) rv
  refine any_list_data hh hl.isList (by simpa using hr) (plain_intsP l) (fun x hx => ?_) fun h' tk hk => ?_
  · obtain ⟨i, _, rfl⟩ := List.mem_map.mp hx
    trivial
  · rw [any_ints]
    exact ⟨.bl _, H, I.kept (t' := tk) hk, rfl, q⟩
end
theorem c_anyIK (K : PySem.W.Frag) {X : Cx} (hc : X.calm = true := by rfl) (h : X.K = K := by rfl) : CallR X (.builtin "any") (rAnyI K) := h ▸ cr_anyI hc
theorem oc_anyI {K : PySem.W.Frag} {J : Jm} {R : Dt → Prop} {r : List Int} (h : R (.bl (r.any fun i => i != 0))) : Oc K J (rAnyI K) [.lst (r.map Dt.int)] R := fun G H vs w rs Q q => by
  cases rs with
  | cons r1 r2 =>
    cases r2
    cases r1 with
    | lst s t =>
      have e := t.ints_inv
      subst e
      exact ⟨_, r, rfl, same_l w.gh s, q _ _ G H w.nx (.bl _) h⟩
end Mv


set_option Elab.async false
set_option linter.all false
set_option maxRecDepth 100000
set_option maxHeartbeats 4000000
namespace Mv
open PySem PySem.Spec PyProof.Rows L2
def topS (i : Nat) : Stmt := PySem.Challenge.pw_movedwhole_k29_whole_even_rates.main.body.getD i (.Pass ⟨0, 0, 0, 0⟩)
abbrev s_is_integer : Stmt := topS 6
abbrev N_is_integer : List Str := ["value"]
abbrev P_is_integer : List Str := ["value"]
theorem sc_is_integer : FnScope N_is_integer P_is_integer (defScope s_is_integer) := ⟨rfl, rfl, rfl, by decide +kernel, rfl, by decide +kernel, by decide +kernel⟩
abbrev s_is_within : Stmt := topS 7
abbrev N_is_within : List Str := ["value", "bounds", "least", "most"]
abbrev P_is_within : List Str := ["value", "bounds"]
theorem sc_is_within : FnScope N_is_within P_is_within (defScope s_is_within) := ⟨rfl, rfl, rfl, by decide +kernel, rfl, by decide +kernel, by decide +kernel⟩
abbrev s_check_pairs : Stmt := topS 9
abbrev N_check_pairs : List Str := ["many", "pairs", "pair", "giver", "taker", "end"]
abbrev P_check_pairs : List Str := ["many", "pairs"]
theorem sc_check_pairs : FnScope N_check_pairs P_check_pairs (defScope s_check_pairs) := ⟨rfl, rfl, rfl, by decide +kernel, rfl, by decide +kernel, by decide +kernel⟩
abbrev s_rounded_up : Stmt := topS 10
abbrev N_rounded_up : List Str := ["total", "share"]
abbrev P_rounded_up : List Str := ["total", "share"]
theorem sc_rounded_up : FnScope N_rounded_up P_rounded_up (defScope s_rounded_up) := ⟨rfl, rfl, rfl, by decide +kernel, rfl, by decide +kernel, by decide +kernel⟩
abbrev s_halved : Stmt := topS 12
abbrev N_halved : List Str := ["many", "pairs", "places", "odd", "turned", "store", "place", "pair"]
abbrev P_halved : List Str := ["many", "pairs"]
theorem sc_halved : FnScope N_halved P_halved (defScope s_halved) := ⟨rfl, rfl, rfl, by decide +kernel, rfl, by decide +kernel, by decide +kernel⟩
abbrev s_walk : Stmt := topS 13
abbrev N_walk : List Str := ["store", "pairs", "places", "turned", "place", "giver", "taker", "end"]
abbrev P_walk : List Str := ["store", "pairs", "places", "turned"]
theorem sc_walk : FnScope N_walk P_walk (defScope s_walk) := ⟨rfl, rfl, rfl, by decide +kernel, rfl, by decide +kernel, by decide +kernel⟩
abbrev s_table_plan : Stmt := topS 16
abbrev N_table_plan : List Str := ["leaving", "entering", "pairs", "givers", "takers", "most", "table", "place", "giver", "taker"]
abbrev P_table_plan : List Str := ["leaving", "entering", "pairs"]
theorem sc_table_plan : FnScope N_table_plan P_table_plan (defScope s_table_plan) := ⟨rfl, rfl, rfl, by decide +kernel, rfl, by decide +kernel, by decide +kernel⟩
abbrev s_rounds_needed : Stmt := topS 17
abbrev N_rounds_needed : List Str := ["limits", "stores", "store", "limit"]
abbrev P_rounds_needed : List Str := ["limits", "stores"]
theorem sc_rounds_needed : FnScope N_rounds_needed P_rounds_needed (defScope s_rounds_needed) := ⟨rfl, rfl, rfl, by decide +kernel, rfl, by decide +kernel, by decide +kernel⟩
abbrev s_parted : Stmt := topS 18
abbrev N_parted : List Str := ["stores", "most", "place", "store"]
abbrev P_parted : List Str := ["stores", "most"]
theorem sc_parted : FnScope N_parted P_parted (defScope s_parted) := ⟨rfl, rfl, rfl, by decide +kernel, rfl, by decide +kernel, by decide +kernel⟩
abbrev s_even_plan : Stmt := topS 20
abbrev N_even_plan : List Str := ["rates", "pairs", "half", "rate"]
abbrev P_even_plan : List Str := ["rates", "pairs"]
theorem sc_even_plan : FnScope N_even_plan P_even_plan (defScope s_even_plan) := ⟨rfl, rfl, rfl, by decide +kernel, rfl, by decide +kernel, by decide +kernel⟩
abbrev s_has_odd : Stmt := topS 21
abbrev N_has_odd : List Str := ["rates", "rate"]
abbrev P_has_odd : List Str := ["rates"]
theorem sc_has_odd : FnScope N_has_odd P_has_odd (defScope s_has_odd) := ⟨rfl, rfl, rfl, by decide +kernel, rfl, by decide +kernel, by decide +kernel⟩
abbrev s__law_cell : Stmt := topS 23
abbrev N__law_cell : List Str := ["script", "k"]
abbrev P__law_cell : List Str := ["script", "k"]
theorem sc__law_cell : FnScope N__law_cell P__law_cell (defScope s__law_cell) := ⟨rfl, rfl, rfl, by decide +kernel, rfl, by decide +kernel, by decide +kernel⟩
abbrev s__law_draws : Stmt := topS 24
abbrev N__law_draws : List Str := ["cell", "many", "most", "left", "drawn", "k", "first", "second", "third"]
abbrev P__law_draws : List Str := ["cell", "many", "most"]
theorem sc__law_draws : FnScope N__law_draws P__law_draws (defScope s__law_draws) := ⟨rfl, rfl, rfl, by decide +kernel, rfl, by decide +kernel, by decide +kernel⟩
abbrev s__law_hand : Stmt := topS 25
abbrev N__law_hand : List Str := ["script", "cells", "many", "draws", "k"]
abbrev P__law_hand : List Str := ["script", "cells", "many"]
theorem sc__law_hand : FnScope N__law_hand P__law_hand (defScope s__law_hand) := ⟨rfl, rfl, rfl, by decide +kernel, rfl, by decide +kernel, by decide +kernel⟩
abbrev s__law_take : Stmt := topS 26
abbrev N__law_take : List Str := ["hand", "many"]
abbrev P__law_take : List Str := ["hand", "many"]
theorem sc__law_take : FnScope N__law_take P__law_take (defScope s__law_take) := ⟨rfl, rfl, rfl, by decide +kernel, rfl, by decide +kernel, by decide +kernel⟩
abbrev s__law_is_number : Stmt := topS 27
abbrev N__law_is_number : List Str := ["value"]
abbrev P__law_is_number : List Str := ["value"]
theorem sc__law_is_number : FnScope N__law_is_number P__law_is_number (defScope s__law_is_number) := ⟨rfl, rfl, rfl, by decide +kernel, rfl, by decide +kernel, by decide +kernel⟩
abbrev s__law_is_row : Stmt := topS 28
abbrev N__law_is_row : List Str := ["value", "many", "most", "one"]
abbrev P__law_is_row : List Str := ["value", "many", "most"]
theorem sc__law_is_row : FnScope N__law_is_row P__law_is_row (defScope s__law_is_row) := ⟨rfl, rfl, rfl, by decide +kernel, rfl, by decide +kernel, by decide +kernel⟩
abbrev s__law_rates : Stmt := topS 29
abbrev N__law_rates : List Str := ["hand", "many", "even", "rates", "v"]
abbrev P__law_rates : List Str := ["hand", "many", "even"]
theorem sc__law_rates : FnScope N__law_rates P__law_rates (defScope s__law_rates) := ⟨rfl, rfl, rfl, by decide +kernel, rfl, by decide +kernel, by decide +kernel⟩
abbrev s__law_pairs : Stmt := topS 30
abbrev N__law_pairs : List Str := ["hand", "many", "most", "pairs", "k", "giver", "kind", "pair"]
abbrev P__law_pairs : List Str := ["hand", "many", "most"]
theorem sc__law_pairs : FnScope N__law_pairs P__law_pairs (defScope s__law_pairs) := ⟨rfl, rfl, rfl, by decide +kernel, rfl, by decide +kernel, by decide +kernel⟩
abbrev s__law_loads : Stmt := topS 31
abbrev N__law_loads : List Str := ["many", "pairs", "loads", "pair", "v"]
abbrev P__law_loads : List Str := ["many", "pairs"]
theorem sc__law_loads : FnScope N__law_loads P__law_loads (defScope s__law_loads) := ⟨rfl, rfl, rfl, by decide +kernel, rfl, by decide +kernel, by decide +kernel⟩
abbrev s__law_up : Stmt := topS 32
abbrev N__law_up : List Str := ["over", "under"]
abbrev P__law_up : List Str := ["over", "under"]
theorem sc__law_up : FnScope N__law_up P__law_up (defScope s__law_up) := ⟨rfl, rfl, rfl, by decide +kernel, rfl, by decide +kernel, by decide +kernel⟩
abbrev s__law_busiest : Stmt := topS 33
abbrev N__law_busiest : List Str := ["rates", "pairs", "loads", "v"]
abbrev P__law_busiest : List Str := ["rates", "pairs"]
theorem sc__law_busiest : FnScope N__law_busiest P__law_busiest (defScope s__law_busiest) := ⟨rfl, rfl, rfl, by decide +kernel, rfl, by decide +kernel, by decide +kernel⟩
abbrev s__law_excess : Stmt := topS 34
abbrev N__law_excess : List Str := ["rates", "pairs", "plan", "turn", "loads", "v", "k"]
abbrev P__law_excess : List Str := ["rates", "pairs", "plan"]
theorem sc__law_excess : FnScope N__law_excess P__law_excess (defScope s__law_excess) := ⟨rfl, rfl, rfl, by decide +kernel, rfl, by decide +kernel, by decide +kernel⟩
abbrev s__law_is_plan : Stmt := topS 35
abbrev N__law_is_plan : List Str := ["plan", "rates", "pairs"]
abbrev P__law_is_plan : List Str := ["plan", "rates", "pairs"]
theorem sc__law_is_plan : FnScope N__law_is_plan P__law_is_plan (defScope s__law_is_plan) := ⟨rfl, rfl, rfl, by decide +kernel, rfl, by decide +kernel, by decide +kernel⟩
abbrev s__law_length : Stmt := topS 36
abbrev N__law_length : List Str := ["plan"]
abbrev P__law_length : List Str := ["plan"]
theorem sc__law_length : FnScope N__law_length P__law_length (defScope s__law_length) := ⟨rfl, rfl, rfl, by decide +kernel, rfl, by decide +kernel, by decide +kernel⟩
abbrev s__law_no_pairs : Stmt := topS 37
abbrev N__law_no_pairs : List Str := ["hand", "many", "pairs", "at", "bad", "menu"]
abbrev P__law_no_pairs : List Str := ["hand", "many", "pairs"]
theorem sc__law_no_pairs : FnScope N__law_no_pairs P__law_no_pairs (defScope s__law_no_pairs) := ⟨rfl, rfl, rfl, by decide +kernel, rfl, by decide +kernel, by decide +kernel⟩
abbrev s__law_is_even_plan : Stmt := topS 38
abbrev N__law_is_even_plan : List Str := ["plan", "rates", "pairs"]
abbrev P__law_is_even_plan : List Str := ["plan", "rates", "pairs"]
theorem sc__law_is_even_plan : FnScope N__law_is_even_plan P__law_is_even_plan (defScope s__law_is_even_plan) := ⟨rfl, rfl, rfl, by decide +kernel, rfl, by decide +kernel, by decide +kernel⟩
abbrev s__law_refused : Stmt := topS 39
abbrev N__law_refused : List Str := ["rates", "pairs", "e"]
abbrev P__law_refused : List Str := ["rates", "pairs"]
theorem sc__law_refused : FnScope N__law_refused P__law_refused (defScope s__law_refused) := ⟨rfl, rfl, rfl, by decide +kernel, rfl, by decide +kernel, by decide +kernel⟩
abbrev s__law_asked : Stmt := topS 40
abbrev N__law_asked : List Str := ["hand", "many", "rates", "first", "second", "pairs", "plan", "at", "odd", "bad"]
abbrev P__law_asked : List Str := ["hand"]
theorem sc__law_asked : FnScope N__law_asked P__law_asked (defScope s__law_asked) := ⟨rfl, rfl, rfl, by decide +kernel, rfl, by decide +kernel, by decide +kernel⟩
abbrev s_law : Stmt := topS 41
abbrev N_law : List Str := ["script"]
abbrev P_law : List Str := ["script"]
theorem sc_law : FnScope N_law P_law (defScope s_law) := ⟨rfl, rfl, rfl, by decide +kernel, rfl, by decide +kernel, by decide +kernel⟩
abbrev s_Table_place_in : Stmt := L2.inClass (topS 15) 1
abbrev N_Table_place_in : List Str := ["self", "place", "number", "line"]
abbrev P_Table_place_in : List Str := ["self", "place", "number"]
theorem sc_Table_place_in : FnScope N_Table_place_in P_Table_place_in (defScope s_Table_place_in) := ⟨rfl, rfl, rfl, by decide +kernel, rfl, by decide +kernel, by decide +kernel⟩
abbrev s_Table_free_round : Stmt := L2.inClass (topS 15) 2
abbrev N_Table_free_round : List Str := ["self", "line", "number"]
abbrev P_Table_free_round : List Str := ["self", "line"]
theorem sc_Table_free_round : FnScope N_Table_free_round P_Table_free_round (defScope s_Table_free_round) := ⟨rfl, rfl, rfl, by decide +kernel, rfl, by decide +kernel, by decide +kernel⟩
abbrev s_Table_put : Stmt := L2.inClass (topS 15) 3
abbrev N_Table_put : List Str := ["self", "place", "row", "column", "number"]
abbrev P_Table_put : List Str := ["self", "place"]
theorem sc_Table_put : FnScope N_Table_put P_Table_put (defScope s_Table_put) := ⟨rfl, rfl, rfl, by decide +kernel, rfl, by decide +kernel, by decide +kernel⟩
abbrev s_Table_exchange : Stmt := L2.inClass (topS 15) 4
abbrev N_Table_exchange : List Str := ["self", "column", "first", "second", "way", "line", "number", "place", "row", "other"]
abbrev P_Table_exchange : List Str := ["self", "column", "first", "second"]
theorem sc_Table_exchange : FnScope N_Table_exchange P_Table_exchange (defScope s_Table_exchange) := ⟨rfl, rfl, rfl, by decide +kernel, rfl, by decide +kernel, by decide +kernel⟩
abbrev s_Table__init__ : Stmt := L2.inClass (topS 15) 0
abbrev N_Table__init__ : List Str := ["self", "rows", "columns", "most", "row", "column"]
abbrev P_Table__init__ : List Str := ["self", "rows", "columns", "most"]
theorem sc_Table__init__ : FnScope N_Table__init__ P_Table__init__ (defScope s_Table__init__) := ⟨rfl, rfl, rfl, by decide +kernel, rfl, by decide +kernel, by decide +kernel⟩
abbrev s_InvalidPairs__init__ : Stmt := L2.inClass (topS 2) 0
theorem sc_InvalidPairs__init__ : FnScope ["self", "value"] ["self", "value"] (defScope s_InvalidPairs__init__) := ⟨rfl, rfl, rfl, by decide +kernel, rfl, by decide +kernel, by decide +kernel⟩
abbrev s_TooMany__init__ : Stmt := L2.inClass (topS 3) 0
theorem sc_TooMany__init__ : FnScope ["self", "what"] ["self", "what"] (defScope s_TooMany__init__) := ⟨rfl, rfl, rfl, by decide +kernel, rfl, by decide +kernel, by decide +kernel⟩
abbrev s_Undefined__init__ : Stmt := L2.inClass (topS 4) 0
theorem sc_Undefined__init__ : FnScope ["self", "what"] ["self", "what"] (defScope s_Undefined__init__) := ⟨rfl, rfl, rfl, by decide +kernel, rfl, by decide +kernel, by decide +kernel⟩
local macro_rules | `(tactic| walk_at "S") => `(tactic| first
  | with_reducible refine sv_seq ?_
  | with_reducible refine sv_ret ?_
  | with_reducible refine sv_retN ?_
  | with_reducible refine sv_next ?_
  | with_reducible refine sv_cont ?_
  | with_reducible refine sv_break ?_
  | with_reducible refine sv_if ?_
  | with_reducible refine sv_asg ?_)
local macro_rules | `(tactic| walk_at "E") => `(tactic| first
  | refine ev_ixM rfl ?_
  | refine ev_lenM rfl ?_
  | refine ev_tupM rfl ?_
  | with_reducible refine ev_op ?_
  | with_reducible refine ev_un ?_
  | with_reducible refine ev_if ?_
  | with_reducible refine ev_andV ?_
  | with_reducible refine ev_orV ?_
  | with_reducible refine ev_notV ?_
  | with_reducible refine ev_chain ?_
  | with_reducible refine ev_slT ?_
  | with_reducible refine ev_revT ?_
  | with_reducible refine ep_none ?_
  | with_reducible refine ep_some ?_
  | with_reducible refine ev_fld ?_
  | refine ev_isiLT ?_
  | refine ev_isiTL ?_
  | with_reducible refine oc_all ?_
  | with_reducible refine ev_int ?_
  | with_reducible refine ev_bl ?_
  | with_reducible refine ev_str ?_
  | with_reducible refine ev_non ?_
  | refine ev_var rfl ?_
  | refine ev_isiB (by decide) ?_
  | with_reducible refine ev_cb ?_
  | with_reducible refine ev_call ?_
  | with_reducible refine ev_tup ?_
  | with_reducible refine ev_lst ?_
  | with_reducible refine et_test ?_
  | with_reducible refine et_B ?_
  | with_reducible refine et_and ?_
  | with_reducible refine et_or ?_
  | with_reducible refine et_not ?_
  | with_reducible refine et_yes ?_
  | with_reducible refine ed_nil ?_
  | with_reducible refine ed_cons ?_
  | with_reducible refine ea_nil ?_
  | refine ea_hand rfl ?_
  | refine ea_hnd rfl ?_
  | with_reducible refine ea_cons ?_
  | with_reducible refine ei_seq ?_
  | with_reducible refine ei_range ?_
  | with_reducible refine ei_enum ?_
  | with_reducible refine o2_I0 ?_
  | with_reducible refine o2_B0 ?_
  | with_reducible refine o1_I ?_
  | with_reducible refine o2_eqI ?_
  | with_reducible refine o2_neI ?_
  | with_reducible refine o2_eqB ?_
  | with_reducible refine o2_neB ?_
  | with_reducible refine o2_eqS ?_
  | with_reducible refine o2_isN ?_
  | with_reducible refine o2_notN ?_
  | with_reducible refine o2_I (C := CDiv) (cdiv_ok (by decide) (by decide)) ?_
  | with_reducible refine o2_I (C := CPow) (cpow_ok (by decide) (by decide) (by decide)) ?_
  | with_reducible refine o2_I (C := CMul) (by first | exact cmul_r (by decide) (by decide) | exact cmul_l (by decide) (by decide) | exact cmul_l (by omega) (by omega) | exact cmul_r (by omega) (by omega)) ?_
  | with_reducible refine o2_I (C := fun _ j => 0 < j) (by first | decide | (show (0 : Int) < _; omega)) ?_
  | with_reducible refine oc_lenT ?_
  | with_reducible refine oc_lenL ?_
  | with_reducible refine oc_int ?_
  | with_reducible refine oc_intB ?_
  | with_reducible refine oc_abs ?_
  | with_reducible refine oc_max ?_
  | with_reducible refine oc_min ?_
  | with_reducible refine oc_tupL ?_
  | with_reducible refine oc_tupT ?_
  | with_reducible refine oc_lstT ?_
  | with_reducible refine oc_lstL ?_
  | refine bc_t rfl ?_
  | refine bc_f rfl ?_
  | with_reducible refine ⟨_, rfl, ?_⟩
  | refine ⟨rfl, ?_⟩
  | with_reducible refine ⟨Nat.le_of_ble_eq_true rfl, ?_⟩)
local macro_rules | `(tactic| walk_at "M") => `(tactic| first
  | with_reducible refine sm_seq ?_
  | with_reducible refine sm_ret (evm fun MV => ?_)
  | with_reducible refine sm_retN ?_
  | with_reducible refine sm_next ?_
  | with_reducible refine sm_cont ?_
  | with_reducible refine sm_break ?_
  | with_reducible refine sm_if (etm fun MV => ?_)
  | with_reducible refine sm_asg (evm fun MV => ?_))
local macro_rules | `(tactic| walk_at "T") => `(tactic| first
  | with_reducible refine etm_or ?_
  | with_reducible refine etm_and ?_
  | with_reducible refine etm_not ?_
  | with_reducible refine etm_test ?_
  | with_reducible refine etm_B ?_)

/-- an integer, not True or False -/
def intD : Dt → Bool
  | .int _ => true
  | _ => false
theorem intD_of {d : Dt} (h : intD d = true) : ∃ i, d = .int i := by
  cases d <;> first | exact ⟨_, rfl⟩ | cases h
def W_f (ok : Dt → Bool) (f : Dt → Bool) : Fw := fun ss P => ∃ x, ss = [.d x] ∧ ok x = true ∧ P (.bl (f x))
def inB (d : Dt) (a b : Int) : Bool := match d with
  | .int i => decide (a ≤ i) && decide (i ≤ b)
  | _ => false
def W_within : Fw := fun ss P => ∃ x a b, ss = [.d x, .d (.tup [.int a, .int b])] ∧ noOb x = true ∧ P (.bl (inB x a b))
def natB (d : Dt) : Bool := match d with
  | .int i => decide (0 ≤ i)
  | _ => false
/-- a rising tuple of numbers below n, from a on -/
def risesB (n : Int) : Int → List Dt → Bool
  | _, [] => true
  | a, .int i :: r => decide (a ≤ i) && decide (i ≤ n - 1) && risesB n (i + 1) r
  | _, _ :: _ => false
def lotB (n : Int) : Dt → Bool
  | .tup ds => risesB n 0 ds
  | _ => false
/-- no instance within -/
def noObs (ds : List Dt) : Bool := ds.all noOb
/-- data of which no part is an instance, no part too long -/
def Pur (x : Dt) : Prop := ∃ n, Flat n x
theorem Pur.no {x : Dt} (h : Pur x) : noOb x = true := by
  obtain ⟨n, h⟩ := h
  cases h <;> rfl
theorem Pur.tup {ds : List Dt} (h : Pur (.tup ds)) : ds.length ≤ 100000 ∧ ∀ d ∈ ds, Pur d := by
  obtain ⟨n, h⟩ := h
  cases h with
  | tup n _ hz hs => exact ⟨hz, fun d hd => ⟨n, hs d hd⟩⟩
theorem Pur.lst {ds : List Dt} (h : Pur (.lst ds)) : ds.length ≤ 100000 ∧ ∀ d ∈ ds, Pur d := by
  obtain ⟨n, h⟩ := h
  cases h with
  | lst n _ hz hs => exact ⟨hz, fun d hd => ⟨n, hs d hd⟩⟩
def W_islot : Fw := fun ss P => ∃ x n, ss = [.d x, .d (.int n)] ∧ Pur x ∧ P (.bl (lotB n x))
def wishB : Dt → Bool
  | .tup ds => ds.all fun d => inB d 1 3
  | _ => false
def W_iswishes : Fw := fun ss P => ∃ x, ss = [.d x] ∧ Pur x ∧ P (.bl (wishB x))
def neB : Dt → Bool
  | .tup (_ :: _) => true
  | _ => false
def placB (n m : Int) : Dt → Bool
  | .tup ds => decide ((ds.length : Int) = m) && ds.all fun d => lotB n d && neB d
  | _ => false
def W_isplacing (C : Addr) : Fw := fun ss P => ∃ fs x n m, ss = [.d (.ob C fs), .d x, .d (.int m)] ∧ fs.lookup ("store_count" : Str) = some (.int n) ∧ Pur x ∧ P (.bl (placB n m x))
def W_ckwishes (CE : Addr) : FwX := fun ss P PX => ∃ x, ss = [.d x] ∧ Pur x ∧ (wishB x = true → P .non) ∧ (wishB x = false → PX CE [("value", x)])
def W_ckplacing (C CE : Addr) : FwX := fun ss P PX => ∃ fs ws x n, ss = [.d (.ob C fs), .d (.tup ws), .d x] ∧ fs.lookup ("store_count" : Str) = some (.int n) ∧ Pur x ∧ (placB n (ws.length : Int) x = true → P .non) ∧ (placB n (ws.length : Int) x = false → PX CE [("value", x)])
/-- the first place that is wrong -/
def wrongFrom (c d : Int) : Nat → List Dt → Option Nat
  | _, [] => none
  | k, x :: r => if inB x c d = true then wrongFrom c d (k + 1) r else some k
def seqD : Dt → Option (List Dt)
  | .lst ds => some ds
  | .tup ds => some ds
  | _ => none
def partE (a b c d : Int) (x : Dt) : Option Nat := match seqD x with
  | none => some 0
  | some ds => if inB (.int (ds.length : Int)) a b = true then wrongFrom c d 0 ds else some 0
def W_ckpart (CE : Addr) : FwX := fun ss P PX => ∃ p x a b c d, ss = [.d (.str p), .d x, .d (.tup [.int a, .int b]), .d (.tup [.int c, .int d])] ∧ Pur x ∧ (partE a b c d x = none → P .non) ∧ (∀ k : Nat, partE a b c d x = some k → PX CE [("place", .int (k : Int)), ("part", .str p)])
theorem partE_none {a b c d : Int} {x : Dt} (h : partE a b c d x = none) : ∃ ds, seqD x = some ds := by
  unfold partE at h
  cases e : seqD x with
  | none => rw [e] at h; cases h
  | some ds => exact ⟨ds, rfl⟩
theorem seq_of {x : Dt} {ds : List Dt} (h : seqD x = some ds) : x = .lst ds ∨ x = .tup ds := by
  cases x <;> first | (cases h; exact .inl rfl) | (cases h; exact .inr rfl) | cases h
def W_cluster (CE : Addr) : FwI := fun ss P PX => ∃ r o t, ss = [.d r, .d o, .d t] ∧ Pur r ∧ Pur o ∧ Pur t ∧ (∀ k : Nat, partE 1 8 0 99 r = some k → PX CE [("place", .int (k : Int)), ("part", .str "racks")]) ∧
  ∀ rs, seqD r = some rs → partE 1 8 0 99 r = none → (∀ k : Nat, partE rs.length rs.length 0 99 o = some k → PX CE [("place", .int (k : Int)), ("part", .str "rooms")]) ∧
    ∀ os, seqD o = some os → partE rs.length rs.length 0 99 o = none → (∀ k : Nat, partE rs.length rs.length 1 8 t = some k → PX CE [("place", .int (k : Int)), ("part", .str "rates")]) ∧
      ∀ ts, seqD t = some ts → partE rs.length rs.length 1 8 t = none → P [("racks", .tup rs), ("rooms", .tup os), ("rates", .tup ts), ("store_count", .int (rs.length : Int))]
theorem drop_at {ds : List Dt} {k : Nat} {d : Dt} (h : ds[k]? = some d) : ds.drop k = d :: ds.drop (k + 1) := by
  have hk := (List.getElem?_eq_some_iff.mp h).1
  rw [List.drop_eq_getElem_cons hk]
  congr 1
  exact (List.getElem?_eq_some_iff.mp h).2
theorem rises_no {n a : Int} {d : Dt} {r : List Dt} (h : inB d a (n - 1) = false) : risesB n a (d :: r) = false := by
  cases d <;> first | rfl | skip
  rename_i i
  show (decide (a ≤ i) && decide (i ≤ n - 1) && risesB n (i + 1) r) = false
  have h' : (decide (a ≤ i) && decide (i ≤ n - 1)) = false := h
  rw [h']; rfl
theorem rises_yes {n a : Int} {d : Dt} {r : List Dt} (h : inB d a (n - 1) = true) : ∃ i, d = .int i ∧ risesB n a (d :: r) = risesB n (i + 1) r := by
  cases d <;> first | exact absurd h Bool.false_ne_true | skip
  rename_i i
  refine ⟨i, rfl, ?_⟩
  show (decide (a ≤ i) && decide (i ≤ n - 1) && risesB n (i + 1) r) = _
  have h' : (decide (a ≤ i) && decide (i ≤ n - 1)) = true := h
  rw [h']; rfl
theorem noObs_at {ds : List Dt} {k : Nat} {d : Dt} (h : noObs ds = true) (hd : ds[k]? = some d) : noOb d = true := List.all_eq_true.mp h _ (List.mem_of_getElem? hd)
def W_lwithin : Fw := fun ss P => ∃ x a b, ss = [.d x, .d (.int a), .d (.int b)] ∧ noOb x = true ∧ P (.bl (inB x a b))
theorem pick {ds : List Dt} {Pd : Dt → Prop} (h : ∀ d ∈ ds, Pd d) {x : Int} (h0 : 0 ≤ x) (h1 : x < (ds.length : Int)) : ∃ d, atD ds x = some d ∧ Pd d := by
  obtain ⟨j, rfl⟩ : ∃ j : Nat, x = (j : Int) := ⟨x.toNat, by omega⟩
  have hj : j < ds.length := by omega
  exact ⟨ds[j], atD_nat (by simp [hj]), h _ (List.getElem_mem hj)⟩
def flatB : Nat → Dt → Bool
  | n + 1, .lst ds => decide (ds.length ≤ 100000) && ds.all (flatB n)
  | n + 1, .tup ds => decide (ds.length ≤ 100000) && ds.all (flatB n)
  | 0, .lst _ => false
  | 0, .tup _ => false
  | _, .ob _ _ => false
  | _, .ptr _ => false
  | _, _ => true
theorem flat_of_B : ∀ {n : Nat} {d : Dt}, flatB n d = true → Flat n d
  | n, .non, _ => .non n
  | n, .bl b, _ => .bl n b
  | n, .int b, _ => .int n b
  | n, .str b, _ => .str n b
  | 0, .lst _, h => by simp [flatB] at h
  | 0, .tup _, h => by simp [flatB] at h
  | n, .ob _ _, h => by cases n <;> simp [flatB] at h
  | n, .ptr _, h => by cases n <;> simp [flatB] at h
  | n + 1, .lst ds, h => by
    unfold flatB at h
    rw [Bool.and_eq_true] at h
    exact .lst n ds (of_decide_eq_true h.1) fun d hd => flat_of_B (List.all_eq_true.mp h.2 d hd)
  | n + 1, .tup ds, h => by
    unfold flatB at h
    rw [Bool.and_eq_true] at h
    exact .tup n ds (of_decide_eq_true h.1) fun d hd => flat_of_B (List.all_eq_true.mp h.2 d hd)
theorem Flat.up {n : Nat} {d : Dt} (h : Flat n d) : Flat (n + 1) d := by
  induction h with
  | non n => exact .non _
  | bl n b => exact .bl _ _
  | int n i => exact .int _ _
  | str n s => exact .str _ _
  | lst n ds hz h ih => exact .lst _ _ hz ih
  | tup n ds hz h ih => exact .tup _ _ hz ih
theorem Flat.mono {n m : Nat} {d : Dt} (h : Flat n d) (k : n ≤ m) : Flat m d := by
  induction k with
  | refl => exact h
  | step _ ih => exact ih.up
section
variable {K : PySem.W.Frag} {J : Jm} {env : List Sl} {te : TE}
theorem o2_pickB {R : Dt → Prop} {ds : List Dt} {x : Int} (f : Dt → Bool) (h : ds.all f = true) (h0 : 0 ≤ x) (h1 : x < (ds.length : Int)) (k : ∀ d, f d = true → R d) : O2 K J (rIx K) (.lst ds) (.int x) R := by
  obtain ⟨d, hd, fd⟩ := pick (Pd := fun d => f d = true) (List.all_eq_true.mp h) h0 h1
  exact o2_ixL hd (k d fd)
theorem o2_pickP {R : Dt → Prop} {ds : List Dt} {x : Int} (Pd : Dt → Prop) (h : ∀ d ∈ ds, Pd d) (h0 : 0 ≤ x) (h1 : x < (ds.length : Int)) (k : ∀ d, Pd d → R d) : O2 K J (rIx K) (.lst ds) (.int x) R := by
  obtain ⟨d, hd, fd⟩ := pick h h0 h1
  exact o2_ixL hd (k d fd)
/-- [e for ..]: each as Pd tells -/
theorem em_all {wi : TI} {g : TG} {vs : List Nat} {R : List Dt → Prop} (Pd : Dt → Prop) (h : Ei K J env wi fun ds => ds.length ≤ 100000 ∧ (∀ d, d ∈ ds → Gt K J (wipeE env vs) g d vs fun e => Ev K J e te Pd) ∧ ∀ ys, ys.length = ds.length → (∀ y ∈ ys, Pd y) → R ys) : Em K J env (tLc wi g tYes te vs) R := by
  refine em_lc fun B G H σ w E Q q => h B G H σ w E Q fun I ds G' H' n wk ⟨h1, h2, h3⟩ => q I ds G' H' n wk ⟨h1, fun k acc => acc.length = k ∧ ∀ y ∈ acc, Pd y, ⟨rfl, fun _ z => nomatch z⟩, fun k d acc hd _ ha => ?_, fun acc _ ha => h3 acc ha.1 ha.2⟩
  intro B G H σ v w E r Q q
  refine h2 d (List.mem_of_getElem? hd) B G H σ v w E r Q fun e σ' E' k' x => q e σ' E' k' (et_yes ⟨fun _ => x.imp fun y hy => ⟨by simp [ha.1], fun z hz => ?_⟩, fun z => nomatch z⟩)
  rcases List.mem_append.mp hz with z | z
  · exact ha.2 _ z
  · simp at z; subst z; exact hy
/-- [x for x in xs if ..] -/
theorem em_filt {wi : TI} {g : TG} {tt : TT} {vs : List Nat} {R : List Dt → Prop} (f : Dt → Bool) (h : Ei K J env wi fun ds => ds.length ≤ 100000 ∧ (∀ d, d ∈ ds → Gt K J (wipeE env vs) g d vs fun e => Et K J e tt fun b => b = f d ∧ (b = true → Ev K J e te fun y => y = d)) ∧ R (ds.filter f)) : Em K J env (tLc wi g tt te vs) R := by
  refine em_lc fun B G H σ w E Q q => h B G H σ w E Q fun I ds G' H' n wk ⟨h1, h2, h3⟩ => q I ds G' H' n wk ⟨h1, fun k acc => acc = (ds.take k).filter f, by simp, fun k d acc hd _ ha => ?_, fun acc _ ha => ?_⟩
  · intro B G H σ v w E r Q q
    refine h2 d (List.mem_of_getElem? hd) B G H σ v w E r Q fun e σ' E' k' x => q e σ' E' k' (x.imp fun b ⟨hb, hy⟩ => ⟨fun z => (hy z).imp fun y e => ?_, fun z => ?_⟩)
    · subst e ha
      rw [List.take_add_one, hd, List.filter_append]
      have : f y = true := hb.symm.trans z
      simp [this]
    · subst ha
      rw [List.take_add_one, hd, List.filter_append]
      have : f d = false := hb.symm.trans z
      simp [this]
  · subst ha
    rw [List.take_length]
    exact h3
end
theorem nats_of {Qv : Nat → Prop} : ∀ {ys : List Dt}, (∀ y ∈ ys, ∃ v : Nat, y = .int (v : Int) ∧ Qv v) → ∃ l, ys = natsD l ∧ ∀ v ∈ l, Qv v
  | [], _ => ⟨[], rfl, fun _ z => nomatch z⟩
  | y :: r, h => by
    obtain ⟨v, rfl, hv⟩ := h y (by simp)
    obtain ⟨l, rfl, hl⟩ := nats_of (ys := r) fun z hz => h z (by simp [hz])
    exact ⟨v :: l, rfl, fun z hz => by
      rcases List.mem_cons.mp hz with rfl | hz
      · exact hv
      · exact hl z hz⟩
theorem inB_nat {d : Dt} {b : Nat} (h : inB d 0 (b : Int) = true) : ∃ v : Nat, d = .int (v : Int) ∧ v ≤ b := by
  cases d <;> first | exact absurd h Bool.false_ne_true | skip
  rename_i i
  have h' : (decide (0 ≤ i) && decide (i ≤ (b : Int))) = true := h
  rw [Bool.and_eq_true, decide_eq_true_eq, decide_eq_true_eq] at h'
  exact ⟨i.toNat, by rw [show ((i.toNat : Nat) : Int) = i by omega], by omega⟩
theorem inB_le {d : Dt} {a b : Int} (h0 : 0 ≤ a) (h : inB d 0 b = false) : inB d a b = false := by
  cases d <;> first | rfl | skip
  rename_i i
  have h' : (decide (0 ≤ i) && decide (i ≤ b)) = false := h
  show (decide (a ≤ i) && decide (i ≤ b)) = false
  rw [Bool.and_eq_false_iff, decide_eq_false_iff_not, decide_eq_false_iff_not] at h' ⊢
  omega
theorem inB_int {i a b : Int} : inB (.int i) a b = true ↔ a ≤ i ∧ i ≤ b := by
  show (decide (a ≤ i) && decide (i ≤ b)) = true ↔ _
  rw [Bool.and_eq_true, decide_eq_true_eq, decide_eq_true_eq]
theorem inB_of {d : Dt} {a b : Int} (h : inB d a b = true) : ∃ i, d = .int i ∧ a ≤ i ∧ i ≤ b := by
  cases d <;> first | exact absurd h Bool.false_ne_true | skip
  exact ⟨_, rfl, inB_int.mp h⟩
theorem flat_int {n : Nat} {l : List Nat} : ∀ d ∈ natsD l, Flat n d := fun d hd => by
  unfold natsD at hd
  obtain ⟨v, _, rfl⟩ := List.mem_map.mp hd
  exact .int _ _
/-- one part put in the place of another -/
def bentD (xs : List Dt) (a : Nat) (p : Dt) : List Dt := xs.take a ++ [p] ++ xs.drop (a + 1)
theorem bent_len {xs : List Dt} {a : Nat} {p : Dt} : (bentD xs a p).length ≤ xs.length + 1 := by
  unfold bentD
  simp
  omega
theorem bent_mem {xs : List Dt} {a : Nat} {p d : Dt} (h : d ∈ bentD xs a p) : d ∈ xs ∨ d = p := by
  unfold bentD at h
  rcases List.mem_append.mp h with h | h
  · rcases List.mem_append.mp h with h | h
    · exact .inl (List.mem_of_mem_take h)
    · simp at h; exact .inr h
  · exact .inl (List.mem_of_mem_drop h)
theorem bent_all {xs : List Dt} {a : Nat} {p : Dt} {f : Dt → Bool} (h : f p = false) : (bentD xs a p).all f = false := by
  unfold bentD
  rw [List.all_append, List.all_append]
  simp [h]
theorem natsD_length (l : List Nat) : (natsD l).length = l.length := by unfold natsD; simp
def W_odd (n : Nat) : Fw := fun ss P => ∃ d : Nat, ss = [.hand, .d (.int (d : Int))] ∧ d ≤ n ∧ ∀ x, Flat (d + 3) x → P x
def W_lcluster : Fw := fun ss P => ∃ m : Nat, ss = [.hand, .d (.int (m : Int))] ∧ 0 < m ∧ m ≤ 1000 ∧ ∀ ra ro rt : List Nat, 0 < ra.length → ra.length ≤ m → ro.length = ra.length → rt.length = ra.length → (∀ x ∈ ra, x ≤ 99) → (∀ x ∈ ro, x ≤ 99) → (∀ x ∈ rt, 1 ≤ x ∧ x ≤ 8) → P (.tup [lotD ra, lotD ro, lotD rt])
def W_lwishes : Fw := fun ss P => ∃ m : Nat, ss = [.hand, .d (.int (m : Int))] ∧ m ≤ 1000 ∧ ∀ l : List Nat, l.length = m → (∀ x ∈ l, 1 ≤ x ∧ x ≤ 3) → P (lotD l)
def W_lislot : Fw := fun ss P => ∃ x n, ss = [.d x, .d (.int n)] ∧ Pur x ∧ P (.bl (lotB n x))
def W_lisplacing : Fw := fun ss P => ∃ x n m, ss = [.d x, .d (.int n), .d (.int m)] ∧ Pur x ∧ P (.bl (placB n m x))
def W_wrwishes : Fw := fun ss P => ∃ l : List Nat, ss = [.hand, .d (lotD l)] ∧ l.length ≤ 1000 ∧ (∀ x ∈ l, 1 ≤ x ∧ x ≤ 3) ∧ ∀ x, Flat 3 x → wishB x = false → P x
def W_wrplacing : Fw := fun ss P => ∃ (ls : List (List Nat)) (n : Nat), ss = [.hand, .d (placD ls), .d (.int (n : Int))] ∧ ls.length ≤ 1000 ∧ (∀ l ∈ ls, l.length ≤ 1000) ∧ ∀ x, Flat 4 x → P x
def pairB (n : Int) : Dt → Bool
  | .tup [a, b] => inB a 0 (n - 1) && inB b 0 (n - 1) && !eqD a b
  | _ => false
def pairsB (n : Int) : Dt → Bool
  | .tup ds => ds.all (pairB n)
  | _ => false
/-- pairs of unlike numbers below n -/
def OkP (n : Nat) (ps : List (Nat × Nat)) : Prop := ∀ q ∈ ps, q.1 < n ∧ q.2 < n ∧ q.1 ≠ q.2
theorem pairB_of {n : Nat} {d : Dt} (h : pairB n d = true) : ∃ a b : Nat, d = pairD (.int (a : Int)) (.int (b : Int)) ∧ a < n ∧ b < n ∧ a ≠ b := by
  unfold pairB at h
  split at h
  · rename_i x y
    rw [Bool.and_eq_true, Bool.and_eq_true] at h
    cases x <;> first | (cases h.1.1; done) | skip
    cases y <;> first | (cases h.1.2; done) | skip
    rename_i i j
    have h1 : (decide (0 ≤ i) && decide (i ≤ (n : Int) - 1)) = true := h.1.1
    have h2 : (decide (0 ≤ j) && decide (j ≤ (n : Int) - 1)) = true := h.1.2
    have h3 : (!(i == j)) = true := h.2
    simp at h1 h2 h3
    refine ⟨i.toNat, j.toNat, ?_, by omega, by omega, by omega⟩
    rw [Int.toNat_of_nonneg h1.1, Int.toNat_of_nonneg h2.1]
    rfl
  · cases h
theorem pairsB_of {n : Nat} : ∀ {ds : List Dt}, ds.all (pairB n) = true → ∃ ps, ds = pairsD ps ∧ OkP n ps
  | [], _ => ⟨[], rfl, fun _ h => (nomatch h)⟩
  | d :: r, h => by
    rw [List.all_cons, Bool.and_eq_true] at h
    obtain ⟨a, b, e, h1, h2, h3⟩ := pairB_of h.1
    obtain ⟨ps, e2, h4⟩ := pairsB_of h.2
    refine ⟨(a, b) :: ps, by rw [e, e2]; rfl, fun q hq => ?_⟩
    rcases List.mem_cons.mp hq with rfl | hq
    · exact ⟨h1, h2, h3⟩
    · exact h4 q hq
theorem pairB_to {n a b : Nat} (h1 : a < n) (h2 : b < n) (h3 : a ≠ b) : pairB n (pairD (.int (a : Int)) (.int (b : Int))) = true := by
  show ((decide ((0 : Int) ≤ a) && decide ((a : Int) ≤ n - 1)) && (decide ((0 : Int) ≤ b) && decide ((b : Int) ≤ n - 1)) && !((a : Int) == b)) = true
  simp
  omega
theorem pairsB_to {n : Nat} {ps : List (Nat × Nat)} (h : OkP n ps) : pairsB n (.tup (pairsD ps)) = true := by
  show (pairsD ps).all (pairB n) = true
  rw [List.all_eq_true]
  intro d hd
  obtain ⟨q, hq, rfl⟩ := List.mem_map.mp hd
  obtain ⟨h1, h2, h3⟩ := h q hq
  exact pairB_to h1 h2 h3
def W_ckpairs (CE : Addr) : FwX := fun ss P PX => ∃ x n, ss = [.d (.int n), .d x] ∧ Pur x ∧ (pairsB n x = true → P .non) ∧ (pairsB n x = false → PX CE [("value", x)])
theorem all2 {n : Int} {a b : Dt} : ([a, b].map fun d => inB d 0 (n - 1)).all id = (inB a 0 (n - 1) && inB b 0 (n - 1)) := by simp
/-- how often a store occurs -/
def endsN (ps : List (Nat × Nat)) : List Nat := ps.flatMap fun q => [q.1, q.2]
def loadN (ps : List (Nat × Nat)) (v : Nat) : Nat := (endsN ps).count v
def loadsN (n : Nat) (ps : List (Nat × Nat)) : List Nat := (List.range n).map (loadN ps)
theorem natsD_ints (l : List Nat) : natsD l = (l.map fun (v : Nat) => (v : Int)).map Dt.int := by
  unfold natsD; rw [List.map_map]; rfl
theorem count_ints (l : List Nat) (v : Nat) : (l.map fun (v : Nat) => (v : Int)).count (v : Int) = l.count v := by
  induction l with
  | nil => rfl
  | cons x r ih =>
    rw [List.map_cons, List.count_cons, List.count_cons, ih]
    congr 1
    by_cases h : x = v
    · subst h; simp
    · rw [if_neg (by simp; omega), if_neg (by simpa using h)]
theorem natsD_snoc {l : List Nat} {v : Nat} : natsD l ++ [Dt.int (v : Int)] = natsD (l ++ [v]) := by unfold natsD; rw [List.map_append]; rfl
theorem pairsD_get {ps : List (Nat × Nat)} {k : Nat} {d : Dt} (h : (pairsD ps)[k]? = some d) : ∃ a b, ps[k]? = some (a, b) ∧ d = pairD (.int (a : Int)) (.int (b : Int)) ∧ ps.take (k + 1) = ps.take k ++ [(a, b)] := by
  unfold pairsD at h
  rw [List.getElem?_map] at h
  obtain ⟨q, hq, rfl⟩ := Option.map_eq_some_iff.mp h
  exact ⟨q.1, q.2, hq, rfl, by rw [List.take_add_one, hq]; rfl⟩
theorem endsN_snoc (ps : List (Nat × Nat)) (a b : Nat) : endsN (ps ++ [(a, b)]) = endsN ps ++ [a, b] := by unfold endsN; rw [List.flatMap_append]; rfl
theorem endsN_len (ps : List (Nat × Nat)) : (endsN ps).length = 2 * ps.length := by
  induction ps with
  | nil => rfl
  | cons q r ih =>
    unfold endsN at ih ⊢
    rw [List.flatMap_cons, List.length_append, ih, List.length_cons]
    simp; omega
def W_up : Fw := fun ss P => ∃ (a b : Nat), ss = [.d (.int (a : Int)), .d (.int (b : Int))] ∧ 0 < b ∧ b ≤ 1000000 ∧ P (.int (((a + b - 1) / b : Nat) : Int))
theorem up_eq {a b : Nat} (h : 0 < b) : -((-(a : Int)) / (b : Int)) = (((a + b - 1) / b : Nat) : Int) := by
  have hb : (0 : Int) < b := by omega
  have h1 := Int.mul_ediv_add_emod (-(a : Int)) b
  have h2 := Int.emod_nonneg (-(a : Int)) (show (b : Int) ≠ 0 by omega)
  have h3 := Int.emod_lt_of_pos (-(a : Int)) hb
  have h4 := Nat.div_add_mod (a + b - 1) b
  have h5 := Nat.mod_lt (a + b - 1) h
  generalize (-(a : Int)) / (b : Int) = q at *
  generalize (-(a : Int)) % (b : Int) = r at *
  generalize (a + b - 1) / b = p at *
  generalize (a + b - 1) % b = s at *
  have h6 : (b : Int) * (p : Int) + s = a + b - 1 := by
    have : ((b * p + s : Nat) : Int) = ((a + b - 1 : Nat) : Int) := by rw [h4]
    push_cast at this
    omega
  have h7 : (b : Int) * (-q - p) < b := by rw [Int.mul_sub, Int.mul_neg]; omega
  have h8 : -(b : Int) < (b : Int) * (-q - p) := by rw [Int.mul_sub, Int.mul_neg]; omega
  have h9 : -q - (p : Int) < 1 := by
    refine Int.lt_of_not_ge fun z => ?_
    have := Int.mul_le_mul_of_nonneg_left z (Int.le_of_lt hb)
    omega
  have h10 : -1 < -q - (p : Int) := by
    refine Int.lt_of_not_ge fun z => ?_
    have := Int.mul_le_mul_of_nonneg_left z (Int.le_of_lt hb)
    omega
  omega
def W_loads (CE : Addr) : FwP := fun M ss P PX => ∃ (n : Nat) (x : Dt), ss = [.d (.int (n : Int)), .d x] ∧ n ≤ 1000 ∧ Pur x ∧ (∀ ds, x = .tup ds → ds.length ≤ 1000) ∧ (∀ ps, x = .tup (pairsD ps) → OkP n ps → P (lotD (loadsN n ps)) M) ∧ (pairsB n x = false → PX CE [("value", x)] M)
/-- the greatest -/
def mxN (l : List Nat) : Nat := l.foldr max 0
theorem mxN_le {l : List Nat} : ∀ x ∈ l, x ≤ mxN l := by
  induction l with
  | nil => intro x h; cases h
  | cons a r ih =>
    intro x h
    show x ≤ max a (mxN r)
    rcases List.mem_cons.mp h with rfl | h
    · omega
    · have := ih x h; omega
theorem mxN_mem {l : List Nat} (h : l ≠ []) : mxN l ∈ l := by
  induction l with
  | nil => exact absurd rfl h
  | cons a r ih =>
    show max a (mxN r) ∈ a :: r
    by_cases hr : r = []
    · subst hr; simp [mxN]
    · have := ih hr
      by_cases z : mxN r ≤ a
      · rw [Nat.max_eq_left z]; exact List.mem_cons_self
      · rw [Nat.max_eq_right (by omega)]; exact List.mem_cons_of_mem _ this
theorem mx_int {l : List Nat} {m : Int} (hm : m ∈ l.map fun (v : Nat) => (v : Int)) (hy : ∀ y ∈ l.map (fun (v : Nat) => (v : Int)), y ≤ m) : m = (mxN l : Int) := by
  obtain ⟨k, hk, rfl⟩ := List.mem_map.mp hm
  have h1 := mxN_le k hk
  have h2 := hy _ (List.mem_map.mpr ⟨_, mxN_mem (fun z => by rw [z] at hk; cases hk), rfl⟩)
  have h2 : ((mxN l : Nat) : Int) ≤ (k : Int) := h2
  omega
def upN (a b : Nat) : Nat := (a + b - 1) / b
/-- the greatest load by its rate, rounded up -/
def busyN (rs : List Nat) (ps : List (Nat × Nat)) : Nat := mxN (List.zipWith upN (loadsN rs.length ps) rs)
def W_busiest (CE : Addr) : FwP := fun M ss P PX => ∃ (rs : List Nat) (x : Dt), ss = [.d (lotD rs), .d x] ∧ 0 < rs.length ∧ rs.length ≤ 1000 ∧ (∀ r ∈ rs, 0 < r ∧ r ≤ 1000) ∧ Pur x ∧ (∀ ds, x = .tup ds → ds.length ≤ 1000) ∧
  (∀ ps, x = .tup (pairsD ps) → OkP rs.length ps → P (.int (busyN rs ps : Nat)) M) ∧ (pairsB rs.length x = false → PX CE [("value", x)] M)
def W_cell : Fw := fun ss P => ∃ (ns : List Int) (k : Nat), ss = [.d (.lst (ns.map Dt.int)), .d (.int (k : Int))] ∧ ∀ i : Int, 0 ≤ i → P (.int i)
def W_draws2 : FwM := fun ss P => ∃ (c mo : Int) (m : Nat), ss = [.d (.int c), .d (.int (m : Int)), .d (.int mo)] ∧ 0 ≤ c ∧ m ≤ 1000 ∧ 0 < mo ∧ mo ≤ 1000000 ∧ ∀ dr : List Int, dr.length = m → P (dr.map Dt.int)
def W_hand : FwM := fun ss P => ∃ (ns : List Int) (c m : Nat), ss = [.d (.lst (ns.map Dt.int)), .d (.int (c : Int)), .d (.int (m : Int))] ∧ c * m ≤ 1000 ∧ m ≤ 1000 ∧ c ≤ 1000 ∧ ∀ rs : List Int, rs.length ≤ c * m → P (rs.map Dt.int)
def W_lnum : Fw := fun ss P => ∃ x, ss = [.d x] ∧ noOb x = true ∧ P (.bl (natB x))
def W_lrates : Fw := fun ss P => ∃ (n : Nat) (b : Bool), ss = [.hnd, .d (.int (n : Int)), .d (.bl b)] ∧ n ≤ 1000 ∧ ∀ l : List Nat, l.length = n → (∀ r ∈ l, 1 ≤ r ∧ r ≤ 8) → (b = true → ∀ r ∈ l, r % 2 = 0) → P (lotD l)
def W_lpairs2 : Fw := fun ss P => ∃ n m : Nat, ss = [.hnd, .d (.int (n : Int)), .d (.int (m : Int))] ∧ 1 < n ∧ n ≤ 1000 ∧ m ≤ 100 ∧ ∀ ps, OkP n ps → ps.length ≤ 2 * m + 10 → P (.tup (pairsD ps))
theorem flat_pairs {n : Nat} (l : List (Nat × Nat)) (h : l.length ≤ 100000) : Flat (n + 2) (.tup (pairsD l)) := flat_new l h
theorem okP_snoc {n a b : Nat} {ps : List (Nat × Nat)} (h : OkP n ps) (h1 : a < n) (h2 : b < n) (h3 : a ≠ b) : OkP n (ps ++ [(a, b)]) := fun q hq => by
  rcases List.mem_append.mp hq with hq | hq
  · exact h q hq
  · rw [List.mem_singleton] at hq; subst hq; exact ⟨h1, h2, h3⟩
theorem pairsD_app {a b : List (Nat × Nat)} : pairsD (a ++ b) = pairsD a ++ pairsD b := by unfold pairsD; rw [List.map_append]
theorem pairsD_at {ps : List (Nat × Nat)} {k : Nat} (h : k < ps.length) : (pairsD ps)[k]? = some (pairD (.int (ps[k].1 : Int)) (.int (ps[k].2 : Int))) := by
  unfold pairsD
  rw [List.getElem?_map, List.getElem?_eq_getElem h]
  rfl
theorem pairs_rep (q : Nat × Nat) : ∀ k : Nat, (List.replicate k [pairD (.int (q.1 : Int)) (.int (q.2 : Int))]).flatten = pairsD (List.replicate k q)
  | 0 => rfl
  | k + 1 => by
    rw [List.replicate_succ, List.replicate_succ, List.flatten_cons, pairs_rep q k]
    rfl
def swapP (ps : List (Nat × Nat)) : List (Nat × Nat) := ps.map fun q => (q.2, q.1)
theorem okP_swap {n : Nat} {ps : List (Nat × Nat)} (h : OkP n ps) : OkP n (swapP ps) := fun q hq => by
  obtain ⟨r, hr, rfl⟩ := List.mem_map.mp hq
  have := h r hr
  exact ⟨this.2.1, this.1, fun z => this.2.2 z.symm⟩
theorem okP_app {n : Nat} {ps qs : List (Nat × Nat)} (h : OkP n ps) (k : OkP n qs) : OkP n (ps ++ qs) := fun q hq => by
  rcases List.mem_append.mp hq with hq | hq
  · exact h q hq
  · exact k q hq
theorem other_ne {n a t : Nat} (ha : a < n) (ht : t + 1 < n) : (a + 1 + t) % n < n ∧ a ≠ (a + 1 + t) % n := by
  refine ⟨Nat.mod_lt _ (by omega), ?_⟩
  by_cases h : a + 1 + t < n
  · rw [Nat.mod_eq_of_lt h]; omega
  · rw [Nat.mod_eq_sub_mod (by omega), Nat.mod_eq_of_lt (by omega)]; omega
/-! walks over pairs -/
abbrev TH := List (Nat × (Nat × Nat))
def keysH (T : TH) : List Nat := T.map (·.1)
def getH (T : TH) (p : Nat) : Option (Nat × Nat) := (T.find? fun x => decide (x.1 = p)).map (·.2)
def othN (q : Nat × Nat) (s : Nat) : Nat := if s = q.1 then q.2 else q.1
def totN (L : List (List Nat)) : Nat := (L.map List.length).sum
/-- the lists left, the pairs turned, the store at which the walk ends -/
def walkHF (ps : List (Nat × Nat)) : Nat → Nat → List (List Nat) → TH → List (List Nat) × TH × Nat
  | 0, s, L, T => (L, T, s)
  | k + 1, s, L, T => match (L.getD s []).getLast? with
    | none => (L, T, s)
    | some p => if p ∈ keysH T then walkHF ps k s (L.set s (L.getD s []).dropLast) T
      else walkHF ps k (othN (ps.getD p (0, 0)) s) (L.set s (L.getD s []).dropLast) (T ++ [(p, (s, othN (ps.getD p (0, 0)) s))])
def touch (q : Nat × Nat) (v : Nat) : Bool := decide (q.1 = v) || decide (q.2 = v)
def outH (T : TH) (v : Nat) : Nat := T.countP fun x => decide (x.2.1 = v)
def innH (T : TH) (v : Nat) : Nat := T.countP fun x => decide (x.2.2 = v)
def fullH (ps : List (Nat × Nat)) (T : TH) (v : Nat) : Prop := ∀ (p : Nat) (q : Nat × Nat), ps[p]? = some q → touch q v = true → p ∈ keysH T
structure HS (ps : List (Nat × Nat)) (n : Nat) (L : List (List Nat)) (T : TH) : Prop where
  len : L.length = n
  sub : ∀ s l, L[s]? = some l → ∀ p ∈ l, ∃ q, ps[p]? = some q ∧ touch q s = true
  all : ∀ p q v l, ps[p]? = some q → touch q v = true → p ∉ keysH T → L[v]? = some l → p ∈ l
  nd : (keysH T).Nodup
  ok : ∀ x ∈ T, ∃ q, ps[x.1]? = some q ∧ (x.2 = q ∨ x.2 = (q.2, q.1))
theorem HS.full {ps : List (Nat × Nat)} {n : Nat} {L : List (List Nat)} {T : TH} (h : HS ps n L T) {s : Nat} (hs : s < n) (e : L.getD s [] = []) : fullH ps T s := fun p q hp ht => by
  refine Classical.byContradiction fun z => ?_
  have hl : L[s]? = some [] := by
    have hx : L[s]? = some (L[s]'(by rw [h.len]; exact hs)) := List.getElem?_eq_getElem _
    rw [List.getD_eq_getElem?_getD, hx] at e
    rw [hx]
    exact congrArg some e
  have := h.all p q s [] hp ht z hl
  cases this
theorem tot_set : ∀ {L : List (List Nat)} {s : Nat} {l l0 : List Nat}, L[s]? = some l0 → totN (L.set s l) + l0.length = totN L + l.length
  | [], _, _, _, h => by simp at h
  | a :: r, 0, l, l0, h => by
    have h : a = l0 := by simpa using h
    subst h
    unfold totN
    rw [List.set_cons_zero, List.map_cons, List.map_cons, List.sum_cons, List.sum_cons]
    omega
  | a :: r, s + 1, l, l0, h => by
    have ih := tot_set (L := r) (s := s) (l := l) (l0 := l0) (by simpa using h)
    unfold totN at ih ⊢
    rw [List.set_cons_succ, List.map_cons, List.map_cons, List.sum_cons, List.sum_cons]
    omega
theorem last_split {l : List Nat} {p : Nat} (h : l.getLast? = some p) : l = l.dropLast ++ [p] := by
  obtain ⟨ys, rfl⟩ := List.getLast?_eq_some_iff.mp h
  rw [List.dropLast_concat]
theorem last_mem {l : List Nat} {p : Nat} (h : l.getLast? = some p) : p ∈ l := by
  rw [last_split h]; simp
/-- what a pop leaves -/
theorem HS.pop {ps : List (Nat × Nat)} {n : Nat} {L : List (List Nat)} {T : TH} (h : HS ps n L T) {s p : Nat} (hs : s < n) (hl : (L.getD s []).getLast? = some p) {x : Nat × (Nat × Nat)} (T' : TH) (hk : T' = T ∧ p ∈ keysH T ∨ T' = T ++ [x] ∧ x.1 = p ∧ p ∉ keysH T ∧ ∃ q, ps[p]? = some q ∧ (x.2 = q ∨ x.2 = (q.2, q.1))) :
    HS ps n (L.set s (L.getD s []).dropLast) T' ∧ totN (L.set s (L.getD s []).dropLast) + 1 = totN L ∧ ∀ a, a ∈ keysH T → a ∈ keysH T' := by
  have hg : L[s]? = some (L.getD s []) := by
    rw [List.getD_eq_getElem?_getD, List.getElem?_eq_getElem (by rw [h.len]; exact hs)]
    rfl
  generalize L.getD s [] = l0 at hl hg ⊢
  have hsp := last_split hl
  have hkeys : ∀ a, a ∈ keysH T → a ∈ keysH T' := fun a ha => by
    rcases hk with ⟨rfl, _⟩ | ⟨rfl, _⟩
    · exact ha
    · unfold keysH at ha ⊢; rw [List.map_append]; exact List.mem_append_left _ ha
  have hp' : p ∈ keysH T' := by
    rcases hk with ⟨rfl, z⟩ | ⟨rfl, z, _⟩
    · exact z
    · unfold keysH; rw [List.map_append]; refine List.mem_append_right _ ?_; simp [z]
  refine ⟨⟨by rw [List.length_set]; exact h.len, fun t l ht a ha => ?_, fun a q v l ha hq hn hv => ?_, ?_, ?_⟩, ?_, hkeys⟩
  · by_cases e : s = t
    · subst e
      rw [List.getElem?_set_self (by rw [h.len]; exact hs)] at ht
      cases ht
      exact h.sub s l0 hg a (by rw [hsp]; exact List.mem_append_left _ ha)
    · rw [List.getElem?_set_ne e] at ht
      exact h.sub t l ht a ha
  · have hn0 : a ∉ keysH T := fun z => hn (hkeys a z)
    by_cases e : s = v
    · subst e
      rw [List.getElem?_set_self (by rw [h.len]; exact hs)] at hv
      cases hv
      have := h.all a q s l0 ha hq hn0 hg
      rw [hsp] at this
      rcases List.mem_append.mp this with z | z
      · exact z
      · rw [List.mem_singleton] at z
        subst z
        exact absurd hp' hn
    · rw [List.getElem?_set_ne e] at hv
      exact h.all a q v l ha hq hn0 hv
  · rcases hk with ⟨rfl, _⟩ | ⟨rfl, hx, hn, _⟩
    · exact h.nd
    · unfold keysH at hn ⊢
      rw [List.map_append]
      exact List.nodup_append.mpr ⟨h.nd, by simp, fun a ha b hb => by
        simp at hb
        subst hb
        rw [hx]
        exact fun z => hn (z ▸ ha)⟩
  · intro y hy
    rcases hk with ⟨rfl, _⟩ | ⟨rfl, hx, hn, q, hq1, hq2⟩
    · exact h.ok y hy
    · rcases List.mem_append.mp hy with z | z
      · exact h.ok y z
      · rw [List.mem_singleton] at z
        subst z
        exact ⟨q, by rw [hx]; exact hq1, hq2⟩
  · have := tot_set (l := l0.dropLast) hg
    have h2 : l0.length = l0.dropLast.length + 1 := by rw [hsp]; simp
    omega
theorem walk_ok {ps : List (Nat × Nat)} {n : Nat} (hok : OkP n ps) : ∀ (k s : Nat) (L : List (List Nat)) (T : TH), HS ps n L T → s < n → totN L ≤ k →
    HS ps n (walkHF ps k s L T).1 (walkHF ps k s L T).2.1 ∧ (walkHF ps k s L T).2.2 < n ∧ fullH ps (walkHF ps k s L T).2.1 (walkHF ps k s L T).2.2 ∧ (∀ a, a ∈ keysH T → a ∈ keysH (walkHF ps k s L T).2.1) ∧
    ∀ v, (outH (walkHF ps k s L T).2.1 v : Int) - innH (walkHF ps k s L T).2.1 v = outH T v - innH T v + (if v = s then 1 else 0) - (if v = (walkHF ps k s L T).2.2 then 1 else 0) := by
  intro k
  induction k with
  | zero =>
    intro s L T h hs ht
    show HS ps n L T ∧ s < n ∧ fullH ps T s ∧ _ ∧ _
    refine ⟨h, hs, h.full hs ?_, fun a ha => ha, fun v => ?_⟩
    · rw [List.getD_eq_getElem?_getD, List.getElem?_eq_getElem (by rw [h.len]; exact hs)]
      show L[s]'(by rw [h.len]; exact hs) = []
      have hm := List.getElem_mem (show s < L.length by rw [h.len]; exact hs)
      generalize L[s]'(by rw [h.len]; exact hs) = l at hm
      have : l.length = 0 := by
        have h2 : ∀ (L : List (List Nat)), l ∈ L → l.length ≤ totN L := fun L => by
          induction L with
          | nil => intro z; cases z
          | cons a r ih =>
            intro z
            unfold totN at ih ⊢
            rw [List.map_cons, List.sum_cons]
            rcases List.mem_cons.mp z with rfl | z
            · omega
            · have := ih z; omega
        have := h2 L hm
        omega
      exact List.length_eq_zero_iff.mp this
    · show (outH T v : Int) - innH T v = outH T v - innH T v + (if v = s then 1 else 0) - (if v = s then 1 else 0)
      omega
  | succ k ih =>
    intro s L T h hs ht
    cases hl : (L.getD s []).getLast? with
    | none =>
      have ew : walkHF ps (k + 1) s L T = (L, T, s) := by
        show (match (L.getD s []).getLast? with | none => (L, T, s) | some p => _) = _
        rw [hl]
      rw [ew]
      have hl : L.getD s [] = [] := List.getLast?_eq_none_iff.mp hl
      refine ⟨h, hs, h.full hs hl, fun a ha => ha, fun v => ?_⟩
      show (outH T v : Int) - innH T v = outH T v - innH T v + (if v = s then 1 else 0) - (if v = s then 1 else 0)
      omega
    | some p =>
      have ew : walkHF ps (k + 1) s L T = if p ∈ keysH T then walkHF ps k s (L.set s (L.getD s []).dropLast) T
          else walkHF ps k (othN (ps.getD p (0, 0)) s) (L.set s (L.getD s []).dropLast) (T ++ [(p, (s, othN (ps.getD p (0, 0)) s))]) := by
        show (match (L.getD s []).getLast? with | none => (L, T, s) | some p => _) = _
        rw [hl]
      have hg : L[s]? = some (L.getD s []) := by
        rw [List.getD_eq_getElem?_getD, List.getElem?_eq_getElem (by rw [h.len]; exact hs)]
        rfl
      obtain ⟨q, hq, htq⟩ := h.sub s _ hg p (last_mem hl)
      have hqd : ps.getD p (0, 0) = q := by rw [List.getD_eq_getElem?_getD, hq]; rfl
      have hqo := hok q (List.mem_of_getElem? hq)
      by_cases hp : p ∈ keysH T
      · rw [if_pos hp] at ew
        rw [ew]
        obtain ⟨h1, h2, _⟩ := h.pop (x := (0, 0, 0)) hs hl T (.inl ⟨rfl, hp⟩)
        exact ih s _ T h1 hs (by omega)
      · rw [if_neg hp, hqd] at ew
        rw [ew]
        have ht2 : q.1 = s ∨ q.2 = s := by unfold touch at htq; simpa using htq
        have hoth : ((s, othN q s) = q ∨ (s, othN q s) = (q.2, q.1)) ∧ othN q s < n ∧ othN q s ≠ s := by
          unfold othN
          by_cases e : s = q.1
          · rw [if_pos e]; exact ⟨.inl (by rw [e]), hqo.2.1, fun z => hqo.2.2 (by rw [z, e])⟩
          · rw [if_neg e]
            have e2 : q.2 = s := by rcases ht2 with z | z; exact absurd z.symm e; exact z
            exact ⟨.inr (by rw [e2]), hqo.1, fun z => e z.symm⟩
        obtain ⟨h1, h2, h3⟩ := h.pop (x := (p, (s, othN q s))) hs hl (T ++ [(p, (s, othN q s))]) (.inr ⟨rfl, rfl, hp, q, hq, hoth.1⟩)
        obtain ⟨g1, g2, g3, g4, g5⟩ := ih (othN q s) _ _ h1 hoth.2.1 (by omega)
        refine ⟨g1, g2, g3, fun a ha => g4 a (h3 a ha), fun v => ?_⟩
        rw [g5 v]
        have o1 : outH (T ++ [(p, (s, othN q s))]) v = outH T v + if v = s then 1 else 0 := by
          unfold outH; rw [List.countP_append]; congr 1
          by_cases e : v = s
          · subst e; simp
          · rw [if_neg e]; simp [Ne.symm e]
        have o2 : innH (T ++ [(p, (s, othN q s))]) v = innH T v + if v = othN q s then 1 else 0 := by
          unfold innH; rw [List.countP_append]; congr 1
          by_cases e : v = othN q s
          · subst e; simp
          · rw [if_neg e]; simp [Ne.symm e]
        rw [o1, o2]
        have c1 : (((if v = s then 1 else 0 : Nat)) : Int) = if v = s then 1 else 0 := by split <;> rfl
        have c2 : (((if v = othN q s then 1 else 0 : Nat)) : Int) = if v = othN q s then 1 else 0 := by split <;> rfl
        rw [Int.natCast_add, Int.natCast_add, c1, c2]
        omega
/-! degrees -/
def dgN (ps : List (Nat × Nat)) (v : Nat) : Nat := ps.countP fun q => touch q v
theorem load_dg {n v : Nat} : ∀ {ps : List (Nat × Nat)}, OkP n ps → loadN ps v = dgN ps v
  | [], _ => rfl
  | (a, b) :: ps, h => by
    have ih := load_dg (v := v) (ps := ps) fun q hq => h q (List.mem_cons_of_mem _ hq)
    have h0 := (h (a, b) List.mem_cons_self).2.2
    unfold loadN endsN dgN at ih ⊢
    rw [List.flatMap_cons, List.count_append, List.countP_cons, ih]
    have : [(a, b).1, (a, b).2].count v = if touch (a, b) v = true then 1 else 0 := by
      show [a, b].count v = _
      rw [List.count_cons, List.count_cons, List.count_nil]
      unfold touch
      have h0 : a ≠ b := h0
      by_cases e1 : a = v
      · subst e1
        have : (b == a) = false := by simpa using Ne.symm h0
        simp [this]
      · have z : (a == v) = false := by simpa using e1
        by_cases e2 : b = v
        · simp [e1, e2]
        · simp [e1, e2]
    omega
theorem countP_range (ps : List (Nat × Nat)) (f : Nat × Nat → Bool) : (List.range ps.length).countP (fun p => f (ps.getD p (0, 0))) = ps.countP f := by
  have e : ps = (List.range ps.length).map fun p => ps.getD p (0, 0) := by
    refine List.ext_getElem (by simp) fun i h1 h2 => ?_
    rw [List.getElem_map, List.getElem_range, List.getD_eq_getElem?_getD, List.getElem?_eq_getElem h1]
    rfl
  conv => rhs; rw [e, List.countP_map]
  rfl
theorem nodup_filter {f : Nat → Bool} : ∀ {l : List Nat}, l.Nodup → (l.filter f).Nodup := fun h => h.sublist List.filter_sublist
theorem count_keys {ps : List (Nat × Nat)} {n : Nat} {L : List (List Nat)} {T : TH} (h : HS ps n L T) (v : Nat) : outH T v + innH T v = (keysH T).countP (fun p => touch (ps.getD p (0, 0)) v) + T.countP (fun x => decide (x.2.1 = v) && decide (x.2.2 = v)) := by
  have key : ∀ T : TH, (∀ x ∈ T, ∃ q, ps[x.1]? = some q ∧ (x.2 = q ∨ x.2 = (q.2, q.1))) → outH T v + innH T v = (keysH T).countP (fun p => touch (ps.getD p (0, 0)) v) + T.countP (fun x => decide (x.2.1 = v) && decide (x.2.2 = v)) := by
    intro T
    induction T with
    | nil => intro _; rfl
    | cons x r ih =>
      intro hx
      have ih := ih fun y hy => hx y (List.mem_cons_of_mem _ hy)
      obtain ⟨q, hq, hx2⟩ := hx x List.mem_cons_self
      have hqd : ps.getD x.1 (0, 0) = q := by rw [List.getD_eq_getElem?_getD, hq]; rfl
      have ht : touch (ps.getD x.1 (0, 0)) v = (decide (x.2.1 = v) || decide (x.2.2 = v)) := by
        rw [hqd]; unfold touch
        rcases hx2 with e | e
        · rw [e]
        · rw [e, Bool.or_comm]
      unfold outH innH keysH at ih ⊢
      rw [List.map_cons, List.countP_cons, List.countP_cons, List.countP_cons, List.countP_cons, ht]
      generalize List.countP (fun p => touch (ps.getD p (0, 0)) v) (List.map (fun x => x.1) r) = a at ih ⊢
      generalize List.countP (fun x : Nat × (Nat × Nat) => decide (x.2.1 = v)) r = b at ih ⊢
      generalize List.countP (fun x : Nat × (Nat × Nat) => decide (x.2.2 = v)) r = c at ih ⊢
      generalize List.countP (fun x : Nat × (Nat × Nat) => decide (x.2.1 = v) && decide (x.2.2 = v)) r = d at ih ⊢
      by_cases e1 : x.2.1 = v <;> by_cases e2 : x.2.2 = v <;> simp [e1, e2] <;> omega
  exact key T h.ok
theorem deg_full {ps : List (Nat × Nat)} {n : Nat} {L : List (List Nat)} {T : TH} (h : HS ps n L T) (hok : OkP n ps) {v : Nat} (f : fullH ps T v) : outH T v + innH T v = dgN ps v := by
  rw [count_keys h v]
  have z : T.countP (fun x => decide (x.2.1 = v) && decide (x.2.2 = v)) = 0 := by
    rw [List.countP_eq_zero]
    intro x hx
    obtain ⟨q, hq, hx2⟩ := h.ok x hx
    have := (hok q (List.mem_of_getElem? hq)).2.2
    rcases hx2 with e | e
    · rw [e]; simp; omega
    · rw [e]; simp; omega
  rw [z, Nat.add_zero]
  unfold dgN
  rw [← countP_range ps fun q => touch q v, List.countP_eq_length_filter, List.countP_eq_length_filter]
  refine List.Perm.length_eq ((List.perm_ext_iff_of_nodup (nodup_filter h.nd) (nodup_filter List.nodup_range)).mpr fun p => ?_)
  rw [List.mem_filter, List.mem_filter, List.mem_range]
  constructor
  · intro ⟨h1, h2⟩
    obtain ⟨x, hx, rfl⟩ := List.mem_map.mp h1
    obtain ⟨q, hq, _⟩ := h.ok x hx
    exact ⟨(List.getElem?_eq_some_iff.mp hq).1, h2⟩
  · intro ⟨h1, h2⟩
    refine ⟨f p _ (List.getElem?_eq_getElem h1) ?_, h2⟩
    rw [List.getD_eq_getElem?_getD, List.getElem?_eq_getElem h1] at h2
    exact h2
def balH (T : TH) (v : Nat) : Int := (outH T v : Int) - innH T v
theorem par_full {ps : List (Nat × Nat)} {n : Nat} {L : List (List Nat)} {T : TH} (h : HS ps n L T) (hok : OkP n ps) {v : Nat} (f : fullH ps T v) : (balH T v - dgN ps v) % 2 = 0 := by
  have := deg_full h hok f
  unfold balH
  omega
theorem full_mono {ps : List (Nat × Nat)} {T T' : TH} {v : Nat} (h : ∀ a, a ∈ keysH T → a ∈ keysH T') (f : fullH ps T v) : fullH ps T' v := fun p q h1 h2 => h p (f p q h1 h2)
/-- the walks from stores, one by one -/
def foldW (ps : List (Nat × Nat)) : List Nat → List (List Nat) → TH → List (List Nat) × TH
  | [], L, T => (L, T)
  | s :: r, L, T => foldW ps r (walkHF ps (totN L) s L T).1 (walkHF ps (totN L) s L T).2.1
theorem foldW_app {ps : List (Nat × Nat)} : ∀ {a b : List Nat} {L : List (List Nat)} {T : TH}, foldW ps (a ++ b) L T = foldW ps b (foldW ps a L T).1 (foldW ps a L T).2
  | [], _, _, _ => rfl
  | s :: a, b, L, T => by
    show foldW ps (a ++ b) _ _ = _
    rw [foldW_app (a := a)]
    rfl
structure Ph1 (ps : List (Nat × Nat)) (D : List Nat) (T : TH) : Prop where
  ev : ∀ v, dgN ps v % 2 = 0 → balH T v = 0
  od : ∀ v, balH T v = 0 ∨ (balH T v = 1 ∧ v ∈ D) ∨ (balH T v = -1 ∧ fullH ps T v)
  dn : ∀ v ∈ D, balH T v ≠ 0
theorem ph1_step {ps : List (Nat × Nat)} {n : Nat} (hok : OkP n ps) {D : List Nat} {L : List (List Nat)} {T : TH} (h : HS ps n L T) (p1 : Ph1 ps D T) {s : Nat} (hs : s < n) (hsD : s ∉ D) (ho : dgN ps s % 2 = 1) :
    HS ps n (walkHF ps (totN L) s L T).1 (walkHF ps (totN L) s L T).2.1 ∧ Ph1 ps (s :: D) (walkHF ps (totN L) s L T).2.1 := by
  obtain ⟨g1, g2, g3, g4, g5⟩ := walk_ok hok (totN L) s L T h hs (Nat.le_refl _)
  refine ⟨g1, ?_⟩
  generalize walkHF ps (totN L) s L T = r at g1 g2 g3 g4 g5
  have hb : ∀ v, balH r.2.1 v = balH T v + (if v = s then 1 else 0) - (if v = r.2.2 then 1 else 0) := g5
  have hpe := par_full g1 hok g3
  have hbe := hb r.2.2
  have hbs := hb s
  have hoe := p1.od r.2.2
  have hos := p1.od s
  have hs0 : balH T s = 0 ∨ balH T s = -1 ∧ fullH ps T s := by
    rcases hos with z | z | z
    · exact .inl z
    · exact absurd z.2 hsD
    · exact .inr z
  rw [if_pos rfl] at hbs
  rw [if_pos rfl] at hbe
  rcases hs0 with z | ⟨z, zf⟩
  · have hne : r.2.2 ≠ s := fun e => by
      rw [e] at hpe
      rw [e, if_pos rfl] at hbs
      omega
    rw [if_neg hne] at hbe
    rw [if_neg (Ne.symm hne)] at hbs
    have hde : dgN ps r.2.2 % 2 = 1 := by
      by_cases q : dgN ps r.2.2 % 2 = 0
      · have := p1.ev _ q; omega
      · omega
    have hbe0 : balH T r.2.2 = 0 := by rcases hoe with q | q | q <;> omega
    refine ⟨fun v hv => ?_, fun v => ?_, fun v hv => ?_⟩
    · have e1 : v ≠ s := fun e => by rw [e] at hv; omega
      have e2 : v ≠ r.2.2 := fun e => by rw [e] at hv; omega
      rw [hb v, if_neg e1, if_neg e2, p1.ev v hv]; rfl
    · by_cases e1 : v = s
      · subst e1; exact .inr (.inl ⟨by omega, List.mem_cons_self⟩)
      · by_cases e2 : v = r.2.2
        · subst e2; exact .inr (.inr ⟨by omega, g3⟩)
        · have e3 := hb v
          rw [if_neg e1, if_neg e2] at e3
          rcases p1.od v with q | q | q
          · exact .inl (by omega)
          · exact .inr (.inl ⟨by omega, List.mem_cons_of_mem _ q.2⟩)
          · exact .inr (.inr ⟨by omega, full_mono g4 q.2⟩)
    · by_cases e1 : v = s
      · subst e1; omega
      · by_cases e2 : v = r.2.2
        · subst e2; omega
        · have e3 := hb v
          rw [if_neg e1, if_neg e2] at e3
          have := p1.dn v (by rcases List.mem_cons.mp hv with q | q; exact absurd q e1; exact q)
          omega
  · have e : r.2.2 = s := by
      refine Classical.byContradiction fun hne => ?_
      rw [if_neg (Ne.symm hne)] at hbs
      have := par_full g1 hok (full_mono g4 zf)
      omega
    have hb' : ∀ v, balH r.2.1 v = balH T v := fun v => by rw [hb v, e]; omega
    refine ⟨fun v hv => by rw [hb']; exact p1.ev v hv, fun v => ?_, fun v hv => ?_⟩
    · rw [hb']
      rcases p1.od v with q | q | q
      · exact .inl q
      · exact .inr (.inl ⟨q.1, List.mem_cons_of_mem _ q.2⟩)
      · exact .inr (.inr ⟨q.1, full_mono g4 q.2⟩)
    · rw [hb']
      rcases List.mem_cons.mp hv with q | q
      · subst q; omega
      · exact p1.dn v q
theorem ph1_all {ps : List (Nat × Nat)} {n : Nat} (hok : OkP n ps) : ∀ {os D : List Nat} {L : List (List Nat)} {T : TH}, HS ps n L T → Ph1 ps D T → os.Nodup → (∀ s ∈ os, s < n ∧ s ∉ D ∧ dgN ps s % 2 = 1) →
    HS ps n (foldW ps os L T).1 (foldW ps os L T).2 ∧ ∃ D', (∀ v, v ∈ os ∨ v ∈ D → v ∈ D') ∧ Ph1 ps D' (foldW ps os L T).2
  | [], D, L, T, h, p1, _, _ => ⟨h, D, fun v hv => by rcases hv with z | z; cases z; exact z, p1⟩
  | s :: r, D, L, T, h, p1, hn, hs => by
    obtain ⟨h1, h2, h3⟩ := hs s List.mem_cons_self
    obtain ⟨g1, g2⟩ := ph1_step hok h p1 h1 h2 h3
    have hn' := List.nodup_cons.mp hn
    obtain ⟨a, D', b, c⟩ := ph1_all hok (os := r) g1 g2 hn'.2 fun t ht => by
      obtain ⟨q1, q2, q3⟩ := hs t (List.mem_cons_of_mem _ ht)
      refine ⟨q1, fun z => ?_, q3⟩
      rcases List.mem_cons.mp z with z | z
      · exact hn'.1 (z ▸ ht)
      · exact q2 z
    refine ⟨a, D', fun v hv => b v ?_, c⟩
    rcases hv with z | z
    · rcases List.mem_cons.mp z with z | z
      · exact .inr (by rw [z]; exact List.mem_cons_self)
      · exact .inl z
    · exact .inr (List.mem_cons_of_mem _ z)
structure Ph2 (ps : List (Nat × Nat)) (D : List Nat) (T : TH) : Prop where
  ev : ∀ v, dgN ps v % 2 = 0 → balH T v = 0
  od : ∀ v, dgN ps v % 2 = 1 → balH T v = 1 ∨ balH T v = -1
  fl : ∀ v ∈ D, fullH ps T v
theorem ph2_step {ps : List (Nat × Nat)} {n : Nat} (hok : OkP n ps) {D : List Nat} {L : List (List Nat)} {T : TH} (h : HS ps n L T) (p2 : Ph2 ps D T) {s : Nat} (hs : s < n) :
    HS ps n (walkHF ps (totN L) s L T).1 (walkHF ps (totN L) s L T).2.1 ∧ Ph2 ps (s :: D) (walkHF ps (totN L) s L T).2.1 := by
  obtain ⟨g1, g2, g3, g4, g5⟩ := walk_ok hok (totN L) s L T h hs (Nat.le_refl _)
  refine ⟨g1, ?_⟩
  generalize walkHF ps (totN L) s L T = r at g1 g2 g3 g4 g5
  have hb : ∀ v, balH r.2.1 v = balH T v + (if v = s then 1 else 0) - (if v = r.2.2 then 1 else 0) := g5
  have hpe := par_full g1 hok g3
  have hbe := hb r.2.2
  rw [if_pos rfl] at hbe
  have e : r.2.2 = s := by
    refine Classical.byContradiction fun hne => ?_
    rw [if_neg hne] at hbe
    by_cases q : dgN ps r.2.2 % 2 = 0
    · have := p2.ev _ q; omega
    · have := p2.od r.2.2 (by omega); omega
  have hb' : ∀ v, balH r.2.1 v = balH T v := fun v => by rw [hb v, e]; omega
  refine ⟨fun v hv => by rw [hb']; exact p2.ev v hv, fun v hv => by rw [hb']; exact p2.od v hv, fun v hv => ?_⟩
  rcases List.mem_cons.mp hv with q | q
  · rw [q, ← e]; exact g3
  · exact full_mono g4 (p2.fl v q)
theorem ph2_all {ps : List (Nat × Nat)} {n : Nat} (hok : OkP n ps) : ∀ {os D : List Nat} {L : List (List Nat)} {T : TH}, HS ps n L T → Ph2 ps D T → (∀ s ∈ os, s < n) →
    HS ps n (foldW ps os L T).1 (foldW ps os L T).2 ∧ ∃ D', (∀ v, v ∈ os ∨ v ∈ D → v ∈ D') ∧ Ph2 ps D' (foldW ps os L T).2
  | [], D, L, T, h, p1, _ => ⟨h, D, fun v hv => by rcases hv with z | z; cases z; exact z, p1⟩
  | s :: r, D, L, T, h, p1, hs => by
    obtain ⟨g1, g2⟩ := ph2_step hok h p1 (hs s List.mem_cons_self)
    obtain ⟨a, D', b, c⟩ := ph2_all hok (os := r) g1 g2 fun t ht => hs t (List.mem_cons_of_mem _ ht)
    refine ⟨a, D', fun v hv => b v ?_, c⟩
    rcases hv with z | z
    · rcases List.mem_cons.mp z with z | z
      · exact .inr (by rw [z]; exact List.mem_cons_self)
      · exact .inl z
    · exact .inr (List.mem_cons_of_mem _ z)
/-- for each store the places of its pairs -/
def placesN (n : Nat) (ps : List (Nat × Nat)) : List (List Nat) := (List.range n).map fun s => (List.range ps.length).filter fun p => touch (ps.getD p (0, 0)) s
def oddN (n : Nat) (L : List (List Nat)) : List Nat := (List.range n).filter fun s => decide ((L.getD s []).length % 2 = 1)
def turnHF (n : Nat) (ps : List (Nat × Nat)) : TH := (foldW ps (oddN n (placesN n ps) ++ List.range n) (placesN n ps) []).2
def halF (n : Nat) (ps : List (Nat × Nat)) : List (Nat × Nat) := (List.range ps.length).map fun p => (getH (turnHF n ps) p).getD (0, 0)
theorem places_at {n s : Nat} {ps : List (Nat × Nat)} (hs : s < n) : (placesN n ps)[s]? = some ((List.range ps.length).filter fun p => touch (ps.getD p (0, 0)) s) := by
  unfold placesN
  rw [List.getElem?_map, List.getElem?_range hs]
  rfl
theorem places_dg {n s : Nat} {ps : List (Nat × Nat)} (hs : s < n) : ((placesN n ps).getD s []).length = dgN ps s := by
  rw [List.getD_eq_getElem?_getD, places_at hs]
  show ((List.range ps.length).filter _).length = _
  rw [← List.countP_eq_length_filter]
  exact countP_range ps fun q => touch q s
theorem hs_start {n : Nat} {ps : List (Nat × Nat)} (hok : OkP n ps) : HS ps n (placesN n ps) [] where
  len := by simp [placesN]
  sub := fun s l h p hp => by
    have hs : s < n := by have := (List.getElem?_eq_some_iff.mp h).1; simpa [placesN] using this
    rw [places_at hs] at h
    cases h
    rw [List.mem_filter, List.mem_range] at hp
    refine ⟨ps[p], List.getElem?_eq_getElem hp.1, ?_⟩
    have := hp.2
    rw [List.getD_eq_getElem?_getD, List.getElem?_eq_getElem hp.1] at this
    exact this
  all := fun p q v l hp ht _ hv => by
    have hs : v < n := by have := (List.getElem?_eq_some_iff.mp hv).1; simpa [placesN] using this
    rw [places_at hs] at hv
    cases hv
    rw [List.mem_filter, List.mem_range]
    refine ⟨(List.getElem?_eq_some_iff.mp hp).1, ?_⟩
    rw [List.getD_eq_getElem?_getD, hp]
    exact ht
  nd := .nil
  ok := fun x h => (nomatch h)
theorem turn_ok {n : Nat} {ps : List (Nat × Nat)} (hok : OkP n ps) : (∃ L, HS ps n L (turnHF n ps)) ∧ (∀ v, fullH ps (turnHF n ps) v) ∧ ∀ v, outH (turnHF n ps) v ≤ (loadN ps v + 1) / 2 ∧ innH (turnHF n ps) v ≤ (loadN ps v + 1) / 2 := by
  have h0 := hs_start hok
  have dg0 : ∀ v, n ≤ v → dgN ps v = 0 := fun v hv => by
    unfold dgN
    rw [List.countP_eq_zero]
    intro q hq
    have := hok q hq
    unfold touch
    simp; omega
  have p0 : Ph1 ps [] [] := ⟨fun _ _ => rfl, fun _ => .inl rfl, fun _ h => (nomatch h)⟩
  have hodd : ∀ s ∈ oddN n (placesN n ps), s < n ∧ s ∉ ([] : List Nat) ∧ dgN ps s % 2 = 1 := fun s hs => by
    unfold oddN at hs
    rw [List.mem_filter, List.mem_range] at hs
    have h2 := of_decide_eq_true hs.2
    rw [places_dg hs.1] at h2
    exact ⟨hs.1, (fun z => nomatch z), h2⟩
  obtain ⟨g1, D, hD, q1⟩ := ph1_all (os := oddN n (placesN n ps)) hok h0 p0 (show (oddN n (placesN n ps)).Nodup from nodup_filter List.nodup_range) hodd
  generalize hr : foldW ps (oddN n (placesN n ps)) (placesN n ps) [] = r at g1 q1
  have p2 : Ph2 ps [] r.2 := ⟨q1.ev, fun v hv => by
    have hvn : v < n := by
      refine Classical.byContradiction fun z => ?_
      have := dg0 v (by omega)
      omega
    have hvD : v ∈ D := hD v (.inl (by
      unfold oddN
      rw [List.mem_filter, List.mem_range]
      exact ⟨hvn, decide_eq_true (by rw [places_dg hvn]; exact hv)⟩))
    rcases q1.od v with z | z | z
    · exact absurd z (q1.dn v hvD)
    · exact .inl z.1
    · exact .inr z.1, fun _ h => (nomatch h)⟩
  obtain ⟨k1, E, hE, k2⟩ := ph2_all hok (os := List.range n) g1 p2 fun s hs => List.mem_range.mp hs
  have et : (foldW ps (List.range n) r.1 r.2).2 = turnHF n ps := by
    unfold turnHF
    rw [foldW_app, hr]
  rw [et] at k1 k2
  have hf : ∀ v, fullH ps (turnHF n ps) v := fun v => by
    by_cases hv : v < n
    · exact k2.fl v (hE v (.inl (List.mem_range.mpr hv)))
    · intro p q hp ht
      have h1 := hok q (List.mem_of_getElem? hp)
      unfold touch at ht
      simp at ht
      omega
  refine ⟨⟨_, k1⟩, hf, fun v => ?_⟩
  have hd := deg_full k1 hok (hf v)
  rw [load_dg hok]
  have hb : balH (turnHF n ps) v = (outH (turnHF n ps) v : Int) - innH (turnHF n ps) v := rfl
  by_cases e : dgN ps v % 2 = 0
  · have := k2.ev v e
    omega
  · have := k2.od v (by omega)
    omega
theorem getH_mem : ∀ {T : TH} {x : Nat × (Nat × Nat)}, (keysH T).Nodup → x ∈ T → getH T x.1 = some x.2
  | [], _, _, h => nomatch h
  | y :: r, x, hn, h => by
    have hn' : y.1 ∉ keysH r ∧ (keysH r).Nodup := List.nodup_cons.mp hn
    unfold getH
    rw [List.find?_cons]
    rcases List.mem_cons.mp h with e | h
    · subst e
      rw [decide_eq_true rfl]
      rfl
    · have : y.1 ≠ x.1 := fun e => hn'.1 (by rw [e]; exact List.mem_map.mpr ⟨x, h, rfl⟩)
      rw [decide_eq_false this]
      exact getH_mem hn'.2 h
theorem hal_ok {n : Nat} {ps : List (Nat × Nat)} (hok : OkP n ps) : (halF n ps).length = ps.length ∧ (∀ k q, ps[k]? = some q → ∃ r, (halF n ps)[k]? = some r ∧ getH (turnHF n ps) k = some r ∧ (r = q ∨ r = (q.2, q.1))) ∧
    ∀ v, (halF n ps).countP (fun q => decide (q.1 = v)) ≤ (loadN ps v + 1) / 2 ∧ (halF n ps).countP (fun q => decide (q.2 = v)) ≤ (loadN ps v + 1) / 2 := by
  obtain ⟨⟨L, h⟩, hf, hc⟩ := turn_ok hok
  have hall : ∀ k q, ps[k]? = some q → ∃ x ∈ turnHF n ps, x.1 = k ∧ (x.2 = q ∨ x.2 = (q.2, q.1)) := fun k q hk => by
    obtain ⟨x, hx, e⟩ := List.mem_map.mp (hf q.1 k q hk (by unfold touch; simp))
    obtain ⟨q', hq', h2⟩ := h.ok x hx
    have e : x.1 = k := e
    rw [e, hk] at hq'
    cases hq'
    exact ⟨x, hx, e, h2⟩
  have hat : ∀ k, k < ps.length → (halF n ps)[k]? = some ((getH (turnHF n ps) k).getD (0, 0)) := fun k hk => by
    unfold halF
    rw [List.getElem?_map, List.getElem?_range hk]
    rfl
  refine ⟨by simp [halF], fun k q hk => ?_, fun v => ?_⟩
  · obtain ⟨x, hx, e, h2⟩ := hall k q hk
    have hg := getH_mem h.nd hx
    rw [e] at hg
    refine ⟨x.2, ?_, hg, h2⟩
    rw [hat k (List.getElem?_eq_some_iff.mp hk).1, hg]
    rfl
  · have hp : (keysH (turnHF n ps)).Perm (List.range ps.length) := (List.perm_ext_iff_of_nodup h.nd List.nodup_range).mpr fun p => by
      rw [List.mem_range]
      constructor
      · intro hp
        obtain ⟨x, hx, rfl⟩ := List.mem_map.mp hp
        obtain ⟨q, hq, _⟩ := h.ok x hx
        exact (List.getElem?_eq_some_iff.mp hq).1
      · intro hp
        exact hf (ps[p]).1 p _ (List.getElem?_eq_getElem hp) (by unfold touch; simp)
    have key : ∀ f : Nat × Nat → Bool, (halF n ps).countP f = (turnHF n ps).countP fun x => f x.2 := fun f => by
      unfold halF
      rw [List.countP_map, ← hp.countP_eq]
      unfold keysH
      rw [List.countP_map]
      refine List.countP_congr fun x hx => ?_
      show f ((getH (turnHF n ps) x.1).getD (0, 0)) = true ↔ _
      rw [getH_mem h.nd hx]
      exact Iff.rfl
    rw [key, key]
    exact hc v
/-- the dict of the pairs turned -/
def dicH (T : TH) : List (Key × Dt) := T.map fun x => ((Sum.inl (x.1 : Int) : Key), pairD (.int (x.2.1 : Int)) (.int (x.2.2 : Int)))
theorem inl_nat {a b : Nat} : ((Sum.inl (a : Int) : Key) = Sum.inl (b : Int)) ↔ a = b := ⟨fun h => by have : (a : Int) = b := Sum.inl.inj h; omega, fun h => by rw [h]⟩
theorem getQ_H {p : Nat} : ∀ {T : TH}, getQ (dicH T) (Sum.inl (p : Int) : Key) = (getH T p).map fun q => pairD (.int (q.1 : Int)) (.int (q.2 : Int))
  | [] => rfl
  | x :: r => by
    have ih := getQ_H (p := p) (T := r)
    unfold getQ dicH getH at ih ⊢
    rw [List.map_cons, List.find?_cons, List.find?_cons]
    by_cases h : x.1 = p
    · rw [decide_eq_true h, decide_eq_true (inl_nat.mpr h)]
      rfl
    · rw [decide_eq_false h, decide_eq_false (fun z => h (inl_nat.mp z))]
      exact ih
theorem getH_some {p : Nat} : ∀ {T : TH}, (getH T p).isSome = decide (p ∈ keysH T)
  | [] => rfl
  | x :: r => by
    have ih := getH_some (p := p) (T := r)
    unfold getH keysH at ih ⊢
    rw [List.find?_cons, List.map_cons]
    by_cases h : x.1 = p
    · rw [decide_eq_true h]
      exact (decide_eq_true (by rw [h]; exact List.mem_cons_self)).symm
    · rw [decide_eq_false h]
      show Option.isSome _ = _
      rw [ih]
      refine decide_eq_decide.mpr ⟨fun z => List.mem_cons_of_mem _ z, fun z => ?_⟩
      rcases List.mem_cons.mp z with z | z
      · exact absurd z.symm h
      · exact z
theorem getQ_Hs {p : Nat} {T : TH} : (getQ (dicH T) (Sum.inl (p : Int) : Key)).isSome = decide (p ∈ keysH T) := by
  rw [getQ_H, Option.isSome_map, getH_some]
theorem putQ_H {p a b : Nat} {T : TH} (h : p ∉ keysH T) : putQ (dicH T) (Sum.inl (p : Int) : Key) (pairD (.int (a : Int)) (.int (b : Int))) = dicH (T ++ [(p, (a, b))]) := by
  unfold putQ
  have : ((dicH T).any fun kv => decide (kv.1 = (Sum.inl (p : Int) : Key))) = false := by
    rw [List.any_eq_false]
    intro kv hkv
    obtain ⟨x, hx, rfl⟩ := List.mem_map.mp hkv
    rw [decide_eq_true_eq]
    exact fun z => h (by rw [← inl_nat.mp z]; exact List.mem_map.mpr ⟨x, hx, rfl⟩)
  rw [this]
  show dicH T ++ _ = _
  unfold dicH
  rw [List.map_append]
  rfl
/-- the stores' lists of places, each told -/
def RowsL (M : Mm) (rows : List Addr) (L : List (List Nat)) : Prop := rows.length = L.length ∧ ∀ (j : Nat) (r : Addr) (l : List Nat), rows[j]? = some r → L[j]? = some l → M r = some (.lst (natsD l))
def W_walk : FwP := fun M ss P _ => ∃ (ps : List (Nat × Nat)) (n : Nat) (rows : List Addr) (a d : Addr) (L : List (List Nat)) (T : TH) (s : Nat), ss = [.d (.int (s : Int)), .d (.tup (pairsD ps)), .d (.ptr a), .d (.ptr d)] ∧
  OkP n ps ∧ HS ps n L T ∧ s < n ∧ ps.length ≤ 1000 ∧ M a = some (.lst (rows.map Dt.ptr)) ∧ M d = some (.dic (dicH T)) ∧ rows.Nodup ∧ a ∉ rows ∧ d ∉ rows ∧ d ≠ a ∧ RowsL M rows L ∧
  ∀ M' : Mm, (∀ x, x ≠ d → x ∉ rows → M' x = M x) → M' d = some (.dic (dicH (walkHF ps (totN L) s L T).2.1)) → RowsL M' rows (walkHF ps (totN L) s L T).1 → P .non M'
def W_halved (CE : Addr) : FwP := fun M ss P PX => ∃ (n : Nat) (x : Dt), ss = [.d (.int (n : Int)), .d x] ∧ n ≤ 1000 ∧ Pur x ∧ (∀ ds, x = .tup ds → ds.length ≤ 1000) ∧ (pairsB n x = false → PX CE [("value", x)] M) ∧
  ∀ ps, x = .tup (pairsD ps) → OkP n ps → P (.tup (pairsD (halF n ps))) M
theorem last_nats {l : List Nat} {p : Nat} (h : l.getLast? = some p) : (natsD l).getLast? = some (.int (p : Int)) := by unfold natsD; rw [List.getLast?_map, h]; rfl
theorem drop_nats {l : List Nat} : (natsD l).dropLast = natsD l.dropLast := by unfold natsD; rw [List.map_dropLast]
theorem keys_len {ps : List (Nat × Nat)} {n : Nat} {L : List (List Nat)} {T : TH} (h : HS ps n L T) : T.length ≤ ps.length := by
  have hp : (keysH T).Perm ((List.range ps.length).filter fun p => decide (p ∈ keysH T)) := (List.perm_ext_iff_of_nodup h.nd (nodup_filter List.nodup_range)).mpr fun p => by
    rw [List.mem_filter, List.mem_range, decide_eq_true_eq]
    refine ⟨fun hp => ⟨?_, hp⟩, fun z => z.2⟩
    obtain ⟨x, hx, rfl⟩ := List.mem_map.mp hp
    obtain ⟨q, hq, _⟩ := h.ok x hx
    exact (List.getElem?_eq_some_iff.mp hq).1
  have h1 := hp.length_eq
  have h2 := List.length_filter_le (fun p => decide (p ∈ keysH T)) (List.range ps.length)
  have h3 : (keysH T).length = T.length := by unfold keysH; rw [List.length_map]
  rw [List.length_range] at h2
  omega
theorem fold_hs {ps : List (Nat × Nat)} {n : Nat} (hok : OkP n ps) : ∀ {os : List Nat} {L : List (List Nat)} {T : TH}, HS ps n L T → (∀ s ∈ os, s < n) → HS ps n (foldW ps os L T).1 (foldW ps os L T).2
  | [], _, _, h, _ => h
  | s :: r, L, T, h, hs => fold_hs hok (os := r) (walk_ok hok (totN L) s L T h (hs s List.mem_cons_self) (Nat.le_refl _)).1 fun t ht => hs t (List.mem_cons_of_mem _ ht)
def placeL (ps : List (Nat × Nat)) (s k : Nat) : List Nat := (List.range k).filter fun p => touch (ps.getD p (0, 0)) s
theorem placeL_succ {ps : List (Nat × Nat)} {s k : Nat} : placeL ps s (k + 1) = placeL ps s k ++ if touch (ps.getD k (0, 0)) s = true then [k] else [] := by
  unfold placeL
  rw [List.range_succ, List.filter_append, List.filter_cons]
  rfl
def oddL (L : List (List Nat)) (k : Nat) : List Nat := (List.range k).filter fun s => decide ((L.getD s []).length % 2 = 1)
theorem oddL_succ {L : List (List Nat)} {k : Nat} : oddL L (k + 1) = oddL L k ++ if (L.getD k []).length % 2 = 1 then [k] else [] := by
  unfold oddL
  rw [List.range_succ, List.filter_append, List.filter_cons]
  by_cases h : (L.getD k []).length % 2 = 1
  · rw [if_pos h, if_pos (decide_eq_true h)]; rfl
  · rw [if_neg h, if_neg (by simpa using h)]; rfl
theorem in_pair (a b s : Nat) : inD (.int (s : Int)) [.int (a : Int), .int (b : Int)] = touch (a, b) s := by
  show (((a : Int) == (s : Int)) || (((b : Int) == (s : Int)) || false)) = (decide (a = s) || decide (b = s))
  rw [Bool.or_false]
  congr 1
  · by_cases h : a = s
    · subst h; simp
    · rw [decide_eq_false h]; exact beq_eq_false_iff_ne.mpr (by omega)
  · by_cases h : b = s
    · subst h; simp
    · rw [decide_eq_false h]; exact beq_eq_false_iff_ne.mpr (by omega)
theorem natsD_app {a b : List Nat} : natsD (a ++ b) = natsD a ++ natsD b := by unfold natsD; rw [List.map_append]
theorem pur_pairs (ps : List (Nat × Nat)) (h : ps.length ≤ 100000) : Pur (.tup (pairsD ps)) := ⟨_, flat_new (n := 0) ps h⟩
theorem pur_nats (ts : List Nat) (h : ts.length ≤ 100000) : Pur (lotD ts) := ⟨2, .tup 1 _ (by rw [natsD_length]; omega) flat_int⟩
theorem pairsD_inj2 : ∀ {ps qs : List (Nat × Nat)}, pairsD ps = pairsD qs → ps = qs
  | [], [], _ => rfl
  | [], _ :: _, h => by cases h
  | _ :: _, [], h => by cases h
  | (a, b) :: r, (c, d) :: s, h => by
    have h1 : pairD (.int (a : Int)) (.int (b : Int)) = pairD (.int (c : Int)) (.int (d : Int)) := (List.cons.inj h).1
    have h2 := pairsD_inj2 (List.cons.inj h).2
    have h3 := Dt.tup.inj h1
    simp at h3
    rw [h2, show a = c by omega, show b = d by omega]
theorem natsD_inj2 : ∀ {a b : List Nat}, natsD a = natsD b → a = b
  | [], [], _ => rfl
  | [], _ :: _, h => by cases h
  | _ :: _, [], h => by cases h
  | x :: r, y :: s, h => by
    have h1 : Dt.int (x : Int) = .int (y : Int) ∧ natsD r = natsD s := List.cons.inj h
    have h2 : (x : Int) = (y : Int) := by injection h1.1
    rw [show x = y by omega, natsD_inj2 h1.2]
def planB (m : Nat) : Dt → Bool
  | .tup ds => decide ((ds.length : Int) = (m : Int)) && ds.all natB
  | _ => false
def W_ckplan (CE : Addr) : FwX := fun ss P PX => ∃ (q : List Dt) (x : Dt), ss = [.d (.tup q), .d x] ∧ Pur x ∧ (planB q.length x = true → P .non) ∧ (planB q.length x = false → PX CE [("value", x)])
def planLen : List Int → Int
  | [] => 0
  | n :: r => mmI true n r + 1
def W_planlen : Fw := fun ss P => ∃ ns : List Int, ss = [.d (.tup (ns.map Dt.int))] ∧ P (.int (planLen ns))
/-! counts by pairs of whole numbers, as lists -/
abbrev PI2 := Int × Int
abbrev mapT (ks : List (PI2 × Int)) : List (List Key × Dt) := ks.map fun x => (k2 x.1.1 x.1.2, Dt.int x.2)
theorem mapT_cons {k : PI2} {v : Int} {r : List (PI2 × Int)} : mapT ((k, v) :: r) = (k2 k.1 k.2, .int v) :: mapT r := rfl
theorem k2_eq {a b : PI2} : (k2 a.1 a.2 = k2 b.1 b.2) ↔ a = b := by
  constructor
  · intro h
    injection h with h1 h2
    injection h2 with h2 _
    injection h1 with h1
    injection h2 with h2
    exact Prod.ext h1 h2
  · intro h; rw [h]
def getG : List (PI2 × Int) → PI2 → Option Int
  | [], _ => none
  | (k, v) :: r, n => if k = n then some v else getG r n
def putG : List (PI2 × Int) → PI2 → Int → List (PI2 × Int)
  | [], n, x => [(n, x)]
  | (k, v) :: r, n, x => if k = n then (k, x) :: r else (k, v) :: putG r n x
def keysG (ks : List (PI2 × Int)) : List PI2 := ks.map (·.1)
theorem getQ_G {n : PI2} : ∀ {ks : List (PI2 × Int)}, getQ (mapT ks) (k2 n.1 n.2) = (getG ks n).map Dt.int
  | [] => rfl
  | (k, v) :: r => by
    have ih := getQ_G (n := n) (ks := r)
    unfold getQ at ih ⊢
    unfold getG
    rw [mapT_cons, List.find?_cons]
    by_cases h : k = n
    · rw [if_pos h, decide_eq_true (k2_eq.mpr h)]
      rfl
    · rw [if_neg h, decide_eq_false (fun z => h (k2_eq.mp z))]
      exact ih
theorem any_G {n : PI2} : ∀ {ks : List (PI2 × Int)}, ((mapT ks).any fun kv => decide (kv.1 = k2 n.1 n.2)) = decide (n ∈ keysG ks)
  | [] => rfl
  | (k, v) :: r => by
    have ih := any_G (n := n) (ks := r)
    rw [mapT_cons, List.any_cons, ih]
    unfold keysG
    rw [List.map_cons]
    by_cases h : k = n
    · rw [decide_eq_true (k2_eq.mpr h), Bool.true_or, decide_eq_true (by rw [h]; exact List.mem_cons_self)]
    · rw [decide_eq_false (fun z => h (k2_eq.mp z)), Bool.false_or]
      refine decide_eq_decide.mpr ⟨fun z => List.mem_cons_of_mem _ z, fun z => ?_⟩
      rcases List.mem_cons.mp z with z | z
      · exact absurd z.symm h
      · exact z
theorem map_noG {n : PI2} {d : Dt} : ∀ {ks : List (PI2 × Int)}, n ∉ keysG ks → ((mapT ks).map fun kv => if kv.1 = k2 n.1 n.2 then (kv.1, d) else kv) = mapT ks
  | [], _ => rfl
  | (k, v) :: r, h => by
    unfold keysG at h
    rw [List.map_cons, List.mem_cons] at h
    have h1 : ¬ k2 k.1 k.2 = k2 n.1 n.2 := fun z => h (.inl (k2_eq.mp z).symm)
    rw [mapT_cons, List.map_cons, map_noG (ks := r) (fun z => h (.inr z)), if_neg h1]
theorem putQ_G {n : PI2} {x : Int} : ∀ {ks : List (PI2 × Int)}, (keysG ks).Nodup → putQ (mapT ks) (k2 n.1 n.2) (.int x) = mapT (putG ks n x)
  | [], _ => rfl
  | (k, v) :: r, hn => by
    have hn' : k ∉ keysG r ∧ (keysG r).Nodup := List.nodup_cons.mp hn
    have ih := putQ_G (n := n) (x := x) hn'.2
    unfold putQ at ih ⊢
    rw [any_G] at ih ⊢
    unfold putG
    by_cases h : k = n
    · subst h
      rw [if_pos rfl, if_pos (decide_eq_true (by unfold keysG; rw [List.map_cons]; exact List.mem_cons_self)), mapT_cons, List.map_cons, map_noG hn'.1, if_pos rfl]
      rfl
    · rw [if_neg h]
      have hk : decide (n ∈ keysG ((k, v) :: r)) = decide (n ∈ keysG r) := by
        refine decide_eq_decide.mpr ⟨fun z => ?_, fun z => List.mem_cons_of_mem _ z⟩
        rcases List.mem_cons.mp z with z | z
        · exact absurd z.symm h
        · exact z
      have h1 : ¬ k2 k.1 k.2 = k2 n.1 n.2 := fun z => h (k2_eq.mp z)
      rw [hk]
      by_cases h2 : n ∈ keysG r
      · rw [if_pos (decide_eq_true h2)] at ih ⊢
        rw [mapT_cons, List.map_cons, ih, if_neg h1]
        rfl
      · rw [if_neg (by simpa using h2)] at ih ⊢
        rw [mapT_cons, List.cons_append, ih]
        rfl
theorem keys_putG {n : PI2} {x : Int} : ∀ {ks : List (PI2 × Int)} {m : PI2}, m ∈ keysG (putG ks n x) → m = n ∨ m ∈ keysG ks
  | [], m, h => .inl (by unfold keysG putG at h; simpa using h)
  | (k, v) :: r, m, h => by
    unfold putG at h
    by_cases e : k = n
    · rw [if_pos e] at h
      exact .inr h
    · rw [if_neg e] at h
      rcases List.mem_cons.mp h with h | h
      · exact .inr (List.mem_cons.mpr (.inl h))
      · rcases keys_putG h with h | h
        · exact .inl h
        · exact .inr (List.mem_cons_of_mem _ h)
theorem nodup_putG {n : PI2} {x : Int} : ∀ {ks : List (PI2 × Int)}, (keysG ks).Nodup → (keysG (putG ks n x)).Nodup
  | [], _ => by unfold keysG putG; simp
  | (k, v) :: r, hn => by
    have hn' : k ∉ keysG r ∧ (keysG r).Nodup := List.nodup_cons.mp hn
    unfold putG
    by_cases h : k = n
    · rw [if_pos h]
      exact hn
    · rw [if_neg h]
      refine List.nodup_cons.mpr ⟨fun z => ?_, nodup_putG hn'.2⟩
      rcases keys_putG z with z | z
      · exact h z
      · exact hn'.1 z
theorem getG_put {n : PI2} {x : Int} {m : PI2} : ∀ {ks : List (PI2 × Int)}, getG (putG ks n x) m = if n = m then some x else getG ks m
  | [] => by
    unfold putG getG getG
    rfl
  | (k, v) :: r => by
    have ih := getG_put (n := n) (x := x) (m := m) (ks := r)
    unfold putG
    by_cases h : k = n
    · subst h
      rw [if_pos rfl]
      unfold getG
      by_cases h2 : k = m
      · rw [if_pos h2, if_pos h2]
      · rw [if_neg h2, if_neg h2, if_neg h2]
    · rw [if_neg h]
      unfold getG
      by_cases h2 : k = m
      · rw [if_pos h2, if_pos h2, if_neg (fun z => h (h2.trans z.symm))]
      · rw [if_neg h2, if_neg h2]
        exact ih
theorem getG_at {n : PI2} {x : Int} : ∀ {ks : List (PI2 × Int)} {i : Nat}, (keysG ks).Nodup → ks[i]? = some (n, x) → getG ks n = some x
  | [], i, _, h => by simp at h
  | (k, v) :: r, 0, _, h => by
    have h' := Option.some.inj (show some (k, v) = some (n, x) from h)
    cases h'
    unfold getG
    rw [if_pos rfl]
  | (k, v) :: r, i + 1, hn, h => by
    have hn' : k ∉ keysG r ∧ (keysG r).Nodup := List.nodup_cons.mp hn
    have h' : r[i]? = some (n, x) := by simpa using h
    have hm : n ∈ keysG r := List.mem_map.mpr ⟨_, List.mem_of_getElem? h', rfl⟩
    unfold getG
    rw [if_neg (fun z => hn'.1 (by rw [z]; exact hm))]
    exact getG_at hn'.2 h'
theorem getG_mem {n : PI2} {x : Int} : ∀ {ks : List (PI2 × Int)}, getG ks n = some x → (n, x) ∈ ks
  | [], h => nomatch h
  | (k, v) :: r, h => by
    unfold getG at h
    by_cases e : k = n
    · rw [if_pos e] at h
      cases h
      rw [e]
      exact List.mem_cons_self
    · rw [if_neg e] at h
      exact List.mem_cons_of_mem _ (getG_mem h)
theorem len_putG {n : PI2} {x : Int} : ∀ {ks : List (PI2 × Int)}, (putG ks n x).length ≤ ks.length + 1
  | [] => Nat.le_refl _
  | (k, v) :: r => by
    have ih := len_putG (n := n) (x := x) (ks := r)
    unfold putG
    split <;> simp <;> omega
/-- the dict holds how often each pair stands in L -/
structure CntOk (ks : List (PI2 × Int)) (L : List PI2) : Prop where
  nd : (keysG ks).Nodup
  get : ∀ q, getG ks q = if L.count q = 0 then none else some (L.count q : Int)
  len : ks.length ≤ L.length
theorem cntOk_nil : CntOk [] [] := ⟨.nil, fun _ => rfl, Nat.le_refl _⟩
theorem CntOk.put {ks : List (PI2 × Int)} {L : List PI2} (h : CntOk ks L) (q : PI2) : CntOk (putG ks q ((getG ks q).getD 0 + 1)) (L ++ [q]) := by
  refine ⟨nodup_putG h.nd, fun m => ?_, ?_⟩
  · rw [getG_put, List.count_append, List.count_cons, List.count_nil]
    by_cases e : q = m
    · subst e
      rw [if_pos rfl, h.get q]
      have e1 : L.count q + (0 + if (q == q) = true then 1 else 0) = L.count q + 1 := by simp
      rw [e1]
      by_cases z : L.count q = 0
      · rw [if_pos z, z]; rfl
      · rw [if_neg z, if_neg (Nat.succ_ne_zero _)]
        show some ((L.count q : Int) + 1) = some ((L.count q + 1 : Nat) : Int)
        rfl
    · have : (0 + if (q == m) = true then 1 else 0) = 0 := by rw [if_neg (by simpa using e)]
      rw [if_neg e, this, Nat.add_zero]
      exact h.get m
  · have := len_putG (n := q) (x := (getG ks q).getD 0 + 1) (ks := ks)
    have := h.len
    rw [List.length_append]
    simp
    omega
/-- each end of each pair with its round -/
def evsN : List (Nat × Nat) → List Nat → List PI2
  | (a, b) :: ps, t :: ts => ((t : Int), (a : Int)) :: ((t : Int), (b : Int)) :: evsN ps ts
  | _, _ => []
def Exc (rs : List Nat) (L : List PI2) (q : PI2) : Prop := q ∈ L ∧ ((rs.getD q.2.toNat 0 : Nat) : Int) < (L.count q : Int)
/-- None, or the least of what is too much -/
def LeastE (rs : List Nat) (L : List PI2) (o : Dt) : Prop := (o = .non ∧ ∀ q, ¬ Exc rs L q) ∨ ∃ q, o = iiD q ∧ Exc rs L q ∧ ∀ q', Exc rs L q' → ¬ ltP q' q
theorem leastE_one {rs : List Nat} {L : List PI2} {o u : Dt} (h : LeastE rs L o) (k : LeastE rs L u) : o = u := by
  rcases h with ⟨rfl, h⟩ | ⟨q, rfl, h1, h2⟩
  · rcases k with ⟨rfl, _⟩ | ⟨q', rfl, k1, _⟩
    · rfl
    · exact absurd k1 (h q')
  · rcases k with ⟨rfl, k⟩ | ⟨q', rfl, k1, k2⟩
    · exact absurd h1 (k q)
    · have a := h2 q' k1
      have b := k2 q h1
      unfold ltP at a b
      have e1 : q.1 = q'.1 := by omega
      have e2 : q.2 = q'.2 := by omega
      show Dt.tup [.int q.1, .int q.2] = .tup [.int q'.1, .int q'.2]
      rw [e1, e2]
theorem minP_ok : ∀ (r : List PI2) (n : PI2), (minP n r = n ∨ minP n r ∈ r) ∧ (¬ ltP n (minP n r)) ∧ ∀ y ∈ r, ¬ ltP y (minP n r)
  | [], n => ⟨.inl rfl, (by show ¬ ltP n n; unfold ltP; omega), fun _ z => nomatch z⟩
  | y :: r, n => by
    have ih := minP_ok r (if ltP y n then y else n)
    have e : minP n (y :: r) = minP (if ltP y n then y else n) r := rfl
    rw [e]
    generalize minP (if ltP y n then y else n) r = m at ih
    by_cases h : ltP y n
    · rw [if_pos h] at ih
      refine ⟨?_, ?_, fun z hz => ?_⟩
      · rcases ih.1 with z | z
        · exact .inr (by rw [z]; exact List.mem_cons_self)
        · exact .inr (List.mem_cons_of_mem _ z)
      · have a := ih.2.1
        unfold ltP at a h ⊢
        omega
      · rcases List.mem_cons.mp hz with rfl | hz
        · exact ih.2.1
        · exact ih.2.2 z hz
    · rw [if_neg h] at ih
      refine ⟨?_, ih.2.1, fun z hz => ?_⟩
      · rcases ih.1 with z | z
        · exact .inl z
        · exact .inr (List.mem_cons_of_mem _ z)
      · rcases List.mem_cons.mp hz with rfl | hz
        · have a := ih.2.1
          unfold ltP at a h ⊢
          omega
        · exact ih.2.2 z hz
theorem plan_nats {m : Nat} {y : Dt} (h : planB m y = true) : ∃ ts : List Nat, y = lotD ts ∧ ts.length = m := by
  cases y <;> first | exact absurd h Bool.false_ne_true | skip
  rename_i es
  have h' : (decide ((es.length : Int) = (m : Int)) && es.all natB) = true := h
  rw [Bool.and_eq_true, decide_eq_true_eq] at h'
  obtain ⟨l, rfl, _⟩ := nats_of (Qv := fun _ => True) (ys := es) fun z hz => by
    have := List.all_eq_true.mp h'.2 z hz
    cases z <;> first | exact absurd this Bool.false_ne_true | skip
    rename_i i
    have h0 : 0 ≤ i := of_decide_eq_true this
    exact ⟨i.toNat, by rw [Int.toNat_of_nonneg h0], trivial⟩
  exact ⟨l, rfl, by have := h'.1; rw [natsD_length] at this; omega⟩
theorem evs_take : ∀ {k : Nat} {ps : List (Nat × Nat)} {ts : List Nat} {a b t : Nat}, ps[k]? = some (a, b) → ts[k]? = some t → evsN (ps.take (k + 1)) (ts.take (k + 1)) = evsN (ps.take k) (ts.take k) ++ [((t : Int), (a : Int)), ((t : Int), (b : Int))]
  | 0, (a, b) :: ps, t :: ts, _, _, _, h1, h2 => by
    cases h1
    cases h2
    simp [evsN]
  | k + 1, (a, b) :: ps, t :: ts, _, _, _, h1, h2 => by
    have ih := evs_take (k := k) (ps := ps) (ts := ts) (by simpa using h1) (by simpa using h2)
    show evsN ((a, b) :: ps.take (k + 1)) (t :: ts.take (k + 1)) = evsN ((a, b) :: ps.take k) (t :: ts.take k) ++ _
    show (_ :: _ :: evsN (ps.take (k + 1)) (ts.take (k + 1))) = (_ :: _ :: evsN (ps.take k) (ts.take k)) ++ _
    rw [ih]
    rfl
  | _, [], _, _, _, _, h1, _ => by simp at h1
  | _, _ :: _, [], _, _, _, _, h2 => by simp at h2
theorem evs_mem {n : Nat} : ∀ {ps : List (Nat × Nat)} {ts : List Nat} {q : PI2}, OkP n ps → q ∈ evsN ps ts → ∃ t v : Nat, q = ((t : Int), (v : Int)) ∧ v < n
  | [], _, q, _, h => by cases h
  | _ :: _, [], q, _, h => by cases h
  | (a, b) :: ps, t :: ts, q, hok, h => by
    have h0 := hok (a, b) List.mem_cons_self
    have h' : q ∈ ((t : Int), (a : Int)) :: ((t : Int), (b : Int)) :: evsN ps ts := h
    rcases List.mem_cons.mp h' with rfl | h'
    · exact ⟨t, a, rfl, h0.1⟩
    · rcases List.mem_cons.mp h' with rfl | h'
      · exact ⟨t, b, rfl, h0.2.1⟩
      · exact evs_mem (fun x hx => hok x (List.mem_cons_of_mem _ hx)) h'
theorem evs_len : ∀ {ps : List (Nat × Nat)} {ts : List Nat}, (evsN ps ts).length ≤ 2 * ps.length
  | [], _ => Nat.zero_le _
  | _ :: _, [] => Nat.zero_le _
  | (a, b) :: ps, t :: ts => by
    have := evs_len (ps := ps) (ts := ts)
    show (evsN ps ts).length + 1 + 1 ≤ _
    simp
    omega
theorem pairD_getD {ps : List (Nat × Nat)} {k : Nat} (h : k < ps.length) : (pairsD ps)[k]? = some (pairD (.int ((ps[k].1 : Nat) : Int)) (.int ((ps[k].2 : Nat) : Int))) := pairsD_at h
theorem natsD_getK {l : List Nat} {k : Nat} (h : k < l.length) : (natsD l)[k]? = some (.int ((l[k] : Nat) : Int)) := by
  unfold natsD
  rw [List.getElem?_map, List.getElem?_eq_getElem h]
  rfl
theorem zip_atP {xs ys : List Dt} {k : Nat} {a b : Dt} (h1 : xs[k]? = some a) (h2 : ys[k]? = some b) : (zipD xs ys)[k]? = some (pairD a b) := by
  unfold zipD
  rw [List.getElem?_zipWith, h1, h2]
theorem CntOk.mem {ks : List (PI2 × Int)} {L : List PI2} (h : CntOk ks L) {i : Nat} {q : PI2} {x : Int} (e : ks[i]? = some (q, x)) : q ∈ L ∧ x = (L.count q : Int) := by
  have h1 := getG_at h.nd e
  rw [h.get q] at h1
  by_cases z : L.count q = 0
  · rw [if_pos z] at h1; cases h1
  · rw [if_neg z] at h1
    cases h1
    exact ⟨List.count_pos_iff.mp (by omega), rfl⟩
theorem CntOk.has {ks : List (PI2 × Int)} {L : List PI2} (h : CntOk ks L) {q : PI2} (hq : q ∈ L) : (q, (L.count q : Int)) ∈ ks := by
  have := List.count_pos_iff.mpr hq
  exact getG_mem (by rw [h.get q, if_neg (by omega)])
def overB (rs : List Nat) (x : PI2 × Int) : Bool := decide (((rs.getD x.1.2.toNat 0 : Nat) : Int) < x.2)
theorem over_exc {rs : List Nat} {ks : List (PI2 × Int)} {L : List PI2} (h : CntOk ks L) (q : PI2) : q ∈ (ks.filter (overB rs)).map (·.1) ↔ Exc rs L q := by
  constructor
  · intro hq
    obtain ⟨⟨q', x⟩, hx, rfl⟩ := List.mem_map.mp hq
    obtain ⟨h1, h2⟩ := List.mem_filter.mp hx
    obtain ⟨i, hi⟩ := List.getElem?_of_mem h1
    obtain ⟨h3, rfl⟩ := h.mem hi
    exact ⟨h3, of_decide_eq_true h2⟩
  · rintro ⟨h1, h2⟩
    exact List.mem_map.mpr ⟨_, List.mem_filter.mpr ⟨h.has h1, decide_eq_true h2⟩, rfl⟩
def plS : Sl → Bool
  | .d _ => true
  | .no => true
  | _ => false
theorem plainE_pl (env : List Sl) : plainE env = env.all plS := by
  unfold plainE
  congr 1
def W_excess (CE CP : Addr) : FwX := fun ss P PX => ∃ (rs : List Nat) (x y : Dt), ss = [.d (lotD rs), .d x, .d y] ∧ rs.length ≤ 1000 ∧ Pur x ∧ Pur y ∧ (∀ ds, x = .tup ds → ds.length ≤ 1000) ∧ (pairsB rs.length x = false → PX CE [("value", x)]) ∧
  ∀ ps, x = .tup (pairsD ps) → OkP rs.length ps → (planB ps.length y = false → PX CP [("value", y)]) ∧ ∀ ts : List Nat, y = lotD ts → ts.length = ps.length → ∀ o, LeastE rs (evsN ps ts) o → P o
/-- None, whole numbers, texts, and tuples of these -/
inductive Sm : Nat → Dt → Prop
  | non (n : Nat) : Sm n .non
  | int (n : Nat) (i : Int) : Sm n (.int i)
  | str (n : Nat) (s : Str) : Sm n (.str s)
  | tup (n : Nat) (ds : List Dt) : ds.length ≤ 100000 → (∀ d ∈ ds, Sm n d) → Sm (n + 1) (.tup ds)
def W_same (n : Nat) : Fw := fun ss P => ∃ x, ss = [.d x, .d x] ∧ Sm n x ∧ P (.bl true)
def W_refused (CE CP : Addr) : Fw := fun ss P => ∃ (rs : List Nat) (x y : Dt), ss = [.d (lotD rs), .d x, .d y] ∧ rs.length ≤ 1000 ∧ Pur x ∧ Pur y ∧ (∀ ds, x = .tup ds → ds.length ≤ 1000) ∧ (pairsB rs.length x = false → P (.tup [.str "pairs", x])) ∧
  ∀ ps, x = .tup (pairsD ps) → OkP rs.length ps → (planB ps.length y = false → P (.tup [.str "plan", y])) ∧ ∀ ts : List Nat, y = lotD ts → ts.length = ps.length → P (.tup [.str "none", .int 0])
/-- the pairs of one round -/
def selN (t : Int) : List (Nat × Nat) → List Nat → List (Nat × Nat)
  | p :: ps, u :: ts => if (u : Int) = t then p :: selN t ps ts else selN t ps ts
  | _, _ => []
theorem sel_take {t : Int} : ∀ {k : Nat} {ps : List (Nat × Nat)} {ts : List Nat} {p : Nat × Nat} {u : Nat}, ps[k]? = some p → ts[k]? = some u → selN t (ps.take (k + 1)) (ts.take (k + 1)) = selN t (ps.take k) (ts.take k) ++ if (u : Int) = t then [p] else []
  | 0, p :: ps, u :: ts, _, _, h1, h2 => by
    cases h1
    cases h2
    simp [selN]
  | k + 1, q :: ps, v :: ts, _, _, h1, h2 => by
    have ih := sel_take (t := t) (k := k) (ps := ps) (ts := ts) (by simpa using h1) (by simpa using h2)
    show (if (v : Int) = t then q :: selN t (ps.take (k + 1)) (ts.take (k + 1)) else selN t (ps.take (k + 1)) (ts.take (k + 1))) = (if (v : Int) = t then q :: selN t (ps.take k) (ts.take k) else selN t (ps.take k) (ts.take k)) ++ _
    rw [ih]
    split <;> rfl
  | _, [], _, _, _, h1, _ => by simp at h1
  | _, _ :: _, [], _, _, _, h2 => by simp at h2
theorem sel_len {t : Int} : ∀ {ps : List (Nat × Nat)} {ts : List Nat}, (selN t ps ts).length ≤ ps.length
  | [], _ => Nat.zero_le _
  | _ :: _, [] => Nat.zero_le _
  | p :: ps, u :: ts => by
    have := sel_len (t := t) (ps := ps) (ts := ts)
    show (if (u : Int) = t then p :: selN t ps ts else selN t ps ts).length ≤ _
    split <;> simp <;> omega
theorem sel_mem {t : Int} : ∀ {ps : List (Nat × Nat)} {ts : List Nat} {q : Nat × Nat}, q ∈ selN t ps ts → q ∈ ps
  | [], _, _, h => by cases h
  | _ :: _, [], _, h => by cases h
  | p :: ps, u :: ts, q, h => by
    have h' : q ∈ (if (u : Int) = t then p :: selN t ps ts else selN t ps ts) := h
    split at h'
    · rcases List.mem_cons.mp h' with h' | h'
      · rw [h']; exact List.mem_cons_self
      · exact List.mem_cons_of_mem _ (sel_mem h')
    · exact List.mem_cons_of_mem _ (sel_mem h')
theorem sel_count {t : Int} {v : Nat} : ∀ {ps : List (Nat × Nat)} {ts : List Nat}, loadN (selN t ps ts) v = (evsN ps ts).count (t, (v : Int))
  | [], _ => rfl
  | _ :: _, [] => rfl
  | (a, b) :: ps, u :: ts => by
    have ih := sel_count (t := t) (v := v) (ps := ps) (ts := ts)
    have e1 : (evsN ((a, b) :: ps) (u :: ts)).count (t, (v : Int)) = (((u : Int), (a : Int)) :: ((u : Int), (b : Int)) :: evsN ps ts).count (t, (v : Int)) := rfl
    have e2 : loadN (selN t ((a, b) :: ps) (u :: ts)) v = loadN (if (u : Int) = t then (a, b) :: selN t ps ts else selN t ps ts) v := rfl
    rw [e1, e2, List.count_cons, List.count_cons, ← ih]
    by_cases hu : (u : Int) = t
    · rw [if_pos hu]
      subst hu
      have e3 : loadN ((a, b) :: selN (u : Int) ps ts) v = (a :: b :: endsN (selN (u : Int) ps ts)).count v := rfl
      rw [e3, List.count_cons, List.count_cons]
      have c1 : ((a == v) = true) ↔ ((((u : Int), (a : Int)) == ((u : Int), (v : Int))) = true) := by simp; omega
      have c2 : ((b == v) = true) ↔ ((((u : Int), (b : Int)) == ((u : Int), (v : Int))) = true) := by simp; omega
      simp only [c1, c2]
      rfl
    · rw [if_neg hu, if_neg (by simp [hu]), if_neg (by simp [hu])]
      rfl
theorem evs_turn : ∀ {ps : List (Nat × Nat)} {ts : List Nat} {q : PI2}, q ∈ evsN ps ts → ∃ u ∈ ts, q.1 = (u : Int)
  | [], _, _, h => by cases h
  | _ :: _, [], _, h => by cases h
  | (a, b) :: ps, u :: ts, q, h => by
    have h' : q ∈ ((u : Int), (a : Int)) :: ((u : Int), (b : Int)) :: evsN ps ts := h
    rcases List.mem_cons.mp h' with rfl | h'
    · exact ⟨u, List.mem_cons_self, rfl⟩
    · rcases List.mem_cons.mp h' with rfl | h'
      · exact ⟨u, List.mem_cons_self, rfl⟩
      · obtain ⟨w, hw, e⟩ := evs_turn h'
        exact ⟨w, List.mem_cons_of_mem _ hw, e⟩
theorem exc_iff {rs : List Nat} {ps : List (Nat × Nat)} {ts : List Nat} {t : Int} {v : Nat} : Exc rs (evsN ps ts) (t, (v : Int)) ↔ rs.getD v 0 < loadN (selN t ps ts) v := by
  unfold Exc
  rw [sel_count, Int.toNat_natCast]
  constructor
  · rintro ⟨_, h⟩
    omega
  · intro h
    exact ⟨List.count_pos_iff.mp (by omega), by omega⟩
def W_lexcess : Fw := fun ss P => ∃ (rs : List Nat) (x y : Dt) (ps : List (Nat × Nat)) (ts : List Nat), ss = [.d (lotD rs), .d x, .d y] ∧ (x = .tup (pairsD ps) ∨ x = .lst (pairsD ps)) ∧ (y = .lst (natsD ts) ∨ y = .tup (natsD ts)) ∧ rs.length ≤ 100 ∧ ps.length ≤ 200 ∧ ts.length = ps.length ∧ OkP rs.length ps ∧ ∀ o, LeastE rs (evsN ps ts) o → P o
def W_isval (n : Nat) : Fw := fun ss P => ∃ x, ss = [.d x, .d x] ∧ Flat n x ∧ P (.bl true)
/-! ### a table: places (each on a row, side true, and a column, side false), put into rounds -/
/-- P: the rounds of the places; T: which place stands in a line in a round -/
structure Tab {α : Type} (L : Bool → Nat → α) (P : Nat → Option Nat) (T : Bool → α → Nat → Option Nat) : Prop where
  val : ∀ s i j q, P i = some q → P j = some q → L s i = L s j → i = j
  tk : ∀ s l q i, T s l q = some i ↔ P i = some q ∧ L s i = l
section
variable {α : Type} {L : Bool → Nat → α} {P : Nat → Option Nat} {T : Bool → α → Nat → Option Nat} {a b : Nat} {c : α}
/-- the way of places in the rounds a and b, in turn, that begins at the column c -/
inductive Pre {α : Type} (L : Bool → Nat → α) (T : Bool → α → Nat → Option Nat) (a b : Nat) (c : α) : List Nat → Bool → α → Nat → Prop
  | start : Pre L T a b c [] false c a
  | step {w : List Nat} {s : Bool} {l : α} {q e : Nat} : Pre L T a b c w s l q → T s l q = some e → Pre L T a b c (w ++ [e]) (!s) (L (!s) e) (a + b - q)
theorem Pre.num {w : List Nat} {s : Bool} {l : α} {q : Nat} (h : Pre L T a b c w s l q) : q = if s then b else a := by
  induction h with
  | start => rfl
  | @step w s l q e _ _ ih =>
    cases s with
    | true => have ih : q = b := ih; show a + b - q = a; omega
    | false => have ih : q = a := ih; show a + b - q = b; omega
theorem Pre.last {w : List Nat} {s : Bool} {l : α} {q y : Nat} (t : Tab L P T) (h : Pre L T a b c (w ++ [y]) s l q) : P y = some (a + b - q) ∧ L s y = l := by
  generalize hw : w ++ [y] = u at h
  cases h with
  | start => simp at hw
  | @step w' s' l' q' e h1 h2 =>
    obtain ⟨_, e2⟩ := List.append_inj' hw rfl
    cases e2
    have hn := h1.num
    have h3 := (t.tk _ _ _ _).mp h2
    refine ⟨?_, rfl⟩
    rw [h3.1]
    congr 1
    cases s' with
    | true => have hn : q' = b := hn; omega
    | false => have hn : q' = a := hn; omega
theorem Pre.col {w : List Nat} {s : Bool} {l : α} {q : Nat} (t : Tab L P T) (h : Pre L T a b c w s l q) : ∀ e ∈ w, P e = some a ∨ P e = some b := by
  induction h with
  | start => intro e he; cases he
  | @step w s l q e h1 h2 ih =>
    intro x hx
    rcases List.mem_append.mp hx with hx | hx
    · exact ih x hx
    · rw [List.mem_singleton] at hx
      subst hx
      have h3 := ((t.tk _ _ _ _).mp h2).1
      have hn := h1.num
      cases s with
      | true => right; rw [h3]; exact congrArg some hn
      | false => left; rw [h3]; exact congrArg some hn
/-- the way up to a place on it -/
theorem Pre.upto {w : List Nat} {s : Bool} {l : α} {q : Nat} (h : Pre L T a b c w s l q) : ∀ (u v : List Nat) (e : Nat), w = u ++ e :: v → ∃ s' l' q', Pre L T a b c u s' l' q' ∧ T s' l' q' = some e := by
  induction h with
  | start => intro u v e hw; simp at hw
  | @step w s l q x h1 h2 ih =>
    intro u v e hw
    rcases List.eq_nil_or_concat v with rfl | ⟨v', y, rfl⟩
    · obtain ⟨e1, e2⟩ := List.append_inj' hw rfl
      cases e2
      subst e1
      exact ⟨s, l, q, h1, h2⟩
    · rw [List.concat_eq_append, ← List.cons_append, ← List.append_assoc] at hw
      obtain ⟨e1, _⟩ := List.append_inj' hw rfl
      exact ih u v' e e1
theorem Pre.new {w : List Nat} {s : Bool} {l : α} {q e : Nat} (t : Tab L P T) (hb : ∀ i, P i = some b → L false i ≠ c) (h : Pre L T a b c w s l q) (hn : w.Nodup) (he : T s l q = some e) : e ∉ w := fun hm => by
  obtain ⟨u, v, rfl⟩ := List.append_of_mem hm
  obtain ⟨s', l', q', h1, h2⟩ := h.upto u v e rfl
  have e1 := (t.tk _ _ _ _).mp he
  have e2 := (t.tk _ _ _ _).mp h2
  have eq : q' = q := Option.some.inj (e2.1.symm.trans e1.1)
  have n1 := h1.num
  have n2 := h.num
  by_cases hab : a = b
  · -- the way is empty then
    have hlast : ∃ z, z ∈ (u ++ e :: v) := ⟨e, hm⟩
    have first : ∀ {w : List Nat} {s : Bool} {l : α} {q : Nat}, Pre L T a b c w s l q → w = [] := fun h => by
      induction h with
      | start => rfl
      | @step w s l q x h1 h2 ih =>
        subst ih
        exfalso
        generalize hw : ([] : List Nat) = w0 at h1
        cases h1 with
        | start =>
          have h3 := (t.tk _ _ _ _).mp h2
          exact hb x (hab ▸ h3.1) h3.2
        | step _ _ => simp at hw
    rw [first h] at hm
    cases hm
  have es : s' = s := by
    subst eq
    cases s <;> cases s' <;> simp at n1 n2 <;> first | rfl | (exfalso; omega)
  subst es
  have el : l' = l := e2.2.symm.trans e1.2
  subst el
  subst eq
  -- the last of the way
  have hlast : ∃ w' y, u ++ e :: v = w' ++ [y] ∧ y ∈ e :: v := by
    rcases List.eq_nil_or_concat v with rfl | ⟨v', y, rfl⟩
    · exact ⟨u, e, rfl, List.mem_singleton.mpr rfl⟩
    · exact ⟨u ++ e :: v', y, by rw [List.concat_eq_append]; simp, by rw [List.concat_eq_append]; simp⟩
  obtain ⟨w', y, hw, hy⟩ := hlast
  have hp : P y = some (a + b - q') ∧ L s' y = l' := Pre.last t (hw ▸ h)
  generalize hu : u = u0 at h1
  cases h1 with
  | start =>
    have : a + b - a = b := by omega
    rw [this] at hp
    exact hb y hp.1 hp.2
  | @step u1 s1 l1 q1 x g1 g2 =>
    have gx := Pre.last t (Pre.step g1 g2)
    have exy : x = y := t.val _ _ _ _ gx.1 hp.1 (gx.2.trans hp.2.symm)
    subst exy
    subst hu
    have hd := (List.nodup_append.mp hn).2.2
    exact hd x (List.mem_append_right _ (List.mem_singleton.mpr rfl)) x hy rfl
theorem Pre.nodup {w : List Nat} {s : Bool} {l : α} {q : Nat} (t : Tab L P T) (hb : ∀ i, P i = some b → L false i ≠ c) (h : Pre L T a b c w s l q) : w.Nodup := by
  induction h with
  | start => exact List.nodup_nil
  | @step w s l q e h1 h2 ih =>
    refine List.nodup_append.mpr ⟨ih, by simp, fun x hx y hy z => ?_⟩
    rw [List.mem_singleton] at hy
    subst hy
    subst z
    exact h1.new t hb ih h2 hx
/-- at each of its lines a place of the way has the next or the one before, but at the ends -/
theorem Pre.link {w : List Nat} {s : Bool} {l : α} {q : Nat} (t : Tab L P T) (h : Pre L T a b c w s l q) : ∀ e ∈ w, ∀ (qe : Nat) (σ : Bool), P e = some qe → (∃ x ∈ w, P x = some (a + b - qe) ∧ L σ x = L σ e) ∨ (σ = s ∧ L σ e = l ∧ a + b - qe = q) ∨ (σ = false ∧ L σ e = c ∧ qe = a) := by
  induction h with
  | start => intro e he; cases he
  | @step w s l q e h1 h2 ih =>
    intro x hx qx σ hq
    have h3 := (t.tk _ _ _ _).mp h2
    rcases List.mem_append.mp hx with hx | hx
    · rcases ih x hx qx σ hq with ⟨y, hy, h4, h5⟩ | ⟨rfl, h4, h5⟩ | h4
      · exact .inl ⟨y, List.mem_append_left _ hy, h4, h5⟩
      · exact .inl ⟨e, List.mem_append_right _ (List.mem_singleton.mpr rfl), by rw [h5]; exact h3.1, h3.2.trans h4.symm⟩
      · exact .inr (.inr h4)
    · rw [List.mem_singleton] at hx
      subst hx
      have hqq : qx = q := Option.some.inj (hq.symm.trans h3.1)
      subst hqq
      by_cases hs : σ = s
      · subst hs
        rcases List.eq_nil_or_concat w with hw | ⟨w', y, hw⟩
        · subst hw
          generalize hw0 : ([] : List Nat) = w0 at h1
          cases h1 with
          | start => exact .inr (.inr ⟨rfl, h3.2, rfl⟩)
          | step _ _ => simp at hw0
        · subst hw
          rw [List.concat_eq_append] at h1 ⊢
          have h4 := Pre.last t h1
          exact .inl ⟨y, by simp, h4.1, h4.2.trans h3.2.symm⟩
      · have : σ = !s := by cases σ <;> cases s <;> first | rfl | exact absurd rfl hs
        subst this
        exact .inr (.inl ⟨rfl, rfl, rfl⟩)
theorem Pre.first {w : List Nat} {s : Bool} {l : α} {q : Nat} (h : Pre L T a b c w s l q) : w = [] ∧ (s, l, q) = (false, c, a) ∨ ∃ e, T false c a = some e ∧ e ∈ w := by
  induction h with
  | start => exact .inl ⟨rfl, rfl⟩
  | @step w s l q e h1 h2 ih =>
    right
    rcases ih with ⟨rfl, z⟩ | ⟨x, hx, hm⟩
    · cases z
      exact ⟨e, h2, by simp⟩
    · exact ⟨x, hx, List.mem_append_left _ hm⟩
/-- the rounds exchanged on the way -/
def swpP (P : Nat → Option Nat) (a b : Nat) (w : List Nat) (i : Nat) : Option Nat := if i ∈ w then (P i).map fun q => a + b - q else P i
theorem swap_val {w : List Nat} {s : Bool} {l : α} {q : Nat} (t : Tab L P T) (hb : ∀ i, P i = some b → L false i ≠ c) (h : Pre L T a b c w s l q) (he : T s l q = none) : ∀ σ i j r, swpP P a b w i = some r → swpP P a b w j = some r → L σ i = L σ j → i = j := by
  have one : ∀ σ i j r, i ∈ w → j ∉ w → swpP P a b w i = some r → swpP P a b w j = some r → L σ i = L σ j → False := fun σ i j r hi hj h1 h2 h3 => by
    unfold swpP at h1 h2
    rw [if_pos hi] at h1
    rw [if_neg hj] at h2
    cases hq : P i with
    | none => rw [hq] at h1; cases h1
    | some qi =>
    rw [hq] at h1
    have h1 : a + b - qi = r := Option.some.inj h1
    rcases h.link t i hi qi σ hq with ⟨x, hx, h4, h5⟩ | ⟨rfl, h4, h5⟩ | ⟨rfl, h4, h5⟩
    · have : x = j := t.val σ x j _ h4 (by rw [h1]; exact h2) (h5.trans h3)
      exact hj (this ▸ hx)
    · have : T σ l q = some j := (t.tk _ _ _ _).mpr ⟨by rw [← h5, h1]; exact h2, h3.symm.trans h4⟩
      rw [he] at this; cases this
    · refine hb j ?_ (h3.symm.trans h4)
      rw [h2]
      congr 1
      omega
  intro σ i j r h1 h2 h3
  by_cases hi : i ∈ w
  · by_cases hj : j ∈ w
    · unfold swpP at h1 h2
      rw [if_pos hi] at h1
      rw [if_pos hj] at h2
      cases hqi : P i with
      | none => rw [hqi] at h1; cases h1
      | some qi =>
      cases hqj : P j with
      | none => rw [hqj] at h2; cases h2
      | some qj =>
      rw [hqi] at h1
      rw [hqj] at h2
      have h1 : a + b - qi = r := Option.some.inj h1
      have h2 : a + b - qj = r := Option.some.inj h2
      have ci := h.col t i hi
      have cj := h.col t j hj
      rw [hqi] at ci
      rw [hqj] at cj
      have e : qi = qj := by
        rcases ci with z | z <;> rcases cj with z2 | z2 <;> (have z := Option.some.inj z; have z2 := Option.some.inj z2; omega)
      subst e
      exact t.val σ i j qi hqi hqj h3
    · exact (one σ i j r hi hj h1 h2 h3).elim
  · by_cases hj : j ∈ w
    · exact (one σ j i r hj hi h2 h1 h3.symm).elim
    · unfold swpP at h1 h2
      rw [if_neg hi] at h1
      rw [if_neg hj] at h2
      exact t.val σ i j r h1 h2 h3
/-- behind it the round a is free at the column, and at a row where it was free -/
theorem swap_free {w : List Nat} {s : Bool} {l ro : α} {q : Nat} (t : Tab L P T) (hb : ∀ i, P i = some b → L false i ≠ c) (ha : ∀ i, P i = some a → L true i ≠ ro) (h : Pre L T a b c w s l q) (he : T s l q = none) :
    (∀ i, swpP P a b w i = some a → L false i ≠ c) ∧ ∀ i, swpP P a b w i = some a → L true i ≠ ro := by
  have inw : ∀ i, i ∈ w → swpP P a b w i = some a → P i = some b := fun i hi h1 => by
    unfold swpP at h1
    rw [if_pos hi] at h1
    cases hq : P i with
    | none => rw [hq] at h1; cases h1
    | some qi =>
    rw [hq] at h1
    have h1 : a + b - qi = a := Option.some.inj h1
    have ci := h.col t i hi
    rw [hq] at ci
    rcases ci with z | z
    · have z := Option.some.inj z
      congr 1; omega
    · exact z
  refine ⟨fun i h1 h2 => ?_, fun i h1 h2 => ?_⟩
  · by_cases hi : i ∈ w
    · exact hb i (inw i hi h1) h2
    · have h3 : P i = some a := by unfold swpP at h1; rw [if_neg hi] at h1; exact h1
      have h4 : T false c a = some i := (t.tk _ _ _ _).mpr ⟨h3, h2⟩
      rcases h.first with ⟨_, z⟩ | ⟨e, h5, h6⟩
      · cases z; rw [he] at h4; cases h4
      · rw [h4] at h5; cases h5; exact hi h6
  · by_cases hi : i ∈ w
    · have h3 := inw i hi h1
      rcases h.link t i hi b true h3 with ⟨x, hx, h4, h5⟩ | ⟨rfl, h4, h5⟩ | ⟨z, _⟩
      · exact ha x (by rw [h4]; congr 1; omega) (h5.trans h2)
      · have hn : q = b := h.num
        have : a = b := by omega
        exact ha i (by rw [this]; exact h3) h2
      · cases z
    · have h3 : P i = some a := by unfold swpP at h1; rw [if_neg hi] at h1; exact h1
      exact ha i h3 h2
end
theorem nodup_sub {l1 : List Nat} : ∀ {l2 : List Nat}, l1.Nodup → (∀ x ∈ l1, x ∈ l2) → l1.length ≤ l2.length := by
  induction l1 with
  | nil => intro _ _ _; exact Nat.zero_le _
  | cons x r ih =>
    intro l2 hn hs
    rw [List.nodup_cons] at hn
    have hx := hs x List.mem_cons_self
    have h := ih (l2 := l2.erase x) hn.2 fun y hy => (List.mem_erase_of_ne fun z : y = x => hn.1 (by rw [← z]; exact hy)).mpr (hs y (List.mem_cons_of_mem _ hy))
    rw [List.length_erase_of_mem hx] at h
    have := List.length_pos_of_mem hx
    rw [List.length_cons]
    omega
theorem nodup_map_on {β : Type} {f : Nat → β} : ∀ {l : List Nat}, l.Nodup → (∀ x ∈ l, ∀ y ∈ l, f x = f y → x = y) → (l.map f).Nodup
  | [], _, _ => List.nodup_nil
  | x :: r, hn, h => by
    rw [List.nodup_cons] at hn
    rw [List.map_cons, List.nodup_cons]
    refine ⟨fun z => ?_, nodup_map_on hn.2 fun a ha b hb => h a (List.mem_cons_of_mem _ ha) b (List.mem_cons_of_mem _ hb)⟩
    obtain ⟨y, hy, e⟩ := List.mem_map.mp z
    have := h y (List.mem_cons_of_mem _ hy) x List.mem_cons_self e
    exact hn.1 (this ▸ hy)
/-- a line with less places than rounds has a free round -/
theorem tab_free {α : Type} {L : Bool → Nat → α} {P : Nat → Option Nat} {T : Bool → α → Nat → Option Nat} [DecidableEq α] (t : Tab L P T) {k m : Nat} (hk : ∀ i q, P i = some q → i < k) {s : Bool} {l : α} (hc : ((List.range k).filter fun i => decide (L s i = l)).length < m) : ∃ q, q < m ∧ T s l q = none := by
  by_cases h : ∃ q, q < m ∧ T s l q = none
  · exact h
  · exfalso
    have all : ∀ q, q < m → ∃ i, T s l q = some i := fun q hq => by
      cases hT : T s l q with
      | none => exact absurd ⟨q, hq, hT⟩ h
      | some i => exact ⟨i, rfl⟩
    have hinj : ∀ x ∈ List.range m, ∀ y ∈ List.range m, (T s l x).getD 0 = (T s l y).getD 0 → x = y := fun x hx y hy e => by
      obtain ⟨i, hi⟩ := all x (List.mem_range.mp hx)
      obtain ⟨j, hj⟩ := all y (List.mem_range.mp hy)
      rw [hi, hj] at e
      have e : i = j := e
      have h1 := ((t.tk _ _ _ _).mp hi).1
      have h2 := ((t.tk _ _ _ _).mp hj).1
      rw [e, h2] at h1
      exact (Option.some.inj h1).symm
    have := nodup_sub (nodup_map_on (f := fun q => (T s l q).getD 0) List.nodup_range hinj) (l2 := (List.range k).filter fun i => decide (L s i = l)) fun x hx => by
      obtain ⟨q, hq, rfl⟩ := List.mem_map.mp hx
      obtain ⟨i, hi⟩ := all q (List.mem_range.mp hq)
      have h1 := (t.tk _ _ _ _).mp hi
      rw [hi]
      exact List.mem_filter.mpr ⟨List.mem_range.mpr (hk _ _ h1.1), decide_eq_true h1.2⟩
    rw [List.length_map, List.length_range] at this
    omega
/-- which part of its store a place belongs to -/
def partN (m : Nat) (st : List Nat) (i : Nat) : Nat := (st.take i).count (st.getD i 0) / m
theorem take_count_lt {st : List Nat} {i j : Nat} (h : i < j) (hj : j < st.length) (e : st.getD i 0 = st.getD j 0) : (st.take i).count (st.getD i 0) < (st.take j).count (st.getD j 0) := by
  rw [← e]
  have h1 : st.take (i + 1) = st.take i ++ [st.getD i 0] := by
    rw [List.take_add_one, List.getElem?_eq_getElem (by omega : i < st.length), List.getD_eq_getElem?_getD, List.getElem?_eq_getElem (by omega : i < st.length)]
    rfl
  have h2 : (st.take (i + 1)).count (st.getD i 0) = (st.take i).count (st.getD i 0) + 1 := by
    rw [h1, List.count_append]
    simp
  have h3 : (st.take (i + 1)).count (st.getD i 0) ≤ (st.take j).count (st.getD i 0) := by
    have : (st.take (i + 1)).Sublist (st.take j) := List.take_sublist_take_left (by omega)
    exact this.count_le _
  omega
theorem count_inj {st : List Nat} {i j : Nat} (hi : i < st.length) (hj : j < st.length) (e : st.getD i 0 = st.getD j 0) (h : (st.take i).count (st.getD i 0) = (st.take j).count (st.getD j 0)) : i = j := by
  rcases Nat.lt_trichotomy i j with q | q | q
  · have := take_count_lt q hj e; omega
  · exact q
  · have := take_count_lt q hi e.symm; omega
/-- no part of a store has more than m places -/
theorem part_le {m : Nat} (hm : 0 < m) {st : List Nat} {v j : Nat} : ((List.range st.length).filter fun i => decide ((st.getD i 0, partN m st i) = (v, j))).length ≤ m := by
  have hn : ((List.range st.length).filter fun i => decide ((st.getD i 0, partN m st i) = (v, j))).Nodup := List.nodup_range.filter _
  have key : ∀ i ∈ (List.range st.length).filter fun i => decide ((st.getD i 0, partN m st i) = (v, j)), i < st.length ∧ st.getD i 0 = v ∧ (st.take i).count (st.getD i 0) / m = j := fun i hi => by
    rw [List.mem_filter, List.mem_range, decide_eq_true_eq, Prod.mk.injEq] at hi
    exact ⟨hi.1, hi.2.1, hi.2.2⟩
  have h1 := nodup_map_on (f := fun i => (st.take i).count (st.getD i 0) - j * m) hn fun x hx y hy e => by
    obtain ⟨a1, a2, a3⟩ := key x hx
    obtain ⟨b1, b2, b3⟩ := key y hy
    have a4 := Nat.div_mul_le_self ((st.take x).count (st.getD x 0)) m
    have b4 := Nat.div_mul_le_self ((st.take y).count (st.getD y 0)) m
    rw [a3] at a4
    rw [b3] at b4
    exact count_inj a1 b1 (a2.trans b2.symm) (by omega)
  have h2 := nodup_sub h1 (l2 := List.range m) fun x hx => by
    obtain ⟨i, hi, rfl⟩ := List.mem_map.mp hx
    obtain ⟨a1, a2, a3⟩ := key i hi
    have := Nat.lt_div_mul_add hm (a := (st.take i).count (st.getD i 0))
    rw [a3] at this
    exact List.mem_range.mpr (by omega)
  rw [List.length_map, List.length_range] at h2
  exact h2
theorem part_lt {m : Nat} (hm : 0 < m) {st : List Nat} {i : Nat} (hi : i < st.length) : partN m st i < (st.count (st.getD i 0) + m - 1) / m := by
  have h1 : (st.take i).count (st.getD i 0) < st.count (st.getD i 0) := by
    have e1 : (st ++ [st.getD i 0]).getD i 0 = st.getD i 0 := by rw [List.getD_eq_getElem?_getD, List.getElem?_append_left hi, List.getD_eq_getElem?_getD]
    have e2 : (st ++ [st.getD i 0]).getD st.length 0 = st.getD i 0 := by
      generalize st.getD i 0 = v
      rw [List.getD_eq_getElem?_getD, List.getElem?_append_right (Nat.le_refl _), Nat.sub_self]
      rfl
    have h := take_count_lt (st := st ++ [st.getD i 0]) (i := i) (j := st.length) hi (by simp) (by rw [e1, e2])
    rw [e1, e2, List.take_append_of_le_length (by omega), List.take_append_of_le_length (Nat.le_refl _), List.take_length] at h
    exact h
  unfold partN
  rw [Nat.div_lt_iff_lt_mul hm]
  have h2 := Nat.lt_div_mul_add hm (a := st.count (st.getD i 0) + m - 1)
  omega
/-- in a round no store has more places than parts -/
theorem round_le {m lim : Nat} (hm : 0 < m) {st : List Nat} {P : Nat → Option Nat} (hv : ∀ i j q, i < st.length → j < st.length → P i = some q → P j = some q → (st.getD i 0, partN m st i) = (st.getD j 0, partN m st j) → i = j) {q v : Nat} (hl : st.count v ≤ m * lim) :
    ((List.range st.length).filter fun i => decide (P i = some q) && decide (st.getD i 0 = v)).length ≤ lim := by
  have hn : ((List.range st.length).filter fun i => decide (P i = some q) && decide (st.getD i 0 = v)).Nodup := List.nodup_range.filter _
  have key : ∀ i ∈ (List.range st.length).filter fun i => decide (P i = some q) && decide (st.getD i 0 = v), i < st.length ∧ P i = some q ∧ st.getD i 0 = v := fun i hi => by
    rw [List.mem_filter, List.mem_range, Bool.and_eq_true, decide_eq_true_eq, decide_eq_true_eq] at hi
    exact ⟨hi.1, hi.2.1, hi.2.2⟩
  have h1 := nodup_map_on (f := partN m st) hn fun x hx y hy e => by
    obtain ⟨a1, a2, a3⟩ := key x hx
    obtain ⟨b1, b2, b3⟩ := key y hy
    exact hv x y q a1 b1 a2 b2 (by rw [a3, b3, e])
  have h2 := nodup_sub h1 (l2 := List.range lim) fun x hx => by
    obtain ⟨i, hi, rfl⟩ := List.mem_map.mp hx
    obtain ⟨a1, a2, a3⟩ := key i hi
    have h3 := part_lt hm a1
    rw [a3] at h3
    have h4 : (st.count v + m - 1) / m ≤ lim := by
      rw [Nat.div_le_iff_le_mul hm, Nat.mul_comm lim m]
      omega
    exact List.mem_range.mpr (by omega)
  rw [List.length_map, List.length_range] at h2
  exact h2
/-- the key of a line in a round -/
def lineK (row : Bool) (v j : Nat) : NestedKey := .tup [.text (if row then "row" else "column"), .num v, .num j]
def lineD (row : Bool) (v j : Nat) : Dt := .tup [.str (if row then "row" else "column"), .int (v : Int), .int (j : Int)]
def keyK (row : Bool) (v j q : Nat) : NestedKey := .tup [lineK row v j, .num q]
def keyD (row : Bool) (v j q : Nat) : Dt := .tup [lineD row v j, .int (q : Int)]
theorem nk_key {row : Bool} {v j q : Nat} : nkD (keyD row v j q) = some (keyK row v j q) := by
  simp [keyD, lineD, keyK, lineK, nkD, nkDs]
/-- the told table: the lines of its places, how many rounds, which place stands in a line in a round, the plan -/
structure TblM (P : Program) (w : World) (C : Addr) (M : Mm) (t pp tp : Addr) (ln : List Dt) (m : Nat) (pl : List Dt) (ds : List (NestedKey × Dt)) : Prop where
  ht : M t = some (.ins C [("lines", .lst ln), ("most", .int (m : Int)), ("taken", .ptr tp), ("plan", .ptr pp)])
  hp : M pp = some (.lst pl)
  hk : M tp = some (.dn P w ds)
  n1 : t ≠ pp
  n2 : t ≠ tp
  n3 : pp ≠ tp
def W_plin (P : Program) (w : World) (C : Addr) : FwP := fun M ss Q _ => ∃ (t pp tp : Addr) (ln : List Dt) (m : Nat) (pl : List Dt) (ds : List (NestedKey × Dt)) (i q rv rj cv cj : Nat), ss = [.d (.ptr t), .d (.int (i : Int)), .d (.int (q : Int))] ∧ TblM P w C M t pp tp ln m pl ds ∧
  ln[i]? = some (.tup [lineD true rv rj, lineD false cv cj]) ∧ i < pl.length ∧ ds.length ≤ 10000 ∧
  ∀ M' : Mm, M' pp = some (.lst (pl.set i (.int (q : Int)))) → M' tp = some (.dn P w (putQN (putQN ds (keyK true rv rj q) (.int (i : Int))) (keyK false cv cj q) (.int (i : Int)))) → (∀ x, x ≠ pp → x ≠ tp → M' x = M x) → Q .non M'
theorem put_len {ds : List (NestedKey × Dt)} {k : NestedKey} {d : Dt} : (putQN ds k d).length ≤ ds.length + 1 := by
  unfold putQN
  split
  · rw [List.length_map]; omega
  · rw [List.length_append]; simp
theorem atQ_put {ds : List (NestedKey × Dt)} {k k' : NestedKey} {d : Dt} : atQ (putQN ds k d) k' = if k' = k then some d else atQ ds k' := by
  unfold putQN
  split
  · rename_i h
    have key : ∀ ds : List (NestedKey × Dt), atQ (ds.map fun x => if x.1 = k then (x.1, d) else x) k' = if k' = k then (atQ ds k).map fun _ => d else atQ ds k' := fun ds => by
      induction ds with
      | nil => unfold atQ; simp
      | cons x r ih =>
        unfold atQ at ih ⊢
        rw [List.map_cons, List.find?_cons, List.find?_cons, List.find?_cons]
        by_cases e : x.1 = k
        · rw [if_pos e]
          by_cases e2 : k' = k
          · subst e2; simp [e]
          · have : ¬ x.1 = k' := fun z => e2 (z.symm.trans e)
            simp only [this, decide_false, e2, if_false] at ih ⊢
            exact ih
        · rw [if_neg e]
          by_cases e3 : x.1 = k'
          · have e2 : ¬ k' = k := fun z => e (e3.trans z)
            simp [e3, e2]
          · simp only [e3, decide_false, e] at ih ⊢
            exact ih
    rw [key]
    by_cases e : k' = k
    · rw [if_pos e, if_pos e]
      obtain ⟨y, hy⟩ := Option.isSome_iff_exists.mp h
      rw [hy]; rfl
    · rw [if_neg e, if_neg e]
  · rename_i h
    have key : ∀ ds : List (NestedKey × Dt), atQ (ds ++ [(k, d)]) k' = (atQ ds k').or (if k' = k then some d else none) := fun ds => by
      induction ds with
      | nil =>
        unfold atQ
        rw [List.nil_append, List.find?_cons]
        by_cases e : k' = k
        · simp [e]
        · simp [e, Ne.symm e]
      | cons x r ih =>
        unfold atQ at ih ⊢
        rw [List.cons_append, List.find?_cons, List.find?_cons]
        by_cases e : x.1 = k'
        · simp [e]
        · simp only [e, decide_false]
          exact ih
    rw [key]
    by_cases e : k' = k
    · subst e
      cases hq : atQ ds k' with
      | none => rw [if_pos rfl]; rfl
      | some y => rw [hq] at h; exact absurd rfl h
    · rw [if_neg e, if_neg e, Option.or_none]
theorem atQ_drop {k k' : NestedKey} : ∀ {ds : List (NestedKey × Dt)}, atQ (dropQ ds k) k' = if k' = k then none else atQ ds k'
  | [] => by unfold atQ dropQ; simp
  | x :: r => by
    have ih := atQ_drop (k := k) (k' := k') (ds := r)
    unfold atQ dropQ at ih ⊢
    rw [List.filter_cons]
    by_cases e : x.1 = k
    · rw [if_neg (by simp [e]), ih]
      by_cases e2 : k' = k
      · rw [if_pos e2, if_pos e2]
      · rw [if_neg e2, if_neg e2, List.find?_cons]
        have : ¬ x.1 = k' := fun z => e2 (z.symm.trans e)
        simp [this]
    · rw [if_pos (by simp [e]), List.find?_cons, List.find?_cons]
      by_cases e3 : x.1 = k'
      · have : ¬ k' = k := fun z => e (e3.trans z)
        simp [e3, this]
      · simp only [e3, decide_false]
        exact ih
theorem drop_len {k : NestedKey} : ∀ {ds : List (NestedKey × Dt)}, (atQ ds k).isSome = true → (dropQ ds k).length + 1 ≤ ds.length
  | [], h => by unfold atQ at h; simp at h
  | x :: r, h => by
    unfold dropQ
    rw [List.filter_cons]
    by_cases e : x.1 = k
    · rw [if_neg (by simp [e]), List.length_cons]
      have := List.length_filter_le (fun x : NestedKey × Dt => decide (x.1 ≠ k)) r
      omega
    · rw [if_pos (by simp [e]), List.length_cons, List.length_cons]
      have ih := drop_len (k := k) (ds := r) (by
        unfold atQ at h ⊢
        rw [List.find?_cons] at h
        simp only [e, decide_false] at h
        exact h)
      unfold dropQ at ih
      omega
theorem keyK_inj {s s' : Bool} {v j q v' j' q' : Nat} : keyK s v j q = keyK s' v' j' q' ↔ s = s' ∧ v = v' ∧ j = j' ∧ q = q' := by
  constructor
  · intro h
    unfold keyK lineK at h
    injection h with h
    injection h with h1 h2
    injection h1 with h1
    injection h1 with h1 h3
    injection h3 with h3 h4
    injection h4 with h4 _
    injection h2 with h2 _
    injection h2 with h2
    injection h3 with h3
    injection h4 with h4
    injection h1 with h1
    refine ⟨?_, by omega, by omega, by omega⟩
    cases s <;> cases s' <;> first | rfl | exact absurd h1 (by decide)
  · rintro ⟨rfl, rfl, rfl, rfl⟩; rfl
abbrev LnF := Bool → Nat → Nat × Nat
/-- what stands in the dict: for each place of D its two lines in its round -/
def Rep (L : LnF) (ds : List (NestedKey × Dt)) (D : Nat → Option Nat) : Prop :=
  ∀ (s : Bool) (v j q : Nat) (d : Dt), atQ ds (keyK s v j q) = some d ↔ ∃ i : Nat, d = .int (i : Int) ∧ D i = some q ∧ L s i = (v, j)
def Val (L : LnF) (D : Nat → Option Nat) : Prop := ∀ s i j q, D i = some q → D j = some q → L s i = L s j → i = j
theorem Val.sub {L : LnF} {D D' : Nat → Option Nat} (h : Val L D) (k : ∀ x q, D' x = some q → D x = some q) : Val L D' := fun s i j q h1 h2 h3 => h s i j q (k i q h1) (k j q h2) h3
theorem rep_put {L : LnF} {ds : List (NestedKey × Dt)} {D : Nat → Option Nat} {i q : Nat} (r : Rep L ds D) (h0 : D i = none) (hv : Val L fun x => if x = i then some q else D x) :
    Rep L (putQN (putQN ds (keyK true (L true i).1 (L true i).2 q) (.int (i : Int))) (keyK false (L false i).1 (L false i).2 q) (.int (i : Int))) fun x => if x = i then some q else D x := by
  intro s v j q' d
  rw [atQ_put, atQ_put]
  have own : ∀ s : Bool, (some (Dt.int (i : Int)) = some d ↔ ∃ i' : Nat, d = .int (i' : Int) ∧ (if i' = i then some q else D i') = some q ∧ L s i' = ((L s i).1, (L s i).2)) := fun s => by
    refine ⟨fun h => ⟨i, (Option.some.inj h).symm, if_pos rfl, rfl⟩, ?_⟩
    rintro ⟨i', rfl, h1, h2⟩
    have : i' = i := hv s i' i q h1 (if_pos rfl) h2
    rw [this]
  by_cases e1 : keyK s v j q' = keyK false (L false i).1 (L false i).2 q
  · rw [if_pos e1]
    obtain ⟨rfl, rfl, rfl, rfl⟩ := keyK_inj.mp e1
    exact own false
  · rw [if_neg e1]
    by_cases e2 : keyK s v j q' = keyK true (L true i).1 (L true i).2 q
    · rw [if_pos e2]
      obtain ⟨rfl, rfl, rfl, rfl⟩ := keyK_inj.mp e2
      exact own true
    · rw [if_neg e2, r s v j q' d]
      refine exists_congr fun i' => and_congr_right fun _ => ?_
      dsimp only
      by_cases e : i' = i
      · subst e
        rw [if_pos rfl, h0]
        refine ⟨fun z => (nomatch z.1), fun z => ?_⟩
        obtain ⟨z1, z2⟩ := z
        cases z1
        cases s with
        | true => exact absurd (keyK_inj.mpr ⟨rfl, by rw [z2], by rw [z2], rfl⟩) e2
        | false => exact absurd (keyK_inj.mpr ⟨rfl, by rw [z2], by rw [z2], rfl⟩) e1
      · rw [if_neg e]
theorem rep_drop {L : LnF} {ds : List (NestedKey × Dt)} {D : Nat → Option Nat} {i q : Nat} (r : Rep L ds D) (h0 : D i = some q) (hv : Val L D) :
    Rep L (dropQ (dropQ ds (keyK true (L true i).1 (L true i).2 q)) (keyK false (L false i).1 (L false i).2 q)) fun x => if x = i then none else D x := by
  intro s v j q' d
  rw [atQ_drop, atQ_drop]
  have own : ∀ s : Bool, ((none : Option Dt) = some d ↔ ∃ i' : Nat, d = .int (i' : Int) ∧ (if i' = i then none else D i') = some q ∧ L s i' = ((L s i).1, (L s i).2)) := fun s => by
    refine ⟨fun h => (nomatch h), ?_⟩
    rintro ⟨i', rfl, h1, h2⟩
    by_cases e : i' = i
    · rw [if_pos e] at h1; cases h1
    · rw [if_neg e] at h1
      exact absurd (hv s i' i q h1 h0 h2) e
  by_cases e1 : keyK s v j q' = keyK false (L false i).1 (L false i).2 q
  · rw [if_pos e1]
    obtain ⟨rfl, rfl, rfl, rfl⟩ := keyK_inj.mp e1
    exact own false
  · rw [if_neg e1]
    by_cases e2 : keyK s v j q' = keyK true (L true i).1 (L true i).2 q
    · rw [if_pos e2]
      obtain ⟨rfl, rfl, rfl, rfl⟩ := keyK_inj.mp e2
      exact own true
    · rw [if_neg e2, r s v j q' d]
      refine exists_congr fun i' => and_congr_right fun _ => ?_
      dsimp only
      by_cases e : i' = i
      · subst e
        rw [if_pos rfl, h0]
        refine ⟨fun z => ?_, fun z => (nomatch z.1)⟩
        obtain ⟨z1, z2⟩ := z
        cases z1
        cases s with
        | true => exact absurd (keyK_inj.mpr ⟨rfl, by rw [z2], by rw [z2], rfl⟩) e2
        | false => exact absurd (keyK_inj.mpr ⟨rfl, by rw [z2], by rw [z2], rfl⟩) e1
      · rw [if_neg e]
/-- both keys of a place of D are there -/
theorem Rep.has {L : LnF} {ds : List (NestedKey × Dt)} {D : Nat → Option Nat} {i q : Nat} (r : Rep L ds D) (h0 : D i = some q) (s : Bool) : atQ ds (keyK s (L s i).1 (L s i).2 q) = some (.int (i : Int)) := (r s _ _ q _).mpr ⟨i, rfl, h0, rfl⟩
def decI : Option Dt → Option Nat
  | some (.int i) => some i.toNat
  | _ => none
def repT (ds : List (NestedKey × Dt)) (s : Bool) (l : Nat × Nat) (q : Nat) : Option Nat := decI (atQ ds (keyK s l.1 l.2 q))
theorem rep_tab {L : LnF} {ds : List (NestedKey × Dt)} {D : Nat → Option Nat} (r : Rep L ds D) (hv : Val L D) : Tab L D (repT ds) := by
  refine ⟨hv, fun s l q i => ?_⟩
  obtain ⟨v, j⟩ := l
  unfold repT
  have h := r s v j q
  cases hq : atQ ds (keyK s v j q) with
  | none =>
    refine ⟨fun z => (nomatch (show (none : Option Nat) = some i from z)), fun ⟨h1, h2⟩ => ?_⟩
    have := (h (.int (i : Int))).mpr ⟨i, rfl, h1, h2⟩
    rw [hq] at this; cases this
  | some d =>
    obtain ⟨i', rfl, h1, h2⟩ := (h d).mp hq
    constructor
    · intro z
      have z : some ((i' : Int).toNat) = some i := z
      rw [Int.toNat_natCast] at z
      cases z
      exact ⟨h1, h2⟩
    · rintro ⟨h3, h4⟩
      have := hv s i' i q h1 h3 (h2.trans h4.symm)
      subst this
      show some ((i' : Int).toNat) = _
      rw [Int.toNat_natCast]
theorem repT_at {L : LnF} {ds : List (NestedKey × Dt)} {D : Nat → Option Nat} (r : Rep L ds D) {s : Bool} {l : Nat × Nat} {q : Nat} : (∀ d, atQ ds (keyK s l.1 l.2 q) = some d → ∃ i : Nat, d = .int (i : Int) ∧ repT ds s l q = some i) ∧ (atQ ds (keyK s l.1 l.2 q) = none ↔ repT ds s l q = none) := by
  constructor
  · intro d h
    obtain ⟨i, rfl, _, _⟩ := (r _ _ _ _ _).mp h
    exact ⟨i, rfl, by unfold repT; rw [h]; show some ((i : Int).toNat) = _; rw [Int.toNat_natCast]⟩
  · unfold repT
    cases h : atQ ds (keyK s l.1 l.2 q) with
    | none => exact ⟨fun _ => rfl, fun _ => rfl⟩
    | some d =>
      obtain ⟨i, rfl, _, _⟩ := (r _ _ _ _ _).mp h
      exact ⟨fun z => (nomatch z), fun z => (nomatch z)⟩
/-- while the way is taken out, and put back exchanged -/
def dropW (D : Nat → Option Nat) (u : List Nat) (x : Nat) : Option Nat := if x ∈ u then none else D x
def backW (D : Nat → Option Nat) (a b : Nat) (w u : List Nat) (x : Nat) : Option Nat := if x ∈ w then (if x ∈ u then swpP D a b w x else none) else D x
def planW (D : Nat → Option Nat) (a b : Nat) (w u : List Nat) (x : Nat) : Option Nat := if x ∈ u then swpP D a b w x else D x
theorem dropW_snoc {D : Nat → Option Nat} {u : List Nat} {e : Nat} : dropW D (u ++ [e]) = fun x => if x = e then none else dropW D u x := by
  funext x
  unfold dropW
  by_cases h : x = e
  · subst h; simp
  · by_cases h2 : x ∈ u <;> simp [h, h2]
theorem backW_snoc {D : Nat → Option Nat} {a b : Nat} {w u : List Nat} {e q : Nat} (he : e ∈ w) (hq : D e = some q) : backW D a b w (u ++ [e]) = fun x => if x = e then some (a + b - q) else backW D a b w u x := by
  funext x
  unfold backW
  by_cases h : x = e
  · subst h
    rw [if_pos he, if_pos (by simp), if_pos rfl]
    unfold swpP
    rw [if_pos he, hq]; rfl
  · by_cases h2 : x ∈ u <;> simp [h, h2]
theorem planW_snoc {D : Nat → Option Nat} {a b : Nat} {w u : List Nat} {e q : Nat} (he : e ∈ w) (hq : D e = some q) : planW D a b w (u ++ [e]) = fun x => if x = e then some (a + b - q) else planW D a b w u x := by
  funext x
  unfold planW
  by_cases h : x = e
  · subst h
    rw [if_pos (by simp), if_pos rfl]
    unfold swpP
    rw [if_pos he, hq]; rfl
  · by_cases h2 : x ∈ u <;> simp [h, h2]
theorem back_nil {D : Nat → Option Nat} {a b : Nat} {w : List Nat} : backW D a b w [] = dropW D w := by
  funext x; unfold backW dropW; simp
theorem back_all {D : Nat → Option Nat} {a b : Nat} {w : List Nat} : backW D a b w w = swpP D a b w := by
  funext x; unfold backW
  by_cases h : x ∈ w
  · rw [if_pos h, if_pos h]
  · rw [if_neg h]; unfold swpP; rw [if_neg h]
theorem plan_all {D : Nat → Option Nat} {a b : Nat} {w : List Nat} : planW D a b w w = swpP D a b w := by
  funext x; unfold planW
  by_cases h : x ∈ w
  · rw [if_pos h]
  · rw [if_neg h]; unfold swpP; rw [if_neg h]
theorem plan_nil {D : Nat → Option Nat} {a b : Nat} {w : List Nat} : planW D a b w [] = D := by funext x; unfold planW; simp
theorem backW_le {D : Nat → Option Nat} {a b : Nat} {w u : List Nat} {x q : Nat} (h : backW D a b w u x = some q) : swpP D a b w x = some q := by
  unfold backW at h
  by_cases h1 : x ∈ w
  · rw [if_pos h1] at h
    by_cases h2 : x ∈ u
    · rw [if_pos h2] at h; exact h
    · rw [if_neg h2] at h; cases h
  · rw [if_neg h1] at h
    unfold swpP; rw [if_neg h1]; exact h
theorem dropW_le {D : Nat → Option Nat} {u : List Nat} {x q : Nat} (h : dropW D u x = some q) : D x = some q := by
  unfold dropW at h
  by_cases h1 : x ∈ u
  · rw [if_pos h1] at h; cases h
  · rw [if_neg h1] at h; exact h
/-! a step is one only -/
theorem Pre.cmp {α : Type} {L : Bool → Nat → α} {T : Bool → α → Nat → Option Nat} {a b : Nat} {c : α} {w1 : List Nat} {s1 : Bool} {l1 : α} {q1 : Nat} (h1 : Pre L T a b c w1 s1 l1 q1) : ∀ {w2 : List Nat} {s2 : Bool} {l2 : α} {q2 : Nat}, Pre L T a b c w2 s2 l2 q2 → w1.length = w2.length → w1 = w2 ∧ s1 = s2 ∧ l1 = l2 ∧ q1 = q2 := by
  induction h1 with
  | start =>
    intro w2 s2 l2 q2 h2 hl
    cases h2 with
    | start => exact ⟨rfl, rfl, rfl, rfl⟩
    | step _ _ => simp at hl
  | @step w s l q e g1 g2 ih =>
    intro w2 s2 l2 q2 h2 hl
    cases h2 with
    | start => simp at hl
    | @step w' s' l' q' e' k1 k2 =>
      obtain ⟨rfl, rfl, rfl, rfl⟩ := ih k1 (by simpa using hl)
      rw [g2] at k2
      cases k2
      exact ⟨rfl, rfl, rfl, rfl⟩
theorem Pre.det {α : Type} {L : Bool → Nat → α} {T : Bool → α → Nat → Option Nat} {a b : Nat} {c : α} {w1 w2 : List Nat} {s1 s2 : Bool} {l1 l2 : α} {q1 q2 : Nat} (h1 : Pre L T a b c w1 s1 l1 q1) (e1 : T s1 l1 q1 = none) (h2 : Pre L T a b c w2 s2 l2 q2) (e2 : T s2 l2 q2 = none) : w1 = w2 := by
  have no : ∀ {w1 w2 : List Nat} {s1 s2 : Bool} {l1 l2 : α} {q1 q2 : Nat}, Pre L T a b c w1 s1 l1 q1 → T s1 l1 q1 = none → Pre L T a b c w2 s2 l2 q2 → ¬ w1.length < w2.length := fun {w1 w2 s1 s2 l1 l2 q1 q2} h1 e1 h2 hl => by
    obtain ⟨s', l', q', k1, k2⟩ := h2.upto (w2.take w1.length) (w2.drop (w1.length + 1)) w2[w1.length] (by
      rw [List.getElem_cons_drop, List.take_append_drop])
    obtain ⟨_, rfl, rfl, rfl⟩ := h1.cmp k1 (by rw [List.length_take]; omega)
    rw [e1] at k2; cases k2
  exact (h1.cmp h2 (by have := no h1 e1 h2; have := no h2 e2 h1; omega)).1
def StepR (L : LnF) (m : Nat) (D : Nat → Option Nat) (k : Nat) (D' : Nat → Option Nat) : Prop := ∃ (T : Bool → Nat × Nat → Nat → Option Nat) (a b : Nat) (w : List Nat) (s : Bool) (l : Nat × Nat) (q : Nat), Tab L D T ∧
  (a < m ∧ T true (L true k) a = none ∧ ∀ x, x < a → T true (L true k) x ≠ none) ∧ (b < m ∧ T false (L false k) b = none ∧ ∀ x, x < b → T false (L false k) x ≠ none) ∧
  Pre L T a b (L false k) w s l q ∧ T s l q = none ∧ D' = fun x => if x = k then some a else swpP D a b w x
theorem StepR.det {L : LnF} {m k : Nat} {D D1 D2 : Nat → Option Nat} (h1 : StepR L m D k D1) (h2 : StepR L m D k D2) : D1 = D2 := by
  obtain ⟨T, a, b, w, s, l, q, t, ⟨_, a1, a2⟩, ⟨_, b1, b2⟩, hp, he, rfl⟩ := h1
  obtain ⟨T', a', b', w', s', l', q', t', ⟨_, a1', a2'⟩, ⟨_, b1', b2'⟩, hp', he', rfl⟩ := h2
  have hT : T = T' := by
    funext s l q
    refine Option.ext fun i => ?_
    rw [t.tk, t'.tk]
  subst hT
  have ha : a = a' := by
    rcases Nat.lt_trichotomy a a' with z | z | z
    · exact absurd a1 (a2' a z)
    · exact z
    · exact absurd a1' (a2 a' z)
  have hb : b = b' := by
    rcases Nat.lt_trichotomy b b' with z | z | z
    · exact absurd b1 (b2' b z)
    · exact z
    · exact absurd b1' (b2 b' z)
  subst ha hb
  rw [hp.det he hp' he']
inductive Reach (L : LnF) (m : Nat) : Nat → (Nat → Option Nat) → Prop
  | zero : Reach L m 0 fun _ => none
  | step {k : Nat} {D D' : Nat → Option Nat} : Reach L m k D → StepR L m D k D' → Reach L m (k + 1) D'
theorem Reach.det {L : LnF} {m k : Nat} {D D' : Nat → Option Nat} (h : Reach L m k D) (h' : Reach L m k D') : D = D' := by
  induction h generalizing D' with
  | zero => cases h'; rfl
  | step h1 h2 ih =>
    cases h' with
    | step g1 g2 =>
      have := ih g1
      subst this
      exact h2.det g2
/-- what is so of the places ahead of k -/
structure Full (L : LnF) (m k : Nat) (D : Nat → Option Nat) : Prop where
  val : Val L D
  lt : ∀ x q, D x = some q → x < k ∧ q < m
  has : ∀ x, x < k → ∃ q, D x = some q
theorem swp_lt {L : LnF} {m k : Nat} {D : Nat → Option Nat} {T : Bool → Nat × Nat → Nat → Option Nat} {a b : Nat} {c : Nat × Nat} {w : List Nat} {s : Bool} {l : Nat × Nat} {q : Nat} (t : Tab L D T) (f : Full L m k D) (h : Pre L T a b c w s l q) (ha : a < m) (hb : b < m) : ∀ x r, swpP D a b w x = some r → x < k ∧ r < m := by
  intro x r hx
  unfold swpP at hx
  by_cases hw : x ∈ w
  · rw [if_pos hw] at hx
    cases hq : D x with
    | none => rw [hq] at hx; cases hx
    | some qx =>
      rw [hq] at hx
      have hx : a + b - qx = r := Option.some.inj hx
      have hc := h.col t x hw
      rw [hq] at hc
      refine ⟨(f.lt x qx hq).1, ?_⟩
      rcases hc with z | z <;> (have z := Option.some.inj z; omega)
  · rw [if_neg hw] at hx
    exact f.lt x r hx
theorem Full.step {L : LnF} {m k : Nat} {D D' : Nat → Option Nat} (f : Full L m k D) (h : StepR L m D k D') : Full L m (k + 1) D' := by
  obtain ⟨T, a, b, w, s, l, q, t, ⟨a0, a1, a2⟩, ⟨b0, b1, b2⟩, hp, he, rfl⟩ := h
  have hb : ∀ i, D i = some b → L false i ≠ L false k := fun i h1 h2 => by
    have := (t.tk false (L false k) b i).mpr ⟨h1, h2⟩
    rw [b1] at this; cases this
  have ha : ∀ i, D i = some a → L true i ≠ L true k := fun i h1 h2 => by
    have := (t.tk true (L true k) a i).mpr ⟨h1, h2⟩
    rw [a1] at this; cases this
  obtain ⟨f1, f2⟩ := swap_free (ro := L true k) t hb ha hp he
  have hv := swap_val t hb hp he
  have hl := swp_lt t f hp a0 b0
  refine ⟨fun s i j r h1 h2 h3 => ?_, fun x r h => ?_, fun x hx => ?_⟩
  · have key : ∀ i, i ≠ k → swpP D a b w i = some a → L s i ≠ L s k := fun i hi h => by
      cases s with
      | true => exact f2 i h
      | false => exact f1 i h
    by_cases hi : i = k
    · by_cases hj : j = k
      · rw [hi, hj]
      · rw [if_pos hi] at h1
        rw [if_neg hj] at h2
        cases h1
        exact absurd (h3.symm.trans (by rw [hi])) (key j hj h2)
    · by_cases hj : j = k
      · rw [if_pos hj] at h2
        rw [if_neg hi] at h1
        cases h2
        exact absurd (h3.trans (by rw [hj])) (key i hi h1)
      · rw [if_neg hi] at h1
        rw [if_neg hj] at h2
        exact hv s i j r h1 h2 h3
  · by_cases e : x = k
    · rw [if_pos e] at h
      cases h
      exact ⟨by omega, a0⟩
    · rw [if_neg e] at h
      have := hl x r h
      exact ⟨by omega, this.2⟩
  · by_cases e : x = k
    · exact ⟨a, if_pos e⟩
    · obtain ⟨q, hq⟩ := f.has x (by omega)
      rw [if_neg e]
      unfold swpP
      by_cases hw : x ∈ w
      · rw [if_pos hw, hq]; exact ⟨_, rfl⟩
      · rw [if_neg hw]; exact ⟨q, hq⟩
theorem Reach.full {L : LnF} {m k : Nat} {D : Nat → Option Nat} (h : Reach L m k D) : Full L m k D := by
  induction h with
  | zero => exact ⟨fun _ _ _ _ z => (nomatch z), fun _ _ z => (nomatch z), fun x h => absurd h (Nat.not_lt_zero x)⟩
  | step _ h2 ih => exact ih.step h2
/-- the rounds that the program finds -/
noncomputable def planF (L : LnF) (m n : Nat) (i : Nat) : Nat := by
  classical exact if h : ∃ D, Reach L m n D then (Classical.choose h i).getD 0 else 0
theorem planF_eq {L : LnF} {m n : Nat} {D : Nat → Option Nat} (h : Reach L m n D) {i : Nat} (hi : i < n) : D i = some (planF L m n i) := by
  classical
  have hx : ∃ D, Reach L m n D := ⟨D, h⟩
  have e : Classical.choose hx = D := (Classical.choose_spec hx).det h
  obtain ⟨q, hq⟩ := h.full.has i hi
  unfold planF
  rw [dif_pos hx, e, hq]; rfl
def W_free (P : Program) (w : World) (C : Addr) : FwP := fun M ss Q _ => ∃ (t pp tp : Addr) (ln : List Dt) (m : Nat) (pl : List Dt) (ds : List (NestedKey × Dt)) (row : Bool) (v j : Nat), ss = [.d (.ptr t), .d (lineD row v j)] ∧ TblM P w C M t pp tp ln m pl ds ∧ m ≤ 100000 ∧
  (∃ q, q < m ∧ atQ ds (keyK row v j q) = none) ∧ ∀ q : Nat, q < m → atQ ds (keyK row v j q) = none → (∀ x, x < q → atQ ds (keyK row v j x) ≠ none) → Q (.int (q : Int)) M
def freeD (ds : List (NestedKey × Dt)) (row : Bool) (v j : Nat) : Dt → Bool
  | .int i => !(atQ ds (keyK row v j i.toNat)).isSome
  | _ => false
theorem ne_frT {M : Mm} {x p : Addr} (hx : M x ≠ none) (hp : M p = none) : x ≠ p := fun z => hx (by rw [z]; exact hp)
def opD (o : Option Nat) : Dt := match o with | none => Dt.non | some s => Dt.int (s : Int)
def natT (l : List Nat) : List Dt := l.map fun i : Nat => Dt.int (i : Int)
theorem natT_snoc {l : List Nat} {v : Nat} : natT l ++ [Dt.int (v : Int)] = natT (l ++ [v]) := by unfold natT; rw [List.map_append]; rfl
theorem natT_len {l : List Nat} : (natT l).length = l.length := by unfold natT; rw [List.length_map]
theorem natT_get {l : List Nat} {k : Nat} {d : Dt} (h : (natT l)[k]? = some d) : ∃ v, l[k]? = some v ∧ d = .int (v : Int) := by
  unfold natT at h
  rw [List.getElem?_map] at h
  cases e : l[k]? with
  | none => rw [e] at h; cases h
  | some v => rw [e] at h; cases h; exact ⟨v, rfl, rfl⟩
def lnD (L : LnF) (n : Nat) : List Dt := (List.range n).map fun i => .tup [lineD true (L true i).1 (L true i).2, lineD false (L false i).1 (L false i).2]
def plD (D : Nat → Option Nat) (n : Nat) : List Dt := (List.range n).map fun i => opD (D i)
theorem lnD_at {L : LnF} {n i : Nat} (h : i < n) : (lnD L n)[i]? = some (.tup [lineD true (L true i).1 (L true i).2, lineD false (L false i).1 (L false i).2]) := by
  unfold lnD
  rw [List.getElem?_map, List.getElem?_range h]; rfl
theorem plD_at {D : Nat → Option Nat} {n i : Nat} (h : i < n) : (plD D n)[i]? = some (opD (D i)) := by
  unfold plD
  rw [List.getElem?_map, List.getElem?_range h]; rfl
theorem plD_len {D : Nat → Option Nat} {n : Nat} : (plD D n).length = n := by unfold plD; simp
theorem plD_set {D : Nat → Option Nat} {n i q : Nat} : (plD D n).set i (.int (q : Int)) = plD (fun x => if x = i then some q else D x) n := by
  refine List.ext_getElem? fun j => ?_
  unfold plD
  by_cases e : i = j
  · subst e
    by_cases h : i < n
    · rw [List.getElem?_set_self (by simp; exact h), List.getElem?_map, List.getElem?_range h]
      show _ = some (opD (if i = i then some q else D i))
      rw [if_pos rfl]; rfl
    · rw [List.getElem?_eq_none (by simp; omega), List.getElem?_eq_none (by simp; omega)]
  · rw [List.getElem?_set_ne e, List.getElem?_map, List.getElem?_map]
    by_cases h : j < n
    · rw [List.getElem?_range h]
      show _ = some (opD (if j = i then some q else D j))
      rw [if_neg (Ne.symm e)]; rfl
    · rw [List.getElem?_eq_none (by simp; omega)]; rfl
theorem nk_depth {row : Bool} {v j q : Nat} : (keyK row v j q).depth ≤ 8 := by simp [keyK, lineK, NestedKey.depth, NestedKey.depthAll]
theorem eqLine_same {s : Bool} {v j : Nat} : eqDD (lineD s v j) (lineD s v j) = true := eqDD_refl (n := 3) (by cases s <;> exact flat_of_B rfl)
theorem eqLine_not {v j v' j' : Nat} : eqDD (lineD false v j) (lineD true v' j') = false := by
  simp only [lineD, eqDD, pyD, pyDs, PyData.eqv, PyData.eqvAll]
  have h : ((if false = true then Str.ofString "row" else Str.ofString "column") == if True then Str.ofString "row" else Str.ofString "column") = false := by decide +kernel
  rw [h, Bool.false_and]
theorem shaped_line {s : Bool} {v j : Nat} : shapedD (lineD s v j) = true := by
  refine shaped_of (n := 3) (by cases s <;> exact flat_of_B rfl) (by decide) ?_
  cases s <;> simp [lineD, txtD, txtDs] <;> decide +kernel
def W_exch (P : Program) (w0 : World) (C : Addr) : FwP := fun M ss Q _ => ∃ (t pp tp : Addr) (L : LnF) (n m : Nat) (D : Nat → Option Nat) (ds : List (NestedKey × Dt)) (k a b : Nat), ss = [.d (.ptr t), .d (lineD false (L false k).1 (L false k).2), .d (.int (a : Int)), .d (.int (b : Int))] ∧
  TblM P w0 C M t pp tp (lnD L n) m (plD D n) ds ∧ Rep L ds D ∧ Full L m k D ∧ k ≤ n ∧ n ≤ 1000 ∧ ds.length ≤ 2 * n ∧ repT ds false (L false k) b = none ∧
  ∀ (M' : Mm) (ds' : List (NestedKey × Dt)) (w : List Nat) (s : Bool) (l : Nat × Nat) (q : Nat), Pre L (repT ds) a b (L false k) w s l q → repT ds s l q = none → TblM P w0 C M' t pp tp (lnD L n) m (plD (swpP D a b w) n) ds' → Rep L ds' (swpP D a b w) → ds'.length ≤ ds.length →
    (∀ x, M x ≠ none → x ≠ pp → x ≠ tp → M' x = M x) → Q .non M'
/-- no line of more than m places -/
def LineOk (L : LnF) (n m : Nat) : Prop := ∀ (s : Bool) (l : Nat × Nat), ((List.range n).filter fun i => decide (L s i = l)).length ≤ m
def TblS (P : Program) (w : World) (C : Addr) (M : Mm) (t pp tp : Addr) (L : LnF) (n m k : Nat) (D : Nat → Option Nat) : Prop := ∃ ds, TblM P w C M t pp tp (lnD L n) m (plD D n) ds ∧ Rep L ds D ∧ ds.length ≤ 2 * k ∧ Reach L m k D
def W_tput (P : Program) (w0 : World) (C : Addr) : FwP := fun M ss Q _ => ∃ (t pp tp : Addr) (L : LnF) (n m k : Nat) (D : Nat → Option Nat), ss = [.d (.ptr t), .d (.int (k : Int))] ∧ TblS P w0 C M t pp tp L n m k D ∧ k < n ∧ n ≤ 1000 ∧ m ≤ 1000 ∧ LineOk L n m ∧
  ∀ (M' : Mm) (D' : Nat → Option Nat), TblS P w0 C M' t pp tp L n m (k + 1) D' → (∀ x, M x ≠ none → x ≠ pp → x ≠ tp → M' x = M x) → Q .non M'
theorem line_free {L : LnF} {D : Nat → Option Nat} {T : Bool → Nat × Nat → Nat → Option Nat} {n m k : Nat} (t : Tab L D T) (f : Full L m k D) (hk : k < n) (hl : LineOk L n m) (s : Bool) : ∃ q, q < m ∧ T s (L s k) q = none := by
  refine tab_free t (k := k) (fun i q h => (f.lt i q h).1) ?_
  have h1 := hl s (L s k)
  have h2 : ((List.range k).filter fun i => decide (L s i = L s k)).length + 1 ≤ ((List.range n).filter fun i => decide (L s i = L s k)).length := by
    have e : ((List.range (k + 1)).filter fun i => decide (L s i = L s k)).length = ((List.range k).filter fun i => decide (L s i = L s k)).length + 1 := by
      rw [List.range_succ, List.filter_append, List.length_append]
      simp
    rw [← e]
    have : (List.range (k + 1)).Sublist (List.range n) := List.range_sublist.mpr hk
    exact (this.filter _).length_le
  omega
def LnC (rs cs : List (Nat × Nat)) : LnF := fun s i => (if s then rs else cs).getD i (0, 0)
def W_tinit (P : Program) (w0 : World) (C : Addr) : FwP := fun M ss Q _ => ∃ (t : Addr) (rs cs : List (Nat × Nat)) (m : Nat), ss = [.d (.ptr t), .d (.lst (pairsD rs)), .d (.lst (pairsD cs)), .d (.int (m : Int))] ∧ M t = some (.ins C []) ∧ rs.length = cs.length ∧ rs.length ≤ 1000 ∧
  ∀ (M' : Mm) (pp tp : Addr), M pp = none → M tp = none → (∀ x, M x ≠ none → x ≠ t → M' x = M x) → TblM P w0 C M' t pp tp (lnD (LnC rs cs) rs.length) m (plD (fun _ => none) rs.length) [] → Q .non M'
theorem pairsD_tat {ps : List (Nat × Nat)} {k : Nat} {q : Nat × Nat} (h : ps[k]? = some q) : (pairsD ps)[k]? = some (pairD (.int (q.1 : Int)) (.int (q.2 : Int))) := by
  unfold pairsD
  rw [List.getElem?_map, h]
  rfl
def needN (ls st : List Nat) : Nat := mxN ((List.range ls.length).map fun v => upN (st.count v) (ls.getD v 0))
def W_rneed : Fw := fun ss P => ∃ (ls st : List Nat), ss = [.d (lotD ls), .d (.lst (natsD st))] ∧ 0 < ls.length ∧ ls.length ≤ 1000 ∧ (∀ r ∈ ls, 0 < r ∧ r ≤ 1000) ∧ P (.int (needN ls st : Nat))
def partL (m : Nat) (st : List Nat) : List (Nat × Nat) := (List.range st.length).map fun i => (st.getD i 0, partN m st i)
def W_parted : Fw := fun ss P => ∃ (st : List Nat) (m : Nat), ss = [.d (.lst (natsD st)), .d (.int (m : Int))] ∧ st.length ≤ 1000 ∧ m ≤ 1000 ∧ (st ≠ [] → 0 < m) ∧ P (.lst (pairsD (partL m st)))
def rndsN (lv en : List Nat) (ps : List (Nat × Nat)) : Nat := max (needN lv (ps.map (·.1))) (needN en (ps.map (·.2)))
def tlnN (lv en : List Nat) (ps : List (Nat × Nat)) : LnF := LnC (partL (rndsN lv en ps) (ps.map (·.1))) (partL (rndsN lv en ps) (ps.map (·.2)))
noncomputable def tplanN (lv en : List Nat) (ps : List (Nat × Nat)) : List Nat := (List.range ps.length).map (planF (tlnN lv en ps) (rndsN lv en ps) ps.length)
theorem partL_len {m : Nat} {st : List Nat} : (partL m st).length = st.length := by unfold partL; simp
theorem partL_at {m : Nat} {st : List Nat} {i : Nat} (h : i < st.length) : (partL m st).getD i (0, 0) = (st.getD i 0, partN m st i) := by
  unfold partL
  rw [List.getD_eq_getElem?_getD, List.getElem?_map, List.getElem?_range h]; rfl
theorem upT_le {a b B : Nat} (h : 0 < b) : upN a b ≤ B ↔ a ≤ B * b := by
  unfold upN
  rw [Nat.div_le_iff_le_mul h, Nat.mul_comm]
  omega
theorem need_ge {ls st : List Nat} {v : Nat} (hv : v < ls.length) (h0 : 0 < ls.getD v 0) : st.count v ≤ needN ls st * ls.getD v 0 := by
  rw [← upT_le h0]
  exact mxN_le _ (List.mem_map.mpr ⟨v, List.mem_range.mpr hv, rfl⟩)
theorem need_le {ls st : List Nat} {B : Nat} (h : ∀ v, v < ls.length → 0 < ls.getD v 0 ∧ st.count v ≤ B * ls.getD v 0) : needN ls st ≤ B := by
  by_cases hn : (List.range ls.length).map (fun v => upN (st.count v) (ls.getD v 0)) = []
  · unfold needN; rw [hn]; exact Nat.zero_le _
  · obtain ⟨v, hv, e⟩ := List.mem_map.mp (mxN_mem hn)
    unfold needN
    rw [← e]
    have hv := List.mem_range.mp hv
    exact (upT_le (h v hv).1).mpr (h v hv).2
theorem getD_pos {ls : List Nat} (h : ∀ r ∈ ls, 0 < r ∧ r ≤ 1000) {v : Nat} (hv : v < ls.length) : 0 < ls.getD v 0 ∧ ls.getD v 0 ≤ 1000 := by
  rw [List.getD_eq_getElem?_getD, List.getElem?_eq_getElem hv]
  exact h _ (List.getElem_mem hv)
/-- a plan of so many rounds in which no store gives or takes too often -/
structure PlanOk (lv en : List Nat) (ps : List (Nat × Nat)) (pl : List Nat) : Prop where
  len : pl.length = ps.length
  lt : ∀ q ∈ pl, q < rndsN lv en ps
  c1 : ∀ q v, v < lv.length → ((List.range ps.length).filter fun i => decide (pl.getD i 0 = q) && decide ((ps.getD i (0, 0)).1 = v)).length ≤ lv.getD v 0
  c2 : ∀ q v, v < en.length → ((List.range ps.length).filter fun i => decide (pl.getD i 0 = q) && decide ((ps.getD i (0, 0)).2 = v)).length ≤ en.getD v 0
theorem getD_map1 {ps : List (Nat × Nat)} {i : Nat} : (ps.map (·.1)).getD i 0 = (ps.getD i (0, 0)).1 := by
  rw [List.getD_eq_getElem?_getD, List.getD_eq_getElem?_getD, List.getElem?_map]
  cases ps[i]? <;> rfl
theorem getD_map2 {ps : List (Nat × Nat)} {i : Nat} : (ps.map (·.2)).getD i 0 = (ps.getD i (0, 0)).2 := by
  rw [List.getD_eq_getElem?_getD, List.getD_eq_getElem?_getD, List.getElem?_map]
  cases ps[i]? <;> rfl
theorem rnds_pos {lv en : List Nat} {ps : List (Nat × Nat)} (hok : OkP lv.length ps) (hr : ∀ r ∈ lv, 0 < r ∧ r ≤ 1000) (h : ps ≠ []) : 0 < rndsN lv en ps := by
  obtain ⟨q, r, rfl⟩ := List.exists_cons_of_ne_nil h
  have hq := (hok q List.mem_cons_self).1
  have h1 := need_ge (st := ((q :: r).map (·.1))) hq (getD_pos hr hq).1
  have h2 : 0 < (((q :: r).map (·.1))).count q.1 := List.count_pos_iff.mpr (by simp)
  unfold rndsN
  refine Nat.lt_of_lt_of_le (Nat.pos_of_ne_zero fun z => ?_) (Nat.le_max_left _ _)
  rw [z] at h1
  omega
theorem rnds_le {lv en : List Nat} {ps : List (Nat × Nat)} (hl : lv.length = en.length) (h1 : ∀ r ∈ lv, 0 < r ∧ r ≤ 1000) (h2 : ∀ r ∈ en, 0 < r ∧ r ≤ 1000) : rndsN lv en ps ≤ ps.length := by
  have key : ∀ (ls st : List Nat), (∀ r ∈ ls, 0 < r ∧ r ≤ 1000) → needN ls st ≤ st.length := fun ls st h => need_le fun v hv => by
    have h0 := (getD_pos h hv).1
    refine ⟨h0, ?_⟩
    have hc : st.count v ≤ st.length := List.count_le_length
    exact Nat.le_trans hc (Nat.le_mul_of_pos_right _ h0)
  unfold rndsN
  have a := key lv (ps.map (·.1)) h1
  have b := key en (ps.map (·.2)) h2
  rw [List.length_map] at a b
  exact Nat.max_le.mpr ⟨a, b⟩
theorem tln_at {lv en : List Nat} {ps : List (Nat × Nat)} {i : Nat} (h : i < ps.length) (s : Bool) : tlnN lv en ps s i = (((if s then ps.map (·.1) else ps.map (·.2)) : List Nat).getD i 0, partN (rndsN lv en ps) (if s then ps.map (·.1) else ps.map (·.2)) i) := by
  unfold tlnN LnC
  cases s with
  | true => exact partL_at (by rw [List.length_map]; exact h)
  | false => exact partL_at (by rw [List.length_map]; exact h)
theorem tln_ok {lv en : List Nat} {ps : List (Nat × Nat)} (hok : OkP lv.length ps) (hr : ∀ r ∈ lv, 0 < r ∧ r ≤ 1000) : LineOk (tlnN lv en ps) ps.length (rndsN lv en ps) := fun s l => by
  by_cases h : ps = []
  · subst h; exact Nat.zero_le _
  have hm := rnds_pos (en := en) hok hr h
  have key : ∀ st : List Nat, st.length = ps.length → (∀ i, i < ps.length → tlnN lv en ps s i = (st.getD i 0, partN (rndsN lv en ps) st i)) → ((List.range ps.length).filter fun i => decide (tlnN lv en ps s i = l)).length ≤ rndsN lv en ps := fun st hs ht => by
    have h1 := part_le hm (st := st) (v := l.1) (j := l.2)
    rw [hs] at h1
    rw [List.filter_congr (q := fun i => decide ((st.getD i 0, partN (rndsN lv en ps) st i) = (l.1, l.2))) fun i hi => by rw [ht i (List.mem_range.mp hi)]]
    exact h1
  cases s with
  | true => exact key (ps.map (·.1)) (by rw [List.length_map]) fun i hi => tln_at hi true
  | false => exact key (ps.map (·.2)) (by rw [List.length_map]) fun i hi => tln_at hi false
theorem plan_ok {lv en : List Nat} {ps : List (Nat × Nat)} (hl : lv.length = en.length) (hok : OkP lv.length ps) (h1 : ∀ r ∈ lv, 0 < r ∧ r ≤ 1000) (h2 : ∀ r ∈ en, 0 < r ∧ r ≤ 1000) {D : Nat → Option Nat} (hD : Reach (tlnN lv en ps) (rndsN lv en ps) ps.length D) :
    PlanOk lv en ps (tplanN lv en ps) := by
  have hF := hD.full
  have hat : ∀ i, i < ps.length → D i = some ((tplanN lv en ps).getD i 0) := fun i hi => by
    rw [planF_eq hD hi]
    unfold tplanN
    rw [List.getD_eq_getElem?_getD, List.getElem?_map, List.getElem?_range hi]; rfl
  have key : ∀ (s : Bool) (st ls : List Nat), st = (if s then ps.map (·.1) else ps.map (·.2)) → (∀ v, v < ls.length → st.count v ≤ rndsN lv en ps * ls.getD v 0) → ∀ q v, v < ls.length → ((List.range ps.length).filter fun i => decide ((tplanN lv en ps).getD i 0 = q) && decide (st.getD i 0 = v)).length ≤ ls.getD v 0 := fun s st ls hst hc q v hv => by
    by_cases h : ps = []
    · subst h; exact Nat.zero_le _
    have hm := rnds_pos (en := en) hok h1 h
    have hsl : st.length = ps.length := by rw [hst]; cases s <;> simp
    have hr := round_le (lim := ls.getD v 0) hm (st := st) (P := D) (fun i j q hi hj e1 e2 e3 => hF.val s i j q e1 e2 (by
      rw [tln_at (hsl ▸ hi), tln_at (hsl ▸ hj), ← hst]; exact e3)) (q := q) (v := v) (hc v hv)
    rw [hsl] at hr
    rw [List.filter_congr (q := fun i => decide (D i = some q) && decide (st.getD i 0 = v)) fun i hi => by
      rw [hat i (List.mem_range.mp hi)]
      congr 1
      exact decide_eq_decide.mpr ⟨fun z => by rw [z], fun z => Option.some.inj z⟩]
    exact hr
  refine ⟨by unfold tplanN; simp, fun q hq => ?_, fun q v hv => ?_, fun q v hv => ?_⟩
  · obtain ⟨i, hi, rfl⟩ := List.mem_map.mp hq
    have hi := List.mem_range.mp hi
    exact (hF.lt i _ (planF_eq hD hi)).2
  · have := key true (ps.map (·.1)) lv rfl (fun v hv => Nat.le_trans (need_ge hv (getD_pos h1 hv).1) (Nat.mul_le_mul_right _ (Nat.le_max_left _ _))) q v hv
    rw [List.filter_congr (q := fun i => decide ((tplanN lv en ps).getD i 0 = q) && decide ((ps.map (·.1)).getD i 0 = v)) fun i hi => by rw [getD_map1]]
    exact this
  · have := key false (ps.map (·.2)) en rfl (fun v hv => Nat.le_trans (need_ge hv (getD_pos h2 hv).1) (Nat.mul_le_mul_right _ (Nat.le_max_right _ _))) q v hv
    rw [List.filter_congr (q := fun i => decide ((tplanN lv en ps).getD i 0 = q) && decide ((ps.map (·.2)).getD i 0 = v)) fun i hi => by rw [getD_map2]]
    exact this
def W_tplan (CE : Addr) : FwP := fun M ss Q QX => ∃ (lv en : List Nat) (x : Dt), ss = [.d (lotD lv), .d (lotD en), .d x] ∧ lv.length = en.length ∧ 0 < lv.length ∧ lv.length ≤ 1000 ∧ (∀ r ∈ lv, 0 < r ∧ r ≤ 1000) ∧ (∀ r ∈ en, 0 < r ∧ r ≤ 1000) ∧ Pur x ∧ (∀ ds, x = .tup ds → ds.length ≤ 1000) ∧
  (∀ ps, x = .tup (pairsD ps) → OkP lv.length ps → PlanOk lv en ps (tplanN lv en ps) → Q (lotD (tplanN lv en ps)) M) ∧ (pairsB lv.length x = false → QX CE [("value", x)] M)
def leI (mo : Int) : Dt → Bool
  | .int i => decide (i ≤ mo)
  | _ => false
/-- a tuple of m numbers up to mo -/
def rowQ (m mo : Int) : Dt → Bool
  | .tup ds => decide ((ds.length : Int) = m) && ds.all fun d => natB d && leI mo d
  | _ => false
def W_lrow : Fw := fun ss P => ∃ (x : Dt) (m mo : Int), ss = [.d x, .d (.int m), .d (.int mo)] ∧ Pur x ∧ P (.bl (rowQ m mo x))
theorem filt_nil {f : Dt → Bool} {ds : List Dt} : decide (((ds.filter fun d => !f d).length : Int) = 0) = ds.all f := by
  by_cases h : ds.all f = true
  · rw [h]
    refine decide_eq_true ?_
    have : (ds.filter fun d => !f d) = [] := List.filter_eq_nil_iff.mpr fun d hd => by rw [List.all_eq_true.mp h d hd]; decide
    rw [this]; rfl
  · have h' : ds.all f = false := by simpa using h
    rw [h']
    refine decide_eq_false fun z => h ?_
    have z : (ds.filter fun d => !f d).length = 0 := by omega
    refine List.all_eq_true.mpr fun d hd => ?_
    have := List.filter_eq_nil_iff.mp (List.length_eq_zero_iff.mp z) d hd
    simpa using this
def sideT (j : Nat) (q : Nat × Nat) : Nat := if j = 0 then q.1 else q.2
def cntT (n j : Nat) (ps : List (Nat × Nat)) : List Nat := (List.range n).map fun v => (ps.map (sideT j)).count v
theorem cntT_get {n j i : Nat} {ps : List (Nat × Nat)} : (natsD (cntT n j ps))[i]? = if i < n then some (.int (((ps.map (sideT j)).count i : Nat) : Int)) else none := by
  unfold natsD cntT
  rw [List.getElem?_map, List.getElem?_map]
  by_cases h : i < n
  · rw [List.getElem?_range h, if_pos h]; rfl
  · rw [List.getElem?_eq_none (by simpa using h), if_neg h]; rfl
theorem cntT_at {n j v : Nat} {ps : List (Nat × Nat)} (h : v < n) : (natsD (cntT n j ps))[v]? = some (.int (((ps.map (sideT j)).count v : Nat) : Int)) := by rw [cntT_get, if_pos h]
theorem cntT_len {n j : Nat} {ps : List (Nat × Nat)} : (natsD (cntT n j ps)).length = n := by rw [natsD_length]; simp [cntT]
theorem cntT_snoc {n j : Nat} {ps : List (Nat × Nat)} {q : Nat × Nat} {x : Int} (h : sideT j q < n) (hx : x = (((ps.map (sideT j)).count (sideT j q) : Nat) : Int) + 1) : (natsD (cntT n j ps)).set (sideT j q) (.int x) = natsD (cntT n j (ps ++ [q])) := by
  subst hx
  refine List.ext_getElem? fun i => ?_
  by_cases e : sideT j q = i
  · subst e
    rw [List.getElem?_set_self (by rw [cntT_len]; exact h), cntT_at h, List.map_append, List.count_append]
    simp
  · rw [List.getElem?_set_ne e, cntT_get, cntT_get, List.map_append, List.count_append]
    have : ([q].map (sideT j)).count i = 0 := by simp [e]
    rw [this, Nat.add_zero]
def W_lcounts : FwM := fun ss P => ∃ (x : Dt) (ps : List (Nat × Nat)) (j n : Nat), ss = [.d x, .d (.int (j : Int)), .d (.int (n : Int))] ∧ (x = .tup (pairsD ps) ∨ x = .lst (pairsD ps)) ∧ j < 2 ∧ n ≤ 1000 ∧ ps.length ≤ 10000 ∧ OkP n ps ∧ P (natsD (cntT n j ps))
def W_lrounds : Fw := fun ss P => ∃ (lv en : List Nat) (ps : List (Nat × Nat)) (x : Dt), ss = [.d (.tup [lotD lv, lotD en]), .d x] ∧ (x = .tup (pairsD ps) ∨ x = .lst (pairsD ps)) ∧ lv.length = en.length ∧ 0 < lv.length ∧ lv.length ≤ 1000 ∧ (∀ r ∈ lv, 0 < r ∧ r ≤ 1000) ∧ (∀ r ∈ en, 0 < r ∧ r ≤ 1000) ∧ OkP lv.length ps ∧ ps.length ≤ 10000 ∧
  P (.int (rndsN lv en ps : Nat))
def W_listab : Fw := fun ss P => ∃ (lv en pl : List Nat) (ps : List (Nat × Nat)), ss = [.d (lotD pl), .d (.tup [lotD lv, lotD en]), .d (.tup (pairsD ps))] ∧ lv.length = en.length ∧ 0 < lv.length ∧ lv.length ≤ 1000 ∧ (∀ r ∈ lv, 0 < r ∧ r ≤ 1000) ∧ (∀ r ∈ en, 0 < r ∧ r ≤ 1000) ∧ OkP lv.length ps ∧ ps.length ≤ 400 ∧ PlanOk lv en ps pl ∧ P (.bl true)
theorem mmI_ok : ∀ (r : List Int) (n : Int), (mmI true n r = n ∨ mmI true n r ∈ r) ∧ n ≤ mmI true n r ∧ ∀ y ∈ r, y ≤ mmI true n r
  | [], n => ⟨.inl rfl, Int.le_refl _, fun _ h => nomatch h⟩
  | y :: r, n => by
    have ih := mmI_ok r (if n < y then y else n)
    have e : mmI true n (y :: r) = mmI true (if n < y then y else n) r := rfl
    rw [e]
    generalize mmI true (if n < y then y else n) r = m at ih
    by_cases h : n < y
    · rw [if_pos h] at ih
      refine ⟨?_, by omega, fun z hz => ?_⟩
      · rcases ih.1 with z | z
        · exact .inr (by rw [z]; exact List.mem_cons_self)
        · exact .inr (List.mem_cons_of_mem _ z)
      · rcases List.mem_cons.mp hz with rfl | hz
        · exact ih.2.1
        · exact ih.2.2 z hz
    · rw [if_neg h] at ih
      refine ⟨?_, ih.2.1, fun z hz => ?_⟩
      · rcases ih.1 with z | z
        · exact .inl z
        · exact .inr (List.mem_cons_of_mem _ z)
      · rcases List.mem_cons.mp hz with rfl | hz
        · omega
        · exact ih.2.2 z hz
/-- a store's pairs, round by round -/
theorem classes_le {n lim v : Nat} {f g : Nat → Nat} (h : ∀ q, ((List.range n).filter fun i => decide (f i = q) && decide (g i = v)).length ≤ lim) : ∀ B, ((List.range n).filter fun i => decide (f i < B) && decide (g i = v)).length ≤ B * lim
  | 0 => by
    rw [List.filter_eq_nil_iff.mpr fun i _ => by simp]
    exact Nat.zero_le _
  | B + 1 => by
    have ih := classes_le h B
    have hB := h B
    rw [← List.countP_eq_length_filter] at ih hB ⊢
    have : ∀ l : List Nat, l.countP (fun i => decide (f i < B + 1) && decide (g i = v)) = l.countP (fun i => decide (f i < B) && decide (g i = v)) + l.countP (fun i => decide (f i = B) && decide (g i = v)) := fun l => by
      induction l with
      | nil => rfl
      | cons a r ih =>
        rw [List.countP_cons, List.countP_cons, List.countP_cons, ih]
        by_cases h1 : g a = v
        · rcases Nat.lt_trichotomy (f a) B with z | z | z
          · simp [h1, z, Nat.lt_succ_of_lt z, Nat.ne_of_lt z]; omega
          · simp [h1, z]; omega
          · have h2 : ¬ f a < B + 1 := by omega
            have h3 : ¬ f a < B := by omega
            have h4 : ¬ f a = B := by omega
            simp [h2, h3, h4]
        · simp [h1]
    rw [this, Nat.add_mul]
    omega
theorem count_range {st : List Nat} {v : Nat} : st.count v = ((List.range st.length).filter fun i => decide (st.getD i 0 = v)).length := by
  have e : st = (List.range st.length).map fun i => st.getD i 0 := by
    refine List.ext_getElem (by simp) fun i h1 h2 => ?_
    rw [List.getElem_map, List.getElem_range, List.getD_eq_getElem?_getD, List.getElem?_eq_getElem h1]
    rfl
  conv => lhs; rw [e]
  rw [List.count_eq_countP, List.countP_map, List.countP_eq_length_filter]
  congr 1
/-- so many rounds no plan can do without -/
theorem plan_need {lv en : List Nat} {ps : List (Nat × Nat)} {pl : List Nat} (h : PlanOk lv en ps pl) (h1 : ∀ r ∈ lv, 0 < r ∧ r ≤ 1000) (h2 : ∀ r ∈ en, 0 < r ∧ r ≤ 1000) {B : Nat} (hB : ∀ q ∈ pl, q < B) : rndsN lv en ps ≤ B := by
  have hat : ∀ i, i < ps.length → pl.getD i 0 < B := fun i hi => by
    rw [List.getD_eq_getElem?_getD, List.getElem?_eq_getElem (by rw [h.len]; exact hi)]
    exact hB _ (List.getElem_mem _)
  have key : ∀ (ls : List Nat) (g : Nat × Nat → Nat), (∀ i, (ps.map g).getD i 0 = (ps.map g).getD i 0) → (∀ r ∈ ls, 0 < r ∧ r ≤ 1000) → (∀ q v, v < ls.length → ((List.range ps.length).filter fun i => decide (pl.getD i 0 = q) && decide ((ps.map g).getD i 0 = v)).length ≤ ls.getD v 0) → needN ls (ps.map g) ≤ B := fun ls g _ hr hc => need_le fun v hv => by
    refine ⟨(getD_pos hr hv).1, ?_⟩
    have := classes_le (f := fun i => pl.getD i 0) (g := fun i => (ps.map g).getD i 0) (fun q => hc q v hv) B
    rw [List.filter_congr (q := fun i => decide ((ps.map g).getD i 0 = v)) fun i hi => by
      rw [decide_eq_true (hat i (List.mem_range.mp hi)), Bool.true_and]] at this
    rw [count_range, List.length_map]
    exact this
  refine Nat.max_le.mpr ⟨key lv (·.1) (fun _ => rfl) h1 fun q v hv => ?_, key en (·.2) (fun _ => rfl) h2 fun q v hv => ?_⟩
  · rw [List.filter_congr (q := fun i => decide (pl.getD i 0 = q) && decide ((ps.getD i (0, 0)).1 = v)) fun i hi => by rw [getD_map1]]
    exact h.c1 q v hv
  · rw [List.filter_congr (q := fun i => decide (pl.getD i 0 = q) && decide ((ps.getD i (0, 0)).2 = v)) fun i hi => by rw [getD_map2]]
    exact h.c2 q v hv
/-- the pairs of a round -/
def ownN (ps : List (Nat × Nat)) (pl : List Nat) (t k : Nat) : List (Nat × Nat) := ((List.range k).filter fun i => decide (pl.getD i 0 = t)).map fun i => ps.getD i (0, 0)
theorem own_ok {n k t : Nat} {ps : List (Nat × Nat)} {pl : List Nat} (h : OkP n ps) (hk : k ≤ ps.length) : OkP n (ownN ps pl t k) := fun q hq => by
  obtain ⟨i, hi, rfl⟩ := List.mem_map.mp hq
  have hi := List.mem_range.mp (List.mem_filter.mp hi).1
  rw [List.getD_eq_getElem?_getD, List.getElem?_eq_getElem (by omega)]
  exact h _ (List.getElem_mem _)
theorem own_len {k t : Nat} {ps : List (Nat × Nat)} {pl : List Nat} : (ownN ps pl t k).length ≤ k := by
  unfold ownN
  rw [List.length_map]
  exact Nat.le_trans (List.length_filter_le _ _) (by rw [List.length_range]; exact Nat.le_refl _)
theorem own_one {lv en : List Nat} {ps : List (Nat × Nat)} {pl : List Nat} {t : Nat} (h : PlanOk lv en ps pl) (h1 : ∀ r ∈ lv, 0 < r ∧ r ≤ 1000) (h2 : ∀ r ∈ en, 0 < r ∧ r ≤ 1000) : rndsN lv en (ownN ps pl t ps.length) ≤ 1 := by
  have key : ∀ g : Nat × Nat → Nat, ∀ v, ((ownN ps pl t ps.length).map g).count v = ((List.range ps.length).filter fun i => decide (pl.getD i 0 = t) && decide (g (ps.getD i (0, 0)) = v)).length := fun g v => by
    unfold ownN
    rw [List.map_map, List.count_eq_countP, List.countP_map, List.countP_eq_length_filter, List.filter_filter]
    congr 1
    refine List.filter_congr fun i _ => ?_
    rw [Bool.and_comm]
    rfl
  refine Nat.max_le.mpr ⟨need_le fun v hv => ⟨(getD_pos h1 hv).1, ?_⟩, need_le fun v hv => ⟨(getD_pos h2 hv).1, ?_⟩⟩
  · rw [key, Nat.one_mul]; exact h.c1 t v hv
  · rw [key, Nat.one_mul]; exact h.c2 t v hv
theorem rowQ_nats {l : List Nat} {mo : Nat} (h : ∀ q ∈ l, q ≤ mo) : rowQ (l.length : Nat) (mo : Int) (lotD l) = true := by
  show (decide (((natsD l).length : Int) = (l.length : Nat)) && (natsD l).all fun d => natB d && leI mo d) = true
  rw [natsD_length, decide_eq_true rfl, Bool.true_and, List.all_eq_true]
  intro d hd
  obtain ⟨q, hq, rfl⟩ := List.mem_map.mp hd
  have := h q hq
  show (decide ((0 : Int) ≤ q) && decide ((q : Int) ≤ mo)) = true
  simp
  omega
/-- each pair as it is or turned -/
def Turned (hp ps : List (Nat × Nat)) : Prop := hp.length = ps.length ∧ ∀ (k : Nat) (q : Nat × Nat), ps[k]? = some q → ∃ r, hp[k]? = some r ∧ (r = q ∨ r = (q.2, q.1))
theorem Turned.tail {a b : Nat × Nat} {hp ps : List (Nat × Nat)} (h : Turned (a :: hp) (b :: ps)) : (a = b ∨ a = (b.2, b.1)) ∧ Turned hp ps := by
  refine ⟨?_, by have := h.1; simpa using this, fun k q hk => h.2 (k + 1) q (by simpa using hk)⟩
  obtain ⟨r, h1, h2⟩ := h.2 0 b rfl
  have h1 : some a = some r := h1
  cases h1
  exact h2
theorem half_turned {n : Nat} {ps : List (Nat × Nat)} (hok : OkP n ps) : Turned (halF n ps) ps := by
  obtain ⟨h1, h2, _⟩ := hal_ok hok
  exact ⟨h1, fun k q hk => let ⟨r, a, _, b⟩ := h2 k q hk; ⟨r, a, b⟩⟩
theorem turned_ok {n : Nat} : ∀ {hp ps : List (Nat × Nat)}, Turned hp ps → OkP n ps → OkP n hp
  | [], _, _, _ => fun _ h => nomatch h
  | a :: hp, [], h, _ => by have := h.1; simp at this
  | a :: hp, b :: ps, h, hok => by
    obtain ⟨h1, h2⟩ := h.tail
    have hb := hok b List.mem_cons_self
    intro q hq
    rcases List.mem_cons.mp hq with rfl | hq
    · rcases h1 with rfl | rfl
      · exact hb
      · exact ⟨hb.2.1, hb.1, hb.2.2.symm⟩
    · exact turned_ok h2 (fun x hx => hok x (List.mem_cons_of_mem _ hx)) q hq
theorem turned_evs {x : PI2} : ∀ {hp ps : List (Nat × Nat)} {ts : List Nat}, Turned hp ps → (evsN hp ts).count x = (evsN ps ts).count x
  | [], [], _, _ => rfl
  | [], _ :: _, _, h => by have := h.1; simp at this
  | _ :: _, [], _, h => by have := h.1; simp at this
  | _ :: _, _ :: _, [], _ => rfl
  | (a, b) :: hp, (c, d) :: ps, t :: ts, h => by
    obtain ⟨h1, h2⟩ := h.tail
    have ih := turned_evs (x := x) (ts := ts) h2
    have e1 : evsN ((a, b) :: hp) (t :: ts) = ((t : Int), (a : Int)) :: ((t : Int), (b : Int)) :: evsN hp ts := rfl
    have e2 : evsN ((c, d) :: ps) (t :: ts) = ((t : Int), (c : Int)) :: ((t : Int), (d : Int)) :: evsN ps ts := rfl
    rw [e1, e2, List.count_cons, List.count_cons, List.count_cons, List.count_cons, ih]
    rcases h1 with h1 | h1
    · cases h1; rfl
    · cases h1; dsimp only; omega
theorem turned_load {v : Nat} : ∀ {hp ps : List (Nat × Nat)}, Turned hp ps → loadN hp v = loadN ps v
  | [], [], _ => rfl
  | [], _ :: _, h => by have := h.1; simp at this
  | _ :: _, [], h => by have := h.1; simp at this
  | (a, b) :: hp, (c, d) :: ps, h => by
    obtain ⟨h1, h2⟩ := h.tail
    have ih := turned_load (v := v) h2
    have e : ∀ (a b : Nat) (l : List (Nat × Nat)), loadN ((a, b) :: l) v = (a :: b :: endsN l).count v := fun _ _ _ => rfl
    have e' : ∀ l : List (Nat × Nat), (endsN l).count v = loadN l v := fun _ => rfl
    rw [e, e, List.count_cons, List.count_cons, List.count_cons, List.count_cons, e', e', ih]
    rcases h1 with h1 | h1
    · cases h1; rfl
    · cases h1; dsimp only; omega
/-- a load is what is given and what is taken -/
theorem load_split {v : Nat} : ∀ {ps : List (Nat × Nat)}, loadN ps v = (ps.map (·.1)).count v + (ps.map (·.2)).count v
  | [] => rfl
  | (a, b) :: ps => by
    have ih := load_split (v := v) (ps := ps)
    have e : loadN ((a, b) :: ps) v = (a :: b :: endsN ps).count v := rfl
    have e' : (endsN ps).count v = loadN ps v := rfl
    rw [e, List.count_cons, List.count_cons, e', ih, List.map_cons, List.map_cons, List.count_cons, List.count_cons]
    dsimp only
    omega
theorem busy_ge {rs : List Nat} {ps : List (Nat × Nat)} {v : Nat} (hv : v < rs.length) (h0 : 0 < rs.getD v 0) : loadN ps v ≤ busyN rs ps * rs.getD v 0 := by
  rw [← upT_le h0]
  refine mxN_le _ ?_
  refine List.mem_iff_getElem.mpr ⟨v, by simp [loadsN]; exact hv, ?_⟩
  rw [List.getElem_zipWith, List.getD_eq_getElem?_getD, List.getElem?_eq_getElem hv]
  simp [loadsN]
theorem busy_le {rs : List Nat} {ps : List (Nat × Nat)} {B : Nat} (h : ∀ v, v < rs.length → 0 < rs.getD v 0 ∧ loadN ps v ≤ B * rs.getD v 0) : busyN rs ps ≤ B := by
  unfold busyN
  by_cases hn : List.zipWith upN (loadsN rs.length ps) rs = []
  · rw [hn]; exact Nat.zero_le _
  · obtain ⟨i, hi, e⟩ := List.mem_iff_getElem.mp (mxN_mem hn)
    rw [← e, List.getElem_zipWith]
    have hv : i < rs.length := by simp [loadsN] at hi; exact hi
    have h1 := h i hv
    have eg : rs.getD i 0 = rs[i] := by rw [List.getD_eq_getElem?_getD, List.getElem?_eq_getElem hv]; rfl
    rw [eg] at h1
    have := (upT_le h1.1).mpr h1.2
    simpa [loadsN] using this
/-- what stands in a round, counted by places -/
theorem evs_cnt {ps : List (Nat × Nat)} {ts : List Nat} (hl : ts.length = ps.length) (t v : Nat) : ∀ k, k ≤ ps.length → (evsN (ps.take k) (ts.take k)).count ((t : Int), (v : Int)) =
    ((List.range k).filter fun i => decide (ts.getD i 0 = t) && decide ((ps.getD i (0, 0)).1 = v)).length + ((List.range k).filter fun i => decide (ts.getD i 0 = t) && decide ((ps.getD i (0, 0)).2 = v)).length
  | 0, _ => by simp [evsN]
  | k + 1, h => by
    have ih := evs_cnt hl t v k (by omega)
    have hk : k < ps.length := h
    have h1 := List.getElem?_eq_getElem hk
    have h2 := List.getElem?_eq_getElem (show k < ts.length by omega)
    have e1 : ps.getD k (0, 0) = ps[k] := by rw [List.getD_eq_getElem?_getD, h1]; rfl
    have e2 : ts.getD k 0 = ts[k] := by rw [List.getD_eq_getElem?_getD, h2]; rfl
    have step : ∀ p : Nat → Bool, ((List.range (k + 1)).filter p).length = ((List.range k).filter p).length + if p k = true then 1 else 0 := fun p => by
      rw [List.range_succ, List.filter_append, List.length_append, List.filter_cons]
      cases p k <;> rfl
    rw [step, step, e1, e2]
    generalize ps[k] = q at h1
    generalize ts[k] = u at h2
    rw [evs_take (a := q.1) (b := q.2) h1 h2, List.count_append, ih]
    have c2 : ([((u : Int), (q.1 : Int)), ((u : Int), (q.2 : Int))] : List PI2).count ((t : Int), (v : Int)) = (if (decide (u = t) && decide (q.1 = v)) = true then 1 else 0) + if (decide (u = t) && decide (q.2 = v)) = true then 1 else 0 := by
      rw [List.count_cons, List.count_cons, List.count_nil]
      have hb : ∀ a : Nat, ((((u : Int), (a : Int)) == ((t : Int), (v : Int))) = true) ↔ ((decide (u = t) && decide (a = v)) = true) := fun a => by simp; omega
      simp only [hb]
      omega
    rw [c2]
    omega
theorem evs_all {ps : List (Nat × Nat)} {ts : List Nat} (hl : ts.length = ps.length) (t v : Nat) : (evsN ps ts).count ((t : Int), (v : Int)) =
    ((List.range ps.length).filter fun i => decide (ts.getD i 0 = t) && decide ((ps.getD i (0, 0)).1 = v)).length + ((List.range ps.length).filter fun i => decide (ts.getD i 0 = t) && decide ((ps.getD i (0, 0)).2 = v)).length := by
  have h := evs_cnt hl t v ps.length (Nat.le_refl _)
  rw [List.take_length, ← hl, List.take_length, hl] at h
  exact h
def halfL (rs : List Nat) : List Nat := rs.map fun r => r / 2
theorem halfL_at {rs : List Nat} {v : Nat} : (halfL rs).getD v 0 = rs.getD v 0 / 2 := by
  unfold halfL
  rw [List.getD_eq_getElem?_getD, List.getD_eq_getElem?_getD, List.getElem?_map]
  cases rs[v]? <;> rfl
theorem halfL_len {rs : List Nat} : (halfL rs).length = rs.length := by unfold halfL; rw [List.length_map]
/-- no round with too much -/
def NoExc (rs : List Nat) (ps : List (Nat × Nat)) (ts : List Nat) : Prop := ∀ q, ¬ Exc rs (evsN ps ts) q
theorem noexc_of {rs : List Nat} {ps : List (Nat × Nat)} {ts : List Nat} (hok : OkP rs.length ps) (h : ∀ t v : Nat, v < rs.length → (evsN ps ts).count ((t : Int), (v : Int)) ≤ rs.getD v 0) : NoExc rs ps ts := fun q hq => by
  obtain ⟨t, v, rfl, hv⟩ := evs_mem hok hq.1
  have h1 := h t v hv
  have h2 := hq.2
  rw [Int.toNat_natCast] at h2
  omega
theorem noexc_half {rs : List Nat} {ps hp : List (Nat × Nat)} {pl : List Nat} (hok : OkP rs.length ps) (ht : Turned hp ps) (h : PlanOk (halfL rs) (halfL rs) hp pl) : NoExc rs ps pl := noexc_of hok fun t v hv => by
  rw [← turned_evs ht, evs_all h.len]
  have h1 := h.c1 t v (by rw [halfL_len]; exact hv)
  have h2 := h.c2 t v (by rw [halfL_len]; exact hv)
  rw [halfL_at] at h1 h2
  omega
theorem halfL_ok {rs : List Nat} (h : ∀ r ∈ rs, 0 < r ∧ r ≤ 1000) (he : ∀ r ∈ rs, r % 2 = 0) : ∀ r ∈ halfL rs, 0 < r ∧ r ≤ 1000 := fun r hr => by
  obtain ⟨x, hx, rfl⟩ := List.mem_map.mp hr
  have := h x hx
  have := he x hx
  omega
theorem count_eq_countP {hp : List (Nat × Nat)} {f : Nat × Nat → Nat} {v : Nat} : (hp.map f).count v = hp.countP fun q => decide (f q = v) := by
  rw [List.count_eq_countP, List.countP_map]
  refine List.countP_congr fun q _ => ?_
  simp
theorem even_rounds {rs : List Nat} {ps : List (Nat × Nat)} (hok : OkP rs.length ps) (hr : ∀ r ∈ rs, 0 < r ∧ r ≤ 1000) (he : ∀ r ∈ rs, r % 2 = 0) : rndsN (halfL rs) (halfL rs) (halF rs.length ps) = busyN rs ps := by
  obtain ⟨_, _, hc⟩ := hal_ok hok
  have ht := half_turned hok
  have hh := halfL_ok hr he
  have hev : ∀ v, v < rs.length → rs.getD v 0 = 2 * (halfL rs).getD v 0 := fun v hv => by
    have h1 : rs.getD v 0 % 2 = 0 := by
      rw [List.getD_eq_getElem?_getD, List.getElem?_eq_getElem hv]
      exact he _ (List.getElem_mem hv)
    rw [halfL_at]; omega
  have hpos : ∀ v, v < rs.length → 0 < rs.getD v 0 := fun v hv => (getD_pos hr hv).1
  refine Nat.le_antisymm (Nat.max_le.mpr ⟨need_le fun v hv => ⟨(getD_pos hh hv).1, ?_⟩, need_le fun v hv => ⟨(getD_pos hh hv).1, ?_⟩⟩) (busy_le fun v hv => ⟨hpos v hv, ?_⟩)
  · rw [halfL_len] at hv
    rw [count_eq_countP]
    have h1 := (hc v).1
    have h2 := busy_ge (ps := ps) hv (hpos v hv)
    rw [hev v hv, Nat.mul_left_comm] at h2
    generalize busyN rs ps * (halfL rs).getD v 0 = X at h2 ⊢
    omega
  · rw [halfL_len] at hv
    rw [count_eq_countP]
    have h1 := (hc v).2
    have h2 := busy_ge (ps := ps) hv (hpos v hv)
    rw [hev v hv, Nat.mul_left_comm] at h2
    generalize busyN rs ps * (halfL rs).getD v 0 = X at h2 ⊢
    omega
  · rw [← turned_load ht, load_split, hev v hv, Nat.mul_left_comm]
    have hv' : v < (halfL rs).length := by rw [halfL_len]; exact hv
    have h1 := need_ge (st := (halF rs.length ps).map (·.1)) hv' (getD_pos hh hv').1
    have h2 := need_ge (st := (halF rs.length ps).map (·.2)) hv' (getD_pos hh hv').1
    have h3 := Nat.mul_le_mul_right ((halfL rs).getD v 0) (Nat.le_max_left (needN (halfL rs) ((halF rs.length ps).map (·.1))) (needN (halfL rs) ((halF rs.length ps).map (·.2))))
    have h4 := Nat.mul_le_mul_right ((halfL rs).getD v 0) (Nat.le_max_right (needN (halfL rs) ((halF rs.length ps).map (·.1))) (needN (halfL rs) ((halF rs.length ps).map (·.2))))
    unfold rndsN
    omega
theorem need_nil {ls : List Nat} (h : ∀ r ∈ ls, 0 < r ∧ r ≤ 1000) : needN ls [] = 0 := Nat.le_zero.mp (need_le fun v hv => ⟨(getD_pos h hv).1, Nat.zero_le _⟩)
/-- a table plan has just as many rounds as its rows and columns need -/
theorem plan_len {lv en : List Nat} {ps : List (Nat × Nat)} {pl : List Nat} (hpo : PlanOk lv en ps pl) (h1 : ∀ r ∈ lv, 0 < r ∧ r ≤ 1000) (h2 : ∀ r ∈ en, 0 < r ∧ r ≤ 1000) : planLen (pl.map fun v : Nat => (v : Int)) = ((rndsN lv en ps : Nat) : Int) := by
  have hge := fun B => @plan_need lv en ps pl hpo h1 h2 B
  have hlt := hpo.lt
  have hlen := hpo.len
  cases pl with
  | nil =>
    have : ps = [] := List.length_eq_zero_iff.mp (by rw [← hlen]; rfl)
    subst this
    unfold rndsN
    simp only [List.map_nil]
    rw [need_nil h1, need_nil h2]
    rfl
  | cons p0 pr =>
    have hmm := mmI_ok (pr.map fun v : Nat => (v : Int)) (p0 : Int)
    show mmI true (p0 : Int) (pr.map fun v : Nat => (v : Int)) + 1 = _
    generalize mmI true (p0 : Int) (pr.map fun v : Nat => (v : Int)) = m at hmm
    obtain ⟨q, rfl, hq⟩ : ∃ q : Nat, m = (q : Int) ∧ q ∈ p0 :: pr := by
      rcases hmm.1 with z | z
      · exact ⟨p0, z, List.mem_cons_self⟩
      · obtain ⟨q, hq, rfl⟩ := List.mem_map.mp z
        exact ⟨q, rfl, List.mem_cons_of_mem _ hq⟩
    have g1 := hlt q hq
    have g2 := hge (q + 1) fun y hy => by
      rcases List.mem_cons.mp hy with rfl | hy
      · have := hmm.2.1; omega
      · have := hmm.2.2 _ (List.mem_map.mpr ⟨y, hy, rfl⟩); omega
    omega
noncomputable def eplanN (rs : List Nat) (ps : List (Nat × Nat)) : List Nat := tplanN (halfL rs) (halfL rs) (halF rs.length ps)
/-- an even plan: without an excess, as long as the busiest store needs -/
structure EvenOk (rs : List Nat) (ps : List (Nat × Nat)) (pl : List Nat) : Prop where
  len : pl.length = ps.length
  no : NoExc rs ps pl
  ln : planLen (pl.map fun v : Nat => (v : Int)) = ((busyN rs ps : Nat) : Int)
  lt : ∀ q ∈ pl, q < ps.length
theorem even_ok {rs : List Nat} {ps : List (Nat × Nat)} (hok : OkP rs.length ps) (hr : ∀ r ∈ rs, 0 < r ∧ r ≤ 1000) (he : ∀ r ∈ rs, r % 2 = 0) (h : PlanOk (halfL rs) (halfL rs) (halF rs.length ps) (eplanN rs ps)) : EvenOk rs ps (eplanN rs ps) := by
  have ht := half_turned hok
  have hh := halfL_ok hr he
  refine ⟨h.len.trans ht.1, noexc_half hok ht h, ?_, fun q hq => ?_⟩
  · rw [plan_len h hh hh, even_rounds hok hr he]
  · have := h.lt q hq
    have h2 := rnds_le (ps := halF rs.length ps) (lv := halfL rs) rfl hh hh
    rw [ht.1] at h2
    omega
def oddB (rs : List Nat) : Bool := rs.any fun r => decide (r % 2 = 1)
def W_hasodd : Fw := fun ss P => ∃ rs : List Nat, ss = [.d (lotD rs)] ∧ rs.length ≤ 1000 ∧ P (.bl (oddB rs))
theorem odd_not {rs : List Nat} (h : oddB rs = false) : ∀ r ∈ rs, r % 2 = 0 := fun r hr => by
  have := List.any_eq_false.mp h r hr
  simp at this
  exact this
def W_eplan (CE CU : Addr) : FwP := fun M ss Q QX => ∃ (rs : List Nat) (x : Dt), ss = [.d (lotD rs), .d x] ∧ 0 < rs.length ∧ rs.length ≤ 1000 ∧ (∀ r ∈ rs, 0 < r ∧ r ≤ 1000) ∧ Pur x ∧ (∀ ds, x = .tup ds → ds.length ≤ 1000) ∧
  (oddB rs = true → QX CU [("what", .str "rates")] M) ∧ (oddB rs = false → (pairsB rs.length x = false → QX CE [("value", x)] M) ∧ ∀ ps, x = .tup (pairsD ps) → OkP rs.length ps → EvenOk rs ps (eplanN rs ps) → Q (lotD (eplanN rs ps)) M)
def W_lloads : FwM := fun ss P => ∃ (n : Nat) (x : Dt) (ps : List (Nat × Nat)), ss = [.d (.int (n : Int)), .d x] ∧ (x = .tup (pairsD ps) ∨ x = .lst (pairsD ps)) ∧ n ≤ 1000 ∧ ps.length ≤ 10000 ∧ OkP n ps ∧ P (natsD (loadsN n ps))
def W_nopairs : Fw := fun ss P => ∃ (n : Nat) (ps : List (Nat × Nat)), ss = [.hnd, .d (.int (n : Int)), .d (.tup (pairsD ps))] ∧ n ≤ 1000 ∧ ps.length ≤ 900 ∧ ∀ x, Flat 7 x → pairsB n x = false → (∀ ds, x = .tup ds → ds.length ≤ 1000) → txtD x = true → P x
def cntN (n : Nat) (es : List Nat) : List Nat := (List.range n).map fun v => es.count v
theorem cnt_bump {n v : Nat} {es : List Nat} (hv : v < n) : (cntN n es).set v (es.count v + 1) = cntN n (es ++ [v]) := by
  unfold cntN
  refine List.ext_getElem (by simp) fun i h1 h2 => ?_
  rw [List.getElem_set]
  rw [List.getElem_map, List.getElem_map, List.getElem_range, List.count_append, List.count_cons, List.count_nil]
  by_cases h : v = i
  · subst h; simp
  · rw [if_neg h, if_neg (by simpa using h)]; rfl
def W_lbusy : Fw := fun ss P => ∃ (rs : List Nat) (ps : List (Nat × Nat)), ss = [.d (lotD rs), .d (.tup (pairsD ps))] ∧ 0 < rs.length ∧ rs.length ≤ 1000 ∧ (∀ r ∈ rs, 0 < r ∧ r ≤ 1000) ∧ OkP rs.length ps ∧ ps.length ≤ 1000 ∧ P (.int (busyN rs ps : Nat))
def W_lisplan : Fw := fun ss P => ∃ (rs pl : List Nat) (ps : List (Nat × Nat)), ss = [.d (lotD pl), .d (lotD rs), .d (.tup (pairsD ps))] ∧ rs.length ≤ 100 ∧ ps.length ≤ 200 ∧ pl.length = ps.length ∧ OkP rs.length ps ∧ (∀ q ∈ pl, q ≤ 400) ∧ NoExc rs ps pl ∧ P (.bl true)
def W_liseven : Fw := fun ss P => ∃ (rs pl : List Nat) (ps : List (Nat × Nat)), ss = [.d (lotD pl), .d (lotD rs), .d (.tup (pairsD ps))] ∧ 0 < rs.length ∧ rs.length ≤ 100 ∧ (∀ r ∈ rs, 0 < r ∧ r ≤ 1000) ∧ ps.length ≤ 200 ∧ OkP rs.length ps ∧ EvenOk rs ps pl ∧ P (.bl true)
def W_lref29 : FwP := fun M ss P _ => ∃ (rs : List Nat) (x : Dt), ss = [.d (lotD rs), .d x] ∧ 0 < rs.length ∧ rs.length ≤ 1000 ∧ (∀ r ∈ rs, 0 < r ∧ r ≤ 1000) ∧ Flat 7 x ∧ txtD x = true ∧ (∀ ds, x = .tup ds → ds.length ≤ 1000) ∧
  (oddB rs = true → P (.str "rates") M) ∧ (oddB rs = false → pairsB rs.length x = false ∧ P (.str "pairs") M)
theorem rowQ_nats' {l : List Nat} {mo n : Nat} (hn : l.length = n) (h : ∀ q ∈ l, q ≤ mo) : rowQ (n : Nat) (mo : Int) (lotD l) = true := by
  subst hn
  show (decide (((natsD l).length : Int) = (l.length : Nat)) && (natsD l).all fun d => natB d && leI mo d) = true
  rw [natsD_length, decide_eq_true rfl, Bool.true_and, List.all_eq_true]
  intro d hd
  obtain ⟨q, hq, rfl⟩ := List.mem_map.mp hd
  have := h q hq
  show (decide ((0 : Int) ≤ q) && decide ((q : Int) ≤ mo)) = true
  simp
  omega
theorem ne_sameE {K : PySem.W.Frag} {J : Jm} {R : Dt → Prop} {s : Str} (h : R (.bl false)) : O2 K J L2.rNe (.str s) (.str s) R := fun G H vx vy w rx ry Q q => by
  cases rx; cases ry
  refine ⟨rfl, q _ _ G H w.nx (.bl _) ?_⟩
  simpa using h
theorem shaped_nats {l : List Nat} (h : l.length ≤ 100000) : shapedD (lotD l) = true := by
  refine shaped_of (n := 2) (.tup 1 _ (by rw [natsD_length]; omega) flat_int) (by decide) ?_
  unfold lotD
  rw [txt_tup]
  refine txtDs_iff.mpr fun d hd => ?_
  obtain ⟨q, _, rfl⟩ := List.mem_map.mp hd
  simp [txtD]
theorem flat_lotT {l : List Nat} (h : l.length ≤ 100000) : Flat 2 (lotD l) := .tup 1 _ (by rw [natsD_length]; omega) flat_int
theorem even_not {rs : List Nat} (h : ∀ r ∈ rs, r % 2 = 0) : oddB rs = false := List.any_eq_false.mpr fun r hr => by simp [h r hr]
theorem odd_set {rs : List Nat} {k : Nat} (hk : k < rs.length) (he : ∀ r ∈ rs, r % 2 = 0) (hp : ∀ r ∈ rs, 0 < r ∧ r ≤ 1000) : oddB (rs.take k ++ [rs.getD k 0 - 1] ++ rs.drop (k + 1)) = true ∧ (rs.take k ++ [rs.getD k 0 - 1] ++ rs.drop (k + 1)).length = rs.length ∧ ∀ r ∈ rs.take k ++ [rs.getD k 0 - 1] ++ rs.drop (k + 1), 0 < r ∧ r ≤ 1000 := by
  have hg : rs.getD k 0 ∈ rs := by
    rw [List.getD_eq_getElem?_getD, List.getElem?_eq_getElem hk]
    exact List.getElem_mem hk
  have h1 := he _ hg
  have h2 := hp _ hg
  refine ⟨List.any_eq_true.mpr ⟨rs.getD k 0 - 1, by simp, decide_eq_true (by omega)⟩, by simp; omega, fun r hr => ?_⟩
  rcases List.mem_append.mp hr with hr | hr
  · rcases List.mem_append.mp hr with hr | hr
    · exact hp r (List.mem_of_mem_take hr)
    · rw [List.mem_singleton] at hr; subst hr; omega
  · exact hp r (List.mem_of_mem_drop hr)
theorem ok_is_integer {P : Program} {w : World} {K : PySem.W.Frag} {mg : Str → Option Value} {base : Heap} {f : Addr} {fd : FuncData} (F : L2.Fun K "is_integer" "is_integer" s_is_integer f fd)
    {C_InvalidPairs fI_InvalidPairs : Addr} {fd_InvalidPairs : FuncData} (e_InvalidPairs : Exk P w K mg base "InvalidPairs" ["self", "value"] ["value"] C_InvalidPairs fI_InvalidPairs fd_InvalidPairs)
    {C_TooMany fI_TooMany : Addr} {fd_TooMany : FuncData} (e_TooMany : Exk P w K mg base "TooMany" ["self", "what"] ["what"] C_TooMany fI_TooMany fd_TooMany)
    {C_Undefined fI_Undefined : Addr} {fd_Undefined : FuncData} (e_Undefined : Exk P w K mg base "Undefined" ["self", "what"] ["what"] C_Undefined fI_Undefined fd_Undefined)
    {C_Table : Addr} (i_Table : Ins K C_Table ["lines", "most", "taken", "plan"])
    (m_isinstance : mg "isinstance" = none)
    (m_bool : mg "bool" = none)
    (m_int : mg "int" = none) :
    FnOk P w K mg base CX0 (1) f fd P_is_integer (Ct K (W_f noOb intD)) := by
  refine ok_ct F sc_is_integer (fun ss P h => ?_) (fun cdv A outer s H E hr => ⟨_, (pss_one (ps_ret (pe_and (pe_callB (c_isiK K) (by rfl) m_isinstance (by decide +kernel) (pa_cons (pv 0) (pa_cons (pe_bltn (v := .ty "int") (by rfl) m_int (by decide +kernel) rfl) pa_nil))) (pe_one (pe_not (pe_callB (c_isiK K) (by rfl) m_isinstance (by decide +kernel) (pa_cons (pv 0) (pa_cons (pe_bltn (v := .ty "bool") (by rfl) m_bool (by decide +kernel) rfl) pa_nil)))))))), fun J ss P h => ?_⟩)
  · obtain ⟨x, rfl, _⟩ := h
    rfl
  · obtain ⟨x, rfl, hx, hP⟩ := h
    show Sv K J [.d x] _ _
    walk_at "S"
    cases x <;> first | exact absurd hx Bool.false_ne_true | skip
    all_goals
      repeat walk_at "E"
      exact hP
theorem ok_is_within {P : Program} {w : World} {K : PySem.W.Frag} {mg : Str → Option Value} {base : Heap} {f : Addr} {fd : FuncData} (F : L2.Fun K "is_within" "is_within" s_is_within f fd)
    {C_InvalidPairs fI_InvalidPairs : Addr} {fd_InvalidPairs : FuncData} (e_InvalidPairs : Exk P w K mg base "InvalidPairs" ["self", "value"] ["value"] C_InvalidPairs fI_InvalidPairs fd_InvalidPairs)
    {C_TooMany fI_TooMany : Addr} {fd_TooMany : FuncData} (e_TooMany : Exk P w K mg base "TooMany" ["self", "what"] ["what"] C_TooMany fI_TooMany fd_TooMany)
    {C_Undefined fI_Undefined : Addr} {fd_Undefined : FuncData} (e_Undefined : Exk P w K mg base "Undefined" ["self", "what"] ["what"] C_Undefined fI_Undefined fd_Undefined)
    {C_Table : Addr} (i_Table : Ins K C_Table ["lines", "most", "taken", "plan"])
    (c_is_integer : Cal P w K mg base 1 "is_integer" P_is_integer (Ct K (W_f noOb intD))) :
    FnOk P w K mg base CX0 (2) f fd P_is_within (Ct K W_within) := by
  refine ok_ct F sc_is_within (fun ss P h => ?_) (fun cdv A outer s H E hr => ⟨_, (pss_cons (ps_asg (pv 1) (pg_tupK K 2 (by rfl) (pgs_cons (pg_name (i := 2) sc_is_within.nd rfl (by first | exact Or.inl rfl | exact Or.inr rfl)) (pgs_cons (pg_name (i := 3) sc_is_within.nd rfl (by first | exact Or.inl rfl | exact Or.inr rfl)) pgs_nil))))
      (pss_one (ps_ret (pe_and (pe_callC c_is_integer hr (by rfl) (pa_cons (pv 0) pa_nil)) (pe_one (pe_chain op_le op_le (pv 2) (pv 0) (pv 3))))))), fun J ss P h => ?_⟩)
  · obtain ⟨x, a, b, rfl, _⟩ := h
    rfl
  · obtain ⟨x, a, b, rfl, hx, hP⟩ := h
    show Sv K J [.d x, .d (.tup [.int a, .int b]), .no, .no] _ _
    walk_at "S"
    refine sv_asgG [2, 3] (ev_var rfl (gt_tup rfl (gs_cons (gt_name (by decide) (gs_cons (gt_name (by decide) (gs_nil ?_)))))))
    walk_at "S"
    cases x <;> first | exact absurd hx Bool.false_ne_true | skip
    case int i =>
      repeat walk_at "E"
      refine ⟨_, rfl, rfl, ?_⟩
      repeat walk_at "E"
      refine ⟨fun hb => ?_, fun hb => ?_⟩
      · repeat walk_at "E"
        have : inB (.int i) a b = decide (i ≤ b) := by
          show (decide (a ≤ i) && decide (i ≤ b)) = _
          rw [hb]; rfl
        rw [this] at hP
        exact hP
      · have : inB (.int i) a b = false := by
          show (decide (a ≤ i) && decide (i ≤ b)) = _
          rw [hb]; rfl
        rw [this] at hP
        exact hP
    all_goals
      repeat walk_at "E"
      refine ⟨_, rfl, rfl, ?_⟩
      repeat walk_at "E"
      exact hP
theorem ok_check_pairs {P : Program} {w : World} {K : PySem.W.Frag} {mg : Str → Option Value} {base : Heap} {f : Addr} {fd : FuncData} (F : L2.Fun K "check_pairs" "check_pairs" s_check_pairs f fd)
    {C_InvalidPairs fI_InvalidPairs : Addr} {fd_InvalidPairs : FuncData} (e_InvalidPairs : Exk P w K mg base "InvalidPairs" ["self", "value"] ["value"] C_InvalidPairs fI_InvalidPairs fd_InvalidPairs)
    {C_TooMany fI_TooMany : Addr} {fd_TooMany : FuncData} (e_TooMany : Exk P w K mg base "TooMany" ["self", "what"] ["what"] C_TooMany fI_TooMany fd_TooMany)
    {C_Undefined fI_Undefined : Addr} {fd_Undefined : FuncData} (e_Undefined : Exk P w K mg base "Undefined" ["self", "what"] ["what"] C_Undefined fI_Undefined fd_Undefined)
    {C_Table : Addr} (i_Table : Ins K C_Table ["lines", "most", "taken", "plan"])
    (m_isinstance : mg "isinstance" = none)
    (m_tuple : mg "tuple" = none)
    (m_all : mg "all" = none)
    (m_len : mg "len" = none)
    (c_is_within : Cal P w K mg base 2 "is_within" P_is_within (Ct K W_within)) :
    FnOk P w K mg base (L2.CX P w) (3) f fd P_check_pairs (CtX K (W_ckpairs C_InvalidPairs)) := by
  refine ok_ctx F sc_check_pairs (fun ss P PX h => ?_) (fun cdv A outer s H E hr => ⟨_, (pss_cons (ps_if (pt_not (pt_val (pe_callB (c_isiK K) (by rfl) m_isinstance (by decide +kernel) (pa_cons (pv 1) (pa_cons (pe_bltn (v := .ty "tuple") (by rfl) m_tuple (by decide +kernel) rfl) pa_nil)))))
        (pss_one (ps_raiseK rfl (takes_of rfl rfl rfl rfl) (pmk_oex e_InvalidPairs.ex e_InvalidPairs.iC e_InvalidPairs.tI e_InvalidPairs.fn (hr.mono (by decide)) e_InvalidPairs.b .nil pass0 rfl e_InvalidPairs.g (pa_cons (pv 1) pa_nil))))
        pss_nil)
      (pss_one (ps_for (passes_of rfl) rfl (pi_seqK K (pv 1)) (pg_name (i := 2) sc_check_pairs.nd rfl (by first | exact Or.inl rfl | exact Or.inr rfl))
        (pss_cons (ps_if (PW.pt (pw_or (pt_not (pt_val (pe_callB (c_isiK K) (by rfl) m_isinstance (by decide +kernel) (pa_cons (pv 2) (pa_cons (pe_bltn (v := .ty "tuple") (by rfl) m_tuple (by decide +kernel) rfl) pa_nil))))) (pw_or (pt_cmpR op_ne (pe_callB (c_lenK K) (by rfl) m_len PySem.boot_len (pa_cons (pv 2) pa_nil)) pe_int (nomark _)) (pw_or1 (pt_not (pt_val (pe_callB (c_allK K) (by rfl) m_all (by decide +kernel) (pa_cons (pe_lc (own := [("end", 5)]) rfl sc_check_pairs.nd (pi_seqK K (pv 2)) (blkOk_by (N := N_check_pairs) (sc := defScope s_check_pairs) (by decide +kernel)) (fun _ _ _ _ _ => (pg_name (i := 5) sc_check_pairs.nd rfl (by first | exact Or.inl rfl | exact Or.inr rfl))) (fun _ _ _ _ _ => pts_nil) (fun _ _ _ _ _ => (pe_callC c_is_within hr (by rfl) (pa_cons (pv 5) (pa_cons (pe_tup (pa_cons pe_int (pa_cons (pe_op op_sub (pv 0) pe_int) pa_nil))) pa_nil))))) pa_nil))))))))
        (pss_one (ps_raiseK rfl (takes_of rfl rfl rfl rfl) (pmk_oex e_InvalidPairs.ex e_InvalidPairs.iC e_InvalidPairs.tI e_InvalidPairs.fn (hr.mono (by decide)) e_InvalidPairs.b .nil pass0 rfl e_InvalidPairs.g (pa_cons (pv 1) pa_nil))))
        pss_nil)
      (pss_cons (ps_asg (pv 2) (pg_tupK K 2 (by rfl) (pgs_cons (pg_name (i := 3) sc_check_pairs.nd rfl (by first | exact Or.inl rfl | exact Or.inr rfl)) (pgs_cons (pg_name (i := 4) sc_check_pairs.nd rfl (by first | exact Or.inl rfl | exact Or.inr rfl)) pgs_nil))))
      (pss_one (ps_if (pt_cmpR op_eq (pv 3) (pv 4) (nomark _))
        (pss_one (ps_raiseK rfl (takes_of rfl rfl rfl rfl) (pmk_oex e_InvalidPairs.ex e_InvalidPairs.iC e_InvalidPairs.tI e_InvalidPairs.fn (hr.mono (by decide)) e_InvalidPairs.b .nil pass0 rfl e_InvalidPairs.g (pa_cons (pv 1) pa_nil))))
        pss_nil))))))), fun J ss P PX h => ?_⟩)
  · obtain ⟨x, n, rfl, _⟩ := h
    rfl
  · obtain ⟨x, n, rfl, hpx, hP, hX⟩ := h
    have hx := hpx.no
    show Sv K J [.d (.int n), .d x, .no, .no, .no, .no] _ _
    walk_at "S"
    walk_at "S"
    repeat walk_at "E"
    refine ⟨hx, ?_⟩
    repeat walk_at "E"
    cases x
    case tup ds =>
      refine bc_f rfl ?_
      walk_at "S"
      refine sv_for [2] (ei_seq (ev_var rfl ⟨_, .inr rfl, fun k e => ∃ s2 s3 s4 s5, e = [.d (.int n), .d (.tup ds), s2, s3, s4, s5] ∧ ds.all (pairB n) = (ds.drop k).all (pairB n), ⟨_, _, _, _, rfl, rfl⟩, ?_, ?_⟩))
      · rintro k d e hd ⟨s2, s3, s4, s5, rfl, ha⟩
        have hpd := hpx.tup.2 d (List.mem_of_getElem? hd)
        rw [drop_at hd, List.all_cons] at ha
        have no : pairB n d = false → pairsB n (.tup ds) = false := fun z => by
          show ds.all (pairB n) = false
          rw [ha, z]; rfl
        refine gt_name (by decide) ?_
        refine sv_mid (fun e => ∃ a b s3 s4 s5, d = .tup [a, b] ∧ inB a 0 (n - 1) = true ∧ inB b 0 (n - 1) = true ∧ e = [.d (.int n), .d (.tup ds), .d d, s3, s4, s5]) (sv_if ?_) ?_
        · repeat walk_at "E"
          refine ⟨hpd.no, ?_⟩
          repeat walk_at "E"
          cases d
          case tup es =>
            refine bc_f rfl ?_
            repeat walk_at "E"
            refine ⟨fun hb => ?_, fun hb => ?_⟩
            · refine bc_t rfl ?_
              refine sv_raise e_InvalidPairs.ex e_InvalidPairs.nf rfl (ed_cons (ev_var rfl (ed_nil ⟨rfl, by decide, hX (no ?_)⟩)))
              unfold pairB
              split
              · rename_i a b e; cases e; exact absurd hb (by simp)
              · rfl
            · obtain ⟨a, b, rfl⟩ : ∃ a b, es = [a, b] := by
                match es, hb with
                | [a, b], _ => exact ⟨a, b, rfl⟩
                | [], hb => exact absurd hb (by simp)
                | [_], hb => exact absurd hb (by simp)
                | _ :: _ :: _ :: r, hb =>
                  have := of_decide_eq_true (by simpa using hb)
                  omega
              repeat walk_at "E"
              refine Em.ev (em_map (fun d => .bl (inB d 0 (n - 1))) (ei_seq (ev_var rfl ⟨_, .inr rfl, Nat.le_of_ble_eq_true rfl, fun d hd => gt_name (by decide) ?_, ?_⟩)))
              · repeat walk_at "E"
                exact ⟨_, _, _, rfl, (hpd.tup.2 d hd).no, rfl⟩
              · refine ed_nil ?_
                rw [show ([a, b].map fun d => Dt.bl (inB d 0 (n - 1))) = ([a, b].map fun d => inB d 0 (n - 1)).map Dt.bl by rw [List.map_map]; rfl]
                refine oc_all ?_
                rw [all2]
                refine ⟨_, rfl, fun hb2 => ?_, fun hb2 => ?_⟩
                · refine sv_raise e_InvalidPairs.ex e_InvalidPairs.nf rfl (ed_cons (ev_var rfl (ed_nil ⟨rfl, by decide, hX (no ?_)⟩)))
                  show (inB a 0 (n - 1) && inB b 0 (n - 1) && !eqD a b) = false
                  rw [Bool.not_eq_true'] at hb2
                  rw [hb2]; rfl
                · rw [Bool.not_eq_false', Bool.and_eq_true] at hb2
                  exact sv_next ⟨a, b, _, _, _, rfl, hb2.1, hb2.2, rfl⟩
          all_goals first | exact absurd hpd.no Bool.false_ne_true | skip
          all_goals
            refine bc_t rfl ?_
            repeat walk_at "E"
            exact sv_raise e_InvalidPairs.ex e_InvalidPairs.nf rfl (ed_cons (ev_var rfl (ed_nil ⟨rfl, by decide, hX (no rfl)⟩)))
        · rintro e ⟨a, b, s3, s4, s5, rfl, h1, h2, rfl⟩
          obtain ⟨i, rfl⟩ := intD_of (d := a) (by cases a <;> first | rfl | cases h1)
          obtain ⟨j, rfl⟩ := intD_of (d := b) (by cases b <;> first | rfl | cases h2)
          refine sv_seq (sv_asgG [3, 4, 5] (ev_var rfl (gt_tup rfl (gs_cons (gt_name (by decide) (gs_cons (gt_name (by decide) (gs_nil (sv_if ?_)))))))))
          repeat walk_at "E"
          refine ⟨fun hb => ?_, fun hb => sv_next ⟨_, _, _, _, rfl, ?_⟩⟩
          · refine sv_raise e_InvalidPairs.ex e_InvalidPairs.nf rfl (ed_cons (ev_var rfl (ed_nil ⟨rfl, by decide, hX (no ?_)⟩)))
            have := of_decide_eq_true hb
            subst this
            show (inB (.int i) 0 (n - 1) && inB (.int i) 0 (n - 1) && !(i == i)) = false
            simp
          · have hne := of_decide_eq_false hb
            rw [ha]
            have : pairB n (.tup [.int i, .int j]) = true := by
              show (inB (.int i) 0 (n - 1) && inB (.int j) 0 (n - 1) && !(i == j)) = true
              rw [h1, h2]
              simpa using hne
            rw [this]; rfl
      · rintro e ⟨s2, s3, s4, s5, rfl, ha⟩
        rw [List.drop_length] at ha
        exact hP ha
    all_goals first | exact absurd hx Bool.false_ne_true | skip
    all_goals
      refine bc_t rfl ?_
      exact sv_raise e_InvalidPairs.ex e_InvalidPairs.nf rfl (ed_cons (ev_var rfl (ed_nil ⟨rfl, by decide, hX rfl⟩)))
theorem ok_rounded_up {P : Program} {w : World} {K : PySem.W.Frag} {mg : Str → Option Value} {base : Heap} {f : Addr} {fd : FuncData} (F : L2.Fun K "rounded_up" "rounded_up" s_rounded_up f fd)
    {C_InvalidPairs fI_InvalidPairs : Addr} {fd_InvalidPairs : FuncData} (e_InvalidPairs : Exk P w K mg base "InvalidPairs" ["self", "value"] ["value"] C_InvalidPairs fI_InvalidPairs fd_InvalidPairs)
    {C_TooMany fI_TooMany : Addr} {fd_TooMany : FuncData} (e_TooMany : Exk P w K mg base "TooMany" ["self", "what"] ["what"] C_TooMany fI_TooMany fd_TooMany)
    {C_Undefined fI_Undefined : Addr} {fd_Undefined : FuncData} (e_Undefined : Exk P w K mg base "Undefined" ["self", "what"] ["what"] C_Undefined fI_Undefined fd_Undefined)
    {C_Table : Addr} (i_Table : Ins K C_Table ["lines", "most", "taken", "plan"]) :
    FnOk P w K mg base CX0 (1) f fd P_rounded_up (Ct K W_up) := by
  refine ok_ct F sc_rounded_up (fun ss P h => ?_) (fun cdv A outer s H E hr => ⟨_, (pss_one (ps_ret (pe_un un_neg (pe_op op_fdiv (pe_un un_neg (pv 0)) (pv 1))))), fun J ss P h => ?_⟩)
  · obtain ⟨a, b, rfl, _⟩ := h
    rfl
  · obtain ⟨a, b, rfl, h0, h1, hP⟩ := h
    show Sv K J [.d (.int (a : Int)), .d (.int (b : Int))] _ _
    walk_at "S"
    repeat walk_at "E"
    refine o2_I (C := CDiv) (cdiv_ok (by omega) (by omega)) ?_
    repeat walk_at "E"
    rw [up_eq h0]
    exact hP
theorem ok__law_cell {P : Program} {w : World} {K : PySem.W.Frag} {mg : Str → Option Value} {base : Heap} {f : Addr} {fd : FuncData} (F : L2.Fun K "_law_cell" "_law_cell" s__law_cell f fd)
    {C_InvalidPairs fI_InvalidPairs : Addr} {fd_InvalidPairs : FuncData} (e_InvalidPairs : Exk P w K mg base "InvalidPairs" ["self", "value"] ["value"] C_InvalidPairs fI_InvalidPairs fd_InvalidPairs)
    {C_TooMany fI_TooMany : Addr} {fd_TooMany : FuncData} (e_TooMany : Exk P w K mg base "TooMany" ["self", "what"] ["what"] C_TooMany fI_TooMany fd_TooMany)
    {C_Undefined fI_Undefined : Addr} {fd_Undefined : FuncData} (e_Undefined : Exk P w K mg base "Undefined" ["self", "what"] ["what"] C_Undefined fI_Undefined fd_Undefined)
    {C_Table : Addr} (i_Table : Ins K C_Table ["lines", "most", "taken", "plan"])
    (m_len : mg "len" = none)
    (m_abs : mg "abs" = none)
    (m_int : mg "int" = none) :
    FnOk P w K mg base CX0 (1) f fd P__law_cell (Ct K W_cell) := by
  refine ok_ct F sc__law_cell (fun ss P h => ?_) (fun cdv A outer s H E hr => ⟨_, (pss_cons (ps_if (pt_cmpR op_lt (pv 1) (pe_callB (c_lenK K) (by rfl) m_len PySem.boot_len (pa_cons (pv 0) pa_nil)) (nomark _))
        (pss_one (ps_ret (pe_callB c_abs (by rfl) m_abs (by decide +kernel) (pa_cons (pe_callTy c_int (by rfl) m_int (by decide +kernel) (pa_cons (pe_ix (ix_seqK K) (pv 0) (pv 1) (fun _ _ => rfl)) pa_nil)) pa_nil))))
        pss_nil)
      (pss_one (ps_ret pe_int))), fun J ss P h => ?_⟩)
  · obtain ⟨ns, k, rfl, _⟩ := h
    rfl
  · obtain ⟨ns, k, rfl, hP⟩ := h
    show Sv K J [.d (.lst (ns.map Dt.int)), .d (.int (k : Int))] _ _
    refine sv_seq (sv_if ?_)
    repeat walk_at "E"
    refine ⟨fun hb => ?_, fun hb => sv_next ?_⟩
    · have hb := of_decide_eq_true hb
      rw [List.length_map] at hb
      walk_at "S"
      repeat walk_at "E"
      refine o2_ixL (atD_nat (d := .int (ns.getD k 0)) (by rw [List.getElem?_map, List.getElem?_eq_getElem (by omega), List.getD_eq_getElem?_getD, List.getElem?_eq_getElem (by omega)]; rfl)) ?_
      repeat walk_at "E"
      exact hP _ (by first | omega | exact Int.natCast_nonneg _ | (split <;> omega))
    · walk_at "S"
      repeat walk_at "E"
      exact hP 0 (by omega)
theorem ok__law_draws {P : Program} {w : World} {K : PySem.W.Frag} {mg : Str → Option Value} {base : Heap} {f : Addr} {fd : FuncData} (F : L2.Fun K "_law_draws" "_law_draws" s__law_draws f fd)
    {C_InvalidPairs fI_InvalidPairs : Addr} {fd_InvalidPairs : FuncData} (e_InvalidPairs : Exk P w K mg base "InvalidPairs" ["self", "value"] ["value"] C_InvalidPairs fI_InvalidPairs fd_InvalidPairs)
    {C_TooMany fI_TooMany : Addr} {fd_TooMany : FuncData} (e_TooMany : Exk P w K mg base "TooMany" ["self", "what"] ["what"] C_TooMany fI_TooMany fd_TooMany)
    {C_Undefined fI_Undefined : Addr} {fd_Undefined : FuncData} (e_Undefined : Exk P w K mg base "Undefined" ["self", "what"] ["what"] C_Undefined fI_Undefined fd_Undefined)
    {C_Table : Addr} (i_Table : Ins K C_Table ["lines", "most", "taken", "plan"])
    (m_range : mg "range" = none)
    (m_int : mg "int" = none) :
    FnOk P w K mg base CX0 (1) f fd P__law_draws (CtM K W_draws2) := by
  refine ok_ctm F sc__law_draws (fun ss P h => ?_) (fun cdv A outer s H E hr => ⟨_, (pss_cons (ps_set (i := 3) sc__law_draws.nd rfl (by first | exact Or.inl rfl | exact Or.inr rfl) pe_int)
      (pss_cons (ps_if (pt_cmpR op_ge (pv 0) (pe_op op_pow pe_int pe_int) (nomark _))
        (pss_one (ps_set (i := 3) sc__law_draws.nd rfl (by first | exact Or.inl rfl | exact Or.inr rfl) (pv 0)))
        pss_nil)
      (pss_cons (ps_set (i := 4) sc__law_draws.nd rfl (by first | exact Or.inl rfl | exact Or.inr rfl) (pe_lst pa_nil))
      (pss_cons (ps_for PassesOwn.never rfl (pi_range1 (by rfl) m_range (pa_cons (pv 1) pa_nil)) (pg_name (i := 5) sc__law_draws.nd rfl (by first | exact Or.inl rfl | exact Or.inr rfl))
        (pss_one (ps_if (pt_cmpR op_ge (pv 3) (pv 2) (nomark _))
        (pss_cons (ps_expr (pe_bm PySem.F.plainAttrs_list PySem.F.slot_list_append PySem.F.type_list_append mt_append (pv 4) (pa_cons (pe_op op_mod (pe_callTy c_int (by rfl) m_int (by decide +kernel) (pa_cons (pv 3) pa_nil)) (pv 2)) pa_nil)))
      (pss_one (ps_set (i := 3) sc__law_draws.nd rfl (by first | exact Or.inl rfl | exact Or.inr rfl) (pe_op op_fdiv (pv 3) (pv 2)))))
        (pss_cons (ps_set (i := 6) sc__law_draws.nd rfl (by first | exact Or.inl rfl | exact Or.inr rfl) (pe_op op_mod (pe_callTy c_int (by rfl) m_int (by decide +kernel) (pa_cons (pe_op op_add (pe_op op_mul (pv 0) pe_int) (pe_op op_mul (pe_op op_add (pv 5) pe_int) pe_int)) pa_nil)) pe_int))
      (pss_cons (ps_set (i := 7) sc__law_draws.nd rfl (by first | exact Or.inl rfl | exact Or.inr rfl) (pe_op op_mod (pe_callTy c_int (by rfl) m_int (by decide +kernel) (pa_cons (pe_op op_add (pe_op op_mul (pv 6) (pv 6)) (pe_op op_mul (pe_op op_add (pv 5) pe_int) pe_int)) pa_nil)) pe_int))
      (pss_cons (ps_set (i := 8) sc__law_draws.nd rfl (by first | exact Or.inl rfl | exact Or.inr rfl) (pe_op op_mod (pe_callTy c_int (by rfl) m_int (by decide +kernel) (pa_cons (pe_op op_add (pe_op op_mul (pv 7) (pv 7)) (pv 6)) pa_nil)) pe_int))
      (pss_one (ps_expr (pe_bm PySem.F.plainAttrs_list PySem.F.slot_list_append PySem.F.type_list_append mt_append (pv 4) (pa_cons (pe_op op_mod (pv 8) (pv 2)) pa_nil))))))))))
      (pss_one (ps_ret (pv 4))))))), fun J ss P h => ?_⟩)
  · obtain ⟨c, mo, m, rfl, _⟩ := h
    rfl
  · obtain ⟨c, mo, m, rfl, hc, hm, h0, h1, hP⟩ := h
    show Sv K J [.d (.int c), .d (.int (m : Int)), .d (.int mo), .no, .no, .no, .no, .no, .no] _ _
    walk_at "S"
    walk_at "S"
    repeat walk_at "E"
    refine sv_mid (fun e => ∃ l : Int, e = [.d (.int c), .d (.int (m : Int)), .d (.int mo), .d (.int l), .no, .no, .no, .no, .no]) (sv_if ?_) ?_
    · repeat walk_at "E"
      refine ⟨fun hb => ?_, fun hb => sv_next ⟨_, rfl⟩⟩
      walk_at "S"
      repeat walk_at "E"
      exact ⟨_, rfl⟩
    · rintro e ⟨l, rfl⟩
      refine sv_seq (sv_asgM (em_lst (ed_nil ⟨by decide, ?_⟩)))
      refine sv_seq (sv_for [5] (ei_range (ed_cons (ev_var rfl (ed_nil ⟨_, rfl, by omega, by omega, fun k e => ∃ (l : Int) (dr : List Int) (s5 s6 s7 s8 : Sl), e = [.d (.int c), .d (.int (m : Int)), .d (.int mo), .d (.int l), .ml (dr.map Dt.int), s5, s6, s7, s8] ∧ dr.length = k, ⟨l, [], _, _, _, _, rfl, rfl⟩, ?_, ?_⟩)))))
      · rintro k d e hd ⟨l, dr, s5, s6, s7, s8, rfl, hl⟩
        obtain ⟨rfl, hk⟩ := range_at hd
        refine gt_name (by decide) (sv_if ?_)
        repeat walk_at "E"
        refine ⟨fun hb => ?_, fun hb => ?_⟩
        · refine sv_seq (sv_app rfl (by rw [List.length_map]; omega) ?_)
          repeat walk_at "E"
          rw [show dr.map Dt.int ++ [.int (l % mo)] = (dr ++ [l % mo]).map Dt.int by rw [List.map_append]; rfl]
          refine sv_asg ?_
          repeat walk_at "E"
          refine o2_I (C := CDiv) (cdiv_ok (by omega) (by omega)) ?_
          exact ⟨_, _, _, _, _, _, rfl, by simp; omega⟩
        · walk_at "S"
          walk_at "S"
          repeat walk_at "E"
          have hf : 0 ≤ (c * 48271 + ((k : Int) + 1) * 69621) % 2147483647 ∧ (c * 48271 + ((k : Int) + 1) * 69621) % 2147483647 < 2147483647 := ⟨Int.emod_nonneg _ (by decide), Int.emod_lt_of_pos _ (by decide)⟩
          generalize (c * 48271 + ((k : Int) + 1) * 69621) % 2147483647 = f at hf
          walk_at "S"
          walk_at "S"
          repeat walk_at "E"
          have hg : 0 ≤ (f * f + ((k : Int) + 1) * 40692) % 2147483399 ∧ (f * f + ((k : Int) + 1) * 40692) % 2147483399 < 2147483399 := ⟨Int.emod_nonneg _ (by decide), Int.emod_lt_of_pos _ (by decide)⟩
          generalize (f * f + ((k : Int) + 1) * 40692) % 2147483399 = g at hg
          walk_at "S"
          walk_at "S"
          repeat walk_at "E"
          refine sv_app rfl (by rw [List.length_map]; omega) ?_
          repeat walk_at "E"
          exact ⟨_, dr ++ [_], _, _, _, _, by rw [List.map_append]; rfl, by simp; omega⟩
      · rintro e ⟨l, dr, s5, s6, s7, s8, rfl, hl⟩
        refine sv_retM rfl (hP dr ?_)
        rw [List.length_map, List.length_range, Int.toNat_natCast] at hl
        exact hl
theorem ok__law_hand {P : Program} {w : World} {K : PySem.W.Frag} {mg : Str → Option Value} {base : Heap} {f : Addr} {fd : FuncData} (F : L2.Fun K "_law_hand" "_law_hand" s__law_hand f fd)
    {C_InvalidPairs fI_InvalidPairs : Addr} {fd_InvalidPairs : FuncData} (e_InvalidPairs : Exk P w K mg base "InvalidPairs" ["self", "value"] ["value"] C_InvalidPairs fI_InvalidPairs fd_InvalidPairs)
    {C_TooMany fI_TooMany : Addr} {fd_TooMany : FuncData} (e_TooMany : Exk P w K mg base "TooMany" ["self", "what"] ["what"] C_TooMany fI_TooMany fd_TooMany)
    {C_Undefined fI_Undefined : Addr} {fd_Undefined : FuncData} (e_Undefined : Exk P w K mg base "Undefined" ["self", "what"] ["what"] C_Undefined fI_Undefined fd_Undefined)
    {C_Table : Addr} (i_Table : Ins K C_Table ["lines", "most", "taken", "plan"])
    (m_range : mg "range" = none)
    (c__law_draws : Cal P w K mg base 1 "_law_draws" P__law_draws (CtM K W_draws2))
    (c__law_cell : Cal P w K mg base 1 "_law_cell" P__law_cell (Ct K W_cell)) :
    FnOk P w K mg base CX0 (2) f fd P__law_hand (CtM K W_hand) := by
  refine ok_ctm F sc__law_hand (fun ss P h => ?_) (fun cdv A outer s H E hr => ⟨_, (pss_cons (ps_set (i := 3) sc__law_hand.nd rfl (by first | exact Or.inl rfl | exact Or.inr rfl) (pe_lst pa_nil))
      (pss_cons (ps_for PassesOwn.never rfl (pi_range1 (by rfl) m_range (pa_cons (pv 1) pa_nil)) (pg_name (i := 4) sc__law_hand.nd rfl (by first | exact Or.inl rfl | exact Or.inr rfl))
        (pss_one (ps_set (i := 3) sc__law_hand.nd rfl (by first | exact Or.inl rfl | exact Or.inr rfl) (pe_op op_cat (pv 3) (pe_callC c__law_draws hr (by rfl) (pa_cons (pe_callC c__law_cell hr (by rfl) (pa_cons (pv 0) (pa_cons (pv 4) pa_nil))) (pa_cons (pv 2) (pa_cons pe_int pa_nil))))))))
      (pss_cons (ps_expr (pe_bm0K K PySem.F.plainAttrs_list PySem.F.slot_list_reverse PySem.F.type_list_reverse mt_reverse (pv 3)))
      (pss_one (ps_ret (pv 3)))))), fun J ss P h => ?_⟩)
  · obtain ⟨ns, c, m, rfl, _⟩ := h
    rfl
  · obtain ⟨ns, c, m, rfl, hcm, hm, hc, hP⟩ := h
    show Sv K J [.d (.lst (ns.map Dt.int)), .d (.int (c : Int)), .d (.int (m : Int)), .no, .no] _ _
    refine sv_seq (sv_asgM (em_lst (ed_nil ⟨by decide, ?_⟩)))
    refine sv_seq (sv_for [4] (ei_range (ed_cons (ev_var rfl (ed_nil ⟨_, rfl, by omega, by omega, fun k e => ∃ (dr : List Int) (s4 : Sl), e = [.d (.lst (ns.map Dt.int)), .d (.int (c : Int)), .d (.int (m : Int)), .ml (dr.map Dt.int), s4] ∧ dr.length = k * m, ⟨[], _, rfl, by simp⟩, ?_, ?_⟩)))))
    · rintro k d e hd ⟨dr, s4, rfl, hl⟩
      obtain ⟨rfl, hk⟩ := range_at hd
      have hkm : (k + 1) * m ≤ c * m := Nat.mul_le_mul_right _ hk
      rw [Nat.succ_mul] at hkm
      refine gt_name (by decide) (sv_asgM (em_cat (el_var rfl (Em.el (em_call (ea_cons (ev_call (ea_cons (ev_var rfl (ea_cons (ev_var rfl (ea_nil ⟨ns, k, rfl, fun i hi => ?_⟩))))))))))))
      refine ea_cons (ev_var rfl (ea_cons (ev_int (ea_nil ⟨i, 2520, m, rfl, hi, hm, by decide, by decide, fun q hq => ?_⟩))))
      refine ⟨by rw [List.length_map, List.length_map]; omega, dr ++ q, _, by rw [List.map_append]; rfl, by rw [List.length_append, Nat.succ_mul]; omega⟩
    · rintro e ⟨dr, s4, rfl, hl⟩
      rw [List.length_map, List.length_range, Int.toNat_natCast] at hl
      refine sv_seq (sv_rev rfl ?_)
      exact sv_retM rfl (hP _ (by rw [List.length_reverse]; omega))
theorem ok__law_take {P : Program} {w : World} {K : PySem.W.Frag} {mg : Str → Option Value} {base : Heap} {f : Addr} {fd : FuncData} (F : L2.Fun K "_law_take" "_law_take" s__law_take f fd)
    {C_InvalidPairs fI_InvalidPairs : Addr} {fd_InvalidPairs : FuncData} (e_InvalidPairs : Exk P w K mg base "InvalidPairs" ["self", "value"] ["value"] C_InvalidPairs fI_InvalidPairs fd_InvalidPairs)
    {C_TooMany fI_TooMany : Addr} {fd_TooMany : FuncData} (e_TooMany : Exk P w K mg base "TooMany" ["self", "what"] ["what"] C_TooMany fI_TooMany fd_TooMany)
    {C_Undefined fI_Undefined : Addr} {fd_Undefined : FuncData} (e_Undefined : Exk P w K mg base "Undefined" ["self", "what"] ["what"] C_Undefined fI_Undefined fd_Undefined)
    {C_Table : Addr} (i_Table : Ins K C_Table ["lines", "most", "taken", "plan"])
    (m_len : mg "len" = none)
    (m_int : mg "int" = none) :
    FnOk P w K mg base CX0 (1) f fd P__law_take (Ct K W_take1) := by
  refine take_ok1 F sc__law_take rfl (fun cdv A outer s H E hr => ⟨_, (pss_cons (ps_if (pt_cmpR op_eq (pe_callB (c_lenK K) (by rfl) m_len PySem.boot_len (pa_cons (pv 0) pa_nil)) pe_int (nomark _))
        (pss_one (ps_ret pe_int))
        pss_nil)
      (pss_one (ps_ret (pe_op op_mod (pe_callTy c_int (by rfl) m_int (by decide +kernel) (pa_cons (pe_bm0K K PySem.F.plainAttrs_list PySem.F.slot_list_pop PySem.F.type_list_pop mt_pop (pv 0)) pa_nil)) (pv 1))))), fun h ns m Q a hm q0 q1 => ?_⟩)
  refine ⟨.ref h, rfl, .ref h, ns.length, rfl, .inl ⟨_, .inl (.inl a), by simp⟩, rfl, _, rfl, ite2 (fun e => ?_) (fun e => ?_)⟩
  · have e := of_decide_eq_true e
    injection e with e
    exact q0 (List.length_eq_zero_iff.mp (by omega))
  · have hn : ns ≠ [] := fun z => by
      subst z
      exact e rfl
    have hl : 0 < ns.length := List.length_pos_iff.mpr hn
    have hy : (ns.map V.int)[(ns.map V.int).length - 1]? = some (V.int (ns[ns.length - 1]'(by omega))) := by
      rw [List.getElem?_map, List.length_map, List.getElem?_eq_getElem (by omega)]
      rfl
    refine ⟨.ref h, rfl, .inl ⟨rfl, _, .inl (.inl a)⟩, h, _, _, rfl, rfl, a, hy, .inl ⟨_, rfl, .int m, rfl, _, _, rfl, rfl, hm, ?_⟩⟩
    rw [← List.map_dropLast]
    exact q1 _ (Int.emod_nonneg _ (by omega)) (Int.emod_lt_of_pos _ hm) hn
theorem ok_walk {P : Program} {w : World} {K : PySem.W.Frag} {mg : Str → Option Value} {base : Heap} {f : Addr} {fd : FuncData} (F : L2.Fun K "walk" "walk" s_walk f fd)
    {C_InvalidPairs fI_InvalidPairs : Addr} {fd_InvalidPairs : FuncData} (e_InvalidPairs : Exk P w K mg base "InvalidPairs" ["self", "value"] ["value"] C_InvalidPairs fI_InvalidPairs fd_InvalidPairs)
    {C_TooMany fI_TooMany : Addr} {fd_TooMany : FuncData} (e_TooMany : Exk P w K mg base "TooMany" ["self", "what"] ["what"] C_TooMany fI_TooMany fd_TooMany)
    {C_Undefined fI_Undefined : Addr} {fd_Undefined : FuncData} (e_Undefined : Exk P w K mg base "Undefined" ["self", "what"] ["what"] C_Undefined fI_Undefined fd_Undefined)
    {C_Table : Addr} (i_Table : Ins K C_Table ["lines", "most", "taken", "plan"]) :
    FnOk P w K mg base (L2.CX P w) (2) f fd P_walk (CtP K W_walk) := by
  refine ok_ctp F sc_walk (fun M ss P PX h => ?_) (fun cdv A outer s H E hr => ⟨_, (pss_one (ps_while (passes_of rfl) (pt_truK K (pe_ix (ix_seqK K) (pv 2) (pv 0) (fun _ _ => rfl)) (by intro _; rfl))
        (pss_cons (ps_set (i := 4) sc_walk.nd rfl (by first | exact Or.inl rfl | exact Or.inr rfl) (pe_bm0K K PySem.F.plainAttrs_list PySem.F.slot_list_pop PySem.F.type_list_pop mt_pop (pe_ix (ix_seqK K) (pv 2) (pv 0) (fun _ _ => rfl))))
      (pss_cons (ps_if (pt_cmp (pc_din (hu1 hr.units) (pv 4) (pv 3)))
        (pss_one ps_continue)
        pss_nil)
      (pss_cons (ps_asg (pe_ix (ix_seqK K) (pv 1) (pv 4) (fun _ _ => rfl)) (pg_tupK K 2 (by rfl) (pgs_cons (pg_name (i := 5) sc_walk.nd rfl (by first | exact Or.inl rfl | exact Or.inr rfl)) (pgs_cons (pg_name (i := 6) sc_walk.nd rfl (by first | exact Or.inl rfl | exact Or.inr rfl)) pgs_nil))))
      (pss_cons (ps_set (i := 7) sc_walk.nd rfl (by first | exact Or.inl rfl | exact Or.inr rfl) (pe_ifExp (pt_cmpR op_eq (pv 0) (pv 5) (nomark _)) (pv 6) (pv 5)))
      (pss_cons (ps_dput (hu1 hr.units) (pv 3) (pv 4) (pe_tup (pa_cons (pv 0) (pa_cons (pv 7) pa_nil))) rfl)
      (pss_one (ps_set (i := 0) sc_walk.nd rfl (by first | exact Or.inl rfl | exact Or.inr rfl) (pv 7)))))))))), fun J M ss P PX h => ?_⟩)
  · obtain ⟨ps, n, rows, a, d, L, T, s, rfl, _⟩ := h
    rfl
  · obtain ⟨ps, n, rows, a, d, L, T, s, rfl, hok, hs, hsn, hpl, hMa, hMd, hnd, har, hdr, hda, hR, hP⟩ := h
    show SvM K J M [.d (.int (s : Int)), .d (.tup (pairsD ps)), .d (.ptr a), .d (.ptr d), .no, .no, .no, .no] _ _
    refine sm_while (fun m M' e => ∃ (s' : Nat) (L1 : List (List Nat)) (T1 : TH) (s4 s5 s6 s7 : Sl), e = [.d (.int (s' : Int)), .d (.tup (pairsD ps)), .d (.ptr a), .d (.ptr d), s4, s5, s6, s7] ∧ HS ps n L1 T1 ∧ s' < n ∧ totN L1 ≤ m ∧ walkHF ps (totN L) s L T = walkHF ps m s' L1 T1 ∧
      (∀ x, x ≠ d → x ∉ rows → M' x = M x) ∧ M' d = some (.dic (dicH T1)) ∧ RowsL M' rows L1) (m := totN L) ⟨s, L, T, _, _, _, _, rfl, hs, hsn, Nat.le_refl _, rfl, fun _ _ _ => rfl, hMd, hR⟩ ?_
    rintro m M' e ⟨s', L1, T1, s4, s5, s6, s7, rfl, hs1, hsn1, htot, hw, hfr, hMd', hR'⟩
    have hMa' : M' a = some (.lst (rows.map Dt.ptr)) := by rw [hfr a (Ne.symm hda) har]; exact hMa
    have hrl : s' < rows.length := by rw [hR'.1, hs1.len]; exact hsn1
    have hrs : rows[s']? = some rows[s'] := List.getElem?_eq_getElem hrl
    have hra : rows[s'] ∈ rows := List.getElem_mem hrl
    have hrowat : (rows.map Dt.ptr)[s']? = some (.ptr rows[s']) := by rw [List.getElem?_map, hrs]; rfl
    have hidx : ∀ i r, rows[i]? = some r → i ≠ s' → r ≠ rows[s'] := fun i r hi hne z => by
      obtain ⟨hi2, e⟩ := List.getElem?_eq_some_iff.mp hi
      have hp := List.pairwise_iff_getElem.mp hnd
      by_cases h : i < s'
      · exact hp i s' hi2 hrl h (e.trans z)
      · exact hp s' i hrl hi2 (by omega) (e.trans z).symm
    generalize rows[s'] = r at hrs hra hrowat hidx
    have hl : L1[s']? = some (L1.getD s' []) := by
      rw [List.getD_eq_getElem?_getD, List.getElem?_eq_getElem (by rw [hs1.len]; exact hsn1)]
      rfl
    have hMr := hR'.2 s' r _ hrs hl
    have hrd : r ≠ d := fun z => hdr (z ▸ hra)
    have hra2 : r ≠ a := fun z => har (z ▸ hra)
    refine etm fun MV => et_truP (ev_op (ev_var rfl (ev_var rfl (o2_ixP hMa' (atD_nat hrowat) ⟨r, _, rfl, hMr, ?_⟩))))
    cases hlast : (L1.getD s' []).getLast? with
    | none =>
      have he : L1.getD s' [] = [] := List.getLast?_eq_none_iff.mp hlast
      rw [he]
      refine ⟨fun z => (nomatch z), fun _ => ?_⟩
      have ew : walkHF ps m s' L1 T1 = (L1, T1, s') := by
        cases m with
        | zero => rfl
        | succ m =>
          show (match (L1.getD s' []).getLast? with | none => (L1, T1, s') | some p => _) = _
          rw [hlast]
      rw [hw, ew] at hP
      have hP' := hP M' hfr hMd' hR'
      refine less_same (fun x hx => ?_) hP'
      by_cases e1 : x = d
      · rw [e1, hMd']; simp
      · by_cases e2 : x ∈ rows
        · obtain ⟨i, hi, e3⟩ := List.getElem_of_mem e2
          have hiL : i < L1.length := by rw [← hR'.1]; exact hi
          rw [hR'.2 i x L1[i] (by rw [List.getElem?_eq_getElem hi, e3]) (List.getElem?_eq_getElem hiL)]
          simp
        · rw [hfr x e1 e2]; exact hx
    | some p =>
      have hne : (natsD (L1.getD s' [])).isEmpty = false := by
        have := last_nats hlast
        cases h : natsD (L1.getD s' []) with
        | nil => rw [h] at this; cases this
        | cons x r => rfl
      rw [hne]
      refine ⟨fun _ => ?_, fun z => (nomatch z)⟩
      obtain ⟨q, hq, htq⟩ := hs1.sub s' _ hl p (last_mem hlast)
      have hqo := hok q (List.mem_of_getElem? hq)
      have hqd : ps.getD p (0, 0) = q := by rw [List.getD_eq_getElem?_getD, hq]; rfl
      have hpos : 1 ≤ totN L1 := by
        have h1 := tot_set (l := []) hl
        have h2 : 0 < (L1.getD s' []).length := List.length_pos_of_mem (last_mem hlast)
        rw [List.length_nil] at h1
        omega
      obtain ⟨m', rfl⟩ : ∃ m', m = m' + 1 := ⟨m - 1, by omega⟩
      have ew : walkHF ps (m' + 1) s' L1 T1 = if p ∈ keysH T1 then walkHF ps m' s' (L1.set s' (L1.getD s' []).dropLast) T1
          else walkHF ps m' (othN q s') (L1.set s' (L1.getD s' []).dropLast) (T1 ++ [(p, (s', othN q s'))]) := by
        rw [← hqd]
        show (match (L1.getD s' []).getLast? with | none => (L1, T1, s') | some p => _) = _
        rw [hlast]
      refine sm_seq (sm_asg (evm_pop (evm fun MV => ev_op (ev_var rfl (ev_var rfl (o2_ixP hMa' (atD_nat hrowat) ⟨r, _, _, rfl, hMr, last_nats hlast, ?_⟩))))))
      rw [drop_nats]
      show SvM K J (updM M' r (.lst (natsD (L1.getD s' []).dropLast))) [.d (.int (s' : Int)), .d (.tup (pairsD ps)), .d (.ptr a), .d (.ptr d), .d (.int (p : Int)), s5, s6, s7] _ _
      have hR2 : RowsL (updM M' r (.lst (natsD (L1.getD s' []).dropLast))) rows (L1.set s' (L1.getD s' []).dropLast) := ⟨by rw [List.length_set]; exact hR'.1, fun j r' l hj hl' => by
        by_cases e : s' = j
        · subst e
          rw [hrs] at hj
          cases hj
          rw [List.getElem?_set_self (by rw [hs1.len]; exact hsn1)] at hl'
          cases hl'
          exact updM_same
        · rw [List.getElem?_set_ne e] at hl'
          rw [updM_ne (hidx j r' hj (Ne.symm e))]
          exact hR'.2 j r' l hj hl'⟩
      have hfr2 : ∀ x, x ≠ d → x ∉ rows → updM M' r (.lst (natsD (L1.getD s' []).dropLast)) x = M x := fun x h1 h2 => by
        rw [updM_ne (fun z => h2 (by rw [z]; exact hra))]
        exact hfr x h1 h2
      have hMd2 : updM M' r (.lst (natsD (L1.getD s' []).dropLast)) d = some (.dic (dicH T1)) := by rw [updM_ne (Ne.symm hrd)]; exact hMd'
      generalize updM M' r (.lst (natsD (L1.getD s' []).dropLast)) = M2 at hR2 hfr2 hMd2 ⊢
      refine sm_seq (sm_if (etm fun MV => et_B (ev_dinI (ev_var rfl ⟨_, rfl, ev_var rfl ⟨d, _, rfl, hMd2, _, rfl, fun hb => ?_, fun hb => ?_⟩⟩))))
      · rw [getQ_Hs] at hb
        have hp := of_decide_eq_true hb
        rw [if_pos hp] at ew
        obtain ⟨g1, g2, _⟩ := hs1.pop (x := (0, 0, 0)) hsn1 hlast T1 (.inl ⟨rfl, hp⟩)
        exact sm_cont ⟨m', by omega, s', _, T1, _, _, _, _, rfl, g1, hsn1, by omega, hw.trans ew, hfr2, hMd2, hR2⟩
      rw [getQ_Hs] at hb
      have hp := of_decide_eq_false hb
      rw [if_neg hp] at ew
      have hpat := pairsD_at (List.getElem?_eq_some_iff.mp hq).1
      rw [(List.getElem?_eq_some_iff.mp hq).2] at hpat
      refine sm_next (sm_seq (sm_asgG [5, 6] (evm fun MV => ev_op (ev_var rfl (ev_var rfl (o2_ixT (atD_nat hpat) ?_))))))
      intro MV
      refine gt_tup rfl (gs_cons (gt_name (by decide) (gs_cons (gt_name (by decide) (gs_nil ?_)))))
      show SvM K J M2 [.d (.int (s' : Int)), .d (.tup (pairsD ps)), .d (.ptr a), .d (.ptr d), .d (.int (p : Int)), .d (.int (q.1 : Int)), .d (.int (q.2 : Int)), s7] _ _
      have ht2 : q.1 = s' ∨ q.2 = s' := by unfold touch at htq; simpa using htq
      have hoth : ((s', othN q s') = q ∨ (s', othN q s') = (q.2, q.1)) ∧ othN q s' < n := by
        unfold othN
        by_cases e : s' = q.1
        · rw [if_pos e]; exact ⟨.inl (by rw [e]), hqo.2.1⟩
        · rw [if_neg e]
          have e2 : q.2 = s' := by rcases ht2 with z | z; exact absurd z.symm e; exact z
          exact ⟨.inr (by rw [e2]), hqo.1⟩
      obtain ⟨g1, g2, _⟩ := hs1.pop (x := (p, (s', othN q s'))) hsn1 hlast (T1 ++ [(p, (s', othN q s'))]) (.inr ⟨rfl, rfl, hp, q, hq, hoth.1⟩)
      refine sm_seq (sm_asg (evm fun MV => Ev.imp (R := fun d => d = .int (othN q s' : Int)) (ev_if (et_test (ev_op (ev_var rfl (ev_var rfl (o2_eqI ⟨_, rfl, fun hb => ?_, fun hb => ?_⟩)))))) ?_))
      · have hb := of_decide_eq_true hb
        refine ev_var rfl ?_
        unfold othN
        rw [if_pos (by omega)]
      · have hb := of_decide_eq_false hb
        refine ev_var rfl ?_
        unfold othN
        rw [if_neg (by omega)]
      rintro d0 rfl
      show SvM K J M2 [.d (.int (s' : Int)), .d (.tup (pairsD ps)), .d (.ptr a), .d (.ptr d), .d (.int (p : Int)), .d (.int (q.1 : Int)), .d (.int (q.2 : Int)), .d (.int (othN q s' : Int))] _ _
      refine sm_seq (sm_dputI (evm fun MV => ev_tup (ed_cons (ev_var rfl (ed_cons (ev_var rfl (ed_nil ⟨Nat.le_of_ble_eq_true rfl, ?_⟩)))))))
      refine evm fun MV => ev_var rfl (evm fun MV => ev_var rfl ⟨d, _, _, rfl, hMd2, rfl, ?_, ?_⟩)
      · have := keys_len hs1
        unfold dicH
        rw [List.length_map]
        omega
      have e2 : putQ (dicH T1) (Sum.inl (p : Int) : Key) (.tup [.int (s' : Int), .int (othN q s' : Int)]) = dicH (T1 ++ [(p, (s', othN q s'))]) := putQ_H hp
      rw [e2]
      refine sm_asg (evm fun MV => ev_var rfl ⟨m', by omega, othN q s', _, _, _, _, _, _, rfl, g1, hoth.2, by omega, hw.trans ew, fun x h1 h2 => ?_, updM_same, hR2.1, fun j r' l hj hl' => ?_⟩)
      · rw [updM_ne h1]; exact hfr2 x h1 h2
      · rw [updM_ne (fun z => hdr (by rw [← z]; exact List.mem_of_getElem? hj))]
        exact hR2.2 j r' l hj hl'
theorem ok_halved {P : Program} {w : World} {K : PySem.W.Frag} {mg : Str → Option Value} {base : Heap} {f : Addr} {fd : FuncData} (F : L2.Fun K "halved" "halved" s_halved f fd)
    {C_InvalidPairs fI_InvalidPairs : Addr} {fd_InvalidPairs : FuncData} (e_InvalidPairs : Exk P w K mg base "InvalidPairs" ["self", "value"] ["value"] C_InvalidPairs fI_InvalidPairs fd_InvalidPairs)
    {C_TooMany fI_TooMany : Addr} {fd_TooMany : FuncData} (e_TooMany : Exk P w K mg base "TooMany" ["self", "what"] ["what"] C_TooMany fI_TooMany fd_TooMany)
    {C_Undefined fI_Undefined : Addr} {fd_Undefined : FuncData} (e_Undefined : Exk P w K mg base "Undefined" ["self", "what"] ["what"] C_Undefined fI_Undefined fd_Undefined)
    {C_Table : Addr} (i_Table : Ins K C_Table ["lines", "most", "taken", "plan"])
    (m_range : mg "range" = none)
    (m_enumerate : mg "enumerate" = none)
    (m_len : mg "len" = none)
    (m_list : mg "list" = none)
    (m_tuple : mg "tuple" = none)
    (c_check_pairs : CalX P w K mg base 3 "check_pairs" P_check_pairs (CtX K (W_ckpairs C_InvalidPairs)))
    (c_walk : CalX P w K mg base 3 "walk" P_walk (CtP K W_walk)) :
    FnOk P w K mg base (L2.CX P w) (4) f fd P_halved (CtP K (W_halved C_InvalidPairs)) := by
  refine ok_ctp F sc_halved (fun M ss P PX h => ?_) (fun cdv A outer s H E hr => ⟨_, (pss_cons (ps_expr (pe_callW (fun cls d _ H => E cls d H) (takes_of rfl rfl rfl rfl) c_check_pairs hr rfl (pa_cons (pv 0) (pa_cons (pv 1) pa_nil))))
      (pss_cons (ps_set (i := 2) sc_halved.nd rfl (by first | exact Or.inl rfl | exact Or.inr rfl) (pe_lc (own := [("store", 5)]) rfl sc_halved.nd (pi_range1 (by rfl) m_range (pa_cons (pv 0) pa_nil)) (blkOk_by (N := N_halved) (sc := defScope s_halved) (by decide +kernel)) (fun _ _ _ _ _ => (pg_name (i := 5) sc_halved.nd rfl (by first | exact Or.inl rfl | exact Or.inr rfl))) (fun _ _ _ _ _ => pts_nil) (fun _ _ _ _ _ => (pe_lc (own := [("place", 6), ("pair", 7)]) rfl sc_halved.nd (pi_enumK K (by rfl) m_enumerate (pa_cons (pv 1) pa_nil)) (blkOk_by (by rfl)) (fun _ _ _ _ _ => (pg_tupK K 2 (by rfl) (pgs_cons (pg_name (i := 6) sc_halved.nd rfl (by first | exact Or.inl rfl | exact Or.inr rfl)) (pgs_cons (pg_name (i := 7) sc_halved.nd rfl (by first | exact Or.inl rfl | exact Or.inr rfl)) pgs_nil)))) (fun _ _ _ _ _ => (pts_one (pt_cmpR (op_inK K) (pv 5) (pv 7) (by rfl)))) (fun _ _ _ _ _ => (pv 6))))))
      (pss_cons (ps_setLc (own := [("store", 5)]) (i := 3) rfl sc_halved.nd rfl rfl (sw_true rfl rfl rfl (by decide +kernel)) (pi_range1 (by rfl) m_range (pa_cons (pv 0) pa_nil)) (blkOk_by (N := N_halved) (sc := defScope s_halved) (by decide +kernel)) (fun _ _ _ _ _ => (pg_name (i := 5) sc_halved.nd rfl (by first | exact Or.inl rfl | exact Or.inr rfl))) (fun _ _ _ _ _ => (pts_one (pt_truK K (pe_op op_oddK (pe_callB (c_lenK K) (by rfl) m_len PySem.boot_len (pa_cons (pe_ix (ix_seqK K) (pv 2) (pv 5) (fun _ _ => rfl)) pa_nil)) pe_int) (by intro _; rfl)))) (fun _ _ _ _ _ => (pv 5)))
      (pss_cons (ps_set (i := 4) sc_halved.nd rfl (by first | exact Or.inl rfl | exact Or.inr rfl) pe_dnewK)
      (pss_cons (ps_for (passes_of rfl) rfl (pi_seqK K (pe_op op_cat (pv 3) (pe_listRg (by rfl) (by rfl) m_list (prg_1 (by rfl) m_range (pv 0))))) (pg_name (i := 5) sc_halved.nd rfl (by first | exact Or.inl rfl | exact Or.inr rfl))
        (pss_one (ps_expr (pe_callW (fun cls d _ H => E cls d H) (takes_of rfl rfl rfl rfl) c_walk hr rfl (pa_cons (pv 5) (pa_cons (pv 1) (pa_cons (pv 2) (pa_cons (pv 4) pa_nil))))))))
      (pss_one (ps_ret (pe_callTy (c_tupK K) (by rfl) m_tuple (by decide +kernel) (pa_cons (pe_lc (own := [("place", 6)]) rfl sc_halved.nd (pi_range1 (by rfl) m_range (pa_cons (pe_callB (c_lenK K) (by rfl) m_len PySem.boot_len (pa_cons (pv 1) pa_nil)) pa_nil)) (blkOk_by (N := N_halved) (sc := defScope s_halved) (by decide +kernel)) (fun _ _ _ _ _ => (pg_name (i := 6) sc_halved.nd rfl (by first | exact Or.inl rfl | exact Or.inr rfl))) (fun _ _ _ _ _ => pts_nil) (fun _ _ _ _ _ => (pe_dget (hu1 hr.units) (pv 4) (pv 6) (fun _ _ => rfl)))) pa_nil))))))))), fun J M ss P PX h => ?_⟩)
  · obtain ⟨n, x, rfl, _⟩ := h
    rfl
  · obtain ⟨n, x, rfl, hn, hpx, hl, hX, hP⟩ := h
    show SvM K J M [.d (.int (n : Int)), .d x, .no, .no, .no, .no, .no, .no] _ _
    refine sm_seq (sm_drop (evm_callX (eam fun MV => ?_)))
    repeat walk_at "E"
    refine ⟨x, n, rfl, hpx, fun hb => ?_, fun hb => less_refl (hX hb)⟩
    obtain ⟨ds, rfl⟩ : ∃ ds, x = .tup ds := by
      cases x <;> first | exact ⟨_, rfl⟩ | cases hb
    obtain ⟨ps, rfl, hok⟩ := pairsB_of hb
    have hpl := hl _ rfl
    rw [pairsD_len] at hpl
    have hP := hP ps rfl hok
    refine sm_seq (sm_asg (evm_lc (eim_range (edm fun MV => ?_))))
    repeat walk_at "E"
    refine ⟨by omega, by omega, by simp; omega, fun i acc M2 => ∃ rows : List Addr, acc = rows.map Dt.ptr ∧ rows.length = i ∧ rows.Nodup ∧ (∀ x, M x ≠ none → M2 x = M x) ∧ (∀ r ∈ rows, M r = none) ∧ ∀ j r, rows[j]? = some r → M2 r = some (.lst (natsD (placeL ps j ps.length))), ⟨[], rfl, rfl, .nil, fun _ _ => rfl, fun _ h => (nomatch h), fun j r h => by simp at h⟩, ?_, ?_⟩
    · rintro i d acc M2 hd _ ⟨rows, rfl, hrl, hnd, hM2, hnew, hrw⟩
      refine ⟨ag0, fun MV => ?_⟩
      obtain ⟨rfl, hi⟩ := range_at hd
      refine gt_name (by decide) (et_yes ⟨fun _ => evm_new fun MV => em_lc (ei_enum (ev_var rfl ⟨_, .inr rfl, by rw [enumD_len, pairsD_len]; omega, fun k acc => acc = natsD (placeL ps i k), rfl, ?_, ?_⟩)), fun z => (nomatch z)⟩)
      · rintro k d acc hd _ rfl
        have hk : k < ps.length := by
          have := (List.getElem?_eq_some_iff.mp hd).1
          rw [enumD_len, pairsD_len] at this
          exact this
        rw [enumD_get (pairsD_at hk)] at hd
        cases hd
        have hgd : ps.getD k (0, 0) = (ps[k].1, ps[k].2) := by rw [List.getD_eq_getElem?_getD, List.getElem?_eq_getElem hk]; rfl
        have hs := placeL_succ (ps := ps) (s := i) (k := k)
        rw [hgd] at hs
        generalize ps[k].1 = u at hs ⊢
        generalize ps[k].2 = v at hs ⊢
        refine gt_tup rfl (gs_cons (gt_name (by decide) (gs_cons (gt_name (by decide) (gs_nil (et_test (ev_op (ev_var rfl (ev_var rfl (o2_inT rfl rfl ⟨_, rfl, fun hb => ?_, fun hb => ?_⟩))))))))))
        · have hb : inD (.int (i : Int)) [.int (u : Int), .int (v : Int)] = true := hb
          rw [in_pair] at hb
          refine ev_var rfl ?_
          show _ = natsD (placeL ps i (k + 1))
          rw [hs, if_pos hb]
          exact natsD_snoc
        · have hb : inD (.int (i : Int)) [.int (u : Int), .int (v : Int)] = false := hb
          rw [in_pair] at hb
          show _ = natsD (placeL ps i (k + 1))
          rw [hs, hb]
          simp
      · rintro acc _ rfl p hp
        rw [enumD_len, pairsD_len]
        have hMp : M p = none := by
          cases q : M p with
          | none => rfl
          | some o => rw [← hM2 p (by rw [q]; simp), hp] at q; cases q
        have hpr : p ∉ rows := fun z => by
          obtain ⟨j, hj, e⟩ := List.getElem_of_mem z
          rw [hrw j p (by rw [List.getElem?_eq_getElem hj, e])] at hp
          cases hp
        refine ⟨rows ++ [p], by rw [List.map_append]; rfl, by rw [List.length_append, hrl]; rfl, List.nodup_append.mpr ⟨hnd, by simp, fun a ha b hb => by rw [List.mem_singleton] at hb; subst hb; exact fun z => hpr (z ▸ ha)⟩, fun x hx => ?_, fun r hr => ?_, fun j r hj => ?_⟩
        · rw [updM_ne (fun z => hx (by rw [z]; exact hMp))]
          exact hM2 x hx
        · rcases List.mem_append.mp hr with h | h
          · exact hnew r h
          · rw [List.mem_singleton] at h; subst h; exact hMp
        · by_cases e : j < rows.length
          · rw [List.getElem?_append_left e] at hj
            rw [updM_ne (fun z => hpr (by rw [← z]; exact List.mem_of_getElem? hj))]
            exact hrw j r hj
          · have hj2 := (List.getElem?_eq_some_iff.mp hj).1
            rw [List.length_append] at hj2
            have : j = rows.length := by simp at hj2; omega
            subst this
            rw [List.getElem?_append_right (Nat.le_refl _), Nat.sub_self] at hj
            cases hj
            rw [← hrl]
            exact updM_same
    · rintro acc M2 _ ⟨rows, rfl, hrl, hnd, hM2, hnew, hrw⟩
      rw [List.length_map, List.length_range, Int.toNat_natCast] at hrl
      refine ⟨ag0, fun a ha => ?_⟩
      have har : a ∉ rows := fun z => by
        obtain ⟨j, hj, e⟩ := List.getElem_of_mem z
        rw [hrw j a (by rw [List.getElem?_eq_getElem hj, e])] at ha
        cases ha
      have hMa0 : M a = none := by
        cases q : M a with
        | none => rfl
        | some o => rw [← hM2 a (by rw [q]; simp), ha] at q; cases q
      have hR : RowsL (updM M2 a (.lst (rows.map Dt.ptr))) rows (placesN n ps) := ⟨by rw [hrl]; simp [placesN], fun j r l hj hl => by
        have hjn : j < n := by rw [← hrl]; exact (List.getElem?_eq_some_iff.mp hj).1
        rw [places_at hjn] at hl
        cases hl
        rw [updM_ne (fun z => har (by rw [← z]; exact List.mem_of_getElem? hj))]
        exact hrw j r hj⟩
      have hM3 : ∀ x, M x ≠ none → updM M2 a (.lst (rows.map Dt.ptr)) x = M x := fun x hx => by
        rw [updM_ne (fun z => hx (by rw [z]; exact hMa0))]
        exact hM2 x hx
      have hMa : updM M2 a (.lst (rows.map Dt.ptr)) a = some (.lst (rows.map Dt.ptr)) := updM_same
      generalize updM M2 a (.lst (rows.map Dt.ptr)) = M3 at hR hM3 hMa ⊢
      show SvM K J M3 [.d (.int (n : Int)), .d (.tup (pairsD ps)), .d (.ptr a), .no, .no, .no, .no, .no] _ _
      refine sm_seq (sm_of fun MV => sv_asgM (em_lc (ei_range ?_)))
      repeat walk_at "E"
      refine ⟨by omega, by omega, by simp; omega, fun k acc => acc = natsD (oddL (placesN n ps) k), rfl, ?_, ?_⟩
      · rintro k d acc hd _ rfl
        obtain ⟨rfl, hk⟩ := range_at hd
        have hkr : rows[k]? = some rows[k] := List.getElem?_eq_getElem (by omega)
        have hkL : (placesN n ps)[k]? = some ((placesN n ps).getD k []) := by
          rw [List.getD_eq_getElem?_getD, places_at hk]
          rfl
        have hrowat : (rows.map Dt.ptr)[k]? = some (.ptr rows[k]) := by rw [List.getElem?_map, hkr]; rfl
        have hMr := hR.2 k _ _ hkr hkL
        have hs := oddL_succ (L := placesN n ps) (k := k)
        refine gt_name (by decide) (et_tru (ev_op (ev_cb (ed_cons (ev_op (ev_var rfl (ev_var rfl (o2_ixP hMa (atD_nat hrowat) (ed_nil (oc_lenP hMr ?_))))))))))
        rw [natsD_length]
        refine ev_int (o2_odd (.inr ⟨_, rfl, fun hb => ?_, fun hb => ?_⟩))
        · have hb : ((placesN n ps).getD k []).length % 2 = 1 := by
            have : ((((placesN n ps).getD k []).length % 2 : Nat) : Int) ≠ 0 := by simpa using hb
            omega
          refine ev_var rfl ?_
          show _ = natsD (oddL (placesN n ps) (k + 1))
          rw [hs, if_pos hb]
          exact natsD_snoc
        · have hb : ¬ ((placesN n ps).getD k []).length % 2 = 1 := by
            have : ((((placesN n ps).getD k []).length % 2 : Nat) : Int) = 0 := by simpa using hb
            omega
          show _ = natsD (oddL (placesN n ps) (k + 1))
          rw [hs, if_neg hb, List.append_nil]
      · rintro acc _ rfl
        rw [List.length_map, List.length_range, Int.toNat_natCast]
        show SvM K J M3 [.d (.int (n : Int)), .d (.tup (pairsD ps)), .d (.ptr a), .ml (natsD (oddN n (placesN n ps))), .no, .no, .no, .no] _ _
        refine sm_seq (sm_asg (evm_dnewI fun d hd => ?_))
        show SvM K J (updM M3 d (.dic (dicH []))) [.d (.int (n : Int)), .d (.tup (pairsD ps)), .d (.ptr a), .ml (natsD (oddN n (placesN n ps))), .d (.ptr d), .no, .no, .no] _ _
        have hda : d ≠ a := fun z => by rw [z, hMa] at hd; cases hd
        have hdr : d ∉ rows := fun z => by
          obtain ⟨j, hj, e⟩ := List.getElem_of_mem z
          have hjn : j < n := by omega
          rw [hR.2 j d _ (by rw [List.getElem?_eq_getElem hj, e]) (places_at hjn)] at hd
          cases hd
        have hMd0 : M d = none := by
          cases q : M d with
          | none => rfl
          | some o => rw [← hM3 d (by rw [q]; simp), hd] at q; cases q
        have hlt : ∀ s ∈ oddN n (placesN n ps) ++ List.range n, s < n := fun s hs => by
          rcases List.mem_append.mp hs with z | z
          · unfold oddN at z; rw [List.mem_filter, List.mem_range] at z; exact z.1
          · exact List.mem_range.mp z
        have hln : (oddN n (placesN n ps)).length ≤ n := by
          have := List.length_filter_le (fun s => decide (((placesN n ps).getD s []).length % 2 = 1)) (List.range n)
          rw [List.length_range] at this
          exact this
        refine sm_seq (sm_for [5] (eim_seq (evm fun MV => Em.ev (em_cat (el_var rfl (Em.el (em_listRg (ev_var rfl ⟨n, rfl, by omega, by rw [natsD_length]; simp; omega, ?_⟩))))))))
        have ecat : natsD (oddN n (placesN n ps)) ++ (List.range n).map (fun i => Dt.int ((i : Nat) : Int)) = natsD (oddN n (placesN n ps) ++ List.range n) := by rw [natsD_app]; rfl
        rw [ecat]
        have eturn : turnHF n ps = (foldW ps (oddN n (placesN n ps) ++ List.range n) (placesN n ps) []).2 := rfl
        generalize oddN n (placesN n ps) = od at hlt hln eturn ⊢
        generalize hos : od ++ List.range n = os at hlt eturn ⊢
        have htake : ∀ k, ∀ s ∈ os.take k, s < n := fun k s hs => hlt s (List.mem_of_mem_take hs)
        have hh0 := hs_start hok
        refine ⟨_, .inl rfl, fun k M' e => ∃ s5 s6 s7, e = [.d (.int (n : Int)), .d (.tup (pairsD ps)), .d (.ptr a), .ml (natsD od), .d (.ptr d), s5, s6, s7] ∧ (∀ x, M x ≠ none → M' x = M x) ∧ M' a = some (.lst (rows.map Dt.ptr)) ∧ M' d = some (.dic (dicH (foldW ps (os.take k) (placesN n ps) []).2)) ∧ RowsL M' rows (foldW ps (os.take k) (placesN n ps) []).1, ⟨_, _, _, rfl, fun x hx => ?_, ?_, updM_same, hR.1, fun j r l hj hl => ?_⟩, ?_, ?_⟩
        · rw [updM_ne (fun z => hx (by rw [z]; exact hMd0))]; exact hM3 x hx
        · rw [updM_ne (Ne.symm hda)]; exact hMa
        · rw [updM_ne (fun z => hdr (by rw [← z]; exact List.mem_of_getElem? hj))]
          exact hR.2 j r l hj hl
        · rintro k dk M' e hdk ⟨s5, s6, s7, rfl, hfr, hMa', hMd', hR'⟩
          refine ⟨ag0, fun MV => ?_⟩
          obtain ⟨s, hs, rfl, _⟩ := nats_get hdk
          have hsn := hlt s (List.mem_of_getElem? hs)
          have hfs : foldW ps (os.take (k + 1)) (placesN n ps) [] = ((walkHF ps (totN (foldW ps (os.take k) (placesN n ps) []).1) s (foldW ps (os.take k) (placesN n ps) []).1 (foldW ps (os.take k) (placesN n ps) []).2).1, (walkHF ps (totN (foldW ps (os.take k) (placesN n ps) []).1) s (foldW ps (os.take k) (placesN n ps) []).1 (foldW ps (os.take k) (placesN n ps) []).2).2.1) := by
            rw [List.take_add_one, hs, foldW_app]
            rfl
          have hhs := fold_hs hok hh0 (htake k)
          generalize (foldW ps (os.take k) (placesN n ps) []).1 = L at hfs hhs hR'
          generalize (foldW ps (os.take k) (placesN n ps) []).2 = T at hfs hhs hMd'
          refine gt_name (by decide) (sm_drop (evm_call (eam fun MV => ?_)))
          repeat walk_at "E"
          refine ⟨ps, n, rows, a, d, L, T, s, rfl, hok, hhs, hsn, hpl, hMa', hMd', hnd, har, hdr, hda, hR', fun M4 h1 h2 h3 => ⟨_, _, _, rfl, fun x hx => ?_, ?_, ?_, ?_⟩⟩
          · rw [h1 x (fun z => hx (by rw [z]; exact hMd0)) (fun z => hx (hnew x z))]
            exact hfr x hx
          · rw [h1 a (Ne.symm hda) har]; exact hMa'
          · rw [hfs]; exact h2
          · rw [hfs]; exact h3
        · rintro M' e ⟨s5, s6, s7, rfl, hfr, hMa', hMd', hR'⟩
          rw [natsD_length, List.take_length, ← eturn] at hMd'
          refine ⟨ag0, sm_ret (evm fun MV => ev_cb (ed_cons (Em.ev (em_map (fun d => match d with | .int i => pairD (.int (((getH (turnHF n ps) i.toNat).getD (0, 0)).1 : Int)) (.int (((getH (turnHF n ps) i.toNat).getD (0, 0)).2 : Int)) | _ => .non) (ei_range ?_)))))⟩
          repeat walk_at "E"
          rw [pairsD_len]
          refine ⟨by omega, by omega, by simp; omega, fun dd hdd => gt_name (by decide) ?_, ?_⟩
          · obtain ⟨i, hi, rfl⟩ := List.mem_map.mp hdd
            have hi : i < ps.length := by simpa using hi
            obtain ⟨r, _, hg, _⟩ := (hal_ok hok).2.1 i _ (List.getElem?_eq_getElem hi)
            refine ev_dgetI (ev_var rfl ⟨d, _, rfl, hMd', ev_var rfl ⟨_, _, rfl, getQ_H.trans (by rw [hg]; rfl), ?_⟩⟩)
            show _ = pairD (.int (((getH (turnHF n ps) ((i : Nat) : Int).toNat).getD (0, 0)).1 : Int)) (.int (((getH (turnHF n ps) ((i : Nat) : Int).toNat).getD (0, 0)).2 : Int))
            rw [Int.toNat_natCast, hg]
            rfl
          · refine ed_nil (oc_tupL ?_)
            have e : ((List.range ((ps.length : Nat) : Int).toNat).map fun i => Dt.int ((i : Nat) : Int)).map (fun d => match d with | .int i => pairD (.int (((getH (turnHF n ps) i.toNat).getD (0, 0)).1 : Int)) (.int (((getH (turnHF n ps) i.toNat).getD (0, 0)).2 : Int)) | _ => .non) = pairsD (halF n ps) := by
              unfold halF pairsD
              rw [Int.toNat_natCast, List.map_map, List.map_map]
              refine List.map_congr_left fun i _ => ?_
              rfl
            rw [e]
            exact ⟨M, fun x o e => by rw [hfr x (by rw [e]; simp)]; exact e, fun _ h => h, hP⟩
theorem ok_Table_place_in {P : Program} {w : World} {K : PySem.W.Frag} {mg : Str → Option Value} {base : Heap} {f : Addr} {fd : FuncData} (F : L2.Fun K "place_in" "Table.place_in" s_Table_place_in f fd)
    {C_InvalidPairs fI_InvalidPairs : Addr} {fd_InvalidPairs : FuncData} (e_InvalidPairs : Exk P w K mg base "InvalidPairs" ["self", "value"] ["value"] C_InvalidPairs fI_InvalidPairs fd_InvalidPairs)
    {C_TooMany fI_TooMany : Addr} {fd_TooMany : FuncData} (e_TooMany : Exk P w K mg base "TooMany" ["self", "what"] ["what"] C_TooMany fI_TooMany fd_TooMany)
    {C_Undefined fI_Undefined : Addr} {fd_Undefined : FuncData} (e_Undefined : Exk P w K mg base "Undefined" ["self", "what"] ["what"] C_Undefined fI_Undefined fd_Undefined)
    {C_Table : Addr} (i_Table : Ins K C_Table ["lines", "most", "taken", "plan"]) :
    FnOk P w K mg base (L2.CX P w) (2) f fd P_Table_place_in (CtP K (W_plin P w C_Table)) := by
  refine ok_ctp F sc_Table_place_in (fun M ss P PX h => ?_) (fun cdv A outer s H E hr => ⟨_, (pss_cons (ps_asg (pv 2) (pg_sub (pe_fldK K (pv 0)) (pv 1) set_list))
      (pss_one (ps_for (passes_of rfl) rfl (pi_seqK K (pe_ix (ix_seqK K) (pe_fldK K (pv 0)) (pv 1) (fun _ _ => rfl))) (pg_name (i := 3) sc_Table_place_in.nd rfl (by first | exact Or.inl rfl | exact Or.inr rfl))
        (pss_one (ps_dputN hr.units (pe_fldK K (pv 0)) (pe_tup (pa_cons (pv 3) (pa_cons (pv 2) pa_nil))) (pv 1) rfl))))), fun J M ss P PX h => ?_⟩)
  · obtain ⟨t, pp, tp, ln, m, pl, ds, i, q, rv, rj, cv, cj, rfl, _⟩ := h
    rfl
  · obtain ⟨t, pp, tp, ln, m, pl, ds, i, q, rv, rj, cv, cj, rfl, hT, hln, hil, hz, hQ⟩ := h
    have nf := i_Table.nf
    show SvM K J M [.d (.ptr t), .d (.int (i : Int)), .d (.int (q : Int)), .no] _ _
    refine sm_seq (sm_setP (evm fun MV => ev_var rfl (evm_fld (evm fun MV => ev_var rfl ⟨t, _, _, _, rfl, hT.ht, i_Table.cls, nf _ (by decide), rfl, evm fun MV => ev_var rfl ⟨pp, _, i, rfl, rfl, hT.hp, hil, ?_⟩⟩))))
    have ht1 := (updM_ne (M := M) (o := .lst (pl.set i (.int (q : Int)))) hT.n1).trans hT.ht
    have hp1 := updM_same (M := M) (a := pp) (o := .lst (pl.set i (.int (q : Int))))
    have hk1 := (updM_ne (M := M) (o := .lst (pl.set i (.int (q : Int)))) hT.n3.symm).trans hT.hk
    have ho1 : ∀ x, x ≠ pp → updM M pp (.lst (pl.set i (.int (q : Int)))) x = M x := fun x h => updM_ne h
    generalize updM M pp (.lst (pl.set i (.int (q : Int)))) = M1 at ht1 hp1 hk1 ho1
    show SvM K J M1 [.d (.ptr t), .d (.int (i : Int)), .d (.int (q : Int)), .no] _ _
    have lineAt : ∀ (k : Nat) (d : Dt), [lineD true rv rj, lineD false cv cj][k]? = some d → ∃ row v j, d = lineD row v j := fun k d h => by
      have hm := List.mem_of_getElem? h
      simp only [List.mem_cons, List.not_mem_nil, or_false] at hm
      rcases hm with rfl | rfl
      · exact ⟨_, _, _, rfl⟩
      · exact ⟨_, _, _, rfl⟩
    have two : ∀ k, k ≤ 2 → ([lineD true rv rj, lineD false cv cj].take k).length ≤ 2 := fun k h => by rw [List.length_take]; exact Nat.min_le_right _ _
    refine sm_for [3] (eim_seq (evm fun MV => ev_op (ev_fldP (ev_var rfl ⟨t, _, _, _, rfl, ht1, i_Table.cls, nf _ (by decide), rfl, ev_var rfl (o2_ixL (atD_nat hln) ⟨_, .inr rfl, fun k M' e => ∃ s3, e = [.d (.ptr t), .d (.int (i : Int)), .d (.int (q : Int)), s3] ∧ M' tp = some (.dn _ w (if k = 0 then ds else if k = 1 then putQN ds (keyK true rv rj q) (.int (i : Int)) else putQN (putQN ds (keyK true rv rj q) (.int (i : Int))) (keyK false cv cj q) (.int (i : Int)))) ∧ (∀ x, x ≠ tp → M' x = M1 x), ⟨_, rfl, hk1, fun x _ => rfl⟩, ?_, ?_⟩)⟩))))
    · rintro k d M' e hd ⟨s3, rfl, hk', ho'⟩
      refine ⟨fun _ _ z => (nomatch z), fun MV => gt_name (by decide) ?_⟩
      have ht' := (ho' t hT.n2).trans ht1
      have h1 := put_len (ds := ds) (k := keyK true rv rj q) (d := .int (i : Int))
      match k, hd with
      | 0, hd =>
        cases hd
        refine sm_dputNE fun MV => ev_var rfl (ev_fldP (ev_var rfl ⟨t, _, _, _, rfl, ht', i_Table.cls, nf _ (by decide), rfl, _, _, rfl, hk', by show ds.length ≤ _; omega, ev_tup (ed_cons (ev_var rfl (ed_cons (ev_var rfl (ed_nil ⟨Nat.le_of_ble_eq_true rfl, _, _, rfl, nk_key, ?_, ?_⟩)))))⟩))
        · simp [keyK, lineK, NestedKey.depth, NestedKey.depthAll]
        · exact ⟨_, rfl, updM_same, fun x hx => (updM_ne hx).trans (ho' x hx)⟩
      | 1, hd =>
        cases hd
        refine sm_dputNE fun MV => ev_var rfl (ev_fldP (ev_var rfl ⟨t, _, _, _, rfl, ht', i_Table.cls, nf _ (by decide), rfl, _, _, rfl, hk', by show (putQN ds _ _).length ≤ _; omega, ev_tup (ed_cons (ev_var rfl (ed_cons (ev_var rfl (ed_nil ⟨Nat.le_of_ble_eq_true rfl, _, _, rfl, nk_key, ?_, ?_⟩)))))⟩))
        · simp [keyK, lineK, NestedKey.depth, NestedKey.depthAll]
        · exact ⟨_, rfl, updM_same, fun x hx => (updM_ne hx).trans (ho' x hx)⟩
      | k + 2, hd => cases hd
    · rintro M' e ⟨s3, rfl, hk', ho'⟩
      refine ⟨fun _ _ z => (nomatch z), less_same (fun y hy => ?_) (hQ M' ((ho' pp hT.n3).trans hp1) hk' fun x h1 h2 => (ho' x h2).trans (ho1 x h1))⟩
      by_cases e1 : y = tp
      · rw [e1, hk']; simp
      · rw [ho' y e1]
        by_cases e2 : y = pp
        · rw [e2, hp1]; simp
        · rw [ho1 y e2]; exact hy
theorem ok_Table_free_round {P : Program} {w : World} {K : PySem.W.Frag} {mg : Str → Option Value} {base : Heap} {f : Addr} {fd : FuncData} (F : L2.Fun K "free_round" "Table.free_round" s_Table_free_round f fd)
    {C_InvalidPairs fI_InvalidPairs : Addr} {fd_InvalidPairs : FuncData} (e_InvalidPairs : Exk P w K mg base "InvalidPairs" ["self", "value"] ["value"] C_InvalidPairs fI_InvalidPairs fd_InvalidPairs)
    {C_TooMany fI_TooMany : Addr} {fd_TooMany : FuncData} (e_TooMany : Exk P w K mg base "TooMany" ["self", "what"] ["what"] C_TooMany fI_TooMany fd_TooMany)
    {C_Undefined fI_Undefined : Addr} {fd_Undefined : FuncData} (e_Undefined : Exk P w K mg base "Undefined" ["self", "what"] ["what"] C_Undefined fI_Undefined fd_Undefined)
    {C_Table : Addr} (i_Table : Ins K C_Table ["lines", "most", "taken", "plan"])
    (m_min : mg "min" = none)
    (m_range : mg "range" = none) :
    FnOk P w K mg base (L2.CX P w) (2) f fd P_Table_free_round (CtP K (W_free P w C_Table)) := by
  refine ok_ctp F sc_Table_free_round (fun M ss P PX h => ?_) (fun cdv A outer s H E hr => ⟨_, (pss_one (ps_ret (pe_callB (c_minLK K) (by rfl) m_min (by decide +kernel) (pa_cons (pe_lc (own := [("number", 2)]) rfl sc_Table_free_round.nd (pi_range1 (by rfl) m_range (pa_cons (pe_fldK K (pv 0)) pa_nil)) (blkOk_by (N := N_Table_free_round) (sc := defScope s_Table_free_round) (by decide +kernel)) (fun _ _ _ _ _ => (pg_name (i := 2) sc_Table_free_round.nd rfl (by first | exact Or.inl rfl | exact Or.inr rfl))) (fun _ _ _ _ _ => (pts_one (pt_cmpR (op_notInPK K hr.units) (pe_tup (pa_cons (pv 1) (pa_cons (pv 2) pa_nil))) (pe_fldK K (pv 0)) (by rfl)))) (fun _ _ _ _ _ => (pv 2))) pa_nil)))), fun J M ss P PX h => ?_⟩)
  · obtain ⟨t, pp, tp, ln, m, pl, ds, row, v, j, rfl, _⟩ := h
    rfl
  · obtain ⟨t, pp, tp, ln, m, pl, ds, row, v, j, rfl, hT, hm, ⟨q0, hq0, hf0⟩, hQ⟩ := h
    have nf := i_Table.nf
    show SvM K J M [.d (.ptr t), .d (lineD row v j), .no] _ _
    refine sm_ret (evm fun MV => ev_cb (ed_cons (Em.ev (em_filt (freeD ds row v j) (ei_range (ed_cons (ev_fldP (ev_var rfl ⟨t, _, _, _, rfl, hT.ht, i_Table.cls, nf _ (by decide), rfl, ed_nil ⟨_, rfl, by omega, by omega, by simp; omega, fun d hd => gt_name (by decide) ?_, ?_⟩⟩))))))))
    · obtain ⟨q, hq, rfl⟩ := List.mem_map.mp hd
      refine et_test (ev_op (ev_tup (ed_cons (ev_var rfl (ed_cons (ev_var rfl (ed_nil ⟨Nat.le_of_ble_eq_true rfl, ev_fldP (ev_var rfl ⟨t, _, _, _, rfl, hT.ht, i_Table.cls, nf _ (by decide), rfl, o2_inN hT.hk nk_key ?_ ⟨_, rfl, ?_, fun _ => ev_var rfl rfl⟩⟩)⟩)))))))
      · simp [keyK, lineK, NestedKey.depth, NestedKey.depthAll]
      · show (!(atQ ds (keyK row v j q)).isSome) = !(atQ ds (keyK row v j ((q : Nat) : Int).toNat)).isSome
        rw [Int.toNat_natCast]
    · have e : (((List.range ((m : Nat) : Int).toNat).map fun i => Dt.int ((i : Nat) : Int)).filter (freeD ds row v j)) = (((List.range m).filter fun q => !(atQ ds (keyK row v j q)).isSome).map fun q : Nat => (q : Int)).map Dt.int := by
        rw [Int.toNat_natCast, List.filter_map, List.map_map]
        congr 1
      rw [e]
      have hin : q0 ∈ (List.range m).filter fun q => !(atQ ds (keyK row v j q)).isSome := List.mem_filter.mpr ⟨List.mem_range.mpr hq0, by rw [hf0]; rfl⟩
      refine ed_nil (oc_minL (by rw [List.length_map]; exact List.length_pos_of_mem hin) fun x hx hmin => ?_)
      obtain ⟨q, hq, rfl⟩ := List.mem_map.mp hx
      rw [List.mem_filter, List.mem_range] at hq
      refine less_refl (hQ q hq.1 ?_ fun y hy hn => ?_)
      · cases z : atQ ds (keyK row v j q) with
        | none => rfl
        | some d => rw [z] at hq; exact absurd hq.2 (by simp)
      · have := hmin _ (List.mem_map.mpr ⟨y, List.mem_filter.mpr ⟨List.mem_range.mpr (by omega), by rw [hn]; rfl⟩, rfl⟩)
        omega
theorem ok_Table_exchange {P : Program} {w : World} {K : PySem.W.Frag} {mg : Str → Option Value} {base : Heap} {f : Addr} {fd : FuncData} (F : L2.Fun K "exchange" "Table.exchange" s_Table_exchange f fd)
    {C_InvalidPairs fI_InvalidPairs : Addr} {fd_InvalidPairs : FuncData} (e_InvalidPairs : Exk P w K mg base "InvalidPairs" ["self", "value"] ["value"] C_InvalidPairs fI_InvalidPairs fd_InvalidPairs)
    {C_TooMany fI_TooMany : Addr} {fd_TooMany : FuncData} (e_TooMany : Exk P w K mg base "TooMany" ["self", "what"] ["what"] C_TooMany fI_TooMany fd_TooMany)
    {C_Undefined fI_Undefined : Addr} {fd_Undefined : FuncData} (e_Undefined : Exk P w K mg base "Undefined" ["self", "what"] ["what"] C_Undefined fI_Undefined fd_Undefined)
    {C_Table : Addr} (i_Table : Ins K C_Table ["lines", "most", "taken", "plan"])
    (c_Table_place_in : CalM P w K mg base 3 C_Table "place_in" P_Table_place_in (CtP K (W_plin P w C_Table))) :
    FnOk P w K mg base (L2.CX P w) (4) f fd P_Table_exchange (CtP K (W_exch P w C_Table)) := by
  refine ok_ctp F sc_Table_exchange (fun M ss P PX h => ?_) (fun cdv A outer s H E hr => ⟨_, (pss_cons (ps_set (i := 4) sc_Table_exchange.nd rfl (by first | exact Or.inl rfl | exact Or.inr rfl) (pe_lst pa_nil))
      (pss_cons (ps_par (i := 5) (j := 6) rfl sc_Table_exchange.nd rfl rfl (by decide) rfl rfl (pa_cons (pv 1) (pa_cons (pv 2) pa_nil)) rfl)
      (pss_cons (ps_while (passes_of rfl) (pt_cmpR (op_inPK K hr.units) (pe_tup (pa_cons (pv 5) (pa_cons (pv 6) pa_nil))) (pe_fldK K (pv 0)) (by rfl))
        (pss_cons (ps_set (i := 7) sc_Table_exchange.nd rfl (by first | exact Or.inl rfl | exact Or.inr rfl) (pe_dgetN hr.units (pe_fldK K (pv 0)) (pe_tup (pa_cons (pv 5) (pa_cons (pv 6) pa_nil))) (fun _ _ => rfl)))
      (pss_cons (ps_expr (pe_bm PySem.F.plainAttrs_list PySem.F.slot_list_append PySem.F.type_list_append mt_append (pv 4) (pa_cons (pv 7) pa_nil)))
      (pss_cons (ps_asg (pe_ix (ix_seqK K) (pe_fldK K (pv 0)) (pv 7) (fun _ _ => rfl)) (pg_tupK K 2 (by rfl) (pgs_cons (pg_name (i := 8) sc_Table_exchange.nd rfl (by first | exact Or.inl rfl | exact Or.inr rfl)) (pgs_cons (pg_name (i := 9) sc_Table_exchange.nd rfl (by first | exact Or.inl rfl | exact Or.inr rfl)) pgs_nil))))
      (pss_cons (ps_set (i := 5) sc_Table_exchange.nd rfl (by first | exact Or.inl rfl | exact Or.inr rfl) (pe_ifExp (pt_cmpR (op_eqDK K hr.units) (pv 5) (pv 8) (nomark _)) (pv 9) (pv 8)))
      (pss_one (ps_set (i := 6) sc_Table_exchange.nd rfl (by first | exact Or.inl rfl | exact Or.inr rfl) (pe_op op_sub (pe_op op_add (pv 2) (pv 3)) (pv 6)))))))))
      (pss_cons (ps_for (passes_of rfl) rfl (pi_seqK K (pv 4)) (pg_name (i := 7) sc_Table_exchange.nd rfl (by first | exact Or.inl rfl | exact Or.inr rfl))
        (pss_one (ps_for (passes_of rfl) rfl (pi_seqK K (pe_ix (ix_seqK K) (pe_fldK K (pv 0)) (pv 7) (fun _ _ => rfl))) (pg_name (i := 5) sc_Table_exchange.nd rfl (by first | exact Or.inl rfl | exact Or.inr rfl))
        (pss_one (ps_ddelN hr.units (pe_fldK K (pv 0)) (pe_tup (pa_cons (pv 5) (pa_cons (pe_ix (ix_seqK K) (pe_fldK K (pv 0)) (pv 7) (fun _ _ => rfl)) pa_nil))))))))
      (pss_one (ps_for (passes_of rfl) rfl (pi_seqK K (pv 4)) (pg_name (i := 7) sc_Table_exchange.nd rfl (by first | exact Or.inl rfl | exact Or.inr rfl))
        (pss_one (ps_expr (pe_methW (fun cls d _ H => E cls d H) (takes_of rfl rfl rfl rfl) c_Table_place_in hr (pv 0) (pa_cons (pv 7) (pa_cons (pe_op op_sub (pe_op op_add (pv 2) (pv 3)) (pe_ix (ix_seqK K) (pe_fldK K (pv 0)) (pv 7) (fun _ _ => rfl))) pa_nil))))))))))), fun J M ss P PX h => ?_⟩)
  · obtain ⟨t, pp, tp, L, n, m, D, ds, k, a, b, rfl, _⟩ := h
    rfl
  · obtain ⟨t, pp, tp, L, n, m, D, ds, k, a, b, rfl, hT, hR, hF, hkn, hn, hz, hb0, hQ⟩ := h
    have nf := i_Table.nf
    have hv := hF.val
    have tb := rep_tab hR hv
    have hbf : ∀ i, D i = some b → L false i ≠ L false k := fun i h1 h2 => by
      have := (tb.tk false (L false k) b i).mpr ⟨h1, h2⟩
      rw [hb0] at this; cases this
    generalize L false k = c at hb0 hbf hQ ⊢
    show SvM K J M [.d (.ptr t), .d (lineD false c.1 c.2), .d (.int (a : Int)), .d (.int (b : Int)), .no, .no, .no, .no, .no, .no] _ _
    refine sm_seq (sm_asg (evm_lst (edm fun MV => ed_nil ⟨Nat.le_of_ble_eq_true rfl, fun wp hwp => ?_⟩)))
    have hwt : t ≠ wp := ne_frT (by rw [hT.ht]; simp) hwp
    have hwpp : pp ≠ wp := ne_frT (by rw [hT.hp]; simp) hwp
    have hwtp : tp ≠ wp := ne_frT (by rw [hT.hk]; simp) hwp
    have hw1 : updM M wp (.lst []) wp = some (.lst []) := updM_same
    have ho1 : ∀ x, x ≠ wp → updM M wp (.lst []) x = M x := fun x h => updM_ne h
    generalize updM M wp (.lst []) = M1 at hw1 ho1 ⊢
    show SvM K J M1 [.d (.ptr t), .d (lineD false c.1 c.2), .d (.int (a : Int)), .d (.int (b : Int)), .d (.ptr wp), .no, .no, .no, .no, .no] _ _
    refine sm_seq (sm_par (edm fun MV => ed_cons (ev_var rfl (ed_cons (ev_var rfl (ed_nil ⟨_, _, rfl, ?_⟩))))))
    show SvM K J M1 [.d (.ptr t), .d (lineD false c.1 c.2), .d (.int (a : Int)), .d (.int (b : Int)), .d (.ptr wp), .d (lineD false c.1 c.2), .d (.int (a : Int)), .no, .no, .no] _ _
    refine sm_seq (sm_while (fun μ M' e => ∃ (w : List Nat) (s : Bool) (l : Nat × Nat) (q : Nat) (s7 s8 s9 : Sl), e = [.d (.ptr t), .d (lineD false c.1 c.2), .d (.int (a : Int)), .d (.int (b : Int)), .d (.ptr wp), .d (lineD s l.1 l.2), .d (.int (q : Int)), s7, s8, s9] ∧
      Pre L (repT ds) a b c w s l q ∧ μ = n - w.length ∧ M' wp = some (.lst (natT w)) ∧ ∀ x, x ≠ wp → M' x = M x) (m := n) ⟨[], false, c, a, _, _, _, rfl, .start, rfl, hw1, ho1⟩ ?_)
    clear hw1 ho1 M1
    rintro μ M' e ⟨w, s, l, q, s7, s8, s9, rfl, hp, rfl, hMw, hfr⟩
    have ht' := (hfr t hwt).trans hT.ht
    have hpp' := (hfr pp hwpp).trans hT.hp
    have hk' := (hfr tp hwtp).trans hT.hk
    have hnd := hp.nodup tb hbf
    have hwn : ∀ e ∈ w, e < n ∧ ∃ qe, D e = some qe := fun e he => by
      rcases hp.col tb e he with z | z <;> exact ⟨Nat.lt_of_lt_of_le (hF.lt _ _ z).1 hkn, _, z⟩
    have hwl : w.length ≤ n := by
      have := nodup_sub hnd (l2 := List.range n) fun x hx => List.mem_range.mpr (hwn x hx).1
      rw [List.length_range] at this; exact this
    refine etm fun MV => et_test (ev_op (ev_tup (ed_cons (ev_var rfl (ed_cons (ev_var rfl (ed_nil ⟨Nat.le_of_ble_eq_true rfl, ev_fldP (ev_var rfl ⟨t, _, _, _, rfl, ht', i_Table.cls, nf _ (by decide), rfl, o2_inN hk' nk_key nk_depth ⟨_, rfl, fun hb => ?_, fun hb => ?_⟩⟩)⟩)))))))
    · obtain ⟨d, hd⟩ := Option.isSome_iff_exists.mp hb
      obtain ⟨e, rfl, he⟩ := (repT_at hR (s := s) (l := l) (q := q)).1 d hd
      have hpe := Pre.step hp he
      have hnew := hp.new tb hbf hnd he
      obtain ⟨hDe, hLe⟩ := (tb.tk _ _ _ _).mp he
      have hen : e < n := Nat.lt_of_lt_of_le (hF.lt _ _ hDe).1 hkn
      have hwl2 : w.length + 1 ≤ n := by
        have := nodup_sub (hpe.nodup tb hbf) (l2 := List.range n) fun x hx => by
          rcases List.mem_append.mp hx with hx | hx
          · exact List.mem_range.mpr (hwn x hx).1
          · rw [List.mem_singleton] at hx; subst hx; exact List.mem_range.mpr hen
        rw [List.length_range, List.length_append] at this; exact this
      refine sm_seq (sm_asg (evm fun MV => ev_dgetNE (ev_fldP (ev_var rfl ⟨t, _, _, _, rfl, ht', i_Table.cls, nf _ (by decide), rfl, tp, ds, rfl, hk', ev_tup (ed_cons (ev_var rfl (ed_cons (ev_var rfl (ed_nil ⟨Nat.le_of_ble_eq_true rfl, _, _, _, rfl, nk_key, nk_depth, hd, ?_⟩)))))⟩))))
      show SvM K J M' [.d (.ptr t), .d (lineD false c.1 c.2), .d (.int (a : Int)), .d (.int (b : Int)), .d (.ptr wp), .d (lineD s l.1 l.2), .d (.int (q : Int)), .d (.int (e : Int)), s8, s9] _ _
      refine sm_seq (sm_drop (evm_app (evm fun MV => ev_var rfl ⟨wp, _, rfl, hMw, evm fun MV => ev_var rfl ⟨_, hMw, by rw [natT_len]; omega, ?_⟩⟩)))
      rw [natT_snoc]
      have hw2 : updM M' wp (.lst (natT (w ++ [e]))) wp = some (.lst (natT (w ++ [e]))) := updM_same
      have ho2 : ∀ x, x ≠ wp → updM M' wp (.lst (natT (w ++ [e]))) x = M x := fun x h => (updM_ne h).trans (hfr x h)
      generalize updM M' wp (.lst (natT (w ++ [e]))) = M2 at hw2 ho2 ⊢
      have ht2 := (ho2 t hwt).trans hT.ht
      refine sm_seq (sm_asgG [8, 9] (evm fun MV => ev_op (ev_fldP (ev_var rfl ⟨t, _, _, _, rfl, ht2, i_Table.cls, nf _ (by decide), rfl, ev_var rfl (o2_ixL (atD_nat (lnD_at hen)) fun MV => gt_tup rfl (gs_cons (gt_name (by decide) (gs_cons (gt_name (by decide) (gs_nil ?_))))))⟩))))
      show SvM K J M2 [.d (.ptr t), .d (lineD false c.1 c.2), .d (.int (a : Int)), .d (.int (b : Int)), .d (.ptr wp), .d (lineD s l.1 l.2), .d (.int (q : Int)), .d (.int (e : Int)), .d (lineD true (L true e).1 (L true e).2), .d (lineD false (L false e).1 (L false e).2)] _ _
      have hnum := hp.num
      refine sm_mid (fun M3 e3 => M3 = M2 ∧ e3 = [.d (.ptr t), .d (lineD false c.1 c.2), .d (.int (a : Int)), .d (.int (b : Int)), .d (.ptr wp), .d (lineD (!s) (L (!s) e).1 (L (!s) e).2), .d (.int (q : Int)), .d (.int (e : Int)), .d (lineD true (L true e).1 (L true e).2), .d (lineD false (L false e).1 (L false e).2)])
        (sm_asg (evm fun MV => ev_if (et_test (ev_op (ev_var rfl (ev_var rfl (o2_eqDD shaped_line shaped_line ⟨_, rfl, fun hb => ev_var rfl ?_, fun hb => ev_var rfl ?_⟩))))))) ?_
      · cases s with
        | true => exact ⟨rfl, rfl⟩
        | false => rw [eqLine_not] at hb; cases hb
      · cases s with
        | true => rw [← hLe, eqLine_same] at hb; cases hb
        | false => exact ⟨rfl, rfl⟩
      · rintro _ _ ⟨rfl, rfl⟩
        refine sm_asg (evm fun MV => ?_)
        repeat walk_at "E"
        have hi : (a : Int) + (b : Int) - (q : Int) = ((a + b - q : Nat) : Int) := by
          have : q ≤ a + b := by rw [hnum]; split <;> omega
          omega
        rw [hi]
        exact ⟨n - (w.length + 1), by omega, w ++ [e], !s, L (!s) e, a + b - q, _, _, _, rfl, hpe, by rw [List.length_append]; rfl, hw2, ho2⟩
    · have hend : repT ds s l q = none := (repT_at hR (s := s) (l := l) (q := q)).2.mp (by
        cases z : atQ ds (keyK s l.1 l.2 q) with
        | none => rfl
        | some d => have hb : (atQ ds (keyK s l.1 l.2 q)).isSome = false := hb; rw [z] at hb; cases hb)
      have hsv := swap_val tb hbf hp hend
      have hsn : ∀ {i : Nat} {v : Nat}, w[i]? = some v → v ∉ w.take i ∧ w.take (i + 1) = w.take i ++ [v] ∧ v ∈ w := fun {i v} h => by
        obtain ⟨hi, e⟩ := List.getElem?_eq_some_iff.mp h
        have e2 : w.take (i + 1) = w.take i ++ [v] := by rw [List.take_add_one, h]; rfl
        refine ⟨fun z => ?_, e2, List.mem_of_getElem? h⟩
        have hs : (w.take (i + 1)).Nodup := hnd.sublist (List.take_sublist _ _)
        rw [e2, List.nodup_append] at hs
        exact hs.2.2 v z v (List.mem_singleton.mpr rfl) rfl
      refine sm_seq (sm_for [7] (eim_seqP (evm fun MV => ev_var rfl ⟨wp, _, rfl, hMw, fun i M2 e => ∃ (dsi : List (NestedKey × Dt)) (s5 s7 : Sl), e = [.d (.ptr t), .d (lineD false c.1 c.2), .d (.int (a : Int)), .d (.int (b : Int)), .d (.ptr wp), s5, .d (.int (q : Int)), s7, s8, s9] ∧
        Rep L dsi (dropW D (w.take i)) ∧ M2 tp = some (.dn _ _ dsi) ∧ dsi.length + 2 * i ≤ ds.length ∧ ∀ x, x ≠ tp → M2 x = M' x, ⟨ds, _, _, rfl, by rw [List.take_zero]; intro s v j q d; rw [hR]; rfl, hk', Nat.le_refl _, fun _ _ => rfl⟩, ?_, ?_⟩)))
      · rintro i d M2 e hd ⟨dsi, s5, s7, rfl, hRi, hk2, hl2, hfr2⟩
        obtain ⟨v, hiv, rfl⟩ := natT_get hd
        obtain ⟨hvt, htk, hvw⟩ := hsn hiv
        obtain ⟨hvn, qv, hqv⟩ := hwn v hvw
        have ht2 := (hfr2 t hT.n2).trans ht'
        have hpp2 := (hfr2 pp hT.n3).trans hpp'
        have hdv : dropW D (w.take i) v = some qv := by unfold dropW; rw [if_neg hvt]; exact hqv
        have hvi : Val L (dropW D (w.take i)) := hv.sub fun x q h => dropW_le h
        have hrd := rep_drop hRi hdv hvi
        rw [← dropW_snoc, ← htk] at hrd
        have hs1 : (atQ dsi (keyK true (L true v).1 (L true v).2 qv)).isSome = true := by rw [hRi.has hdv true]; rfl
        have hs2 : (atQ (dropQ dsi (keyK true (L true v).1 (L true v).2 qv)) (keyK false (L false v).1 (L false v).2 qv)).isSome = true := by
          rw [atQ_drop, if_neg fun z => ?_, hRi.has hdv false]
          · rfl
          · have := (keyK_inj.mp z).1; cases this
        have hn1 := drop_len hs1
        have hn2 := drop_len hs2
        refine ⟨ag1.mpr ((hfr2 wp hwtp.symm).trans hMw), fun MV => gt_name (by decide) ?_⟩
        refine sm_for [5] (eim_seq (evm fun MV => ev_op (ev_fldP (ev_var rfl ⟨t, _, _, _, rfl, ht2, i_Table.cls, nf _ (by decide), rfl, ev_var rfl (o2_ixL (atD_nat (lnD_at hvn)) ⟨_, .inr rfl, fun k3 M3 e => ∃ s5, e = [.d (.ptr t), .d (lineD false c.1 c.2), .d (.int (a : Int)), .d (.int (b : Int)), .d (.ptr wp), s5, .d (.int (q : Int)), .d (.int (v : Int)), s8, s9] ∧ M3 tp = some (.dn _ _ (if k3 = 0 then dsi else if k3 = 1 then dropQ dsi (keyK true (L true v).1 (L true v).2 qv) else dropQ (dropQ dsi (keyK true (L true v).1 (L true v).2 qv)) (keyK false (L false v).1 (L false v).2 qv))) ∧ (∀ x, x ≠ tp → M3 x = M2 x), ⟨_, rfl, hk2, fun x _ => rfl⟩, ?_, ?_⟩)⟩))))
        · rintro k3 d M3 e hd3 ⟨s5, rfl, hk3, hfr3⟩
          refine ⟨ag0, fun MV => gt_name (by decide) ?_⟩
          have ht3 := (hfr3 t hT.n2).trans ht2
          have hpp3 := (hfr3 pp hT.n3).trans hpp2
          have hpv : (plD D n)[v]? = some (.int (qv : Int)) := by rw [plD_at hvn, hqv]; rfl
          match k3, hd3 with
          | 0, hd3 =>
            cases hd3
            refine sm_ddelNE fun MV => ev_fldP (ev_var rfl ⟨t, _, _, _, rfl, ht3, i_Table.cls, nf _ (by decide), rfl, tp, _, rfl, hk3, by show dsi.length ≤ _; omega, ev_tup (ed_cons (ev_var rfl (ed_cons (ev_op (ev_fldP (ev_var rfl ⟨t, _, _, _, rfl, ht3, i_Table.cls, nf _ (by decide), rfl, ev_var rfl (o2_ixP hpp3 (atD_nat hpv) (ed_nil ⟨Nat.le_of_ble_eq_true rfl, _, _, rfl, nk_key, nk_depth, hs1, ?_⟩))⟩))))))⟩)
            exact ⟨_, rfl, updM_same, fun x hx => (updM_ne hx).trans (hfr3 x hx)⟩
          | 1, hd3 =>
            cases hd3
            refine sm_ddelNE fun MV => ev_fldP (ev_var rfl ⟨t, _, _, _, rfl, ht3, i_Table.cls, nf _ (by decide), rfl, tp, _, rfl, hk3, by show (dropQ _ _).length ≤ _; omega, ev_tup (ed_cons (ev_var rfl (ed_cons (ev_op (ev_fldP (ev_var rfl ⟨t, _, _, _, rfl, ht3, i_Table.cls, nf _ (by decide), rfl, ev_var rfl (o2_ixP hpp3 (atD_nat hpv) (ed_nil ⟨Nat.le_of_ble_eq_true rfl, _, _, rfl, nk_key, nk_depth, hs2, ?_⟩))⟩))))))⟩)
            exact ⟨_, rfl, updM_same, fun x hx => (updM_ne hx).trans (hfr3 x hx)⟩
          | k3 + 2, hd3 => cases hd3
        · rintro M3 e ⟨s5, rfl, hk3, hfr3⟩
          exact ⟨ag0, _, _, _, rfl, hrd, hk3, by show (dropQ (dropQ _ _) _).length + _ ≤ _; omega, fun x hx => (hfr3 x hx).trans (hfr2 x hx)⟩
      · rintro M2 e ⟨dsi, s5, s7, rfl, hRi, hk2, hl2, hfr2⟩
        rw [natT_len, List.take_length] at hRi
        rw [natT_len] at hl2
        have hMw2 := (hfr2 wp hwtp.symm).trans hMw
        refine ⟨ag1.mpr hMw2, ?_⟩
        have ht2 := (hfr2 t hT.n2).trans ht'
        have hpp2 := (hfr2 pp hT.n3).trans hpp'
        have hfo : ∀ x, x ≠ wp → x ≠ tp → M2 x = M x := fun x h1 h2 => (hfr2 x h2).trans (hfr x h1)
        clear hfr2 hk' ht' hpp' hfr hMw
        refine sm_for [7] (eim_seqP (evm fun MV => ev_var rfl ⟨wp, _, rfl, hMw2, fun i M3 e => ∃ (dsi : List (NestedKey × Dt)) (s5 s7 : Sl), e = [.d (.ptr t), .d (lineD false c.1 c.2), .d (.int (a : Int)), .d (.int (b : Int)), .d (.ptr wp), s5, .d (.int (q : Int)), s7, s8, s9] ∧
          Rep L dsi (backW D a b w (w.take i)) ∧ M3 tp = some (.dn _ _ dsi) ∧ M3 pp = some (.lst (plD (planW D a b w (w.take i)) n)) ∧ dsi.length + 2 * (w.length - i) ≤ ds.length ∧ ∀ x, x ≠ pp → x ≠ tp → M3 x = M2 x,
          ⟨dsi, _, _, rfl, by rw [List.take_zero, back_nil]; exact hRi, hk2, by rw [List.take_zero, plan_nil]; exact hpp2, by omega, fun _ _ _ => rfl⟩, ?_, ?_⟩))
        · rintro i d M3 e hd ⟨ds3, s5, s7, rfl, hR3, hk3, hp3, hl3, hfr3⟩
          obtain ⟨v, hiv, rfl⟩ := natT_get hd
          obtain ⟨hvt, htk, hvw⟩ := hsn hiv
          obtain ⟨hvn, qv, hqv⟩ := hwn v hvw
          have hil : i < w.length := (List.getElem?_eq_some_iff.mp hiv).1
          have ht3 := (hfr3 t hT.n1 hT.n2).trans ht2
          refine ⟨ag1.mpr ((hfr3 wp hwpp.symm hwtp.symm).trans hMw2), fun MV => gt_name (by decide) ?_⟩
          have hpv : (plD (planW D a b w (w.take i)) n)[v]? = some (.int (qv : Int)) := by
            rw [plD_at hvn]
            unfold planW
            rw [if_neg hvt, hqv]; rfl
          have hb0 : backW D a b w (w.take i) v = none := by unfold backW; rw [if_pos hvw, if_neg hvt]
          have hval : Val L fun x => if x = v then some (a + b - qv) else backW D a b w (w.take i) x := by
            rw [← backW_snoc hvw hqv]
            exact Val.sub hsv fun x q h => backW_le h
          have hr4 := rep_put hR3 hb0 hval
          rw [← backW_snoc hvw hqv, ← htk] at hr4
          have hqab : (a : Int) + (b : Int) - (qv : Int) = ((a + b - qv : Nat) : Int) := by
            have hc := hp.col tb v hvw
            rw [hqv] at hc
            rcases hc with z | z <;> (have z := Option.some.inj z; omega)
          refine sm_drop (evm_meth (evm fun MV => ev_var rfl ⟨t, _, rfl, ht3, rfl, eam fun MV => ea_cons (ev_var rfl (ea_cons (ev_op (ev_op (ev_var rfl (ev_var rfl (o2_I0 (ev_op (ev_fldP (ev_var rfl ⟨t, _, _, _, rfl, ht3, i_Table.cls, nf _ (by decide), rfl, ev_var rfl (o2_ixP hp3 (atD_nat hpv) (o2_I0 ?_))⟩))))))))))⟩))
          rw [hqab]
          refine ea_nil ⟨t, pp, tp, lnD L n, m, _, ds3, v, a + b - qv, _, _, _, _, rfl, ⟨ht3, hp3, hk3, hT.n1, hT.n2, hT.n3⟩, lnD_at hvn, by rw [plD_len]; exact hvn, by omega, fun M4 hp4 hk4 ho4 => ?_⟩
          rw [plD_set, ← planW_snoc hvw hqv, ← htk] at hp4
          have l1 := put_len (ds := ds3) (k := keyK true (L true v).1 (L true v).2 (a + b - qv)) (d := .int (v : Int))
          have l2 := put_len (ds := putQN ds3 (keyK true (L true v).1 (L true v).2 (a + b - qv)) (.int (v : Int))) (k := keyK false (L false v).1 (L false v).2 (a + b - qv)) (d := .int (v : Int))
          exact ⟨_, _, _, rfl, hr4, hk4, hp4, by omega, fun x h1 h2 => (ho4 x h1 h2).trans (hfr3 x h1 h2)⟩
        · rintro M3 e ⟨ds3, s5, s7, rfl, hR3, hk3, hp3, hl3, hfr3⟩
          rw [natT_len, List.take_length] at hR3 hp3
          rw [natT_len] at hl3
          rw [back_all] at hR3
          rw [plan_all] at hp3
          have hend2 : ∀ x, M x ≠ none → x ≠ pp → x ≠ tp → M3 x = M x := fun x hx h1 h2 => (hfr3 x h1 h2).trans (hfo x (ne_frT hx hwp) h2)
          refine ⟨ag1.mpr ((hfr3 wp hwpp.symm hwtp.symm).trans hMw2), less_same (fun y hy => ?_) (hQ M3 ds3 w s l q hp hend ⟨(hfr3 t hT.n1 hT.n2).trans ht2, hp3, hk3, hT.n1, hT.n2, hT.n3⟩ hR3 (by omega) hend2)⟩
          by_cases e1 : y = tp
          · rw [e1, hk3]; simp
          · by_cases e2 : y = pp
            · rw [e2, hp3]; simp
            · rw [hend2 y hy e2 e1]; exact hy
theorem ok_Table_put {P : Program} {w : World} {K : PySem.W.Frag} {mg : Str → Option Value} {base : Heap} {f : Addr} {fd : FuncData} (F : L2.Fun K "put" "Table.put" s_Table_put f fd)
    {C_InvalidPairs fI_InvalidPairs : Addr} {fd_InvalidPairs : FuncData} (e_InvalidPairs : Exk P w K mg base "InvalidPairs" ["self", "value"] ["value"] C_InvalidPairs fI_InvalidPairs fd_InvalidPairs)
    {C_TooMany fI_TooMany : Addr} {fd_TooMany : FuncData} (e_TooMany : Exk P w K mg base "TooMany" ["self", "what"] ["what"] C_TooMany fI_TooMany fd_TooMany)
    {C_Undefined fI_Undefined : Addr} {fd_Undefined : FuncData} (e_Undefined : Exk P w K mg base "Undefined" ["self", "what"] ["what"] C_Undefined fI_Undefined fd_Undefined)
    {C_Table : Addr} (i_Table : Ins K C_Table ["lines", "most", "taken", "plan"])
    (c_Table_free_round : CalM P w K mg base 5 C_Table "free_round" P_Table_free_round (CtP K (W_free P w C_Table)))
    (c_Table_exchange : CalM P w K mg base 5 C_Table "exchange" P_Table_exchange (CtP K (W_exch P w C_Table)))
    (c_Table_place_in : CalM P w K mg base 5 C_Table "place_in" P_Table_place_in (CtP K (W_plin P w C_Table))) :
    FnOk P w K mg base (L2.CX P w) (6) f fd P_Table_put (CtP K (W_tput P w C_Table)) := by
  refine ok_ctp F sc_Table_put (fun M ss P PX h => ?_) (fun cdv A outer s H E hr => ⟨_, (pss_cons (ps_asg (pe_ix (ix_seqK K) (pe_fldK K (pv 0)) (pv 1) (fun _ _ => rfl)) (pg_tupK K 2 (by rfl) (pgs_cons (pg_name (i := 2) sc_Table_put.nd rfl (by first | exact Or.inl rfl | exact Or.inr rfl)) (pgs_cons (pg_name (i := 3) sc_Table_put.nd rfl (by first | exact Or.inl rfl | exact Or.inr rfl)) pgs_nil))))
      (pss_cons (ps_set (i := 4) sc_Table_put.nd rfl (by first | exact Or.inl rfl | exact Or.inr rfl) (pe_methW (fun cls d _ H => E cls d H) (takes_of rfl rfl rfl rfl) c_Table_free_round hr (pv 0) (pa_cons (pv 2) pa_nil)))
      (pss_cons (ps_expr (pe_methW (fun cls d _ H => E cls d H) (takes_of rfl rfl rfl rfl) c_Table_exchange hr (pv 0) (pa_cons (pv 3) (pa_cons (pv 4) (pa_cons (pe_methW (fun cls d _ H => E cls d H) (takes_of rfl rfl rfl rfl) c_Table_free_round hr (pv 0) (pa_cons (pv 3) pa_nil)) pa_nil)))))
      (pss_one (ps_expr (pe_methW (fun cls d _ H => E cls d H) (takes_of rfl rfl rfl rfl) c_Table_place_in hr (pv 0) (pa_cons (pv 1) (pa_cons (pv 4) pa_nil)))))))), fun J M ss P PX h => ?_⟩)
  · obtain ⟨t, pp, tp, L, n, m, k, D, rfl, _⟩ := h
    rfl
  · obtain ⟨t, pp, tp, L, n, m, k, D, rfl, ⟨ds, hT, hR, hz, hre⟩, hk, hn, hm, hlo, hQ⟩ := h
    have nf := i_Table.nf
    have hF := hre.full
    have tb := rep_tab hR hF.val
    show SvM K J M [.d (.ptr t), .d (.int (k : Int)), .no, .no, .no] _ _
    refine sm_seq (sm_asgG [2, 3] (evm fun MV => ev_op (ev_fldP (ev_var rfl ⟨t, _, _, _, rfl, hT.ht, i_Table.cls, nf _ (by decide), rfl, ev_var rfl (o2_ixL (atD_nat (lnD_at hk)) fun MV => gt_tup rfl (gs_cons (gt_name (by decide) (gs_cons (gt_name (by decide) (gs_nil ?_))))))⟩))))
    show SvM K J M [.d (.ptr t), .d (.int (k : Int)), .d (lineD true (L true k).1 (L true k).2), .d (lineD false (L false k).1 (L false k).2), .no] _ _
    have fr : ∀ s : Bool, ∃ q, q < m ∧ atQ ds (keyK s (L s k).1 (L s k).2 q) = none := fun s => by
      obtain ⟨q, h1, h2⟩ := line_free tb hF hk hlo s
      exact ⟨q, h1, (repT_at hR (s := s) (l := L s k) (q := q)).2.mpr h2⟩
    refine sm_seq (sm_asg (evm_meth (evm fun MV => ev_var rfl ⟨t, _, rfl, hT.ht, rfl, eam fun MV => ea_cons (ev_var rfl (ea_nil ⟨t, pp, tp, _, m, _, ds, true, _, _, rfl, hT, by omega, fr true, fun a ha ha1 ha2 => ?_⟩))⟩)))
    show SvM K J M [.d (.ptr t), .d (.int (k : Int)), .d (lineD true (L true k).1 (L true k).2), .d (lineD false (L false k).1 (L false k).2), .d (.int (a : Int))] _ _
    refine sm_seq (sm_drop (evm_meth (evm fun MV => ev_var rfl ⟨t, _, rfl, hT.ht, rfl, eam_cons (evm fun MV => ev_var rfl (eam_cons (evm fun MV => ev_var rfl (eam_cons (evm_meth (evm fun MV => ev_var rfl ⟨t, _, rfl, hT.ht, rfl, eam fun MV => ea_cons (ev_var rfl (ea_nil ⟨t, pp, tp, _, m, _, ds, false, _, _, rfl, hT, by omega, fr false, fun b hb hb1 hb2 => ?_⟩))⟩))))))⟩)))
    have tt : ∀ (s : Bool) (q : Nat), atQ ds (keyK s (L s k).1 (L s k).2 q) = none ↔ repT ds s (L s k) q = none := fun s q => (repT_at hR (s := s) (l := L s k) (q := q)).2
    refine eam fun MV => ea_nil ⟨t, pp, tp, L, n, m, D, ds, k, a, b, rfl, hT, hR, hF, by omega, hn, by omega, (tt false b).mp hb1, fun M1 ds1 wy s l q hp he hT1 hR1 hz1 hf1 => ?_⟩
    have hst : StepR L m D k (fun x => if x = k then some a else swpP D a b wy x) := ⟨repT ds, a, b, wy, s, l, q, tb, ⟨ha, (tt true a).mp ha1, fun x hx z => ha2 x hx ((tt true x).mpr z)⟩, ⟨hb, (tt false b).mp hb1, fun x hx z => hb2 x hx ((tt false x).mpr z)⟩, hp, he, rfl⟩
    have hsk : swpP D a b wy k = none := by
      cases z : swpP D a b wy k with
      | none => rfl
      | some r => exact absurd (swp_lt tb hF hp ha hb k r z).1 (Nat.lt_irrefl k)
    have hr2 := rep_put hR1 hsk (hF.step hst).val
    refine sm_drop (evm_meth (evm fun MV => ev_var rfl ⟨t, _, rfl, hT1.ht, rfl, eam fun MV => ea_cons (ev_var rfl (ea_cons (ev_var rfl (ea_nil ⟨t, pp, tp, _, m, _, ds1, k, a, _, _, _, _, rfl, hT1, lnD_at hk, by rw [plD_len]; exact hk, by omega, fun M2 hp2 hk2 ho2 => ?_⟩))))⟩))
    rw [plD_set] at hp2
    have l1 := put_len (ds := ds1) (k := keyK true (L true k).1 (L true k).2 a) (d := .int (k : Int))
    have l2 := put_len (ds := putQN ds1 (keyK true (L true k).1 (L true k).2 a) (.int (k : Int))) (k := keyK false (L false k).1 (L false k).2 a) (d := .int (k : Int))
    have hfr : ∀ x, M x ≠ none → x ≠ pp → x ≠ tp → M2 x = M x := fun x hx h1 h2 => (ho2 x h1 h2).trans (hf1 x hx h1 h2)
    refine less_same (fun y hy => ?_) (hQ M2 _ ⟨_, ⟨(ho2 t hT.n1 hT.n2).trans hT1.ht, hp2, hk2, hT.n1, hT.n2, hT.n3⟩, hr2, by omega, .step hre hst⟩ hfr)
    by_cases e1 : y = tp
    · rw [e1, hk2]; simp
    · by_cases e2 : y = pp
      · rw [e2, hp2]; simp
      · rw [hfr y hy e2 e1]; exact hy
theorem ok_Table__init__ {P : Program} {w : World} {K : PySem.W.Frag} {mg : Str → Option Value} {base : Heap} {f : Addr} {fd : FuncData} (F : L2.Fun K "__init__" "Table.__init__" s_Table__init__ f fd)
    {C_InvalidPairs fI_InvalidPairs : Addr} {fd_InvalidPairs : FuncData} (e_InvalidPairs : Exk P w K mg base "InvalidPairs" ["self", "value"] ["value"] C_InvalidPairs fI_InvalidPairs fd_InvalidPairs)
    {C_TooMany fI_TooMany : Addr} {fd_TooMany : FuncData} (e_TooMany : Exk P w K mg base "TooMany" ["self", "what"] ["what"] C_TooMany fI_TooMany fd_TooMany)
    {C_Undefined fI_Undefined : Addr} {fd_Undefined : FuncData} (e_Undefined : Exk P w K mg base "Undefined" ["self", "what"] ["what"] C_Undefined fI_Undefined fd_Undefined)
    {C_Table : Addr} (i_Table : Ins K C_Table ["lines", "most", "taken", "plan"])
    (m_zip : mg "zip" = none) :
    FnOk P w K mg base (L2.CX P w) (4) f fd P_Table__init__ (CtP K (W_tinit P w C_Table)) := by
  refine ok_ctp F sc_Table__init__ (fun M ss P PX h => ?_) (fun cdv A outer s H E hr => ⟨_, (pss_cons (ps_fldK K (pv 0) (pe_lc (own := [("row", 4), ("column", 5)]) rfl sc_Table__init__.nd (pi_zipF (K := K) false false (by rfl) (by rfl) m_zip (pa_cons (pv 1) (pa_cons (pv 2) pa_nil))) (blkOk_by (N := N_Table__init__) (sc := defScope s_Table__init__) (by decide +kernel)) (fun _ _ _ _ _ => (pg_tupK K 2 (by rfl) (pgs_cons (pg_name (i := 4) sc_Table__init__.nd rfl (by first | exact Or.inl rfl | exact Or.inr rfl)) (pgs_cons (pg_name (i := 5) sc_Table__init__.nd rfl (by first | exact Or.inl rfl | exact Or.inr rfl)) pgs_nil)))) (fun _ _ _ _ _ => pts_nil) (fun _ _ _ _ _ => (pe_tup (pa_cons (pe_op (op_catAK K) (pe_tup (pa_cons pe_str pa_nil)) (pv 4)) (pa_cons (pe_op (op_catAK K) (pe_tup (pa_cons pe_str pa_nil)) (pv 5)) pa_nil))))))
      (pss_cons (ps_fldK K (pv 0) (pv 3))
      (pss_cons (ps_fldK K (pv 0) pe_dnewN)
      (pss_one (ps_fldK K (pv 0) (pe_lc (own := [("row", 4)]) rfl sc_Table__init__.nd (pi_seqK K (pv 1)) (blkOk_by (N := N_Table__init__) (sc := defScope s_Table__init__) (by decide +kernel)) (fun _ _ _ _ _ => (pg_name (i := 4) sc_Table__init__.nd rfl (by first | exact Or.inl rfl | exact Or.inr rfl))) (fun _ _ _ _ _ => pts_nil) (fun _ _ _ _ _ => pe_non))))))), fun J M ss P PX h => ?_⟩)
  · obtain ⟨t, rs, cs, m, rfl, _⟩ := h
    rfl
  · obtain ⟨t, rs, cs, m, rfl, hM, hl, hn, hQ⟩ := h
    show SvM K J M [.d (.ptr t), .d (.lst (pairsD rs)), .d (.lst (pairsD cs)), .d (.int (m : Int)), .no, .no] _ _
    have nf := i_Table.nf
    have cl := i_Table.cls
    have hpl : (pairsD rs).length = (pairsD cs).length := by rw [pairsD_len, pairsD_len, hl]
    refine sm_seq (sm_fldP (evm fun MV => Em.ev (em_lc (ei_zipF (ed_cons (ev_var rfl (ed_cons (ev_var rfl (ed_nil ⟨_, _, rfl, hpl, by rw [zipD_len hpl, pairsD_len]; omega, fun k acc => acc = (lnD (LnC rs cs) rs.length).take k, rfl, ?_, ?_⟩)))))))))
    · rintro k d acc hd _ rfl
      have hk : k < rs.length := by
        have := (List.getElem?_eq_some_iff.mp hd).1
        rw [zipD_len hpl, pairsD_len] at this
        exact this
      have hr := List.getElem?_eq_getElem hk
      have hc := List.getElem?_eq_getElem (hl ▸ hk : k < cs.length)
      have e1 : LnC rs cs true k = rs[k] := by show rs.getD k (0, 0) = _; rw [List.getD_eq_getElem?_getD, hr]; rfl
      have e2 : LnC rs cs false k = cs[k] := by show cs.getD k (0, 0) = _; rw [List.getD_eq_getElem?_getD, hc]; rfl
      have hln := lnD_at (L := LnC rs cs) hk
      rw [e1, e2] at hln
      generalize rs[k] = r at hr hln
      generalize cs[k] = c at hc hln
      have hd2 := zipD_get (pairsD_tat hr) (pairsD_tat hc)
      rw [hd2] at hd
      cases hd
      refine gt_tup rfl (gs_cons (gt_name (by decide) (gs_cons (gt_name (by decide) (gs_nil (et_yes ⟨fun _ => ?_, fun z => (nomatch z)⟩))))))
      refine ev_tup (ed_cons (ev_op (ev_tup (ed_cons (ev_str (ed_nil ⟨Nat.le_of_ble_eq_true rfl, ev_var rfl (o2_cat (Nat.le_of_ble_eq_true rfl) (ed_cons (ev_op (ev_tup (ed_cons (ev_str (ed_nil ⟨Nat.le_of_ble_eq_true rfl, ev_var rfl (o2_cat (Nat.le_of_ble_eq_true rfl) (ed_nil ⟨Nat.le_of_ble_eq_true rfl, ?_⟩))⟩)))))))⟩))))))
      show _ = (lnD (LnC rs cs) rs.length).take (k + 1)
      rw [List.take_add_one, hln]
      rfl
    rintro acc _ rfl
    rw [zipD_len hpl, pairsD_len, List.take_of_length_le (by unfold lnD; simp)]
    refine evm fun MV => ev_var rfl ⟨t, _, _, rfl, hM, cl, nf _ (by decide), Nat.le_of_ble_eq_true rfl, ?_⟩
    have h1 : updM M t (.ins C_Table (putD "lines" (.lst (lnD (LnC rs cs) rs.length)) [])) t = some (.ins C_Table [("lines", .lst (lnD (LnC rs cs) rs.length))]) := updM_same
    have f1 : ∀ x, x ≠ t → updM M t (.ins C_Table (putD "lines" (.lst (lnD (LnC rs cs) rs.length)) [])) x = M x := fun x hx => updM_ne hx
    generalize updM M t (.ins C_Table (putD "lines" (.lst (lnD (LnC rs cs) rs.length)) [])) = M1 at h1 f1 ⊢
    generalize lnD (LnC rs cs) rs.length = ln at h1 hQ ⊢
    refine sm_seq (sm_fldP (evm fun MV => ev_var rfl (evm fun MV => ev_var rfl ⟨t, _, _, rfl, h1, cl, nf _ (by decide), Nat.le_of_ble_eq_true rfl, ?_⟩)))
    have h2 : updM M1 t (.ins C_Table (putD "most" (.int (m : Int)) [("lines", .lst ln)])) t = some (.ins C_Table [("lines", .lst ln), ("most", .int (m : Int))]) := updM_same
    have f2 : ∀ x, x ≠ t → updM M1 t (.ins C_Table (putD "most" (.int (m : Int)) [("lines", .lst ln)])) x = M x := fun x hx => (updM_ne hx).trans (f1 x hx)
    generalize updM M1 t (.ins C_Table (putD "most" (.int (m : Int)) [("lines", .lst ln)])) = M2 at h2 f2 ⊢
    refine sm_seq (sm_fldP (evm_dnewN fun tp htp => ?_))
    have htt : t ≠ tp := ne_frT (by rw [h2]; simp) htp
    have hMt : M tp = none := by rw [← f2 tp htt.symm]; exact htp
    refine evm fun MV => ev_var rfl ⟨t, _, _, rfl, by rw [updM_ne htt]; exact h2, cl, nf _ (by decide), Nat.le_of_ble_eq_true rfl, ?_⟩
    have h3 : updM (updM M2 tp (.dn ‹Program› w [])) t (.ins C_Table (putD "taken" (.ptr tp) [("lines", .lst ln), ("most", .int (m : Int))])) t = some (.ins C_Table [("lines", .lst ln), ("most", .int (m : Int)), ("taken", .ptr tp)]) := updM_same
    have p3 : updM (updM M2 tp (.dn ‹Program› w [])) t (.ins C_Table (putD "taken" (.ptr tp) [("lines", .lst ln), ("most", .int (m : Int))])) tp = some (.dn ‹Program› w []) := by rw [updM_ne htt.symm, updM_same]
    have f3 : ∀ x, x ≠ t → x ≠ tp → updM (updM M2 tp (.dn ‹Program› w [])) t (.ins C_Table (putD "taken" (.ptr tp) [("lines", .lst ln), ("most", .int (m : Int))])) x = M x := fun x h4 h5 => by rw [updM_ne h4, updM_ne h5]; exact f2 x h4
    show SvM K J (updM (updM M2 tp (.dn ‹Program› w [])) t (.ins C_Table (putD "taken" (.ptr tp) [("lines", .lst ln), ("most", .int (m : Int))]))) [.d (.ptr t), .d (.lst (pairsD rs)), .d (.lst (pairsD cs)), .d (.int (m : Int)), .no, .no] _ _
    generalize updM (updM M2 tp (.dn ‹Program› w [])) t (.ins C_Table (putD "taken" (.ptr tp) [("lines", .lst ln), ("most", .int (m : Int))])) = M3 at h3 p3 f3 ⊢
    refine sm_fldP (evm_lc (eim_seq (evm fun MV => ev_var rfl ⟨_, .inl rfl, by rw [pairsD_len]; omega, fun k acc M' => M' = M3 ∧ acc = plD (fun _ => none) k, ⟨rfl, rfl⟩, ?_, ?_⟩)))
    · rintro k d acc M' hd _ ⟨rfl, rfl⟩
      refine ⟨ag0, fun MV => gt_name (by decide) (et_yes ⟨fun _ => evm fun MV => ev_non ⟨rfl, ?_⟩, fun z => (nomatch z)⟩)⟩
      unfold plD
      rw [List.range_succ, List.map_append]
      rfl
    rintro acc M' _ ⟨rfl, rfl⟩
    refine ⟨ag0, fun pp hpp => ?_⟩
    rw [pairsD_len]
    have hgt : t ≠ pp := ne_frT (by rw [h3]; simp) hpp
    have hgp : tp ≠ pp := ne_frT (by rw [p3]; simp) hpp
    have hMp : M pp = none := by rw [← f3 pp hgt.symm hgp.symm]; exact hpp
    refine evm fun MV => ev_var rfl ⟨t, _, _, rfl, by rw [updM_ne hgt]; exact h3, cl, nf _ (by decide), Nat.le_of_ble_eq_true rfl, ?_⟩
    have hend : ∀ x, M x ≠ none → x ≠ t → updM (updM M' pp (.lst (plD (fun _ => none) rs.length))) t (.ins C_Table (putD "plan" (.ptr pp) [("lines", .lst ln), ("most", .int (m : Int)), ("taken", .ptr tp)])) x = M x := fun x hx h4 => by
      rw [updM_ne h4, updM_ne (ne_frT hx hMp), f3 x h4 (ne_frT hx hMt)]
    refine less_same (fun y hy => ?_) (hQ _ pp tp hMp hMt hend ⟨updM_same, by rw [updM_ne hgt.symm, updM_same], by rw [updM_ne htt.symm, updM_ne hgp]; exact p3, hgt, htt, hgp.symm⟩)
    by_cases e : y = t
    · rw [e, updM_same]; simp
    · rw [hend y hy e]; exact hy
theorem ok_rounds_needed {P : Program} {w : World} {K : PySem.W.Frag} {mg : Str → Option Value} {base : Heap} {f : Addr} {fd : FuncData} (F : L2.Fun K "rounds_needed" "rounds_needed" s_rounds_needed f fd)
    {C_InvalidPairs fI_InvalidPairs : Addr} {fd_InvalidPairs : FuncData} (e_InvalidPairs : Exk P w K mg base "InvalidPairs" ["self", "value"] ["value"] C_InvalidPairs fI_InvalidPairs fd_InvalidPairs)
    {C_TooMany fI_TooMany : Addr} {fd_TooMany : FuncData} (e_TooMany : Exk P w K mg base "TooMany" ["self", "what"] ["what"] C_TooMany fI_TooMany fd_TooMany)
    {C_Undefined fI_Undefined : Addr} {fd_Undefined : FuncData} (e_Undefined : Exk P w K mg base "Undefined" ["self", "what"] ["what"] C_Undefined fI_Undefined fd_Undefined)
    {C_Table : Addr} (i_Table : Ins K C_Table ["lines", "most", "taken", "plan"])
    (m_max : mg "max" = none)
    (m_enumerate : mg "enumerate" = none)
    (c_rounded_up : Cal P w K mg base 1 "rounded_up" P_rounded_up (Ct K W_up)) :
    FnOk P w K mg base CX0 (2) f fd P_rounds_needed (Ct K W_rneed) := by
  refine ok_ct F sc_rounds_needed (fun ss P h => ?_) (fun cdv A outer s H E hr => ⟨_, (pss_one (ps_ret (pe_callB (c_maxLK K) (by rfl) m_max (by decide +kernel) (pa_cons (pe_lc (own := [("store", 2), ("limit", 3)]) rfl sc_rounds_needed.nd (pi_enumK K (by rfl) m_enumerate (pa_cons (pv 0) pa_nil)) (blkOk_by (N := N_rounds_needed) (sc := defScope s_rounds_needed) (by decide +kernel)) (fun _ _ _ _ _ => (pg_tupK K 2 (by rfl) (pgs_cons (pg_name (i := 2) sc_rounds_needed.nd rfl (by first | exact Or.inl rfl | exact Or.inr rfl)) (pgs_cons (pg_name (i := 3) sc_rounds_needed.nd rfl (by first | exact Or.inl rfl | exact Or.inr rfl)) pgs_nil)))) (fun _ _ _ _ _ => pts_nil) (fun _ _ _ _ _ => (pe_callC c_rounded_up hr (by rfl) (pa_cons (pe_bmK K PySem.F.plainAttrs_list PySem.F.slot_list_count PySem.F.type_list_count (mt_lcountK K) (pv 1) (pa_cons (pv 2) pa_nil)) (pa_cons (pv 3) pa_nil))))) pa_nil)))), fun J ss P h => ?_⟩)
  · obtain ⟨ls, st, rfl, _⟩ := h
    rfl
  · obtain ⟨ls, st, rfl, h0, hz, hr, hP⟩ := h
    show Sv K J [.d (lotD ls), .d (.lst (natsD st)), .no, .no] _ _
    generalize hN : (List.range ls.length).map (fun v => upN (st.count v) (ls.getD v 0)) = N
    have hNl : N.length = ls.length := by rw [← hN]; simp
    refine sv_ret (ev_cb (ed_cons (Em.ev (em_lc (ei_enum (ev_var rfl ⟨natsD ls, .inr rfl, by rw [enumD_len, natsD_length]; omega, fun k acc => acc = natsD (N.take k), rfl, ?_, ?_⟩))))))
    · rintro k d acc hd _ rfl
      have hk : k < ls.length := by
        have := (List.getElem?_eq_some_iff.mp hd).1
        rw [enumD_len, natsD_length] at this
        exact this
      have hlk : (natsD ls)[k]? = some (.int (ls.getD k 0 : Nat)) := by
        unfold natsD
        rw [List.getElem?_map, List.getD_eq_getElem?_getD, List.getElem?_eq_getElem hk]; rfl
      rw [enumD_get hlk] at hd
      cases hd
      have hp := getD_pos hr hk
      refine gt_tup rfl (gs_cons (gt_name (by decide) (gs_cons (gt_name (by decide) (gs_nil (et_yes ⟨fun _ => ?_, fun z => (nomatch z)⟩))))))
      refine ev_call (ea_cons (ev_count (ev_var rfl ⟨_, by rw [natsD_ints], ev_var rfl ⟨_, rfl, ea_cons (ev_var rfl (ea_nil ⟨st.count k, ls.getD k 0, ?_, hp.1, by omega, ?_⟩))⟩⟩)))
      · rw [count_ints]
      · show natsD _ ++ [Dt.int ((upN (st.count k) (ls.getD k 0) : Nat) : Int)] = _
        rw [natsD_snoc, List.take_add_one, ← hN, List.getElem?_map, List.getElem?_range hk]
        rfl
    · rintro acc _ rfl
      rw [enumD_len, natsD_length, ← hNl, List.take_length, natsD_ints N]
      refine ed_nil (oc_maxL (by rw [List.length_map]; omega) fun m hm hy => ?_)
      rw [mx_int hm hy, ← hN]
      exact hP
theorem ok_parted {P : Program} {w : World} {K : PySem.W.Frag} {mg : Str → Option Value} {base : Heap} {f : Addr} {fd : FuncData} (F : L2.Fun K "parted" "parted" s_parted f fd)
    {C_InvalidPairs fI_InvalidPairs : Addr} {fd_InvalidPairs : FuncData} (e_InvalidPairs : Exk P w K mg base "InvalidPairs" ["self", "value"] ["value"] C_InvalidPairs fI_InvalidPairs fd_InvalidPairs)
    {C_TooMany fI_TooMany : Addr} {fd_TooMany : FuncData} (e_TooMany : Exk P w K mg base "TooMany" ["self", "what"] ["what"] C_TooMany fI_TooMany fd_TooMany)
    {C_Undefined fI_Undefined : Addr} {fd_Undefined : FuncData} (e_Undefined : Exk P w K mg base "Undefined" ["self", "what"] ["what"] C_Undefined fI_Undefined fd_Undefined)
    {C_Table : Addr} (i_Table : Ins K C_Table ["lines", "most", "taken", "plan"])
    (m_enumerate : mg "enumerate" = none) :
    FnOk P w K mg base CX0 (2) f fd P_parted (Ct K W_parted) := by
  refine ok_ct F sc_parted (fun ss P h => ?_) (fun cdv A outer s H E hr => ⟨_, (pss_one (ps_ret (pe_lc (own := [("place", 2), ("store", 3)]) rfl sc_parted.nd (pi_enumK K (by rfl) m_enumerate (pa_cons (pv 0) pa_nil)) (blkOk_by (N := N_parted) (sc := defScope s_parted) (by decide +kernel)) (fun _ _ _ _ _ => (pg_tupK K 2 (by rfl) (pgs_cons (pg_name (i := 2) sc_parted.nd rfl (by first | exact Or.inl rfl | exact Or.inr rfl)) (pgs_cons (pg_name (i := 3) sc_parted.nd rfl (by first | exact Or.inl rfl | exact Or.inr rfl)) pgs_nil)))) (fun _ _ _ _ _ => pts_nil) (fun _ _ _ _ _ => (pe_tup (pa_cons (pv 3) (pa_cons (pe_op op_fdiv (pe_bmK K PySem.F.plainAttrs_list PySem.F.slot_list_count PySem.F.type_list_count (mt_lcountK K) (pe_slice (sl_listK K) (pv 0) po_none (po_some (pv 2))) (pa_cons (pv 3) pa_nil)) (pv 1)) pa_nil))))))), fun J ss P h => ?_⟩)
  · obtain ⟨st, m, rfl, _⟩ := h
    rfl
  · obtain ⟨st, m, rfl, hz, hm, h0, hP⟩ := h
    show Sv K J [.d (.lst (natsD st)), .d (.int (m : Int)), .no, .no] _ _
    refine sv_ret (Em.ev (em_lc (ei_enum (ev_var rfl ⟨natsD st, .inl rfl, by rw [enumD_len, natsD_length]; omega, fun k acc => acc = pairsD ((partL m st).take k), rfl, ?_, ?_⟩))))
    · rintro k d acc hd _ rfl
      have hk : k < st.length := by
        have := (List.getElem?_eq_some_iff.mp hd).1
        rw [enumD_len, natsD_length] at this
        exact this
      have hm0 := h0 fun z => by rw [z] at hk; exact absurd hk (Nat.not_lt_zero _)
      have hlk : (natsD st)[k]? = some (.int (st.getD k 0 : Nat)) := by
        unfold natsD
        rw [List.getElem?_map, List.getD_eq_getElem?_getD, List.getElem?_eq_getElem hk]; rfl
      rw [enumD_get hlk] at hd
      cases hd
      have hcut : cutD (natsD st) none (some (k : Int)) = natsD (st.take k) := by rw [cut_to]; unfold natsD; rw [List.map_take]
      refine gt_tup rfl (gs_cons (gt_name (by decide) (gs_cons (gt_name (by decide) (gs_nil (et_yes ⟨fun _ => ?_, fun z => (nomatch z)⟩))))))
      refine ev_tup (ed_cons (ev_var rfl (ed_cons (ev_op (ev_count (Em.ev (em_slL (ev_var rfl ⟨_, rfl, ep_none (ep_some (ev_var rfl ⟨_, rfl, ?_⟩))⟩))))))))
      refine ⟨_, by rw [hcut, natsD_ints], ev_var rfl ⟨_, rfl, ?_⟩⟩
      rw [count_ints]
      refine ev_var rfl (o2_I (C := CDiv) (cdiv_ok (by omega) (by omega)) (ed_nil ⟨Nat.le_of_ble_eq_true rfl, ?_⟩))
      show _ = pairsD ((partL m st).take (k + 1))
      have hpk : (partL m st)[k]? = some (st.getD k 0, partN m st k) := by unfold partL; rw [List.getElem?_map, List.getElem?_range hk]; rfl
      rw [List.take_add_one, hpk, pairsD_app]
      rfl
    · rintro acc _ rfl
      rw [enumD_len, natsD_length, ← partL_len (m := m) (st := st), List.take_length]
      exact hP
theorem ok_table_plan {P : Program} {w : World} {K : PySem.W.Frag} {mg : Str → Option Value} {base : Heap} {f : Addr} {fd : FuncData} (F : L2.Fun K "table_plan" "table_plan" s_table_plan f fd)
    {C_InvalidPairs fI_InvalidPairs : Addr} {fd_InvalidPairs : FuncData} (e_InvalidPairs : Exk P w K mg base "InvalidPairs" ["self", "value"] ["value"] C_InvalidPairs fI_InvalidPairs fd_InvalidPairs)
    {C_TooMany fI_TooMany : Addr} {fd_TooMany : FuncData} (e_TooMany : Exk P w K mg base "TooMany" ["self", "what"] ["what"] C_TooMany fI_TooMany fd_TooMany)
    {C_Undefined fI_Undefined : Addr} {fd_Undefined : FuncData} (e_Undefined : Exk P w K mg base "Undefined" ["self", "what"] ["what"] C_Undefined fI_Undefined fd_Undefined)
    {C_Table : Addr} (i_Table : Ins K C_Table ["lines", "most", "taken", "plan"])
    (m_len : mg "len" = none)
    (m_max : mg "max" = none)
    (m_range : mg "range" = none)
    (m_tuple : mg "tuple" = none)
    (mk_Table : MkI P w K mg base 6 "Table" P_Table__init__ C_Table (CtP K (W_tinit P w C_Table)))
    (c_check_pairs : CalX P w K mg base 7 "check_pairs" P_check_pairs (CtX K (W_ckpairs C_InvalidPairs)))
    (c_rounds_needed : Cal P w K mg base 7 "rounds_needed" P_rounds_needed (Ct K W_rneed))
    (c_parted : Cal P w K mg base 7 "parted" P_parted (Ct K W_parted))
    (c_Table_put : CalM P w K mg base 7 C_Table "put" P_Table_put (CtP K (W_tput P w C_Table))) :
    FnOk P w K mg base (L2.CX P w) (8) f fd P_table_plan (CtP K (W_tplan C_InvalidPairs)) := by
  refine ok_ctp F sc_table_plan (fun M ss P PX h => ?_) (fun cdv A outer s H E hr => ⟨_, (pss_cons (ps_expr (pe_callW (fun cls d _ H => E cls d H) (takes_of rfl rfl rfl rfl) c_check_pairs hr rfl (pa_cons (pe_callB (c_lenK K) (by rfl) m_len PySem.boot_len (pa_cons (pv 0) pa_nil)) (pa_cons (pv 2) pa_nil))))
      (pss_cons (ps_setLc (own := [("giver", 8), ("taker", 9)]) (i := 3) rfl sc_table_plan.nd rfl rfl (sw_true rfl rfl rfl (by decide +kernel)) (pi_seqK K (pv 2)) (blkOk_by (N := N_table_plan) (sc := defScope s_table_plan) (by decide +kernel)) (fun _ _ _ _ _ => (pg_tupK K 2 (by rfl) (pgs_cons (pg_name (i := 8) sc_table_plan.nd rfl (by first | exact Or.inl rfl | exact Or.inr rfl)) (pgs_cons (pg_name (i := 9) sc_table_plan.nd rfl (by first | exact Or.inl rfl | exact Or.inr rfl)) pgs_nil)))) (fun _ _ _ _ _ => pts_nil) (fun _ _ _ _ _ => (pv 8)))
      (pss_cons (ps_setLc (own := [("giver", 8), ("taker", 9)]) (i := 4) rfl sc_table_plan.nd rfl rfl (sw_true rfl rfl rfl (by decide +kernel)) (pi_seqK K (pv 2)) (blkOk_by (N := N_table_plan) (sc := defScope s_table_plan) (by decide +kernel)) (fun _ _ _ _ _ => (pg_tupK K 2 (by rfl) (pgs_cons (pg_name (i := 8) sc_table_plan.nd rfl (by first | exact Or.inl rfl | exact Or.inr rfl)) (pgs_cons (pg_name (i := 9) sc_table_plan.nd rfl (by first | exact Or.inl rfl | exact Or.inr rfl)) pgs_nil)))) (fun _ _ _ _ _ => pts_nil) (fun _ _ _ _ _ => (pv 9)))
      (pss_cons (ps_set (i := 5) sc_table_plan.nd rfl (by first | exact Or.inl rfl | exact Or.inr rfl) (pe_callB c_max (by rfl) m_max (by decide +kernel) (pa_cons (pe_callC c_rounds_needed hr (by rfl) (pa_cons (pv 0) (pa_cons (pv 3) pa_nil))) (pa_cons (pe_callC c_rounds_needed hr (by rfl) (pa_cons (pv 1) (pa_cons (pv 4) pa_nil))) pa_nil))))
      (pss_cons (ps_set (i := 6) sc_table_plan.nd rfl (by first | exact Or.inl rfl | exact Or.inr rfl) (pe_makeC mk_Table hr rfl (pa_cons (pe_callC c_parted hr (by rfl) (pa_cons (pv 3) (pa_cons (pv 5) pa_nil))) (pa_cons (pe_callC c_parted hr (by rfl) (pa_cons (pv 4) (pa_cons (pv 5) pa_nil))) (pa_cons (pv 5) pa_nil)))))
      (pss_cons (ps_for (passes_of rfl) rfl (pi_range1 (by rfl) m_range (pa_cons (pe_callB (c_lenK K) (by rfl) m_len PySem.boot_len (pa_cons (pv 2) pa_nil)) pa_nil)) (pg_name (i := 7) sc_table_plan.nd rfl (by first | exact Or.inl rfl | exact Or.inr rfl))
        (pss_one (ps_expr (pe_methW (fun cls d _ H => E cls d H) (takes_of rfl rfl rfl rfl) c_Table_put hr (pv 6) (pa_cons (pv 7) pa_nil)))))
      (pss_one (ps_ret (pe_callTy (c_tupK K) (by rfl) m_tuple (by decide +kernel) (pa_cons (pe_fldK K (pv 6)) pa_nil)))))))))), fun J M ss P PX h => ?_⟩)
  · obtain ⟨lv, en, x, rfl, _⟩ := h
    rfl
  · obtain ⟨lv, en, x, rfl, hl, h0, hz, hr1, hr2, hpx, hxl, hP, hX⟩ := h
    show SvM K J M [.d (lotD lv), .d (lotD en), .d x, .no, .no, .no, .no, .no, .no, .no] _ _
    refine sm_seq (sm_drop (evm_callX (eam fun MV => ?_)))
    repeat walk_at "E"
    rw [natsD_len]
    refine ⟨x, _, rfl, hpx, fun hb => ?_, fun hb => less_refl (hX hb)⟩
    obtain ⟨ds, rfl⟩ : ∃ ds, x = .tup ds := by
      cases x <;> first | exact ⟨_, rfl⟩ | cases hb
    obtain ⟨ps, rfl, hok⟩ := pairsB_of hb
    have hlen := hxl _ rfl
    rw [pairsD_len] at hlen
    have hP := hP ps rfl hok
    clear hX hb hxl hpx
    have cp : ∀ (i : Nat) (f : Nat × Nat → Nat), True := fun _ _ => trivial
    refine sm_seq (sm_asg (evm fun MV => Em.ev (em_lc (ei_seq (ev_var rfl ⟨_, .inr rfl, by rw [pairsD_len]; omega, fun k acc => acc = natsD ((ps.take k).map (·.1)), rfl, ?_, ?_⟩)))))
    · rintro k d acc hd _ rfl
      obtain ⟨a, b, hk, rfl, ht⟩ := pairsD_get hd
      refine gt_tup rfl (gs_cons (gt_name (by decide) (gs_cons (gt_name (by decide) (gs_nil (et_yes ⟨fun _ => ev_var rfl ?_, fun z => (nomatch z)⟩))))))
      show natsD _ ++ [Dt.int (a : Int)] = _
      rw [ht, natsD_snoc, List.map_append]
      rfl
    rintro acc _ rfl
    rw [pairsD_len, List.take_length]
    refine sm_seq (sm_asg (evm fun MV => Em.ev (em_lc (ei_seq (ev_var rfl ⟨_, .inr rfl, by rw [pairsD_len]; omega, fun k acc => acc = natsD ((ps.take k).map (·.2)), rfl, ?_, ?_⟩)))))
    · rintro k d acc hd _ rfl
      obtain ⟨a, b, hk, rfl, ht⟩ := pairsD_get hd
      refine gt_tup rfl (gs_cons (gt_name (by decide) (gs_cons (gt_name (by decide) (gs_nil (et_yes ⟨fun _ => ev_var rfl ?_, fun z => (nomatch z)⟩))))))
      show natsD _ ++ [Dt.int (b : Int)] = _
      rw [ht, natsD_snoc, List.map_append]
      rfl
    rintro acc _ rfl
    rw [pairsD_len, List.take_length]
    show SvM K J M [.d (lotD lv), .d (lotD en), .d (.tup (pairsD ps)), .d (.lst (natsD (ps.map (·.1)))), .d (.lst (natsD (ps.map (·.2)))), .no, .no, .no, .no, .no] _ _
    refine sm_seq (sm_asg (evm fun MV => ev_cb (ed_cons (ev_call (ea_cons (ev_var rfl (ea_cons (ev_var rfl (ea_nil ⟨lv, _, rfl, h0, hz, hr1, ed_cons (ev_call (ea_cons (ev_var rfl (ea_cons (ev_var rfl (ea_nil ⟨en, _, rfl, by omega, by omega, hr2, ed_nil (oc_max ?_)⟩))))))⟩)))))))))
    have hmx : (if ((needN en (ps.map (·.2)) : Nat) : Int) > ((needN lv (ps.map (·.1)) : Nat) : Int) then ((needN en (ps.map (·.2)) : Nat) : Int) else ((needN lv (ps.map (·.1)) : Nat) : Int)) = ((rndsN lv en ps : Nat) : Int) := by
      unfold rndsN
      split <;> omega
    rw [hmx]
    have hle := rnds_le (ps := ps) hl hr1 hr2
    have hpos := rnds_pos (en := en) hok hr1
    have hlo := tln_ok (en := en) hok hr1
    have hfin := fun D => @plan_ok lv en ps hl hok hr1 hr2 D
    have hplan : ∀ D, Reach (tlnN lv en ps) (rndsN lv en ps) ps.length D → Dt.tup (plD D ps.length) = lotD (tplanN lv en ps) := fun D hD => by
      unfold plD lotD natsD tplanN
      rw [List.map_map]
      refine congrArg Dt.tup (List.map_congr_left fun i hi => ?_)
      rw [planF_eq hD (List.mem_range.mp hi)]
      rfl
    have e1 : (ps.map (·.1)).length = ps.length := List.length_map ..
    have e2 : (ps.map (·.2)).length = ps.length := List.length_map ..
    refine sm_seq (sm_asg (evm_make (eam fun MV => ea_cons (ev_call (ea_cons (ev_var rfl (ea_cons (ev_var rfl (ea_nil ⟨ps.map (·.1), rndsN lv en ps, rfl, by omega, by omega, fun z => hpos fun y => z (by rw [y]; rfl), ea_cons (ev_call (ea_cons (ev_var rfl (ea_cons (ev_var rfl (ea_nil ⟨ps.map (·.2), rndsN lv en ps, rfl, by omega, by omega, fun z => hpos fun y => z (by rw [y]; rfl), ea_cons (ev_var rfl (ea_nil fun t ht => ?_))⟩))))))⟩)))))))))
    refine ⟨t, partL (rndsN lv en ps) (ps.map (·.1)), partL (rndsN lv en ps) (ps.map (·.2)), rndsN lv en ps, rfl, updM_same, by rw [partL_len, partL_len, e1, e2], by rw [partL_len]; omega, fun M1 pp tp hpp htp hfr hT => ⟨rfl, ?_⟩⟩
    rw [partL_len, e1] at hT
    have hT : TblM _ _ C_Table M1 t pp tp (lnD (tlnN lv en ps) ps.length) (rndsN lv en ps) (plD (fun _ => none) ps.length) [] := hT
    have hpt : pp ≠ t := fun z => by rw [z, updM_same] at hpp; cases hpp
    have htt : tp ≠ t := fun z => by rw [z, updM_same] at htp; cases htp
    rw [updM_ne hpt] at hpp
    rw [updM_ne htt] at htp
    have hf1 : ∀ x, M x ≠ none → M1 x = M x := fun x hx => by
      have hxt := ne_frT hx ht
      rw [hfr x (by rw [updM_ne hxt]; exact hx) hxt, updM_ne hxt]
    generalize tlnN lv en ps = L at hT hlo hfin hplan
    generalize hms : rndsN lv en ps = ms at hT hlo hfin hplan hle ⊢
    show SvM K J M1 [.d (lotD lv), .d (lotD en), .d (.tup (pairsD ps)), .d (.lst (natsD (ps.map (·.1)))), .d (.lst (natsD (ps.map (·.2)))), .d (.int (ms : Int)), .d (.ptr t), .no, .no, .no] _ _
    refine sm_seq (sm_for [7] (eim_range (edm fun MV => ?_)))
    repeat walk_at "E"
    rw [pairsD_len]
    refine ⟨by omega, by omega, fun k M' e => ∃ (s7 : Sl) (D : Nat → Option Nat), e = [.d (lotD lv), .d (lotD en), .d (.tup (pairsD ps)), .d (.lst (natsD (ps.map (·.1)))), .d (.lst (natsD (ps.map (·.2)))), .d (.int (ms : Int)), .d (.ptr t), s7, .no, .no] ∧ (∀ x, M x ≠ none → M' x = M x) ∧ TblS _ _ C_Table M' t pp tp L ps.length ms k D,
      ⟨_, fun _ => none, rfl, hf1, [], hT, fun s v j q d => ⟨fun z => (nomatch z), fun ⟨_, _, z, _⟩ => (nomatch z)⟩, Nat.le_refl _, .zero⟩, ?_, ?_⟩
    · rintro k d M' e hd ⟨s7, D, rfl, hf2, hS⟩
      obtain ⟨rfl, hk⟩ := range_at hd
      refine ⟨ag0, fun MV => gt_name (by decide) ?_⟩
      obtain ⟨ds0, hT0, _⟩ := id hS
      refine sm_drop (evm_meth (evm fun MV => ev_var rfl ⟨t, _, rfl, hT0.ht, rfl, eam fun MV => ea_cons (ev_var rfl (ea_nil ⟨t, pp, tp, L, ps.length, ms, k, D, rfl, hS, hk, by omega, by omega, hlo, fun M2 D2 hS2 hf3 => ?_⟩))⟩))
      exact ⟨_, D2, rfl, fun x hx => (hf3 x (by rw [hf2 x hx]; exact hx) (ne_frT hx hpp) (ne_frT hx htp)).trans (hf2 x hx), hS2⟩
    · rintro M' e ⟨s7, D, rfl, hf2, ⟨ds0, hT0, _, _, hre⟩⟩
      have hbz : ((List.range ((ps.length : Nat) : Int).toNat).map fun i : Nat => Dt.int (i : Int)).length = ps.length := by simp
      rw [hbz] at hre
      refine ⟨ag0, sm_ret (evm fun MV => ev_cb (ed_cons (ev_fldP (ev_var rfl ⟨t, _, _, _, rfl, hT0.ht, i_Table.cls, i_Table.nf _ (by decide), rfl, ed_nil (oc_tupP hT0.hp ?_)⟩))))⟩
      rw [hplan D hre]
      exact ⟨M, fun x o e => (hf2 x (by rw [e]; simp)).trans e, fun _ h => h, hP (hfin D hre)⟩
theorem ok_has_odd {P : Program} {w : World} {K : PySem.W.Frag} {mg : Str → Option Value} {base : Heap} {f : Addr} {fd : FuncData} (F : L2.Fun K "has_odd" "has_odd" s_has_odd f fd)
    {C_InvalidPairs fI_InvalidPairs : Addr} {fd_InvalidPairs : FuncData} (e_InvalidPairs : Exk P w K mg base "InvalidPairs" ["self", "value"] ["value"] C_InvalidPairs fI_InvalidPairs fd_InvalidPairs)
    {C_TooMany fI_TooMany : Addr} {fd_TooMany : FuncData} (e_TooMany : Exk P w K mg base "TooMany" ["self", "what"] ["what"] C_TooMany fI_TooMany fd_TooMany)
    {C_Undefined fI_Undefined : Addr} {fd_Undefined : FuncData} (e_Undefined : Exk P w K mg base "Undefined" ["self", "what"] ["what"] C_Undefined fI_Undefined fd_Undefined)
    {C_Table : Addr} (i_Table : Ins K C_Table ["lines", "most", "taken", "plan"])
    (m_any : mg "any" = none) :
    FnOk P w K mg base CX0 (1) f fd P_has_odd (Ct K W_hasodd) := by
  refine ok_ct F sc_has_odd (fun ss P h => ?_) (fun cdv A outer s H E hr => ⟨_, (pss_one (ps_ret (pe_callB (c_anyIK K) (by rfl) m_any (by decide +kernel) (pa_cons (pe_lc (own := [("rate", 1)]) rfl sc_has_odd.nd (pi_seqK K (pv 0)) (blkOk_by (N := N_has_odd) (sc := defScope s_has_odd) (by decide +kernel)) (fun _ _ _ _ _ => (pg_name (i := 1) sc_has_odd.nd rfl (by first | exact Or.inl rfl | exact Or.inr rfl))) (fun _ _ _ _ _ => pts_nil) (fun _ _ _ _ _ => (pe_op op_oddK (pv 1) pe_int))) pa_nil)))), fun J ss P h => ?_⟩)
  · obtain ⟨rs, rfl, _⟩ := h
    rfl
  · obtain ⟨rs, rfl, hz, hP⟩ := h
    show Sv K J [.d (lotD rs), .no] _ _
    refine sv_ret (ev_cb (ed_cons (Em.ev (em_map (fun d => match d with | .int i => .int ((i.toNat % 2 : Nat) : Int) | _ => .non) (ei_seq (ev_var rfl ⟨_, .inr rfl, by rw [natsD_length]; omega, fun d hd => gt_name (by decide) ?_, ?_⟩))))))
    · obtain ⟨r, _, rfl⟩ := List.mem_map.mp hd
      refine ev_op (ev_var rfl (ev_int (o2_odd ?_)))
      show _ = Dt.int (((((r : Nat) : Int).toNat) % 2 : Nat) : Int)
      rw [Int.toNat_natCast]
    · have e : (natsD rs).map (fun d => match d with | .int i => Dt.int ((i.toNat % 2 : Nat) : Int) | _ => .non) = (rs.map fun r => ((r % 2 : Nat) : Int)).map Dt.int := by
        unfold natsD
        rw [List.map_map, List.map_map]
        refine List.map_congr_left fun r _ => ?_
        rfl
      rw [e]
      refine ed_nil (oc_anyI ?_)
      have e2 : ((rs.map fun r => ((r % 2 : Nat) : Int)).any fun i => i != 0) = oddB rs := by
        unfold oddB
        rw [List.any_map]
        congr 1
        funext r
        show (((r % 2 : Nat) : Int) != 0) = decide (r % 2 = 1)
        rcases Nat.mod_two_eq_zero_or_one r with z | z <;> rw [z] <;> rfl
      rw [e2]
      exact hP
theorem ok_even_plan {P : Program} {w : World} {K : PySem.W.Frag} {mg : Str → Option Value} {base : Heap} {f : Addr} {fd : FuncData} (F : L2.Fun K "even_plan" "even_plan" s_even_plan f fd)
    {C_InvalidPairs fI_InvalidPairs : Addr} {fd_InvalidPairs : FuncData} (e_InvalidPairs : Exk P w K mg base "InvalidPairs" ["self", "value"] ["value"] C_InvalidPairs fI_InvalidPairs fd_InvalidPairs)
    {C_TooMany fI_TooMany : Addr} {fd_TooMany : FuncData} (e_TooMany : Exk P w K mg base "TooMany" ["self", "what"] ["what"] C_TooMany fI_TooMany fd_TooMany)
    {C_Undefined fI_Undefined : Addr} {fd_Undefined : FuncData} (e_Undefined : Exk P w K mg base "Undefined" ["self", "what"] ["what"] C_Undefined fI_Undefined fd_Undefined)
    {C_Table : Addr} (i_Table : Ins K C_Table ["lines", "most", "taken", "plan"])
    (m_tuple : mg "tuple" = none)
    (m_len : mg "len" = none)
    (c_has_odd : Cal P w K mg base 8 "has_odd" P_has_odd (Ct K W_hasodd))
    (c_table_plan : CalX P w K mg base 8 "table_plan" P_table_plan (CtP K (W_tplan C_InvalidPairs)))
    (c_halved : CalX P w K mg base 8 "halved" P_halved (CtP K (W_halved C_InvalidPairs))) :
    FnOk P w K mg base (L2.CX P w) (9) f fd P_even_plan (CtP K (W_eplan C_InvalidPairs C_Undefined)) := by
  refine ok_ctp F sc_even_plan (fun M ss P PX h => ?_) (fun cdv A outer s H E hr => ⟨_, (pss_cons (ps_if (pt_val (pe_callC c_has_odd hr (by rfl) (pa_cons (pv 0) pa_nil)))
        (pss_one (ps_raiseK rfl (takes_of rfl rfl rfl rfl) (pmk_oex e_Undefined.ex e_Undefined.iC e_Undefined.tI e_Undefined.fn (hr.mono (by decide)) e_Undefined.b .nil pass0 rfl e_Undefined.g (pa_cons pe_str pa_nil))))
        pss_nil)
      (pss_cons (ps_set (i := 2) sc_even_plan.nd rfl (by first | exact Or.inl rfl | exact Or.inr rfl) (pe_callTy (c_tupK K) (by rfl) m_tuple (by decide +kernel) (pa_cons (pe_lc (own := [("rate", 3)]) rfl sc_even_plan.nd (pi_seqK K (pv 0)) (blkOk_by (N := N_even_plan) (sc := defScope s_even_plan) (by decide +kernel)) (fun _ _ _ _ _ => (pg_name (i := 3) sc_even_plan.nd rfl (by first | exact Or.inl rfl | exact Or.inr rfl))) (fun _ _ _ _ _ => pts_nil) (fun _ _ _ _ _ => (pe_op op_fdiv (pv 3) pe_int))) pa_nil)))
      (pss_one (ps_ret (pe_callW (fun cls d _ H => E cls d H) (takes_of rfl rfl rfl rfl) c_table_plan hr rfl (pa_cons (pv 2) (pa_cons (pv 2) (pa_cons (pe_callW (fun cls d _ H => E cls d H) (takes_of rfl rfl rfl rfl) c_halved hr rfl (pa_cons (pe_callB (c_lenK K) (by rfl) m_len PySem.boot_len (pa_cons (pv 0) pa_nil)) (pa_cons (pv 1) pa_nil))) pa_nil)))))))), fun J M ss P PX h => ?_⟩)
  · obtain ⟨rs, x, rfl, _⟩ := h
    rfl
  · obtain ⟨rs, x, rfl, h0, hz, hr, hpx, hxl, hX, hrest⟩ := h
    show SvM K J M [.d (lotD rs), .d x, .no, .no] _ _
    refine sm_seq (sm_if (etm fun MV => et_B (ev_call (ea_cons (ev_var rfl (ea_nil ⟨rs, rfl, hz, _, rfl, fun hb => ?_, fun hb => sm_next ?_⟩))))))
    · exact sm_raise e_Undefined.ex e_Undefined.nf rfl fun MV => ed_cons (ev_str (ed_nil ⟨rfl, by decide, less_refl (hX hb)⟩))
    obtain ⟨hX2, hQ⟩ := hrest hb
    have he := odd_not hb
    refine sm_seq (sm_asg (evm fun MV => ev_cb (ed_cons (Em.ev (em_map (fun d => match d with | .int i => .int ((i.toNat / 2 : Nat) : Int) | _ => .non) (ei_seq (ev_var rfl ⟨_, .inr rfl, by rw [natsD_length]; omega, fun d hd => gt_name (by decide) ?_, ?_⟩)))))))
    · obtain ⟨r, _, rfl⟩ := List.mem_map.mp hd
      refine ev_op (ev_var rfl (ev_int (o2_I (C := CDiv) (cdiv_ok (by decide) (by decide)) ?_)))
      show Dt.int ((r : Int) / 2) = Dt.int (((((r : Nat) : Int).toNat) / 2 : Nat) : Int)
      rw [Int.toNat_natCast]
      rfl
    have e : (natsD rs).map (fun d => match d with | .int i => Dt.int ((i.toNat / 2 : Nat) : Int) | _ => .non) = natsD (halfL rs) := by
      unfold natsD halfL
      rw [List.map_map, List.map_map]
      refine List.map_congr_left fun r _ => ?_
      rfl
    rw [e]
    refine ed_nil (oc_tupL ?_)
    show SvM K J M [.d (lotD rs), .d x, .d (lotD (halfL rs)), .no] _ _
    have hhl := halfL_len (rs := rs)
    have hh := halfL_ok hr he
    refine sm_ret (evm_call (eam_cons (evm fun MV => ev_var rfl (eam_cons (evm fun MV => ev_var rfl (eam_cons (evm_call (eam fun MV => ea_cons (ev_cb (ed_cons (ev_var rfl (ed_nil (oc_lenT ?_)))))))))))))
    rw [natsD_length]
    refine ea_cons (ev_var rfl (ea_nil ⟨rs.length, x, rfl, hz, hpx, hxl, fun hx => less_refl (hX2 hx), fun ps hps hok => ?_⟩))
    have ht := half_turned hok
    have hpl : ps.length ≤ 1000 := by have := hxl _ hps; rw [pairsD_len] at this; exact this
    refine eam fun MV => ea_nil ⟨halfL rs, halfL rs, _, rfl, rfl, by omega, by omega, hh, hh, pur_pairs _ (by rw [ht.1]; omega), fun ds e => by cases e; rw [pairsD_len, ht.1]; exact hpl, fun ps' e _ hpo => ?_, fun z => ?_⟩
    · have e := pairsD_inj2 (Dt.tup.inj e)
      subst e
      exact less_refl (hQ ps hps hok (even_ok hok hr he hpo))
    · rw [hhl, pairsB_to (turned_ok ht hok)] at z
      cases z
theorem ok__law_is_number {P : Program} {w : World} {K : PySem.W.Frag} {mg : Str → Option Value} {base : Heap} {f : Addr} {fd : FuncData} (F : L2.Fun K "_law_is_number" "_law_is_number" s__law_is_number f fd)
    {C_InvalidPairs fI_InvalidPairs : Addr} {fd_InvalidPairs : FuncData} (e_InvalidPairs : Exk P w K mg base "InvalidPairs" ["self", "value"] ["value"] C_InvalidPairs fI_InvalidPairs fd_InvalidPairs)
    {C_TooMany fI_TooMany : Addr} {fd_TooMany : FuncData} (e_TooMany : Exk P w K mg base "TooMany" ["self", "what"] ["what"] C_TooMany fI_TooMany fd_TooMany)
    {C_Undefined fI_Undefined : Addr} {fd_Undefined : FuncData} (e_Undefined : Exk P w K mg base "Undefined" ["self", "what"] ["what"] C_Undefined fI_Undefined fd_Undefined)
    {C_Table : Addr} (i_Table : Ins K C_Table ["lines", "most", "taken", "plan"])
    (m_isinstance : mg "isinstance" = none)
    (m_bool : mg "bool" = none)
    (m_int : mg "int" = none) :
    FnOk P w K mg base CX0 (1) f fd P__law_is_number (Ct K W_lnum) := by
  refine ok_ct F sc__law_is_number (fun ss P h => ?_) (fun cdv A outer s H E hr => ⟨_, (pss_one (ps_ret (pe_and (pe_callB (c_isiK K) (by rfl) m_isinstance (by decide +kernel) (pa_cons (pv 0) (pa_cons (pe_bltn (v := .ty "int") (by rfl) m_int (by decide +kernel) rfl) pa_nil))) (pe_and (pe_not (pe_callB (c_isiK K) (by rfl) m_isinstance (by decide +kernel) (pa_cons (pv 0) (pa_cons (pe_bltn (v := .ty "bool") (by rfl) m_bool (by decide +kernel) rfl) pa_nil)))) (pe_one (pe_cmpR op_ge (pv 0) pe_int (nomark _))))))), fun J ss P h => ?_⟩)
  · obtain ⟨x, rfl, _⟩ := h
    rfl
  · obtain ⟨x, rfl, hx, hP⟩ := h
    show Sv K J [.d x] _ _
    walk_at "S"
    cases x <;> first | exact absurd hx Bool.false_ne_true | skip
    case int i =>
      repeat walk_at "E"
      exact hP
    all_goals
      repeat walk_at "E"
      exact hP
theorem ok__law_rates {P : Program} {w : World} {K : PySem.W.Frag} {mg : Str → Option Value} {base : Heap} {f : Addr} {fd : FuncData} (F : L2.Fun K "_law_rates" "_law_rates" s__law_rates f fd)
    {C_InvalidPairs fI_InvalidPairs : Addr} {fd_InvalidPairs : FuncData} (e_InvalidPairs : Exk P w K mg base "InvalidPairs" ["self", "value"] ["value"] C_InvalidPairs fI_InvalidPairs fd_InvalidPairs)
    {C_TooMany fI_TooMany : Addr} {fd_TooMany : FuncData} (e_TooMany : Exk P w K mg base "TooMany" ["self", "what"] ["what"] C_TooMany fI_TooMany fd_TooMany)
    {C_Undefined fI_Undefined : Addr} {fd_Undefined : FuncData} (e_Undefined : Exk P w K mg base "Undefined" ["self", "what"] ["what"] C_Undefined fI_Undefined fd_Undefined)
    {C_Table : Addr} (i_Table : Ins K C_Table ["lines", "most", "taken", "plan"])
    (m_range : mg "range" = none)
    (m_tuple : mg "tuple" = none)
    (c__law_take : Cal P w K mg base 1 "_law_take" P__law_take (Ct K W_take1)) :
    FnOk P w K mg base CX0 (2) f fd P__law_rates (Ct K W_lrates) := by
  refine ok_ct F sc__law_rates (fun ss P h => ?_) (fun cdv A outer s H E hr => ⟨_, (pss_cons (ps_setLc (own := [("v", 4)]) (i := 3) rfl sc__law_rates.nd rfl rfl (sw_true rfl rfl rfl (by decide +kernel)) (pi_range1 (by rfl) m_range (pa_cons (pv 1) pa_nil)) (blkOk_by (N := N__law_rates) (sc := defScope s__law_rates) (by decide +kernel)) (fun _ _ _ _ _ => (pg_name (i := 4) sc__law_rates.nd rfl (by first | exact Or.inl rfl | exact Or.inr rfl))) (fun _ _ _ _ _ => pts_nil) (fun _ _ _ _ _ => (pe_op op_add pe_int (pe_callC c__law_take hr (by rfl) (pa_cons (pv 0) (pa_cons (pe_ix (ix_seqK K) (pe_lst (pa_cons pe_int (pa_cons pe_int pa_nil))) (pe_op op_fdiv (pe_callC c__law_take hr (by rfl) (pa_cons (pv 0) (pa_cons pe_int pa_nil))) pe_int) (fun _ _ => rfl)) pa_nil))))))
      (pss_cons (ps_if (pt_val (pv 2))
        (pss_one (ps_setLc (own := [("v", 4)]) (i := 3) rfl sc__law_rates.nd rfl rfl (sw_true rfl rfl rfl (by decide +kernel)) (pi_range1 (by rfl) m_range (pa_cons (pv 1) pa_nil)) (blkOk_by (N := N__law_rates) (sc := defScope s__law_rates) (by decide +kernel)) (fun _ _ _ _ _ => (pg_name (i := 4) sc__law_rates.nd rfl (by first | exact Or.inl rfl | exact Or.inr rfl))) (fun _ _ _ _ _ => pts_nil) (fun _ _ _ _ _ => (pe_op op_add pe_int (pe_op op_mul pe_int (pe_callC c__law_take hr (by rfl) (pa_cons (pv 0) (pa_cons (pe_ix (ix_seqK K) (pe_lst (pa_cons pe_int (pa_cons pe_int pa_nil))) (pe_op op_fdiv (pe_callC c__law_take hr (by rfl) (pa_cons (pv 0) (pa_cons pe_int pa_nil))) pe_int) (fun _ _ => rfl)) pa_nil))))))))
        pss_nil)
      (pss_one (ps_ret (pe_callTy (c_tupK K) (by rfl) m_tuple (by decide +kernel) (pa_cons (pv 3) pa_nil)))))), fun J ss P h => ?_⟩)
  · obtain ⟨n, b, rfl, _⟩ := h
    rfl
  · obtain ⟨n, b, rfl, hn, hP⟩ := h
    show Sv K J [.hnd, .d (.int (n : Int)), .d (.bl b), .no, .no] _ _
    refine sv_seq (sv_asg (Em.ev (em_all (fun y => ∃ v : Nat, y = .int (v : Int) ∧ 1 ≤ v ∧ v ≤ 8) (ei_range (ed_cons (ev_var rfl (ed_nil ⟨_, rfl, by omega, by omega, by simp; omega, fun d _ => gt_name (by decide) ?_, ?_⟩)))))))
    · repeat walk_at "E"
      refine ⟨5, rfl, by decide, fun x hx0 hx => ?_⟩
      repeat walk_at "E"
      refine o2_pickB (inB · 4 8) rfl (by omega) (by simp; omega) fun y hy => ?_
      obtain ⟨v, rfl, hv⟩ := inB_of hy
      refine ea_nil ⟨v, rfl, by omega, fun z hz0 hz => ?_⟩
      repeat walk_at "E"
      exact ⟨(1 + z).toNat, by rw [show (((1 + z).toNat : Nat) : Int) = 1 + z by omega], by omega, by omega⟩
    · intro ys hl hy
      obtain ⟨l, rfl, hra⟩ := nats_of hy
      rw [List.length_map, List.length_range, Int.toNat_natCast, natsD_length] at hl
      refine sv_mid (fun e => ∃ l : List Nat, e = [.hnd, .d (.int (n : Int)), .d (.bl b), .d (.lst (natsD l)), .no] ∧ l.length = n ∧ (∀ r ∈ l, 1 ≤ r ∧ r ≤ 8) ∧ (b = true → ∀ r ∈ l, r % 2 = 0)) (sv_if ?_) ?_
      · repeat walk_at "E"
        refine ⟨fun hb => ?_, fun hb => sv_next ⟨l, rfl, hl, hra, fun z => by rw [hb] at z; cases z⟩⟩
        refine sv_asg (Em.ev (em_all (fun y => ∃ v : Nat, y = .int (v : Int) ∧ 1 ≤ v ∧ v ≤ 8 ∧ v % 2 = 0) (ei_range (ed_cons (ev_var rfl (ed_nil ⟨_, rfl, by omega, by omega, by simp; omega, fun d _ => gt_name (by decide) ?_, ?_⟩))))))
        · repeat walk_at "E"
          refine ⟨5, rfl, by decide, fun x hx0 hx => ?_⟩
          repeat walk_at "E"
          refine o2_pickB (inB · 2 4) rfl (by omega) (by simp; omega) fun y hy => ?_
          obtain ⟨v, rfl, hv⟩ := inB_of hy
          refine ea_nil ⟨v, rfl, by omega, fun z hz0 hz => ?_⟩
          repeat walk_at "E"
          exact ⟨(2 + 2 * z).toNat, by rw [show (((2 + 2 * z).toNat : Nat) : Int) = 2 + 2 * z by omega], by omega, by omega, by omega⟩
        · intro ys hl2 hy2
          obtain ⟨l2, rfl, hr2⟩ := nats_of hy2
          rw [List.length_map, List.length_range, Int.toNat_natCast, natsD_length] at hl2
          exact ⟨l2, rfl, hl2, fun r hr => ⟨(hr2 r hr).1, (hr2 r hr).2.1⟩, fun _ r hr => (hr2 r hr).2.2⟩
      · rintro e ⟨l, rfl, h1, h2, h3⟩
        walk_at "S"
        repeat walk_at "E"
        exact hP l h1 h2 h3
theorem ok__law_pairs {P : Program} {w : World} {K : PySem.W.Frag} {mg : Str → Option Value} {base : Heap} {f : Addr} {fd : FuncData} (F : L2.Fun K "_law_pairs" "_law_pairs" s__law_pairs f fd)
    {C_InvalidPairs fI_InvalidPairs : Addr} {fd_InvalidPairs : FuncData} (e_InvalidPairs : Exk P w K mg base "InvalidPairs" ["self", "value"] ["value"] C_InvalidPairs fI_InvalidPairs fd_InvalidPairs)
    {C_TooMany fI_TooMany : Addr} {fd_TooMany : FuncData} (e_TooMany : Exk P w K mg base "TooMany" ["self", "what"] ["what"] C_TooMany fI_TooMany fd_TooMany)
    {C_Undefined fI_Undefined : Addr} {fd_Undefined : FuncData} (e_Undefined : Exk P w K mg base "Undefined" ["self", "what"] ["what"] C_Undefined fI_Undefined fd_Undefined)
    {C_Table : Addr} (i_Table : Ins K C_Table ["lines", "most", "taken", "plan"])
    (m_range : mg "range" = none)
    (m_int : mg "int" = none)
    (m_len : mg "len" = none)
    (m_tuple : mg "tuple" = none)
    (c__law_take : Cal P w K mg base 1 "_law_take" P__law_take (Ct K W_take1)) :
    FnOk P w K mg base CX0 (2) f fd P__law_pairs (Ct K W_lpairs2) := by
  refine ok_ct F sc__law_pairs (fun ss P h => ?_) (fun cdv A outer s H E hr => ⟨_, (pss_cons (ps_set (i := 3) sc__law_pairs.nd rfl (by first | exact Or.inl rfl | exact Or.inr rfl) (pe_lst pa_nil))
      (pss_cons (ps_for PassesOwn.never rfl (pi_range1 (by rfl) m_range (pa_cons (pe_callC c__law_take hr (by rfl) (pa_cons (pv 0) (pa_cons (pe_op op_add (pv 2) pe_int) pa_nil))) pa_nil)) (pg_name (i := 4) sc__law_pairs.nd rfl (by first | exact Or.inl rfl | exact Or.inr rfl))
        (pss_cons (ps_set (i := 5) sc__law_pairs.nd rfl (by first | exact Or.inl rfl | exact Or.inr rfl) (pe_callC c__law_take hr (by rfl) (pa_cons (pv 0) (pa_cons (pv 1) pa_nil))))
      (pss_one (ps_expr (pe_bm PySem.F.plainAttrs_list PySem.F.slot_list_append PySem.F.type_list_append mt_append (pv 3) (pa_cons (pe_tup (pa_cons (pv 5) (pa_cons (pe_op op_mod (pe_callTy c_int (by rfl) m_int (by decide +kernel) (pa_cons (pe_op op_add (pe_op op_add (pv 5) pe_int) (pe_callC c__law_take hr (by rfl) (pa_cons (pv 0) (pa_cons (pe_op op_sub (pv 1) pe_int) pa_nil)))) pa_nil)) (pv 1)) pa_nil))) pa_nil))))))
      (pss_cons (ps_set (i := 6) sc__law_pairs.nd rfl (by first | exact Or.inl rfl | exact Or.inr rfl) (pe_callC c__law_take hr (by rfl) (pa_cons (pv 0) (pa_cons pe_int pa_nil))))
      (pss_cons (ps_if (pt_cmpR op_eq (pv 6) pe_int (nomark _))
        (pss_one (ps_set (i := 3) sc__law_pairs.nd rfl (by first | exact Or.inl rfl | exact Or.inr rfl) (pe_op op_cat (pv 3) (pv 3))))
        pss_nil)
      (pss_cons (ps_if (PW.pt (pw_and (pt_cmpR op_eq (pv 6) pe_int (nomark _)) (pw_and1 (pt_cmpR op_gt (pe_callB (c_lenK K) (by rfl) m_len PySem.boot_len (pa_cons (pv 3) pa_nil)) pe_int (nomark _)))))
        (pss_one (ps_set (i := 3) sc__law_pairs.nd rfl (by first | exact Or.inl rfl | exact Or.inr rfl) (pe_op op_cat (pv 3) (pe_op op_rep (pe_lst (pa_cons (pe_ix (ix_seqK K) (pv 3) pe_int (fun _ _ => rfl)) pa_nil)) (pe_op op_add pe_int (pe_callC c__law_take hr (by rfl) (pa_cons (pv 0) (pa_cons pe_int pa_nil))))))))
        pss_nil)
      (pss_cons (ps_if (pt_cmpR op_eq (pv 6) pe_int (nomark _))
        (pss_one (ps_set (i := 3) sc__law_pairs.nd rfl (by first | exact Or.inl rfl | exact Or.inr rfl) (pe_op op_cat (pv 3) (pe_lc (own := [("pair", 7)]) rfl sc__law_pairs.nd (pi_seqK K (pv 3)) (blkOk_by (N := N__law_pairs) (sc := defScope s__law_pairs) (by decide +kernel)) (fun _ _ _ _ _ => (pg_name (i := 7) sc__law_pairs.nd rfl (by first | exact Or.inl rfl | exact Or.inr rfl))) (fun _ _ _ _ _ => pts_nil) (fun _ _ _ _ _ => (pe_tup (pa_cons (pe_ix (ix_seqK K) (pv 7) pe_int (fun _ _ => rfl)) (pa_cons (pe_ix (ix_seqK K) (pv 7) pe_int (fun _ _ => rfl)) pa_nil))))))))
        pss_nil)
      (pss_one (ps_ret (pe_callTy (c_tupK K) (by rfl) m_tuple (by decide +kernel) (pa_cons (pv 3) pa_nil)))))))))), fun J ss P h => ?_⟩)
  · obtain ⟨n, m, rfl, _⟩ := h
    rfl
  · obtain ⟨n, m, rfl, h0, hn, hm, hP⟩ := h
    show Sv K J [.hnd, .d (.int (n : Int)), .d (.int (m : Int)), .no, .no, .no, .no, .no] _ _
    refine sv_seq (sv_asgM (em_lst (ed_nil ⟨by decide, ?_⟩)))
    refine sv_seq (sv_for [4] (ei_range ?_))
    repeat walk_at "E"
    refine ⟨_, rfl, by omega, fun c hc0 hc => ?_⟩
    obtain ⟨c, rfl⟩ : ∃ a : Nat, c = (a : Int) := ⟨c.toNat, by omega⟩
    repeat walk_at "E"
    refine ⟨by omega, by omega, fun k e => ∃ ps s4 s5, e = [.hnd, .d (.int (n : Int)), .d (.int (m : Int)), .ml (pairsD ps), s4, s5, .no, .no] ∧ OkP n ps ∧ ps.length ≤ k, ⟨[], _, _, rfl, fun _ h => (nomatch h), Nat.zero_le _⟩, ?_, ?_⟩
    · rintro k d e hd ⟨ps, s4, s5, rfl, hok, hl⟩
      obtain ⟨rfl, hk⟩ := range_at hd
      refine gt_name (by decide) ?_
      walk_at "S"
      walk_at "S"
      repeat walk_at "E"
      refine ⟨_, rfl, by omega, fun x hx0 hx => ?_⟩
      obtain ⟨a, rfl⟩ : ∃ a : Nat, x = (a : Int) := ⟨x.toNat, by omega⟩
      refine sv_app rfl (by rw [pairsD_len]; omega) ?_
      repeat walk_at "E"
      refine ⟨_, rfl, by omega, fun x hx0 hx => ?_⟩
      obtain ⟨t, rfl⟩ : ∃ a : Nat, x = (a : Int) := ⟨x.toNat, by omega⟩
      repeat walk_at "E"
      have he : ((a : Int) + 1 + (t : Int)) % (n : Int) = (((a + 1 + t) % n : Nat) : Int) := by push_cast; rfl
      rw [he]
      obtain ⟨hb1, hb2⟩ := other_ne (a := a) (t := t) (n := n) (by omega) (by omega)
      generalize (a + 1 + t) % n = b at hb1 hb2
      have e1 : pairsD ps ++ [.tup [.int (a : Int), .int (b : Int)]] = pairsD (ps ++ [(a, b)]) := pairsD_snoc
      have hok1 := okP_snoc hok (show a < n by omega) hb1 hb2
      refine ⟨ps ++ [(a, b)], .d (.int (k : Int)), .d (.int (a : Int)), ?_, hok1, by simp; omega⟩
      rw [← e1]
      rfl
    · rintro e ⟨ps, s4, s5, rfl, hok, hl⟩
      rw [List.length_map, List.length_range, Int.toNat_natCast] at hl
      walk_at "S"
      walk_at "S"
      repeat walk_at "E"
      refine ⟨_, rfl, by decide, fun kd hk0 hk => ?_⟩
      have hl1 : ps.length ≤ m := by omega
      refine sv_mid (fun e => ∃ ps s7, e = [.hnd, .d (.int (n : Int)), .d (.int (m : Int)), .ml (pairsD ps), s4, s5, .d (.int kd), s7] ∧ OkP n ps ∧ (kd = 0 → ps.length ≤ 2 * m) ∧ (kd ≠ 0 → ps.length ≤ m)) (sv_if ?_) ?_
      · repeat walk_at "E"
        refine ⟨fun hb => ?_, fun hb => sv_next ⟨ps, _, rfl, hok, fun _ => by omega, fun _ => hl1⟩⟩
        have hb : kd = 0 := by simpa using hb
        refine sv_asgM (em_cat (el_var rfl (el_var rfl ⟨by rw [pairsD_len]; omega, ps ++ ps, .no, ?_, okP_app hok hok, fun _ => by simp; omega, fun z => absurd hb z⟩)))
        rw [pairsD_app]
        rfl
      · rintro e ⟨ps, s7, rfl, hok, l0, l1⟩
        refine sv_mid (fun e => ∃ ps s7, e = [.hnd, .d (.int (n : Int)), .d (.int (m : Int)), .ml (pairsD ps), s4, s5, .d (.int kd), s7] ∧ OkP n ps ∧ (kd = 2 → ps.length ≤ m) ∧ (ps.length ≤ 2 * m + 10)) (sv_if ?_) ?_
        · repeat walk_at "E"
          refine ⟨fun hb => ?_, fun hb => ⟨fun z => (nomatch z), fun _ => sv_next ⟨ps, _, rfl, hok, fun z => l1 (by omega), (by by_cases z : kd = 0; (have := l0 z; omega); (have := l1 z; omega))⟩⟩⟩
          have hb : kd = 1 := by simpa using hb
          have l1 := l1 (by omega)
          repeat walk_at "E"
          refine ⟨fun hc => ?_, fun hc => sv_next ⟨ps, _, rfl, hok, fun z => by omega, by omega⟩⟩
          have hc := of_decide_eq_true hc
          rw [pairsD_len] at hc
          have hc : 0 < ps.length := by omega
          have hq2 := hok ps[0] (List.getElem_mem hc)
          refine sv_asgM (em_cat (el_var rfl (Em.el (em_rep (Em.el (em_lst ?_))))))
          repeat walk_at "E"
          refine ⟨_, pairD (.int (ps[0].1 : Int)) (.int (ps[0].2 : Int)), rfl, atD_nat (j := 0) (pairsD_at hc), ?_⟩
          repeat walk_at "E"
          refine ⟨_, rfl, by decide, fun x hx0 hx => ?_⟩
          repeat walk_at "E"
          refine ⟨by omega, by omega, by simp; omega, ?_⟩
          have hx' : (1 + x).toNat ≤ 9 := by omega
          generalize (1 + x).toNat = t at hx'
          show (pairsD ps).length + _ ≤ 100000 ∧ _
          rw [pairs_rep ps[0] t]
          refine ⟨by rw [pairsD_len, pairsD_len, List.length_replicate]; omega, ps ++ List.replicate t ps[0], s7, by rw [pairsD_app]; rfl, okP_app hok fun q hq => by rw [(List.mem_replicate.mp hq).2]; exact hq2, fun z => by omega, by rw [List.length_append, List.length_replicate]; omega⟩
        · rintro e ⟨ps, s7, rfl, hok, l0, l1⟩
          refine sv_mid (fun e => ∃ ps s7, e = [.hnd, .d (.int (n : Int)), .d (.int (m : Int)), .ml (pairsD ps), s4, s5, .d (.int kd), s7] ∧ OkP n ps ∧ ps.length ≤ 2 * m + 10) (sv_if ?_) ?_
          · repeat walk_at "E"
            refine ⟨fun hb => ?_, fun hb => sv_next ⟨ps, _, rfl, hok, l1⟩⟩
            have hb : kd = 2 := by simpa using hb
            have l0 := l0 hb
            refine sv_asgM (em_cat (el_var rfl (Em.el (em_mapM (fun d => match d with | .tup [a, b] => .tup [b, a] | _ => .non) rfl (by rw [pairsD_len]; omega) (fun d hd => gt_name (by decide) ?_) ?_))))
            · obtain ⟨q, hq, rfl⟩ := List.mem_map.mp hd
              repeat walk_at "E"
              refine o2_ixT (d := .int (q.2 : Int)) rfl ?_
              repeat walk_at "E"
              refine o2_ixT (d := .int (q.1 : Int)) rfl ?_
              repeat walk_at "E"
              rfl
            · have e : (pairsD ps).map (fun d => match d with | .tup [a, b] => .tup [b, a] | _ => .non) = pairsD (swapP ps) := by
                unfold pairsD swapP
                rw [List.map_map, List.map_map]
                rfl
              rw [e]
              refine ⟨by rw [pairsD_len, pairsD_len]; unfold swapP; rw [List.length_map]; omega, ps ++ swapP ps, s7, by rw [pairsD_app]; rfl, okP_app hok (okP_swap hok), by rw [List.length_append]; unfold swapP; rw [List.length_map]; omega⟩
          · rintro e ⟨ps, s7, rfl, hok, l1⟩
            refine sv_ret (ev_tupM rfl (hP ps hok l1))
theorem ok__law_loads {P : Program} {w : World} {K : PySem.W.Frag} {mg : Str → Option Value} {base : Heap} {f : Addr} {fd : FuncData} (F : L2.Fun K "_law_loads" "_law_loads" s__law_loads f fd)
    {C_InvalidPairs fI_InvalidPairs : Addr} {fd_InvalidPairs : FuncData} (e_InvalidPairs : Exk P w K mg base "InvalidPairs" ["self", "value"] ["value"] C_InvalidPairs fI_InvalidPairs fd_InvalidPairs)
    {C_TooMany fI_TooMany : Addr} {fd_TooMany : FuncData} (e_TooMany : Exk P w K mg base "TooMany" ["self", "what"] ["what"] C_TooMany fI_TooMany fd_TooMany)
    {C_Undefined fI_Undefined : Addr} {fd_Undefined : FuncData} (e_Undefined : Exk P w K mg base "Undefined" ["self", "what"] ["what"] C_Undefined fI_Undefined fd_Undefined)
    {C_Table : Addr} (i_Table : Ins K C_Table ["lines", "most", "taken", "plan"])
    (m_range : mg "range" = none) :
    FnOk P w K mg base CX0 (1) f fd P__law_loads (CtM K W_lloads) := by
  refine ok_ctm F sc__law_loads (fun ss P h => ?_) (fun cdv A outer s H E hr => ⟨_, (pss_cons (ps_setLc (own := [("v", 4)]) (i := 2) rfl sc__law_loads.nd rfl rfl (sw_true rfl rfl rfl (by decide +kernel)) (pi_range1 (by rfl) m_range (pa_cons (pv 0) pa_nil)) (blkOk_by (N := N__law_loads) (sc := defScope s__law_loads) (by decide +kernel)) (fun _ _ _ _ _ => (pg_name (i := 4) sc__law_loads.nd rfl (by first | exact Or.inl rfl | exact Or.inr rfl))) (fun _ _ _ _ _ => pts_nil) (fun _ _ _ _ _ => pe_int))
      (pss_cons (ps_for PassesOwn.never rfl (pi_seqK K (pv 1)) (pg_name (i := 3) sc__law_loads.nd rfl (by first | exact Or.inl rfl | exact Or.inr rfl))
        (pss_one (ps_for PassesOwn.never rfl (pi_seqK K (pv 3)) (pg_name (i := 4) sc__law_loads.nd rfl (by first | exact Or.inl rfl | exact Or.inr rfl))
        (pss_one (ps_asg (pe_op op_add (pe_ix (ix_seqK K) (pv 2) (pv 4) (fun _ _ => rfl)) pe_int) (pg_sub (pv 2) (pv 4) set_list))))))
      (pss_one (ps_ret (pv 2))))), fun J ss P h => ?_⟩)
  · obtain ⟨n, x, ps, rfl, _⟩ := h
    rfl
  · obtain ⟨n, x, ps, rfl, hx, hn, hpl, hok, hP⟩ := h
    show Sv K J [.d (.int (n : Int)), .d x, .no, .no, .no] _ _
    refine sv_seq (sv_asgM (em_map (fun _ => .int 0) (ei_range (ed_cons (ev_var rfl (ed_nil ⟨_, rfl, by omega, by omega, by simp; omega, fun d _ => gt_name (by decide) (ev_int rfl), ?_⟩))))))
    have e0 : ((List.range ((n : Int)).toNat).map fun i => Dt.int ((i : Nat) : Int)).map (fun _ => Dt.int 0) = natsD (cntN n []) := by
      unfold natsD cntN
      rw [List.map_map, List.map_map, Int.toNat_natCast]
      rfl
    rw [e0]
    refine sv_seq (sv_for [3] (ei_seq (ev_var rfl ⟨_, hx.symm, fun k e => ∃ s3 s4, e = [.d (.int (n : Int)), .d x, .ml (natsD (cntN n (endsN (ps.take k)))), s3, s4], ⟨_, _, rfl⟩, ?_, ?_⟩)))
    · rintro k d e hd ⟨s3, s4, rfl⟩
      obtain ⟨a, b, hk, rfl, ht⟩ := pairsD_get hd
      have hq := hok (a, b) (List.mem_of_getElem? hk)
      have he : endsN (ps.take (k + 1)) = endsN (ps.take k) ++ [a, b] := by
        rw [ht]
        unfold endsN
        rw [List.flatMap_append]
        rfl
      refine gt_name (by decide) (sv_for [4] (ei_seq (ev_var rfl ⟨natsD [a, b], .inr rfl, fun j e => ∃ s4, e = [.d (.int (n : Int)), .d x, .ml (natsD (cntN n (endsN (ps.take k) ++ [a, b].take j))), .d (pairD (.int (a : Int)) (.int (b : Int))), s4], ⟨s4, by rw [List.take_zero, List.append_nil]; rfl⟩, ?_, ?_⟩)))
      · rintro j d e hj ⟨s4, rfl⟩
        obtain ⟨v, hv, rfl, hv2⟩ := nats_get hj
        have hvn : v < n := by
          have := List.mem_of_getElem? hv
          simp at this
          rcases this with rfl | rfl
          · exact hq.1
          · exact hq.2.1
        have hes2 : endsN (ps.take k) ++ [a, b].take (j + 1) = endsN (ps.take k) ++ [a, b].take j ++ [v] := by rw [hv2, List.append_assoc]
        generalize endsN (ps.take k) ++ [a, b].take j = es at hes2 ⊢
        have hat : atD (natsD (cntN n es)) (v : Int) = some (.int ((es.count v : Nat) : Int)) := by
          refine atD_nat ?_
          unfold natsD cntN
          rw [List.getElem?_map, List.getElem?_map, List.getElem?_range hvn]
          rfl
        refine gt_name (by decide) (sv_setM rfl ?_)
        repeat walk_at "E"
        refine ⟨_, _, rfl, hat, ?_⟩
        repeat walk_at "E"
        refine ⟨by rw [natsD_length]; simpa [cntN] using hvn, .d (.int (v : Int)), ?_⟩
        rw [hes2, ← cnt_bump hvn]
        unfold natsD
        rw [List.map_set]
        rfl
      · rintro e ⟨s4, rfl⟩
        refine ⟨.d (pairD (.int (a : Int)) (.int (b : Int))), s4, ?_⟩
        rw [he]
        rfl
    · rintro e ⟨s3, s4, rfl⟩
      refine sv_retM rfl ?_
      rw [pairsD_len, List.take_length]
      exact hP
theorem ok__law_no_pairs {P : Program} {w : World} {K : PySem.W.Frag} {mg : Str → Option Value} {base : Heap} {f : Addr} {fd : FuncData} (F : L2.Fun K "_law_no_pairs" "_law_no_pairs" s__law_no_pairs f fd)
    {C_InvalidPairs fI_InvalidPairs : Addr} {fd_InvalidPairs : FuncData} (e_InvalidPairs : Exk P w K mg base "InvalidPairs" ["self", "value"] ["value"] C_InvalidPairs fI_InvalidPairs fd_InvalidPairs)
    {C_TooMany fI_TooMany : Addr} {fd_TooMany : FuncData} (e_TooMany : Exk P w K mg base "TooMany" ["self", "what"] ["what"] C_TooMany fI_TooMany fd_TooMany)
    {C_Undefined fI_Undefined : Addr} {fd_Undefined : FuncData} (e_Undefined : Exk P w K mg base "Undefined" ["self", "what"] ["what"] C_Undefined fI_Undefined fd_Undefined)
    {C_Table : Addr} (i_Table : Ins K C_Table ["lines", "most", "taken", "plan"])
    (m_len : mg "len" = none)
    (m_list : mg "list" = none)
    (m_min : mg "min" = none)
    (c__law_take : Cal P w K mg base 1 "_law_take" P__law_take (Ct K W_take1)) :
    FnOk P w K mg base CX0 (2) f fd P__law_no_pairs (Ct K W_nopairs) := by
  refine ok_ct F sc__law_no_pairs (fun ss P h => ?_) (fun cdv A outer s H E hr => ⟨_, (pss_cons (ps_set (i := 3) sc__law_no_pairs.nd rfl (by first | exact Or.inl rfl | exact Or.inr rfl) (pe_callC c__law_take hr (by rfl) (pa_cons (pv 0) (pa_cons (pe_op op_add (pe_callB (c_lenK K) (by rfl) m_len PySem.boot_len (pa_cons (pv 2) pa_nil)) pe_int) pa_nil))))
      (pss_cons (ps_set (i := 4) sc__law_no_pairs.nd rfl (by first | exact Or.inl rfl | exact Or.inr rfl) (pe_lst (pa_cons (pe_tup (pa_cons pe_int (pa_cons pe_int pa_nil))) (pa_cons (pe_tup (pa_cons pe_int (pa_cons (pv 1) pa_nil))) (pa_cons (pe_tup (pa_cons (pe_op op_add (pv 1) pe_int) (pa_cons pe_int pa_nil))) (pa_cons (pe_tup (pa_cons pe_int (pa_cons (pe_un un_neg pe_int) pa_nil))) (pa_cons (pe_lst (pa_cons pe_int (pa_cons pe_int pa_nil))) (pa_cons (pe_tup (pa_cons pe_int pa_nil)) (pa_cons (pe_tup (pa_cons pe_int (pa_cons pe_int (pa_cons pe_int pa_nil)))) (pa_cons (pe_tup (pa_cons pe_bl (pa_cons pe_int pa_nil))) (pa_cons (pe_tup (pa_cons pe_int (pa_cons pe_non pa_nil))) (pa_cons pe_non (pa_cons pe_int (pa_cons pe_str pa_nil))))))))))))))
      (pss_cons (ps_set (i := 5) sc__law_no_pairs.nd rfl (by first | exact Or.inl rfl | exact Or.inr rfl) (pe_lst (pa_cons pe_non (pa_cons (pe_callTy (c_lstK K) (by rfl) m_list (by decide +kernel) (pa_cons (pv 2) pa_nil)) (pa_cons pe_int (pa_cons pe_str (pa_cons (pe_op (op_catAK K) (pe_op (op_catAK K) (pe_slice (sl_tupAK K) (pv 2) po_none (po_some (pv 3))) (pe_tup (pa_cons (pe_ix (ix_seqK K) (pv 4) (pe_callC c__law_take hr (by rfl) (pa_cons (pv 0) (pa_cons pe_int pa_nil))) (fun _ _ => rfl)) pa_nil))) (pe_slice (sl_tupAK K) (pv 2) (po_some (pv 3)) po_none)) pa_nil)))))))
      (pss_one (ps_ret (pe_ix (ix_seqK K) (pv 5) (pe_callB c_min (by rfl) m_min (by decide +kernel) (pa_cons pe_int (pa_cons (pe_callC c__law_take hr (by rfl) (pa_cons (pv 0) (pa_cons pe_int pa_nil))) pa_nil))) (fun _ _ => rfl))))))), fun J ss P h => ?_⟩)
  · obtain ⟨n, ps, rfl, _⟩ := h
    rfl
  · obtain ⟨n, ps, rfl, hn, hpl, hP⟩ := h
    show Sv K J [.hnd, .d (.int (n : Int)), .d (.tup (pairsD ps)), .no, .no, .no] _ _
    have hpD : ∀ d ∈ pairsD ps, Flat 6 d := fun d hd => by
      obtain ⟨q, hq, rfl⟩ := List.mem_map.mp hd
      exact flat_of_B rfl
    walk_at "S"
    walk_at "S"
    repeat walk_at "E"
    refine ⟨_, rfl, by omega, fun x hx0 hx => ?_⟩
    obtain ⟨a, rfl⟩ : ∃ a : Nat, x = (a : Int) := ⟨x.toNat, by omega⟩
    walk_at "S"
    walk_at "S"
    repeat walk_at "E"
    walk_at "S"
    walk_at "S"
    repeat walk_at "E"
    rw [cut_to]
    refine ⟨_, rfl, by decide, fun x hx0 hx => ?_⟩
    refine o2_pickP (fun d => (Flat 6 d ∧ txtD d = true) ∧ pairB n d = false) ?_ hx0 hx fun part hpart => ?_
    · intro y hy
      simp only [List.mem_cons, List.not_mem_nil, or_false] at hy
      rcases hy with rfl | rfl | rfl | rfl | rfl | rfl | rfl | rfl | rfl | rfl | rfl | rfl
      all_goals
        refine ⟨⟨flat_of_B rfl, by simp [txtD, txtDs] <;> decide +kernel⟩, ?_⟩
        simp [pairB, inB, eqD]
      all_goals omega
    repeat walk_at "E"
    refine o2_cat (by rw [List.length_take, pairsD_len]; simp; omega) ?_
    repeat walk_at "E"
    rw [cut_from]
    refine o2_cat (by rw [List.length_append, List.length_take, List.length_drop, pairsD_len]; simp; omega) ?_
    repeat walk_at "E"
    walk_at "S"
    repeat walk_at "E"
    refine ⟨12, rfl, by decide, fun x hx0 hx => ?_⟩
    repeat walk_at "E"
    refine o2_pickP (fun d => Flat 7 d ∧ pairsB n d = false ∧ (∀ ds, d = .tup ds → ds.length ≤ 1000) ∧ txtD d = true) ?_ (by split <;> omega) (by show (if _ then _ else _) < ((5 : Nat) : Int); split <;> omega) fun d hd => hP d hd.1 hd.2.1 hd.2.2.1 hd.2.2.2
    have hpT : ∀ d ∈ pairsD ps, txtD d = true := fun d hd => by
      obtain ⟨q, hq, rfl⟩ := List.mem_map.mp hd
      simp [pairD, txtD, txtDs]
    intro y hy
    simp only [List.mem_cons, List.not_mem_nil, or_false] at hy
    rcases hy with rfl | rfl | rfl | rfl | rfl
    · exact ⟨flat_of_B rfl, rfl, (fun ds e => (nomatch e)), by simp [txtD]⟩
    · exact ⟨.lst 6 _ (by rw [pairsD_len]; omega) hpD, rfl, (fun ds e => (nomatch e)), by rw [txt_lst]; exact txtDs_iff.mpr hpT⟩
    · exact ⟨flat_of_B rfl, rfl, (fun ds e => (nomatch e)), by simp [txtD]⟩
    · exact ⟨flat_of_B rfl, rfl, (fun ds e => (nomatch e)), by simp [txtD]; decide +kernel⟩
    · have hlen : ((pairsD ps).take a ++ [part] ++ (pairsD ps).drop a).length ≤ 1000 := by
        rw [List.length_append, List.length_append, List.length_take, List.length_drop, pairsD_len]; simp; omega
      refine ⟨.tup 6 _ (by omega) fun d hd => ?_, ?_, fun ds e => (by cases e; exact hlen), ?_⟩
      · rcases List.mem_append.mp hd with h | h
        · rcases List.mem_append.mp h with h | h
          · exact hpD d (List.mem_of_mem_take h)
          · rw [List.mem_singleton] at h; subst h; exact hpart.1.1
        · exact hpD d (List.mem_of_mem_drop h)
      · show List.all _ _ = false
        rw [List.all_append, List.all_append]
        show (_ && (pairB n part && true) && _) = false
        rw [hpart.2]; simp
      · rw [txt_tup]
        refine txtDs_iff.mpr fun d hd => ?_
        rcases List.mem_append.mp hd with h | h
        · rcases List.mem_append.mp h with h | h
          · exact hpT d (List.mem_of_mem_take h)
          · rw [List.mem_singleton] at h; subst h; exact hpart.1.2
        · exact hpT d (List.mem_of_mem_drop h)
theorem ok__law_up {P : Program} {w : World} {K : PySem.W.Frag} {mg : Str → Option Value} {base : Heap} {f : Addr} {fd : FuncData} (F : L2.Fun K "_law_up" "_law_up" s__law_up f fd)
    {C_InvalidPairs fI_InvalidPairs : Addr} {fd_InvalidPairs : FuncData} (e_InvalidPairs : Exk P w K mg base "InvalidPairs" ["self", "value"] ["value"] C_InvalidPairs fI_InvalidPairs fd_InvalidPairs)
    {C_TooMany fI_TooMany : Addr} {fd_TooMany : FuncData} (e_TooMany : Exk P w K mg base "TooMany" ["self", "what"] ["what"] C_TooMany fI_TooMany fd_TooMany)
    {C_Undefined fI_Undefined : Addr} {fd_Undefined : FuncData} (e_Undefined : Exk P w K mg base "Undefined" ["self", "what"] ["what"] C_Undefined fI_Undefined fd_Undefined)
    {C_Table : Addr} (i_Table : Ins K C_Table ["lines", "most", "taken", "plan"]) :
    FnOk P w K mg base CX0 (1) f fd P__law_up (Ct K W_up) := by
  refine ok_ct F sc__law_up (fun ss P h => ?_) (fun cdv A outer s H E hr => ⟨_, (pss_one (ps_ret (pe_op op_fdiv (pe_op op_sub (pe_op op_add (pv 0) (pv 1)) pe_int) (pv 1)))), fun J ss P h => ?_⟩)
  · obtain ⟨a, b, rfl, _⟩ := h
    rfl
  · obtain ⟨a, b, rfl, hb, hb2, hP⟩ := h
    show Sv K J [.d (.int (a : Int)), .d (.int (b : Int))] _ _
    walk_at "S"
    repeat walk_at "E"
    refine o2_I (C := CDiv) (cdiv_ok (by omega) (by omega)) ?_
    have e : ((a : Int) + (b : Int) - 1) / (b : Int) = (((a + b - 1) / b : Nat) : Int) := by
      rw [show ((a : Int) + (b : Int) - 1) = ((a + b - 1 : Nat) : Int) by omega]
      rfl
    rw [e]
    exact hP
theorem ok__law_busiest {P : Program} {w : World} {K : PySem.W.Frag} {mg : Str → Option Value} {base : Heap} {f : Addr} {fd : FuncData} (F : L2.Fun K "_law_busiest" "_law_busiest" s__law_busiest f fd)
    {C_InvalidPairs fI_InvalidPairs : Addr} {fd_InvalidPairs : FuncData} (e_InvalidPairs : Exk P w K mg base "InvalidPairs" ["self", "value"] ["value"] C_InvalidPairs fI_InvalidPairs fd_InvalidPairs)
    {C_TooMany fI_TooMany : Addr} {fd_TooMany : FuncData} (e_TooMany : Exk P w K mg base "TooMany" ["self", "what"] ["what"] C_TooMany fI_TooMany fd_TooMany)
    {C_Undefined fI_Undefined : Addr} {fd_Undefined : FuncData} (e_Undefined : Exk P w K mg base "Undefined" ["self", "what"] ["what"] C_Undefined fI_Undefined fd_Undefined)
    {C_Table : Addr} (i_Table : Ins K C_Table ["lines", "most", "taken", "plan"])
    (m_len : mg "len" = none)
    (m_max : mg "max" = none)
    (m_range : mg "range" = none)
    (c__law_loads : Cal P w K mg base 1 "_law_loads" P__law_loads (CtM K W_lloads))
    (c__law_up : Cal P w K mg base 1 "_law_up" P__law_up (Ct K W_up)) :
    FnOk P w K mg base CX0 (2) f fd P__law_busiest (Ct K W_lbusy) := by
  refine ok_ct F sc__law_busiest (fun ss P h => ?_) (fun cdv A outer s H E hr => ⟨_, (pss_cons (ps_set (i := 2) sc__law_busiest.nd rfl (by first | exact Or.inl rfl | exact Or.inr rfl) (pe_callC c__law_loads hr (by rfl) (pa_cons (pe_callB (c_lenK K) (by rfl) m_len PySem.boot_len (pa_cons (pv 0) pa_nil)) (pa_cons (pv 1) pa_nil))))
      (pss_one (ps_ret (pe_callB (c_maxLK K) (by rfl) m_max (by decide +kernel) (pa_cons (pe_lc (own := [("v", 3)]) rfl sc__law_busiest.nd (pi_range1 (by rfl) m_range (pa_cons (pe_callB (c_lenK K) (by rfl) m_len PySem.boot_len (pa_cons (pv 0) pa_nil)) pa_nil)) (blkOk_by (N := N__law_busiest) (sc := defScope s__law_busiest) (by decide +kernel)) (fun _ _ _ _ _ => (pg_name (i := 3) sc__law_busiest.nd rfl (by first | exact Or.inl rfl | exact Or.inr rfl))) (fun _ _ _ _ _ => pts_nil) (fun _ _ _ _ _ => (pe_callC c__law_up hr (by rfl) (pa_cons (pe_ix (ix_seqK K) (pv 2) (pv 3) (fun _ _ => rfl)) (pa_cons (pe_ix (ix_seqK K) (pv 0) (pv 3) (fun _ _ => rfl)) pa_nil))))) pa_nil))))), fun J ss P h => ?_⟩)
  · obtain ⟨rs, ps, rfl, _⟩ := h
    rfl
  · obtain ⟨rs, ps, rfl, h0, h1, hr, hok, hpl, hP⟩ := h
    show Sv K J [.d (lotD rs), .d (.tup (pairsD ps)), .no, .no] _ _
    refine sv_seq (sv_asgM (em_call ?_))
    repeat walk_at "E"
    rw [natsD_length]
    refine ⟨rs.length, _, ps, rfl, .inl rfl, h1, by omega, hok, ?_⟩
    show Sv K J [.d (lotD rs), .d (.tup (pairsD ps)), .ml (natsD (loadsN rs.length ps)), .no] _ _
    refine sv_ret (ev_cb (ed_cons (Em.ev (em_map (fun d => match d with | .int i => .int ((upN (loadN ps i.toNat) (rs.getD i.toNat 0) : Nat) : Int) | _ => .non) (ei_range ?_)))))
    repeat walk_at "E"
    rw [natsD_length]
    refine ⟨by omega, by omega, by simp; omega, fun d hd => gt_name (by decide) ?_, ?_⟩
    · obtain ⟨i, hi, rfl⟩ := List.mem_map.mp hd
      have hi : i < rs.length := by simpa using hi
      have hri := hr _ (List.getElem_mem hi)
      have eg : rs.getD i 0 = rs[i] := by rw [List.getD_eq_getElem?_getD, List.getElem?_eq_getElem hi]; rfl
      have el : (natsD (loadsN rs.length ps))[i]? = some (.int ((loadN ps i : Nat) : Int)) := by
        unfold natsD loadsN
        rw [List.getElem?_map, List.getElem?_map, List.getElem?_range hi]
        rfl
      refine ev_call (ea_cons (ev_ixM rfl ?_))
      repeat walk_at "E"
      refine ⟨_, _, rfl, atD_nat el, ?_⟩
      repeat walk_at "E"
      refine o2_ixT (atD_nat (natsD_getK hi)) ?_
      repeat walk_at "E"
      refine ⟨loadN ps i, rs[i], rfl, hri.1, by omega, ?_⟩
      show Dt.int (((loadN ps i + rs[i] - 1) / rs[i] : Nat) : Int) = .int ((upN (loadN ps ((i : Nat) : Int).toNat) (rs.getD ((i : Nat) : Int).toNat 0) : Nat) : Int)
      rw [Int.toNat_natCast, eg]
      rfl
    · have e : ((List.range ((rs.length : Nat) : Int).toNat).map fun i => Dt.int ((i : Nat) : Int)).map (fun d => match d with | .int i => Dt.int ((upN (loadN ps i.toNat) (rs.getD i.toNat 0) : Nat) : Int) | _ => .non) = ((List.zipWith upN (loadsN rs.length ps) rs).map fun (v : Nat) => (v : Int)).map Dt.int := by
        rw [Int.toNat_natCast, List.map_map, List.map_map]
        refine List.ext_getElem (by simp [loadsN]) fun i h1 h2 => ?_
        have hi : i < rs.length := by simpa using h1
        rw [List.getElem_map, List.getElem_map, List.getElem_range, List.getElem_zipWith]
        have eg : rs.getD i 0 = rs[i] := by rw [List.getD_eq_getElem?_getD, List.getElem?_eq_getElem hi]; rfl
        show Dt.int ((upN (loadN ps ((i : Nat) : Int).toNat) (rs.getD ((i : Nat) : Int).toNat 0) : Nat) : Int) = _
        rw [Int.toNat_natCast, eg]
        simp [loadsN]
      rw [e]
      refine ed_nil (oc_maxL (ns := (List.zipWith upN (loadsN rs.length ps) rs).map fun (v : Nat) => (v : Int)) (by simp [loadsN]; omega) fun m hm hy => ?_)
      rw [mx_int hm hy]
      exact hP
theorem ok__law_length {P : Program} {w : World} {K : PySem.W.Frag} {mg : Str → Option Value} {base : Heap} {f : Addr} {fd : FuncData} (F : L2.Fun K "_law_length" "_law_length" s__law_length f fd)
    {C_InvalidPairs fI_InvalidPairs : Addr} {fd_InvalidPairs : FuncData} (e_InvalidPairs : Exk P w K mg base "InvalidPairs" ["self", "value"] ["value"] C_InvalidPairs fI_InvalidPairs fd_InvalidPairs)
    {C_TooMany fI_TooMany : Addr} {fd_TooMany : FuncData} (e_TooMany : Exk P w K mg base "TooMany" ["self", "what"] ["what"] C_TooMany fI_TooMany fd_TooMany)
    {C_Undefined fI_Undefined : Addr} {fd_Undefined : FuncData} (e_Undefined : Exk P w K mg base "Undefined" ["self", "what"] ["what"] C_Undefined fI_Undefined fd_Undefined)
    {C_Table : Addr} (i_Table : Ins K C_Table ["lines", "most", "taken", "plan"])
    (m_len : mg "len" = none)
    (m_max : mg "max" = none) :
    FnOk P w K mg base CX0 (1) f fd P__law_length (Ct K W_planlen) := by
  refine ok_ct F sc__law_length (fun ss P h => ?_) (fun cdv A outer s H E hr => ⟨_, (pss_cons (ps_if (pt_cmpR op_eq (pe_callB (c_lenK K) (by rfl) m_len PySem.boot_len (pa_cons (pv 0) pa_nil)) pe_int (nomark _))
        (pss_one (ps_ret pe_int))
        pss_nil)
      (pss_one (ps_ret (pe_op op_add (pe_callB (cr_max2K K (by rfl) hr.units) (by rfl) m_max (by decide +kernel) (pa_cons (pv 0) pa_nil)) pe_int)))), fun J ss P h => ?_⟩)
  · obtain ⟨ns, rfl, _⟩ := h
    rfl
  · obtain ⟨ns, rfl, hP⟩ := h
    show Sv K J [.d (.tup (ns.map Dt.int))] _ _
    walk_at "S"
    walk_at "S"
    repeat walk_at "E"
    cases ns with
    | nil =>
      refine bc_t rfl ?_
      walk_at "S"
      repeat walk_at "E"
      exact hP
    | cons n r =>
      refine bc_f (by simp; omega) (sv_next (sv_ret (ev_op (ev_cb (ed_cons (ev_var rfl (ed_nil (oc_max2 (.inr rfl) (ev_int (o2_I0 hP))))))))))
theorem ok__law_excess {P : Program} {w : World} {K : PySem.W.Frag} {mg : Str → Option Value} {base : Heap} {f : Addr} {fd : FuncData} (F : L2.Fun K "_law_excess" "_law_excess" s__law_excess f fd)
    {C_InvalidPairs fI_InvalidPairs : Addr} {fd_InvalidPairs : FuncData} (e_InvalidPairs : Exk P w K mg base "InvalidPairs" ["self", "value"] ["value"] C_InvalidPairs fI_InvalidPairs fd_InvalidPairs)
    {C_TooMany fI_TooMany : Addr} {fd_TooMany : FuncData} (e_TooMany : Exk P w K mg base "TooMany" ["self", "what"] ["what"] C_TooMany fI_TooMany fd_TooMany)
    {C_Undefined fI_Undefined : Addr} {fd_Undefined : FuncData} (e_Undefined : Exk P w K mg base "Undefined" ["self", "what"] ["what"] C_Undefined fI_Undefined fd_Undefined)
    {C_Table : Addr} (i_Table : Ins K C_Table ["lines", "most", "taken", "plan"])
    (m_sorted : mg "sorted" = none)
    (m_range : mg "range" = none)
    (m_len : mg "len" = none)
    (c__law_loads : Cal P w K mg base 2 "_law_loads" P__law_loads (CtM K W_lloads)) :
    FnOk P w K mg base CX0 (3) f fd P__law_excess (Ct K W_lexcess) := by
  refine ok_ct F sc__law_excess (fun ss P h => ?_) (fun cdv A outer s H E hr => ⟨_, (pss_cons (ps_for PassesOwn.never rfl (pi_seqK K (pe_callB (cr_sorted2K K) (by rfl) m_sorted (by decide +kernel) (pa_cons (pv 2) pa_nil))) (pg_name (i := 3) sc__law_excess.nd rfl (by first | exact Or.inl rfl | exact Or.inr rfl))
        (pss_cons (ps_set (i := 4) sc__law_excess.nd rfl (by first | exact Or.inl rfl | exact Or.inr rfl) (pe_callC c__law_loads hr (by rfl) (pa_cons (pe_callB (c_lenK K) (by rfl) m_len PySem.boot_len (pa_cons (pv 0) pa_nil)) (pa_cons (pe_lc (own := [("k", 6)]) rfl sc__law_excess.nd (pi_range1 (by rfl) m_range (pa_cons (pe_callB (c_lenK K) (by rfl) m_len PySem.boot_len (pa_cons (pv 1) pa_nil)) pa_nil)) (blkOk_by (N := N__law_excess) (sc := defScope s__law_excess) (by decide +kernel)) (fun _ _ _ _ _ => (pg_name (i := 6) sc__law_excess.nd rfl (by first | exact Or.inl rfl | exact Or.inr rfl))) (fun _ _ _ _ _ => (pts_one (pt_cmpR op_eq (pe_ix (ix_seqK K) (pv 2) (pv 6) (fun _ _ => rfl)) (pv 3) (nomark _)))) (fun _ _ _ _ _ => (pe_ix (ix_seqK K) (pv 1) (pv 6) (fun _ _ => rfl)))) pa_nil))))
      (pss_one (ps_for PassesOwn.never rfl (pi_range1 (by rfl) m_range (pa_cons (pe_callB (c_lenK K) (by rfl) m_len PySem.boot_len (pa_cons (pv 0) pa_nil)) pa_nil)) (pg_name (i := 5) sc__law_excess.nd rfl (by first | exact Or.inl rfl | exact Or.inr rfl))
        (pss_one (ps_if (pt_cmpR op_gt (pe_ix (ix_seqK K) (pv 4) (pv 5) (fun _ _ => rfl)) (pe_ix (ix_seqK K) (pv 0) (pv 5) (fun _ _ => rfl)) (nomark _))
        (pss_one (ps_ret (pe_tup (pa_cons (pv 3) (pa_cons (pv 5) pa_nil)))))
        pss_nil))))))
      (pss_one (ps_ret pe_non))), fun J ss P h => ?_⟩)
  · obtain ⟨rs, x, y, ps, ts, rfl, _⟩ := h
    rfl
  · obtain ⟨rs, x, y, ps, ts, rfl, hx, hy, hrs, hps, hts, hok, hP⟩ := h
    show Sv K J [.d (lotD rs), .d x, .d y, .no, .no, .no, .no] _ _
    have hy2 : y = .lst ((ts.map fun (v : Nat) => (v : Int)).map Dt.int) ∨ y = .tup ((ts.map fun (v : Nat) => (v : Int)).map Dt.int) := by rw [← natsD_ints]; exact hy
    refine sv_seq (sv_for [3] (ei_seq (ev_cb (ed_cons (ev_var rfl (ed_nil (oc_sorted2 hy2 fun ns hperm hsort => ⟨_, .inl rfl, fun k e => ∃ s3 s4 s5 s6, e = [.d (lotD rs), .d x, .d y, s3, s4, s5, s6] ∧ ∀ t ∈ ns.take k, ∀ v : Nat, ¬ Exc rs (evsN ps ts) (t, (v : Int)), ⟨_, _, _, _, rfl, fun _ z => nomatch z⟩, ?_, ?_⟩)))))))
    · rintro k d e hd ⟨s3, s4, s5, s6, rfl, hno⟩
      rw [List.getElem?_map] at hd
      obtain ⟨t, ht, rfl⟩ := Option.map_eq_some_iff.mp hd
      refine gt_name (by decide) ?_
      show Sv K J [.d (lotD rs), .d x, .d y, .d (.int t), s4, s5, s6] _ _
      have hsel : OkP rs.length (selN t ps ts) := fun q hq => hok q (sel_mem hq)
      have hsl := sel_len (t := t) (ps := ps) (ts := ts)
      refine sv_seq (sv_asgM (em_call ?_))
      repeat walk_at "E"
      rw [natsD_length]
      have ixp : ∀ {i : Nat} {R : Dt → Prop}, i < ps.length → R (pairD (.int ((ps.getD i (0, 0)).1 : Int)) (.int ((ps.getD i (0, 0)).2 : Int))) → O2 K J (rIx K) x (.int (i : Int)) R := fun {i R} hi h => by
        have e : (pairsD ps)[i]? = some (pairD (.int ((ps.getD i (0, 0)).1 : Int)) (.int ((ps.getD i (0, 0)).2 : Int))) := by
          rw [pairsD_at hi, List.getD_eq_getElem?_getD, List.getElem?_eq_getElem hi]
          rfl
        rcases hx with rfl | rfl
        · exact o2_ixT (atD_nat e) h
        · exact o2_ixL (atD_nat e) h
      have ixt : ∀ {i : Nat} {R : Dt → Prop}, i < ts.length → R (.int ((ts.getD i 0 : Nat) : Int)) → O2 K J (rIx K) y (.int (i : Int)) R := fun {i R} hi h => by
        have e : (natsD ts)[i]? = some (.int ((ts.getD i 0 : Nat) : Int)) := by
          unfold natsD
          rw [List.getElem?_map, List.getElem?_eq_getElem hi, List.getD_eq_getElem?_getD, List.getElem?_eq_getElem hi]
          rfl
        rcases hy with rfl | rfl
        · exact o2_ixL (atD_nat e) h
        · exact o2_ixT (atD_nat e) h
      have lenx : ∀ {R : Dt → Prop}, R (.int ((ps.length : Nat) : Int)) → Oc K J (rLen K) [x] R := fun {R} h => by
        rcases hx with rfl | rfl
        · exact oc_lenT (by rw [pairsD_len]; exact h)
        · exact oc_lenL (by rw [pairsD_len]; exact h)
      refine Em.ev (em_lc (ei_range (ed_cons (ev_cb (ed_cons (ev_var rfl (ed_nil (lenx (ed_nil ⟨_, rfl, by omega, by omega, by simp; omega, fun j acc => acc = pairsD (selN t (ps.take j) (ts.take j)), rfl, ?_, ?_⟩)))))))))
      · rintro j d acc hj _ rfl
        obtain ⟨rfl, hjl⟩ := range_at hj
        have hjt : j < ts.length := by omega
        have hst := sel_take (t := t) (k := j) (ps := ps) (ts := ts) (List.getElem?_eq_getElem hjl) (List.getElem?_eq_getElem hjt)
        refine gt_name (by decide) (et_test (ev_op (ev_op (ev_var rfl (ev_var rfl (ixt hjt (ev_var rfl ?_)))))))
        repeat walk_at "E"
        have e1 : ts.getD j 0 = ts[j] := by rw [List.getD_eq_getElem?_getD, List.getElem?_eq_getElem hjt]; rfl
        have e2 : ps.getD j (0, 0) = ps[j] := by rw [List.getD_eq_getElem?_getD, List.getElem?_eq_getElem hjl]; rfl
        refine ⟨fun hb => ?_, fun hb => ?_⟩
        · refine ev_op (ev_var rfl (ev_var rfl (ixp hjl ?_)))
          show _ = pairsD (selN t (ps.take (j + 1)) (ts.take (j + 1)))
          rw [hst, if_pos (by rw [← e1]; simpa using hb), e2]
          exact pairsD_snoc
        · show _ = pairsD (selN t (ps.take (j + 1)) (ts.take (j + 1)))
          rw [hst, if_neg (by rw [← e1]; simpa using hb), List.append_nil]
      · rintro acc _ rfl
        rw [List.length_map, List.length_range, Int.toNat_natCast, List.take_length, ← hts, List.take_length]
        refine ea_nil ⟨rs.length, _, selN t ps ts, rfl, .inr rfl, by omega, by omega, hsel, ?_⟩
        refine sv_for [5] (ei_range (ed_cons (ev_cb (ed_cons (ev_var rfl (ed_nil (oc_lenT (ed_nil ⟨_, rfl, by omega, by rw [natsD_length]; omega, fun j e => ∃ s5 s6, e = [.d (lotD rs), .d x, .d y, .d (.int t), .ml (natsD (loadsN rs.length (selN t ps ts))), s5, s6] ∧ ∀ v : Nat, v < j → ¬ Exc rs (evsN ps ts) (t, (v : Int)), ⟨s5, s6, rfl, fun _ z => absurd z (Nat.not_lt_zero _)⟩, ?_, ?_⟩))))))))
        · rintro v d e hv ⟨s5, s6, rfl, hnv⟩
          rw [natsD_length] at hv
          obtain ⟨rfl, hvl⟩ := range_at hv
          have hld : (natsD (loadsN rs.length (selN t ps ts)))[v]? = some (.int ((loadN (selN t ps ts) v : Nat) : Int)) := by
            unfold natsD loadsN
            rw [List.getElem?_map, List.getElem?_map, List.getElem?_range hvl]
            rfl
          have hrv : (natsD rs)[v]? = some (.int ((rs.getD v 0 : Nat) : Int)) := by
            unfold natsD
            rw [List.getElem?_map, List.getElem?_eq_getElem hvl, List.getD_eq_getElem?_getD, List.getElem?_eq_getElem hvl]
            rfl
          refine gt_name (by decide) (sv_if ?_)
          repeat walk_at "E"
          refine ⟨_, _, rfl, atD_nat hld, ?_⟩
          repeat walk_at "E"
          refine o2_ixT (atD_nat hrv) ?_
          repeat walk_at "E"
          refine ⟨fun hb => ?_, fun hb => sv_next ⟨_, _, rfl, fun v' hv' hx' => ?_⟩⟩
          · have hb := of_decide_eq_true hb
            walk_at "S"
            repeat walk_at "E"
            refine hP _ (.inr ⟨(t, (v : Int)), rfl, exc_iff.mpr (by omega), fun q hq hlt => ?_⟩)
            obtain ⟨t', v', e, _⟩ := evs_mem hok hq.1
            obtain ⟨u, hu, e2⟩ := evs_turn hq.1
            subst e
            unfold ltP at hlt
            rcases hlt with hlt | ⟨h1, h2⟩
            · have hm : ((t' : Nat) : Int) ∈ ns := by rw [hperm.mem_iff]; exact List.mem_map.mpr ⟨u, hu, e2.symm⟩
              obtain ⟨i, hi, hie⟩ := List.mem_iff_getElem.mp hm
              obtain ⟨hkl, hke⟩ := List.getElem?_eq_some_iff.mp ht
              by_cases hik : i < k
              · exact hno _ (List.mem_take_iff_getElem.mpr ⟨i, by omega, hie⟩) v' hq
              · have hlt : ((t' : Nat) : Int) < t := hlt
                by_cases e3 : i = k
                · subst e3
                  omega
                · have := List.pairwise_iff_getElem.mp hsort k i hkl hi (by omega)
                  omega
            · have h1 : ((t' : Nat) : Int) = t := h1
              have h2 : ((v' : Nat) : Int) < (v : Int) := h2
              exact hnv v' (by omega) (by rw [← h1]; exact hq)
          · by_cases e3 : v' = v
            · subst e3
              have := exc_iff.mp hx'
              have hb := of_decide_eq_false hb
              omega
            · exact hnv v' (by omega) hx'
        · rintro e ⟨s5, s6, rfl, hnv⟩
          rw [List.length_map, List.length_range, Int.toNat_natCast, natsD_length] at hnv
          refine ⟨_, _, _, _, rfl, fun t' ht' v hx' => ?_⟩
          rw [List.take_add_one, ht] at ht'
          rcases List.mem_append.mp ht' with h | h
          · exact hno t' h v hx'
          · have h : t' = t := by simpa using h
            subst h
            obtain ⟨_, v', e, hv'⟩ := evs_mem hok hx'.1
            have : (v : Int) = (v' : Int) := congrArg Prod.snd e
            exact hnv v (by omega) hx'
    · rintro e ⟨s3, s4, s5, s6, rfl, hno⟩
      rw [List.length_map, List.take_length] at hno
      walk_at "S"
      repeat walk_at "E"
      refine hP _ (.inl ⟨rfl, fun q hq => ?_⟩)
      obtain ⟨t, v, e, _⟩ := evs_mem hok hq.1
      obtain ⟨u, hu, e2⟩ := evs_turn hq.1
      subst e
      refine hno (t : Int) ?_ v hq
      rw [hperm.mem_iff]
      exact List.mem_map.mpr ⟨u, hu, e2.symm⟩
theorem ok__law_is_row {P : Program} {w : World} {K : PySem.W.Frag} {mg : Str → Option Value} {base : Heap} {f : Addr} {fd : FuncData} (F : L2.Fun K "_law_is_row" "_law_is_row" s__law_is_row f fd)
    {C_InvalidPairs fI_InvalidPairs : Addr} {fd_InvalidPairs : FuncData} (e_InvalidPairs : Exk P w K mg base "InvalidPairs" ["self", "value"] ["value"] C_InvalidPairs fI_InvalidPairs fd_InvalidPairs)
    {C_TooMany fI_TooMany : Addr} {fd_TooMany : FuncData} (e_TooMany : Exk P w K mg base "TooMany" ["self", "what"] ["what"] C_TooMany fI_TooMany fd_TooMany)
    {C_Undefined fI_Undefined : Addr} {fd_Undefined : FuncData} (e_Undefined : Exk P w K mg base "Undefined" ["self", "what"] ["what"] C_Undefined fI_Undefined fd_Undefined)
    {C_Table : Addr} (i_Table : Ins K C_Table ["lines", "most", "taken", "plan"])
    (m_len : mg "len" = none)
    (m_isinstance : mg "isinstance" = none)
    (m_tuple : mg "tuple" = none)
    (c__law_is_number : Cal P w K mg base 1 "_law_is_number" P__law_is_number (Ct K W_lnum)) :
    FnOk P w K mg base CX0 (2) f fd P__law_is_row (Ct K W_lrow) := by
  refine ok_ct F sc__law_is_row (fun ss P h => ?_) (fun cdv A outer s H E hr => ⟨_, (pss_cons (ps_if (PW.pt (pw_or (pt_not (pt_val (pe_callB (c_isiK K) (by rfl) m_isinstance (by decide +kernel) (pa_cons (pv 0) (pa_cons (pe_bltn (v := .ty "tuple") (by rfl) m_tuple (by decide +kernel) rfl) pa_nil))))) (pw_or1 (pt_cmpR op_ne (pe_callB (c_lenK K) (by rfl) m_len PySem.boot_len (pa_cons (pv 0) pa_nil)) (pv 1) (nomark _)))))
        (pss_one (ps_ret pe_bl))
        pss_nil)
      (pss_one (ps_ret (pe_cmpR op_eq (pe_callB (c_lenK K) (by rfl) m_len PySem.boot_len (pa_cons (pe_lc (own := [("one", 3)]) rfl sc__law_is_row.nd (pi_seqK K (pv 0)) (blkOk_by (N := N__law_is_row) (sc := defScope s__law_is_row) (by decide +kernel)) (fun _ _ _ _ _ => (pg_name (i := 3) sc__law_is_row.nd rfl (by first | exact Or.inl rfl | exact Or.inr rfl))) (fun _ _ _ _ _ => (pts_one (PW.pt (pw_or (pt_not (pt_val (pe_callC c__law_is_number hr (by rfl) (pa_cons (pv 3) pa_nil)))) (pw_or1 (pt_cmpR op_gt (pv 3) (pv 2) (nomark _))))))) (fun _ _ _ _ _ => (pv 3))) pa_nil)) pe_int (nomark _))))), fun J ss P h => ?_⟩)
  · obtain ⟨x, m, mo, rfl, _⟩ := h
    rfl
  · obtain ⟨x, m, mo, rfl, hx, hP⟩ := h
    show Sv K J [.d x, .d (.int m), .d (.int mo), .no] _ _
    walk_at "S"
    walk_at "S"
    repeat walk_at "E"
    refine ⟨hx.no, ?_⟩
    cases x
    case tup ds =>
      obtain ⟨hz, hp⟩ := hx.tup
      refine ⟨_, rfl, ?_⟩
      refine ⟨fun z => (nomatch z), fun _ => ?_⟩
      repeat walk_at "E"
      refine ⟨fun hb => ?_, fun hb => ?_⟩
      · walk_at "S"
        repeat walk_at "E"
        have e : rowQ m mo (.tup ds) = false := by
          show (decide ((ds.length : Int) = m) && _) = false
          have : decide ((ds.length : Int) = m) = false := by simpa using hb
          rw [this, Bool.false_and]
        rw [e] at hP
        exact hP
      have hb : decide ((ds.length : Int) = m) = true := by simpa using hb
      refine sv_next (sv_ret (ev_op (ev_cb (ed_cons (Em.ev (em_filt (fun d => !(natB d && leI mo d)) (ei_seq (ev_var rfl ⟨ds, .inr rfl, hz, fun d hd => gt_name (by decide) ?_, ?_⟩))))))))
      · have hpd := hp d hd
        repeat walk_at "E"
        refine ⟨d, rfl, hpd.no, _, rfl, fun h1 => ?_, fun h1 => ?_⟩
        · have h1 : natB d = false := by simpa using h1
          rw [h1]
          exact ⟨rfl, fun _ => ev_var rfl rfl⟩
        · have h1 : natB d = true := by simpa using h1
          obtain ⟨i, rfl⟩ : ∃ i, d = .int i := by cases d <;> first | exact ⟨_, rfl⟩ | cases h1
          repeat walk_at "E"
          rw [h1]
          refine ⟨?_, fun _ => ev_var rfl rfl⟩
          show _ = !(true && decide (i ≤ mo))
          rw [Bool.true_and, ← decide_not]
          exact decide_eq_decide.mpr (by omega)
      · refine ed_nil (oc_lenL ?_)
        repeat walk_at "E"
        rw [filt_nil]
        have e : rowQ m mo (.tup ds) = ds.all fun d => natB d && leI mo d := by
          show (decide ((ds.length : Int) = m) && _) = _
          rw [hb, Bool.true_and]
        rw [e] at hP
        exact hP
    all_goals
      refine ⟨_, rfl, ?_⟩
      refine ⟨fun _ => ⟨fun _ => ?_, fun z => (nomatch z)⟩, fun z => (nomatch z)⟩
      walk_at "S"
      repeat walk_at "E"
      exact hP
theorem ok__law_is_plan {P : Program} {w : World} {K : PySem.W.Frag} {mg : Str → Option Value} {base : Heap} {f : Addr} {fd : FuncData} (F : L2.Fun K "_law_is_plan" "_law_is_plan" s__law_is_plan f fd)
    {C_InvalidPairs fI_InvalidPairs : Addr} {fd_InvalidPairs : FuncData} (e_InvalidPairs : Exk P w K mg base "InvalidPairs" ["self", "value"] ["value"] C_InvalidPairs fI_InvalidPairs fd_InvalidPairs)
    {C_TooMany fI_TooMany : Addr} {fd_TooMany : FuncData} (e_TooMany : Exk P w K mg base "TooMany" ["self", "what"] ["what"] C_TooMany fI_TooMany fd_TooMany)
    {C_Undefined fI_Undefined : Addr} {fd_Undefined : FuncData} (e_Undefined : Exk P w K mg base "Undefined" ["self", "what"] ["what"] C_Undefined fI_Undefined fd_Undefined)
    {C_Table : Addr} (i_Table : Ins K C_Table ["lines", "most", "taken", "plan"])
    (m_len : mg "len" = none)
    (c__law_excess : Cal P w K mg base 3 "_law_excess" P__law_excess (Ct K W_lexcess))
    (c__law_is_row : Cal P w K mg base 3 "_law_is_row" P__law_is_row (Ct K W_lrow)) :
    FnOk P w K mg base CX0 (4) f fd P__law_is_plan (Ct K W_lisplan) := by
  refine ok_ct F sc__law_is_plan (fun ss P h => ?_) (fun cdv A outer s H E hr => ⟨_, (pss_one (ps_ret (pe_and (pe_callC c__law_is_row hr (by rfl) (pa_cons (pv 0) (pa_cons (pe_callB (c_lenK K) (by rfl) m_len PySem.boot_len (pa_cons (pv 2) pa_nil)) (pa_cons pe_int pa_nil)))) (pe_one (pe_cmpR op_is_none (pe_callC c__law_excess hr (by rfl) (pa_cons (pv 1) (pa_cons (pv 2) (pa_cons (pv 0) pa_nil)))) pe_non (nomark _)))))), fun J ss P h => ?_⟩)
  · obtain ⟨rs, pl, ps, rfl, _⟩ := h
    rfl
  · obtain ⟨rs, pl, ps, rfl, hrs, hps, hl, hok, hq, hno, hP⟩ := h
    show Sv K J [.d (lotD pl), .d (lotD rs), .d (.tup (pairsD ps))] _ _
    refine sv_ret (ev_andV (ev_call (ea_cons (ev_var rfl (ea_cons (ev_cb (ed_cons (ev_var rfl (ed_nil (oc_lenT (ea_cons (ev_int (ea_nil ⟨lotD pl, (ps.length : Nat), 400, by rw [pairsD_len], pur_nats pl (by omega), ?_⟩)))))))))))))
    have hrow : rowQ (ps.length : Nat) (400 : Int) (lotD pl) = true := rowQ_nats' (mo := 400) hl hq
    rw [hrow]
    refine ⟨true, rfl, fun _ => ?_, fun z => (nomatch z)⟩
    refine ev_op (ev_call (ea_cons (ev_var rfl (ea_cons (ev_var rfl (ea_cons (ev_var rfl (ea_nil ⟨rs, _, _, ps, pl, rfl, .inl rfl, .inr rfl, hrs, hps, hl, hok, fun o ho => ev_non (o2_isN ?_)⟩))))))))
    rcases ho with ⟨rfl, _⟩ | ⟨q, rfl, h1, _⟩
    · exact hP
    · exact absurd h1 (hno q)
theorem ok__law_is_even_plan {P : Program} {w : World} {K : PySem.W.Frag} {mg : Str → Option Value} {base : Heap} {f : Addr} {fd : FuncData} (F : L2.Fun K "_law_is_even_plan" "_law_is_even_plan" s__law_is_even_plan f fd)
    {C_InvalidPairs fI_InvalidPairs : Addr} {fd_InvalidPairs : FuncData} (e_InvalidPairs : Exk P w K mg base "InvalidPairs" ["self", "value"] ["value"] C_InvalidPairs fI_InvalidPairs fd_InvalidPairs)
    {C_TooMany fI_TooMany : Addr} {fd_TooMany : FuncData} (e_TooMany : Exk P w K mg base "TooMany" ["self", "what"] ["what"] C_TooMany fI_TooMany fd_TooMany)
    {C_Undefined fI_Undefined : Addr} {fd_Undefined : FuncData} (e_Undefined : Exk P w K mg base "Undefined" ["self", "what"] ["what"] C_Undefined fI_Undefined fd_Undefined)
    {C_Table : Addr} (i_Table : Ins K C_Table ["lines", "most", "taken", "plan"])
    (c__law_length : Cal P w K mg base 4 "_law_length" P__law_length (Ct K W_planlen))
    (c__law_busiest : Cal P w K mg base 4 "_law_busiest" P__law_busiest (Ct K W_lbusy))
    (c__law_is_plan : Cal P w K mg base 4 "_law_is_plan" P__law_is_plan (Ct K W_lisplan)) :
    FnOk P w K mg base CX0 (5) f fd P__law_is_even_plan (Ct K W_liseven) := by
  refine ok_ct F sc__law_is_even_plan (fun ss P h => ?_) (fun cdv A outer s H E hr => ⟨_, (pss_one (ps_ret (pe_and (pe_callC c__law_is_plan hr (by rfl) (pa_cons (pv 0) (pa_cons (pv 1) (pa_cons (pv 2) pa_nil)))) (pe_one (pe_cmpR op_eq (pe_callC c__law_length hr (by rfl) (pa_cons (pv 0) pa_nil)) (pe_callC c__law_busiest hr (by rfl) (pa_cons (pv 1) (pa_cons (pv 2) pa_nil))) (nomark _)))))), fun J ss P h => ?_⟩)
  · obtain ⟨rs, pl, ps, rfl, _⟩ := h
    rfl
  · obtain ⟨rs, pl, ps, rfl, h0, hrs, hr, hps, hok, he, hP⟩ := h
    show Sv K J [.d (lotD pl), .d (lotD rs), .d (.tup (pairsD ps))] _ _
    refine sv_ret (ev_andV (ev_call (ea_cons (ev_var rfl (ea_cons (ev_var rfl (ea_cons (ev_var rfl (ea_nil ⟨rs, pl, ps, rfl, hrs, hps, he.len, hok, fun q hq => by have := he.lt q hq; omega, he.no, true, rfl, fun _ => ?_, fun z => (nomatch z)⟩)))))))))
    refine ev_op (ev_call (ea_cons (ev_var rfl (ea_nil ⟨pl.map fun v : Nat => (v : Int), by unfold lotD; rw [natsD_ints], ev_call (ea_cons (ev_var rfl (ea_cons (ev_var rfl (ea_nil ⟨rs, ps, rfl, h0, by omega, hr, hok, by omega, ?_⟩)))))⟩))))
    rw [he.ln]
    refine o2_eqI ?_
    rw [decide_eq_true rfl]
    exact hP
theorem ok__law_refused {P : Program} {w : World} {K : PySem.W.Frag} {mg : Str → Option Value} {base : Heap} {f : Addr} {fd : FuncData} (F : L2.Fun K "_law_refused" "_law_refused" s__law_refused f fd)
    {C_InvalidPairs fI_InvalidPairs : Addr} {fd_InvalidPairs : FuncData} (e_InvalidPairs : Exk P w K mg base "InvalidPairs" ["self", "value"] ["value"] C_InvalidPairs fI_InvalidPairs fd_InvalidPairs)
    {C_TooMany fI_TooMany : Addr} {fd_TooMany : FuncData} (e_TooMany : Exk P w K mg base "TooMany" ["self", "what"] ["what"] C_TooMany fI_TooMany fd_TooMany)
    {C_Undefined fI_Undefined : Addr} {fd_Undefined : FuncData} (e_Undefined : Exk P w K mg base "Undefined" ["self", "what"] ["what"] C_Undefined fI_Undefined fd_Undefined)
    {C_Table : Addr} (i_Table : Ins K C_Table ["lines", "most", "taken", "plan"])
    (m_isinstance : mg "isinstance" = none)
    (m_str : mg "str" = none)
    (c_even_plan : CalX P w K mg base 9 "even_plan" P_even_plan (CtP K (W_eplan C_InvalidPairs C_Undefined)))
    (x_Undefined_Undefined : PySem.W.exmOne K (.ref C_Undefined) (.ref C_Undefined) = some true)
    (x_InvalidPairs_Undefined : PySem.W.exmOne K (.ref C_InvalidPairs) (.ref C_Undefined) = some false)
    (x_InvalidPairs_InvalidPairs : PySem.W.exmOne K (.ref C_InvalidPairs) (.ref C_InvalidPairs) = some true)
    (xc_Undefined : ExcC K C_Undefined)
    (xk_Undefined_TooMany : PySem.W.kitOne K (.ref C_Undefined) (.ref C_TooMany) = some false) :
    FnOk P w K mg base (L2.CX P w) (10) f fd P__law_refused (CtP K W_lref29) := by
  refine ok_ctp F sc__law_refused (fun M ss P PX h => ?_) (fun cdv A outer s H E hr => ⟨_, (pss_cons (ps_tryK K rfl rfl (fun W pn xe tk po => (pss_one (ps_expr (pe_callW W tk c_even_plan hr rfl (pa_cons (pv 0) (pa_cons (pv 1) pa_nil))))))
      (HdsN.cons (i := 2) ⟨rfl, by decide, Or.inl e_Undefined.g⟩ sc__law_refused.nd rfl rfl (fun a oe cls d pn hz hf => (pss_one (ps_if (PW.pt (pw_and (pt_val (pe_callB (c_isiK K) (by rfl) m_isinstance (by decide +kernel) (pa_cons (pe_xf e_Undefined.xf (e_Undefined.nf "what" (by decide)) hz hf (pv 2)) (pa_cons (pe_bltn (v := .ty "str") (by rfl) m_str (by decide +kernel) rfl) pa_nil)))) (pw_and (pt_cmpR op_eq (pe_xf e_Undefined.xf (e_Undefined.nf "what" (by decide)) hz hf (pv 2)) pe_str (nomark _)) (pw_and1 (pt_not (pt_val (pe_callB (call_isX hz hf K) (by rfl) m_isinstance (by decide +kernel) (pa_cons (pv 2) (pa_cons (pe_glob (v := .ref C_TooMany) rfl e_TooMany.g rfl) pa_nil)))))))))
        (pss_one (ps_ret pe_str))
        pss_nil))) (HdsN.cons (i := 2) ⟨rfl, by decide, Or.inl e_InvalidPairs.g⟩ sc__law_refused.nd rfl rfl (fun a oe cls d pn hz hf => (pss_one (ps_if (pt_cmpR (op_eqDK K hr.units) (pe_xf e_InvalidPairs.xf (e_InvalidPairs.nf "value" (by decide)) hz hf (pv 2)) (pv 1) (nomark _))
        (pss_one (ps_ret pe_str))
        pss_nil))) HdsN.nil)))
      (pss_one (ps_ret pe_str))), fun J M ss P PX h => ?_⟩)
  · obtain ⟨rs, x, rfl, _⟩ := h
    rfl
  · obtain ⟨rs, x, rfl, h0, h1, hr, hfx, hxt, hxl, hP1, hP2⟩ := h
    show SvM K J M [.d (lotD rs), .d x, .no] _ _
    refine sm_seq (sm_try fun W => ?_)
    refine sm_drop (evm_call (eam fun MV => ?_))
    repeat walk_at "E"
    refine ⟨rs, x, rfl, h0, h1, hr, ⟨_, hfx⟩, hxl, fun ho => ?_, fun ho => ⟨fun hx => ?_, fun ps hps hok => ?_⟩⟩
    · refine ⟨true, x_Undefined_Undefined, fun _ a d => ?_, (fun z => (nomatch z))⟩
      show SvM K J M [.d (lotD rs), .d x, .xv a d [("what", .str "rates")]] _ _
      dsimp only
      refine sm_if (etm fun MV => ?_)
      refine et_and (et_B (ev_isiB (by decide) (ev_xf rfl rfl ⟨rfl, _, rfl, fun _ => ?_, fun z => (nomatch z)⟩)))
      refine et_and (et_test (ev_op (ev_xf rfl rfl (ev_str (o2_eqS ⟨_, rfl, fun _ => ?_, fun z => (nomatch z)⟩)))))
      refine et_not (et_B (ev_isX rfl xc_Undefined xk_Undefined_TooMany ⟨_, rfl, fun _ => ?_, fun z => (nomatch z)⟩))
      exact sm_ret (evm fun MV => ev_str (less_refl (hP1 ho)))
    · refine ⟨false, x_InvalidPairs_Undefined, (fun z => (nomatch z)), fun _ => ⟨true, x_InvalidPairs_InvalidPairs, fun _ a d => ?_, (fun z => (nomatch z))⟩⟩
      show SvM K J M [.d (lotD rs), .d x, .xv a d [("value", x)]] _ _
      dsimp only
      have hs := shaped_of hfx (by decide) hxt
      refine sm_if (etm fun MV => et_test (ev_op (ev_xf rfl rfl (ev_var rfl (o2_eqDD hs hs ⟨_, rfl, fun _ => ?_, fun z => ?_⟩)))))
      · exact sm_ret (evm fun MV => ev_str (less_refl (hP2 ho).2))
      · rw [eqDD_refl hfx] at z; cases z
    · exfalso
      have := (hP2 ho).1
      rw [hps, pairsB_to hok] at this
      cases this
theorem ok__law_asked {P : Program} {w : World} {K : PySem.W.Frag} {mg : Str → Option Value} {base : Heap} {f : Addr} {fd : FuncData} (F : L2.Fun K "_law_asked" "_law_asked" s__law_asked f fd)
    {C_InvalidPairs fI_InvalidPairs : Addr} {fd_InvalidPairs : FuncData} (e_InvalidPairs : Exk P w K mg base "InvalidPairs" ["self", "value"] ["value"] C_InvalidPairs fI_InvalidPairs fd_InvalidPairs)
    {C_TooMany fI_TooMany : Addr} {fd_TooMany : FuncData} (e_TooMany : Exk P w K mg base "TooMany" ["self", "what"] ["what"] C_TooMany fI_TooMany fd_TooMany)
    {C_Undefined fI_Undefined : Addr} {fd_Undefined : FuncData} (e_Undefined : Exk P w K mg base "Undefined" ["self", "what"] ["what"] C_Undefined fI_Undefined fd_Undefined)
    {C_Table : Addr} (i_Table : Ins K C_Table ["lines", "most", "taken", "plan"])
    (c__law_take : Cal P w K mg base 11 "_law_take" P__law_take (Ct K W_take1))
    (c__law_rates : Cal P w K mg base 11 "_law_rates" P__law_rates (Ct K W_lrates))
    (c__law_pairs : Cal P w K mg base 11 "_law_pairs" P__law_pairs (Ct K W_lpairs2))
    (c_even_plan : CalX P w K mg base 11 "even_plan" P_even_plan (CtP K (W_eplan C_InvalidPairs C_Undefined)))
    (c__law_is_even_plan : Cal P w K mg base 11 "_law_is_even_plan" P__law_is_even_plan (Ct K W_liseven))
    (c__law_no_pairs : Cal P w K mg base 11 "_law_no_pairs" P__law_no_pairs (Ct K W_nopairs))
    (c__law_refused : CalX P w K mg base 11 "_law_refused" P__law_refused (CtP K W_lref29))
    (cx_even_plan_0 : CalKwX P w K mg base 11 "even_plan" P_even_plan ["pairs", "rates"] [1, 0] (CtP K (W_eplan C_InvalidPairs C_Undefined))) :
    FnOk P w K mg base (L2.CX P w) (12) f fd P__law_asked (CtP K W_asked) := by
  refine ok_ctp F sc__law_asked (fun M ss P PX h => ?_) (fun cdv A outer s H E hr => ⟨_, (pss_cons (ps_set (i := 1) sc__law_asked.nd rfl (by first | exact Or.inl rfl | exact Or.inr rfl) (pe_op op_add pe_int (pe_callC c__law_take hr (by rfl) (pa_cons (pv 0) (pa_cons pe_int pa_nil)))))
      (pss_cons (ps_set (i := 2) sc__law_asked.nd rfl (by first | exact Or.inl rfl | exact Or.inr rfl) (pe_callC c__law_rates hr (by rfl) (pa_cons (pv 0) (pa_cons (pv 1) (pa_cons pe_bl pa_nil)))))
      (pss_cons (ps_set (i := 3) sc__law_asked.nd rfl (by first | exact Or.inl rfl | exact Or.inr rfl) (pe_callC c__law_pairs hr (by rfl) (pa_cons (pv 0) (pa_cons (pv 1) (pa_cons pe_int pa_nil)))))
      (pss_cons (ps_set (i := 4) sc__law_asked.nd rfl (by first | exact Or.inl rfl | exact Or.inr rfl) (pe_callC c__law_pairs hr (by rfl) (pa_cons (pv 0) (pa_cons (pv 1) (pa_cons pe_int pa_nil)))))
      (pss_cons (ps_for (passes_of rfl) rfl (pi_seqK K (pe_lst (pa_cons (pv 3) (pa_cons (pe_op (op_catAK K) (pv 3) (pv 4)) pa_nil)))) (pg_name (i := 5) sc__law_asked.nd rfl (by first | exact Or.inl rfl | exact Or.inr rfl))
        (pss_cons (ps_set (i := 6) sc__law_asked.nd rfl (by first | exact Or.inl rfl | exact Or.inr rfl) (pe_callW (fun cls d _ H => E cls d H) (takes_of rfl rfl rfl rfl) c_even_plan hr rfl (pa_cons (pv 2) (pa_cons (pv 5) pa_nil))))
      (pss_one (ps_if (PW.pt (pw_or (pt_not (pt_val (pe_callC c__law_is_even_plan hr (by rfl) (pa_cons (pv 6) (pa_cons (pv 2) (pa_cons (pv 5) pa_nil)))))) (pw_or1 (pt_cmpR (op_neDK K hr.units) (pe_callKwX cx_even_plan_0 hr (by rfl) (pk_cons (pv 5) (pk_cons (pv 2) pk_nil))) (pv 6) (nomark _)))))
        (pss_one (ps_ret pe_bl))
        pss_nil))))
      (pss_cons (ps_set (i := 7) sc__law_asked.nd rfl (by first | exact Or.inl rfl | exact Or.inr rfl) (pe_callC c__law_take hr (by rfl) (pa_cons (pv 0) (pa_cons (pv 1) pa_nil))))
      (pss_cons (ps_set (i := 8) sc__law_asked.nd rfl (by first | exact Or.inl rfl | exact Or.inr rfl) (pe_op (op_catAK K) (pe_op (op_catAK K) (pe_slice (sl_tupAK K) (pv 2) po_none (po_some (pv 7))) (pe_tup (pa_cons (pe_op op_sub (pe_ix (ix_seqK K) (pv 2) (pv 7) (fun _ _ => rfl)) pe_int) pa_nil))) (pe_slice (sl_tupAK K) (pv 2) (po_some (pe_op op_add (pv 7) pe_int)) po_none)))
      (pss_cons (ps_set (i := 9) sc__law_asked.nd rfl (by first | exact Or.inl rfl | exact Or.inr rfl) (pe_callC c__law_no_pairs hr (by rfl) (pa_cons (pv 0) (pa_cons (pv 1) (pa_cons (pv 3) pa_nil)))))
      (pss_cons (ps_if (pt_cmpR op_ne (pe_callW (fun cls d _ H => E cls d H) (takes_of rfl rfl rfl rfl) c__law_refused hr rfl (pa_cons (pv 8) (pa_cons (pe_ix (ix_seqK K) (pe_lst (pa_cons (pv 3) (pa_cons (pv 9) pa_nil))) (pe_callC c__law_take hr (by rfl) (pa_cons (pv 0) (pa_cons pe_int pa_nil))) (fun _ _ => rfl)) pa_nil))) pe_str (nomark _))
        (pss_one (ps_ret pe_bl))
        pss_nil)
      (pss_one (ps_ret (pe_cmpR op_eq (pe_callW (fun cls d _ H => E cls d H) (takes_of rfl rfl rfl rfl) c__law_refused hr rfl (pa_cons (pv 2) (pa_cons (pv 9) pa_nil))) pe_str (nomark _))))))))))))), fun J M ss P PX h => ?_⟩)
  · obtain ⟨rfl, _⟩ := h
    rfl
  · obtain ⟨rfl, rfl, hP⟩ := h
    show SvM K J Mn [.hnd, .no, .no, .no, .no, .no, .no, .no, .no, .no] _ _
    walk_at "M"
    walk_at "M"
    repeat walk_at "E"
    refine ⟨7, rfl, by decide, fun x hx0 hx => ?_⟩
    obtain ⟨n, hn, hn2, hn8⟩ : ∃ n : Nat, 2 + x = (n : Int) ∧ 2 ≤ n ∧ n ≤ 8 := ⟨(2 + x).toNat, by omega, by omega, by omega⟩
    repeat walk_at "E"
    rw [hn]
    walk_at "M"
    walk_at "M"
    repeat walk_at "E"
    refine ⟨n, true, rfl, by omega, fun rs hrl hrr hre => ?_⟩
    have hre := hre rfl
    have hr' : ∀ r ∈ rs, 0 < r ∧ r ≤ 1000 := fun r h => by have := hrr r h; omega
    walk_at "M"
    walk_at "M"
    repeat walk_at "E"
    refine ⟨n, 24, rfl, by omega, by omega, by omega, fun ps hok hpl => ?_⟩
    walk_at "M"
    walk_at "M"
    repeat walk_at "E"
    refine ⟨n, 12, rfl, by omega, by omega, by omega, fun qs hokq hql => ?_⟩
    show SvM K J Mn [.hnd, .d (.int (n : Int)), .d (lotD rs), .d (.tup (pairsD ps)), .d (.tup (pairsD qs)), .no, .no, .no, .no, .no] _ _
    have hfine : ∀ (us : List (Nat × Nat)) (R : Dt → Mm → Prop) (RX : Addr → List (Str × Dt) → Mm → Prop), OkP n us → us.length ≤ 200 → (EvenOk rs us (eplanN rs us) → R (lotD (eplanN rs us)) Mn) → W_eplan C_InvalidPairs C_Undefined Mn [.d (lotD rs), .d (.tup (pairsD us))] R RX := fun us R RX hu hul h =>
      ⟨rs, _, rfl, by omega, by omega, hr', pur_pairs us (by omega), fun ds e => (by cases e; rw [pairsD_len]; omega), fun z => (by rw [even_not hre] at z; cases z), fun _ => ⟨fun z => (by rw [hrl, pairsB_to hu] at z; cases z), fun ps' e _ => by
        have e := pairsD_inj2 (Dt.tup.inj e)
        subst e
        exact h⟩⟩
    refine sm_seq (sm_for [5] (eim_seq (evm fun MV => ev_lst (ed_cons (ev_var rfl (ed_cons (ev_op (ev_var rfl (ev_var rfl (o2_cat (by rw [pairsD_len, pairsD_len]; omega) (ed_nil ⟨Nat.le_of_ble_eq_true rfl, ?_⟩)))))))))))
    rw [← pairsD_app]
    have hoks : OkP n (ps ++ qs) := okP_app hok hokq
    refine ⟨_, .inl rfl, fun k M' e => ∃ s5 s6, e = [.hnd, .d (.int (n : Int)), .d (lotD rs), .d (.tup (pairsD ps)), .d (.tup (pairsD qs)), s5, s6, .no, .no, .no] ∧ M' = Mn, ⟨_, _, rfl, rfl⟩, ?_, ?_⟩
    · rintro k d M' e hd ⟨s5, s6, rfl, rfl⟩
      obtain ⟨us, rfl, hu, hul⟩ : ∃ us, d = .tup (pairsD us) ∧ OkP n us ∧ us.length ≤ 150 := by
        have := List.mem_of_getElem? hd
        simp only [List.mem_cons, List.not_mem_nil, or_false] at this
        rcases this with rfl | rfl
        · exact ⟨ps, rfl, hok, by omega⟩
        · exact ⟨_, rfl, hoks, by rw [List.length_append]; omega⟩
      refine ⟨ag0, fun MV => gt_name (by decide) ?_⟩
      refine sm_seq (sm_asg (evm_call (eam fun MV => ea_cons (ev_var rfl (ea_cons (ev_var rfl (ea_nil (hfine us _ _ hu (by omega) fun heo => ?_))))))))
      show SvM K J Mn [.hnd, .d (.int (n : Int)), .d (lotD rs), .d (.tup (pairsD ps)), .d (.tup (pairsD qs)), .d (.tup (pairsD us)), .d (lotD (eplanN rs us)), .no, .no, .no] _ _
      have hel := heo.len
      refine sm_if ?_
      repeat walk_at "T"
      refine evm fun MV => ev_call (ea_cons (ev_var rfl (ea_cons (ev_var rfl (ea_cons (ev_var rfl (ea_nil ⟨rs, _, us, rfl, by omega, by omega, hr', by omega, by rw [hrl]; exact hu, heo, _, rfl, fun z => (nomatch z), fun _ => ?_⟩)))))))
      refine etm_test (evm_op (evm_callKw0 (eam fun MV => ?_)))
      repeat walk_at "E"
      refine hfine us _ _ hu (by omega) fun _ => ?_
      refine evm fun MV => ev_var rfl fun MV => o2_neDD (shaped_nats (by omega)) (shaped_nats (by omega)) ⟨_, rfl, fun z => ?_, fun _ => sm_next ⟨_, _, rfl, rfl⟩⟩
      rw [eqDD_refl (flat_lotT (by omega))] at z
      cases z
    · rintro M' e ⟨s5, s6, rfl, rfl⟩
      refine ⟨ag0, ?_⟩
      walk_at "M"
      walk_at "M"
      repeat walk_at "E"
      refine ⟨n, rfl, by omega, fun x hx0 hx => ?_⟩
      obtain ⟨a, rfl⟩ : ∃ a : Nat, x = (a : Int) := ⟨x.toNat, by omega⟩
      have han : a < rs.length := by omega
      obtain ⟨o1, o2, o3⟩ := odd_set han hre hr'
      have hga : (natsD rs)[a]? = some (.int (rs.getD a 0 : Nat)) := by
        unfold natsD
        rw [List.getElem?_map, List.getD_eq_getElem?_getD, List.getElem?_eq_getElem han]; rfl
      have hgp := (getD_pos hr' han).1
      walk_at "M"
      walk_at "M"
      repeat walk_at "E"
      rw [cut_to]
      refine o2_ixT (atD_nat hga) ?_
      repeat walk_at "E"
      refine o2_cat (by rw [List.length_take, natsD_length]; simp; omega) ?_
      repeat walk_at "E"
      rw [show ((a : Int) + 1) = ((a + 1 : Nat) : Int) from rfl, cut_from]
      refine o2_cat (by rw [List.length_append, List.length_take, List.length_drop, natsD_length]; simp; omega) ?_
      have eo : Dt.tup ((natsD rs).take a ++ [Dt.int (((rs.getD a 0 : Nat) : Int) - 1)] ++ (natsD rs).drop (a + 1)) = lotD (rs.take a ++ [rs.getD a 0 - 1] ++ rs.drop (a + 1)) := by
        unfold lotD natsD
        rw [List.map_append, List.map_append, List.map_take, List.map_drop, show (((rs.getD a 0 : Nat) : Int) - 1) = ((rs.getD a 0 - 1 : Nat) : Int) by omega]
        rfl
      rw [eo]
      generalize rs.take a ++ [rs.getD a 0 - 1] ++ rs.drop (a + 1) = od at o1 o2 o3 ⊢
      walk_at "M"
      walk_at "M"
      repeat walk_at "E"
      refine ⟨n, ps, rfl, by omega, by omega, fun bad fbad hbad hbl hbt => ?_⟩
      show SvM K J Mn [.hnd, .d (.int (n : Int)), .d (lotD rs), .d (.tup (pairsD ps)), .d (.tup (pairsD qs)), s5, s6, .d (.int (a : Int)), .d (lotD od), .d bad] _ _
      refine sm_seq (sm_if ?_)
      repeat walk_at "T"
      refine evm_op (evm_call (eam fun MV => ?_))
      repeat walk_at "E"
      refine ⟨2, rfl, by decide, fun y hy0 hy => ?_⟩
      refine o2_pickP (fun d => Flat 7 d ∧ txtD d = true ∧ ∀ ds, d = .tup ds → ds.length ≤ 1000) ?_ hy0 (by simpa using hy) fun d hd => ?_
      · intro y hy
        simp only [List.mem_cons, List.not_mem_nil, or_false] at hy
        rcases hy with rfl | rfl
        · refine ⟨flat_pairs (n := 5) ps (by omega), ?_, fun ds e => by cases e; rw [pairsD_len]; omega⟩
          rw [txt_tup]
          refine txtDs_iff.mpr fun d hd => ?_
          obtain ⟨q, hq, rfl⟩ := List.mem_map.mp hd
          simp [pairD, txtD, txtDs]
        · exact ⟨fbad, hbt, hbl⟩
      refine ea_nil ⟨od, d, rfl, by omega, by omega, o3, hd.1, hd.2.1, hd.2.2, fun _ => ?_, fun z => (by rw [o1] at z; cases z)⟩
      refine evm fun MV => ev_str fun MV => ne_sameE ⟨_, rfl, fun z => (nomatch z), fun _ => sm_next ?_⟩
      refine sm_ret (evm_op (evm_call (eam fun MV => ?_)))
      repeat walk_at "E"
      refine ⟨rs, bad, rfl, by omega, by omega, hr', fbad, hbt, hbl, fun z => (by rw [even_not hre] at z; cases z), fun _ => ⟨by rw [hrl]; exact hbad, ?_⟩⟩
      refine evm fun MV => ev_str fun MV => o2_eqS ?_
      exact less_refl hP
theorem ok_law {P : Program} {w : World} {K : PySem.W.Frag} {mg : Str → Option Value} {base : Heap} {f : Addr} {fd : FuncData} (F : L2.Fun K "law" "law" s_law f fd)
    {M0 : Addr}
    {C_InvalidPairs fI_InvalidPairs : Addr} {fd_InvalidPairs : FuncData} (e_InvalidPairs : Exk P w K mg base "InvalidPairs" ["self", "value"] ["value"] C_InvalidPairs fI_InvalidPairs fd_InvalidPairs)
    {C_TooMany fI_TooMany : Addr} {fd_TooMany : FuncData} (e_TooMany : Exk P w K mg base "TooMany" ["self", "what"] ["what"] C_TooMany fI_TooMany fd_TooMany)
    {C_Undefined fI_Undefined : Addr} {fd_Undefined : FuncData} (e_Undefined : Exk P w K mg base "Undefined" ["self", "what"] ["what"] C_Undefined fI_Undefined fd_Undefined)
    {C_Table : Addr} (i_Table : Ins K C_Table ["lines", "most", "taken", "plan"])
    (c__law_asked : CalX P w K mg base 13 "_law_asked" P__law_asked (CtP K W_asked))
    (c__law_hand : Cal P w K mg base 13 "_law_hand" P__law_hand (CtM K W_hand))
    (g_MoveError : mg "MoveError" = some (.ref M0)) :
    FnOk P w K mg base CX0 (14) f fd P_law (spLaw K) := by
  refine ok_lw2 (W_hand := W_hand) (c := .ref M0) (ts := (fun _ _ _ => tRet (tC (.bl false)))) (ta := (tCons (tVar 0) (tCons (tC (.int 4)) (tCons (tC (.int 60)) tNil)))) F sc_law (fun ns hns => ?_) (fun cdv A outer s H E hr => (pss_one (ps_try_only (c := .ref M0) (ts := (fun _ _ _ => tRet (tC (.bl false)))) (tb := fun W => tRet (tCallS (CtP K W_asked) (WE W) (tCons (tCall (CtM K W_hand) [] E0 (tCons (tVar 0) (tCons (tC (.int 4)) (tCons (tC (.int 60)) tNil)))) tNil))) rfl rfl ⟨rfl, by decide, Or.inl g_MoveError⟩ takes0 (fun W pn xe tk po => (pss_one (ps_ret (pe_callW W tk c__law_asked hr rfl (pa_cons (pe_callC c__law_hand hr (by rfl) (pa_cons (pv 0) (pa_cons pe_int (pa_cons pe_int pa_nil)))) pa_nil)))))
      (fun a oe cls d pn hz hf => (pss_one (ps_ret pe_bl))))))
  refine ea_cons (ev_var rfl (ea_cons (ev_int (ea_cons (ev_int (ea_nil ⟨ns, 4, 60, rfl, by decide, by decide, by decide, fun rs hr => ⟨rs, rfl, by omega⟩⟩))))))
theorem all_mk {l : PySem.W.OpenLaw} {w : World} {K : PySem.W.Frag} {h : Heap} {mg : Str → Option Value} {fa C_InvalidPairs f_InvalidPairs__init__ C_TooMany f_TooMany__init__ C_Undefined f_Undefined__init__ C_Table f_Table__init__ f_is_integer f_is_within f_check_pairs f_rounded_up f__law_cell f__law_draws f__law_hand f__law_take f_walk f_halved f_Table_place_in f_Table_free_round f_Table_exchange f_Table_put f_rounds_needed f_parted f_table_plan f_has_odd f_even_plan f__law_is_number f__law_rates f__law_pairs f__law_loads f__law_no_pairs f__law_up f__law_busiest f__law_length f__law_excess f__law_is_row f__law_is_plan f__law_is_even_plan f__law_refused f__law_asked f_law M0 : Addr} (X : K.In h) (G : h.Ns mainGlobals mg) (hfa : mg "law" = some (.ref fa))
    {od_InvalidPairs__init__ an_InvalidPairs__init__ od_TooMany__init__ an_TooMany__init__ od_Undefined__init__ an_Undefined__init__ od_Table__init__ an_Table__init__ od_is_integer an_is_integer od_is_within an_is_within od_check_pairs an_check_pairs od_rounded_up an_rounded_up od__law_cell an__law_cell od__law_draws an__law_draws od__law_hand an__law_hand od__law_take an__law_take od_walk an_walk od_halved an_halved od_Table_place_in an_Table_place_in od_Table_free_round an_Table_free_round od_Table_exchange an_Table_exchange od_Table_put an_Table_put od_rounds_needed an_rounds_needed od_parted an_parted od_table_plan an_table_plan od_has_odd an_has_odd od_even_plan an_even_plan od__law_is_number an__law_is_number od__law_rates an__law_rates od__law_pairs an__law_pairs od__law_loads an__law_loads od__law_no_pairs an__law_no_pairs od__law_up an__law_up od__law_busiest an__law_busiest od__law_length an__law_length od__law_excess an__law_excess od__law_is_row an__law_is_row od__law_is_plan an__law_is_plan od__law_is_even_plan an__law_is_even_plan od__law_refused an__law_refused od__law_asked an__law_asked od_law an_law : Option Addr} {sl_InvalidPairs__init__ sl_TooMany__init__ sl_Undefined__init__ sl_Table__init__ sl_is_integer sl_is_within sl_check_pairs sl_rounded_up sl__law_cell sl__law_draws sl__law_hand sl__law_take sl_walk sl_halved sl_Table_place_in sl_Table_free_round sl_Table_exchange sl_Table_put sl_rounds_needed sl_parted sl_table_plan sl_has_odd sl_even_plan sl__law_is_number sl__law_rates sl__law_pairs sl__law_loads sl__law_no_pairs sl__law_up sl__law_busiest sl__law_length sl__law_excess sl__law_is_row sl__law_is_plan sl__law_is_even_plan sl__law_refused sl__law_asked sl_law : Array (Option Value)} {oc_InvalidPairs__init__ kV_InvalidPairs__init__ dc_InvalidPairs__init__ pm_InvalidPairs__init__ cd_InvalidPairs__init__ ct_InvalidPairs__init__ oc_TooMany__init__ kV_TooMany__init__ dc_TooMany__init__ pm_TooMany__init__ cd_TooMany__init__ ct_TooMany__init__ oc_Undefined__init__ kV_Undefined__init__ dc_Undefined__init__ pm_Undefined__init__ cd_Undefined__init__ ct_Undefined__init__ oc_Table__init__ kV_Table__init__ dc_Table__init__ pm_Table__init__ cd_Table__init__ ct_Table__init__ oc_is_integer kV_is_integer dc_is_integer pm_is_integer cd_is_integer ct_is_integer oc_is_within kV_is_within dc_is_within pm_is_within cd_is_within ct_is_within oc_check_pairs kV_check_pairs dc_check_pairs pm_check_pairs cd_check_pairs ct_check_pairs oc_rounded_up kV_rounded_up dc_rounded_up pm_rounded_up cd_rounded_up ct_rounded_up oc__law_cell kV__law_cell dc__law_cell pm__law_cell cd__law_cell ct__law_cell oc__law_draws kV__law_draws dc__law_draws pm__law_draws cd__law_draws ct__law_draws oc__law_hand kV__law_hand dc__law_hand pm__law_hand cd__law_hand ct__law_hand oc__law_take kV__law_take dc__law_take pm__law_take cd__law_take ct__law_take oc_walk kV_walk dc_walk pm_walk cd_walk ct_walk oc_halved kV_halved dc_halved pm_halved cd_halved ct_halved oc_Table_place_in kV_Table_place_in dc_Table_place_in pm_Table_place_in cd_Table_place_in ct_Table_place_in oc_Table_free_round kV_Table_free_round dc_Table_free_round pm_Table_free_round cd_Table_free_round ct_Table_free_round oc_Table_exchange kV_Table_exchange dc_Table_exchange pm_Table_exchange cd_Table_exchange ct_Table_exchange oc_Table_put kV_Table_put dc_Table_put pm_Table_put cd_Table_put ct_Table_put oc_rounds_needed kV_rounds_needed dc_rounds_needed pm_rounds_needed cd_rounds_needed ct_rounds_needed oc_parted kV_parted dc_parted pm_parted cd_parted ct_parted oc_table_plan kV_table_plan dc_table_plan pm_table_plan cd_table_plan ct_table_plan oc_has_odd kV_has_odd dc_has_odd pm_has_odd cd_has_odd ct_has_odd oc_even_plan kV_even_plan dc_even_plan pm_even_plan cd_even_plan ct_even_plan oc__law_is_number kV__law_is_number dc__law_is_number pm__law_is_number cd__law_is_number ct__law_is_number oc__law_rates kV__law_rates dc__law_rates pm__law_rates cd__law_rates ct__law_rates oc__law_pairs kV__law_pairs dc__law_pairs pm__law_pairs cd__law_pairs ct__law_pairs oc__law_loads kV__law_loads dc__law_loads pm__law_loads cd__law_loads ct__law_loads oc__law_no_pairs kV__law_no_pairs dc__law_no_pairs pm__law_no_pairs cd__law_no_pairs ct__law_no_pairs oc__law_up kV__law_up dc__law_up pm__law_up cd__law_up ct__law_up oc__law_busiest kV__law_busiest dc__law_busiest pm__law_busiest cd__law_busiest ct__law_busiest oc__law_length kV__law_length dc__law_length pm__law_length cd__law_length ct__law_length oc__law_excess kV__law_excess dc__law_excess pm__law_excess cd__law_excess ct__law_excess oc__law_is_row kV__law_is_row dc__law_is_row pm__law_is_row cd__law_is_row ct__law_is_row oc__law_is_plan kV__law_is_plan dc__law_is_plan pm__law_is_plan cd__law_is_plan ct__law_is_plan oc__law_is_even_plan kV__law_is_even_plan dc__law_is_even_plan pm__law_is_even_plan cd__law_is_even_plan ct__law_is_even_plan oc__law_refused kV__law_refused dc__law_refused pm__law_refused cd__law_refused ct__law_refused oc__law_asked kV__law_asked dc__law_asked pm__law_asked cd__law_asked ct__law_asked oc_law kV_law dc_law pm_law cd_law ct_law : Value}
    {nm_InvalidPairs q_InvalidPairs : Str} {N_InvalidPairs : Addr} {bs_InvalidPairs : List Value} {sn_InvalidPairs : List Str} {sub_InvalidPairs : List Value} {ab_InvalidPairs : Bool} {col_InvalidPairs : Option Bool} {dd_InvalidPairs : Option Addr} {m0_InvalidPairs m1_InvalidPairs m2_InvalidPairs m3_InvalidPairs m5_InvalidPairs : Option Value}
    {nm_TooMany q_TooMany : Str} {N_TooMany : Addr} {bs_TooMany : List Value} {sn_TooMany : List Str} {sub_TooMany : List Value} {ab_TooMany : Bool} {col_TooMany : Option Bool} {dd_TooMany : Option Addr} {m0_TooMany m1_TooMany m2_TooMany m3_TooMany m5_TooMany : Option Value}
    {nm_Undefined q_Undefined : Str} {N_Undefined : Addr} {bs_Undefined : List Value} {sn_Undefined : List Str} {sub_Undefined : List Value} {ab_Undefined : Bool} {col_Undefined : Option Bool} {dd_Undefined : Option Addr} {m0_Undefined m1_Undefined m2_Undefined m3_Undefined m5_Undefined : Option Value}
    (a_InvalidPairs : PySem.W.nsIn K mainGlobals "InvalidPairs" = some (some (.ref C_InvalidPairs)))
    (xl_InvalidPairs : K.lookup C_InvalidPairs = some (excClassObj nm_InvalidPairs q_InvalidPairs C_InvalidPairs N_InvalidPairs bs_InvalidPairs [.ref M0, .type "ValueError", .type "Exception", .type "BaseException", .type "object"] true sn_InvalidPairs sub_InvalidPairs ab_InvalidPairs col_InvalidPairs dd_InvalidPairs m0_InvalidPairs m1_InvalidPairs m2_InvalidPairs m3_InvalidPairs m5_InvalidPairs "ValueError.__new__"))
    (sa_InvalidPairs : PySem.W.findIn K (.ref C_InvalidPairs) "__setattr__" = some (some (.builtin "object.__setattr__")))
    (ga_InvalidPairs : PySem.W.findIn K (.ref C_InvalidPairs) "__getattribute__" = some (some (.builtin "BaseException.__getattribute__")))
    (gg_InvalidPairs : PySem.W.findIn K (.ref C_InvalidPairs) "__getattr__" = some none)
    (nf_InvalidPairs_value : PySem.W.findIn K (.ref C_InvalidPairs) "value" = some none)
    (iC_InvalidPairs : PySem.W.findIn K (.ref C_InvalidPairs) "__init__" = some (some (.ref f_InvalidPairs__init__)))
    (tI_InvalidPairs : PySem.W.typeIn K (.ref f_InvalidPairs__init__) = some (.type "function"))
    (kC_InvalidPairs : PySem.W.keepIn K (.ref C_InvalidPairs) = true)
    (eC_InvalidPairs : PySem.W.subIn K (.ref C_InvalidPairs) (.type "BaseException") = some true)
    (tC_InvalidPairs : PySem.W.typeIn K (.ref C_InvalidPairs) = some (.type "type"))
    (hC_InvalidPairs : PySem.W.hasDictIn K C_InvalidPairs = true)
    (iK_InvalidPairs : PySem.W.isClsIn K C_InvalidPairs = true)
    (l_InvalidPairs__init__ : K.lookup f_InvalidPairs__init__ = some ⟨oc_InvalidPairs__init__, od_InvalidPairs__init__, .func (PySem.W.fnOf "__init__" "InvalidPairs.__init__" (defArgs s_InvalidPairs__init__) (defBody s_InvalidPairs__init__) (defScope s_InvalidPairs__init__) .none kV_InvalidPairs__init__ dc_InvalidPairs__init__ pm_InvalidPairs__init__ an_InvalidPairs__init__ cd_InvalidPairs__init__ ct_InvalidPairs__init__), sl_InvalidPairs__init__⟩)
    (d_InvalidPairs__init__ : PySem.W.codeIn K cd_InvalidPairs__init__ "InvalidPairs.__init__" = true)
    (k_InvalidPairs__init__ : PySem.W.keepIn K (.ref f_InvalidPairs__init__) = true)
    (a_TooMany : PySem.W.nsIn K mainGlobals "TooMany" = some (some (.ref C_TooMany)))
    (xl_TooMany : K.lookup C_TooMany = some (excClassObj nm_TooMany q_TooMany C_TooMany N_TooMany bs_TooMany [.ref M0, .type "ValueError", .type "Exception", .type "BaseException", .type "object"] true sn_TooMany sub_TooMany ab_TooMany col_TooMany dd_TooMany m0_TooMany m1_TooMany m2_TooMany m3_TooMany m5_TooMany "ValueError.__new__"))
    (sa_TooMany : PySem.W.findIn K (.ref C_TooMany) "__setattr__" = some (some (.builtin "object.__setattr__")))
    (ga_TooMany : PySem.W.findIn K (.ref C_TooMany) "__getattribute__" = some (some (.builtin "BaseException.__getattribute__")))
    (gg_TooMany : PySem.W.findIn K (.ref C_TooMany) "__getattr__" = some none)
    (nf_TooMany_what : PySem.W.findIn K (.ref C_TooMany) "what" = some none)
    (iC_TooMany : PySem.W.findIn K (.ref C_TooMany) "__init__" = some (some (.ref f_TooMany__init__)))
    (tI_TooMany : PySem.W.typeIn K (.ref f_TooMany__init__) = some (.type "function"))
    (kC_TooMany : PySem.W.keepIn K (.ref C_TooMany) = true)
    (eC_TooMany : PySem.W.subIn K (.ref C_TooMany) (.type "BaseException") = some true)
    (tC_TooMany : PySem.W.typeIn K (.ref C_TooMany) = some (.type "type"))
    (hC_TooMany : PySem.W.hasDictIn K C_TooMany = true)
    (iK_TooMany : PySem.W.isClsIn K C_TooMany = true)
    (l_TooMany__init__ : K.lookup f_TooMany__init__ = some ⟨oc_TooMany__init__, od_TooMany__init__, .func (PySem.W.fnOf "__init__" "TooMany.__init__" (defArgs s_TooMany__init__) (defBody s_TooMany__init__) (defScope s_TooMany__init__) .none kV_TooMany__init__ dc_TooMany__init__ pm_TooMany__init__ an_TooMany__init__ cd_TooMany__init__ ct_TooMany__init__), sl_TooMany__init__⟩)
    (d_TooMany__init__ : PySem.W.codeIn K cd_TooMany__init__ "TooMany.__init__" = true)
    (k_TooMany__init__ : PySem.W.keepIn K (.ref f_TooMany__init__) = true)
    (a_Undefined : PySem.W.nsIn K mainGlobals "Undefined" = some (some (.ref C_Undefined)))
    (xl_Undefined : K.lookup C_Undefined = some (excClassObj nm_Undefined q_Undefined C_Undefined N_Undefined bs_Undefined [.ref M0, .type "ValueError", .type "Exception", .type "BaseException", .type "object"] true sn_Undefined sub_Undefined ab_Undefined col_Undefined dd_Undefined m0_Undefined m1_Undefined m2_Undefined m3_Undefined m5_Undefined "ValueError.__new__"))
    (sa_Undefined : PySem.W.findIn K (.ref C_Undefined) "__setattr__" = some (some (.builtin "object.__setattr__")))
    (ga_Undefined : PySem.W.findIn K (.ref C_Undefined) "__getattribute__" = some (some (.builtin "BaseException.__getattribute__")))
    (gg_Undefined : PySem.W.findIn K (.ref C_Undefined) "__getattr__" = some none)
    (nf_Undefined_what : PySem.W.findIn K (.ref C_Undefined) "what" = some none)
    (iC_Undefined : PySem.W.findIn K (.ref C_Undefined) "__init__" = some (some (.ref f_Undefined__init__)))
    (tI_Undefined : PySem.W.typeIn K (.ref f_Undefined__init__) = some (.type "function"))
    (kC_Undefined : PySem.W.keepIn K (.ref C_Undefined) = true)
    (eC_Undefined : PySem.W.subIn K (.ref C_Undefined) (.type "BaseException") = some true)
    (tC_Undefined : PySem.W.typeIn K (.ref C_Undefined) = some (.type "type"))
    (hC_Undefined : PySem.W.hasDictIn K C_Undefined = true)
    (iK_Undefined : PySem.W.isClsIn K C_Undefined = true)
    (l_Undefined__init__ : K.lookup f_Undefined__init__ = some ⟨oc_Undefined__init__, od_Undefined__init__, .func (PySem.W.fnOf "__init__" "Undefined.__init__" (defArgs s_Undefined__init__) (defBody s_Undefined__init__) (defScope s_Undefined__init__) .none kV_Undefined__init__ dc_Undefined__init__ pm_Undefined__init__ an_Undefined__init__ cd_Undefined__init__ ct_Undefined__init__), sl_Undefined__init__⟩)
    (d_Undefined__init__ : PySem.W.codeIn K cd_Undefined__init__ "Undefined.__init__" = true)
    (k_Undefined__init__ : PySem.W.keepIn K (.ref f_Undefined__init__) = true)
    (a_Table : PySem.W.nsIn K mainGlobals "Table" = some (some (.ref C_Table)))
    (iC_Table : PySem.W.findIn K (.ref C_Table) "__init__" = some (some (.ref f_Table__init__)))
    (fI_Table : PySem.W.isFn K (.ref f_Table__init__) = true)
    (pg_Table : PySem.W.plainGet K C_Table Str.empty = true)
    (hd_Table : PySem.W.hasDictIn K C_Table = true)
    (po_Table : PySem.W.plainOver K C_Table = true)
    (sa_Table : PySem.W.findIn K (.ref C_Table) "__setattr__" = some (some (.builtin "object.__setattr__")))
    (mk0_Table : PySem.W.makesIn K C_Table = true)
    (kC_Table : PySem.W.keepIn K (.ref C_Table) = true)
    (nf_Table_lines : PySem.W.findIn K (.ref C_Table) "lines" = some none)
    (nf_Table_most : PySem.W.findIn K (.ref C_Table) "most" = some none)
    (nf_Table_taken : PySem.W.findIn K (.ref C_Table) "taken" = some none)
    (nf_Table_plan : PySem.W.findIn K (.ref C_Table) "plan" = some none)
    (l_Table__init__ : K.lookup f_Table__init__ = some ⟨oc_Table__init__, od_Table__init__, .func (PySem.W.fnOf "__init__" "Table.__init__" (defArgs s_Table__init__) (defBody s_Table__init__) (defScope s_Table__init__) .none kV_Table__init__ dc_Table__init__ pm_Table__init__ an_Table__init__ cd_Table__init__ ct_Table__init__), sl_Table__init__⟩)
    (d_Table__init__ : PySem.W.codeIn K cd_Table__init__ "Table.__init__" = true)
    (k_Table__init__ : PySem.W.keepIn K (.ref f_Table__init__) = true)
    (a_is_integer : PySem.W.nsIn K mainGlobals "is_integer" = some (some (.ref f_is_integer)))
    (l_is_integer : K.lookup f_is_integer = some ⟨oc_is_integer, od_is_integer, .func (PySem.W.fnOf "is_integer" "is_integer" (defArgs s_is_integer) (defBody s_is_integer) (defScope s_is_integer) .none kV_is_integer dc_is_integer pm_is_integer an_is_integer cd_is_integer ct_is_integer), sl_is_integer⟩)
    (d_is_integer : PySem.W.codeIn K cd_is_integer "is_integer" = true)
    (k_is_integer : PySem.W.keepIn K (.ref f_is_integer) = true)
    (a_is_within : PySem.W.nsIn K mainGlobals "is_within" = some (some (.ref f_is_within)))
    (l_is_within : K.lookup f_is_within = some ⟨oc_is_within, od_is_within, .func (PySem.W.fnOf "is_within" "is_within" (defArgs s_is_within) (defBody s_is_within) (defScope s_is_within) .none kV_is_within dc_is_within pm_is_within an_is_within cd_is_within ct_is_within), sl_is_within⟩)
    (d_is_within : PySem.W.codeIn K cd_is_within "is_within" = true)
    (k_is_within : PySem.W.keepIn K (.ref f_is_within) = true)
    (a_check_pairs : PySem.W.nsIn K mainGlobals "check_pairs" = some (some (.ref f_check_pairs)))
    (l_check_pairs : K.lookup f_check_pairs = some ⟨oc_check_pairs, od_check_pairs, .func (PySem.W.fnOf "check_pairs" "check_pairs" (defArgs s_check_pairs) (defBody s_check_pairs) (defScope s_check_pairs) .none kV_check_pairs dc_check_pairs pm_check_pairs an_check_pairs cd_check_pairs ct_check_pairs), sl_check_pairs⟩)
    (d_check_pairs : PySem.W.codeIn K cd_check_pairs "check_pairs" = true)
    (k_check_pairs : PySem.W.keepIn K (.ref f_check_pairs) = true)
    (a_rounded_up : PySem.W.nsIn K mainGlobals "rounded_up" = some (some (.ref f_rounded_up)))
    (l_rounded_up : K.lookup f_rounded_up = some ⟨oc_rounded_up, od_rounded_up, .func (PySem.W.fnOf "rounded_up" "rounded_up" (defArgs s_rounded_up) (defBody s_rounded_up) (defScope s_rounded_up) .none kV_rounded_up dc_rounded_up pm_rounded_up an_rounded_up cd_rounded_up ct_rounded_up), sl_rounded_up⟩)
    (d_rounded_up : PySem.W.codeIn K cd_rounded_up "rounded_up" = true)
    (k_rounded_up : PySem.W.keepIn K (.ref f_rounded_up) = true)
    (a__law_cell : PySem.W.nsIn K mainGlobals "_law_cell" = some (some (.ref f__law_cell)))
    (l__law_cell : K.lookup f__law_cell = some ⟨oc__law_cell, od__law_cell, .func (PySem.W.fnOf "_law_cell" "_law_cell" (defArgs s__law_cell) (defBody s__law_cell) (defScope s__law_cell) .none kV__law_cell dc__law_cell pm__law_cell an__law_cell cd__law_cell ct__law_cell), sl__law_cell⟩)
    (d__law_cell : PySem.W.codeIn K cd__law_cell "_law_cell" = true)
    (k__law_cell : PySem.W.keepIn K (.ref f__law_cell) = true)
    (a__law_draws : PySem.W.nsIn K mainGlobals "_law_draws" = some (some (.ref f__law_draws)))
    (l__law_draws : K.lookup f__law_draws = some ⟨oc__law_draws, od__law_draws, .func (PySem.W.fnOf "_law_draws" "_law_draws" (defArgs s__law_draws) (defBody s__law_draws) (defScope s__law_draws) .none kV__law_draws dc__law_draws pm__law_draws an__law_draws cd__law_draws ct__law_draws), sl__law_draws⟩)
    (d__law_draws : PySem.W.codeIn K cd__law_draws "_law_draws" = true)
    (k__law_draws : PySem.W.keepIn K (.ref f__law_draws) = true)
    (a__law_hand : PySem.W.nsIn K mainGlobals "_law_hand" = some (some (.ref f__law_hand)))
    (l__law_hand : K.lookup f__law_hand = some ⟨oc__law_hand, od__law_hand, .func (PySem.W.fnOf "_law_hand" "_law_hand" (defArgs s__law_hand) (defBody s__law_hand) (defScope s__law_hand) .none kV__law_hand dc__law_hand pm__law_hand an__law_hand cd__law_hand ct__law_hand), sl__law_hand⟩)
    (d__law_hand : PySem.W.codeIn K cd__law_hand "_law_hand" = true)
    (k__law_hand : PySem.W.keepIn K (.ref f__law_hand) = true)
    (a__law_take : PySem.W.nsIn K mainGlobals "_law_take" = some (some (.ref f__law_take)))
    (l__law_take : K.lookup f__law_take = some ⟨oc__law_take, od__law_take, .func (PySem.W.fnOf "_law_take" "_law_take" (defArgs s__law_take) (defBody s__law_take) (defScope s__law_take) .none kV__law_take dc__law_take pm__law_take an__law_take cd__law_take ct__law_take), sl__law_take⟩)
    (d__law_take : PySem.W.codeIn K cd__law_take "_law_take" = true)
    (k__law_take : PySem.W.keepIn K (.ref f__law_take) = true)
    (a_walk : PySem.W.nsIn K mainGlobals "walk" = some (some (.ref f_walk)))
    (l_walk : K.lookup f_walk = some ⟨oc_walk, od_walk, .func (PySem.W.fnOf "walk" "walk" (defArgs s_walk) (defBody s_walk) (defScope s_walk) .none kV_walk dc_walk pm_walk an_walk cd_walk ct_walk), sl_walk⟩)
    (d_walk : PySem.W.codeIn K cd_walk "walk" = true)
    (k_walk : PySem.W.keepIn K (.ref f_walk) = true)
    (a_halved : PySem.W.nsIn K mainGlobals "halved" = some (some (.ref f_halved)))
    (l_halved : K.lookup f_halved = some ⟨oc_halved, od_halved, .func (PySem.W.fnOf "halved" "halved" (defArgs s_halved) (defBody s_halved) (defScope s_halved) .none kV_halved dc_halved pm_halved an_halved cd_halved ct_halved), sl_halved⟩)
    (d_halved : PySem.W.codeIn K cd_halved "halved" = true)
    (k_halved : PySem.W.keepIn K (.ref f_halved) = true)
    (mt_Table_place_in : PySem.W.findIn K (.ref C_Table) "place_in" = some (some (.ref f_Table_place_in)))
    (fn_Table_place_in : PySem.W.isFn K (.ref f_Table_place_in) = true)
    (l_Table_place_in : K.lookup f_Table_place_in = some ⟨oc_Table_place_in, od_Table_place_in, .func (PySem.W.fnOf "place_in" "Table.place_in" (defArgs s_Table_place_in) (defBody s_Table_place_in) (defScope s_Table_place_in) .none kV_Table_place_in dc_Table_place_in pm_Table_place_in an_Table_place_in cd_Table_place_in ct_Table_place_in), sl_Table_place_in⟩)
    (d_Table_place_in : PySem.W.codeIn K cd_Table_place_in "Table.place_in" = true)
    (k_Table_place_in : PySem.W.keepIn K (.ref f_Table_place_in) = true)
    (mt_Table_free_round : PySem.W.findIn K (.ref C_Table) "free_round" = some (some (.ref f_Table_free_round)))
    (fn_Table_free_round : PySem.W.isFn K (.ref f_Table_free_round) = true)
    (l_Table_free_round : K.lookup f_Table_free_round = some ⟨oc_Table_free_round, od_Table_free_round, .func (PySem.W.fnOf "free_round" "Table.free_round" (defArgs s_Table_free_round) (defBody s_Table_free_round) (defScope s_Table_free_round) .none kV_Table_free_round dc_Table_free_round pm_Table_free_round an_Table_free_round cd_Table_free_round ct_Table_free_round), sl_Table_free_round⟩)
    (d_Table_free_round : PySem.W.codeIn K cd_Table_free_round "Table.free_round" = true)
    (k_Table_free_round : PySem.W.keepIn K (.ref f_Table_free_round) = true)
    (mt_Table_exchange : PySem.W.findIn K (.ref C_Table) "exchange" = some (some (.ref f_Table_exchange)))
    (fn_Table_exchange : PySem.W.isFn K (.ref f_Table_exchange) = true)
    (l_Table_exchange : K.lookup f_Table_exchange = some ⟨oc_Table_exchange, od_Table_exchange, .func (PySem.W.fnOf "exchange" "Table.exchange" (defArgs s_Table_exchange) (defBody s_Table_exchange) (defScope s_Table_exchange) .none kV_Table_exchange dc_Table_exchange pm_Table_exchange an_Table_exchange cd_Table_exchange ct_Table_exchange), sl_Table_exchange⟩)
    (d_Table_exchange : PySem.W.codeIn K cd_Table_exchange "Table.exchange" = true)
    (k_Table_exchange : PySem.W.keepIn K (.ref f_Table_exchange) = true)
    (mt_Table_put : PySem.W.findIn K (.ref C_Table) "put" = some (some (.ref f_Table_put)))
    (fn_Table_put : PySem.W.isFn K (.ref f_Table_put) = true)
    (l_Table_put : K.lookup f_Table_put = some ⟨oc_Table_put, od_Table_put, .func (PySem.W.fnOf "put" "Table.put" (defArgs s_Table_put) (defBody s_Table_put) (defScope s_Table_put) .none kV_Table_put dc_Table_put pm_Table_put an_Table_put cd_Table_put ct_Table_put), sl_Table_put⟩)
    (d_Table_put : PySem.W.codeIn K cd_Table_put "Table.put" = true)
    (k_Table_put : PySem.W.keepIn K (.ref f_Table_put) = true)
    (a_rounds_needed : PySem.W.nsIn K mainGlobals "rounds_needed" = some (some (.ref f_rounds_needed)))
    (l_rounds_needed : K.lookup f_rounds_needed = some ⟨oc_rounds_needed, od_rounds_needed, .func (PySem.W.fnOf "rounds_needed" "rounds_needed" (defArgs s_rounds_needed) (defBody s_rounds_needed) (defScope s_rounds_needed) .none kV_rounds_needed dc_rounds_needed pm_rounds_needed an_rounds_needed cd_rounds_needed ct_rounds_needed), sl_rounds_needed⟩)
    (d_rounds_needed : PySem.W.codeIn K cd_rounds_needed "rounds_needed" = true)
    (k_rounds_needed : PySem.W.keepIn K (.ref f_rounds_needed) = true)
    (a_parted : PySem.W.nsIn K mainGlobals "parted" = some (some (.ref f_parted)))
    (l_parted : K.lookup f_parted = some ⟨oc_parted, od_parted, .func (PySem.W.fnOf "parted" "parted" (defArgs s_parted) (defBody s_parted) (defScope s_parted) .none kV_parted dc_parted pm_parted an_parted cd_parted ct_parted), sl_parted⟩)
    (d_parted : PySem.W.codeIn K cd_parted "parted" = true)
    (k_parted : PySem.W.keepIn K (.ref f_parted) = true)
    (a_table_plan : PySem.W.nsIn K mainGlobals "table_plan" = some (some (.ref f_table_plan)))
    (l_table_plan : K.lookup f_table_plan = some ⟨oc_table_plan, od_table_plan, .func (PySem.W.fnOf "table_plan" "table_plan" (defArgs s_table_plan) (defBody s_table_plan) (defScope s_table_plan) .none kV_table_plan dc_table_plan pm_table_plan an_table_plan cd_table_plan ct_table_plan), sl_table_plan⟩)
    (d_table_plan : PySem.W.codeIn K cd_table_plan "table_plan" = true)
    (k_table_plan : PySem.W.keepIn K (.ref f_table_plan) = true)
    (a_has_odd : PySem.W.nsIn K mainGlobals "has_odd" = some (some (.ref f_has_odd)))
    (l_has_odd : K.lookup f_has_odd = some ⟨oc_has_odd, od_has_odd, .func (PySem.W.fnOf "has_odd" "has_odd" (defArgs s_has_odd) (defBody s_has_odd) (defScope s_has_odd) .none kV_has_odd dc_has_odd pm_has_odd an_has_odd cd_has_odd ct_has_odd), sl_has_odd⟩)
    (d_has_odd : PySem.W.codeIn K cd_has_odd "has_odd" = true)
    (k_has_odd : PySem.W.keepIn K (.ref f_has_odd) = true)
    (a_even_plan : PySem.W.nsIn K mainGlobals "even_plan" = some (some (.ref f_even_plan)))
    (l_even_plan : K.lookup f_even_plan = some ⟨oc_even_plan, od_even_plan, .func (PySem.W.fnOf "even_plan" "even_plan" (defArgs s_even_plan) (defBody s_even_plan) (defScope s_even_plan) .none kV_even_plan dc_even_plan pm_even_plan an_even_plan cd_even_plan ct_even_plan), sl_even_plan⟩)
    (d_even_plan : PySem.W.codeIn K cd_even_plan "even_plan" = true)
    (k_even_plan : PySem.W.keepIn K (.ref f_even_plan) = true)
    (a__law_is_number : PySem.W.nsIn K mainGlobals "_law_is_number" = some (some (.ref f__law_is_number)))
    (l__law_is_number : K.lookup f__law_is_number = some ⟨oc__law_is_number, od__law_is_number, .func (PySem.W.fnOf "_law_is_number" "_law_is_number" (defArgs s__law_is_number) (defBody s__law_is_number) (defScope s__law_is_number) .none kV__law_is_number dc__law_is_number pm__law_is_number an__law_is_number cd__law_is_number ct__law_is_number), sl__law_is_number⟩)
    (d__law_is_number : PySem.W.codeIn K cd__law_is_number "_law_is_number" = true)
    (k__law_is_number : PySem.W.keepIn K (.ref f__law_is_number) = true)
    (a__law_rates : PySem.W.nsIn K mainGlobals "_law_rates" = some (some (.ref f__law_rates)))
    (l__law_rates : K.lookup f__law_rates = some ⟨oc__law_rates, od__law_rates, .func (PySem.W.fnOf "_law_rates" "_law_rates" (defArgs s__law_rates) (defBody s__law_rates) (defScope s__law_rates) .none kV__law_rates dc__law_rates pm__law_rates an__law_rates cd__law_rates ct__law_rates), sl__law_rates⟩)
    (d__law_rates : PySem.W.codeIn K cd__law_rates "_law_rates" = true)
    (k__law_rates : PySem.W.keepIn K (.ref f__law_rates) = true)
    (a__law_pairs : PySem.W.nsIn K mainGlobals "_law_pairs" = some (some (.ref f__law_pairs)))
    (l__law_pairs : K.lookup f__law_pairs = some ⟨oc__law_pairs, od__law_pairs, .func (PySem.W.fnOf "_law_pairs" "_law_pairs" (defArgs s__law_pairs) (defBody s__law_pairs) (defScope s__law_pairs) .none kV__law_pairs dc__law_pairs pm__law_pairs an__law_pairs cd__law_pairs ct__law_pairs), sl__law_pairs⟩)
    (d__law_pairs : PySem.W.codeIn K cd__law_pairs "_law_pairs" = true)
    (k__law_pairs : PySem.W.keepIn K (.ref f__law_pairs) = true)
    (a__law_loads : PySem.W.nsIn K mainGlobals "_law_loads" = some (some (.ref f__law_loads)))
    (l__law_loads : K.lookup f__law_loads = some ⟨oc__law_loads, od__law_loads, .func (PySem.W.fnOf "_law_loads" "_law_loads" (defArgs s__law_loads) (defBody s__law_loads) (defScope s__law_loads) .none kV__law_loads dc__law_loads pm__law_loads an__law_loads cd__law_loads ct__law_loads), sl__law_loads⟩)
    (d__law_loads : PySem.W.codeIn K cd__law_loads "_law_loads" = true)
    (k__law_loads : PySem.W.keepIn K (.ref f__law_loads) = true)
    (a__law_no_pairs : PySem.W.nsIn K mainGlobals "_law_no_pairs" = some (some (.ref f__law_no_pairs)))
    (l__law_no_pairs : K.lookup f__law_no_pairs = some ⟨oc__law_no_pairs, od__law_no_pairs, .func (PySem.W.fnOf "_law_no_pairs" "_law_no_pairs" (defArgs s__law_no_pairs) (defBody s__law_no_pairs) (defScope s__law_no_pairs) .none kV__law_no_pairs dc__law_no_pairs pm__law_no_pairs an__law_no_pairs cd__law_no_pairs ct__law_no_pairs), sl__law_no_pairs⟩)
    (d__law_no_pairs : PySem.W.codeIn K cd__law_no_pairs "_law_no_pairs" = true)
    (k__law_no_pairs : PySem.W.keepIn K (.ref f__law_no_pairs) = true)
    (a__law_up : PySem.W.nsIn K mainGlobals "_law_up" = some (some (.ref f__law_up)))
    (l__law_up : K.lookup f__law_up = some ⟨oc__law_up, od__law_up, .func (PySem.W.fnOf "_law_up" "_law_up" (defArgs s__law_up) (defBody s__law_up) (defScope s__law_up) .none kV__law_up dc__law_up pm__law_up an__law_up cd__law_up ct__law_up), sl__law_up⟩)
    (d__law_up : PySem.W.codeIn K cd__law_up "_law_up" = true)
    (k__law_up : PySem.W.keepIn K (.ref f__law_up) = true)
    (a__law_busiest : PySem.W.nsIn K mainGlobals "_law_busiest" = some (some (.ref f__law_busiest)))
    (l__law_busiest : K.lookup f__law_busiest = some ⟨oc__law_busiest, od__law_busiest, .func (PySem.W.fnOf "_law_busiest" "_law_busiest" (defArgs s__law_busiest) (defBody s__law_busiest) (defScope s__law_busiest) .none kV__law_busiest dc__law_busiest pm__law_busiest an__law_busiest cd__law_busiest ct__law_busiest), sl__law_busiest⟩)
    (d__law_busiest : PySem.W.codeIn K cd__law_busiest "_law_busiest" = true)
    (k__law_busiest : PySem.W.keepIn K (.ref f__law_busiest) = true)
    (a__law_length : PySem.W.nsIn K mainGlobals "_law_length" = some (some (.ref f__law_length)))
    (l__law_length : K.lookup f__law_length = some ⟨oc__law_length, od__law_length, .func (PySem.W.fnOf "_law_length" "_law_length" (defArgs s__law_length) (defBody s__law_length) (defScope s__law_length) .none kV__law_length dc__law_length pm__law_length an__law_length cd__law_length ct__law_length), sl__law_length⟩)
    (d__law_length : PySem.W.codeIn K cd__law_length "_law_length" = true)
    (k__law_length : PySem.W.keepIn K (.ref f__law_length) = true)
    (a__law_excess : PySem.W.nsIn K mainGlobals "_law_excess" = some (some (.ref f__law_excess)))
    (l__law_excess : K.lookup f__law_excess = some ⟨oc__law_excess, od__law_excess, .func (PySem.W.fnOf "_law_excess" "_law_excess" (defArgs s__law_excess) (defBody s__law_excess) (defScope s__law_excess) .none kV__law_excess dc__law_excess pm__law_excess an__law_excess cd__law_excess ct__law_excess), sl__law_excess⟩)
    (d__law_excess : PySem.W.codeIn K cd__law_excess "_law_excess" = true)
    (k__law_excess : PySem.W.keepIn K (.ref f__law_excess) = true)
    (a__law_is_row : PySem.W.nsIn K mainGlobals "_law_is_row" = some (some (.ref f__law_is_row)))
    (l__law_is_row : K.lookup f__law_is_row = some ⟨oc__law_is_row, od__law_is_row, .func (PySem.W.fnOf "_law_is_row" "_law_is_row" (defArgs s__law_is_row) (defBody s__law_is_row) (defScope s__law_is_row) .none kV__law_is_row dc__law_is_row pm__law_is_row an__law_is_row cd__law_is_row ct__law_is_row), sl__law_is_row⟩)
    (d__law_is_row : PySem.W.codeIn K cd__law_is_row "_law_is_row" = true)
    (k__law_is_row : PySem.W.keepIn K (.ref f__law_is_row) = true)
    (a__law_is_plan : PySem.W.nsIn K mainGlobals "_law_is_plan" = some (some (.ref f__law_is_plan)))
    (l__law_is_plan : K.lookup f__law_is_plan = some ⟨oc__law_is_plan, od__law_is_plan, .func (PySem.W.fnOf "_law_is_plan" "_law_is_plan" (defArgs s__law_is_plan) (defBody s__law_is_plan) (defScope s__law_is_plan) .none kV__law_is_plan dc__law_is_plan pm__law_is_plan an__law_is_plan cd__law_is_plan ct__law_is_plan), sl__law_is_plan⟩)
    (d__law_is_plan : PySem.W.codeIn K cd__law_is_plan "_law_is_plan" = true)
    (k__law_is_plan : PySem.W.keepIn K (.ref f__law_is_plan) = true)
    (a__law_is_even_plan : PySem.W.nsIn K mainGlobals "_law_is_even_plan" = some (some (.ref f__law_is_even_plan)))
    (l__law_is_even_plan : K.lookup f__law_is_even_plan = some ⟨oc__law_is_even_plan, od__law_is_even_plan, .func (PySem.W.fnOf "_law_is_even_plan" "_law_is_even_plan" (defArgs s__law_is_even_plan) (defBody s__law_is_even_plan) (defScope s__law_is_even_plan) .none kV__law_is_even_plan dc__law_is_even_plan pm__law_is_even_plan an__law_is_even_plan cd__law_is_even_plan ct__law_is_even_plan), sl__law_is_even_plan⟩)
    (d__law_is_even_plan : PySem.W.codeIn K cd__law_is_even_plan "_law_is_even_plan" = true)
    (k__law_is_even_plan : PySem.W.keepIn K (.ref f__law_is_even_plan) = true)
    (a__law_refused : PySem.W.nsIn K mainGlobals "_law_refused" = some (some (.ref f__law_refused)))
    (l__law_refused : K.lookup f__law_refused = some ⟨oc__law_refused, od__law_refused, .func (PySem.W.fnOf "_law_refused" "_law_refused" (defArgs s__law_refused) (defBody s__law_refused) (defScope s__law_refused) .none kV__law_refused dc__law_refused pm__law_refused an__law_refused cd__law_refused ct__law_refused), sl__law_refused⟩)
    (d__law_refused : PySem.W.codeIn K cd__law_refused "_law_refused" = true)
    (k__law_refused : PySem.W.keepIn K (.ref f__law_refused) = true)
    (a__law_asked : PySem.W.nsIn K mainGlobals "_law_asked" = some (some (.ref f__law_asked)))
    (l__law_asked : K.lookup f__law_asked = some ⟨oc__law_asked, od__law_asked, .func (PySem.W.fnOf "_law_asked" "_law_asked" (defArgs s__law_asked) (defBody s__law_asked) (defScope s__law_asked) .none kV__law_asked dc__law_asked pm__law_asked an__law_asked cd__law_asked ct__law_asked), sl__law_asked⟩)
    (d__law_asked : PySem.W.codeIn K cd__law_asked "_law_asked" = true)
    (k__law_asked : PySem.W.keepIn K (.ref f__law_asked) = true)
    (a_law : PySem.W.nsIn K mainGlobals "law" = some (some (.ref f_law)))
    (l_law : K.lookup f_law = some ⟨oc_law, od_law, .func (PySem.W.fnOf "law" "law" (defArgs s_law) (defBody s_law) (defScope s_law) .none kV_law dc_law pm_law an_law cd_law ct_law), sl_law⟩)
    (d_law : PySem.W.codeIn K cd_law "law" = true)
    (k_law : PySem.W.keepIn K (.ref f_law) = true)
    (a_MoveError : PySem.W.nsIn K mainGlobals "MoveError" = some (some (.ref M0)))
    (hn_cl : PySem.W.specialIn K (.builtin "object.__class__") "__get__" = some (some (.builtin "getset_descriptor.__get__")))
    (ht_cl : PySem.W.takesIn K (.builtin "object.__class__") = some true)
    (hcl_Undefined : PySem.W.findIn K (.ref C_Undefined) "__class__" = some (some (.builtin "object.__class__")))
    (hmo_Undefined : PySem.W.mroIn K C_Undefined (.type "object") = some true)
    (s_Undefined_Undefined : PySem.W.subIn K (.ref C_Undefined) (.ref C_Undefined) = some true)
    (s_InvalidPairs_Undefined : PySem.W.subIn K (.ref C_InvalidPairs) (.ref C_Undefined) = some false)
    (s_InvalidPairs_InvalidPairs : PySem.W.subIn K (.ref C_InvalidPairs) (.ref C_InvalidPairs) = some true)
    (s_Undefined_TooMany : PySem.W.subIn K (.ref C_Undefined) (.ref C_TooMany) = some false)
    (z_isinstance : PySem.W.nsIn K mainGlobals "isinstance" = some none)
    (z_bool : PySem.W.nsIn K mainGlobals "bool" = some none)
    (z_int : PySem.W.nsIn K mainGlobals "int" = some none)
    (z_tuple : PySem.W.nsIn K mainGlobals "tuple" = some none)
    (z_all : PySem.W.nsIn K mainGlobals "all" = some none)
    (z_len : PySem.W.nsIn K mainGlobals "len" = some none)
    (z_abs : PySem.W.nsIn K mainGlobals "abs" = some none)
    (z_range : PySem.W.nsIn K mainGlobals "range" = some none)
    (z_enumerate : PySem.W.nsIn K mainGlobals "enumerate" = some none)
    (z_list : PySem.W.nsIn K mainGlobals "list" = some none)
    (z_min : PySem.W.nsIn K mainGlobals "min" = some none)
    (z_zip : PySem.W.nsIn K mainGlobals "zip" = some none)
    (z_max : PySem.W.nsIn K mainGlobals "max" = some none)
    (z_any : PySem.W.nsIn K mainGlobals "any" = some none)
    (z_sorted : PySem.W.nsIn K mainGlobals "sorted" = some none)
    (z_str : PySem.W.nsIn K mainGlobals "str" = some none)
    : ∃ fd : FuncData, (∀ (s : Shared) (v : Value), BindsTo s fd ⟨[v], []⟩ [("script", v)]) ∧ ∀ base : Heap, K.In base → base.Ns mainGlobals mg → FnOk l.prog w K mg base CX0 14 fa fd ["script"] (spLaw K) := by
  have e := hfa.symm.trans (PySem.W.mg_of X G a_law)
  cases e
  have m_isinstance := PySem.W.mg_none_of X G z_isinstance
  have m_bool := PySem.W.mg_none_of X G z_bool
  have m_int := PySem.W.mg_none_of X G z_int
  have m_tuple := PySem.W.mg_none_of X G z_tuple
  have m_all := PySem.W.mg_none_of X G z_all
  have m_len := PySem.W.mg_none_of X G z_len
  have m_abs := PySem.W.mg_none_of X G z_abs
  have m_range := PySem.W.mg_none_of X G z_range
  have m_enumerate := PySem.W.mg_none_of X G z_enumerate
  have m_list := PySem.W.mg_none_of X G z_list
  have m_min := PySem.W.mg_none_of X G z_min
  have m_zip := PySem.W.mg_none_of X G z_zip
  have m_max := PySem.W.mg_none_of X G z_max
  have m_any := PySem.W.mg_none_of X G z_any
  have m_sorted := PySem.W.mg_none_of X G z_sorted
  have m_str := PySem.W.mg_none_of X G z_str
  have F_InvalidPairs__init__ := fun_mk (st := s_InvalidPairs__init__) l_InvalidPairs__init__ d_InvalidPairs__init__ k_InvalidPairs__init__
  have b_InvalidPairs__init__ := F_InvalidPairs__init__.binds (ps := ["self", "value"]) fun _ _ _ _ _ _ us hl => match us, hl with | [_, _], _ => rfl
  have nfs_InvalidPairs : ∀ f ∈ (["value"] : List Str), PySem.W.findIn K (.ref C_InvalidPairs) f = some none := by
    intro f hf
    simp only [List.mem_cons, List.not_mem_nil, or_false] at hf
    subst hf
    · exact nf_InvalidPairs_value
  have e_InvalidPairs : ∀ base : Heap, Exk l.prog w K mg base "InvalidPairs" ["self", "value"] ["value"] C_InvalidPairs f_InvalidPairs__init__ _ := fun base => { ex := ⟨⟨_, _, _, _, _, _, _, _, _, _, _, _, _, _, _, xl_InvalidPairs, by first | rfl | decide +kernel⟩, sa_InvalidPairs, eC_InvalidPairs, tC_InvalidPairs, kC_InvalidPairs⟩, xf := ⟨ga_InvalidPairs, gg_InvalidPairs, eC_InvalidPairs, hC_InvalidPairs⟩, g := PySem.W.mg_of X G a_InvalidPairs, nf := nfs_InvalidPairs, iC := iC_InvalidPairs, tI := tI_InvalidPairs, fn := ok_init1 F_InvalidPairs__init__ sc_InvalidPairs__init__ rfl (fun _ _ _ _ _ _ => pss_one (ps_ost (pv 0) (pv 1))), b := b_InvalidPairs__init__, iK := iK_InvalidPairs }
  have F_TooMany__init__ := fun_mk (st := s_TooMany__init__) l_TooMany__init__ d_TooMany__init__ k_TooMany__init__
  have b_TooMany__init__ := F_TooMany__init__.binds (ps := ["self", "what"]) fun _ _ _ _ _ _ us hl => match us, hl with | [_, _], _ => rfl
  have nfs_TooMany : ∀ f ∈ (["what"] : List Str), PySem.W.findIn K (.ref C_TooMany) f = some none := by
    intro f hf
    simp only [List.mem_cons, List.not_mem_nil, or_false] at hf
    subst hf
    · exact nf_TooMany_what
  have e_TooMany : ∀ base : Heap, Exk l.prog w K mg base "TooMany" ["self", "what"] ["what"] C_TooMany f_TooMany__init__ _ := fun base => { ex := ⟨⟨_, _, _, _, _, _, _, _, _, _, _, _, _, _, _, xl_TooMany, by first | rfl | decide +kernel⟩, sa_TooMany, eC_TooMany, tC_TooMany, kC_TooMany⟩, xf := ⟨ga_TooMany, gg_TooMany, eC_TooMany, hC_TooMany⟩, g := PySem.W.mg_of X G a_TooMany, nf := nfs_TooMany, iC := iC_TooMany, tI := tI_TooMany, fn := ok_init1 F_TooMany__init__ sc_TooMany__init__ rfl (fun _ _ _ _ _ _ => pss_one (ps_ost (pv 0) (pv 1))), b := b_TooMany__init__, iK := iK_TooMany }
  have F_Undefined__init__ := fun_mk (st := s_Undefined__init__) l_Undefined__init__ d_Undefined__init__ k_Undefined__init__
  have b_Undefined__init__ := F_Undefined__init__.binds (ps := ["self", "what"]) fun _ _ _ _ _ _ us hl => match us, hl with | [_, _], _ => rfl
  have nfs_Undefined : ∀ f ∈ (["what"] : List Str), PySem.W.findIn K (.ref C_Undefined) f = some none := by
    intro f hf
    simp only [List.mem_cons, List.not_mem_nil, or_false] at hf
    subst hf
    · exact nf_Undefined_what
  have e_Undefined : ∀ base : Heap, Exk l.prog w K mg base "Undefined" ["self", "what"] ["what"] C_Undefined f_Undefined__init__ _ := fun base => { ex := ⟨⟨_, _, _, _, _, _, _, _, _, _, _, _, _, _, _, xl_Undefined, by first | rfl | decide +kernel⟩, sa_Undefined, eC_Undefined, tC_Undefined, kC_Undefined⟩, xf := ⟨ga_Undefined, gg_Undefined, eC_Undefined, hC_Undefined⟩, g := PySem.W.mg_of X G a_Undefined, nf := nfs_Undefined, iC := iC_Undefined, tI := tI_Undefined, fn := ok_init1 F_Undefined__init__ sc_Undefined__init__ rfl (fun _ _ _ _ _ _ => pss_one (ps_ost (pv 0) (pv 1))), b := b_Undefined__init__, iK := iK_Undefined }
  have xc_Undefined : ExcC K C_Undefined := ⟨ga_Undefined, gg_Undefined, eC_Undefined, hC_Undefined, hcl_Undefined, hn_cl, ht_cl, hmo_Undefined⟩
  have xk_Undefined_TooMany := kit_sub iK_TooMany tC_TooMany s_Undefined_TooMany s_Undefined_Undefined
  have x_Undefined_Undefined := exm_of eC_Undefined iK_Undefined tC_Undefined s_Undefined_Undefined
  have x_InvalidPairs_Undefined := exm_of eC_Undefined iK_Undefined tC_Undefined s_InvalidPairs_Undefined
  have x_InvalidPairs_InvalidPairs := exm_of eC_InvalidPairs iK_InvalidPairs tC_InvalidPairs s_InvalidPairs_InvalidPairs
  have nfs_Table : ∀ f ∈ (["lines", "most", "taken", "plan"] : List Str), NoAttr K C_Table f := by
    intro f hf
    simp only [List.mem_cons, List.not_mem_nil, or_false] at hf
    rcases hf with rfl | rfl | rfl | rfl
    · exact nf_Table_lines
    · exact nf_Table_most
    · exact nf_Table_taken
    · exact nf_Table_plan
  have i_Table : Ins K C_Table ["lines", "most", "taken", "plan"] := ⟨⟨pg_Table, hd_Table, po_Table, sa_Table⟩, nfs_Table⟩
  have F_is_integer := fun_mk (st := s_is_integer) l_is_integer d_is_integer k_is_integer
  have b_is_integer := F_is_integer.binds (ps := ["value"]) fun _ _ _ _ _ _ us hl => match us, hl with | [_], _ => rfl
  have F_is_within := fun_mk (st := s_is_within) l_is_within d_is_within k_is_within
  have b_is_within := F_is_within.binds (ps := ["value", "bounds"]) fun _ _ _ _ _ _ us hl => match us, hl with | [_, _], _ => rfl
  have F_check_pairs := fun_mk (st := s_check_pairs) l_check_pairs d_check_pairs k_check_pairs
  have b_check_pairs := F_check_pairs.binds (ps := ["many", "pairs"]) fun _ _ _ _ _ _ us hl => match us, hl with | [_, _], _ => rfl
  have F_rounded_up := fun_mk (st := s_rounded_up) l_rounded_up d_rounded_up k_rounded_up
  have b_rounded_up := F_rounded_up.binds (ps := ["total", "share"]) fun _ _ _ _ _ _ us hl => match us, hl with | [_, _], _ => rfl
  have F__law_cell := fun_mk (st := s__law_cell) l__law_cell d__law_cell k__law_cell
  have b__law_cell := F__law_cell.binds (ps := ["script", "k"]) fun _ _ _ _ _ _ us hl => match us, hl with | [_, _], _ => rfl
  have F__law_draws := fun_mk (st := s__law_draws) l__law_draws d__law_draws k__law_draws
  have b__law_draws := F__law_draws.binds (ps := ["cell", "many", "most"]) fun _ _ _ _ _ _ us hl => match us, hl with | [_, _, _], _ => rfl
  have F__law_hand := fun_mk (st := s__law_hand) l__law_hand d__law_hand k__law_hand
  have b__law_hand := F__law_hand.binds (ps := ["script", "cells", "many"]) fun _ _ _ _ _ _ us hl => match us, hl with | [_, _, _], _ => rfl
  have F__law_take := fun_mk (st := s__law_take) l__law_take d__law_take k__law_take
  have b__law_take := F__law_take.binds (ps := ["hand", "many"]) fun _ _ _ _ _ _ us hl => match us, hl with | [_, _], _ => rfl
  have F_walk := fun_mk (st := s_walk) l_walk d_walk k_walk
  have b_walk := F_walk.binds (ps := ["store", "pairs", "places", "turned"]) fun _ _ _ _ _ _ us hl => match us, hl with | [_, _, _, _], _ => rfl
  have F_halved := fun_mk (st := s_halved) l_halved d_halved k_halved
  have b_halved := F_halved.binds (ps := ["many", "pairs"]) fun _ _ _ _ _ _ us hl => match us, hl with | [_, _], _ => rfl
  have F_Table_place_in := fun_mk (st := s_Table_place_in) l_Table_place_in d_Table_place_in k_Table_place_in
  have b_Table_place_in := F_Table_place_in.binds (ps := ["self", "place", "number"]) fun _ _ _ _ _ _ us hl => match us, hl with | [_, _, _], _ => rfl
  have F_Table_free_round := fun_mk (st := s_Table_free_round) l_Table_free_round d_Table_free_round k_Table_free_round
  have b_Table_free_round := F_Table_free_round.binds (ps := ["self", "line"]) fun _ _ _ _ _ _ us hl => match us, hl with | [_, _], _ => rfl
  have F_Table_exchange := fun_mk (st := s_Table_exchange) l_Table_exchange d_Table_exchange k_Table_exchange
  have b_Table_exchange := F_Table_exchange.binds (ps := ["self", "column", "first", "second"]) fun _ _ _ _ _ _ us hl => match us, hl with | [_, _, _, _], _ => rfl
  have F_Table_put := fun_mk (st := s_Table_put) l_Table_put d_Table_put k_Table_put
  have b_Table_put := F_Table_put.binds (ps := ["self", "place"]) fun _ _ _ _ _ _ us hl => match us, hl with | [_, _], _ => rfl
  have F_Table__init__ := fun_mk (st := s_Table__init__) l_Table__init__ d_Table__init__ k_Table__init__
  have b_Table__init__ := F_Table__init__.binds (ps := ["self", "rows", "columns", "most"]) fun _ _ _ _ _ _ us hl => match us, hl with | [_, _, _, _], _ => rfl
  have F_rounds_needed := fun_mk (st := s_rounds_needed) l_rounds_needed d_rounds_needed k_rounds_needed
  have b_rounds_needed := F_rounds_needed.binds (ps := ["limits", "stores"]) fun _ _ _ _ _ _ us hl => match us, hl with | [_, _], _ => rfl
  have F_parted := fun_mk (st := s_parted) l_parted d_parted k_parted
  have b_parted := F_parted.binds (ps := ["stores", "most"]) fun _ _ _ _ _ _ us hl => match us, hl with | [_, _], _ => rfl
  have F_table_plan := fun_mk (st := s_table_plan) l_table_plan d_table_plan k_table_plan
  have b_table_plan := F_table_plan.binds (ps := ["leaving", "entering", "pairs"]) fun _ _ _ _ _ _ us hl => match us, hl with | [_, _, _], _ => rfl
  have F_has_odd := fun_mk (st := s_has_odd) l_has_odd d_has_odd k_has_odd
  have b_has_odd := F_has_odd.binds (ps := ["rates"]) fun _ _ _ _ _ _ us hl => match us, hl with | [_], _ => rfl
  have F_even_plan := fun_mk (st := s_even_plan) l_even_plan d_even_plan k_even_plan
  have b_even_plan := F_even_plan.binds (ps := ["rates", "pairs"]) fun _ _ _ _ _ _ us hl => match us, hl with | [_, _], _ => rfl
  have F__law_is_number := fun_mk (st := s__law_is_number) l__law_is_number d__law_is_number k__law_is_number
  have b__law_is_number := F__law_is_number.binds (ps := ["value"]) fun _ _ _ _ _ _ us hl => match us, hl with | [_], _ => rfl
  have F__law_rates := fun_mk (st := s__law_rates) l__law_rates d__law_rates k__law_rates
  have b__law_rates := F__law_rates.binds (ps := ["hand", "many", "even"]) fun _ _ _ _ _ _ us hl => match us, hl with | [_, _, _], _ => rfl
  have F__law_pairs := fun_mk (st := s__law_pairs) l__law_pairs d__law_pairs k__law_pairs
  have b__law_pairs := F__law_pairs.binds (ps := ["hand", "many", "most"]) fun _ _ _ _ _ _ us hl => match us, hl with | [_, _, _], _ => rfl
  have F__law_loads := fun_mk (st := s__law_loads) l__law_loads d__law_loads k__law_loads
  have b__law_loads := F__law_loads.binds (ps := ["many", "pairs"]) fun _ _ _ _ _ _ us hl => match us, hl with | [_, _], _ => rfl
  have F__law_no_pairs := fun_mk (st := s__law_no_pairs) l__law_no_pairs d__law_no_pairs k__law_no_pairs
  have b__law_no_pairs := F__law_no_pairs.binds (ps := ["hand", "many", "pairs"]) fun _ _ _ _ _ _ us hl => match us, hl with | [_, _, _], _ => rfl
  have F__law_up := fun_mk (st := s__law_up) l__law_up d__law_up k__law_up
  have b__law_up := F__law_up.binds (ps := ["over", "under"]) fun _ _ _ _ _ _ us hl => match us, hl with | [_, _], _ => rfl
  have F__law_busiest := fun_mk (st := s__law_busiest) l__law_busiest d__law_busiest k__law_busiest
  have b__law_busiest := F__law_busiest.binds (ps := ["rates", "pairs"]) fun _ _ _ _ _ _ us hl => match us, hl with | [_, _], _ => rfl
  have F__law_length := fun_mk (st := s__law_length) l__law_length d__law_length k__law_length
  have b__law_length := F__law_length.binds (ps := ["plan"]) fun _ _ _ _ _ _ us hl => match us, hl with | [_], _ => rfl
  have F__law_excess := fun_mk (st := s__law_excess) l__law_excess d__law_excess k__law_excess
  have b__law_excess := F__law_excess.binds (ps := ["rates", "pairs", "plan"]) fun _ _ _ _ _ _ us hl => match us, hl with | [_, _, _], _ => rfl
  have F__law_is_row := fun_mk (st := s__law_is_row) l__law_is_row d__law_is_row k__law_is_row
  have b__law_is_row := F__law_is_row.binds (ps := ["value", "many", "most"]) fun _ _ _ _ _ _ us hl => match us, hl with | [_, _, _], _ => rfl
  have F__law_is_plan := fun_mk (st := s__law_is_plan) l__law_is_plan d__law_is_plan k__law_is_plan
  have b__law_is_plan := F__law_is_plan.binds (ps := ["plan", "rates", "pairs"]) fun _ _ _ _ _ _ us hl => match us, hl with | [_, _, _], _ => rfl
  have F__law_is_even_plan := fun_mk (st := s__law_is_even_plan) l__law_is_even_plan d__law_is_even_plan k__law_is_even_plan
  have b__law_is_even_plan := F__law_is_even_plan.binds (ps := ["plan", "rates", "pairs"]) fun _ _ _ _ _ _ us hl => match us, hl with | [_, _, _], _ => rfl
  have F__law_refused := fun_mk (st := s__law_refused) l__law_refused d__law_refused k__law_refused
  have b__law_refused := F__law_refused.binds (ps := ["rates", "pairs"]) fun _ _ _ _ _ _ us hl => match us, hl with | [_, _], _ => rfl
  have F__law_asked := fun_mk (st := s__law_asked) l__law_asked d__law_asked k__law_asked
  have b__law_asked := F__law_asked.binds (ps := ["hand"]) fun _ _ _ _ _ _ us hl => match us, hl with | [_], _ => rfl
  have F_law := fun_mk (st := s_law) l_law d_law k_law
  refine ⟨PySem.W.fnOf "law" "law" (defArgs s_law) (defBody s_law) (defScope s_law) .none kV_law dc_law pm_law an_law cd_law ct_law, fun s v => .of_eq rfl, fun base _ _ => ?_⟩
  have c_is_integer : ∀ base : Heap, Cal l.prog w K mg base 1 "is_integer" P_is_integer (Ct K (W_f noOb intD)) := fun base => ⟨_, _, ok_is_integer F_is_integer (e_InvalidPairs base) (e_TooMany base) (e_Undefined base) i_Table m_isinstance m_bool m_int, PySem.W.mg_of X G a_is_integer, k_is_integer, b_is_integer⟩
  have c_is_within : ∀ base : Heap, Cal l.prog w K mg base 2 "is_within" P_is_within (Ct K W_within) := fun base => ⟨_, _, ok_is_within F_is_within (e_InvalidPairs base) (e_TooMany base) (e_Undefined base) i_Table ((c_is_integer base).mono (by decide)), PySem.W.mg_of X G a_is_within, k_is_within, b_is_within⟩
  have c_check_pairs : ∀ base : Heap, CalX l.prog w K mg base 3 "check_pairs" P_check_pairs (CtX K (W_ckpairs C_InvalidPairs)) := fun base => ⟨_, _, ok_check_pairs F_check_pairs (e_InvalidPairs base) (e_TooMany base) (e_Undefined base) i_Table m_isinstance m_tuple m_all m_len ((c_is_within base).mono (by decide)), PySem.W.mg_of X G a_check_pairs, k_check_pairs, b_check_pairs⟩
  have c_rounded_up : ∀ base : Heap, Cal l.prog w K mg base 1 "rounded_up" P_rounded_up (Ct K W_up) := fun base => ⟨_, _, ok_rounded_up F_rounded_up (e_InvalidPairs base) (e_TooMany base) (e_Undefined base) i_Table, PySem.W.mg_of X G a_rounded_up, k_rounded_up, b_rounded_up⟩
  have c__law_cell : ∀ base : Heap, Cal l.prog w K mg base 1 "_law_cell" P__law_cell (Ct K W_cell) := fun base => ⟨_, _, ok__law_cell F__law_cell (e_InvalidPairs base) (e_TooMany base) (e_Undefined base) i_Table m_len m_abs m_int, PySem.W.mg_of X G a__law_cell, k__law_cell, b__law_cell⟩
  have c__law_draws : ∀ base : Heap, Cal l.prog w K mg base 1 "_law_draws" P__law_draws (CtM K W_draws2) := fun base => ⟨_, _, ok__law_draws F__law_draws (e_InvalidPairs base) (e_TooMany base) (e_Undefined base) i_Table m_range m_int, PySem.W.mg_of X G a__law_draws, k__law_draws, b__law_draws⟩
  have c__law_hand : ∀ base : Heap, Cal l.prog w K mg base 2 "_law_hand" P__law_hand (CtM K W_hand) := fun base => ⟨_, _, ok__law_hand F__law_hand (e_InvalidPairs base) (e_TooMany base) (e_Undefined base) i_Table m_range ((c__law_draws base).mono (by decide)) ((c__law_cell base).mono (by decide)), PySem.W.mg_of X G a__law_hand, k__law_hand, b__law_hand⟩
  have c__law_take : ∀ base : Heap, Cal l.prog w K mg base 1 "_law_take" P__law_take (Ct K W_take1) := fun base => ⟨_, _, ok__law_take F__law_take (e_InvalidPairs base) (e_TooMany base) (e_Undefined base) i_Table m_len m_int, PySem.W.mg_of X G a__law_take, k__law_take, b__law_take⟩
  have c_walk : ∀ base : Heap, CalX l.prog w K mg base 2 "walk" P_walk (CtP K W_walk) := fun base => ⟨_, _, ok_walk F_walk (e_InvalidPairs base) (e_TooMany base) (e_Undefined base) i_Table, PySem.W.mg_of X G a_walk, k_walk, b_walk⟩
  have c_halved : ∀ base : Heap, CalX l.prog w K mg base 4 "halved" P_halved (CtP K (W_halved C_InvalidPairs)) := fun base => ⟨_, _, ok_halved F_halved (e_InvalidPairs base) (e_TooMany base) (e_Undefined base) i_Table m_range m_enumerate m_len m_list m_tuple ((c_check_pairs base).mono (by decide)) ((c_walk base).mono (by decide)), PySem.W.mg_of X G a_halved, k_halved, b_halved⟩
  have c_Table_place_in : ∀ base : Heap, CalM l.prog w K mg base 2 C_Table "place_in" P_Table_place_in (CtP K (W_plin l.prog w C_Table)) := fun base => ⟨⟨_, _, ok_Table_place_in F_Table_place_in (e_InvalidPairs base) (e_TooMany base) (e_Undefined base) i_Table, ⟨mt_Table_place_in, fn_Table_place_in, k_Table_place_in⟩, b_Table_place_in⟩, i_Table.cls⟩
  have c_Table_free_round : ∀ base : Heap, CalM l.prog w K mg base 2 C_Table "free_round" P_Table_free_round (CtP K (W_free l.prog w C_Table)) := fun base => ⟨⟨_, _, ok_Table_free_round F_Table_free_round (e_InvalidPairs base) (e_TooMany base) (e_Undefined base) i_Table m_min m_range, ⟨mt_Table_free_round, fn_Table_free_round, k_Table_free_round⟩, b_Table_free_round⟩, i_Table.cls⟩
  have c_Table_exchange : ∀ base : Heap, CalM l.prog w K mg base 4 C_Table "exchange" P_Table_exchange (CtP K (W_exch l.prog w C_Table)) := fun base => ⟨⟨_, _, ok_Table_exchange F_Table_exchange (e_InvalidPairs base) (e_TooMany base) (e_Undefined base) i_Table ((c_Table_place_in base).mono (by decide)), ⟨mt_Table_exchange, fn_Table_exchange, k_Table_exchange⟩, b_Table_exchange⟩, i_Table.cls⟩
  have c_Table_put : ∀ base : Heap, CalM l.prog w K mg base 6 C_Table "put" P_Table_put (CtP K (W_tput l.prog w C_Table)) := fun base => ⟨⟨_, _, ok_Table_put F_Table_put (e_InvalidPairs base) (e_TooMany base) (e_Undefined base) i_Table ((c_Table_free_round base).mono (by decide)) ((c_Table_exchange base).mono (by decide)) ((c_Table_place_in base).mono (by decide)), ⟨mt_Table_put, fn_Table_put, k_Table_put⟩, b_Table_put⟩, i_Table.cls⟩
  have mk_Table : ∀ base : Heap, MkI l.prog w K mg base 4 "Table" P_Table__init__ C_Table (CtP K (W_tinit l.prog w C_Table)) := fun base => ⟨_, _, ⟨mk0_Table, iC_Table, fI_Table, kC_Table⟩, ok_Table__init__ F_Table__init__ (e_InvalidPairs base) (e_TooMany base) (e_Undefined base) i_Table m_zip, PySem.W.mg_of X G a_Table, b_Table__init__⟩
  have c_rounds_needed : ∀ base : Heap, Cal l.prog w K mg base 2 "rounds_needed" P_rounds_needed (Ct K W_rneed) := fun base => ⟨_, _, ok_rounds_needed F_rounds_needed (e_InvalidPairs base) (e_TooMany base) (e_Undefined base) i_Table m_max m_enumerate ((c_rounded_up base).mono (by decide)), PySem.W.mg_of X G a_rounds_needed, k_rounds_needed, b_rounds_needed⟩
  have c_parted : ∀ base : Heap, Cal l.prog w K mg base 2 "parted" P_parted (Ct K W_parted) := fun base => ⟨_, _, ok_parted F_parted (e_InvalidPairs base) (e_TooMany base) (e_Undefined base) i_Table m_enumerate, PySem.W.mg_of X G a_parted, k_parted, b_parted⟩
  have c_table_plan : ∀ base : Heap, CalX l.prog w K mg base 8 "table_plan" P_table_plan (CtP K (W_tplan C_InvalidPairs)) := fun base => ⟨_, _, ok_table_plan F_table_plan (e_InvalidPairs base) (e_TooMany base) (e_Undefined base) i_Table m_len m_max m_range m_tuple ((mk_Table base).mono (by decide)) ((c_check_pairs base).mono (by decide)) ((c_rounds_needed base).mono (by decide)) ((c_parted base).mono (by decide)) ((c_Table_put base).mono (by decide)), PySem.W.mg_of X G a_table_plan, k_table_plan, b_table_plan⟩
  have c_has_odd : ∀ base : Heap, Cal l.prog w K mg base 1 "has_odd" P_has_odd (Ct K W_hasodd) := fun base => ⟨_, _, ok_has_odd F_has_odd (e_InvalidPairs base) (e_TooMany base) (e_Undefined base) i_Table m_any, PySem.W.mg_of X G a_has_odd, k_has_odd, b_has_odd⟩
  have c_even_plan : ∀ base : Heap, CalX l.prog w K mg base 9 "even_plan" P_even_plan (CtP K (W_eplan C_InvalidPairs C_Undefined)) := fun base => ⟨_, _, ok_even_plan F_even_plan (e_InvalidPairs base) (e_TooMany base) (e_Undefined base) i_Table m_tuple m_len ((c_has_odd base).mono (by decide)) ((c_table_plan base).mono (by decide)) ((c_halved base).mono (by decide)), PySem.W.mg_of X G a_even_plan, k_even_plan, b_even_plan⟩
  have c__law_is_number : ∀ base : Heap, Cal l.prog w K mg base 1 "_law_is_number" P__law_is_number (Ct K W_lnum) := fun base => ⟨_, _, ok__law_is_number F__law_is_number (e_InvalidPairs base) (e_TooMany base) (e_Undefined base) i_Table m_isinstance m_bool m_int, PySem.W.mg_of X G a__law_is_number, k__law_is_number, b__law_is_number⟩
  have c__law_rates : ∀ base : Heap, Cal l.prog w K mg base 2 "_law_rates" P__law_rates (Ct K W_lrates) := fun base => ⟨_, _, ok__law_rates F__law_rates (e_InvalidPairs base) (e_TooMany base) (e_Undefined base) i_Table m_range m_tuple ((c__law_take base).mono (by decide)), PySem.W.mg_of X G a__law_rates, k__law_rates, b__law_rates⟩
  have c__law_pairs : ∀ base : Heap, Cal l.prog w K mg base 2 "_law_pairs" P__law_pairs (Ct K W_lpairs2) := fun base => ⟨_, _, ok__law_pairs F__law_pairs (e_InvalidPairs base) (e_TooMany base) (e_Undefined base) i_Table m_range m_int m_len m_tuple ((c__law_take base).mono (by decide)), PySem.W.mg_of X G a__law_pairs, k__law_pairs, b__law_pairs⟩
  have c__law_loads : ∀ base : Heap, Cal l.prog w K mg base 1 "_law_loads" P__law_loads (CtM K W_lloads) := fun base => ⟨_, _, ok__law_loads F__law_loads (e_InvalidPairs base) (e_TooMany base) (e_Undefined base) i_Table m_range, PySem.W.mg_of X G a__law_loads, k__law_loads, b__law_loads⟩
  have c__law_no_pairs : ∀ base : Heap, Cal l.prog w K mg base 2 "_law_no_pairs" P__law_no_pairs (Ct K W_nopairs) := fun base => ⟨_, _, ok__law_no_pairs F__law_no_pairs (e_InvalidPairs base) (e_TooMany base) (e_Undefined base) i_Table m_len m_list m_min ((c__law_take base).mono (by decide)), PySem.W.mg_of X G a__law_no_pairs, k__law_no_pairs, b__law_no_pairs⟩
  have c__law_up : ∀ base : Heap, Cal l.prog w K mg base 1 "_law_up" P__law_up (Ct K W_up) := fun base => ⟨_, _, ok__law_up F__law_up (e_InvalidPairs base) (e_TooMany base) (e_Undefined base) i_Table, PySem.W.mg_of X G a__law_up, k__law_up, b__law_up⟩
  have c__law_busiest : ∀ base : Heap, Cal l.prog w K mg base 2 "_law_busiest" P__law_busiest (Ct K W_lbusy) := fun base => ⟨_, _, ok__law_busiest F__law_busiest (e_InvalidPairs base) (e_TooMany base) (e_Undefined base) i_Table m_len m_max m_range ((c__law_loads base).mono (by decide)) ((c__law_up base).mono (by decide)), PySem.W.mg_of X G a__law_busiest, k__law_busiest, b__law_busiest⟩
  have c__law_length : ∀ base : Heap, Cal l.prog w K mg base 1 "_law_length" P__law_length (Ct K W_planlen) := fun base => ⟨_, _, ok__law_length F__law_length (e_InvalidPairs base) (e_TooMany base) (e_Undefined base) i_Table m_len m_max, PySem.W.mg_of X G a__law_length, k__law_length, b__law_length⟩
  have c__law_excess : ∀ base : Heap, Cal l.prog w K mg base 3 "_law_excess" P__law_excess (Ct K W_lexcess) := fun base => ⟨_, _, ok__law_excess F__law_excess (e_InvalidPairs base) (e_TooMany base) (e_Undefined base) i_Table m_sorted m_range m_len ((c__law_loads base).mono (by decide)), PySem.W.mg_of X G a__law_excess, k__law_excess, b__law_excess⟩
  have c__law_is_row : ∀ base : Heap, Cal l.prog w K mg base 2 "_law_is_row" P__law_is_row (Ct K W_lrow) := fun base => ⟨_, _, ok__law_is_row F__law_is_row (e_InvalidPairs base) (e_TooMany base) (e_Undefined base) i_Table m_len m_isinstance m_tuple ((c__law_is_number base).mono (by decide)), PySem.W.mg_of X G a__law_is_row, k__law_is_row, b__law_is_row⟩
  have c__law_is_plan : ∀ base : Heap, Cal l.prog w K mg base 4 "_law_is_plan" P__law_is_plan (Ct K W_lisplan) := fun base => ⟨_, _, ok__law_is_plan F__law_is_plan (e_InvalidPairs base) (e_TooMany base) (e_Undefined base) i_Table m_len ((c__law_excess base).mono (by decide)) ((c__law_is_row base).mono (by decide)), PySem.W.mg_of X G a__law_is_plan, k__law_is_plan, b__law_is_plan⟩
  have c__law_is_even_plan : ∀ base : Heap, Cal l.prog w K mg base 5 "_law_is_even_plan" P__law_is_even_plan (Ct K W_liseven) := fun base => ⟨_, _, ok__law_is_even_plan F__law_is_even_plan (e_InvalidPairs base) (e_TooMany base) (e_Undefined base) i_Table ((c__law_length base).mono (by decide)) ((c__law_busiest base).mono (by decide)) ((c__law_is_plan base).mono (by decide)), PySem.W.mg_of X G a__law_is_even_plan, k__law_is_even_plan, b__law_is_even_plan⟩
  have c__law_refused : ∀ base : Heap, CalX l.prog w K mg base 10 "_law_refused" P__law_refused (CtP K W_lref29) := fun base => ⟨_, _, ok__law_refused F__law_refused (e_InvalidPairs base) (e_TooMany base) (e_Undefined base) i_Table m_isinstance m_str ((c_even_plan base).mono (by decide)) x_Undefined_Undefined x_InvalidPairs_Undefined x_InvalidPairs_InvalidPairs xc_Undefined xk_Undefined_TooMany, PySem.W.mg_of X G a__law_refused, k__law_refused, b__law_refused⟩
  have cx__law_asked_even_plan_0 : ∀ base : Heap, CalKwX l.prog w K mg base 11 "even_plan" P_even_plan ["pairs", "rates"] [1, 0] (CtP K (W_eplan C_InvalidPairs C_Undefined)) := fun base => ⟨_, _, (ok_even_plan F_even_plan (e_InvalidPairs base) (e_TooMany base) (e_Undefined base) i_Table m_tuple m_len ((c_has_odd base).mono (by decide)) ((c_table_plan base).mono (by decide)) ((c_halved base).mono (by decide))).mono (by decide), PySem.W.mg_of X G a_even_plan, k_even_plan, kbN 2 (by decide) rfl rfl rfl (by decide) (by decide) fun ws hl => match ws, hl with | [_, _], _ => rfl⟩
  have c__law_asked : ∀ base : Heap, CalX l.prog w K mg base 12 "_law_asked" P__law_asked (CtP K W_asked) := fun base => ⟨_, _, ok__law_asked F__law_asked (e_InvalidPairs base) (e_TooMany base) (e_Undefined base) i_Table ((c__law_take base).mono (by decide)) ((c__law_rates base).mono (by decide)) ((c__law_pairs base).mono (by decide)) ((c_even_plan base).mono (by decide)) ((c__law_is_even_plan base).mono (by decide)) ((c__law_no_pairs base).mono (by decide)) ((c__law_refused base).mono (by decide)) (cx__law_asked_even_plan_0 base), PySem.W.mg_of X G a__law_asked, k__law_asked, b__law_asked⟩
  exact ok_law F_law (e_InvalidPairs base) (e_TooMany base) (e_Undefined base) i_Table ((c__law_asked base).mono (by decide)) ((c__law_hand base).mono (by decide)) (PySem.W.mg_of X G a_MoveError)
end Mv
open PySem PySem.W PyProof.Rows
set_option maxRecDepth 100000 in
set_option maxHeartbeats 0 in
theorem PySem.Challenge.cw_movedwhole_k29_whole_even_rates_holds : PySem.Challenge.rw_movedwhole_k29_whole_even_rates.Holds := by
  w_on; o_law; k_head; (case hw => w_witness2)
  k_fill
  refine L2.walk_of (l := PySem.Challenge.rw_movedwhole_k29_whole_even_rates) (n := 63) (k := 14) (x := "script") (CX := fun _ => L2.CX0) (sp := fun w => Mv.spLaw _) rfl (by decide) rfl ⟨rfl, by decide, by decide⟩ (fun w h Y => PySem.W.kIn_of Y) ?F (fun _ _ a ns hl _ hS => Mv.spLaw_start hS hl) (fun _ _ _ _ _ h => h)
  case F =>
    intro w mg fa h KX G hmg
    refine' Mv.all_mk KX G hmg ?a_InvalidPairs ?xl_InvalidPairs ?sa_InvalidPairs ?ga_InvalidPairs ?gg_InvalidPairs ?nf_InvalidPairs_value ?iC_InvalidPairs ?tI_InvalidPairs ?kC_InvalidPairs ?eC_InvalidPairs ?tC_InvalidPairs ?hC_InvalidPairs ?iK_InvalidPairs ?l_InvalidPairs__init__ ?d_InvalidPairs__init__ ?k_InvalidPairs__init__ ?a_TooMany ?xl_TooMany ?sa_TooMany ?ga_TooMany ?gg_TooMany ?nf_TooMany_what ?iC_TooMany ?tI_TooMany ?kC_TooMany ?eC_TooMany ?tC_TooMany ?hC_TooMany ?iK_TooMany ?l_TooMany__init__ ?d_TooMany__init__ ?k_TooMany__init__ ?a_Undefined ?xl_Undefined ?sa_Undefined ?ga_Undefined ?gg_Undefined ?nf_Undefined_what ?iC_Undefined ?tI_Undefined ?kC_Undefined ?eC_Undefined ?tC_Undefined ?hC_Undefined ?iK_Undefined ?l_Undefined__init__ ?d_Undefined__init__ ?k_Undefined__init__ ?a_Table ?iC_Table ?fI_Table ?pg_Table ?hd_Table ?po_Table ?sa_Table ?mk0_Table ?kC_Table ?nf_Table_lines ?nf_Table_most ?nf_Table_taken ?nf_Table_plan ?l_Table__init__ ?d_Table__init__ ?k_Table__init__ ?a_is_integer ?l_is_integer ?d_is_integer ?k_is_integer ?a_is_within ?l_is_within ?d_is_within ?k_is_within ?a_check_pairs ?l_check_pairs ?d_check_pairs ?k_check_pairs ?a_rounded_up ?l_rounded_up ?d_rounded_up ?k_rounded_up ?a__law_cell ?l__law_cell ?d__law_cell ?k__law_cell ?a__law_draws ?l__law_draws ?d__law_draws ?k__law_draws ?a__law_hand ?l__law_hand ?d__law_hand ?k__law_hand ?a__law_take ?l__law_take ?d__law_take ?k__law_take ?a_walk ?l_walk ?d_walk ?k_walk ?a_halved ?l_halved ?d_halved ?k_halved ?mt_Table_place_in ?fn_Table_place_in ?l_Table_place_in ?d_Table_place_in ?k_Table_place_in ?mt_Table_free_round ?fn_Table_free_round ?l_Table_free_round ?d_Table_free_round ?k_Table_free_round ?mt_Table_exchange ?fn_Table_exchange ?l_Table_exchange ?d_Table_exchange ?k_Table_exchange ?mt_Table_put ?fn_Table_put ?l_Table_put ?d_Table_put ?k_Table_put ?a_rounds_needed ?l_rounds_needed ?d_rounds_needed ?k_rounds_needed ?a_parted ?l_parted ?d_parted ?k_parted ?a_table_plan ?l_table_plan ?d_table_plan ?k_table_plan ?a_has_odd ?l_has_odd ?d_has_odd ?k_has_odd ?a_even_plan ?l_even_plan ?d_even_plan ?k_even_plan ?a__law_is_number ?l__law_is_number ?d__law_is_number ?k__law_is_number ?a__law_rates ?l__law_rates ?d__law_rates ?k__law_rates ?a__law_pairs ?l__law_pairs ?d__law_pairs ?k__law_pairs ?a__law_loads ?l__law_loads ?d__law_loads ?k__law_loads ?a__law_no_pairs ?l__law_no_pairs ?d__law_no_pairs ?k__law_no_pairs ?a__law_up ?l__law_up ?d__law_up ?k__law_up ?a__law_busiest ?l__law_busiest ?d__law_busiest ?k__law_busiest ?a__law_length ?l__law_length ?d__law_length ?k__law_length ?a__law_excess ?l__law_excess ?d__law_excess ?k__law_excess ?a__law_is_row ?l__law_is_row ?d__law_is_row ?k__law_is_row ?a__law_is_plan ?l__law_is_plan ?d__law_is_plan ?k__law_is_plan ?a__law_is_even_plan ?l__law_is_even_plan ?d__law_is_even_plan ?k__law_is_even_plan ?a__law_refused ?l__law_refused ?d__law_refused ?k__law_refused ?a__law_asked ?l__law_asked ?d__law_asked ?k__law_asked ?a_law ?l_law ?d_law ?k_law ?a_MoveError ?hn_cl ?ht_cl ?hcl_Undefined ?hmo_Undefined ?s_Undefined_Undefined ?s_InvalidPairs_Undefined ?s_InvalidPairs_InvalidPairs ?s_Undefined_TooMany ?z_isinstance ?z_bool ?z_int ?z_tuple ?z_all ?z_len ?z_abs ?z_range ?z_enumerate ?z_list ?z_min ?z_zip ?z_max ?z_any ?z_sorted ?z_str
    (case a_InvalidPairs => k_is)
    (case xl_InvalidPairs => k_is)
    (case sa_InvalidPairs => k_is)
    (case ga_InvalidPairs => k_is)
    (case gg_InvalidPairs => k_is)
    (case nf_InvalidPairs_value => k_is)
    (case iC_InvalidPairs => k_is)
    (case tI_InvalidPairs => k_is)
    (case kC_InvalidPairs => k_is)
    (case eC_InvalidPairs => k_is)
    (case tC_InvalidPairs => k_is)
    (case hC_InvalidPairs => k_is)
    (case iK_InvalidPairs => k_is)
    (case l_InvalidPairs__init__ => k_is)
    (case d_InvalidPairs__init__ => k_is)
    (case k_InvalidPairs__init__ => k_is)
    (case a_TooMany => k_is)
    (case xl_TooMany => k_is)
    (case sa_TooMany => k_is)
    (case ga_TooMany => k_is)
    (case gg_TooMany => k_is)
    (case nf_TooMany_what => k_is)
    (case iC_TooMany => k_is)
    (case tI_TooMany => k_is)
    (case kC_TooMany => k_is)
    (case eC_TooMany => k_is)
    (case tC_TooMany => k_is)
    (case hC_TooMany => k_is)
    (case iK_TooMany => k_is)
    (case l_TooMany__init__ => k_is)
    (case d_TooMany__init__ => k_is)
    (case k_TooMany__init__ => k_is)
    (case a_Undefined => k_is)
    (case xl_Undefined => k_is)
    (case sa_Undefined => k_is)
    (case ga_Undefined => k_is)
    (case gg_Undefined => k_is)
    (case nf_Undefined_what => k_is)
    (case iC_Undefined => k_is)
    (case tI_Undefined => k_is)
    (case kC_Undefined => k_is)
    (case eC_Undefined => k_is)
    (case tC_Undefined => k_is)
    (case hC_Undefined => k_is)
    (case iK_Undefined => k_is)
    (case l_Undefined__init__ => k_is)
    (case d_Undefined__init__ => k_is)
    (case k_Undefined__init__ => k_is)
    (case a_Table => k_is)
    (case iC_Table => k_is)
    (case fI_Table => k_is)
    (case pg_Table => k_is)
    (case hd_Table => k_is)
    (case po_Table => k_is)
    (case sa_Table => k_is)
    (case mk0_Table => k_is)
    (case kC_Table => k_is)
    (case nf_Table_lines => k_is)
    (case nf_Table_most => k_is)
    (case nf_Table_taken => k_is)
    (case nf_Table_plan => k_is)
    (case l_Table__init__ => k_is)
    (case d_Table__init__ => k_is)
    (case k_Table__init__ => k_is)
    (case a_is_integer => k_is)
    (case l_is_integer => k_is)
    (case d_is_integer => k_is)
    (case k_is_integer => k_is)
    (case a_is_within => k_is)
    (case l_is_within => k_is)
    (case d_is_within => k_is)
    (case k_is_within => k_is)
    (case a_check_pairs => k_is)
    (case l_check_pairs => k_is)
    (case d_check_pairs => k_is)
    (case k_check_pairs => k_is)
    (case a_rounded_up => k_is)
    (case l_rounded_up => k_is)
    (case d_rounded_up => k_is)
    (case k_rounded_up => k_is)
    (case a__law_cell => k_is)
    (case l__law_cell => k_is)
    (case d__law_cell => k_is)
    (case k__law_cell => k_is)
    (case a__law_draws => k_is)
    (case l__law_draws => k_is)
    (case d__law_draws => k_is)
    (case k__law_draws => k_is)
    (case a__law_hand => k_is)
    (case l__law_hand => k_is)
    (case d__law_hand => k_is)
    (case k__law_hand => k_is)
    (case a__law_take => k_is)
    (case l__law_take => k_is)
    (case d__law_take => k_is)
    (case k__law_take => k_is)
    (case a_walk => k_is)
    (case l_walk => k_is)
    (case d_walk => k_is)
    (case k_walk => k_is)
    (case a_halved => k_is)
    (case l_halved => k_is)
    (case d_halved => k_is)
    (case k_halved => k_is)
    (case mt_Table_place_in => k_is)
    (case fn_Table_place_in => k_is)
    (case l_Table_place_in => k_is)
    (case d_Table_place_in => k_is)
    (case k_Table_place_in => k_is)
    (case mt_Table_free_round => k_is)
    (case fn_Table_free_round => k_is)
    (case l_Table_free_round => k_is)
    (case d_Table_free_round => k_is)
    (case k_Table_free_round => k_is)
    (case mt_Table_exchange => k_is)
    (case fn_Table_exchange => k_is)
    (case l_Table_exchange => k_is)
    (case d_Table_exchange => k_is)
    (case k_Table_exchange => k_is)
    (case mt_Table_put => k_is)
    (case fn_Table_put => k_is)
    (case l_Table_put => k_is)
    (case d_Table_put => k_is)
    (case k_Table_put => k_is)
    (case a_rounds_needed => k_is)
    (case l_rounds_needed => k_is)
    (case d_rounds_needed => k_is)
    (case k_rounds_needed => k_is)
    (case a_parted => k_is)
    (case l_parted => k_is)
    (case d_parted => k_is)
    (case k_parted => k_is)
    (case a_table_plan => k_is)
    (case l_table_plan => k_is)
    (case d_table_plan => k_is)
    (case k_table_plan => k_is)
    (case a_has_odd => k_is)
    (case l_has_odd => k_is)
    (case d_has_odd => k_is)
    (case k_has_odd => k_is)
    (case a_even_plan => k_is)
    (case l_even_plan => k_is)
    (case d_even_plan => k_is)
    (case k_even_plan => k_is)
    (case a__law_is_number => k_is)
    (case l__law_is_number => k_is)
    (case d__law_is_number => k_is)
    (case k__law_is_number => k_is)
    (case a__law_rates => k_is)
    (case l__law_rates => k_is)
    (case d__law_rates => k_is)
    (case k__law_rates => k_is)
    (case a__law_pairs => k_is)
    (case l__law_pairs => k_is)
    (case d__law_pairs => k_is)
    (case k__law_pairs => k_is)
    (case a__law_loads => k_is)
    (case l__law_loads => k_is)
    (case d__law_loads => k_is)
    (case k__law_loads => k_is)
    (case a__law_no_pairs => k_is)
    (case l__law_no_pairs => k_is)
    (case d__law_no_pairs => k_is)
    (case k__law_no_pairs => k_is)
    (case a__law_up => k_is)
    (case l__law_up => k_is)
    (case d__law_up => k_is)
    (case k__law_up => k_is)
    (case a__law_busiest => k_is)
    (case l__law_busiest => k_is)
    (case d__law_busiest => k_is)
    (case k__law_busiest => k_is)
    (case a__law_length => k_is)
    (case l__law_length => k_is)
    (case d__law_length => k_is)
    (case k__law_length => k_is)
    (case a__law_excess => k_is)
    (case l__law_excess => k_is)
    (case d__law_excess => k_is)
    (case k__law_excess => k_is)
    (case a__law_is_row => k_is)
    (case l__law_is_row => k_is)
    (case d__law_is_row => k_is)
    (case k__law_is_row => k_is)
    (case a__law_is_plan => k_is)
    (case l__law_is_plan => k_is)
    (case d__law_is_plan => k_is)
    (case k__law_is_plan => k_is)
    (case a__law_is_even_plan => k_is)
    (case l__law_is_even_plan => k_is)
    (case d__law_is_even_plan => k_is)
    (case k__law_is_even_plan => k_is)
    (case a__law_refused => k_is)
    (case l__law_refused => k_is)
    (case d__law_refused => k_is)
    (case k__law_refused => k_is)
    (case a__law_asked => k_is)
    (case l__law_asked => k_is)
    (case d__law_asked => k_is)
    (case k__law_asked => k_is)
    (case a_law => k_is)
    (case l_law => k_is)
    (case d_law => k_is)
    (case k_law => k_is)
    (case a_MoveError => k_is)
    (case hn_cl => k_is)
    (case ht_cl => k_is)
    (case hcl_Undefined => k_is)
    (case hmo_Undefined => k_is)
    (case s_Undefined_Undefined => first | rfl | k_is)
    (case s_InvalidPairs_Undefined => first | rfl | k_is)
    (case s_InvalidPairs_InvalidPairs => first | rfl | k_is)
    (case s_Undefined_TooMany => first | rfl | k_is)
    (case z_isinstance => k_is)
    (case z_bool => k_is)
    (case z_int => k_is)
    (case z_tuple => k_is)
    (case z_all => k_is)
    (case z_len => k_is)
    (case z_abs => k_is)
    (case z_range => k_is)
    (case z_enumerate => k_is)
    (case z_list => k_is)
    (case z_min => k_is)
    (case z_zip => k_is)
    (case z_max => k_is)
    (case z_any => k_is)
    (case z_sorted => k_is)
    (case z_str => k_is)
