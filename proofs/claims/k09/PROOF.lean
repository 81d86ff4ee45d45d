import PyProof.Rows.All
import Wide.All
import OpenK.AllK
import Wide.FinOn
import HandS.ForMost
import HandS.Zip
import HandS.IsInst
import HandS.Walk
import HandS.ForExc
import HandS.ExcInit
import HandS.ExcField
import HandS.TryMany
import HandS.AnyAll
import HandS.TupAny
import HandS.Rev
import HandS.DictComp
import HandS.SetBool
import HandS.Set
import KE.KDictKeyed
import HandS.DictTup
import HandS.SetFor
import HandS.Style
import HandS.Steps
import HandS.SortKw
import KE.DataMinMax
import HandS.Sort
import PyProof.SumAny
import KE.SortData
import HandS.Iter
import HandS.SortInts
import HandS.ExcIs
import HandS.WideBits
import HandS.Conv
import HandS.TupMul
import HandS.Deep
import KE.GoesEnum
import PyProof.Rows.IntBool
import PyProof.TwoTypesSub
import HandS.TryOnly
import HandS.HotCalls
import HandS.Dict
import HandS.RaiseMore
import HandS.Ends
import PyProof.ReprRoads
import PyProof.ReprLen
import HandS.ExcValue
import KE.DataAny
import KE.KDictZip
import PyProof.ListNew
import HandS.Defaults
import KE.KDictDisplayH
import HandS.DictSubView0
import PySem.Challenge.RW_movedwhole_k09_lots_that_lack_room
set_option Elab.async false
set_option linter.all false
set_option maxRecDepth 100000
set_option maxHeartbeats 4000000
/-! enumerate over a tuple -/
namespace Mv
open PySem PySem.Spec PyProof.Rows L2
open PySem.Sem (wp)
open AutoSeq1 (wpAny_loadPart')
theorem meets_enum_newT (l : Addr) (items : Array Value) (n : Nat) (dct : Option Addr) (sl : Array (Option Value)) :
    Meets (Builtin.«enumerate.__new__» ⟨[.type "enumerate", .ref l], []⟩) (fun _ R s =>
      s.heap.get? l = some { cls := .type "tuple", dict := dct, data := .seq items n, slots := sl } ∧
      R (.ok (.ret (.ref (s.heap.push { cls := .type "tuple_iterator", data := .fields #[.ref l, .int 0 0] }).objs.size)))
        { s with heap := ((s.heap.push { cls := .type "tuple_iterator", data := .fields #[.ref l, .int 0 0] }).push { cls := .type "enumerate", data := .fields #[.none, .bool false, .ref s.heap.objs.size, rawInt 0, .none, .none] }) }) :=
  .of_wp fun prog w A R s h => by
    obtain ⟨hp, g, d, tk, os⟩ := s
    obtain ⟨hl, h⟩ := h
    have hsub := sub_enumerate
    have hT : Heap.IsTuple (Shared.heap ⟨hp, g, d, tk, os⟩) l items := ⟨_, hl, rfl, n, rfl⟩
    wp_walk using wpAny_loadPart' hl
    refine wpAny_stack_any fun st => wpAny_pure ?_
    split
    · rename_i c _ _ _ _ _
      cases (c == Value.type "enumerate")
      · wp_walk using wpAny_loadPart' hl, wpAny_pyIter_tuple hT
        exact ⟨_, rfl, h⟩
      · wp_walk using wpAny_loadPart' hl, wpAny_pyIter_tuple hT
        exact ⟨_, rfl, h⟩
    · wp_walk using wpAny_loadPart' hl, wpAny_pyIter_tuple hT
      exact ⟨_, rfl, h⟩
section
variable {prog : Program} {w : World} {A : Around} {E : Value → Shared → Prop} {s : Shared}
theorem call_enum_tuple {l : Addr} {items : Array Value} {Q : Value → Shared → Prop} (hL : s.heap.IsTuple l items)
    (h : ∀ h', IsEnum h' (s.heap.objs.size + 1) s.heap.objs.size 0 .none → h'.IsTupleIter s.heap.objs.size l 0 →
      (∀ b o, s.heap.get? b = some o → h'.get? b = some o) → Q (.ref (s.heap.objs.size + 1)) { s with heap := h' }) :
    wpAny (model prog w) A (call (.type "enumerate") [.ref l]) Q E s := by
  obtain ⟨⟨c, dct, dt, sl⟩, hl, hc, n, hd⟩ := hL
  replace hc : c = .type "tuple" := hc
  replace hd : dt = .seq items n := hd
  subst hc hd
  refine callType_new F.called_enumerate (by decide) (F.typeCall_enumerate_1 _) (F.newCall_enumerate_1 _)
    (fun obj => F.args_object_init_2 obj _) F.entry_enumerate_new (meets_enum_newT l items n dct sl) ⟨hl, ?_⟩
  have hz : (s.heap.push { cls := .type "tuple_iterator", data := .fields #[.ref l, .int 0 0] }).objs.size = s.heap.objs.size + 1 := Heap.size_push ..
  show _ ∧ _
  rw [hz]
  have he : IsEnum ((s.heap.push { cls := .type "tuple_iterator", data := .fields #[.ref l, .int 0 0] }).push
      { cls := .type "enumerate", data := .fields #[.none, .bool false, .ref s.heap.objs.size, rawInt 0, .none, .none] })
      (s.heap.objs.size + 1) s.heap.objs.size 0 .none := by
    have this := Heap.get?_push_size (s.heap.push { cls := .type "tuple_iterator", data := .fields #[.ref l, .int 0 0] })
      (o := { cls := .type "enumerate", data := .fields #[.none, .bool false, .ref s.heap.objs.size, rawInt 0, .none, .none] }) rfl
    rw [hz] at this
    exact this
  refine ⟨⟨_, he, rfl⟩, h _ he ⟨_, Heap.get?_push_of_some _ (Heap.get?_push_size _ rfl), rfl, rfl⟩ fun b o x =>
    Heap.get?_push_of_some _ (Heap.get?_push_of_some _ x)⟩
end
theorem drawsT {prog : Program} {w : World} {A : Around} (hh : A.handled = none) (it l : Addr) (hne : l ≠ it) (items : Array Value) :
    Draws prog w A it [it, l] items.size (fun i v => items[i]? = some v) (fun i h => h.IsTupleIter it l i ∧ h.IsTuple l items) where
  live := fun _ _ st => let ⟨o, ho, _⟩ := st.1; ⟨o, ho⟩
  frame := fun _ _ _ st hk => ⟨st.1.at fun o e => hk it (by simp) o e, by
    obtain ⟨o, ho, r⟩ := st.2
    exact ⟨o, hk l (by simp) o ho, r⟩⟩
  item := fun i s Q E hi st hQ => by
    refine RZ.nextOf_tuple_item st.1 st.2 (x := items[i]) (by simp [hi]) fun h' hit' hs' => ?_
    refine hQ _ h' s.toks (by simp [hi]) ⟨hit', ?_⟩ hs'
    obtain ⟨o, ho, r⟩ := st.2
    exact ⟨o, hs'.extBut l o hne ho, r⟩
  done := fun s Q E st hE => RZ.nextOf_tuple_end hh st.1 st.2 (by simp) hE

theorem drawsE {prog : Program} {w : World} {A : Around} (hh : A.handled = none) (it l : Addr) (items : Array Value) (i : Nat) (hx : items[i]? = none) :
    Draws prog w A it [it, l] 0 (fun _ _ => False) (fun _ h => h.IsTupleIter it l i ∧ h.IsTuple l items) where
  live := fun _ _ st => let ⟨o, ho, _⟩ := st.1; ⟨o, ho⟩
  frame := fun _ _ _ st hk => ⟨st.1.at fun o e => hk it (by simp) o e, by
    obtain ⟨o, ho, r⟩ := st.2
    exact ⟨o, hk l (by simp) o ho, r⟩⟩
  item := fun i s Q E hi st hQ => absurd hi (Nat.not_lt_zero _)
  done := fun s Q E st hE => RZ.nextOf_tuple_end hh st.1 st.2 hx hE

/-- the tuple at a, each item in a new pair -/
def IteT (K : PySem.W.Frag) (a : Addr) : It :=
  ⟨fun i H => ∃ (xs : List V) (x : V), SqT K H a xs ∧ xs[i]? = some x,
    fun i H v H' => ∃ T x, v = .ref T ∧ H T = none ∧ H' = upd H T (.tup [.int (i : Nat), x]) ∧ ∀ xs, SqT K H a xs → xs[i]? = some x,
    fun i H => ∃ xs : List V, SqT K H a xs ∧ xs.length ≤ i⟩
theorem turn_enumT {P : Program} {w : World} {K : PySem.W.Frag} {elts : List Expr} {kk : Nat} {tpos : Pos} (a e it : Addr) (hai : a ≠ it) (hea : e ≠ a) :
    Turn P w K (.Tuple elts kk tpos) (IteT K a) [e, it] e (fun i h => (∃ old, IsEnum h e it ((i : Nat) : Int) old) ∧ h.IsTupleIter it a i ∧ e ≠ it) where
  mem := by simp
  obj := fun i h st b hb => by
    obtain ⟨⟨old, he⟩, ⟨o, ho, hc, hd⟩, _⟩ := st
    have e' : b = e ∨ b = it := by simpa using hb
    rcases e' with z | z
    · subst z
      exact ⟨_, he, fun v q => nomatch q⟩
    · subst z
      exact ⟨o, ho, fun v q => by rw [hd] at q; cases q⟩
  keep := fun i h h' st k => by
    obtain ⟨⟨old, he⟩, hi, hne⟩ := st
    exact ⟨⟨old, k e (by simp) _ he⟩, hi.at fun o q => k it (by simp) o q, hne⟩
  item := by
    intro X hP hw hK hc i pins s σ H E I hf st hg
    subst hP hw hK
    obtain ⟨⟨old, he⟩, hit, hne⟩ := st
    obtain ⟨xs, x, hq, hx⟩ := hg
    obtain ⟨its, rv, p, hz⟩ := I.tuple hq
    obtain ⟨u, hu, ru⟩ := rv.get hx
    have hel : e < s.heap.objs.size := Heap.lt_size he
    have hil : it < s.heap.objs.size := by
      obtain ⟨_, q, _⟩ := hit
      exact Heap.lt_size q
    have hsz : i < its.toArray.size := by
      have := (List.getElem?_eq_some_iff.mp hu).1
      simpa using this
    have hp : s.heap.IsTuple a its.toArray := p
    refine wpAny_pyNext_enum_itemD (drawsT (A := X.A.in1) (I.ok.hd hc) it a hai its.toArray) he ⟨hit, hp⟩ hsz hne (by simp [hne, hea]) fun y h' tk hy ho hit' hT hsz hk => ?_
    have hyu : y = u := by
      have h1 : its[i]? = some y := by simpa using hy
      exact Option.some.inj (h1.symm.trans hu)
    subst hyu
    refine ⟨_, rfl, wpAny_letOwnedTupleGo_enum (s := { s with heap := h', toks := tk + 1 }) ho fun h'' he' sb => ?_⟩
    have hT2 : h''.get? s.heap.objs.size = some { cls := .type "tuple", data := .seq #[.int i tk, y] } :=
      (sb.2 _ (Nat.ne_of_gt hel)).trans hT
    have new : ObjOk X.prog X.w (upd H s.heap.objs.size (.tup [.int (i : Nat), x])) h'' s.heap.objs.size (.tup [.int (i : Nat), x]) :=
      ⟨by show 2 ≤ sizeLine; decide, [.int i tk, y], .cons ⟨_, rfl⟩ (.cons ru .nil), ⟨_, hT2, rfl, _, rfl⟩⟩
    have I1 : Inv X pins σ (upd H s.heap.objs.size (.tup [.int (i : Nat), x])) { s with heap := h'', toks := tk + 1 } :=
      I.turnedNew (ch := [e, it]) (fun b ob hb q => (sb.2 b (fun z => hb (by simp [z]))).trans
        (hk b ob (fun z => hb (by simp [z])) (fun z => hb (by simp [z])) q)) hf (Nat.le_refl _) new
    refine ⟨.ref s.heap.objs.size, _, I1, rfl, ⟨_, x, rfl, I.hok.fresh (Nat.le_refl _), rfl, fun ys hy => by rw [I.tuple_inj hy hq]; exact hx⟩,
      ⟨⟨y, ?_⟩, hit'.1.at fun o q => (sb.2 it (Ne.symm hne)).trans q, hne⟩, fun b hb => ?_⟩
    · have e1 : ((i + 1 : Nat) : Int) = (i : Int) + 1 := by omega
      rw [e1]
      exact he'
    · have hb' : b < s.heap.objs.size := by
        have e' : b = e ∨ b = it := by simpa using hb
        rcases e' with z | z
        · subst z; exact hel
        · subst z; exact hil
      rw [upd_ne (Nat.ne_of_lt hb')]
      exact (hf b hb).1
  done := by
    intro X hP hw hK hc i pins s σ H E I hf st hg
    subst hP hw hK
    obtain ⟨⟨old, he⟩, hit, hne⟩ := st
    obtain ⟨xs, hq, hx⟩ := hg
    obtain ⟨its, rv, p, hz⟩ := I.tuple hq
    obtain ⟨f0, f1, f2, f3, f4, f5⟩ := hf it (by simp)
    have hl := rv.length
    have hp : s.heap.IsTuple a its.toArray := p
    refine wpAny_pyNext_enum_endD (drawsE (A := X.A.in1) (I.ok.hd hc) it a its.toArray i (by simp; omega)) he ⟨hit, hp⟩ fun h' eb => ?_
    exact ⟨rfl, I.turned (t' := s.toks) (fun b o hb q => eb b o hb q) f0 f1 f3 f4 f5⟩
  self := fun A i s Q E st h => by
    obtain ⟨⟨_, he⟩, _⟩ := st
    exact wpAny_pyIter_enum he h
def iEnumA (K : PySem.W.Frag) (ta : TA) : TI := fun σ H R => ta σ H fun vs H1 => ∃ a xs, vs = [.ref a] ∧ ((SqL K H1 a xs ∧ R (Ite K a) H1) ∨ (SqT K H1 a xs ∧ R (IteT K a) H1))
theorem pi_enumA {X : Cx} {e : Expr} {ta : TA} {p pos tpos : Pos} {elts : List Expr} {kk : Nat} (hg : Gl X "enumerate") (hm : X.mg "enumerate" = none) (ha : PA X [e] ta)
    (hs : starEach [e] X.env = [(false, eval e X.env)] := by rfl) : PI X (.Tuple elts kk tpos) (.Call (.Name "enumerate" p) [e] [] pos) (iEnumA X.K ta) := by
  refine ⟨fun pins s σ H R I h => ?_⟩
  refine Call_ (ld_blt I hg hm boot_enumerate (PyProof.Rows.callWith_type1 (thn (ha.run pos pins s σ H _ I h) fun us s1 ⟨vs, H1, I1, r1, q1⟩ => ?_) hs rfl))
  obtain ⟨a, xs, ex, q1⟩ := q1
  subst ex
  cases r1 with
  | cons r rr =>
    cases rr
    cases r
    have fr : ∀ b, b ∈ [s1.heap.objs.size + 1, s1.heap.objs.size] → FpOk X pins H1 b := fun b hb => by
      have e' : b = s1.heap.objs.size + 1 ∨ b = s1.heap.objs.size := by simpa using hb
      have hle : s1.heap.objs.size ≤ b := by omega
      exact I1.fpOk hle (I1.hok.fresh hle)
    rcases q1 with ⟨hq, q⟩ | ⟨hq, q⟩
    · obtain ⟨its, rv, p', hz⟩ := I1.list hq
      refine call_enumerate_list p'.isList fun h' he hit hsz hk => wpAny_pyIter_enum he ?_
      have I2 : Inv X pins σ H1 { s1 with heap := h' } := I1.kept (t' := s1.toks) hk
      exact ⟨s1.heap.objs.size + 1, [s1.heap.objs.size + 1, s1.heap.objs.size], _, _, H1, rfl, I2, turn_enum a (s1.heap.objs.size + 1) s1.heap.objs.size, ⟨⟨.none, he⟩, hit, Nat.succ_ne_self _⟩, fr, q⟩
    · obtain ⟨its, rv, p', hz⟩ := I1.tuple hq
      have hp : s1.heap.IsTuple a its.toArray := p'
      have hl : a < s1.heap.objs.size := p'.lt
      refine call_enum_tuple hp fun h' he hit hk => wpAny_pyIter_enum he ?_
      have I2 : Inv X pins σ H1 { s1 with heap := h' } := I1.kept (t' := s1.toks) hk
      exact ⟨s1.heap.objs.size + 1, [s1.heap.objs.size + 1, s1.heap.objs.size], _, _, H1, rfl, I2,
        turn_enumT a (s1.heap.objs.size + 1) s1.heap.objs.size (Nat.ne_of_lt hl) (Nat.ne_of_gt (Nat.lt_succ_of_lt hl)), ⟨⟨.none, he⟩, hit, Nat.succ_ne_self _⟩, fr, q⟩
end Mv

set_option Elab.async false
set_option linter.all false
set_option maxRecDepth 100000
set_option maxHeartbeats 4000000
/-! What a piece of code yields, told over data alone: no heap, no addresses; lists that a def changes by place of its slots. -/
namespace Mv
open PySem PySem.Spec PyProof.Rows L2

/-! ### data -/
inductive Dt where
  | non | bl (b : Bool) | int (i : Int) | str (s : Str) | lst (ds : List Dt) | tup (ds : List Dt) | ob (C : Addr) (fs : List (Str × Dt)) | ptr (a : Addr)

mutual
inductive Dr (K : PySem.W.Frag) (G : Hp) : V → Dt → Prop
  | non : Dr K G .non .non
  | bl (b : Bool) : Dr K G (.bl b) (.bl b)
  | int (i : Int) : Dr K G (.int i) (.int i)
  | str (x : Str) : Dr K G (.str x) (.str x)
  | ptr (a : Addr) : Dr K G (.ref a) (.ptr a)
  | lst {a : Addr} {xs : List V} {ds : List Dt} : SqL K G a xs → Da K G xs ds → Dr K G (.ref a) (.lst ds)
  | tup {a : Addr} {xs : List V} {ds : List Dt} : SqT K G a xs → Da K G xs ds → Dr K G (.ref a) (.tup ds)
  | ob {a C dx : Addr} {fs : List (Str × V)} {ds : List (Str × Dt)} : G a = some (.ins C dx fs) → Df K G fs ds → Dr K G (.ref a) (.ob C ds)
inductive Da (K : PySem.W.Frag) (G : Hp) : List V → List Dt → Prop
  | nil : Da K G [] []
  | cons {v : V} {vs : List V} {d : Dt} {ds : List Dt} : Dr K G v d → Da K G vs ds → Da K G (v :: vs) (d :: ds)
inductive Df (K : PySem.W.Frag) (G : Hp) : List (Str × V) → List (Str × Dt) → Prop
  | nil : Df K G [] []
  | cons {f : Str} {v : V} {vs : List (Str × V)} {d : Dt} {ds : List (Str × Dt)} : Dr K G v d → Df K G vs ds → Df K G ((f, v) :: vs) ((f, d) :: ds)
end
theorem same_rd {H H' : Hp} {a : Addr} {u : HO} (e : Same H H') (h : Rd H a u) : Rd H' a u := by
  rcases h with h | ⟨o, h⟩
  · exact .inl (e _ _ h)
  · exact .inr ⟨o, e _ _ h⟩
theorem same_l {K : PySem.W.Frag} {H H' : Hp} {a : Addr} {xs : List V} (e : Same H H') (h : SqL K H a xs) : SqL K H' a xs := by
  rcases h with h | h
  · exact .inl (same_rd e h)
  · exact .inr h
theorem same_t {K : PySem.W.Frag} {H H' : Hp} {a : Addr} {xs : List V} (e : Same H H') (h : SqT K H a xs) : SqT K H' a xs := by
  rcases h with h | h
  · exact .inl (same_rd e h)
  · exact .inr h
section
variable {K : PySem.W.Frag} {G G' : Hp} (e : Same G G')
include e
theorem Dr.mono {v : V} {d : Dt} (h : Dr K G v d) : Dr K G' v d :=
  Dr.rec (motive_1 := fun v d _ => Dr K G' v d) (motive_2 := fun v d _ => Da K G' v d) (motive_3 := fun v d _ => Df K G' v d)
    .non .bl .int .str .ptr (fun s _ q => .lst (same_l e s) q) (fun s _ q => .tup (same_t e s) q) (fun s _ q => .ob (e _ _ s) q) .nil (fun _ _ p q => .cons p q) .nil (fun _ _ p q => .cons p q) h
theorem Df.mono {v : List (Str × V)} {d : List (Str × Dt)} (h : Df K G v d) : Df K G' v d :=
  Df.rec (motive_1 := fun v d _ => Dr K G' v d) (motive_2 := fun v d _ => Da K G' v d) (motive_3 := fun v d _ => Df K G' v d)
    .non .bl .int .str .ptr (fun s _ q => .lst (same_l e s) q) (fun s _ q => .tup (same_t e s) q) (fun s _ q => .ob (e _ _ s) q) .nil (fun _ _ p q => .cons p q) .nil (fun _ _ p q => .cons p q) h
theorem Da.mono {v : List V} {d : List Dt} (h : Da K G v d) : Da K G' v d :=
  Da.rec (motive_1 := fun v d _ => Dr K G' v d) (motive_2 := fun v d _ => Da K G' v d) (motive_3 := fun v d _ => Df K G' v d)
    .non .bl .int .str .ptr (fun s _ q => .lst (same_l e s) q) (fun s _ q => .tup (same_t e s) q) (fun s _ q => .ob (e _ _ s) q) .nil (fun _ _ p q => .cons p q) .nil (fun _ _ p q => .cons p q) h
end
section
variable {K : PySem.W.Frag} {G : Hp}
theorem Da.length : ∀ {vs : List V} {ds : List Dt}, Da K G vs ds → vs.length = ds.length
  | _, _, .nil => rfl
  | _, _, .cons _ t => by rw [List.length_cons, List.length_cons, Da.length t]
theorem Da.get : ∀ {vs : List V} {ds : List Dt} {i : Nat} {d : Dt}, Da K G vs ds → ds[i]? = some d → ∃ v, vs[i]? = some v ∧ Dr K G v d
  | _, _, _, _, .nil, h => by simp at h
  | _, _, 0, _, .cons r _, h => by simp at h; subst h; exact ⟨_, rfl, r⟩
  | _, _, i + 1, _, .cons _ t, h => by
    obtain ⟨v, h1, h2⟩ := Da.get (i := i) t (by simpa using h)
    exact ⟨v, by simpa using h1, h2⟩
theorem Da.get' : ∀ {vs : List V} {ds : List Dt} {i : Nat} {v : V}, Da K G vs ds → vs[i]? = some v → ∃ d, ds[i]? = some d ∧ Dr K G v d
  | _, _, _, _, .nil, h => by simp at h
  | _, _, 0, _, .cons r _, h => by simp at h; subst h; exact ⟨_, rfl, r⟩
  | _, _, i + 1, _, .cons _ t, h => by
    obtain ⟨v, h1, h2⟩ := Da.get' (i := i) t (by simpa using h)
    exact ⟨v, by simpa using h1, h2⟩
theorem Da.append : ∀ {vs ws : List V} {ds es : List Dt}, Da K G vs ds → Da K G ws es → Da K G (vs ++ ws) (ds ++ es)
  | _, _, _, _, .nil, q => q
  | _, _, _, _, .cons r t, q => .cons r (Da.append t q)
theorem Da.set : ∀ {vs : List V} {ds : List Dt} {v : V} {d : Dt} (i : Nat), Da K G vs ds → Dr K G v d → Da K G (vs.set i v) (ds.set i d)
  | _, _, _, _, _, .nil, _ => .nil
  | _, _, _, _, 0, .cons _ t, q => .cons q t
  | _, _, _, _, i + 1, .cons r t, q => .cons r (Da.set i t q)
theorem Da.drop : ∀ {vs : List V} {ds : List Dt} (i : Nat), Da K G vs ds → Da K G (vs.drop i) (ds.drop i)
  | _, _, 0, q => q
  | _, _, _ + 1, .nil => .nil
  | _, _, i + 1, .cons _ t => Da.drop i t
theorem Da.take : ∀ {vs : List V} {ds : List Dt} (i : Nat), Da K G vs ds → Da K G (vs.take i) (ds.take i)
  | _, _, 0, _ => .nil
  | _, _, _ + 1, .nil => .nil
  | _, _, i + 1, .cons r t => .cons r (Da.take i t)
theorem Da.ints : ∀ {ns : List Int}, Da K G (ns.map V.int) (ns.map Dt.int)
  | [] => .nil
  | _ :: _ => .cons (.int _) Da.ints
theorem Da.ints_inv : ∀ {vs : List V} {ns : List Int}, Da K G vs (ns.map Dt.int) → vs = ns.map V.int
  | _, [], h => by cases h; rfl
  | _, n :: r, h => by
    cases h with
    | cons h1 h2 =>
      cases h1
      rw [Da.ints_inv h2]
      rfl
end

/-- the entries of a dict whose keys are ints -/
inductive Dk (K : PySem.W.Frag) (G : Hp) : List (Key × V) → List (Int × Dt) → Prop
  | nil : Dk K G [] []
  | cons {k : Int} {v : V} {vs : List (Key × V)} {d : Dt} {ds : List (Int × Dt)} : Dr K G v d → Dk K G vs ds → Dk K G ((Sum.inl k, v) :: vs) ((k, d) :: ds)
theorem Dk.mono {K : PySem.W.Frag} {G G' : Hp} (e : Same G G') : ∀ {vs : List (Key × V)} {ds : List (Int × Dt)}, Dk K G vs ds → Dk K G' vs ds
  | _, _, .nil => .nil
  | _, _, .cons r t => .cons (r.mono e) (Dk.mono e t)

/-! ### what may change, and what holds of it -/
instance : Membership Addr (Addr → Prop) := ⟨fun s a => s a⟩
/-- the draws: a list at h of the list at d and a place in it -/
def HandAt (h d : Addr) (H : Hp) : Prop := ∃ (ns : List Int) (i : Int), H h = some (.lst [.ref d, .int i]) ∧ H d = some (.lst (ns.map V.int)) ∧ 0 ≤ i
/-- the draws: a list at h of what is left of them -/
def Hand1 (h : Addr) (H : Hp) : Prop := ∃ ns : List Int, H h = some (.lst (ns.map V.int)) ∧ ns.length ≤ 1000
/-- the draws of a tape: a dict at p, its cells the list at c -/
def tapeV (c : Addr) (a g l s t : Int) : List (Key × V) := [(Sum.inr ("cells" : Str), .ref c), (Sum.inr ("at" : Str), .int a), (Sum.inr ("great" : Str), .int g), (Sum.inr ("left" : Str), .int l), (Sum.inr ("seed" : Str), .int s), (Sum.inr ("turn" : Str), .int t)]
def TapeAt (p c : Addr) (H : Hp) : Prop := ∃ (ns : List Int) (a g l s t : Int), H p = some (.dK (tapeV c a g l s t)) ∧ H c = some (.lst (ns.map V.int)) ∧ 0 ≤ a ∧ ns.length ≤ 63
inductive Hk where
  | two (h d : Addr) | one (h : Addr) | tap (p c : Addr)
def Hk.pt : Hk → Addr
  | .two h _ => h
  | .one h => h
  | .tap p _ => p
def Hk.ok : Hk → Hp → Prop
  | .two h d => HandAt h d
  | .one h => Hand1 h
  | .tap p c => TapeAt p c
structure Jm where
  ms : Addr → Prop
  ok : Hp → Prop
  st : ∀ H H', ok H → (∀ b, b ∈ ms → H' b = H b) → ok H'
  hd : Option Hk
  hm : ∀ k, hd = some k → k.pt ∈ ms
  hg : ∀ k H, hd = some k → ok H → k.ok H
  hp : ∀ k H H', hd = some k → ok H → k.ok H' → (∀ b, b ∈ ms → b ≠ k.pt → H' b = H b) → ok H'
  tr : Hp → Prop
  trm : ∀ G G', Same G G' → tr G → tr G'
/-- behind a piece of code: G what is known for good, H the heap -/
structure Nx (J : Jm) (G H G' H' : Hp) : Prop where
  gg : Same G G'
  gh : Same G' H'
  fr : ∀ b, G b = none → H b ≠ none → G' b = none
  kp : ∀ b o, H b = some o → b ∉ J.ms → H' b = some o
  th : ∀ b, H b ≠ none → H' b ≠ none
  ok : J.ok H'
structure Wf (J : Jm) (G H : Hp) : Prop where
  gh : Same G H
  ok : J.ok H
  ms : ∀ m, m ∈ J.ms → G m = none ∧ H m ≠ none
  tr : J.tr G
section
variable {J : Jm} {G H G' H' G2 H2 : Hp}
theorem Wf.nx (w : Wf J G H) : Nx J G H G H := ⟨Same.refl _, w.gh, fun _ h _ => h, fun _ _ h _ => h, fun _ h => h, w.ok⟩
theorem Nx.wf (n : Nx J G H G' H') (w : Wf J G H) : Wf J G' H' := ⟨n.gh, n.ok, fun m hm => ⟨n.fr m (w.ms m hm).1 (w.ms m hm).2, n.th m (w.ms m hm).2⟩, J.trm G G' n.gg w.tr⟩
theorem Nx.trans (a : Nx J G H G' H') (b : Nx J G' H' G2 H2) : Nx J G H G2 H2 :=
  ⟨a.gg.trans b.gg, b.gh, fun x h1 h2 => b.fr x (a.fr x h1 h2) (a.th x h2), fun x o h1 h2 => b.kp x o (a.kp x o h1 h2) h2, fun x h => b.th x (a.th x h), b.ok⟩
theorem Wf.free (w : Wf J G H) {p : Addr} (h : H p = none) : G p = none := by
  cases q : G p with
  | none => rfl
  | some o => rw [w.gh p o q] at h; cases h
theorem Wf.notin (w : Wf J G H) {p : Addr} (h : H p = none) : p ∉ J.ms := fun hm => (w.ms p hm).2 h
/-- a new object that is data from now on -/
theorem Wf.new (w : Wf J G H) {p : Addr} (h : H p = none) (o : HO) : Nx J G H (upd G p o) (upd H p o) := by
  refine ⟨fun b u e => ?_, fun b u e => ?_, fun b h1 h2 => ?_, fun b u e _ => ?_, fun b hb => ?_, J.st H _ w.ok fun b hb => ?_⟩
  · rw [upd_ne (ne_of_none e (w.free h))]; exact e
  · by_cases hb : b = p
    · subst hb; rw [upd_same] at e ⊢; exact e
    · rw [upd_ne hb] at e ⊢; exact w.gh b u e
  · have hb : b ≠ p := fun z => h2 (z ▸ h)
    rw [upd_ne hb]; exact h1
  · rw [upd_ne (ne_of_none e h)]; exact e
  · have hn : b ≠ p := fun z => hb (z ▸ h)
    rw [upd_ne hn]; exact hb
  · have hn : b ≠ p := fun z => w.notin h (z ▸ hb)
    rw [upd_ne hn]
/-- a new object of its own -/
theorem Wf.newM (w : Wf J G H) {p : Addr} (h : H p = none) (o : HO) : Nx J G H G (upd H p o) := by
  refine ⟨Same.refl _, fun b u e => ?_, fun b h1 _ => h1, fun b u e _ => ?_, fun b hb => ?_, J.st H _ w.ok fun b hb => ?_⟩
  · rw [upd_ne (ne_of_none (w.gh b u e) h)]; exact w.gh b u e
  · rw [upd_ne (ne_of_none e h)]; exact e
  · have hn : b ≠ p := fun z => hb (z ▸ h)
    rw [upd_ne hn]; exact hb
  · have hn : b ≠ p := fun z => w.notin h (z ▸ hb)
    rw [upd_ne hn]
/-- a list of the def's own changes -/
theorem Nx.mut {B GB : Hp} (n : Nx J GB B G H) {p : Addr} {o o' : HO} (hB : B p = none) (hG : G p = none) (hm : p ∉ J.ms) (hH : H p = some o) : Nx J GB B G (upd H p o') := by
  refine ⟨n.gg, fun b u e => ?_, n.fr, fun b u e hb => ?_, fun b hb => ?_, J.st H _ n.ok fun b hb => ?_⟩
  · rw [upd_ne (ne_of_none e hG)]; exact n.gh b u e
  · rw [upd_ne (ne_of_none e hB)]; exact n.kp b u e hb
  · by_cases z : b = p
    · subst z; rw [upd_same]; simp
    · rw [upd_ne z]; exact n.th b hb
  · have hn : b ≠ p := fun z => hm (z ▸ hb)
    rw [upd_ne hn]
/-- it is data from now on -/
theorem Nx.fix {B GB : Hp} (n : Nx J GB B G H) {p : Addr} {o : HO} (hB : B p = none) (hG : G p = none) (hH : H p = some o) : Nx J GB B (upd G p o) H := by
  refine ⟨fun b u e => ?_, fun b u e => ?_, fun b h1 h2 => ?_, n.kp, n.th, n.ok⟩
  · have e2 := n.gg b u e
    rw [upd_ne (ne_of_none e2 hG)]; exact e2
  · by_cases hb : b = p
    · subst hb; rw [upd_same] at e; rw [hH]; exact e
    · rw [upd_ne hb] at e; exact n.gh b u e
  · have hn : b ≠ p := fun z => h2 (z ▸ hB)
    rw [upd_ne hn]; exact n.fr b h1 h2
end
def Jh (h d : Addr) : Jm where
  ms := fun b => b = h ∨ b = d
  ok := HandAt h d
  st := fun H H' ⟨ns, i, a, b, c⟩ k => ⟨ns, i, by rw [k h (.inl rfl)]; exact a, by rw [k d (.inr rfl)]; exact b, c⟩
  hd := some (.two h d)
  hm := fun k e => by cases e; exact .inl rfl
  hg := fun k H e o => by cases e; exact o
  hp := fun k H H' e o o' _ => by cases e; exact o'
  tr := fun _ => True
  trm := fun _ _ _ _ => trivial
def Jo (h : Addr) : Jm where
  ms := fun b => b = h
  ok := Hand1 h
  st := fun H H' ⟨ns, a, c⟩ k => ⟨ns, by rw [k h rfl]; exact a, c⟩
  hd := some (.one h)
  hm := fun k e => by cases e; exact rfl
  hg := fun k H e o => by cases e; exact o
  hp := fun k H H' e o o' _ => by cases e; exact o'
  tr := fun _ => True
  trm := fun _ _ _ _ => trivial
def J0 : Jm where
  ms := fun _ => False
  ok := fun _ => True
  st := fun _ _ _ _ => trivial
  hd := none
  hm := fun k e => nomatch e
  hg := fun k H e o => nomatch e
  hp := fun k H H' e o o' _ => nomatch e
  tr := fun _ => True
  trm := fun _ _ _ _ => trivial
theorem wf0 (H : Hp) : Wf J0 H H := ⟨Same.refl _, trivial, fun m hm => hm.elim, trivial⟩

/-! ### the slots -/
inductive Sl where
  | no | d (x : Dt) | ml (xs : List Dt) | hand | hnd | tap | xv (a d : Addr) (fs : List (Str × Dt)) | mi (p C : Addr) (fs : List (Str × Dt)) | md (kvs : List (Int × Dt))
def Sv1 (K : PySem.W.Frag) (J : Jm) (G : Hp) (v : V) : Sl → Prop
  | .d x => Dr K G v x
  | .hand => ∃ h d, v = .ref h ∧ J.hd = some (.two h d)
  | .hnd => ∃ h, v = .ref h ∧ J.hd = some (.one h)
  | .tap => ∃ p c, v = .ref p ∧ J.hd = some (.tap p c)
  | _ => False
def SlOk (K : PySem.W.Frag) (J : Jm) (B G H : Hp) (ov : Option V) : Sl → Prop
  | .no => True
  | .d x => ∃ v, ov = some v ∧ Dr K G v x
  | .ml xs => ∃ p vs, ov = some (.ref p) ∧ B p = none ∧ G p = none ∧ p ∉ J.ms ∧ H p = some (.lst vs) ∧ Da K G vs xs
  | .hand => ∃ h d, ov = some (.ref h) ∧ J.hd = some (.two h d)
  | .hnd => ∃ h, ov = some (.ref h) ∧ J.hd = some (.one h)
  | .tap => ∃ p c, ov = some (.ref p) ∧ J.hd = some (.tap p c)
  | .xv a d fs => ov = some (.ref a) ∧ ∃ vs, G d = some (.xd vs) ∧ Df K G vs fs
  | .mi p C fs => ∃ dx vs, ov = some (.ref p) ∧ B p = none ∧ G p = none ∧ p ∉ J.ms ∧ H p = some (.ins C dx vs) ∧ Df K G vs fs
  | .md kvs => ∃ p vs, ov = some (.ref p) ∧ B p = none ∧ G p = none ∧ p ∉ J.ms ∧ H p = some (.dK vs) ∧ Dk K G vs kvs
structure En (K : PySem.W.Frag) (J : Jm) (B G H : Hp) (σ : L2.St) (env : List Sl) : Prop where
  len : σ.length = env.length
  ok : ∀ (i : Nat) (s : Sl), env[i]? = some s → ∃ ov : Option V, σ[i]? = some ov ∧ SlOk K J B G H ov s
  ap : ∀ (i j : Nat) (p : Addr), i ≠ j → (∃ xs, env[i]? = some (.ml xs)) → (∃ ys, env[j]? = some (.ml ys)) → σ[i]? = some (some (.ref p)) → σ[j]? = some (some (.ref p)) → False
section
variable {K : PySem.W.Frag} {J : Jm} {B G H G' H' : Hp} {σ : L2.St} {env : List Sl}
theorem SlOk.mono {ov : Option V} {s : Sl} (n : Nx J G H G' H') (h : SlOk K J B G H ov s) : SlOk K J B G' H' ov s := by
  cases s with
  | no => trivial
  | d x => obtain ⟨v, e, r⟩ := h; exact ⟨v, e, r.mono n.gg⟩
  | ml xs => obtain ⟨p, vs, e, hB, hG, hm, hH, r⟩ := h; exact ⟨p, vs, e, hB, n.fr p hG (by rw [hH]; simp), hm, n.kp p _ hH hm, r.mono n.gg⟩
  | hand => exact h
  | hnd => exact h
  | tap => exact h
  | xv a d fs => obtain ⟨e, vs, g, r⟩ := h; exact ⟨e, vs, n.gg _ _ g, r.mono n.gg⟩
  | mi p C fs => obtain ⟨dx, vs, e, hB, hG, hm, hH, r⟩ := h; exact ⟨dx, vs, e, hB, n.fr p hG (by rw [hH]; simp), hm, n.kp p _ hH hm, r.mono n.gg⟩
  | md kvs => obtain ⟨p, vs, e, hB, hG, hm, hH, r⟩ := h; exact ⟨p, vs, e, hB, n.fr p hG (by rw [hH]; simp), hm, n.kp p _ hH hm, r.mono n.gg⟩
theorem En.mono (E : En K J B G H σ env) (n : Nx J G H G' H') : En K J B G' H' σ env :=
  ⟨E.len, fun i s h => let ⟨ov, a, b⟩ := E.ok i s h; ⟨ov, a, b.mono n⟩, E.ap⟩
theorem En.dat (E : En K J B G H σ env) {i : Nat} {x : Dt} (h : env[i]? = some (.d x)) : ∃ v, σ[i]? = some (some v) ∧ Dr K G v x := by
  obtain ⟨ov, a, v, b, c⟩ := E.ok i _ h
  exact ⟨v, by rw [a, b], c⟩
theorem En.setD (E : En K J B G H σ env) {i : Nat} {v : V} {x : Dt} (r : Dr K G v x) : En K J B G H (σ.set i (some v)) (env.set i (.d x)) := by
  refine ⟨by simp [E.len], fun k s h => ?_, fun k j p hne hk hj h1 h2 => ?_⟩
  · by_cases e : i = k
    · subst e
      by_cases hi : i < env.length
      · rw [List.getElem?_set_self hi] at h
        cases h
        exact ⟨some v, by rw [List.getElem?_set_self (by rw [E.len]; exact hi)], v, rfl, r⟩
      · rw [List.getElem?_eq_none (by simpa using hi)] at h; cases h
    · rw [List.getElem?_set_ne e] at h
      rw [List.getElem?_set_ne e]
      exact E.ok k s h
  · obtain ⟨xs, hk⟩ := hk
    obtain ⟨ys, hj⟩ := hj
    have ek : i ≠ k := fun e => by
      subst e
      by_cases hi : i < env.length
      · rw [List.getElem?_set_self hi] at hk; cases hk
      · rw [List.getElem?_eq_none (by simpa using hi)] at hk; cases hk
    have ej : i ≠ j := fun e => by
      subst e
      by_cases hi : i < env.length
      · rw [List.getElem?_set_self hi] at hj; cases hj
      · rw [List.getElem?_eq_none (by simpa using hi)] at hj; cases hj
    rw [List.getElem?_set_ne ek] at hk h1
    rw [List.getElem?_set_ne ej] at hj h2
    exact E.ap k j p hne ⟨xs, hk⟩ ⟨ys, hj⟩ h1 h2
theorem En.setM (E : En K J B G H σ env) {i : Nat} {p : Addr} {vs : List V} {xs : List Dt} (hB : B p = none) (hG : G p = none) (hm : p ∉ J.ms) (hH : H p = some (.lst vs)) (r : Da K G vs xs)
    (hd : ∀ j, j ≠ i → (∃ ys, env[j]? = some (.ml ys)) → σ[j]? ≠ some (some (.ref p))) : En K J B G H (σ.set i (some (.ref p))) (env.set i (.ml xs)) := by
  refine ⟨by simp [E.len], fun k s h => ?_, fun k j q hne hk hj h1 h2 => ?_⟩
  · by_cases e : i = k
    · subst e
      by_cases hi : i < env.length
      · rw [List.getElem?_set_self hi] at h
        cases h
        exact ⟨_, by rw [List.getElem?_set_self (by rw [E.len]; exact hi)], p, vs, rfl, hB, hG, hm, hH, r⟩
      · rw [List.getElem?_eq_none (by simpa using hi)] at h; cases h
    · rw [List.getElem?_set_ne e] at h
      rw [List.getElem?_set_ne e]
      exact E.ok k s h
  · have hp : ∀ j, i = j → σ.set i (some (.ref p)) = σ.set i (some (.ref p)) → (σ.set i (some (V.ref p)))[j]? = some (some (.ref q)) → q = p := fun j e _ h => by
      subst e
      by_cases hi : i < σ.length
      · rw [List.getElem?_set_self hi] at h; cases h; rfl
      · rw [List.getElem?_eq_none (by simpa using hi)] at h; cases h
    obtain ⟨xk, hk⟩ := hk
    obtain ⟨xj, hj⟩ := hj
    by_cases ek : i = k
    · have ej : i ≠ j := fun e => hne (ek.symm.trans e)
      have := hp k ek rfl h1
      subst this
      rw [List.getElem?_set_ne ej] at hj h2
      exact hd j ej.symm ⟨xj, hj⟩ h2
    · by_cases ej : i = j
      · have := hp j ej rfl h2
        subst this
        rw [List.getElem?_set_ne ek] at hk h1
        exact hd k (fun z => ek z.symm) ⟨xk, hk⟩ h1
      · rw [List.getElem?_set_ne ek] at hk h1
        rw [List.getElem?_set_ne ej] at hj h2
        exact E.ap k j q hne ⟨xk, hk⟩ ⟨xj, hj⟩ h1 h2
/-- a slot forgotten -/
theorem En.setN (E : En K J B G H σ env) {i : Nat} {ov : Option V} : En K J B G H (σ.set i ov) (env.set i .no) := by
  refine ⟨by simp [E.len], fun k s h => ?_, fun k j p hne hk hj h1 h2 => ?_⟩
  · by_cases e : i = k
    · subst e
      by_cases hi : i < env.length
      · rw [List.getElem?_set_self hi] at h
        cases h
        exact ⟨ov, by rw [List.getElem?_set_self (by rw [E.len]; exact hi)], trivial⟩
      · rw [List.getElem?_eq_none (by simpa using hi)] at h; cases h
    · rw [List.getElem?_set_ne e] at h
      rw [List.getElem?_set_ne e]
      exact E.ok k s h
  · obtain ⟨xs, hk⟩ := hk
    obtain ⟨ys, hj⟩ := hj
    have ek : i ≠ k := fun e => by
      subst e
      by_cases hi : i < env.length
      · rw [List.getElem?_set_self hi] at hk; cases hk
      · rw [List.getElem?_eq_none (by simpa using hi)] at hk; cases hk
    have ej : i ≠ j := fun e => by
      subst e
      by_cases hi : i < env.length
      · rw [List.getElem?_set_self hi] at hj; cases hj
      · rw [List.getElem?_eq_none (by simpa using hi)] at hj; cases hj
    rw [List.getElem?_set_ne ek] at hk h1
    rw [List.getElem?_set_ne ej] at hj h2
    exact E.ap k j p hne ⟨xs, hk⟩ ⟨ys, hj⟩ h1 h2
/-- the heap changes at a list of a slot -/
theorem En.upd1 (E : En K J B G H σ env) {i : Nat} {p : Addr} {ys zs : List Dt} {vs : List V} (hl : env[i]? = some (.ml ys)) (hs : σ[i]? = some (some (.ref p))) (r : Da K G vs zs) : En K J B G (upd H p (.lst vs)) σ (env.set i (.ml zs)) := by
  have hi : i < env.length := (List.getElem?_eq_some_iff.mp hl).1
  refine ⟨by simp [E.len], fun k s h => ?_, fun k j q hne hk hj h1 h2 => ?_⟩
  · by_cases e : i = k
    · subst e
      rw [List.getElem?_set_self hi] at h
      cases h
      obtain ⟨ov, h1, p', vs', h2, hB, hG, hm, hH, _⟩ := E.ok i _ hl
      rw [h1, h2] at hs
      cases hs
      exact ⟨_, by rw [h1, h2], p, vs, rfl, hB, hG, hm, upd_same, r⟩
    · rw [List.getElem?_set_ne e] at h
      obtain ⟨ov, h1, h2⟩ := E.ok k s h
      refine ⟨ov, h1, ?_⟩
      cases s with
      | no => trivial
      | d x => exact h2
      | hand => exact h2
      | hnd => exact h2
      | tap => exact h2
      | xv a d fs => exact h2
      | md kvs =>
        obtain ⟨q, us, h3, hB, hG, hm, hH, rr⟩ := h2
        obtain ⟨ov0, g1, p0, us0, g2, _, _, _, g3, _⟩ := E.ok i _ hl
        rw [g1, g2] at hs
        cases hs
        refine ⟨q, us, h3, hB, hG, hm, ?_, rr⟩
        rw [upd_ne (ne_of hH g3 (by intro z; cases z))]
        exact hH
      | mi q C fs =>
        obtain ⟨dx, us, h3, hB, hG, hm, hH, rr⟩ := h2
        obtain ⟨ov0, g1, p0, us0, g2, _, _, _, g3, _⟩ := E.ok i _ hl
        rw [g1, g2] at hs
        cases hs
        refine ⟨dx, us, h3, hB, hG, hm, ?_, rr⟩
        rw [upd_ne (ne_of hH g3 (by intro z; cases z))]
        exact hH
      | ml xs =>
        obtain ⟨q, us, h3, hB, hG, hm, hH, rr⟩ := h2
        refine ⟨q, us, h3, hB, hG, hm, ?_, rr⟩
        have : q ≠ p := fun z => by
          subst z
          exact E.ap i k q e ⟨_, hl⟩ ⟨_, h⟩ hs (by rw [h1, h3])
        rw [upd_ne this]
        exact hH
  · have back : ∀ m : Nat, (∃ xs, (env.set i (.ml zs))[m]? = some (Sl.ml xs)) → ∃ xs, env[m]? = some (Sl.ml xs) := fun m ⟨xs, h⟩ => by
      by_cases e : i = m
      · subst e; exact ⟨_, hl⟩
      · rw [List.getElem?_set_ne e] at h; exact ⟨xs, h⟩
    exact E.ap k j q hne (back k hk) (back j hj) h1 h2
end
end Mv

set_option Elab.async false
set_option linter.all false
set_option maxRecDepth 100000
set_option maxHeartbeats 4000000
namespace Mv
open PySem PySem.Spec PyProof.Rows L2

/-! ### judgements: a term of the layer, told over data -/
section
variable (K : PySem.W.Frag) (J : Jm) (env : List Sl)
/-- an expression gives data of which R holds -/
def Ev (te : TE) (R : Dt → Prop) : Prop := ∀ (B G H : Hp) (σ : L2.St), Wf J G H → En K J B G H σ env → ∀ Q : VK, (∀ v d G' H', Nx J G H G' H' → Dr K G' v d → R d → Q v H') → te σ H Q
/-- it gives a new list of which R holds -/
def Em (te : TE) (R : List Dt → Prop) : Prop := ∀ (B G H : Hp) (σ : L2.St), Wf J G H → En K J B G H σ env → ∀ Q : VK,
  (∀ p vs ds G' H', Nx J G H G' H' → G' p = none → H p = none → H' p = some (.lst vs) → Da K G' vs ds → R ds → Q (.ref p) H') → te σ H Q
def Et (tt : TT) (R : Bool → Prop) : Prop := ∀ (B G H : Hp) (σ : L2.St), Wf J G H → En K J B G H σ env → ∀ Q : Bool → Hp → Prop, (∀ b G' H', Nx J G H G' H' → R b → Q b H') → tt σ H Q
/-- arguments that are data -/
def Ed (ta : TA) (R : List Dt → Prop) : Prop := ∀ (B G H : Hp) (σ : L2.St), Wf J G H → En K J B G H σ env → ∀ Q : List V → Hp → Prop, (∀ vs ds G' H', Nx J G H G' H' → Da K G' vs ds → R ds → Q vs H') → ta σ H Q
/-- the one argument is the draws, or data -/
inductive SvA : Hp → List V → List Sl → Prop
  | nil {G : Hp} : SvA G [] []
  | cons {G : Hp} {v : V} {vs : List V} {s : Sl} {ss : List Sl} : Sv1 K J G v s → SvA G vs ss → SvA G (v :: vs) (s :: ss)
def Ea (ta : TA) (R : List Sl → Prop) : Prop := ∀ (B G H : Hp) (σ : L2.St), Wf J G H → En K J B G H σ env → ∀ Q : List V → Hp → Prop, (∀ vs ss G' H', Nx J G H G' H' → SvA K J G' vs ss → R ss → Q vs H') → ta σ H Q
/-- an operation on data -/
def O2 (r : R2) (x y : Dt) (R : Dt → Prop) : Prop := ∀ (G H : Hp) (vx vy : V), Wf J G H → Dr K G vx x → Dr K G vy y → ∀ Q : VK, (∀ v d G' H', Nx J G H G' H' → Dr K G' v d → R d → Q v H') → r vx vy H Q
def O1 (r : V → Hp → VK → Prop) (x : Dt) (R : Dt → Prop) : Prop := ∀ (G H : Hp) (vx : V), Wf J G H → Dr K G vx x → ∀ Q : VK, (∀ v d G' H', Nx J G H G' H' → Dr K G' v d → R d → Q v H') → r vx H Q
def Oc (r : List V → Hp → VK → Prop) (xs : List Dt) (R : Dt → Prop) : Prop := ∀ (G H : Hp) (vs : List V), Wf J G H → Da K G vs xs → ∀ Q : VK, (∀ v d G' H', Nx J G H G' H' → Dr K G' v d → R d → Q v H') → r vs H Q
/-- a target takes data: which slots it stores -/
def Gt (g : TG) (d : Dt) (S : List Nat) (R : List Sl → Prop) : Prop := ∀ (B G H : Hp) (σ : L2.St) (v : V), Wf J G H → En K J B G H σ env → Dr K G v d → ∀ Q : L2.St → Hp → Prop,
  (∀ env' σ', En K J B G H σ' env' → (σ'.length = σ.length ∧ ∀ i : Nat, i ∉ S → σ'[i]? = σ[i]?) → R env' → Q σ' H) → g v σ H Q
def Gs (g : TGs) (ds : List Dt) (S : List Nat) (R : List Sl → Prop) : Prop := ∀ (B G H : Hp) (σ : L2.St) (vs : List V), Wf J G H → En K J B G H σ env → Da K G vs ds → ∀ Q : L2.St → Hp → Prop,
  (∀ env' σ', En K J B G H σ' env' → (σ'.length = σ.length ∧ ∀ i : Nat, i ∉ S → σ'[i]? = σ[i]?) → R env' → Q σ' H) → g vs σ H Q
end
/-- what a walk gives, turn by turn -/
structure Wk (K : PySem.W.Frag) (J : Jm) (G : Hp) (I : It) (ds : List Dt) : Prop where
  go : ∀ i G1 H1, Same G G1 → Wf J G1 H1 → i < ds.length → I.go i H1
  stop : ∀ G1 H1, Same G G1 → Wf J G1 H1 → I.stop ds.length H1
  yld : ∀ i G1 H1 x H2, Same G G1 → Wf J G1 H1 → i < ds.length → I.yld i H1 x H2 → ∃ G2 d, Nx J G1 H1 G2 H2 ∧ ds[i]? = some d ∧ Dr K G2 x d
def Ei (K : PySem.W.Frag) (J : Jm) (env : List Sl) (wi : TI) (R : List Dt → Prop) : Prop := ∀ (B G H : Hp) (σ : L2.St), Wf J G H → En K J B G H σ env → ∀ Q : It → Hp → Prop,
  (∀ I ds G' H', Nx J G H G' H' → Wk K J G' I ds → R ds → Q I H') → wi σ H Q

section
variable {K : PySem.W.Frag} {J : Jm} {env : List Sl} {ta tb te : TE} {tt tu : TT} {R : Dt → Prop} {r : R2}
theorem Ev.imp {R' : Dt → Prop} (h : Ev K J env te R) (k : ∀ d, R d → R' d) : Ev K J env te R' := fun B G H σ w E Q q => h B G H σ w E Q fun v d G' H' n r x => q v d G' H' n r (k d x)
theorem Em.imp {R R' : List Dt → Prop} (h : Em K J env te R) (k : ∀ d, R d → R' d) : Em K J env te R' := fun B G H σ w E Q q => h B G H σ w E Q fun p vs d G' H' n a b c r x => q p vs d G' H' n a b c r (k d x)
theorem Et.imp {R R' : Bool → Prop} (h : Et K J env tt R) (k : ∀ d, R d → R' d) : Et K J env tt R' := fun B G H σ w E Q q => h B G H σ w E Q fun b G' H' n x => q b G' H' n (k b x)

theorem ev_var {i : Nat} {x : Dt} (h : env[i]? = some (.d x)) (k : R x) : Ev K J env (tVar i) R := fun B G H σ w E Q q => by
  obtain ⟨v, e, r⟩ := E.dat h
  exact ⟨v, e, q v x G H w.nx r k⟩
theorem ev_int {i : Int} (k : R (.int i)) : Ev K J env (tC (.int i)) R := fun B G H σ w E Q q => q _ _ G H w.nx (.int i) k
theorem ev_bl {i : Bool} (k : R (.bl i)) : Ev K J env (tC (.bl i)) R := fun B G H σ w E Q q => q _ _ G H w.nx (.bl i) k
theorem ev_str {i : Str} (k : R (.str i)) : Ev K J env (tC (.str i)) R := fun B G H σ w E Q q => q _ _ G H w.nx (.str i) k
theorem ev_non (k : R .non) : Ev K J env (tC .non) R := fun B G H σ w E Q q => q _ _ G H w.nx .non k
theorem ev_ref {a : Addr} {d : Dt} (hd : ∀ G, Dr K G (.ref a) d) (k : R d) : Ev K J env (tC (.ref a)) R := fun B G H σ w E Q q => q _ _ G H w.nx (hd G) k
theorem ev_op (h : Ev K J env ta fun x => Ev K J env tb fun y => O2 K J r x y R) : Ev K J env (tOp r ta tb) R := fun B G H σ w E Q q =>
  h B G H σ w E _ fun vx x G1 H1 n1 rx hb => hb B G1 H1 σ (n1.wf w) (E.mono n1) _ fun vy y G2 H2 n2 ry o =>
    o G2 H2 vx vy (n2.wf (n1.wf w)) (rx.mono n2.gg) ry Q fun v d G3 H3 n3 rd k => q v d G3 H3 ((n1.trans n2).trans n3) rd k
theorem ev_un {r : V → Hp → VK → Prop} (h : Ev K J env ta fun x => O1 K J r x R) : Ev K J env (tUn r ta) R := fun B G H σ w E Q q =>
  h B G H σ w E _ fun vx x G1 H1 n1 rx o => o G1 H1 vx (n1.wf w) rx Q fun v d G3 H3 n3 rd k => q v d G3 H3 (n1.trans n3) rd k
theorem ev_if (h : Et K J env tt fun b => (b = true → Ev K J env ta R) ∧ (b = false → Ev K J env tb R)) : Ev K J env (tIf tt ta tb) R := fun B G H σ w E Q q =>
  h B G H σ w E _ fun b G1 H1 n1 k => by
    cases b with
    | true => exact k.1 rfl B G1 H1 σ (n1.wf w) (E.mono n1) Q fun v d G2 H2 n2 r x => q v d G2 H2 (n1.trans n2) r x
    | false => exact k.2 rfl B G1 H1 σ (n1.wf w) (E.mono n1) Q fun v d G2 H2 n2 r x => q v d G2 H2 (n1.trans n2) r x
theorem ev_andV (h : Ev K J env ta fun x => ∃ b, x = .bl b ∧ (b = true → Ev K J env tb R) ∧ (b = false → R (.bl false))) : Ev K J env (tAndV ta tb) R := fun B G H σ w E Q q =>
  h B G H σ w E _ fun v d G1 H1 n1 rd ⟨b, e, k1, k2⟩ => by
    subst e
    cases rd
    refine ⟨b, rfl, ?_⟩
    cases b with
    | true => exact k1 rfl B G1 H1 σ (n1.wf w) (E.mono n1) Q fun v d G2 H2 n2 r x => q v d G2 H2 (n1.trans n2) r x
    | false => exact q _ _ G1 H1 n1 (.bl false) (k2 rfl)
theorem ev_orV (h : Ev K J env ta fun x => ∃ b, x = .bl b ∧ (b = true → R (.bl true)) ∧ (b = false → Ev K J env tb R)) : Ev K J env (tOrV ta tb) R := fun B G H σ w E Q q =>
  h B G H σ w E _ fun v d G1 H1 n1 rd ⟨b, e, k1, k2⟩ => by
    subst e
    cases rd
    refine ⟨b, rfl, ?_⟩
    cases b with
    | true => exact q _ _ G1 H1 n1 (.bl true) (k1 rfl)
    | false => exact k2 rfl B G1 H1 σ (n1.wf w) (E.mono n1) Q fun v d G2 H2 n2 r x => q v d G2 H2 (n1.trans n2) r x
theorem ev_notV (h : Ev K J env ta fun x => ∃ b, x = .bl b ∧ R (.bl (!b))) : Ev K J env (tNotV ta) R := fun B G H σ w E Q q =>
  h B G H σ w E _ fun v d G1 H1 n1 rd ⟨b, e, k1⟩ => by
    subst e
    cases rd
    exact ⟨b, rfl, q _ _ G1 H1 n1 (.bl _) k1⟩
/-! tests -/
theorem et_test {R : Bool → Prop} (h : Ev K J env te fun x => ∃ b, x = .bl b ∧ R b) : Et K J env (tTest te) R := fun B G H σ w E Q q =>
  h B G H σ w E _ fun v d G1 H1 n1 rd ⟨b, e, k⟩ => by
    subst e
    cases rd
    exact ⟨b, rfl, q b G1 H1 n1 k⟩
theorem et_B {R : Bool → Prop} (h : Ev K J env te fun x => ∃ b, x = .bl b ∧ R b) : Et K J env (tB te) R := fun B G H σ w E Q q =>
  h B G H σ w E _ fun v d G1 H1 n1 rd ⟨b, e, k⟩ => by
    subst e
    cases rd
    exact ⟨b, rfl, q b G1 H1 n1 k⟩
theorem et_and {R : Bool → Prop} (h : Et K J env tt fun b => (b = true → Et K J env tu R) ∧ (b = false → R false)) : Et K J env (tAnd tt tu) R := fun B G H σ w E Q q =>
  h B G H σ w E _ fun b G1 H1 n1 k => by
    cases b with
    | true => exact k.1 rfl B G1 H1 σ (n1.wf w) (E.mono n1) Q fun b G2 H2 n2 x => q b G2 H2 (n1.trans n2) x
    | false => exact q false G1 H1 n1 (k.2 rfl)
theorem et_or {R : Bool → Prop} (h : Et K J env tt fun b => (b = true → R true) ∧ (b = false → Et K J env tu R)) : Et K J env (tOr tt tu) R := fun B G H σ w E Q q =>
  h B G H σ w E _ fun b G1 H1 n1 k => by
    cases b with
    | true => exact q true G1 H1 n1 (k.1 rfl)
    | false => exact k.2 rfl B G1 H1 σ (n1.wf w) (E.mono n1) Q fun b G2 H2 n2 x => q b G2 H2 (n1.trans n2) x
theorem et_not {R : Bool → Prop} (h : Et K J env tt fun b => R (!b)) : Et K J env (tNot tt) R := fun B G H σ w E Q q =>
  h B G H σ w E _ fun b G1 H1 n1 k => q (!b) G1 H1 n1 k
theorem et_yes {R : Bool → Prop} (h : R true) : Et K J env tYes R := fun B G H σ w E Q q => q true G H w.nx h
/-! arguments -/
theorem ed_nil {R : List Dt → Prop} (h : R []) : Ed K J env tNil R := fun B G H σ w E Q q => q [] [] G H w.nx .nil h
theorem ed_cons {tr : TA} {R : List Dt → Prop} (h : Ev K J env ta fun x => Ed K J env tr fun xs => R (x :: xs)) : Ed K J env (tCons ta tr) R := fun B G H σ w E Q q =>
  h B G H σ w E _ fun v d G1 H1 n1 rd k => k B G1 H1 σ (n1.wf w) (E.mono n1) _ fun vs ds G2 H2 n2 rs x => q _ _ G2 H2 (n1.trans n2) (.cons (rd.mono n2.gg) rs) x
theorem Sv1.mono {G G' : Hp} {v : V} {s : Sl} (e : Same G G') (h : Sv1 K J G v s) : Sv1 K J G' v s := by
  cases s with
  | d x => exact Dr.mono e h
  | hand => exact h
  | hnd => exact h
  | tap => exact h
  | no => exact h
  | ml xs => exact h
  | xv a d fs => exact h
  | mi q C fs => exact h
  | md kvs => exact h
theorem ea_nil {R : List Sl → Prop} (h : R []) : Ea K J env tNil R := fun B G H σ w E Q q => q [] [] G H w.nx .nil h
theorem ea_cons {tr : TA} {R : List Sl → Prop} (h : Ev K J env ta fun x => Ea K J env tr fun xs => R (.d x :: xs)) : Ea K J env (tCons ta tr) R := fun B G H σ w E Q q =>
  h B G H σ w E _ fun v d G1 H1 n1 rd k => k B G1 H1 σ (n1.wf w) (E.mono n1) _ fun vs ds G2 H2 n2 rs x => q _ _ G2 H2 (n1.trans n2) (.cons (show Sv1 K J G2 v (.d d) from rd.mono n2.gg) rs) x
theorem ea_hand {i : Nat} {tr : TA} {R : List Sl → Prop} (hh : env[i]? = some .hand) (h : Ea K J env tr fun xs => R (.hand :: xs)) : Ea K J env (tCons (tVar i) tr) R := fun B G H σ w E Q q => by
  obtain ⟨ov, a, hh, d, b, c⟩ := E.ok i _ hh
  exact ⟨.ref hh, by rw [a, b], h B G H σ w E _ fun vs ds G2 H2 n2 rs x => q _ _ G2 H2 n2 (.cons (show Sv1 K J G2 (.ref hh) .hand from ⟨hh, d, rfl, c⟩) rs) x⟩
/-! displays -/
theorem Em.ev {R : Dt → Prop} (h : Em K J env te fun ds => R (.lst ds)) : Ev K J env te R := fun B G H σ w E Q q =>
  h B G H σ w E _ fun p vs ds G1 H1 n1 hG hH hp r k => q (.ref p) (.lst ds) (upd G1 p (.lst vs)) H1 (n1.fix hH hG hp) (.lst (.inl (.inl upd_same)) (r.mono fun b o e => by rw [upd_ne (ne_of_none e hG)]; exact e)) k
theorem sz_of {n : Nat} (h : n ≤ 100000) : n ≤ sizeLine := Nat.le_trans h (by decide)
theorem sz_lt {n : Nat} (h : n < 100000) : n < sizeLine := Nat.lt_of_lt_of_le h (by decide)
theorem ev_tup {ta : TA} (h : Ed K J env ta fun ds => ds.length ≤ 100000 ∧ R (.tup ds)) : Ev K J env (tTup ta) R := fun B G H σ w E Q q =>
  h B G H σ w E _ fun vs ds G1 H1 n1 r ⟨hz, k⟩ => ⟨sz_of (by rw [r.length]; exact hz), fun p hp => by
    have w1 := n1.wf w
    have n2 := w1.new hp (.tup vs)
    exact q (.ref p) (.tup ds) _ _ (n1.trans n2) (.tup (.inl (.inl upd_same)) (r.mono n2.gg)) k⟩
theorem em_lst {ta : TA} {R : List Dt → Prop} (h : Ed K J env ta fun ds => ds.length ≤ 100000 ∧ R ds) : Em K J env (tLst ta) R := fun B G H σ w E Q q =>
  h B G H σ w E _ fun vs ds G1 H1 n1 r ⟨hz, k⟩ => ⟨sz_of (by rw [r.length]; exact hz), fun p hp => by
    have w1 := n1.wf w
    refine q p vs ds G1 _ (n1.trans (w1.newM hp _)) (w1.free hp) ?_ upd_same r k
    cases z : H p with
    | none => rfl
    | some o => exact absurd hp (n1.th p (by rw [z]; simp))⟩
theorem ev_lst {ta : TA} (h : Ed K J env ta fun ds => ds.length ≤ 100000 ∧ R (.lst ds)) : Ev K J env (tLst ta) R := Em.ev (em_lst h)
/-! calls of built-ins -/
theorem ev_cb {rc : List V → Hp → VK → Prop} {ta : TA} (h : Ed K J env ta fun ds => Oc K J rc ds R) : Ev K J env (tCB rc ta) R := fun B G H σ w E Q q =>
  h B G H σ w E _ fun vs ds G1 H1 n1 r o => o G1 H1 vs (n1.wf w) r Q fun v d G2 H2 n2 rd k => q v d G2 H2 (n1.trans n2) rd k
end
/-! ### calls of defs: a def is told by what must hold so that it yields what is wanted -/
abbrev Fw := List Sl → (Dt → Prop) → Prop
def Ct (K : PySem.W.Frag) (W : Fw) : Sp := fun vs H Q _ => ∃ (J : Jm) (G : Hp) (ss : List Sl) (P : Dt → Prop), Wf J G H ∧ SvA K J G vs ss ∧ W ss P ∧ ∀ v d G' H', Nx J G H G' H' → Dr K G' v d → P d → Q v H'
section
variable {K : PySem.W.Frag} {J : Jm} {env : List Sl} {R : Dt → Prop} {W : Fw} {E0 : XK}
theorem ev_call {ta : TA} (h : Ea K J env ta fun ss => W ss R) : Ev K J env (tCall (Ct K W) [] E0 ta) R := fun B G H σ w E Q q =>
  h B G H σ w E _ fun vs ss G1 H1 n1 r k => by
    show Ct K W (vs ++ []) H1 Q E0
    rw [List.append_nil]
    exact ⟨J, G1, ss, R, n1.wf w, r, k, fun v d G2 H2 n2 rd x => q v d G2 H2 (n1.trans n2) rd x⟩
end

/-- a def that gives a new list of its caller's own -/
abbrev FwM := List Sl → (List Dt → Prop) → Prop
def CtM (K : PySem.W.Frag) (W : FwM) : Sp := fun vs H Q _ => ∃ (J : Jm) (G : Hp) (ss : List Sl) (P : List Dt → Prop), Wf J G H ∧ SvA K J G vs ss ∧ W ss P ∧
  ∀ p ws ds G' H', Nx J G H G' H' → G' p = none → H p = none → H' p = some (.lst ws) → Da K G' ws ds → P ds → Q (.ref p) H'
section
variable {K : PySem.W.Frag} {J : Jm} {env : List Sl} {R : List Dt → Prop} {W : FwM} {E0 : XK}
theorem em_call {ta : TA} (h : Ea K J env ta fun ss => W ss R) : Em K J env (tCall (CtM K W) [] E0 ta) R := fun B G H σ w E Q q =>
  h B G H σ w E _ fun vs ss G1 H1 n1 r k => by
    show CtM K W (vs ++ []) H1 Q E0
    rw [List.append_nil]
    refine ⟨J, G1, ss, R, n1.wf w, r, k, fun p ws ds G2 H2 n2 a b c rd x => q p ws ds G2 H2 (n1.trans n2) a ?_ c rd x⟩
    cases z : H p with
    | none => rfl
    | some o => exact absurd b (n1.th p (by rw [z]; simp))
end
/-! ### statements -/
theorem ne_mem {α : Type} {p m : α} {l : List α} (hm : p ∉ l) (h : m ∈ l) : m ≠ p := fun z => hm (z ▸ h)
theorem ne_memP {p m : Addr} {l : Addr → Prop} (hm : p ∉ l) (h : m ∈ l) : m ≠ p := fun z => hm (z ▸ h)
structure DE where
  nx : List Sl → Prop
  rt : Dt → Prop
  bk : List Sl → Prop := fun _ => False
  ct : List Sl → Prop := fun _ => False
  rm : List Dt → Prop := fun _ => False
  /-- what the code wishes of an exception, and what is known of it -/
  xw : WX := fun _ _ _ _ => False
  xc : Addr → List (Str × Dt) → List Sl → Prop := fun _ _ _ => False
/-- the state: since the entry (GB, B) only so much has changed -/
structure At (K : PySem.W.Frag) (J : Jm) (GB B G H : Hp) (σ : L2.St) (env : List Sl) : Prop where
  wf : Wf J G H
  nx : Nx J GB B G H
  en : En K J B G H σ env
/-- an exception of which xc is known is as wished -/
def XOk (K : PySem.W.Frag) (J : Jm) (GB B : Hp) (xw : WX) (xc : Addr → List (Str × Dt) → List Sl → Prop) : Prop := ∀ (C d : Addr) (vs : List (Str × V)) (fs : List (Str × Dt)) (env' : List Sl) (G' H' : Hp) (σ' : L2.St),
  At K J GB B G' H' σ' env' → G' d = some (.xd vs) → Df K G' vs fs → xc C fs env' → xw (.ref C) (some d) σ' H'
def Sv (K : PySem.W.Frag) (J : Jm) (env : List Sl) (ts : TS) (D : DE) : Prop := ∀ (GB B G H : Hp) (σ : L2.St), At K J GB B G H σ env → ∀ E : Ends,
  (∀ env' G' H' σ', At K J GB B G' H' σ' env' → D.nx env' → E.nx σ' H') → (∀ env' G' H' σ', At K J GB B G' H' σ' env' → D.bk env' → E.bk σ' H') → (∀ env' G' H' σ', At K J GB B G' H' σ' env' → D.ct env' → E.ct σ' H') →
  (∀ v d G' H', Nx J GB B G' H' → Dr K G' v d → D.rt d → E.rt v H') →
  (∀ p vs ds G' H', Nx J GB B G' H' → G' p = none → B p = none → H' p = some (.lst vs) → Da K G' vs ds → D.rm ds → E.rt (.ref p) H') → XOk K J GB B D.xw D.xc → ts E σ H
section
variable {K : PySem.W.Frag} {J : Jm} {env : List Sl} {ts tu : TS} {te ti : TE} {tt : TT} {D : DE}
theorem At.then {GB B G H G' H' : Hp} {σ : L2.St} (a : At K J GB B G H σ env) (n : Nx J G H G' H') : At K J GB B G' H' σ env := ⟨n.wf a.wf, a.nx.trans n, a.en.mono n⟩
theorem Sv.imp {D' : DE} (h : Sv K J env ts D) (k1 : ∀ e, D.nx e → D'.nx e) (k2 : ∀ e, D.bk e → D'.bk e) (k3 : ∀ e, D.ct e → D'.ct e) (k4 : ∀ d, D.rt d → D'.rt d) (k5 : ∀ d, D.rm d → D'.rm d) (k6 : D.xw = D'.xw) (k7 : ∀ C fs e, D.xc C fs e → D'.xc C fs e) : Sv K J env ts D' := fun GB B G H σ a E q1 q2 q3 q4 q5 q6 =>
  h GB B G H σ a E (fun e G' H' σ' a' x => q1 e G' H' σ' a' (k1 e x)) (fun e G' H' σ' a' x => q2 e G' H' σ' a' (k2 e x)) (fun e G' H' σ' a' x => q3 e G' H' σ' a' (k3 e x)) (fun v d G' H' n r x => q4 v d G' H' n r (k4 d x)) (fun p vs ds G' H' n a b c r x => q5 p vs ds G' H' n a b c r (k5 ds x)) fun C d vs fs e G' H' σ' a' g r x => k6 ▸ q6 C d vs fs e G' H' σ' a' g r (k7 C fs e x)
theorem sv_seq (h : Sv K J env ts { D with nx := fun e => Sv K J e tu D }) : Sv K J env (tSeq ts tu) D := fun GB B G H σ a E q1 q2 q3 q4 q5 q6 =>
  h GB B G H σ a { E with nx := tu E } (fun e G' H' σ' a' x => x GB B G' H' σ' a' E q1 q2 q3 q4 q5 q6) q2 q3 q4 q5 q6
/-- a word between a statement and the rest -/
theorem sv_mid (M : List Sl → Prop) (h : Sv K J env ts { D with nx := M }) (k : ∀ e, M e → Sv K J e tu D) : Sv K J env (tSeq ts tu) D :=
  sv_seq (h.imp k (fun _ x => x) (fun _ x => x) (fun _ x => x) (fun _ x => x) rfl fun _ _ _ x => x)
theorem sv_next (h : D.nx env) : Sv K J env tNext D := fun GB B G H σ a E q1 _ _ _ _ _ => q1 env G H σ a h
theorem sv_break (h : D.bk env) : Sv K J env tBreak D := fun GB B G H σ a E _ q2 _ _ _ _ => q2 env G H σ a h
theorem sv_cont (h : D.ct env) : Sv K J env tCont D := fun GB B G H σ a E _ _ q3 _ _ _ => q3 env G H σ a h
theorem sv_asg {i : Nat} (h : Ev K J env te fun d => D.nx (env.set i (.d d))) : Sv K J env (tAsg te (gName i)) D := fun GB B G H σ a E q1 _ _ _ _ _ =>
  h B G H σ a.wf a.en _ fun v d G1 H1 n1 r k => q1 _ G1 H1 _ ⟨n1.wf a.wf, a.nx.trans n1, (a.en.mono n1).setD r⟩ k
theorem sv_asgG {g : TG} (S : List Nat) (h : Ev K J env te fun d => Gt K J env g d S D.nx) : Sv K J env (tAsg te g) D := fun GB B G H σ a E q1 _ _ _ _ _ =>
  h B G H σ a.wf a.en _ fun v d G1 H1 n1 r k => k B G1 H1 σ v (n1.wf a.wf) (a.en.mono n1) r _ fun e σ' E' _ x => q1 e G1 H1 σ' ⟨n1.wf a.wf, a.nx.trans n1, E'⟩ x
theorem sv_drop (h : Ev K J env te fun _ => D.nx env) : Sv K J env (tDrop te) D := fun GB B G H σ a E q1 _ _ _ _ _ =>
  h B G H σ a.wf a.en _ fun v d G1 H1 n1 r k => q1 _ G1 H1 _ (a.then n1) k
theorem sv_ret (h : Ev K J env te D.rt) : Sv K J env (tRet te) D := fun GB B G H σ a E _ _ _ q4 _ _ =>
  h B G H σ a.wf a.en _ fun v d G1 H1 n1 r k => q4 v d G1 H1 (a.nx.trans n1) r k
theorem sv_retN (h : D.rt .non) : Sv K J env tRetN D := fun GB B G H σ a E _ _ _ q4 _ _ => q4 .non .non G H a.nx .non h
theorem sv_if (h : Et K J env tt fun b => (b = true → Sv K J env ts D) ∧ (b = false → Sv K J env tu D)) : Sv K J env (tIfS tt ts tu) D := fun GB B G H σ a E q1 q2 q3 q4 q5 q6 =>
  h B G H σ a.wf a.en _ fun b G1 H1 n1 k => by
    cases b with
    | true => exact k.1 rfl GB B G1 H1 σ (a.then n1) E q1 q2 q3 q4 q5 q6
    | false => exact k.2 rfl GB B G1 H1 σ (a.then n1) E q1 q2 q3 q4 q5 q6
/-- a new list that the slot holds alone -/
theorem sv_asgM {i : Nat} (h : Em K J env te fun ds => D.nx (env.set i (.ml ds))) : Sv K J env (tAsg te (gName i)) D := fun GB B G H σ a E q1 _ _ _ _ _ =>
  h B G H σ a.wf a.en _ fun p vs ds G1 H1 n1 hG hH hp r k => by
    have hB : B p = none := by
      cases z : B p with
      | none => rfl
      | some o => exact absurd hH (a.nx.th p (by rw [z]; simp))
    refine q1 _ G1 H1 _ ⟨n1.wf a.wf, a.nx.trans n1, (a.en.mono n1).setM hB hG (a.wf.notin hH) hp r fun j hj ⟨ys, hy⟩ e => ?_⟩ k
    obtain ⟨ov, h1, p', vs', h2, _, _, _, h3, _⟩ := a.en.ok j _ hy
    rw [h1, h2] at e
    cases e
    rw [hH] at h3
    cases h3
/-- the slot's list is data from now on -/
theorem sv_fix {i : Nat} {xs : List Dt} (hi : env[i]? = some (.ml xs)) (h : Sv K J (env.set i (.d (.lst xs))) ts D) : Sv K J env ts D := fun GB B G H σ a E q1 q2 q3 q4 q5 q6 => by
  obtain ⟨ov, h1, p, vs, h2, hB, hG, hm, hH, r⟩ := a.en.ok i _ hi
  have n := a.nx.fix hB hG hH
  have w : Wf J (upd G p (.lst vs)) H := ⟨n.gh, n.ok, fun m hmm => ⟨by rw [upd_ne (ne_memP hm hmm)]; exact (a.wf.ms m hmm).1, (a.wf.ms m hmm).2⟩, J.trm _ _ (fun b o e => by rw [upd_ne (ne_of_none e hG)]; exact e) a.wf.tr⟩
  have sg : Same G (upd G p (.lst vs)) := fun b o e => by rw [upd_ne (ne_of_none e hG)]; exact e
  have hs : σ.set i (some (.ref p)) = σ := by
    refine List.ext_getElem? fun k => ?_
    by_cases e : i = k
    · subst e
      rw [List.getElem?_set_self (List.getElem?_eq_some_iff.mp h1).1, h1, h2]
    · rw [List.getElem?_set_ne e]
  have e2 : En K J B (upd G p (.lst vs)) H σ (env.set i (.d (.lst xs))) := by
    have e0 : En K J B G H σ (env.set i .no) := by
      have := a.en.setN (i := i) (ov := some (.ref p))
      rw [hs] at this
      exact this
    have e1 : En K J B (upd G p (.lst vs)) H σ (env.set i .no) := by
      refine ⟨e0.len, fun k s hk => ?_, e0.ap⟩
      obtain ⟨ov', h1', h2'⟩ := e0.ok k s hk
      refine ⟨ov', h1', ?_⟩
      cases s with
      | no => trivial
      | d x => obtain ⟨v, e, r'⟩ := h2'; exact ⟨v, e, r'.mono sg⟩
      | hand => exact h2'
      | hnd => exact h2'
      | tap => exact h2'
      | xv a d fs => obtain ⟨e, vs, g, r'⟩ := h2'; exact ⟨e, vs, sg _ _ g, r'.mono sg⟩
      | md kvs =>
        obtain ⟨q, us, e3, hB', hG', hm', hH', r'⟩ := h2'
        refine ⟨q, us, e3, hB', ?_, hm', hH', r'.mono sg⟩
        rw [upd_ne (ne_of hH' hH (by intro z; cases z))]
        exact hG'
      | mi q C fs =>
        obtain ⟨dx, us, e3, hB', hG', hm', hH', r'⟩ := h2'
        refine ⟨dx, us, e3, hB', ?_, hm', hH', r'.mono sg⟩
        rw [upd_ne (ne_of hH' hH (by intro z; cases z))]
        exact hG'
      | ml ys =>
        obtain ⟨p', vs', e3, hB', hG', hm', hH', r'⟩ := h2'
        refine ⟨p', vs', e3, hB', ?_, hm', hH', r'.mono sg⟩
        have : p' ≠ p := fun z => by
          subst z
          have hne : i ≠ k := fun z => by
            subst z
            rw [List.getElem?_set_self (List.getElem?_eq_some_iff.mp hi).1] at hk
            cases hk
          rw [List.getElem?_set_ne hne] at hk
          exact a.en.ap i k p' hne ⟨_, hi⟩ ⟨_, hk⟩ (by rw [h1, h2]) (by rw [h1', e3])
        rw [upd_ne this]
        exact hG'
    have := e1.setD (i := i) (v := .ref p) (x := .lst xs) (.lst (.inl (.inl upd_same)) (r.mono sg))
    rw [hs, List.set_set] at this
    exact this
  exact h GB B _ H σ ⟨w, n, e2⟩ E q1 q2 q3 q4 q5 q6
/-- xs.append(e) -/
theorem sv_app {i : Nat} {xs : List Dt} (hi : env[i]? = some (.ml xs)) (hz : xs.length < 100000) (h : Ev K J env te fun d => D.nx (env.set i (.ml (xs ++ [d])))) :
    Sv K J env (tDrop (tBM K "list" rAppend (tVar i) (tCons te tNil))) D := fun GB B G H σ a E q1 _ _ _ _ _ => by
  obtain ⟨ov, h1, p, vs, h2, hB, hG, hm, hH, r⟩ := a.en.ok i _ hi
  have hs : σ[i]? = some (some (.ref p)) := by rw [h1, h2]
  refine ⟨.ref p, hs, .inl ⟨rfl, vs, .inl (.inl hH)⟩, h B G H σ a.wf a.en _ fun v d G1 H1 n1 rd k => ?_⟩
  have hH1 := n1.kp p _ hH hm
  have hG1 := n1.fr p hG (by rw [hH]; simp)
  have a1 := a.then n1
  refine ⟨p, vs, v, rfl, rfl, hH1, sz_lt (by rw [r.length]; exact hz), q1 _ G1 _ σ ?_ k⟩
  have n2 := a1.nx.mut (o' := .lst (vs ++ [v])) hB hG1 hm hH1
  refine ⟨⟨n2.gh, n2.ok, fun m hmm => ⟨(a1.wf.ms m hmm).1, ?_⟩, a1.wf.tr⟩, n2, a1.en.upd1 hi hs ((r.mono n1.gg).append (.cons rd .nil))⟩
  rw [upd_ne (ne_memP hm hmm)]
  exact (a1.wf.ms m hmm).2
theorem ixN_nat {n j : Nat} (hj : j < n) : ixN n (j : Int) = some j := by
  unfold ixN
  rw [if_pos (by omega), if_pos (by omega)]
  simp
/-- xs[k] = e -/
theorem sv_setM {i : Nat} {xs : List Dt} (hi : env[i]? = some (.ml xs)) (h : Ev K J env te fun d => Ev K J env ti fun k => ∃ j : Nat, k = .int (j : Int) ∧ j < xs.length ∧ D.nx (env.set i (.ml (xs.set j d)))) :
    Sv K J env (tAsg te (gSub (tVar i) ti rSetL)) D := fun GB B G H σ a E q1 _ _ _ _ _ => by
  obtain ⟨ov, h1, p, vs, h2, hB, hG, hm, hH, r⟩ := a.en.ok i _ hi
  have hs : σ[i]? = some (some (.ref p)) := by rw [h1, h2]
  refine h B G H σ a.wf a.en _ fun v d G1 H1 n1 rd k => ?_
  have a1 := a.then n1
  refine ⟨.ref p, hs, k B G1 H1 σ a1.wf a1.en _ fun w x G2 H2 n2 rx ⟨j, ex, hj, k2⟩ => ?_⟩
  subst ex
  cases rx
  have n12 := n1.trans n2
  have hH2 := n12.kp p _ hH hm
  have hG2 := n12.fr p hG (by rw [hH]; simp)
  have a2 := a.then n12
  refine ⟨p, vs, (j : Int), j, rfl, rfl, hH2, ixN_nat (by rw [r.length]; exact hj), q1 _ G2 _ σ ?_ k2⟩
  have n3 := a2.nx.mut (o' := .lst (vs.set j v)) hB hG2 hm hH2
  refine ⟨⟨n3.gh, n3.ok, fun m hmm => ⟨(a2.wf.ms m hmm).1, ?_⟩, a2.wf.tr⟩, n3, a2.en.upd1 hi hs ((r.mono n12.gg).set j (rd.mono n2.gg))⟩
  rw [upd_ne (ne_memP hm hmm)]
  exact (a2.wf.ms m hmm).2
/-- return of the slot's own list -/
theorem sv_retM {i : Nat} {xs : List Dt} (hi : env[i]? = some (.ml xs)) (h : D.rm xs) : Sv K J env (tRet (tVar i)) D := fun GB B G H σ a E _ _ _ _ q5 _ => by
  obtain ⟨ov, h1, p, vs, h2, hB, hG, hm, hH, r⟩ := a.en.ok i _ hi
  exact ⟨.ref p, by rw [h1, h2], q5 p vs xs G H a.nx hG hB hH r h⟩
/-- hand = [draws, 0]: from here on the draws are at hand -/
theorem sv_hand {i : Nat} {rt : Dt → Prop} (he : ∀ (k : Nat) (s : Sl), env[k]? = some s → s = .no ∨ ∃ x, s = .d x) (h : Em K J0 env te fun ds => ∃ ns : List Int, ds = ns.map Dt.int ∧ ∀ l p, Sv K (Jh l p) (env.set i .hand) tu { nx := fun _ => False, rt := rt }) :
    Sv K J0 env (tSeq (tAsg (tLst (tCons te (tCons (tC (.int 0)) tNil))) (gName i)) tu) { nx := fun _ => False, rt := rt } := fun GB B G H σ a E q1 q2 q3 q4 q5 q6 => by
  refine h B G H σ a.wf a.en _ fun p vs ds G1 H1 n1 hG hH hp r ⟨ns, e, sv⟩ => ⟨by show 2 ≤ sizeLine; decide, fun l hl => ?_⟩
  subst e
  have hvs := r.ints_inv
  subst hvs
  have a1 := a.then n1
  have n2 := a1.wf.newM hl (.lst [.ref p, .int 0])
  have n12 := a1.nx.trans n2
  have hlp : p ≠ l := ne_of_none hp hl
  have hBl : B l = none := by
    cases z : B l with
    | none => rfl
    | some o => exact absurd hl (a1.nx.th l (by rw [z]; simp))
  have hBp : B p = none := by
    cases z : B p with
    | none => rfl
    | some o => exact absurd hH (a.nx.th p (by rw [z]; simp))
  have hGl : G1 l = none := a1.wf.free hl
  have hok : HandAt l p (upd H1 l (.lst [.ref p, .int 0])) := ⟨ns, 0, upd_same, by rw [upd_ne hlp]; exact hp, Int.le_refl _⟩
  have wf : Wf (Jh l p) G1 (upd H1 l (.lst [.ref p, .int 0])) := ⟨n12.gh, hok, fun m hm => by
    rcases (show m = l ∨ m = p from hm) with rfl | rfl
    · exact ⟨hGl, by rw [upd_same]; simp⟩
    · exact ⟨hG, by rw [upd_ne hlp, hp]; simp⟩, trivial⟩
  have nx : Nx (Jh l p) GB B G1 (upd H1 l (.lst [.ref p, .int 0])) := ⟨n12.gg, n12.gh, n12.fr, fun b o e _ => n12.kp b o e (fun z => z), n12.th, hok⟩
  have en : En K (Jh l p) B G1 (upd H1 l (.lst [.ref p, .int 0])) (σ.set i (some (.ref l))) (env.set i .hand) := by
    have E1 := a1.en
    refine ⟨by simp [E1.len], fun k s hk => ?_, fun k j q hne hk hj h1 h2 => ?_⟩
    · by_cases z : i = k
      · subst z
        have hi : i < env.length := by
          have := (List.getElem?_eq_some_iff.mp hk).1
          simpa using this
        rw [List.getElem?_set_self hi] at hk
        cases hk
        exact ⟨_, by rw [List.getElem?_set_self (by rw [E1.len]; exact hi)], l, p, rfl, rfl⟩
      · rw [List.getElem?_set_ne z] at hk
        rw [List.getElem?_set_ne z]
        obtain ⟨ov, h1, h2⟩ := E1.ok k s hk
        rcases he k s hk with rfl | ⟨x, rfl⟩
        · exact ⟨ov, h1, trivial⟩
        · exact ⟨ov, h1, h2⟩
    · obtain ⟨xk, hk⟩ := hk
      by_cases z : i = k
      · subst z
        have hi : i < env.length := by
          have := (List.getElem?_eq_some_iff.mp hk).1
          simpa using this
        rw [List.getElem?_set_self hi] at hk
        cases hk
      · rw [List.getElem?_set_ne z] at hk
        rcases he k _ hk with z | ⟨x, z⟩ <;> cases z
  refine sv l p GB B G1 _ _ ⟨wf, nx, en⟩ E (fun _ _ _ _ _ x => x.elim) (fun _ _ _ _ _ x => x.elim) (fun _ _ _ _ _ x => x.elim) (fun v d G' H' n r x => q4 v d G' H' ⟨n.gg, n.gh, n.fr, fun b o e _ => n.kp b o e ?_, n.th, trivial⟩ r x) (fun _ _ _ _ _ _ _ _ _ _ x => x.elim) (fun _ _ _ _ _ _ _ _ _ _ _ x => x.elim)
  intro hm
  rcases (show b = l ∨ b = p from hm) with rfl | rfl
  · rw [hBl] at e; cases e
  · rw [hBp] at e; cases e
/-! loops -/
theorem gt_name {i : Nat} {d : Dt} {S : List Nat} {R : List Sl → Prop} (hS : i ∈ S) (h : R (env.set i (.d d))) : Gt K J env (gName i) d S R := fun B G H σ v w E r Q q =>
  q _ _ (E.setD r) ⟨List.length_set, fun k hk => List.getElem?_set_ne (ne_mem hk hS)⟩ h
theorem gs_nil {S : List Nat} {R : List Sl → Prop} (h : R env) : Gs K J env gNil [] S R := fun B G H σ vs w E r Q q => by
  cases r
  exact ⟨rfl, q env σ E ⟨rfl, fun _ _ => rfl⟩ h⟩
theorem gs_cons {g : TG} {u : TGs} {d : Dt} {ds : List Dt} {S : List Nat} {R : List Sl → Prop} (h : Gt K J env g d S fun e => Gs K J e u ds S R) : Gs K J env (gCons g u) (d :: ds) S R := fun B G H σ vs w E r Q q => by
  cases r with
  | cons r1 r2 => exact ⟨_, _, rfl, h B G H σ _ w E r1 _ fun e σ' E' k x => x B G H σ' _ w E' r2 Q fun e2 σ2 E2 k2 y => q e2 σ2 E2 ⟨k2.1.trans k.1, fun i hi => (k2.2 i hi).trans (k.2 i hi)⟩ y⟩
theorem gt_tup {u : TGs} {n : Nat} {ds : List Dt} {S : List Nat} {R : List Sl → Prop} (hn : ds.length = n) (h : Gs K J env u ds S R) : Gt K J env (gTup K n u) (.tup ds) S R := fun B G H σ v w E r Q q => by
  cases r with
  | tup s t => exact ⟨_, _, rfl, same_t w.gh s, by rw [t.length]; exact hn, h B G H σ _ w E t Q q⟩
/-- the same state, known since a later place -/
theorem At.rebase {GB B G H : Hp} {σ : L2.St} (a : At K J GB B G H σ env) : At K J G B G H σ env :=
  ⟨a.wf, ⟨Same.refl _, a.nx.gh, fun b h _ => h, a.nx.kp, a.nx.th, a.nx.ok⟩, a.en⟩
theorem nx_back {GB B G H G1 H1 : Hp} (n : Nx J GB B G H) (m : Nx J G B G1 H1) : Nx J GB B G1 H1 :=
  ⟨n.gg.trans m.gg, m.gh, fun b h1 h2 => m.fr b (n.fr b h1 h2) h2, m.kp, m.th, m.ok⟩
theorem At.back {GB B G H G1 H1 : Hp} {σ : L2.St} (n : Nx J GB B G H) (a : At K J G B G1 H1 σ env) : At K J GB B G1 H1 σ env := ⟨a.wf, nx_back n a.nx, a.en⟩
/-- for g in wi: body -/
theorem sv_for {wi : TI} {g : TG} (S : List Nat) (h : Ei K J env wi fun ds => ∃ P : Nat → List Sl → Prop, P 0 env ∧
    (∀ k d e, ds[k]? = some d → P k e → Gt K J e g d S fun e1 => Sv K J e1 ts { D with nx := P (k + 1), ct := P (k + 1), bk := D.nx }) ∧ ∀ e, P ds.length e → D.nx e) : Sv K J env (tFor wi g ts) D := fun GB B G H σ a E q1 q2 q3 q4 q5 q6 => by
  refine h B G H σ a.wf a.en _ fun I ds G1 H1 n1 wk ⟨P, h0, hs, hd⟩ => ?_
  have a1 := a.then n1
  refine ⟨fun i m σ' H' => m = ds.length - i ∧ i ≤ ds.length ∧ ∃ e G', At K J G1 B G' H' σ' e ∧ P i e, ⟨ds.length, by simp, Nat.zero_le _, env, G1, a1.rebase, h0⟩, ?_⟩
  rintro i m σ' H' ⟨rfl, hi, e, G', a', p⟩
  by_cases hlt : i < ds.length
  · refine .inr ⟨wk.go i G' H' a'.nx.gg a'.wf hlt, fun σ2 H2 => ∃ e2 G2, At K J G1 B G2 H2 σ2 e2 ∧ P (i + 1) e2, fun σ2 H2 ⟨e2, G2, a2, p2⟩ => ⟨ds.length - (i + 1), by omega, rfl, hlt, e2, G2, a2, p2⟩, fun x H2 y => ?_⟩
    obtain ⟨G2, d, n2, hd', rd⟩ := wk.yld i G' H' x H2 a'.nx.gg a'.wf hlt y
    have a2 := a'.then n2
    refine hs i d e hd' p B G2 H2 σ' x a2.wf a2.en rd _ fun e3 σ3 E3 _ sv => ?_
    exact sv G1 B G2 H2 σ3 ⟨a2.wf, a2.nx, E3⟩ _ (fun e4 G4 H4 σ4 a4 x => ⟨e4, G4, a4, x⟩) (fun e4 G4 H4 σ4 a4 x => q1 e4 G4 H4 σ4 (At.back a1.nx a4) x) (fun e4 G4 H4 σ4 a4 x => ⟨e4, G4, a4, x⟩)
      (fun v d4 G4 H4 n4 r4 x => q4 v d4 G4 H4 (nx_back a1.nx n4) r4 x) (fun p4 vs4 ds4 G4 H4 n4 a4 b4 c4 r4 x => q5 p4 vs4 ds4 G4 H4 (nx_back a1.nx n4) a4 b4 c4 r4 x)
      fun C d vs fs e G' H' σ' a' g r x => q6 C d vs fs e G' H' σ' (At.back a1.nx a') g r x
  · have e' : i = ds.length := by omega
    subst e'
    exact .inl ⟨wk.stop G' H' a'.nx.gg a'.wf, q1 e G' H' σ' (At.back a1.nx a') (hd e p)⟩
end
/-! what is walked -/
section
variable {K : PySem.W.Frag} {J : Jm} {env : List Sl} {tl : TE} {ta : TA}
theorem wk_list {G : Hp} {a : Addr} {vs : List V} {ds : List Dt} (s : SqL K G a vs) (r : Da K G vs ds) : Wk K J G (Itl K a) ds := by
  have wl := walk_list (K := K) (a := a) (xs := vs)
  have hl := r.length
  refine ⟨fun i G1 H1 sg w hi => wl.goes i H1 (by omega) (same_l (sg.trans w.gh) s), fun G1 H1 sg w => hl ▸ wl.stops H1 (same_l (sg.trans w.gh) s), fun i G1 H1 x H2 sg w hi y => ?_⟩
  obtain ⟨e1, e2⟩ := wl.yields i H1 x H2 (by omega) (same_l (sg.trans w.gh) s) y
  subst e1
  obtain ⟨d, h1, h2⟩ := r.get' e2
  exact ⟨G1, d, w.nx, h1, h2.mono sg⟩
theorem wk_tup {G : Hp} {a : Addr} {vs : List V} {ds : List Dt} (s : SqT K G a vs) (r : Da K G vs ds) : Wk K J G (Itt K a) ds := by
  have wl := walk_tup (K := K) (a := a) (xs := vs)
  have hl := r.length
  refine ⟨fun i G1 H1 sg w hi => wl.goes i H1 (by omega) (same_t (sg.trans w.gh) s), fun G1 H1 sg w => hl ▸ wl.stops H1 (same_t (sg.trans w.gh) s), fun i G1 H1 x H2 sg w hi y => ?_⟩
  obtain ⟨e1, e2⟩ := wl.yields i H1 x H2 (by omega) (same_t (sg.trans w.gh) s) y
  subst e1
  obtain ⟨d, h1, h2⟩ := r.get' e2
  exact ⟨G1, d, w.nx, h1, h2.mono sg⟩
theorem wk_range {G : Hp} {lo : Int} {n : Nat} : Wk K J G (Itr lo n) ((List.range n).map fun i => Dt.int (lo + (i : Nat))) := by
  have hl : ((List.range n).map fun i => Dt.int (lo + (i : Nat))).length = n := by simp
  refine ⟨fun i G1 H1 sg w hi => by rw [hl] at hi; exact hi, fun G1 H1 sg w => by rw [hl]; exact Nat.le_refl n, fun i G1 H1 x H2 sg w hi y => ?_⟩
  obtain ⟨e1, e2⟩ := (show H2 = H1 ∧ x = .int (lo + i) from y)
  subst e1 e2
  rw [hl] at hi
  exact ⟨G1, .int (lo + (i : Nat)), w.nx, by simp [hi], .int _⟩
theorem ei_list {R : List Dt → Prop} (h : Ev K J env tl fun x => ∃ ds, x = .lst ds ∧ R ds) : Ei K J env (iList K tl) R := fun B G H σ w E Q q =>
  h B G H σ w E _ fun v x G1 H1 n1 r ⟨ds, e, k⟩ => by
    subst e
    cases r with
    | lst s t => exact ⟨_, rfl, ⟨_, same_l n1.gh s⟩, q _ ds G1 H1 n1 (wk_list s t) k⟩
theorem ei_tup {R : List Dt → Prop} (h : Ev K J env tl fun x => ∃ ds, x = .tup ds ∧ R ds) : Ei K J env (iTup K tl) R := fun B G H σ w E Q q =>
  h B G H σ w E _ fun v x G1 H1 n1 r ⟨ds, e, k⟩ => by
    subst e
    cases r with
    | tup s t => exact ⟨_, rfl, ⟨_, same_t n1.gh s⟩, q _ ds G1 H1 n1 (wk_tup s t) k⟩
theorem ei_range {R : List Dt → Prop} (h : Ed K J env ta fun xs => ∃ n : Int, xs = [.int n] ∧ -1000000 ≤ n ∧ n ≤ 1000000 ∧ R ((List.range n.toNat).map fun i => Dt.int (i : Nat))) : Ei K J env (iRng1 ta) R := fun B G H σ w E Q q =>
  h B G H σ w E _ fun vs xs G1 H1 n1 r ⟨n, e, h0, hn, k⟩ => by
    subst e
    cases r with
    | cons r1 r2 =>
      cases r1
      cases r2
      refine ⟨n, rfl, by omega, by omega, q _ _ G1 H1 n1 wk_range ?_⟩
      have : (fun i : Nat => Dt.int (0 + (i : Int))) = fun i : Nat => Dt.int (i : Int) := by funext i; rw [Int.zero_add]
      rw [this]
      exact k
end
end Mv

set_option Elab.async false
set_option linter.all false
set_option maxRecDepth 100000
set_option maxHeartbeats 4000000
namespace Mv
open PySem PySem.Spec PyProof.Rows L2
/-! ### list comprehensions -/
def wipeE (env : List Sl) : List Nat → List Sl
  | [] => env
  | v :: vs => (wipeE env vs).set v .no
theorem wipe_get : ∀ (vs : List Nat) (σ : L2.St) (i : Nat), (wipe σ vs)[i]? = if i ∈ vs ∧ i < σ.length then some none else σ[i]?
  | [], σ, i => by
    have : wipe σ [] = σ := rfl
    rw [this, if_neg (by simp)]
  | v :: vs, σ, i => by
    have e : wipe σ (v :: vs) = (wipe σ vs).set v none := rfl
    rw [e]
    by_cases h : v = i
    · subst h
      by_cases hl : v < σ.length
      · rw [List.getElem?_set_self (by rw [wipe_length]; exact hl), if_pos ⟨by simp, hl⟩]
      · rw [List.getElem?_eq_none (by simp [wipe_length]; omega), if_neg (by omega), List.getElem?_eq_none (by omega)]
    · rw [List.getElem?_set_ne h, wipe_get vs σ i]
      by_cases hv : i ∈ vs ∧ i < σ.length
      · rw [if_pos hv, if_pos ⟨by simp [hv.1], hv.2⟩]
      · rw [if_neg hv, if_neg (by simp; intro z; rcases z with z | z; exact absurd z.symm h; exact Nat.le_of_not_lt fun q => hv ⟨z, q⟩)]
theorem wipe_eq {σ τ : L2.St} {vs : List Nat} (hl : τ.length = (wipe σ vs).length) (h : ∀ i : Nat, i ∉ vs → τ[i]? = (wipe σ vs)[i]?) : wipe τ vs = wipe σ vs := by
  rw [wipe_length] at hl
  refine List.ext_getElem? fun i => ?_
  rw [wipe_get, wipe_get]
  by_cases hv : i ∈ vs
  · by_cases hi : i < σ.length
    · rw [if_pos ⟨hv, by omega⟩, if_pos ⟨hv, hi⟩]
    · rw [if_neg (by omega), if_neg (by omega), List.getElem?_eq_none (by omega), List.getElem?_eq_none (by omega)]
  · have := h i hv
    rw [wipe_get, if_neg (fun z => hv z.1)] at this
    rw [if_neg (fun z => hv z.1), if_neg (fun z => hv z.1), this]
section
variable {K : PySem.W.Frag} {J : Jm} {env : List Sl} {te : TE} {tt : TT}
theorem En.wipe {B G H : Hp} {σ : L2.St} (E : En K J B G H σ env) : ∀ vs : List Nat, En K J B G H (wipe σ vs) (wipeE env vs)
  | [] => E
  | v :: vs => (En.wipe E vs).setN
theorem em_lc {wi : TI} {g : TG} {vs : List Nat} {R : List Dt → Prop} (h : Ei K J env wi fun ds => ds.length ≤ 100000 ∧ ∃ Iv : Nat → List Dt → Prop, Iv 0 [] ∧
    (∀ k d acc, ds[k]? = some d → acc.length ≤ k → Iv k acc → Gt K J (wipeE env vs) g d vs fun e => Et K J e tt fun b => (b = true → Ev K J e te fun y => Iv (k + 1) (acc ++ [y])) ∧ (b = false → Iv (k + 1) acc)) ∧
    ∀ acc, acc.length ≤ ds.length → Iv ds.length acc → R acc) : Em K J env (tLc wi g tt te vs) R := fun B G H σ w E Q q => by
  refine h B G H σ w E _ fun I ds G1 H1 n1 wk ⟨hz, Iv, h0, hs, hd⟩ => ?_
  intro Dl hDl
  have w1 := n1.wf w
  have E1 := E.mono n1
  have hn : Dl ∉ J.ms := w1.notin hDl
  have n0 := w1.newM hDl (.lst [])
  refine ⟨fun i m H' => m = ds.length - i ∧ i ≤ ds.length ∧ ∃ G' xs acc, Nx J G1 H1 G' H' ∧ G' Dl = none ∧ H' Dl = some (.lst xs) ∧ Da K G' xs acc ∧ acc.length ≤ i ∧ Iv i acc,
    ⟨ds.length, by simp, Nat.zero_le _, G1, [], [], n0, w1.free hDl, upd_same, .nil, Nat.le_refl _, h0⟩, ?_⟩
  rintro i m H' ⟨rfl, hi, G', xs, acc, n, hG, hH, r, hl, p⟩
  have w' := n.wf w1
  by_cases hlt : i < ds.length
  · refine .inr ⟨wk.go i G' H' n.gg w' hlt, fun H2 => ∃ G2 xs2 acc2, Nx J G1 H1 G2 H2 ∧ G2 Dl = none ∧ H2 Dl = some (.lst xs2) ∧ Da K G2 xs2 acc2 ∧ acc2.length ≤ i + 1 ∧ Iv (i + 1) acc2,
      fun H2 ⟨G2, xs2, acc2, a, b, c, d, e, f⟩ => ⟨ds.length - (i + 1), by omega, rfl, hlt, G2, xs2, acc2, a, b, c, d, e, f⟩, fun x H2 y => ?_⟩
    obtain ⟨G2, d, n2, hd', rd⟩ := wk.yld i G' H' x H2 n.gg w' hlt y
    have n02 := n.trans n2
    have w2 := n2.wf w'
    refine hs i d acc hd' hl p B G2 H2 (wipe σ vs) x w2 ((E1.mono n02).wipe vs) rd _ fun e3 σ3 E3 ks et => ⟨wipe_eq ks.1 ks.2, et B G2 H2 σ3 w2 E3 _ fun b G3 H3 n3 k => ?_⟩
    have hG2 := n2.fr Dl hG (by rw [hH]; simp)
    have hH2 := n2.kp Dl _ hH hn
    have hG3 := n3.fr Dl hG2 (by rw [hH2]; simp)
    have hH3 := n3.kp Dl _ hH2 hn
    have w3 := n3.wf w2
    cases b with
    | false => exact ⟨G3, xs, acc, n02.trans n3, hG3, hH3, (r.mono n2.gg).mono n3.gg, by omega, k.2 rfl⟩
    | true =>
      refine k.1 rfl B G3 H3 σ3 w3 (E3.mono n3) _ fun yv yd G4 H4 n4 ry ky => ?_
      have hG4 := n4.fr Dl hG3 (by rw [hH3]; simp)
      have hH4 := n4.kp Dl _ hH3 hn
      have n04 := (n02.trans n3).trans n4
      have n5 := n04.mut (o' := .lst (xs ++ [yv])) hDl hG4 hn hH4
      refine ⟨xs, hH4, sz_lt (by rw [r.length]; omega), G4, xs ++ [yv], acc ++ [yd], n5, hG4, upd_same, (((r.mono n2.gg).mono n3.gg).mono n4.gg).append (.cons ry .nil), by simp; omega, ky⟩
  · have e' : i = ds.length := by omega
    subst e'
    exact .inl ⟨wk.stop G' H' n.gg w', q Dl xs acc G' H' (n1.trans n) hG (by
      cases z : H Dl with
      | none => rfl
      | some o => exact absurd hDl (n1.th Dl (by rw [z]; simp))) hH r (hd acc hl p)⟩
/-! ### reading a slot's own list -/
section
variable {R : Dt → Prop} {i : Nat} {xs : List Dt}
/-- what a rule asks of a list at p -/
theorem En.lst {B G H : Hp} {σ : L2.St} (E : En K J B G H σ env) (hi : env[i]? = some (.ml xs)) : ∃ p vs, σ[i]? = some (some (.ref p)) ∧ H p = some (.lst vs) ∧ Da K G vs xs ∧ p ∉ J.ms ∧ G p = none := by
  obtain ⟨ov, h1, p, vs, h2, hB, hG, hm, hH, r⟩ := E.ok i _ hi
  exact ⟨p, vs, by rw [h1, h2], hH, r, hm, hG⟩
end
end

/-! ### named readings -/
def rLen (K : PySem.W.Frag) : List V → Hp → VK → Prop := fun xs H Q => ∃ x n, xs = [x] ∧ LenV K x H n ∧ Q (.int n) H
theorem c_len {X : Cx} : CallR X (.builtin "len") (rLen X.K) := call_len
def rInt : List V → Hp → VK → Prop := fun xs H Q => (∃ i, xs = [.int i] ∧ Q (.int i) H) ∨ ∃ k, xs = [.bl k] ∧ Q (.int (if k then 1 else 0)) H
theorem c_int {X : Cx} : CallR X (.type "int") rInt := call_int1
def rAbs : List V → Hp → VK → Prop := fun xs H Q => ∃ i, xs = [.int i] ∧ Q (.int (if i < 0 then -i else i)) H
theorem c_abs {X : Cx} : CallR X (.builtin "abs") rAbs := call_abs
def rMax : List V → Hp → VK → Prop := fun xs H Q => ∃ i j, xs = [.int i, .int j] ∧ Q (.int (if j > i then j else i)) H
theorem c_max {X : Cx} (hc : X.calm = true := by rfl) : CallR X (.builtin "max") rMax := call_max2 hc
def rMin : List V → Hp → VK → Prop := fun xs H Q => ∃ i j, xs = [.int i, .int j] ∧ Q (.int (if j < i then j else i)) H
theorem c_min {X : Cx} (hc : X.calm = true := by rfl) : CallR X (.builtin "min") rMin := call_min2 hc
def rTup (K : PySem.W.Frag) : List V → Hp → VK → Prop := fun xs H Q => ∃ p ys, xs = [.ref p] ∧ ((SqL K H p ys ∧ ∀ l, H l = none → Q (.ref l) (upd H l (.tup ys))) ∨ (SqT K H p ys ∧ Q (.ref p) H))
theorem c_tup {X : Cx} : CallR X (.type "tuple") (rTup X.K) := call_tuple_of
def rLst (K : PySem.W.Frag) : List V → Hp → VK → Prop := fun xs H Q => ∃ p ys, xs = [.ref p] ∧ (SqL K H p ys ∨ SqT K H p ys) ∧ ∀ l, H l = none → Q (.ref l) (upd H l (.lst ys))
theorem c_lst {X : Cx} : CallR X (.type "list") (rLst X.K) := call_list_of
def rIsi' (K : PySem.W.Frag) : List V → Hp → VK → Prop := rIsi K
theorem c_isi {X : Cx} : CallR X (.builtin "isinstance") (rIsi X.K) := call_isi

/-! ### what they come to over data -/
def atD (ds : List Dt) (i : Int) : Option Dt := (ixN ds.length i).bind fun j => ds[j]?
theorem atD_nat {ds : List Dt} {j : Nat} {d : Dt} (h : ds[j]? = some d) : atD ds (j : Int) = some d := by
  unfold atD
  rw [ixN_nat (List.getElem?_eq_some_iff.mp h).1]
  exact h
theorem Da.at {K : PySem.W.Frag} {G : Hp} {vs : List V} {ds : List Dt} {i : Int} {d : Dt} (r : Da K G vs ds) (h : atD ds i = some d) : ∃ v, atI vs i = some v ∧ Dr K G v d := by
  unfold atD at h
  unfold atI
  rw [r.length]
  cases e : ixN ds.length i with
  | none => rw [e] at h; cases h
  | some j => rw [e] at h; exact r.get h
section
variable {K : PySem.W.Frag} {J : Jm} {env : List Sl} {R : Dt → Prop} {te ti : TE}
/-- an int operation with a condition, an int answer -/
theorem o2_I {C : Int → Int → Prop} {f : Int → Int → Int} {i j : Int} (hc : C i j) (h : R (.int (f i j))) : O2 K J (rI C fun i j => .int (f i j)) (.int i) (.int j) R := fun G H vx vy w rx ry Q q => by
  cases rx; cases ry
  exact ⟨i, j, rfl, rfl, hc, q _ _ G H w.nx (.int _) h⟩
theorem cdiv_ok {i j : Int} (h : 0 < j) (h2 : j < 1073741824) : CDiv i j := ⟨h, h2⟩
theorem cpow_ok {i j : Int} (h : 0 ≤ j) (h2 : j ≤ 1000000) (h3 : i.natAbs < 2 ^ 64) : CPow i j := ⟨h, h2, h3⟩
theorem cmul_l {i j : Int} (h : -(2 ^ 64) < i) (h2 : i < 2 ^ 64) : CMul i j := .inl ⟨h, h2⟩
theorem cmul_r {i j : Int} (h : -(2 ^ 64) < j) (h2 : j < 2 ^ 64) : CMul i j := .inr ⟨h, h2⟩
theorem o2_I0 {f : Int → Int → Int} {i j : Int} (h : R (.int (f i j))) : O2 K J (rI0 fun i j => .int (f i j)) (.int i) (.int j) R := fun G H vx vy w rx ry Q q => by
  cases rx; cases ry
  exact ⟨i, j, rfl, rfl, q _ _ G H w.nx (.int _) h⟩
theorem o2_B0 {f : Int → Int → Bool} {i j : Int} (h : R (.bl (f i j))) : O2 K J (rI0 fun i j => .bl (f i j)) (.int i) (.int j) R := fun G H vx vy w rx ry Q q => by
  cases rx; cases ry
  exact ⟨i, j, rfl, rfl, q _ _ G H w.nx (.bl _) h⟩
theorem o1_I {f : Int → Int} {i : Int} (h : R (.int (f i))) : O1 K J (rU fun i => .int (f i)) (.int i) R := fun G H vx w rx Q q => by
  cases rx
  exact ⟨i, rfl, q _ _ G H w.nx (.int _) h⟩
theorem o2_eqI {i j : Int} (h : R (.bl (decide (i = j)))) : O2 K J rEq (.int i) (.int j) R := fun G H vx vy w rx ry Q q => by
  cases rx; cases ry
  refine ⟨rfl, q _ _ G H w.nx (.bl _) ?_⟩
  rw [show decide (V.int i = V.int j) = decide (i = j) by simp]
  exact h
theorem o2_neI {i j : Int} (h : R (.bl (!decide (i = j)))) : O2 K J rNe (.int i) (.int j) R := fun G H vx vy w rx ry Q q => by
  cases rx; cases ry
  refine ⟨rfl, q _ _ G H w.nx (.bl _) ?_⟩
  rw [show decide (V.int i = V.int j) = decide (i = j) by simp]
  exact h
theorem o2_eqB {i j : Bool} (h : R (.bl (decide (i = j)))) : O2 K J rEq (.bl i) (.bl j) R := fun G H vx vy w rx ry Q q => by
  cases rx; cases ry
  refine ⟨rfl, q _ _ G H w.nx (.bl _) ?_⟩
  rw [show decide (V.bl i = V.bl j) = decide (i = j) by simp]
  exact h
theorem o2_neB {i j : Bool} (h : R (.bl (!decide (i = j)))) : O2 K J rNe (.bl i) (.bl j) R := fun G H vx vy w rx ry Q q => by
  cases rx; cases ry
  refine ⟨rfl, q _ _ G H w.nx (.bl _) ?_⟩
  rw [show decide (V.bl i = V.bl j) = decide (i = j) by simp]
  exact h
theorem o2_eqS {i j : Str} (h : R (.bl (decide (i = j)))) : O2 K J rEq (.str i) (.str j) R := fun G H vx vy w rx ry Q q => by
  cases rx; cases ry
  refine ⟨rfl, q _ _ G H w.nx (.bl _) ?_⟩
  rw [show decide (V.str i = V.str j) = decide (i = j) by simp]
  exact h
theorem o2_ixL {ds : List Dt} {i : Int} {d : Dt} (h : atD ds i = some d) (k : R d) : O2 K J (rIx K) (.lst ds) (.int i) R := fun G H vx vy w rx ry Q q => by
  cases ry
  cases rx with
  | lst s t =>
    obtain ⟨v, h1, h2⟩ := t.at h
    exact .inl ⟨_, _, i, v, rfl, rfl, same_l w.gh s, h1, q v d G H w.nx h2 k⟩
theorem o2_ixT {ds : List Dt} {i : Int} {d : Dt} (h : atD ds i = some d) (k : R d) : O2 K J (rIx K) (.tup ds) (.int i) R := fun G H vx vy w rx ry Q q => by
  cases ry
  cases rx with
  | tup s t =>
    obtain ⟨v, h1, h2⟩ := t.at h
    exact .inr (.inl ⟨_, _, i, v, rfl, rfl, same_t w.gh s, h1, q v d G H w.nx h2 k⟩)
theorem ev_ixM {i : Nat} {xs : List Dt} (hi : env[i]? = some (.ml xs)) (h : Ev K J env ti fun k => ∃ (j : Int) (d : Dt), k = .int j ∧ atD xs j = some d ∧ R d) : Ev K J env (tOp (rIx K) (tVar i) ti) R := fun B G H σ w E Q q => by
  obtain ⟨p, vs, h1, hH, r, hm, hG⟩ := E.lst hi
  refine ⟨.ref p, h1, h B G H σ w E _ fun v k G1 H1 n1 rk ⟨j, d, e, hj, x⟩ => ?_⟩
  subst e
  cases rk
  obtain ⟨u, h3, h4⟩ := (r.mono n1.gg).at hj
  exact .inl ⟨p, vs, j, u, rfl, rfl, .inl (.inl (n1.kp p _ hH hm)), h3, q u d G1 H1 n1 h4 x⟩
theorem oc_lenL {ds : List Dt} (h : R (.int (ds.length : Int))) : Oc K J (rLen K) [.lst ds] R := fun G H vs w rs Q q => by
  cases rs with
  | cons r1 r2 =>
    cases r2
    cases r1 with
    | lst s t =>
      refine ⟨_, ds.length, rfl, .inl ⟨_, same_l w.gh s, t.length.symm⟩, q _ _ G H w.nx (.int _) h⟩
theorem oc_lenT {ds : List Dt} (h : R (.int (ds.length : Int))) : Oc K J (rLen K) [.tup ds] R := fun G H vs w rs Q q => by
  cases rs with
  | cons r1 r2 =>
    cases r2
    cases r1 with
    | tup s t =>
      refine ⟨_, ds.length, rfl, .inr ⟨_, same_t w.gh s, t.length.symm⟩, q _ _ G H w.nx (.int _) h⟩
theorem ev_lenM {i : Nat} {xs : List Dt} (hi : env[i]? = some (.ml xs)) (h : R (.int (xs.length : Int))) : Ev K J env (tCB (rLen K) (tCons (tVar i) tNil)) R := fun B G H σ w E Q q => by
  obtain ⟨p, vs, h1, hH, r, hm, hG⟩ := E.lst hi
  exact ⟨.ref p, h1, _, xs.length, rfl, .inl ⟨_, .inl (.inl hH), r.length.symm⟩, q _ _ G H w.nx (.int _) h⟩
theorem oc_int {i : Int} (h : R (.int i)) : Oc K J rInt [.int i] R := fun G H vs w rs Q q => by
  cases rs with
  | cons r1 r2 =>
    cases r2
    cases r1
    exact .inl ⟨i, rfl, q _ _ G H w.nx (.int _) h⟩
theorem oc_intB {b : Bool} (h : R (.int (if b then 1 else 0))) : Oc K J rInt [.bl b] R := fun G H vs w rs Q q => by
  cases rs with
  | cons r1 r2 =>
    cases r2
    cases r1
    exact .inr ⟨b, rfl, q _ _ G H w.nx (.int _) h⟩
theorem oc_abs {i : Int} (h : R (.int (if i < 0 then -i else i))) : Oc K J rAbs [.int i] R := fun G H vs w rs Q q => by
  cases rs with
  | cons r1 r2 =>
    cases r2
    cases r1
    exact ⟨i, rfl, q _ _ G H w.nx (.int _) h⟩
theorem oc_max {i j : Int} (h : R (.int (if j > i then j else i))) : Oc K J rMax [.int i, .int j] R := fun G H vs w rs Q q => by
  cases rs with
  | cons r1 r2 =>
    cases r2 with
    | cons r2 r3 =>
      cases r3
      cases r1; cases r2
      exact ⟨i, j, rfl, q _ _ G H w.nx (.int _) h⟩
theorem oc_min {i j : Int} (h : R (.int (if j < i then j else i))) : Oc K J rMin [.int i, .int j] R := fun G H vs w rs Q q => by
  cases rs with
  | cons r1 r2 =>
    cases r2 with
    | cons r2 r3 =>
      cases r3
      cases r1; cases r2
      exact ⟨i, j, rfl, q _ _ G H w.nx (.int _) h⟩
theorem oc_tupL {ds : List Dt} (h : R (.tup ds)) : Oc K J (rTup K) [.lst ds] R := fun G H vs w rs Q q => by
  cases rs with
  | cons r1 r2 =>
    cases r2
    cases r1 with
    | @lst a xs ds s t =>
      refine ⟨_, _, rfl, .inl ⟨same_l w.gh s, fun l hl => ?_⟩⟩
      have n := w.new hl (.tup xs)
      exact q _ _ _ _ n (.tup (.inl (.inl upd_same)) (t.mono n.gg)) h
theorem oc_tupT {ds : List Dt} (h : R (.tup ds)) : Oc K J (rTup K) [.tup ds] R := fun G H vs w rs Q q => by
  cases rs with
  | cons r1 r2 =>
    cases r2
    cases r1 with
    | tup s t => exact ⟨_, _, rfl, .inr ⟨same_t w.gh s, q _ _ G H w.nx (.tup s t) h⟩⟩
theorem ev_tupM {i : Nat} {xs : List Dt} (hi : env[i]? = some (.ml xs)) (h : R (.tup xs)) : Ev K J env (tCB (rTup K) (tCons (tVar i) tNil)) R := fun B G H σ w E Q q => by
  obtain ⟨p, vs, h1, hH, r, hm, hG⟩ := E.lst hi
  refine ⟨.ref p, h1, _, _, rfl, .inl ⟨.inl (.inl hH), fun l hl => ?_⟩⟩
  have n := w.new hl (.tup vs)
  exact q _ _ _ _ n (.tup (.inl (.inl upd_same)) (r.mono n.gg)) h
/-- list(x), a new list -/
theorem em_list {R : List Dt → Prop} (h : Ev K J env te fun x => ∃ ds, (x = .lst ds ∨ x = .tup ds) ∧ R ds) : Em K J env (tCB (rLst K) (tCons te tNil)) R := fun B G H σ w E Q q =>
  h B G H σ w E _ fun v x G1 H1 n1 r ⟨ds, e, k⟩ => by
    have w1 := n1.wf w
    have fin : ∀ (a : Addr) (vs : List V), v = .ref a → (SqL K G1 a vs ∨ SqT K G1 a vs) → Da K G1 vs ds → tNil σ H1 fun xs H2 => rLst K (v :: xs) H2 Q := fun a vs ev hs t => by
      subst ev
      refine ⟨a, vs, rfl, hs.imp (same_l w1.gh) (same_t w1.gh), fun l hl => q l vs ds G1 _ (n1.trans (w1.newM hl _)) (w1.free hl) ?_ upd_same t k⟩
      cases z : H l with
      | none => rfl
      | some o => exact absurd hl (n1.th l (by rw [z]; simp))
    rcases e with e | e
    · subst e
      cases r with
      | lst s t => exact fin _ _ rfl (.inl s) t
    · subst e
      cases r with
      | tup s t => exact fin _ _ rfl (.inr s) t
/-! in -/
def flatD : Dt → Bool
  | .non => true | .bl _ => true | .int _ => true | .str _ => true | _ => false
def eqD : Dt → Dt → Bool
  | .non, .non => true
  | .bl a, .bl b => a == b
  | .bl a, .int b => (if a then 1 else 0) == b
  | .int a, .bl b => a == (if b then 1 else 0)
  | .int a, .int b => a == b
  | .str a, .str b => a == b
  | _, _ => false
theorem flat_of {G : Hp} {v : V} {d : Dt} (r : Dr K G v d) (h : flatD d = true) : flatV v = true := by
  cases r <;> first | rfl | cases h
theorem eq_of {G G' : Hp} {v u : V} {d e : Dt} (r : Dr K G v d) (s : Dr K G' u e) : eqV v u = eqD d e := by
  cases r <;> cases s <;> rfl
def inD (x : Dt) (ds : List Dt) : Bool := ds.any fun y => eqD y x
theorem in_of {G G' : Hp} {v : V} {x : Dt} (s : Dr K G' v x) : ∀ {vs : List V} {ds : List Dt}, Da K G vs ds → inV v vs = inD x ds
  | _, _, .nil => rfl
  | _, _, .cons r t => by
    have := in_of s t
    unfold inV inD at this ⊢
    rw [List.any_cons, List.any_cons, this, eq_of r s]
theorem all_of {G : Hp} : ∀ {vs : List V} {ds : List Dt}, Da K G vs ds → ds.all flatD = true → vs.all flatV = true
  | _, _, .nil, _ => rfl
  | _, _, .cons r t, h => by
    rw [List.all_cons, Bool.and_eq_true] at h ⊢
    exact ⟨flat_of r h.1, all_of t h.2⟩
theorem o2_inT {x : Dt} {ds : List Dt} {neg : Bool} (hx : flatD x = true) (hs : ds.all flatD = true) (h : R (.bl (if neg then !inD x ds else inD x ds))) : O2 K J (rIn K neg) x (.tup ds) R := fun G H vx vy w rx ry Q q => by
  cases ry with
  | tup s t =>
    refine ⟨_, _, rfl, .inr (same_t w.gh s), flat_of rx hx, all_of t hs, q _ _ G H w.nx (.bl _) ?_⟩
    rw [in_of rx t]
    exact h
theorem o2_inL {x : Dt} {ds : List Dt} {neg : Bool} (hx : flatD x = true) (hs : ds.all flatD = true) (h : R (.bl (if neg then !inD x ds else inD x ds))) : O2 K J (rIn K neg) x (.lst ds) R := fun G H vx vy w rx ry Q q => by
  cases ry with
  | lst s t =>
    refine ⟨_, _, rfl, .inl (same_l w.gh s), flat_of rx hx, all_of t hs, q _ _ G H w.nx (.bl _) ?_⟩
    rw [in_of rx t]
    exact h
theorem ev_inM {i : Nat} {xs : List Dt} {neg : Bool} (hi : env[i]? = some (.ml xs)) (hs : xs.all flatD = true) (h : Ev K J env te fun x => flatD x = true ∧ R (.bl (if neg then !inD x xs else inD x xs))) : Ev K J env (tOp (rIn K neg) te (tVar i)) R := fun B G H σ w E Q q =>
  h B G H σ w E _ fun v x G1 H1 n1 r ⟨hx, k⟩ => by
    obtain ⟨p, vs, h1, hH, t, hm, hG⟩ := (E.mono n1).lst hi
    refine ⟨.ref p, h1, p, vs, rfl, .inl (.inl (.inl hH)), flat_of r hx, all_of t hs, q _ _ G1 H1 n1 (.bl _) ?_⟩
    rw [in_of r t]
    exact k
/-! None, truth -/
def rIsN : R2 := fun x y H Q => y = .non ∧ Q (.bl (decide (x = .non))) H
theorem op_is_none {X : Cx} : OpR X (compareOp .Is) rIsN := op_isN
def rNotN : R2 := fun x y H Q => y = .non ∧ Q (.bl (!decide (x = .non))) H
theorem op_not_none {X : Cx} : OpR X (compareOp .IsNot) rNotN := op_notN
def isNo : Dt → Bool | .non => true | _ => false
theorem no_of {G : Hp} {v : V} {d : Dt} (r : Dr K G v d) : decide (v = .non) = isNo d := by
  cases r <;> simp [isNo]
theorem o2_isN {x : Dt} (h : R (.bl (isNo x))) : O2 K J rIsN x .non R := fun G H vx vy w rx ry Q q => by
  cases ry
  refine ⟨rfl, q _ _ G H w.nx (.bl _) ?_⟩
  rw [no_of rx]; exact h
theorem o2_notN {x : Dt} (h : R (.bl (!isNo x))) : O2 K J rNotN x .non R := fun G H vx vy w rx ry Q q => by
  cases ry
  refine ⟨rfl, q _ _ G H w.nx (.bl _) ?_⟩
  rw [no_of rx]; exact h
/-! isinstance of a built-in class -/
def tyD : Dt → Option String
  | .non => some "NoneType" | .bl _ => some "bool" | .int _ => some "int" | .str _ => some "str" | .lst _ => some "list" | .tup _ => some "tuple" | .ob _ _ => none | .ptr _ => none
theorem ty_of {G H : Hp} {v : V} {d : Dt} {t : String} (r : Dr K G v d) (sg : Same G H) (h : tyD d = some t) : TyX K H v (.type t) := by
  cases r with
  | non => cases h; exact .base .non
  | bl b => cases h; exact .base (.bl b)
  | int b => cases h; exact .base (.int b)
  | str b => cases h; exact .base (.str b)
  | lst s t =>
    cases h
    rcases s with (s | ⟨o, s⟩) | ⟨o, its, n, h1, h2, _⟩
    · exact .base (.lst (sg _ _ s))
    · exact .base (.frz (sg _ _ s))
    · exact .kList h1 h2
  | tup s t =>
    cases h
    rcases s with (s | ⟨o, s⟩) | ⟨o, its, n, h1, h2, _⟩
    · exact .base (.tup (sg _ _ s))
    · exact .fTuple (sg _ _ s)
    · exact .kTuple h1 h2
  | ob s t => cases h
  | ptr a => cases h
/-- isinstance's answer for data and a built-in class -/
def isiD (d : Dt) (c : String) : Bool := match d with
  | .non => c == "NoneType" | .bl _ => c == "bool" || c == "int" | .int _ => c == "int" | .str _ => c == "str" | .lst _ => c == "list" | .tup _ => c == "tuple" | .ob _ _ => false | .ptr _ => false
theorem ev_isi {c : String} (h : Ev K J env te fun x => (∃ t, tyD x = some t ∧ PySem.W.kitOne K (.type t) (.type c) = some (isiD x c)) ∧ R (.bl (isiD x c))) : Ev K J env (tCB (rIsi K) (tCons te (tCons (tC (.ty c)) tNil))) R := fun B G H σ w E Q q =>
  h B G H σ w E _ fun v x G1 H1 n1 r ⟨⟨t, ht, hk⟩, k⟩ => ⟨v, .ty c, .type t, .type c, _, rfl, .ty c, ty_of r n1.gh ht, hk, q _ _ G1 H1 n1 (.bl _) k⟩
def noOb : Dt → Bool | .ob _ _ => false | .ptr _ => false | _ => true
theorem ev_isiB {c : String} (hc : c = "tuple" ∨ c = "list" ∨ c = "int" ∨ c = "bool" ∨ c = "str") (h : Ev K J env te fun x => noOb x = true ∧ R (.bl (isiD x c))) : Ev K J env (tCB (rIsi K) (tCons te (tCons (tC (.ty c)) tNil))) R :=
  ev_isi (h.imp fun x ⟨hn, k⟩ => ⟨(by
    rcases hc with rfl | rfl | rfl | rfl | rfl <;> (cases x <;> first | exact ⟨_, rfl, rfl⟩ | (cases hn))), k⟩)
end
end Mv

set_option Elab.async false
set_option linter.all false
set_option maxRecDepth 100000
set_option maxHeartbeats 4000000
namespace Mv
open PySem PySem.Spec PyProof.Rows L2
/-! ### enumerate, zip -/
def pairD (a b : Dt) : Dt := .tup [a, b]
def enumD (ds : List Dt) : List Dt := ds.mapIdx fun i d => pairD (.int (i : Int)) d
theorem enumD_get {ds : List Dt} {i : Nat} {d : Dt} (h : ds[i]? = some d) : (enumD ds)[i]? = some (pairD (.int (i : Int)) d) := by
  unfold enumD
  rw [List.getElem?_mapIdx, h]
  rfl
theorem enumD_len (ds : List Dt) : (enumD ds).length = ds.length := by unfold enumD; simp
section
variable {K : PySem.W.Frag} {J : Jm} {env : List Sl} {ta : TA} {te : TE}
/-- a walk of new pairs -/
theorem wk_pairs {G : Hp} {I : It} {n : Nat} {Gd : Hp → Prop} {f g : Nat → Option V} {es : List Dt} (wl : Walk I n Gd (YPair f g)) (hl : es.length = n) (hG : ∀ G1 H1, Same G G1 → Same G1 H1 → Gd H1)
    (hv : ∀ i x y, f i = some x → g i = some y → ∃ a b, es[i]? = some (pairD a b) ∧ Dr K G x a ∧ Dr K G y b) : Wk K J G I es := by
  refine ⟨fun i G1 H1 sg w hi => wl.goes i H1 (by omega) (hG G1 H1 sg w.gh), fun G1 H1 sg w => hl ▸ wl.stops H1 (hG G1 H1 sg w.gh), fun i G1 H1 x H2 sg w hi y => ?_⟩
  obtain ⟨T, u, v, rfl, hT, rfl, h1, h2⟩ := wl.yields i H1 x H2 (by omega) (hG G1 H1 sg w.gh) y
  obtain ⟨a, b, h3, ra, rb⟩ := hv i u v h1 h2
  have n2 := w.new hT (.tup [u, v])
  exact ⟨_, _, n2, h3, .tup (.inl (.inl upd_same)) (.cons ((ra.mono sg).mono n2.gg) (.cons ((rb.mono sg).mono n2.gg) .nil))⟩
theorem walk_enumT {a : Addr} {xs : List V} : Walk (IteT K a) xs.length (fun H => SqT K H a xs) (YPair (fun i => some (.int (i : Nat))) (fun i => xs[i]?)) := by
  refine ⟨fun i _ hi q => ⟨xs, xs[i], q, by simp [hi]⟩, fun _ q => ⟨xs, q, Nat.le_refl _⟩, fun i H v H' _ q y => ?_⟩
  obtain ⟨T, x, h1, h2, h3, h4⟩ := y
  exact ⟨T, .int (i : Nat), x, h1, h2, h3, rfl, h4 xs q⟩
theorem ei_enum {R : List Dt → Prop} (h : Ev K J env te fun x => ∃ ds, (x = .lst ds ∨ x = .tup ds) ∧ R (enumD ds)) : Ei K J env (iEnumA K (tCons te tNil)) R := fun B G H σ w E Q q =>
  h B G H σ w E _ fun v x G1 H1 n1 r ⟨ds, e, k⟩ => by
    have fin : ∀ {vs : List V}, Da K G1 vs ds → ∀ (i : Nat) (x y : V), (some (V.int (i : Nat)) = some x) → vs[i]? = some y → ∃ a b, (enumD ds)[i]? = some (pairD a b) ∧ Dr K G1 x a ∧ Dr K G1 y b := fun t i x y h1 h2 => by
      cases h1
      obtain ⟨d, h3, h4⟩ := t.get' h2
      exact ⟨_, _, enumD_get h3, .int _, h4⟩
    rcases e with e | e
    · subst e
      cases r with
      | @lst a vs ds s t => exact ⟨a, vs, rfl, .inl ⟨same_l n1.gh s, q _ _ G1 H1 n1 (wk_pairs walk_enum (by rw [enumD_len, t.length]) (fun G2 H2 s1 s2 => same_l (s1.trans s2) s) (fin t)) k⟩⟩
    · subst e
      cases r with
      | @tup a vs ds s t => exact ⟨a, vs, rfl, .inr ⟨same_t n1.gh s, q _ _ G1 H1 n1 (wk_pairs walk_enumT (by rw [enumD_len, t.length]) (fun G2 H2 s1 s2 => same_t (s1.trans s2) s) (fin t)) k⟩⟩
end
/-! ### a def by its body -/
def startE (N : List Str) (ss : List Sl) : List Sl := ss ++ List.replicate (N.length - ss.length) .no
theorem SvA.length {K : PySem.W.Frag} {J : Jm} {G : Hp} : ∀ {vs : List V} {ss : List Sl}, SvA K J G vs ss → vs.length = ss.length
  | _, _, .nil => rfl
  | _, _, .cons _ t => by rw [List.length_cons, List.length_cons, SvA.length t]
theorem SvA.get {K : PySem.W.Frag} {J : Jm} {G : Hp} : ∀ {vs : List V} {ss : List Sl} {i : Nat} {s : Sl}, SvA K J G vs ss → ss[i]? = some s → ∃ v, vs[i]? = some v ∧ Sv1 K J G v s
  | _, _, _, _, .nil, h => by simp at h
  | _, _, 0, _, .cons r _, h => by simp at h; subst h; exact ⟨_, rfl, r⟩
  | _, _, i + 1, _, .cons _ t, h => by
    obtain ⟨v, h1, h2⟩ := SvA.get (i := i) t (by simpa using h)
    exact ⟨v, by simpa using h1, h2⟩
theorem en_start {K : PySem.W.Frag} {J : Jm} {G H : Hp} {N : List Str} {vs : List V} {ss : List Sl} (r : SvA K J G vs ss) : En K J H G H (L2.start N vs) (startE N ss) := by
  have hl := r.length
  have ns : ∀ (i : Nat) (xs : List Dt), (startE N ss)[i]? ≠ some (.ml xs) := fun i xs h => by
    unfold startE at h
    by_cases hi : i < ss.length
    · rw [List.getElem?_append_left hi] at h
      obtain ⟨v, _, z⟩ := r.get h
      exact z
    · rw [List.getElem?_append_right (by omega), List.getElem?_replicate] at h
      split at h <;> cases h
  refine ⟨by simp [L2.start, startE, hl], fun i s h => ?_, fun i j p _ ⟨xs, h⟩ _ _ _ => ns i xs h⟩
  unfold startE at h
  unfold L2.start
  by_cases hi : i < ss.length
  · rw [List.getElem?_append_left hi] at h
    obtain ⟨v, h1, h2⟩ := r.get h
    refine ⟨some v, by rw [List.getElem?_append_left (by simp; omega), List.getElem?_map, h1]; rfl, ?_⟩
    cases s with
    | no => trivial
    | d x => exact ⟨v, rfl, h2⟩
    | ml xs => cases h2
    | xv a d fs => cases h2
    | mi q C fs => cases h2
    | md kvs => cases h2
    | hand => obtain ⟨hh, d, e1, e2⟩ := h2; exact ⟨hh, d, by rw [e1], e2⟩
    | hnd => obtain ⟨hh, e1, e2⟩ := h2; exact ⟨hh, by rw [e1], e2⟩
    | tap => obtain ⟨hh, cc, e1, e2⟩ := h2; exact ⟨hh, cc, by rw [e1], e2⟩
  · rw [List.getElem?_append_right (by omega), List.getElem?_replicate] at h
    split at h
    · rename_i hlt
      cases h
      exact ⟨none, by rw [List.getElem?_append_right (by simp; omega), List.getElem?_replicate, if_pos (by simp; omega)], trivial⟩
    · cases h
section
variable {P : Program} {w : World} {K : PySem.W.Frag} {mg : Str → Option Value} {base : Heap}
theorem ok_ct {x qual : Str} {st : Stmt} {f : Addr} {fd : FuncData} {N ps : List Str} {k : Nat} {W : Fw} (F : L2.Fun K x qual st f fd) (S : FnScope N ps (defScope st)) (hn : ∀ ss P, W ss P → ss.length = ps.length)
    (hb : ∀ (cdv : Value) (A : Around) (outer : List PySem.Env) (s : Shared) (H : Hp) (E : XK), Room k (A.deeper (envOfC qual (defScope st) s.heap.objs.size f cdv)) →
      ∃ t, PSs (cxOf CX0 P w K mg base N qual (defScope st) f cdv A outer s H E).nox (defBody st) t ∧ ∀ J ss P, W ss P → Sv K J (startE N ss) t { nx := fun _ => P .non, rt := P }) : FnOk P w K mg base CX0 (k + 1) f fd ps (Ct K W) := by
  refine F.ok S (fun vs H Q E h => ?_) (fun cdv A outer s H vs Q E hr h => ?_)
  · obtain ⟨J, G, ss, P, wf, sv, hW, _⟩ := h
    rw [sv.length, hn ss P hW]
  · obtain ⟨J, G, ss, P, wf, sv, hW, q⟩ := h
    obtain ⟨t, hp, ht⟩ := hb cdv A outer s H E hr
    refine ⟨t, hp, ?_⟩
    exact ht J ss P hW G H G H (L2.start N vs) ⟨wf, wf.nx, en_start sv⟩ _ (fun e G' H' σ' a x => q .non .non G' H' a.nx .non x) (fun _ _ _ _ _ x => x.elim) (fun _ _ _ _ _ x => x.elim) (fun v d G' H' n r x => q v d G' H' n r x) (fun _ _ _ _ _ _ _ _ _ _ x => x.elim) (fun _ _ _ _ _ _ _ _ _ _ _ x => x.elim)
theorem ok_ctm {x qual : Str} {st : Stmt} {f : Addr} {fd : FuncData} {N ps : List Str} {k : Nat} {W : FwM} (F : L2.Fun K x qual st f fd) (S : FnScope N ps (defScope st)) (hn : ∀ ss P, W ss P → ss.length = ps.length)
    (hb : ∀ (cdv : Value) (A : Around) (outer : List PySem.Env) (s : Shared) (H : Hp) (E : XK), Room k (A.deeper (envOfC qual (defScope st) s.heap.objs.size f cdv)) →
      ∃ t, PSs (cxOf CX0 P w K mg base N qual (defScope st) f cdv A outer s H E).nox (defBody st) t ∧ ∀ J ss P, W ss P → Sv K J (startE N ss) t { nx := fun _ => False, rt := fun _ => False, rm := P }) : FnOk P w K mg base CX0 (k + 1) f fd ps (CtM K W) := by
  refine F.ok S (fun vs H Q E h => ?_) (fun cdv A outer s H vs Q E hr h => ?_)
  · obtain ⟨J, G, ss, P, wf, sv, hW, _⟩ := h
    rw [sv.length, hn ss P hW]
  · obtain ⟨J, G, ss, P, wf, sv, hW, q⟩ := h
    obtain ⟨t, hp, ht⟩ := hb cdv A outer s H E hr
    refine ⟨t, hp, ?_⟩
    exact ht J ss P hW G H G H (L2.start N vs) ⟨wf, wf.nx, en_start sv⟩ _ (fun e G' H' σ' a x => x.elim) (fun _ _ _ _ _ x => x.elim) (fun _ _ _ _ _ x => x.elim) (fun _ _ _ _ _ _ x => x.elim) (fun p ws ds G' H' n a b c r x => q p ws ds G' H' n a b c r x) (fun _ _ _ _ _ _ _ _ _ _ _ x => x.elim)
end
end Mv
namespace Mv
open PySem PySem.Spec PyProof.Rows L2
/-! ### walking a list or a tuple -/
def iSeq (K : PySem.W.Frag) (tl : TE) : TI := fun σ H R => tl σ H fun x H1 => ∃ a, x = .ref a ∧ ((∃ xs, SqL K H1 a xs ∧ R (Itl K a) H1) ∨ ∃ xs, SqT K H1 a xs ∧ R (Itt K a) H1)
theorem pi_seq {X : Cx} {tg l : Expr} {tl : TE} (hl : PE X l tl) : PI X tg l (iSeq X.K tl) := by
  refine ⟨fun pins s σ H R I h => thn (hl.run pins s σ H _ I h) fun v s1 ⟨x, H1, I1, r1, a, e, q1⟩ => ?_⟩
  subst e
  cases r1
  have fr : ∀ b, b ∈ [s1.heap.objs.size] → FpOk X pins H1 b := fun b hb => by
    have e : b = s1.heap.objs.size := by simpa using hb
    exact e ▸ I1.fpOk (Nat.le_refl _) (I1.hok.fresh (Nat.le_refl _))
  rcases q1 with ⟨xs, hq, q⟩ | ⟨xs, hq, q⟩
  · obtain ⟨its, rv, p, hz⟩ := I1.list hq
    exact wpAny_pyIter_list p.isList ⟨_, [s1.heap.objs.size], _, _, H1, rfl, I1.kept (t' := s1.toks) fun b o e => Heap.get?_push_of_some _ e, turn_list a _, ⟨_, Heap.get?_push_size _ rfl, rfl, rfl⟩, fr, q⟩
  · obtain ⟨its, rv, p, hz⟩ := I1.tuple hq
    have hp : s1.heap.IsTuple a its.toArray := p
    exact wpAny_pyIter_tuple hp ⟨_, [s1.heap.objs.size], _, _, H1, rfl, I1.kept (t' := s1.toks) fun b o e => Heap.get?_push_of_some _ e, turn_tuple a _, ⟨_, Heap.get?_push_size _ rfl, rfl, rfl⟩, fr, q⟩
theorem ei_seq {K : PySem.W.Frag} {J : Jm} {env : List Sl} {tl : TE} {R : List Dt → Prop} (h : Ev K J env tl fun x => ∃ ds, (x = .lst ds ∨ x = .tup ds) ∧ R ds) : Ei K J env (iSeq K tl) R := fun B G H σ w E Q q =>
  h B G H σ w E _ fun v x G1 H1 n1 r ⟨ds, e, k⟩ => by
    rcases e with e | e
    · subst e
      cases r with
      | lst s t => exact ⟨_, rfl, .inl ⟨_, same_l n1.gh s, q _ ds G1 H1 n1 (wk_list s t) k⟩⟩
    · subst e
      cases r with
      | tup s t => exact ⟨_, rfl, .inr ⟨_, same_t n1.gh s, q _ ds G1 H1 n1 (wk_tup s t) k⟩⟩
/-! ### a def that may be called -/
structure Cal (P : Program) (w : World) (K : PySem.W.Frag) (mg : Str → Option Value) (base : Heap) (k : Nat) (x : Str) (ps : List Str) (sp : Sp) : Prop where
  ex : ∃ f fd, FnOk P w K mg base CX0 k f fd ps sp ∧ mg x = some (.ref f) ∧ PySem.W.keepIn K (.ref f) = true ∧ Binds K fd ps []
theorem Cal.mono {P : Program} {w : World} {K : PySem.W.Frag} {mg : Str → Option Value} {base : Heap} {j k : Nat} {x : Str} {ps : List Str} {sp : Sp} (C : Cal P w K mg base j x ps sp) (h : j ≤ k) : Cal P w K mg base k x ps sp := by
  obtain ⟨f, fd, F, g, e, b⟩ := C.ex
  exact ⟨f, fd, F.mono h, g, e, b⟩
theorem pe_callC {X : Cx} {k : Nat} {x : Str} {ps : List Str} {sp : Sp} {p pos : Pos} {e : Expr} {es : List Expr} {t : TA} (C : Cal X.prog X.w X.K X.mg X.base k x ps sp) (hr : Room k X.A) (hg : Gl X x)
    (ha : PA X (e :: es) t) (hdb : (x == ("__debug__" : Str)) = false := by decide) (he : starEach (e :: es) X.env = (false, eval e X.env) :: starEach es X.env := by rfl) (hpl : (backTo pos (starEach es X.env)).any (·.1) = false := by rfl) :
    PE X (.Call (.Name x p) (e :: es) [] pos) (tCall sp [] E0 t) := by
  obtain ⟨f, fd, F, g, ke, b⟩ := C.ex
  exact pe_call F hr hg g ke b .nil pass0 ha hdb he hpl
/-! ### the rules with the written part named, so that a block's term hangs on nothing of the block -/
section
variable (K : PySem.W.Frag) {X : Cx}
theorem ix_seqK (h : X.K = K := by rfl) : IxR X (rIx K) := h ▸ ix_seq
theorem c_lenK (h : X.K = K := by rfl) : CallR X (.builtin "len") (rLen K) := h ▸ c_len
theorem c_tupK (h : X.K = K := by rfl) : CallR X (.type "tuple") (rTup K) := h ▸ c_tup
theorem c_lstK (h : X.K = K := by rfl) : CallR X (.type "list") (rLst K) := h ▸ c_lst
theorem c_isiK (h : X.K = K := by rfl) : CallR X (.builtin "isinstance") (rIsi K) := h ▸ c_isi
theorem op_inK (h : X.K = K := by rfl) : OpR X (compareOp .In) (rIn K false) := h ▸ op_in_seq
theorem op_notInK (h : X.K = K := by rfl) : OpR X (compareOp .NotIn) (rIn K true) := h ▸ op_notIn_seq
theorem pi_seqK {tg l : Expr} {tl : TE} (hl : PE X l tl) (h : X.K = K := by rfl) : PI X tg l (iSeq K tl) := h ▸ pi_seq hl
theorem pi_enumK {e : Expr} {ta : TA} {p pos tpos : Pos} {elts : List Expr} {kk : Nat} (hg : Gl X "enumerate") (hm : X.mg "enumerate" = none) (ha : PA X [e] ta) (h : X.K = K := by rfl)
    (hs : starEach [e] X.env = [(false, eval e X.env)] := by rfl) : PI X (.Tuple elts kk tpos) (.Call (.Name "enumerate" p) [e] [] pos) (iEnumA K ta) := h ▸ pi_enumA hg hm ha hs
theorem pg_tupK (n : Nat) {es : List Expr} {k : Nat} {t : TGs} {pos : Pos} (hc : X.calm = true) (h : PGs X es t) (hk : X.K = K := by rfl)
    (hn : (assignEach es X.env).length = n := by rfl) (hst : (assignEach es X.env).findIdx? (·.1) = none := by rfl) : PG X (.Tuple es k pos) (gTup K n t) := hk ▸ pg_tup hc h hn hst
theorem pi_zipK {e e2 : Expr} {ta : TA} {p pos tpos : Pos} {elts : List Expr} {kk : Nat} (hg : Gl X "zip") (hm : X.mg "zip" = none) (ha : PA X [e, e2] ta) (hk : X.K = K := by rfl)
    (hs : starEach [e, e2] X.env = (false, eval e X.env) :: starEach [e2] X.env := by rfl) (hpl : (backTo pos (starEach [e2] X.env)).any (·.1) = false := by rfl) :
    PI X (.Tuple elts kk tpos) (.Call (.Name "zip" p) [e, e2] [] pos) (RZ.iZipA K ta) := hk ▸ RZ.pi_zipA hg hm ha hs hpl
end
end Mv

set_option Elab.async false
set_option linter.all false
set_option maxRecDepth 100000
set_option maxHeartbeats 4000000
namespace Mv
open PySem PySem.Spec PyProof.Rows L2
/-! ### what the laws' own helpers promise -/
def natsD (l : List Nat) : List Dt := l.map fun (v : Nat) => Dt.int (v : Int)
abbrev lotD (l : List Nat) : Dt := .tup (natsD l)
abbrev placD (ls : List (List Nat)) : Dt := .tup (ls.map lotD)
theorem bc_t {b : Bool} {A B : Prop} (hb : b = true) (h : A) : (b = true → A) ∧ (b = false → B) := ⟨fun _ => h, fun z => absurd (hb.symm.trans z) (by decide)⟩
theorem bc_f {b : Bool} {A B : Prop} (hb : b = false) (h : B) : (b = true → A) ∧ (b = false → B) := ⟨fun z => absurd (hb.symm.trans z) (by decide), fun _ => h⟩
structure LotOk (n : Nat) (l : List Nat) : Prop where
  ne : l ≠ []
  up : l.Pairwise (· < ·)
  lt : ∀ v ∈ l, v < n
def PlacOk (n : Nat) (ls : List (List Nat)) : Prop := ∀ l ∈ ls, LotOk n l
theorem natsD_len (l : List Nat) : (natsD l).length = l.length := by unfold natsD; simp
theorem flat_nats (l : List Nat) : (natsD l).all flatD = true := by
  unfold natsD
  rw [List.all_map]
  exact List.all_eq_true.mpr fun _ _ => rfl
theorem in_nats (v : Nat) (l : List Nat) : inD (.int (v : Int)) (natsD l) = decide (v ∈ l) := by
  unfold inD natsD
  rw [List.any_map]
  induction l with
  | nil => rfl
  | cons a r ih =>
    rw [List.any_cons, ih]
    show (((a : Int) == (v : Int)) || decide (v ∈ r)) = decide (v ∈ a :: r)
    rw [Bool.eq_iff_iff]
    have e : ((a : Int) = (v : Int)) ↔ (v = a) := by omega
    simp only [Bool.or_eq_true, beq_iff_eq, decide_eq_true_eq, List.mem_cons, e]
theorem ints_snoc {l : List Int} {x : Int} : l.map Dt.int ++ [Dt.int x] = (l ++ [x]).map Dt.int := by simp
theorem ints_set {l : List Int} {j : Nat} {x : Int} : (l.map Dt.int).set j (.int x) = (l.set j x).map Dt.int := by rw [List.map_set]
theorem range_at {n k : Nat} {d : Dt} (h : ((List.range ((n : Int)).toNat).map fun i => Dt.int ((i : Nat) : Int))[k]? = some d) : d = .int (k : Int) ∧ k < n := by
  have hk : k < n := by
    have := (List.getElem?_eq_some_iff.mp h).1
    simpa using this
  rw [List.getElem?_map, List.getElem?_range (by simpa using hk)] at h
  exact ⟨(Option.some.inj h).symm, hk⟩
def W_lot : Fw := fun ss P => ∃ n : Nat, ss = [.hand, .d (.int (n : Int))] ∧ 0 < n ∧ n ≤ 1000 ∧ ∀ l, LotOk n l → P (lotD l)
def W_draws : FwM := fun ss P => ∃ (ns : List Int) (m : Nat), ss = [.d (.lst (ns.map Dt.int)), .d (.int (m : Int))] ∧ m ≤ 1000 ∧ ns.length ≤ 63 ∧ ∀ ds : List Int, P (ds.map Dt.int)
def W_take : Fw := fun ss P => ∃ m : Int, ss = [.hand, .d (.int m)] ∧ 0 < m ∧ ∀ x : Int, 0 ≤ x → x < m → P (.int x)
/-- how deep data is; objects within are not compared -/
inductive Flat : Nat → Dt → Prop
  | non (n : Nat) : Flat n .non
  | bl (n : Nat) (b : Bool) : Flat n (.bl b)
  | int (n : Nat) (i : Int) : Flat n (.int i)
  | str (n : Nat) (s : Str) : Flat n (.str s)
  | lst (n : Nat) (ds : List Dt) (hz : ds.length ≤ 100000) (h : ∀ d, d ∈ ds → Flat n d) : Flat (n + 1) (.lst ds)
  | tup (n : Nat) (ds : List Dt) (hz : ds.length ≤ 100000) (h : ∀ d, d ∈ ds → Flat n d) : Flat (n + 1) (.tup ds)
/-- the same value, asked of two that are alike -/
def W_like (n : Nat) : Fw := fun ss P => ∃ x : Dt, ss = [.d x, .d x] ∧ Flat n x ∧ P (.bl true)
/-- the law: True, whatever the script -/
def spLaw (K : PySem.W.Frag) : Sp := fun vs H Q _ => ∃ (a : Addr) (ns : List Int), vs = [.ref a] ∧ SqL K H a (ns.map V.int) ∧ ns.length ≤ 63 ∧ ∀ H', Q (.bl true) H'
theorem spLaw_start {K : PySem.W.Frag} {H : Hp} {a : Addr} {ns : List Int} {E : XK} (hS : SqL K H a (ns.map V.int)) (hl : ns.length ≤ 63) : spLaw K [.ref a] H (fun v _ => v = .bl true) E := ⟨a, ns, rfl, hS, hl, fun _ => rfl⟩
section
variable {P : Program} {w : World} {K : PySem.W.Frag} {mg : Str → Option Value} {base : Heap}
/-- the law's own def -/
theorem ok_lw {x qual : Str} {st : Stmt} {f : Addr} {fd : FuncData} {N : List Str} {k : Nat} (F : L2.Fun K x qual st f fd) (S : FnScope N ["script"] (defScope st))
    (hb : ∀ (cdv : Value) (A : Around) (outer : List PySem.Env) (s : Shared) (H : Hp) (E : XK), Room k (A.deeper (envOfC qual (defScope st) s.heap.objs.size f cdv)) →
      ∃ t, PSs (cxOf CX0 P w K mg base N qual (defScope st) f cdv A outer s H E).nox (defBody st) t ∧ ∀ ns : List Int, ns.length ≤ 63 → Sv K J0 (startE N [.d (.lst (ns.map Dt.int))]) t { nx := fun _ => False, rt := fun d => d = .bl true }) :
    FnOk P w K mg base CX0 (k + 1) f fd ["script"] (spLaw K) := by
  refine F.ok S (fun vs H Q E h => ?_) (fun cdv A outer s H vs Q E hr h => ?_)
  · obtain ⟨a, ns, rfl, _⟩ := h
    rfl
  · obtain ⟨a, ns, rfl, hS, hl, q⟩ := h
    obtain ⟨t, hp, ht⟩ := hb cdv A outer s H E hr
    refine ⟨t, hp, ?_⟩
    have wf := wf0 H
    have sv : SvA K J0 H [.ref a] [.d (.lst (ns.map Dt.int))] := .cons (show Dr K H (.ref a) (.lst (ns.map Dt.int)) from .lst hS Da.ints) .nil
    exact ht ns hl H H H H (L2.start N [.ref a]) ⟨wf, wf.nx, en_start sv⟩ _ (fun _ _ _ _ _ x => x.elim) (fun _ _ _ _ _ x => x.elim) (fun _ _ _ _ _ x => x.elim)
      (fun v d G' H' n r x => by subst x; cases r; exact q H') (fun _ _ _ _ _ _ _ _ _ _ x => x.elim) (fun _ _ _ _ _ _ _ _ _ _ _ x => x.elim)
/-- take: the draws' next, by their number -/
theorem take_ok {f : Addr} {fd : FuncData} {qual : Str} {st : Stmt} {N ps : List Str} {k : Nat} (F : L2.Fun K qual qual st f fd) (S : FnScope N ps (defScope st)) (h2 : ps.length = 2)
    (hb : ∀ (cdv : Value) (A : Around) (outer : List PySem.Env) (s : Shared) (H : Hp) (E : XK), Room k (A.deeper (envOfC qual (defScope st) s.heap.objs.size f cdv)) →
      ∃ t, PSs (cxOf CX0 P w K mg base N qual (defScope st) f cdv A outer s H E).nox (defBody st) t ∧
        ∀ (h d : Addr) (ns : List Int) (i m : Int) (Q : VK), h ≠ d → H h = some (.lst [.ref d, .int i]) → H d = some (.lst (ns.map V.int)) → 0 ≤ i → 0 < m →
          (∀ x : Int, 0 ≤ x → x < m → Q (.int x) (upd H h (.lst [.ref d, .int (i + 1)]))) → t { nx := fun _ H' => Q .non H', rt := Q } (L2.start N [.ref h, .int m]) H) :
    FnOk P w K mg base CX0 (k + 1) f fd ps (Ct K W_take) := by
  refine F.ok S (fun vs H Q E h => ?_) (fun cdv A outer s H vs Q E hr h => ?_)
  · obtain ⟨J, G, ss, P, wf, sv, ⟨m, e, _⟩, _⟩ := h
    rw [sv.length, e, h2]
    rfl
  · obtain ⟨J, G, ss, P, wf, sv, ⟨m, e, hm, hP⟩, q⟩ := h
    obtain ⟨t, hp, ht⟩ := hb cdv A outer s H E hr
    subst e
    cases sv with
    | cons s1 s2 =>
      cases s2 with
      | cons s2 s3 =>
        cases s3
        obtain ⟨h, d, e1, e2⟩ := s1
        have r2 : Dr K G _ (.int m) := s2
        cases r2
        subst e1
        obtain ⟨ns, i, a, b, c⟩ := J.hg _ _ e2 wf.ok
        have hhd : h ≠ d := fun z => by
          subst z
          rw [a] at b
          cases ns with
          | nil => cases b
          | cons x r => cases b
        have hms : h ∈ J.ms := J.hm _ e2
        refine ⟨t, hp, ht h d ns i m Q hhd a b c hm fun x h0 h1 => q (.int x) (.int x) G _ ?_ (.int x) (hP x h0 h1)⟩
        have hG := (wf.ms h hms).1
        refine ⟨Same.refl _, fun b o e => ?_, fun b e _ => e, fun b o e hb => ?_, fun b e => ?_, J.hp _ _ _ e2 wf.ok ⟨ns, i + 1, upd_same, by rw [upd_ne hhd.symm]; assumption, by omega⟩ fun b _ hb => upd_ne hb⟩
        · rw [upd_ne (ne_of_none e hG)]; exact wf.gh b o e
        · rw [upd_ne (fun z => hb (by rw [z]; exact hms))]; exact e
        · by_cases z : b = h
          · subst z; rw [upd_same]; simp
          · rw [upd_ne z]; exact e
/-- a def that calls itself, by the depth of what it is asked -/
def predW (W : Nat → Fw) : Nat → Fw
  | 0 => fun _ _ => False
  | n + 1 => W n
theorem rec_all {f : Addr} {fd : FuncData} {x : Str} {ps : List Str} (W : Nat → Fw) (g : mg x = some (.ref f)) (kp : PySem.W.keepIn K (.ref f) = true) (b : Binds K fd ps [])
    (step : ∀ n, Cal P w K mg base n x ps (Ct K (predW W n)) → FnOk P w K mg base CX0 (n + 1) f fd ps (Ct K (W n))) : ∀ n, FnOk P w K mg base CX0 (n + 1) f fd ps (Ct K (W n))
  | 0 => step 0 ⟨f, fd, ⟨fun vs H Q E h => by obtain ⟨_, _, _, _, _, _, z, _⟩ := h; exact z.elim, fun A outer s H args us vs Q E _ _ _ _ h => by obtain ⟨_, _, _, _, _, _, z, _⟩ := h; exact z.elim⟩, g, kp, b⟩
  | n + 1 => step (n + 1) ⟨f, fd, rec_all W g kp b step n, g, kp, b⟩
end
end Mv

set_option Elab.async false
set_option linter.all false
set_option maxRecDepth 100000
set_option maxHeartbeats 4000000
namespace Mv
open PySem PySem.Spec PyProof.Rows L2
section
variable {K : PySem.W.Frag} {J : Jm} {env : List Sl} {te : TE} {tt tt1 : TT}
/-- what is there already at the entry is no slot's own list -/
theorem En.base {B G H : Hp} {σ : L2.St} {p : Addr} (E : En K J B G H σ env) (h : H p = none) (o : HO) : En K J (upd B p o) G H σ env :=
  ⟨E.len, fun i s hs => by
    obtain ⟨ov, a, b⟩ := E.ok i s hs
    refine ⟨ov, a, ?_⟩
    cases s with
    | no => trivial
    | d x => exact b
    | hand => exact b
    | hnd => exact b
    | tap => exact b
    | xv a d fs => exact b
    | md kvs =>
      obtain ⟨q, us, e, hB, hG, hm, hH, r⟩ := b
      exact ⟨q, us, e, by rw [upd_ne (ne_of_none hH h)]; exact hB, hG, hm, hH, r⟩
    | mi q C fs =>
      obtain ⟨dx, us, e, hB, hG, hm, hH, r⟩ := b
      exact ⟨dx, us, e, by rw [upd_ne (ne_of_none hH h)]; exact hB, hG, hm, hH, r⟩
    | ml xs =>
      obtain ⟨q, us, e, hB, hG, hm, hH, r⟩ := b
      exact ⟨q, us, e, by rw [upd_ne (ne_of_none hH h)]; exact hB, hG, hm, hH, r⟩, E.ap⟩
theorem En.updB {B G H : Hp} {σ : L2.St} {p : Addr} {o o' : HO} (E : En K J B G H σ env) (h : B p = some o') : En K J B G (upd H p o) σ env :=
  ⟨E.len, fun i s hs => by
    obtain ⟨ov, a, b⟩ := E.ok i s hs
    refine ⟨ov, a, ?_⟩
    cases s with
    | no => trivial
    | d x => exact b
    | hand => exact b
    | hnd => exact b
    | tap => exact b
    | xv a d fs => exact b
    | md kvs =>
      obtain ⟨q, us, e, hB, hG, hm, hH, r⟩ := b
      exact ⟨q, us, e, hB, hG, hm, by rw [upd_ne (ne_of_none h hB).symm]; exact hH, r⟩
    | mi q C fs =>
      obtain ⟨dx, us, e, hB, hG, hm, hH, r⟩ := b
      exact ⟨dx, us, e, hB, hG, hm, by rw [upd_ne (ne_of_none h hB).symm]; exact hH, r⟩
    | ml xs =>
      obtain ⟨q, us, e, hB, hG, hm, hH, r⟩ := b
      exact ⟨q, us, e, hB, hG, hm, by rw [upd_ne (ne_of_none h hB).symm]; exact hH, r⟩, E.ap⟩
/-- [e for .. in .. if .. for .. in .. if ..] -/
theorem em_lc2 {wi wi1 : TI} {g g1 : TG} {vs vs1 : List Nat} {R : List Dt → Prop} (h : Ei K J env wi fun ds => ∃ Iv : Nat → List Dt → Prop, Iv 0 [] ∧
    (∀ k d acc, ds[k]? = some d → Iv k acc → Gt K J (wipeE env vs) g d vs fun e => Et K J e tt fun b => (b = true → Ei K J e wi1 fun es => ∃ Iw : Nat → List Dt → Prop, Iw 0 acc ∧
        (∀ j x ac, es[j]? = some x → Iw j ac → Gt K J (wipeE e vs1) g1 x vs1 fun e1 => Et K J e1 tt1 fun b1 => (b1 = true → ac.length < 100000 ∧ Ev K J e1 te fun y => Iw (j + 1) (ac ++ [y])) ∧ (b1 = false → Iw (j + 1) ac)) ∧
        ∀ ac, Iw es.length ac → Iv (k + 1) ac) ∧ (b = false → Iv (k + 1) acc)) ∧
    ∀ acc, Iv ds.length acc → R acc) : Em K J env (tLc2 wi g tt wi1 g1 tt1 te vs vs1) R := fun B G H σ w E Q q => by
  refine h B G H σ w E _ fun I ds G1 H1 n1 wk ⟨Iv, h0, hs, hd⟩ => ?_
  intro Dl hDl
  have w1 := n1.wf w
  have E1 := (E.mono n1).base hDl (.lst [])
  have hn : Dl ∉ J.ms := w1.notin hDl
  have n0 := w1.newM hDl (.lst [])
  refine ⟨fun i m H' => m = ds.length - i ∧ i ≤ ds.length ∧ ∃ G' xs acc, Nx J G1 H1 G' H' ∧ G' Dl = none ∧ H' Dl = some (.lst xs) ∧ Da K G' xs acc ∧ Iv i acc,
    ⟨ds.length, by simp, Nat.zero_le _, G1, [], [], n0, w1.free hDl, upd_same, .nil, h0⟩, ?_⟩
  rintro i m H' ⟨rfl, hi, G', xs, acc, n, hG, hH, r, p⟩
  have w' := n.wf w1
  by_cases hlt : i < ds.length
  · refine .inr ⟨wk.go i G' H' n.gg w' hlt, fun H2 => ∃ G2 xs2 acc2, Nx J G1 H1 G2 H2 ∧ G2 Dl = none ∧ H2 Dl = some (.lst xs2) ∧ Da K G2 xs2 acc2 ∧ Iv (i + 1) acc2,
      fun H2 ⟨G2, xs2, acc2, a, b, c, d, f⟩ => ⟨ds.length - (i + 1), by omega, rfl, hlt, G2, xs2, acc2, a, b, c, d, f⟩, fun x H2 y => ?_⟩
    obtain ⟨G2, d, n2, hd', rd⟩ := wk.yld i G' H' x H2 n.gg w' hlt y
    have n02 := n.trans n2
    have w2 := n2.wf w'
    refine hs i d acc hd' p (upd B Dl (.lst [])) G2 H2 (wipe σ vs) x w2 ((E1.mono n02).wipe vs) rd _ fun e3 σ3 E3 ks et => ⟨wipe_eq ks.1 ks.2, et (upd B Dl (.lst [])) G2 H2 σ3 w2 E3 _ fun b G3 H3 n3 k => ?_⟩
    have hG2 := n2.fr Dl hG (by rw [hH]; simp)
    have hH2 := n2.kp Dl _ hH hn
    have hG3 := n3.fr Dl hG2 (by rw [hH2]; simp)
    have hH3 := n3.kp Dl _ hH2 hn
    have w3 := n3.wf w2
    have E3' := E3.mono n3
    have r3 : Da K G3 xs acc := (r.mono n2.gg).mono n3.gg
    have n03 := n02.trans n3
    cases b with
    | false => exact ⟨G3, xs, acc, n03, hG3, hH3, r3, k.2 rfl⟩
    | true =>
      refine k.1 rfl (upd B Dl (.lst [])) G3 H3 σ3 w3 E3' _ fun I1 es G4 H4 n4 wk1 ⟨Iw, k0, ks1, kd⟩ => ?_
      have hG4 := n4.fr Dl hG3 (by rw [hH3]; simp)
      have hH4 := n4.kp Dl _ hH3 hn
      have w4 := n4.wf w3
      have E4 := E3'.mono n4
      have n04 := n03.trans n4
      refine ⟨fun j m H' => m = es.length - j ∧ j ≤ es.length ∧ ∃ G5 xs5 ac, (Same G4 G5 ∧ En K J (upd B Dl (.lst [])) G5 H' σ3 e3) ∧ Nx J G1 H1 G5 H' ∧ G5 Dl = none ∧ H' Dl = some (.lst xs5) ∧ Da K G5 xs5 ac ∧ Iw j ac,
        ⟨es.length, by simp, Nat.zero_le _, G4, xs, acc, ⟨Same.refl _, E4⟩, n04, hG4, hH4, r3.mono n4.gg, k0⟩, ?_⟩
      rintro j m H5 ⟨rfl, hj, G5, xs5, ac, ⟨s45, E5⟩, n05, hG5, hH5, r5, p5⟩
      have w5 := n05.wf w1
      by_cases hjl : j < es.length
      · refine .inr ⟨wk1.go j G5 H5 s45 w5 hjl, fun H' => ∃ G6 xs6 ac6, (Same G4 G6 ∧ En K J (upd B Dl (.lst [])) G6 H' σ3 e3) ∧ Nx J G1 H1 G6 H' ∧ G6 Dl = none ∧ H' Dl = some (.lst xs6) ∧ Da K G6 xs6 ac6 ∧ Iw (j + 1) ac6,
          fun H' ⟨G6, xs6, ac6, a, b, c, d, e, f⟩ => ⟨es.length - (j + 1), by omega, rfl, hjl, G6, xs6, ac6, a, b, c, d, e, f⟩, fun x5 H6 y5 => ?_⟩
        obtain ⟨G6, d6, n6, hd6, rd6⟩ := wk1.yld j G5 H5 x5 H6 s45 w5 hjl y5
        have w6 := n6.wf w5
        refine ks1 j d6 ac hd6 p5 (upd B Dl (.lst [])) G6 H6 (wipe σ3 vs1) x5 w6 ((E5.mono n6).wipe vs1) rd6 _ fun e7 σ7 E7 kk et7 => ⟨wipe_eq kk.1 kk.2, et7 (upd B Dl (.lst [])) G6 H6 σ7 w6 E7 _ fun b7 G7 H7 n7 k7 => ?_⟩
        have hG6 := n6.fr Dl hG5 (by rw [hH5]; simp)
        have hH6 := n6.kp Dl _ hH5 hn
        have hG7 := n7.fr Dl hG6 (by rw [hH6]; simp)
        have hH7 := n7.kp Dl _ hH6 hn
        have w7 := n7.wf w6
        have n67 := n6.trans n7
        cases b7 with
        | false => exact ⟨G7, xs5, ac, ⟨s45.trans n67.gg, E5.mono n67⟩, n05.trans n67, hG7, hH7, r5.mono n67.gg, k7.2 rfl⟩
        | true =>
          obtain ⟨hz, ev⟩ := k7.1 rfl
          refine ev (upd B Dl (.lst [])) G7 H7 σ7 w7 (E7.mono n7) _ fun yv yd G8 H8 n8 ry ky => ?_
          have hG8 := n8.fr Dl hG7 (by rw [hH7]; simp)
          have hH8 := n8.kp Dl _ hH7 hn
          have n68 := n67.trans n8
          have n08 := n05.trans n68
          have n9 := n08.mut (o' := .lst (xs5 ++ [yv])) hDl hG8 hn hH8
          have r8 := r5.mono n68.gg
          exact ⟨xs5, hH8, sz_lt (by rw [r5.length]; exact hz), G8, xs5 ++ [yv], ac ++ [yd], ⟨s45.trans n68.gg, (E5.mono n68).updB upd_same⟩, n9, hG8, upd_same, r8.append (.cons ry .nil), ky⟩
      · have e' : j = es.length := by omega
        subst e'
        exact .inl ⟨wk1.stop G5 H5 s45 w5, G5, xs5, ac, n05, hG5, hH5, r5, kd ac p5⟩
  · have e' : i = ds.length := by omega
    subst e'
    exact .inl ⟨wk.stop G' H' n.gg w', q Dl xs acc G' H' (n1.trans n) hG (by
      cases z : H Dl with
      | none => rfl
      | some o => exact absurd hDl (n1.th Dl (by rw [z]; simp))) hH r (hd acc p)⟩
end
end Mv

set_option Elab.async false
set_option linter.all false
set_option maxRecDepth 100000
set_option maxHeartbeats 4000000
namespace Mv
open PySem PySem.Spec PyProof.Rows L2
/-! ### placings, and what is new between two -/
theorem up_len : ∀ (l : List Nat) (a n : Nat), l.Pairwise (· < ·) → (∀ v ∈ l, a ≤ v ∧ v < n) → l.length ≤ n - a
  | [], _, _, _, _ => Nat.zero_le _
  | x :: r, a, n, h, hb => by
    have h1 := List.pairwise_cons.mp h
    have hx := hb x (by simp)
    have := up_len r (x + 1) n h1.2 fun v hv => ⟨h1.1 v hv, (hb v (by simp [hv])).2⟩
    rw [List.length_cons]
    omega
theorem LotOk.len {n : Nat} {l : List Nat} (h : LotOk n l) : l.length ≤ n := by
  have := up_len l 0 n h.up fun v hv => ⟨Nat.zero_le _, h.lt v hv⟩
  omega
def rowN (p : Nat) (b a : List Nat) : List (Nat × Nat) := (a.filter fun v => !decide (v ∈ b)).map fun v => (p, v)
def newTo (k : Nat) (b a : List (List Nat)) : List (Nat × Nat) := (List.range k).flatMap fun p => rowN p (b.getD p []) (a.getD p [])
def newN (b a : List (List Nat)) : List (Nat × Nat) := newTo a.length b a
def pairsD (l : List (Nat × Nat)) : List Dt := l.map fun q => pairD (.int (q.1 : Int)) (.int (q.2 : Int))
abbrev newD (b a : List (List Nat)) : Dt := .tup (pairsD (newN b a))
theorem newTo_succ {k : Nat} {b a : List (List Nat)} {bl al : List Nat} (hb : b[k]? = some bl) (ha : a[k]? = some al) : newTo (k + 1) b a = newTo k b a ++ rowN k bl al := by
  unfold newTo
  rw [List.range_succ, List.flatMap_append]
  simp [List.getD, hb, ha]
theorem rowN_len (p : Nat) (b a : List Nat) : (rowN p b a).length ≤ a.length := by
  unfold rowN
  rw [List.length_map]
  exact List.length_filter_le _ _
theorem newTo_len {m : Nat} {b a : List (List Nat)} (h : ∀ l ∈ a, l.length ≤ m) : ∀ k, (newTo k b a).length ≤ k * m
  | 0 => by simp [newTo]
  | k + 1 => by
    have ih := newTo_len (b := b) h k
    unfold newTo at ih ⊢
    rw [List.range_succ, List.flatMap_append, List.length_append]
    have h2 : (rowN k (b.getD k []) (a.getD k [])).length ≤ m := by
      refine Nat.le_trans (rowN_len _ _ _) ?_
      unfold List.getD
      cases e : a[k]? with
      | none => exact Nat.zero_le _
      | some l => exact h l (List.mem_of_getElem? e)
    simp only [List.flatMap_cons, List.flatMap_nil, List.append_nil]
    rw [Nat.succ_mul]
    omega
theorem rowN_snoc_in {p v : Nat} {b a : List Nat} (h : v ∈ b) : rowN p b (a ++ [v]) = rowN p b a := by
  unfold rowN
  rw [List.filter_append]
  simp [h]
theorem rowN_snoc_out {p v : Nat} {b a : List Nat} (h : v ∉ b) : rowN p b (a ++ [v]) = rowN p b a ++ [(p, v)] := by
  unfold rowN
  rw [List.filter_append]
  simp [h]
theorem pairsD_snoc {l : List (Nat × Nat)} {p v : Nat} : pairsD l ++ [.tup [.int (p : Int), .int (v : Int)]] = pairsD (l ++ [(p, v)]) := by
  unfold pairsD
  rw [List.map_append]
  rfl
theorem pairsD_len (l : List (Nat × Nat)) : (pairsD l).length = l.length := by simp [pairsD]
theorem plac_at {ls : List (List Nat)} {k : Nat} {l : List Nat} (h : ls[k]? = some l) : atD (ls.map lotD) (k : Int) = some (lotD l) := atD_nat (by rw [List.getElem?_map, h]; rfl)
theorem nats_get {l : List Nat} {j : Nat} {d : Dt} (h : (natsD l)[j]? = some d) : ∃ v, l[j]? = some v ∧ d = .int (v : Int) ∧ l.take (j + 1) = l.take j ++ [v] := by
  unfold natsD at h
  rw [List.getElem?_map] at h
  obtain ⟨v, hv, e⟩ := Option.map_eq_some_iff.mp h
  exact ⟨v, hv, e.symm, by rw [List.take_add_one, hv]; rfl⟩
theorem flat_nats8 {n : Nat} (l : List Nat) (h : l.length ≤ 100000) : Flat (n + 1) (lotD l) := .tup n _ (by rw [natsD_len]; exact h) fun d hd => by
  unfold natsD at hd
  obtain ⟨v, _, rfl⟩ := List.mem_map.mp hd
  exact .int n _
theorem flat_new {n : Nat} (l : List (Nat × Nat)) (h : l.length ≤ 100000) : Flat (n + 2) (.tup (pairsD l)) := .tup (n + 1) _ (by rw [pairsD_len]; exact h) fun d hd => by
  unfold pairsD at hd
  obtain ⟨q, _, rfl⟩ := List.mem_map.mp hd
  exact .tup n _ (by simp) fun d hd => by
    simp at hd
    rcases hd with rfl | rfl <;> exact .int n _
def W_placing : Fw := fun ss P => ∃ n m : Nat, ss = [.hand, .d (.int (n : Int)), .d (.int (m : Int))] ∧ 0 < n ∧ n ≤ 1000 ∧ m ≤ 1000 ∧ ∀ ls, ls.length = m → PlacOk n ls → P (placD ls)
def W_new : Fw := fun ss P => ∃ (b a : List (List Nat)), ss = [.d (placD b), .d (placD a)] ∧ a.length = b.length ∧ a.length ≤ 90 ∧ (∀ l ∈ a, l.length ≤ 1000) ∧ P (newD b a)
def W_near : Fw := fun ss P => ∃ (ls : List (List Nat)) (n : Nat), ss = [.hand, .d (placD ls), .d (.int (n : Int))] ∧ 0 < n ∧ n ≤ 1000 ∧ ls.length ≤ 1000 ∧ PlacOk n ls ∧ ∀ ls', ls'.length = ls.length → PlacOk n ls' → P (placD ls')
end Mv
namespace Mv
open PySem PySem.Spec PyProof.Rows L2
/-! ### a call by keywords alone -/
def kwP {α : Type} (pi : List Nat) (us ws : List α) : List α := match us with
  | [] => pi.filterMap fun i => ws[i]?
  | _ :: _ => []
theorem kw_rel {pi : List Nat} {zs : List V} {ws : List Value} (rz : Vals zs ws) : Vals (pi.filterMap fun i => zs[i]?) (pi.filterMap fun i => ws[i]?) := by
  induction pi with
  | nil => exact .nil
  | cons i r ih =>
    rw [List.filterMap_cons, List.filterMap_cons]
    cases e : zs[i]? with
    | none =>
      rw [rz.none_of e]
      exact ih
    | some v =>
      obtain ⟨u, h1, h2⟩ := rz.get e
      rw [h1]
      exact .cons h2 ih
theorem kw_rel2 {pi : List Nat} {vs zs : List V} {us ws : List Value} (r : Vals vs us) (rz : Vals zs ws) : Vals (kwP pi vs zs) (kwP pi us ws) := by
  cases r with
  | nil => exact kw_rel rz
  | cons _ _ => exact .nil
structure CalKw (P : Program) (w : World) (K : PySem.W.Frag) (mg : Str → Option Value) (base : Heap) (k : Nat) (x : Str) (ps ks : List Str) (pi : List Nat) (sp : Sp) : Prop where
  ex : ∃ f fd, FnOk P w K mg base CX0 k f fd ps sp ∧ mg x = some (.ref f) ∧ PySem.W.keepIn K (.ref f) = true ∧ KBinds K fd ps ks (kwP pi) (kwP pi)
theorem pe_callKw {X : Cx} {k : Nat} {x : Str} {ps ks : List Str} {pi : List Nat} {sp : Sp} {p pos : Pos} {kws : List Keyword} {tk : TA} (C : CalKw X.prog X.w X.K X.mg X.base k x ps ks pi sp) (hr : Room k X.A) (hg : Gl X x)
    (hkw : PK X kws tk) (hall : (backToKw pos (keywordEach kws X.env)).all (·.1.isSome) = true := by rfl) (hks : (backToKw pos (keywordEach kws X.env)).filterMap (·.1) = ks := by rfl) (hdb : (x == ("__debug__" : Str)) = false := by decide)
    (hpl : ((backTo pos (starEach [] X.env)).any (·.1) || (backToKw pos (keywordEach kws X.env)).any (·.1.isNone)) = false := by rfl) : PE X (.Call (.Name x p) [] kws pos) (tCallK sp (kwP pi) E0 tNil tk) := by
  obtain ⟨f, fd, F, hm, hk, hb⟩ := C.ex
  refine ⟨fun pins s σ H Q I h => ?_⟩
  refine wpAny_Call_Name_kw (ld_glob I hg hm ?_ hdb)
  refine PySem.W.callWith_KW0 (h₀ := X.base) I.ok.mod.kin hk hall (thn (hkw.run pos pins s σ H _ I h) fun ws s2 ⟨zs, H2, I2, rz, q2⟩ => ⟨I2.kIn, ?_⟩) hpl
  rw [hks]
  exact run_fnk (us := []) F hr hb pass0 I2 .nil rz q2
theorem kb2 {K : PySem.W.Frag} {fd : FuncData} {ps : List Str} {k1 k2 : Str} {pi : List Nat} (hp : ps.length = 2) (hpi : pi = [0, 1] ∨ pi = [1, 0]) (h : ∀ a b : Value, bindArgs fd ⟨[], [(k1, a), (k2, b)]⟩ = pure (ps.zip (kwP pi [] [a, b]))) :
    KBinds K fd ps [k1, k2] (kwP pi) (kwP pi) := by
  refine ⟨fun s us ws _ hl => ?_, fun r rz => kw_rel2 r rz⟩
  rw [hp] at hl
  match us, ws, hl with
  | [], a :: b :: r, _ =>
    refine .of_eq ?_
    have e : kwP pi [] (a :: b :: r) = kwP pi [] [a, b] := by rcases hpi with rfl | rfl <;> rfl
    rw [e]
    exact h a b
  | [], [], hl => rcases hpi with rfl | rfl <;> simp [kwP] at hl
  | [], [a], hl => rcases hpi with rfl | rfl <;> simp [kwP] at hl
  | _ :: _, _, hl => simp [kwP] at hl
section
variable {K : PySem.W.Frag} {J : Jm} {env : List Sl} {R : Dt → Prop} {W : Fw} {E0 : XK}
/-- arguments given by keywords: in the parameters' order -/
theorem sva_kw {G : Hp} {pi : List Nat} {vs : List V} {ss : List Sl} (r : SvA K J G vs ss) : SvA K J G (pi.filterMap fun i => vs[i]?) (pi.filterMap fun i => ss[i]?) := by
  have hl := r.length
  induction pi with
  | nil => exact .nil
  | cons i l ih =>
    rw [List.filterMap_cons, List.filterMap_cons]
    cases e : ss[i]? with
    | none =>
      have : vs[i]? = none := List.getElem?_eq_none (by rw [hl]; exact List.getElem?_eq_none_iff.mp e)
      rw [this]
      exact ih
    | some s =>
      obtain ⟨v, h1, h2⟩ := r.get e
      rw [h1]
      exact .cons h2 ih
theorem ev_callKw {pi : List Nat} {tk : TA} (h : Ea K J env tk fun ss => W (pi.filterMap fun i => ss[i]?) R) : Ev K J env (tCallK (Ct K W) (kwP pi) E0 tNil tk) R := fun B G H σ w E Q q =>
  h B G H σ w E _ fun vs ss G1 H1 n1 r k => ⟨J, G1, _, R, n1.wf w, sva_kw r, k, fun v d G2 H2 n2 rd x => q v d G2 H2 (n1.trans n2) rd x⟩
end
end Mv
namespace Mv
theorem he_start (d : Dt) : ∀ (n k : Nat) (s : Sl), (Sl.d d :: List.replicate n Sl.no)[k]? = some s → s = .no ∨ ∃ x, s = .d x := fun n k s h => by
  cases k with
  | zero => exact .inr ⟨d, (Option.some.inj h).symm⟩
  | succ k =>
    have h2 : (List.replicate n Sl.no)[k]? = some s := h
    exact .inl (List.mem_replicate.mp (List.mem_of_getElem? h2)).2
end Mv

set_option Elab.async false
set_option linter.all false
set_option maxRecDepth 100000
set_option maxHeartbeats 4000000
namespace Mv
open PySem PySem.Spec PyProof.Rows L2
/-! ### try: .. except X as e: .. except Y as e: .. -/
structure Clause where
  c : Value
  i : Nat
  ts : Addr → Value → Option Addr → TS
def outN (i : Nat) (D : Ends) : Ends := { nx := fun σ' H' => D.nx (σ'.set i none) H', rt := D.rt, bk := fun σ' H' => D.bk (σ'.set i none) H', ct := fun σ' H' => D.ct (σ'.set i none) H' }
def wN (K : PySem.W.Frag) (Wout : WX) (D : Ends) : List Clause → WX
  | [] => Wout
  | k :: r => fun cls d σ H => ∃ b, PySem.W.exmOne K cls k.c = some b ∧ (b = true → ∀ a, H a = none → k.ts a cls d (outN k.i D) (σ.set k.i (some (.ref a))) H) ∧ (b = false → wN K Wout D r cls d σ H)
inductive HdsN (X : Cx) : List ExceptHandler → List Clause → Prop
  | nil : HdsN X [] []
  | cons {x n : Str} {c : Value} {i : Nat} {ts : Addr → Value → Option Addr → TS} {b0 : Stmt} {suite : List Stmt} {np pos' : Pos} {hds : List ExceptHandler} {l : List Clause} (hc : Names X x c) (hN : X.N.Nodup) (hi : X.N[i]? = some n) (hln : X.env.kindOf n = some .local)
      (hsu : ∀ (a : Addr) (oe : Obj) (cls : Value) (d : Option Addr) (pn : List (Addr × Obj)), Zc cls d oe → (∃ vs, oe.data = .fields vs) → PSs (X.suite a ((a, oe) :: pn)) (b0 :: suite) (ts a cls d)) (r : HdsN X hds l) :
      HdsN X (.ExceptHandler (some (.Name x np)) (some n) (b0 :: suite) pos' :: hds) (⟨c, i, ts⟩ :: l)
def tTry (K : PySem.W.Frag) (tb : WX → TS) (Wout : WX) (l : List Clause) : TS := fun D σ H => tb (wN K Wout D l) D σ H
theorem ps_tryN {X : Cx} {body : List Stmt} {h0 : ExceptHandler} {hds : List ExceptHandler} {l : List Clause} {pos : Pos} {tb : WX → TS} {Wout : WX} (hs : X.stack = X.env :: X.outer) (hf : X.env.frame = some X.env.locals) (tk : Takes X Wout)
    (hb : ∀ (W : WX) (pn : List (Addr × Obj)) (xe : Value → Shared → Prop), Takes (X.tr pn xe) W → PassesOwn (model X.prog X.w) X.A X.env xe → PSs (X.tr pn xe) body (tb W))
    (hh : HdsN X (h0 :: hds) l) : PS X (.Try body (h0 :: hds) [] [] pos) (tTry X.K tb Wout l) := by
  refine ⟨fun pins s σ H D I h => ?_⟩
  have okX := I.ok
  have hfr : X.A.frames = some (X.env :: X.outer) := by rw [okX.frames, hs]
  refine wpAny_Try_except (wpAny_mono ((hb (wN X.K Wout D l) (X.pn ++ pins) (fun e s1 => wpAny (model X.prog X.w) X.A (noteFrame e X.env) (fun _ s2 => wpAny (model X.prog X.w) X.A (setFlight e none) (fun _ s3 =>
    wpAny (model X.prog X.w) X.A (handleBy e X.env (h0 :: hds)) (SP X pins D) X.xe s3) X.xe s2) X.xe s1) (fun u s' xx => ?_) PassesOwn.looking).run [] s σ H D (I.toTry _) h) (fun f s1 hsp => ?_) (fun e s1 he => he))
  · obtain ⟨a, B, sI, pins', σ', H', cls, d, rfl, J', nb, up, sky, na, os, ag, w⟩ := xx
    have J : Inv X pins σ' H' sI := J'.ofTry okX
    have sky' : Sky B (X.env :: X.outer) a (Zc cls d) X.env.locals s'.heap := hs ▸ sky
    show wpAny (model X.prog X.w) X.A (noteFrame (.ref a) X.env) _ _ _
    refine Sky.land Zc.steady hfr hf sky' fun h3 fl3 up3 => ?_
    have J3 : Inv X pins σ' H' { s' with heap := h3 } := J.landed nb fl3.1 (up.trans up3) os ag
    obtain ⟨oe3, vs3, he3, hz3, hd3⟩ := fl3.there
    have nfr : a ∉ frs (X.env :: X.outer) := fun hm => by
      obtain ⟨_, o', e', hnf⟩ := fl3.2.2.1.mem hm
      rw [he3] at e'
      cases e'
      exact hnf _ hd3
    have nL : a ≠ X.env.locals := fun z => nfr (List.mem_filterMap.mpr ⟨X.env, by simp, by rw [hf, z]⟩)
    have nF : a ∉ X.fs := fun hm => by
      obtain ⟨e, he, q⟩ := List.mem_filterMap.mp hm
      exact nfr (List.mem_filterMap.mpr ⟨e, by simp [he], q⟩)
    have S3 := J3.suite he3 hd3 na nL nF
    have go : ∀ {hds' : List ExceptHandler} {l' : List Clause}, HdsN X hds' l' → wN X.K Wout D l' cls d σ' H' → wpAny (model X.prog X.w) X.A (handleBy (.ref a) X.env hds') (SP X pins D) X.xe { s' with heap := h3 } := by
      intro hds' l' hk
      induction hk with
      | nil =>
        intro w
        refine wpAny_handleBy_nil ?_
        obtain ⟨k1, k2, k3, oe, vs, T, oT, ts', he, hz, hd, h1, hr⟩ := id fl3
        unfold PySem.passOn
        refine wpAny_bind (wpAny_field he hd h1 ?_)
        rw [if_neg (show ¬ ((Value.ref T == Value.none) = true) by simp)]
        have fin : wpAny (model X.prog X.w) X.A (setFlight (.ref a) X.env.frame) (fun _ s4 => wpAny (model X.prog X.w) X.A (throw (.ref a) : Sem Flow) (SP X pins D) X.xe s4) X.xe { s' with heap := h3 } := by
          rw [hf]
          exact HandSPX.setFlight_upZ fl3 fun h4 hh4 up4 => wpAny_throw (tk _ _ ⟨a, B, sI, pins, σ', H', cls, d, rfl, J, nb, (up.trans up3).trans up4, .inr (.inr (hs ▸ hh4)), na, os, ag, w⟩)
        first | exact wpAny_bind (wpAny_pure (wpAny_bind fin)) | exact wpAny_bind fin
      | @cons x n c i ts b0 suite np pos' hds2 l2 hc hN hi hln hsu r ih =>
        intro w
        obtain ⟨b, hb1, hyes, hno⟩ := w
        refine wpAny_handleBy_cons (codeAny_handlers_test ?_) (by intro q; cases q)
        have LT : PySem.W.Looks (model X.prog X.w) h3 (typeOf (.ref a)) cls := fun A Q E s k q => wpAny_typeOf_ref (k _ _ he3) (by rw [hz3.1]; exact q)
        have LM := PySem.W.exm_one (M := model X.prog X.w) (J3.kIn) LT hb1
        have look : ∀ {Q : Value → Shared → Prop} {E : Value → Shared → Prop}, Q c { s' with heap := h3 } → wpAny (model X.prog X.w) (X.A.mark (some (.ref a))) (eval (.Name x np) X.env) Q E { s' with heap := h3 } := fun {Q E} q => by
          obtain ⟨hg, hdbg, hm | ⟨hm, hv, hnn⟩⟩ := hc
          · exact ld_glob (X := X.suite a ((a, oe3) :: (X.pn ++ pins))) S3 hg hm q hdbg
          · exact ld_blt (X := X.suite a ((a, oe3) :: (X.pn ++ pins))) S3 hg hm hv q hnn hdbg
        refine look (LM.here ?_)
        have hloc : Loc X.env.scope n := .inl hln
        cases b with
        | true =>
          refine codeAny_handlers_suite_as (HandSPX.lands_againZ fl3 fun h4 fl4 up4 => ?_)
          have J4 : Inv X pins σ' H' { s' with heap := h4 } := J.landed nb fl4.1 ((up.trans up3).trans up4) os ag
          obtain ⟨oe4, vs4, he4, hz4, hd4⟩ := fl4.there
          have S4 := J4.suite he4 hd4 na nL nF
          refine store_ok (X := X.suite a ((a, oe4) :: (X.pn ++ pins))) (v := .ref a) S4 hN hi hloc rfl (fun s5 S5 => ?_) (.inr hln)
          refine wpAny_mono ((hsu a oe4 cls d (X.pn ++ pins) hz4 ⟨_, hd4⟩).run [] s5 _ H' (outN i D) S5 (hyes rfl a na)) (fun f s6 hsp => ?_) (fun _ _ z => z.elim)
          have fin : ∀ {σ6 : L2.St} {H6 : Hp} {Q : Shared → Prop}, Inv (X.suite a ((a, oe4) :: (X.pn ++ pins))) [] σ6 H6 s6 → (∀ s7, Inv X pins (σ6.set i none) H6 s7 → Q s7) →
              wpAny (model X.prog X.w) X.A (do bindName X.env n .none; unbindBehindTheSuite X.env n pos') (fun _ s7 => Q s7) X.xe s6 := fun {σ6 H6 Q} S6 hq => gone_ok (S6.unsuite okX) hN hi hln hq
          cases f with
          | next => obtain ⟨σ6, H6, S6, q6⟩ := hsp; exact fin S6 fun s7 J7 => ⟨_, _, J7, q6⟩
          | brk => obtain ⟨σ6, H6, S6, q6⟩ := hsp; exact fin S6 fun s7 J7 => ⟨_, _, J7, q6⟩
          | cont => obtain ⟨σ6, H6, S6, q6⟩ := hsp; exact fin S6 fun s7 J7 => ⟨_, _, J7, q6⟩
          | ret u => obtain ⟨v6, σ6, H6, S6, r6, q6⟩ := hsp; exact fin S6 fun s7 J7 => ⟨_, _, _, J7, r6, q6⟩
        | false => exact ih (hno rfl)
    exact go hh w
  · cases f with
    | next => obtain ⟨σ', H', J', q⟩ := hsp; exact wpAny_execs_nil ⟨σ', H', J'.ofTry okX, q⟩
    | brk => obtain ⟨σ', H', J', q⟩ := hsp; exact ⟨σ', H', J'.ofTry okX, q⟩
    | cont => obtain ⟨σ', H', J', q⟩ := hsp; exact ⟨σ', H', J'.ofTry okX, q⟩
    | ret u => obtain ⟨v, σ', H', J', r, q⟩ := hsp; exact ⟨v, σ', H', J'.ofTry okX, r, q⟩
theorem ps_tryK (K : PySem.W.Frag) {X : Cx} {body : List Stmt} {h0 : ExceptHandler} {hds : List ExceptHandler} {l : List Clause} {pos : Pos} {tb : WX → TS} (hs : X.stack = X.env :: X.outer) (hf : X.env.frame = some X.env.locals)
    (hb : ∀ (W : WX) (pn : List (Addr × Obj)) (xe : Value → Shared → Prop), Takes (X.tr pn xe) W → PassesOwn (model X.prog X.w) X.A X.env xe → PSs (X.tr pn xe) body (tb W))
    (hh : HdsN X (h0 :: hds) l) (hk : X.K = K := by rfl) : PS X (.Try body (h0 :: hds) [] [] pos) (tTry K tb (fun _ _ _ _ => False) l) := hk ▸ ps_tryN hs hf takes0 hb hh

/-! ### defs that may raise -/
abbrev FwX := List Sl → (Dt → Prop) → (Addr → List (Str × Dt) → Prop) → Prop
def CtX (K : PySem.W.Frag) (W : FwX) : Sp := fun vs H Q E => ∃ (J : Jm) (G : Hp) (ss : List Sl) (P : Dt → Prop) (PX : Addr → List (Str × Dt) → Prop), Wf J G H ∧ SvA K J G vs ss ∧ W ss P PX ∧ (∀ v d G' H', Nx J G H G' H' → Dr K G' v d → P d → Q v H') ∧
  ∀ C d vs fs G' H', Nx J G H G' H' → G' d = some (.xd vs) → Df K G' vs fs → PX C fs → E (.ref C) (some d) H'
section
variable {K : PySem.W.Frag} {J : Jm} {env : List Sl} {R : Dt → Prop} {W : FwX} {D : DE} {ta : TA}
/-- a call that lets nothing out -/
theorem ev_callX (h : Ea K J env ta fun ss => W ss R fun _ _ => False) : Ev K J env (tCall (CtX K W) [] E0 ta) R := fun B G H σ w E Q q =>
  h B G H σ w E _ fun vs ss G1 H1 n1 r k => by
    show CtX K W (vs ++ []) H1 Q E0
    rw [List.append_nil]
    exact ⟨J, G1, ss, R, _, n1.wf w, r, k, fun v d G2 H2 n2 rd x => q v d G2 H2 (n1.trans n2) rd x, fun _ _ _ _ _ _ _ _ _ x => x.elim⟩
/-- a call within a try's body, or within a def that raises: S told what it does with the value -/
theorem sx_call {GB B G H : Hp} {σ : L2.St} (a : At K J GB B G H σ env) (x : XOk K J GB B D.xw D.xc) {E : L2.St → XK} (hE : ∀ cls d H, D.xw cls d σ H → E σ cls d H) {R : Dt → Prop} {Q : VK}
    (h : Ea K J env ta fun ss => W ss R fun C fs => D.xc C fs env) (q : ∀ v d G' H', Nx J G H G' H' → Dr K G' v d → R d → Q v H') : tCallS (CtX K W) E ta σ H Q :=
  h B G H σ a.wf a.en _ fun vs ss G1 H1 n1 r k => ⟨J, G1, ss, R, _, n1.wf a.wf, r, k, fun v d G2 H2 n2 rd y => q v d G2 H2 (n1.trans n2) rd y,
    fun C d vs fs G2 H2 n2 g rf y => hE _ _ _ (x C d vs fs env G2 H2 σ (a.then (n1.trans n2)) g rf y)⟩
theorem sv_dropS (h : Ea K J env ta fun ss => W ss (fun _ => D.nx env) fun C fs => D.xc C fs env) : Sv K J env (tDrop (tCallS (CtX K W) (WE D.xw) ta)) D := fun GB B G H σ a E q1 _ _ _ _ q6 =>
  sx_call a q6 (fun _ _ _ z => z) h fun v d G' H' n r k => q1 env G' H' σ (a.then n) k
theorem sv_retS (h : Ea K J env ta fun ss => W ss D.rt fun C fs => D.xc C fs env) : Sv K J env (tRet (tCallS (CtX K W) (WE D.xw) ta)) D := fun GB B G H σ a E _ _ _ q4 _ q6 =>
  sx_call a q6 (fun _ _ _ z => z) h fun v d G' H' n r k => q4 v d G' H' (a.nx.trans n) r k
theorem sv_asgS {i : Nat} (h : Ea K J env ta fun ss => W ss (fun d => D.nx (env.set i (.d d))) fun C fs => D.xc C fs env) : Sv K J env (tAsg (tCallS (CtX K W) (WE D.xw) ta) (gName i)) D := fun GB B G H σ a E q1 _ _ _ _ q6 =>
  sx_call a q6 (fun _ _ _ z => z) h fun v d G' H' n r k => q1 _ G' H' _ ⟨(a.then n).wf, (a.then n).nx, (a.then n).en.setD r⟩ k
/-! raise X(e), X's own __init__ keeping its argument -/
def kept (fs : List Str) (ws : List V) : List (Str × V) := (fs.zip ws).reverse
def spI (K : PySem.W.Frag) (fs : List Str) : Sp := fun vs H Q _ => ∃ (a C : Addr) (ws : List V), vs = .ref a :: ws ∧ ws.length = fs.length ∧ H a = some (exo a C none) ∧ OexC K C ∧ (∀ f ∈ fs, PySem.W.findIn K (.ref C) f = some none) ∧
  ∀ d H', H' a = some (exo a C (some d)) → H' d = some (exd d (kept fs ws)) → H d = none → d ≠ a → (∀ b, b ≠ a → b ≠ d → H' b = H b) → Q .non H'
def tRaiseT (t : L2.St → Hp → XK → Prop) (W : WX) : TS := fun _ σ H => t σ H fun cls d H' => W cls d σ H'
theorem kept_df {K : PySem.W.Frag} {G : Hp} : ∀ {fs : List Str} {ws : List V} {ds : List Dt}, Da K G ws ds → Df K G (fs.zip ws) (fs.zip ds)
  | [], _, _, _ => by simpa using Df.nil
  | _ :: _, _, _, .nil => by simpa using Df.nil
  | f :: fs, _, _, .cons r t => .cons r (kept_df t)
theorem df_append {K : PySem.W.Frag} {G : Hp} : ∀ {vs ws : List (Str × V)} {ds es : List (Str × Dt)}, Df K G vs ds → Df K G ws es → Df K G (vs ++ ws) (ds ++ es)
  | _, _, _, _, .nil, q => q
  | _, _, _, _, .cons r t, q => .cons r (df_append t q)
theorem df_rev {K : PySem.W.Frag} {G : Hp} : ∀ {vs : List (Str × V)} {ds : List (Str × Dt)}, Df K G vs ds → Df K G vs.reverse ds.reverse
  | _, _, .nil => .nil
  | _, _, .cons r t => by
    rw [List.reverse_cons, List.reverse_cons]
    exact df_append (df_rev t) (.cons r .nil)
theorem sv_raise {C : Addr} {fs : List Str} {sW : WX} (T : OexC K C) (hf : ∀ f ∈ fs, PySem.W.findIn K (.ref C) f = some none) (hW : D.xw = sW) (h : Ed K J env ta fun ds => ds.length = fs.length ∧ fs.length ≤ 1000 ∧ D.xc C (fs.zip ds).reverse env) :
    Sv K J env (tRaiseT (tMkO C (spI K fs) [] ta) sW) D := fun GB B G H σ a E _ _ _ _ _ q6 => by
  subst hW
  refine h B G H σ a.wf a.en _ fun vs ds G1 H1 n1 r ⟨hl, hz, k⟩ => ⟨by rw [r.length, hl]; exact hz, fun x hx => ?_⟩
  have hv : vs.length = fs.length := by rw [r.length, hl]
  refine ⟨x, C, vs ++ [], rfl, by rw [List.append_nil]; exact hv, upd_same, T, hf, fun d H' ea ed hd hdx kp => ⟨rfl, d, _, ea, ed, ?_, ?_⟩⟩
  · rw [upd_ne hdx] at hd; exact hd
  · rw [upd_ne hdx] at hd
    rw [List.append_nil]
    have a1 := a.then n1
    have e2 : upd (del H' x) d (.xd (kept fs vs)) = upd H1 d (.xd (kept fs vs)) := by
      funext b
      by_cases hb : b = d
      · subst hb; rw [upd_same, upd_same]
      · rw [upd_ne hb, upd_ne hb]
        by_cases hbx : b = x
        · subst hbx; rw [del_same, hx]
        · rw [del_ne hbx, kp b hbx hb, upd_ne hbx]
    rw [e2]
    have n2 := a1.wf.new hd (.xd (kept fs vs))
    exact q6 C d (kept fs vs) _ env _ _ σ (a1.then n2) upd_same ((df_rev (kept_df r)).mono n2.gg) k
end
/-! ### the caught error's fields; the try -/
section
variable {K : PySem.W.Frag} {J : Jm} {env : List Sl} {R : Dt → Prop} {D : DE}
theorem df_lookup {G : Hp} {f : Str} : ∀ {vs : List (Str × V)} {fs : List (Str × Dt)} {x : Dt}, Df K G vs fs → fs.lookup f = some x → ∃ v, vs.lookup f = some v ∧ Dr K G v x
  | _, _, _, .nil, h => by cases h
  | (g, v) :: vs, (_, d) :: fs, x, .cons r t, h => by
    rw [List.lookup_cons] at h ⊢
    by_cases e : (f == g) = true
    · rw [e] at h ⊢
      cases h
      exact ⟨v, rfl, r⟩
    · rw [Bool.not_eq_true] at e
      rw [e] at h ⊢
      exact df_lookup t h
theorem ev_xf {a C d : Addr} {f : Str} {i : Nat} {fs : List (Str × Dt)} {x : Dt} (hi : env[i]? = some (.xv a d fs)) (hx : fs.lookup f = some x) (k : R x) : Ev K J env (tXf a (.ref C) (some d) C f (tVar i)) R := fun B G H σ w E Q q => by
  obtain ⟨ov, h1, h2, vs, g, r⟩ := E.ok i _ hi
  obtain ⟨v, h3, h4⟩ := df_lookup r hx
  exact ⟨.ref a, by rw [h1, h2], rfl, rfl, d, vs, v, rfl, w.gh _ _ g, h3, q v x G H w.nx h4 k⟩
/-- the clauses, over data: for an error of class C with fields fs -/
def ClN (K : PySem.W.Frag) (J : Jm) (D : DE) (C : Addr) (fs : List (Str × Dt)) (env : List Sl) : List Clause → Prop
  | [] => False
  | k :: r => ∃ b, PySem.W.exmOne K (.ref C) k.c = some b ∧ (b = true → ∀ a d, Sv K J (env.set k.i (.xv a d fs)) (k.ts a (.ref C) (some d)) { nx := fun e => D.nx (e.set k.i .no), rt := D.rt, rm := D.rm, bk := fun e => D.bk (e.set k.i .no), ct := fun e => D.ct (e.set k.i .no) }) ∧
    (b = false → ClN K J D C fs env r)
theorem En.setX {B G H : Hp} {σ : L2.St} (E : En K J B G H σ env) {i : Nat} {a d : Addr} {vs : List (Str × V)} {fs : List (Str × Dt)} (g : G d = some (.xd vs)) (r : Df K G vs fs) : En K J B G H (σ.set i (some (.ref a))) (env.set i (.xv a d fs)) := by
  have e0 := E.setN (i := i) (ov := some (.ref a))
  refine ⟨by simp [E.len], fun k s hk => ?_, fun k j p hne hk hj h1 h2 => ?_⟩
  · by_cases e : i = k
    · subst e
      have hi : i < env.length := by
        have := (List.getElem?_eq_some_iff.mp hk).1
        simpa using this
      rw [List.getElem?_set_self hi] at hk
      cases hk
      exact ⟨_, by rw [List.getElem?_set_self (by rw [E.len]; exact hi)], rfl, vs, g, r⟩
    · rw [List.getElem?_set_ne e] at hk
      rw [List.getElem?_set_ne e]
      exact E.ok k s hk
  · have back : ∀ m : Nat, (∃ xs, (env.set i (.xv a d fs))[m]? = some (Sl.ml xs)) → ∃ xs, (env.set i .no)[m]? = some (Sl.ml xs) := fun m ⟨xs, h⟩ => by
      by_cases e : i = m
      · subst e
        have hi : i < env.length := by
          have := (List.getElem?_eq_some_iff.mp h).1
          simpa using this
        rw [List.getElem?_set_self hi] at h
        cases h
      · rw [List.getElem?_set_ne e] at h ⊢
        exact ⟨xs, h⟩
    exact e0.ap k j p hne (back k hk) (back j hj) h1 h2
theorem wN_of {GB B G H : Hp} {σ : L2.St} {C d : Addr} {vs : List (Str × V)} {fs : List (Str × Dt)} {E : Ends} (a : At K J GB B G H σ env) (g : G d = some (.xd vs)) (r : Df K G vs fs)
    (q1 : ∀ env' G' H' σ', At K J GB B G' H' σ' env' → D.nx env' → E.nx σ' H') (q2 : ∀ env' G' H' σ', At K J GB B G' H' σ' env' → D.bk env' → E.bk σ' H') (q3 : ∀ env' G' H' σ', At K J GB B G' H' σ' env' → D.ct env' → E.ct σ' H')
    (q4 : ∀ v d G' H', Nx J GB B G' H' → Dr K G' v d → D.rt d → E.rt v H') (q5 : ∀ p vs ds G' H', Nx J GB B G' H' → G' p = none → B p = none → H' p = some (.lst vs) → Da K G' vs ds → D.rm ds → E.rt (.ref p) H') :
    ∀ l, ClN K J D C fs env l → wN K (fun _ _ _ _ => False) E l (.ref C) (some d) σ H
  | [], h => h.elim
  | k :: r', ⟨b, h1, h2, h3⟩ => by
    refine ⟨b, h1, fun hb x hx => ?_, fun hb => wN_of a g r q1 q2 q3 q4 q5 r' (h3 hb)⟩
    refine h2 hb x d GB B G H _ ⟨a.wf, a.nx, a.en.setX g r⟩ (outN k.i E) ?_ ?_ ?_ q4 q5 (fun _ _ _ _ _ _ _ _ _ _ _ z => z.elim)
    · intro e G' H' σ' a' z
      exact q1 _ G' H' _ ⟨a'.wf, a'.nx, a'.en.setN⟩ z
    · intro e G' H' σ' a' z
      exact q2 _ G' H' _ ⟨a'.wf, a'.nx, a'.en.setN⟩ z
    · intro e G' H' σ' a' z
      exact q3 _ G' H' _ ⟨a'.wf, a'.nx, a'.en.setN⟩ z
theorem sv_try {tb : WX → TS} {l : List Clause} (h : ∀ W : WX, Sv K J env (tb W) { D with xw := W, xc := fun C fs e => ClN K J D C fs e l }) : Sv K J env (tTry K tb (fun _ _ _ _ => False) l) D := fun GB B G H σ a E q1 q2 q3 q4 q5 _ =>
  h (wN K (fun _ _ _ _ => False) E l) GB B G H σ a E q1 q2 q3 q4 q5 fun C d vs fs e G' H' σ' a' g r z => wN_of a' g r q1 q2 q3 q4 q5 l z
end
section
variable {P : Program} {w : World} {K : PySem.W.Frag} {mg : Str → Option Value} {base : Heap}
theorem ok_ctx {x qual : Str} {st : Stmt} {f : Addr} {fd : FuncData} {N ps : List Str} {k : Nat} {W : FwX} (F : L2.Fun K x qual st f fd) (S : FnScope N ps (defScope st)) (hn : ∀ ss P PX, W ss P PX → ss.length = ps.length)
    (hb : ∀ (cdv : Value) (A : Around) (outer : List PySem.Env) (s : Shared) (H : Hp) (E : XK), Room k (A.deeper (envOfC qual (defScope st) s.heap.objs.size f cdv)) →
      ∃ t, PSs (cxOf (L2.CX P w) P w K mg base N qual (defScope st) f cdv A outer s H E) (defBody st) t ∧ ∀ J ss P PX, W ss P PX → Sv K J (startE N ss) t { nx := fun _ => P .non, rt := P, xw := fun cls d _ H => E cls d H, xc := fun C fs _ => PX C fs }) :
    FnOk P w K mg base (L2.CX P w) (k + 1) f fd ps (CtX K W) := by
  refine F.okX S (fun vs H Q E h => ?_) (fun cdv A outer s H vs Q E hr h => ?_)
  · obtain ⟨J, G, ss, P, PX, wf, sv, hW, _⟩ := h
    rw [sv.length, hn ss P PX hW]
  · obtain ⟨J, G, ss, P, PX, wf, sv, hW, q, qx⟩ := h
    obtain ⟨t, hp, ht⟩ := hb cdv A outer s H E hr
    refine ⟨t, hp, ?_⟩
    exact ht J ss P PX hW G H G H (L2.start N vs) ⟨wf, wf.nx, en_start sv⟩ _ (fun e G' H' σ' a x => q .non .non G' H' a.nx .non x) (fun _ _ _ _ _ x => x.elim) (fun _ _ _ _ _ x => x.elim) (fun v d G' H' n r x => q v d G' H' n r x) (fun _ _ _ _ _ _ _ _ _ _ x => x.elim)
      (fun C d vs fs e G' H' σ' a g r x => qx C d vs fs G' H' a.nx g r x)
/-- a def that may raise and may be called -/
structure CalX (P : Program) (w : World) (K : PySem.W.Frag) (mg : Str → Option Value) (base : Heap) (k : Nat) (x : Str) (ps : List Str) (sp : Sp) : Prop where
  ex : ∃ f fd, FnOk P w K mg base (L2.CX P w) k f fd ps sp ∧ mg x = some (.ref f) ∧ PySem.W.keepIn K (.ref f) = true ∧ Binds K fd ps []
theorem CalX.mono {j k : Nat} {x : Str} {ps : List Str} {sp : Sp} (C : CalX P w K mg base j x ps sp) (h : j ≤ k) : CalX P w K mg base k x ps sp := by
  obtain ⟨f, fd, F, g, e, b⟩ := C.ex
  exact ⟨f, fd, F.mono h, g, e, b⟩
end
section
variable {X : Cx} {k : Nat} {x : Str} {ps : List Str} {sp : Sp} {p pos : Pos} {e : Expr} {es : List Expr} {t : TA}
/-- a call that lets nothing out -/
theorem pe_callE0 (C : CalX X.prog X.w X.K X.mg X.base k x ps sp) (hr : Room k X.A) (hg : Gl X x) (ha : PA X (e :: es) t) (hdb : (x == ("__debug__" : Str)) = false := by decide)
    (he : starEach (e :: es) X.env = (false, eval e X.env) :: starEach es X.env := by rfl) (hpl : (backTo pos (starEach es X.env)).any (·.1) = false := by rfl) : PE X (.Call (.Name x p) (e :: es) [] pos) (tCall sp [] E0 t) := by
  obtain ⟨f, fd, F, g, ke, b⟩ := C.ex
  exact pe_call F hr hg g ke b .nil passL ha hdb he hpl
/-- a call whose error goes where the code wishes -/
theorem pe_callW (W : WX) (tk : Takes X W) (C : CalX X.prog X.w X.K X.mg X.base k x ps sp) (hr : Room k X.A) (hg : Gl X x) (ha : PA X (e :: es) t) (hdb : (x == ("__debug__" : Str)) = false := by decide)
    (he : starEach (e :: es) X.env = (false, eval e X.env) :: starEach es X.env := by rfl) (hpl : (backTo pos (starEach es X.env)).any (·.1) = false := by rfl) : PE X (.Call (.Name x p) (e :: es) [] pos) (tCallS sp (WE W) t) := by
  obtain ⟨f, fd, F, g, ke, b⟩ := C.ex
  exact pe_callS F hr hg g ke b (fun σ => passAt tk σ) ha hdb he hpl
theorem ps_raiseK {W : WX} {t : L2.St → Hp → XK → Prop} (hc : X.calm = true) (tk : Takes X W) (he : PMk X e t) : PS X (.Raise (some e) none pos) (tRaiseT t W) := ps_raise hc tk he
end
end Mv

set_option Elab.async false
set_option linter.all false
set_option maxRecDepth 100000
set_option maxHeartbeats 4000000
namespace Mv
open PySem PySem.Spec PyProof.Rows L2
/-! ### more of expressions -/
section
variable {K : PySem.W.Frag} {J : Jm} {env : List Sl} {R : Dt → Prop} {D : DE} {te ta tb tc : TE}
theorem ev_chain {r r' : R2} (h : Ev K J env ta fun x => Ev K J env tb fun y => O2 K J r x y fun z => ∃ k, z = .bl k ∧ (k = true → Ev K J env tc fun w => O2 K J r' y w R) ∧ (k = false → R (.bl false))) : Ev K J env (tChain r r' ta tb tc) R := fun B G H σ w E Q q =>
  h B G H σ w E _ fun vx x G1 H1 n1 rx hb => hb B G1 H1 σ (n1.wf w) (E.mono n1) _ fun vy y G2 H2 n2 ry o =>
    o G2 H2 vx vy (n2.wf (n1.wf w)) (rx.mono n2.gg) ry _ fun vz z G3 H3 n3 rz ⟨k, e, k1, k2⟩ => by
      subst e
      cases rz
      have n13 := (n1.trans n2).trans n3
      refine ⟨k, rfl, ?_⟩
      cases k with
      | false => exact q _ _ G3 H3 n13 (.bl _) (k2 rfl)
      | true => exact k1 rfl B G3 H3 σ (n13.wf w) (E.mono n13) _ fun vw u G4 H4 n4 rw o' => o' G4 H4 vy vw (n4.wf (n13.wf w)) ((ry.mono n3.gg).mono n4.gg) rw Q fun v d G5 H5 n5 rd x => q v d G5 H5 ((n13.trans n4).trans n5) rd x
theorem bools_inv {G : Hp} : ∀ {vs : List V} {bs : List Bool}, Da K G vs (bs.map Dt.bl) → vs = bs.map V.bl
  | _, [], h => by cases h; rfl
  | _, b :: r, h => by
    cases h with
    | cons h1 h2 =>
      cases h1
      rw [bools_inv h2]
      rfl
theorem oc_all {bs : List Bool} (h : R (.bl (bs.all id))) : Oc K J (rAll K) [.lst (bs.map Dt.bl)] R := fun G H vs w rs Q q => by
  cases rs with
  | cons r1 r2 =>
    cases r2
    cases r1 with
    | lst s t =>
      have e := bools_inv t
      subst e
      exact ⟨_, bs, rfl, same_l w.gh s, q _ _ G H w.nx (.bl _) h⟩
theorem c_allK (K : PySem.W.Frag) {X : Cx} (hc : X.calm = true := by rfl) (h : X.K = K := by rfl) : CallR X (.builtin "all") (rAll K) := h ▸ cr_all hc
/-- isinstance(x, (list, tuple)) -/
theorem ev_isiLT (h : Ev K J env te fun x => noOb x = true ∧ R (.bl (isiD x "list" || isiD x "tuple"))) : Ev K J env (tCB (rIsiT K) (tCons te (tCons (tTup (tCons (tC (.ty "list")) (tCons (tC (.ty "tuple")) tNil))) tNil))) R := fun B G H σ w E Q q =>
  h B G H σ w E _ fun v x G1 H1 n1 r ⟨hn, k⟩ => ⟨by show 2 ≤ sizeLine; decide, fun p hp => by
    have w1 := n1.wf w
    have n2 := w1.new hp (.tup [.ty "list", .ty "tuple"])
    obtain ⟨t, ht, hk⟩ : ∃ t, tyD x = some t ∧ PySem.W.kitAny K (.type t) [.type "list", .type "tuple"] = some (isiD x "list" || isiD x "tuple") := by
      cases x <;> first | exact ⟨_, rfl, rfl⟩ | (cases hn)
    exact ⟨v, p, [.ty "list", .ty "tuple"], .type t, [.type "list", .type "tuple"], _, rfl, upd_same, .cons (.ty _) (.cons (.ty _) .nil), ty_of (r.mono n2.gg) (n2.wf w1).gh ht, hk, q _ _ _ _ (n1.trans n2) (.bl _) k⟩⟩
theorem c_isiTK (K : PySem.W.Frag) {X : Cx} (h : X.K = K := by rfl) : CallR X (.builtin "isinstance") (rIsiT K) := h ▸ call_isiT
/-- [f(x) for x in xs]: each yields what f tells -/
theorem em_map {wi : TI} {g : TG} {vs : List Nat} {R : List Dt → Prop} (f : Dt → Dt) (h : Ei K J env wi fun ds => ds.length ≤ 100000 ∧ (∀ d, d ∈ ds → Gt K J (wipeE env vs) g d vs fun e => Ev K J e te fun y => y = f d) ∧ R (ds.map f)) : Em K J env (tLc wi g tYes te vs) R := by
  refine em_lc fun B G H σ w E Q q => h B G H σ w E Q fun I ds G' H' n wk ⟨h1, h2, h3⟩ => q I ds G' H' n wk ⟨h1, fun k acc => acc = (ds.take k).map f, by simp, fun k d acc hd _ ha => ?_, fun acc _ ha => ?_⟩
  · intro B G H σ v w E r Q q
    refine h2 d (List.mem_of_getElem? hd) B G H σ v w E r Q fun e σ' E' k' x => q e σ' E' k' (et_yes ⟨fun _ => x.imp fun y hy => ?_, fun z => nomatch z⟩)
    subst hy ha
    rw [List.take_add_one, hd]
    simp
  · subst ha
    rw [List.take_length]
    exact h3
/-- a constant of the text that is a tuple -/
theorem dr_K {a : Addr} {o : Obj} {its : Array Value} {n : Nat} {vs : List V} {ds : List Dt} (hl : K.lookup a = some o) (hc : o.cls = .type "tuple") (hd : o.data = .seq its n) (hz : its.size ≤ sizeLine) (hv : Vals vs its.toList) (G : Hp) (r : Da K G vs ds) : Dr K G (.ref a) (.tup ds) :=
  .tup (.inr ⟨o, its, n, hl, hc, hd, hz, hv⟩) r
/-! ### instances of an own class -/
theorem ev_fld {f : Str} (h : Ev K J env te fun o => ∃ C fs x, o = .ob C fs ∧ Cls K C ∧ NoAttr K C f ∧ fs.lookup f = some x ∧ R x) : Ev K J env (tFld K te f) R := fun B G H σ w E Q q =>
  h B G H σ w E _ fun v o G1 H1 n1 r ⟨C, fs, x, e, hC, hf, hx, k⟩ => by
    subst e
    cases r with
    | @ob a _ dx vs _ s t =>
      obtain ⟨y, h3, h4⟩ := df_lookup t hx
      exact ⟨a, C, dx, vs, y, rfl, (n1.wf w).gh _ _ s, hC, hf, h3, q y x G1 H1 n1 h4 k⟩
def putD (f : Str) (d : Dt) : List (Str × Dt) → List (Str × Dt)
  | [] => [(f, d)]
  | (g, e) :: r => if g = f then (g, d) :: r else (g, e) :: putD f d r
theorem df_put {G : Hp} {f : Str} {v : V} {d : Dt} (r : Dr K G v d) : ∀ {vs : List (Str × V)} {ds : List (Str × Dt)}, Df K G vs ds → Df K G (putF f v vs) (putD f d ds)
  | _, _, .nil => .cons r .nil
  | (g, x) :: vs, (_, y) :: ds, .cons r1 t => by
    show Df K G (if g = f then (g, v) :: vs else (g, x) :: putF f v vs) (if g = f then (g, d) :: ds else (g, y) :: putD f d ds)
    by_cases e : g = f
    · rw [if_pos e, if_pos e]; exact .cons r t
    · rw [if_neg e, if_neg e]; exact .cons r1 (df_put r t)
theorem df_len {G : Hp} : ∀ {vs : List (Str × V)} {ds : List (Str × Dt)}, Df K G vs ds → vs.length = ds.length
  | _, _, .nil => rfl
  | _, _, .cons _ t => by rw [List.length_cons, List.length_cons, df_len t]
def isMi : Sl → Bool | .mi _ _ _ => true | _ => false
/-- self.f = e, self just made -/
theorem sv_fldM {f : Str} {p C : Addr} {fs : List (Str × Dt)} {rest : List Sl} (hu : (rest.all fun s => !isMi s) = true)
    (h : Ev K J (.mi p C fs :: rest) te fun d => Cls K C ∧ NoAttr K C f ∧ fs.length < 1000 ∧ D.nx (.mi p C (putD f d fs) :: rest)) : Sv K J (.mi p C fs :: rest) (sFld K (tVar 0) te f) D := fun GB B G H σ a E q1 _ _ _ _ _ =>
  h B G H σ a.wf a.en _ fun v d G1 H1 n1 rd ⟨hC, hf, hz, k⟩ => by
    have a1 := a.then n1
    obtain ⟨ov, h1, dx, vs, e, hB, hG, hm, hH, r⟩ := a1.en.ok 0 _ rfl
    refine ⟨.ref p, by rw [h1, e], p, C, dx, vs, rfl, hH, hC, hf, by rw [df_len r]; exact hz, q1 _ G1 _ σ ?_ k⟩
    have n2 := a1.nx.mut (o' := .ins C dx (putF f v vs)) hB hG hm hH
    refine ⟨⟨n2.gh, n2.ok, fun m hmm => ⟨(a1.wf.ms m hmm).1, by rw [upd_ne (ne_memP hm hmm)]; exact (a1.wf.ms m hmm).2⟩, a1.wf.tr⟩, n2, ⟨a1.en.len, fun i s hs => ?_, fun i j q hne hx hy => ?_⟩⟩
    · cases i with
      | zero =>
        cases hs
        exact ⟨ov, h1, dx, _, e, hB, hG, hm, upd_same, df_put rd r⟩
      | succ i =>
        have hs' : rest[i]? = some s := hs
        obtain ⟨ov', g1, g2⟩ := a1.en.ok (i + 1) s hs
        refine ⟨ov', g1, ?_⟩
        cases s with
        | no => trivial
        | d x => exact g2
        | hand => exact g2
        | hnd => exact g2
        | tap => exact g2
        | xv a d fs => exact g2
        | ml xs =>
          obtain ⟨q, us, e', hB', hG', hm', hH', r'⟩ := g2
          exact ⟨q, us, e', hB', hG', hm', by rw [upd_ne (ne_of hH' hH (by intro z; cases z))]; exact hH', r'⟩
        | md kvs =>
          obtain ⟨q, us, e', hB', hG', hm', hH', r'⟩ := g2
          exact ⟨q, us, e', hB', hG', hm', by rw [upd_ne (ne_of hH' hH (by intro z; cases z))]; exact hH', r'⟩
        | mi q C' fs' =>
          have := List.all_eq_true.mp hu _ (List.mem_of_getElem? hs')
          cases this
    · have hx' : ∃ xs, (Sl.mi p C fs :: rest)[i]? = some (.ml xs) := by
        cases i with
        | zero => obtain ⟨_, z⟩ := hx; cases z
        | succ i => exact hx
      have hy' : ∃ xs, (Sl.mi p C fs :: rest)[j]? = some (.ml xs) := by
        cases j with
        | zero => obtain ⟨_, z⟩ := hy; cases z
        | succ j => exact hy
      exact a1.en.ap i j q hne hx' hy'
theorem En.low {B B' G H : Hp} {σ : L2.St} (E : En K J B G H σ env) (hb : ∀ b, B b = none → B' b = none) : En K J B' G H σ env :=
  ⟨E.len, fun i s hs => by
    obtain ⟨ov, a, b⟩ := E.ok i s hs
    refine ⟨ov, a, ?_⟩
    cases s with
    | no => trivial
    | d x => exact b
    | hand => exact b
    | hnd => exact b
    | tap => exact b
    | xv a d fs => exact b
    | mi q C fs => obtain ⟨dx, us, e, hB, r⟩ := b; exact ⟨dx, us, e, hb _ hB, r⟩
    | md kvs => obtain ⟨q, us, e, hB, r⟩ := b; exact ⟨q, us, e, hb _ hB, r⟩
    | ml xs => obtain ⟨q, us, e, hB, r⟩ := b; exact ⟨q, us, e, hb _ hB, r⟩, E.ap⟩
theorem En.setI {B G H : Hp} {σ : L2.St} (E : En K J B G H σ env) {i : Nat} {p C dx : Addr} {vs : List (Str × V)} {fs : List (Str × Dt)} (hB : B p = none) (hG : G p = none) (hm : p ∉ J.ms) (hH : H p = some (.ins C dx vs)) (r : Df K G vs fs) :
    En K J B G H (σ.set i (some (.ref p))) (env.set i (.mi p C fs)) := by
  have e0 := E.setN (i := i) (ov := some (.ref p))
  refine ⟨by simp [E.len], fun k s hk => ?_, fun k j q hne hk hj => ?_⟩
  · by_cases e : i = k
    · subst e
      have hi : i < env.length := by
        have := (List.getElem?_eq_some_iff.mp hk).1
        simpa using this
      rw [List.getElem?_set_self hi] at hk
      cases hk
      exact ⟨_, by rw [List.getElem?_set_self (by rw [E.len]; exact hi)], dx, vs, rfl, hB, hG, hm, hH, r⟩
    · rw [List.getElem?_set_ne e] at hk
      rw [List.getElem?_set_ne e]
      exact E.ok k s hk
  · have back : ∀ m : Nat, (∃ xs, (env.set i (.mi p C fs))[m]? = some (Sl.ml xs)) → ∃ xs, (env.set i .no)[m]? = some (Sl.ml xs) := fun m ⟨xs, h⟩ => by
      by_cases e : i = m
      · subst e
        have hi : i < env.length := by
          have := (List.getElem?_eq_some_iff.mp h).1
          simpa using this
        rw [List.getElem?_set_self hi] at h
        cases h
      · rw [List.getElem?_set_ne e] at h ⊢
        exact ⟨xs, h⟩
    exact e0.ap k j q hne (back k hk) (back j hj)
end
/-! ### an own class's __init__, and the making of an instance -/
abbrev FwI := List Sl → (List (Str × Dt) → Prop) → (Addr → List (Str × Dt) → Prop) → Prop
def CtI (K : PySem.W.Frag) (C : Addr) (W : FwI) : Sp := fun vs H Q E => ∃ (J : Jm) (G H0 : Hp) (p dx : Addr) (ws : List V) (ss : List Sl) (P : List (Str × Dt) → Prop) (PX : Addr → List (Str × Dt) → Prop), vs = .ref p :: ws ∧ H p = some (.ins C dx []) ∧ H0 p = none ∧ G p = none ∧ p ∉ J.ms ∧
  Wf J G H ∧ Nx J G H0 G H ∧ SvA K J G ws ss ∧ W ss P PX ∧ (∀ fs us dy G' H', Nx J G H0 G' H' → G' p = none → H' p = some (.ins C dy us) → Df K G' us fs → P fs → Q .non H') ∧
  ∀ C' d us fs G' H', Nx J G H0 G' H' → G' d = some (.xd us) → Df K G' us fs → PX C' fs → E (.ref C') (some d) H'
section
variable {P : Program} {w : World} {K : PySem.W.Frag} {mg : Str → Option Value} {base : Heap}
theorem ok_cti {x qual : Str} {st : Stmt} {f C : Addr} {fd : FuncData} {N ps : List Str} {k : Nat} {W : FwI} (F : L2.Fun K x qual st f fd) (S : FnScope N ps (defScope st)) (hn : ∀ ss P PX, W ss P PX → ss.length + 1 = ps.length)
    (hb : ∀ (cdv : Value) (A : Around) (outer : List PySem.Env) (s : Shared) (H : Hp) (E : XK), Room k (A.deeper (envOfC qual (defScope st) s.heap.objs.size f cdv)) →
      ∃ t, PSs (cxOf (L2.CX P w) P w K mg base N qual (defScope st) f cdv A outer s H E) (defBody st) t ∧ ∀ J p ss P PX, W ss P PX → Sv K J (startE N (.mi p C [] :: ss)) t { nx := fun e => ∃ fs, e[0]? = some (.mi p C fs) ∧ P fs, rt := fun _ => False, xw := fun cls d _ H => E cls d H, xc := fun C fs _ => PX C fs }) :
    FnOk P w K mg base (L2.CX P w) (k + 1) f fd ps (CtI K C W) := by
  refine F.okX S (fun vs H Q E h => ?_) (fun cdv A outer s H vs Q E hr h => ?_)
  · obtain ⟨J, G, H0, p, dx, ws, ss, P, PX, rfl, _, _, _, _, _, _, sv, hW, _⟩ := h
    rw [List.length_cons, sv.length, hn ss P PX hW]
  · obtain ⟨J, G, H0, p, dx, ws, ss, P, PX, rfl, hH, h0, hG, hm, wf, nx, sv, hW, q, qx⟩ := h
    obtain ⟨t, hp, ht⟩ := hb cdv A outer s H E hr
    refine ⟨t, hp, ?_⟩
    have sv0 : SvA K J G (.non :: ws) (.d .non :: ss) := .cons (show Dr K G .non .non from .non) sv
    have e0 := (en_start (N := N) sv0).low (B' := H0) fun b hb => by
      cases z : H0 b with
      | none => rfl
      | some o => exact absurd hb (nx.th b (by rw [z]; simp))
    have e1 := e0.setI (i := 0) h0 hG hm hH .nil
    exact ht J p ss P PX hW G H0 G H (L2.start N (.ref p :: ws)) ⟨wf, nx, e1⟩ _ (fun e G' H' σ' a ⟨fs, h1, x⟩ => by
        obtain ⟨ov, g1, dy, us, e2, _, g3, _, g4, r⟩ := a.en.ok 0 _ h1
        exact q fs us dy G' H' a.nx g3 g4 r x) (fun _ _ _ _ _ x => x.elim) (fun _ _ _ _ _ x => x.elim) (fun _ _ _ _ _ _ x => x.elim) (fun _ _ _ _ _ _ _ _ _ _ x => x.elim)
      (fun C d vs fs e G' H' σ' a g r x => qx C d vs fs G' H' a.nx g r x)
theorem ev_make {J : Jm} {env : List Sl} {R : Dt → Prop} {C : Addr} {W : FwI} {t : TA} (h : Ea K J env t fun ss => W ss (fun fs => R (.ob C fs)) fun _ _ => False) : Ev K J env (tMake C (CtI K C W) [] E0 t) R := fun B G H σ w E Q q =>
  h B G H σ w E _ fun vs ss G1 H1 n1 r k => fun x dx hx hdx hne => by
    show CtI K C W (.ref x :: (vs ++ [])) _ _ _
    rw [List.append_nil]
    have w1 := n1.wf w
    have n2 := w1.newM hdx (.own x)
    have w2 := n2.wf w1
    have hx2 : (upd H1 dx (.own x)) x = none := by rw [upd_ne hne.symm]; exact hx
    have n3 := w2.newM hx2 (.ins C dx [])
    have n23 := n2.trans n3
    refine ⟨J, G1, H1, x, dx, vs, ss, _, _, rfl, upd_same, hx, w1.free hx, w1.notin hx, n23.wf w1, n23, r, k, fun fs us dy G' H' n hG hH rf p => ⟨rfl, ?_⟩, fun _ _ _ _ _ _ _ _ _ z => z.elim⟩
    have hHx : H x = none := by
      cases z : H x with
      | none => rfl
      | some o => exact absurd hx (n1.th x (by rw [z]; simp))
    have nn := n1.trans n
    exact q (.ref x) (.ob C fs) _ _ (nn.fix hHx hG hH) (.ob upd_same (rf.mono fun b o e => by rw [upd_ne (ne_of_none e hG)]; exact e)) p
/-! ### errors' own __init__ -/
theorem ok_init1 {f qual : Str} {st : Stmt} {fI : Addr} {fd : FuncData} {N ps : List Str} (F : L2.Fun K "__init__" qual st fI fd) (S : FnScope N ps (defScope st)) (hps : ps.length = 2)
    (hb : ∀ (cdv : Value) (A : Around) (outer : List PySem.Env) (s : Shared) (H : Hp) (E : XK), PSs (cxOf CX0 P w K mg base N qual (defScope st) fI cdv A outer s H E).nox (defBody st) (tOst K f (tVar 0) (tVar 1))) :
    FnOk P w K mg base CX0 1 fI fd ps (spI K [f]) := by
  refine F.ok S (fun vs H Q E h => ?_) (fun cdv A outer s H vs Q E hr h => ⟨_, hb cdv A outer s H E, ?_⟩)
  · obtain ⟨a, C, ws, rfl, hl, _⟩ := h
    rw [List.length_cons, hl, hps]
    rfl
  · obtain ⟨a, C, ws, rfl, hl, hH, T, hf, k⟩ := h
    match ws, hl with
    | [v], _ => exact ⟨v, rfl, .ref a, rfl, a, C, rfl, T, hf f (by simp), .inl ⟨hH, fun dx hd hne => k dx _ upd_same (by rw [upd_ne hne]; exact upd_same) hd hne fun b h1 h2 => by rw [upd_ne h1, upd_ne h2]⟩⟩
theorem ok_init2 {f g qual : Str} {st : Stmt} {fI : Addr} {fd : FuncData} {N ps : List Str} (F : L2.Fun K "__init__" qual st fI fd) (S : FnScope N ps (defScope st)) (hps : ps.length = 3)
    (hb : ∀ (cdv : Value) (A : Around) (outer : List PySem.Env) (s : Shared) (H : Hp) (E : XK), PSs (cxOf CX0 P w K mg base N qual (defScope st) fI cdv A outer s H E).nox (defBody st) (tSeq (tOst K f (tVar 0) (tVar 1)) (tOst K g (tVar 0) (tVar 2)))) :
    FnOk P w K mg base CX0 1 fI fd ps (spI K [f, g]) := by
  refine F.ok S (fun vs H Q E h => ?_) (fun cdv A outer s H vs Q E hr h => ⟨_, hb cdv A outer s H E, ?_⟩)
  · obtain ⟨a, C, ws, rfl, hl, _⟩ := h
    rw [List.length_cons, hl, hps]
    rfl
  · obtain ⟨a, C, ws, rfl, hl, hH, T, hf, k⟩ := h
    match ws, hl with
    | [v, u], _ =>
      refine ⟨v, rfl, .ref a, rfl, a, C, rfl, T, hf f (by simp), .inl ⟨hH, fun dx hd hne => ⟨u, rfl, .ref a, rfl, a, C, rfl, T, hf g (by simp), .inr ⟨dx, [(f, v)], upd_same, by rw [upd_ne hne]; exact upd_same, by simp, ?_⟩⟩⟩⟩
      exact k dx _ (by rw [upd_ne hne.symm]; exact upd_same) upd_same hd hne fun b h1 h2 => by rw [upd_ne h2, upd_ne h1, upd_ne h2]
/-- an error's class and its maker -/
structure Exk (P : Program) (w : World) (K : PySem.W.Frag) (mg : Str → Option Value) (base : Heap) (x : Str) (ps fs : List Str) (C fI : Addr) (fd : FuncData) : Prop where
  ex : OexC K C
  xf : XfC K C
  g : mg x = some (.ref C)
  nf : ∀ f ∈ fs, PySem.W.findIn K (.ref C) f = some none
  iC : PySem.W.findIn K (.ref C) "__init__" = some (some (.ref fI))
  tI : PySem.W.typeIn K (.ref fI) = some (.type "function")
  fn : FnOk P w K mg base CX0 1 fI fd ps (spI K fs)
  b : Binds K fd ps []
  iK : PySem.W.isClsIn K C = true
theorem exm_of {C D : Addr} {b : Bool} (h1 : PySem.W.subIn K (.ref D) (.type "BaseException") = some true) (h2 : PySem.W.isClsIn K D = true) (h3 : PySem.W.typeIn K (.ref D) = some (.type "type")) (h4 : PySem.W.subIn K (.ref C) (.ref D) = some b) :
    PySem.W.exmOne K (.ref C) (.ref D) = some b := by
  have e1 : (PySem.W.subIn K (.ref D) (.type "BaseException") == some true) = true := by rw [h1] <;> rfl
  have e2 : ((PySem.W.clsIn K D).isSome && PySem.W.typeIn K (.ref D) == some (.type "type")) = true := by
    have h2' : (PySem.W.clsIn K D).isSome = true := h2
    rw [h2', h3] <;> rfl
  show (if (PySem.W.subIn K (.ref D) (.type "BaseException") == some true) = true then (if ((PySem.W.clsIn K D).isSome && PySem.W.typeIn K (.ref D) == some (.type "type")) = true then PySem.W.subIn K (.ref C) (.ref D) else none) else none) = some b
  rw [if_pos e1, if_pos e2]
  exact h4
/-- an own class of which instances are made -/
structure Ins (K : PySem.W.Frag) (C : Addr) (fs : List Str) : Prop where
  cls : Cls K C
  nf : ∀ f ∈ fs, NoAttr K C f
structure MkI (P : Program) (w : World) (K : PySem.W.Frag) (mg : Str → Option Value) (base : Heap) (k : Nat) (x : Str) (ps : List Str) (C : Addr) (sp : Sp) : Prop where
  ex : ∃ f fd, Mk K C f ∧ FnOk P w K mg base (L2.CX P w) k f fd ps sp ∧ mg x = some (.ref C) ∧ Binds K fd ps []
end
theorem pe_makeC {X : Cx} {k : Nat} {x : Str} {ps : List Str} {C : Addr} {sp : Sp} {p pos : Pos} {e : Expr} {es : List Expr} {t : TA} (M : MkI X.prog X.w X.K X.mg X.base k x ps C sp) (hr : Room (k + 1) X.A) (hg : Gl X x) (ha : PA X (e :: es) t)
    (hdb : (x == ("__debug__" : Str)) = false := by decide) (he : starEach (e :: es) X.env = (false, eval e X.env) :: starEach es X.env := by rfl) (hpl : (backTo pos (starEach es X.env)).any (·.1) = false := by rfl) : PE X (.Call (.Name x p) (e :: es) [] pos) (tMake C sp [] E0 t) := by
  obtain ⟨f, fd, m, F, g, b⟩ := M.ex
  exact pe_make m F hr hg g b .nil passL ha hdb he hpl
theorem pe_fldK (K : PySem.W.Frag) {X : Cx} {e : Expr} {f : Str} {pos : Pos} {ta : TE} (h : PE X e ta) (hk : X.K = K := by rfl) (ha : attributeBase e f X.env (eval e X.env) = eval e X.env := by rfl) : PE X (.Attribute e f pos) (tFld K ta f) := hk ▸ pe_fld h ha
theorem ps_fldK (K : PySem.W.Frag) {X : Cx} {o value : Expr} {f : Str} {pos pos' : Pos} {ta tv : TE} (ho : PE X o ta) (hv : PE X value tv) (hk : X.K = K := by rfl) (hs : swapsWith value (some (o.Attribute f pos')) pos.line X.env = pure false := by rfl) :
    PS X (.Assign [.Attribute o f pos'] value pos) (sFld K ta tv f) := hk ▸ ps_fld ho hv hs
end Mv

set_option Elab.async false
set_option linter.all false
set_option maxRecDepth 100000
set_option maxHeartbeats 4000000
namespace Mv
open PySem PySem.Spec PyProof.Rows L2
/-! ### tuples put together and cut; sums, greatest; zip -/
section
variable {K : PySem.W.Frag} {J : Jm} {env : List Sl} {R : Dt → Prop} {D : DE} {te ta tb tc : TE}
theorem Da.nil_iff {G : Hp} {vs : List V} {ds : List Dt} (r : Da K G vs ds) : vs = [] ↔ ds = [] := by
  cases r <;> simp
theorem o2_cat {xs ys : List Dt} (hz : xs.length + ys.length ≤ 100000) (h : R (.tup (xs ++ ys))) : O2 K J (rCatA K) (.tup xs) (.tup ys) R := fun G H vx vy w rx ry Q q => by
  cases rx with
  | @tup a us _ s t =>
    cases ry with
    | @tup b ws _ s' t' =>
      refine ⟨a, b, us, ws, rfl, rfl, same_t w.gh s, same_t w.gh s', sz_of (by rw [t.length, t'.length]; exact hz), fun e => ?_, fun _ e => ?_, fun _ _ p hp => ?_⟩
      · have := t.nil_iff.mp e
        subst this
        exact q (.ref b) (.tup ys) G H w.nx (.tup s' t') h
      · have := t'.nil_iff.mp e
        subst this
        rw [List.append_nil] at h
        exact q (.ref a) (.tup xs) G H w.nx (.tup s t) h
      · have n := w.new hp (.tup (us ++ ws))
        exact q (.ref p) (.tup (xs ++ ys)) _ _ n (.tup (.inl (.inl upd_same)) ((t.append t').mono n.gg)) h
theorem op_catAK (K : PySem.W.Frag) {X : Cx} (h : X.K = K := by rfl) : OpR X (binaryOp .Add) (rCatA K) := h ▸ op_catA
/-- a tuple cut -/
def cutD (xs : List Dt) (lo hi : Option Int) : List Dt := List.take (HT.sIx xs.length xs.length hi - HT.sIx xs.length 0 lo) (List.drop (HT.sIx xs.length 0 lo) xs)
def Ep (K : PySem.W.Frag) (J : Jm) (env : List Sl) (tp : TO) (R : Option Int → Prop) : Prop := ∀ (B G H : Hp) (σ : L2.St), Wf J G H → En K J B G H σ env → ∀ Q : Option Int → Hp → Prop, (∀ o G' H', Nx J G H G' H' → R o → Q o H') → tp σ H Q
theorem ep_none {R : Option Int → Prop} (h : R none) : Ep K J env tNoPart R := fun B G H σ w E Q q => q none G H w.nx h
theorem ep_some {R : Option Int → Prop} (h : Ev K J env te fun x => ∃ i, x = .int i ∧ R (some i)) : Ep K J env (tPart te) R := fun B G H σ w E Q q =>
  h B G H σ w E _ fun v x G1 H1 n1 r ⟨i, e, k⟩ => by
    subst e
    cases r
    exact ⟨i, rfl, q (some i) G1 H1 n1 k⟩
theorem sIx_le {n d : Nat} (hd : d ≤ n) (x : Option Int) (h : ∀ v, x = some v → v < 0 → (v + n).toNat ≤ n) : HT.sIx n d x ≤ n := by
  cases x with
  | none => exact hd
  | some v =>
    show (if v < 0 then (v + ↑n).toNat else min v.toNat n) ≤ n
    split
    · rename_i hv; exact h v rfl hv
    · exact Nat.min_le_right _ _
theorem ev_slT {tl th : TO} (h : Ev K J env te fun x => ∃ xs, x = .tup xs ∧ Ep K J env tl fun lo => Ep K J env th fun hi => R (.tup (cutD xs lo hi))) : Ev K J env (tSl (rSlA K) te tl th) R := fun B G H σ w E Q q =>
  h B G H σ w E _ fun v x G1 H1 n1 r ⟨xs, e, k⟩ => by
    subst e
    have w1 := n1.wf w
    refine k B G1 H1 σ w1 (E.mono n1) _ fun lo G2 H2 n2 k2 => k2 B G2 H2 σ (n2.wf w1) (E.mono (n1.trans n2)) _ fun hi G3 H3 n3 k3 => ?_
    have n13 := (n1.trans n2).trans n3
    have w3 := n13.wf w
    have r3 := r.mono (n2.gg.trans n3.gg)
    cases r3 with
    | @tup a vs _ s t =>
      refine ⟨a, vs, rfl, same_t w3.gh s, fun hw => ?_, fun _ p hp => ?_⟩
      · have e : cutD xs lo hi = xs := by
          unfold cutD
          rw [t.length] at hw
          rw [hw.1, hw.2]
          simp
        have k3' : R (.tup (cutD xs lo hi)) := k3
        rw [e] at k3'
        exact q _ _ G3 H3 n13 (.tup s t) k3'
      · have n4 := w3.new hp (.tup (cutV vs lo hi))
        refine q _ _ _ _ (n13.trans n4) (.tup (.inl (.inl upd_same)) ?_) k3
        have : Da K G3 (cutV vs lo hi) (cutD xs lo hi) := by
          unfold cutV cutD
          rw [t.length]
          exact Da.take _ (Da.drop _ t)
        exact this.mono n4.gg
theorem sl_tupAK (K : PySem.W.Frag) {X : Cx} (h : X.K = K := by rfl) : SlR X (rSlA K) := h ▸ sl_tupA
theorem sIx_nat {n d j : Nat} : HT.sIx n d (some (j : Int)) = min j n := by
  show (if (j : Int) < 0 then ((j : Int) + (n : Int)).toNat else min (j : Int).toNat n) = min j n
  rw [if_neg (by omega), Int.toNat_natCast]
theorem cut_to {xs : List Dt} {j : Nat} : cutD xs none (some (j : Int)) = xs.take j := by
  unfold cutD
  rw [sIx_nat]
  show List.take (min j xs.length - 0) (List.drop 0 xs) = _
  rw [Nat.sub_zero, List.drop_zero]
  by_cases h : j ≤ xs.length
  · rw [Nat.min_eq_left h]
  · rw [Nat.min_eq_right (by omega), List.take_of_length_le (Nat.le_refl _), List.take_of_length_le (by omega)]
theorem cut_from {xs : List Dt} {j : Nat} : cutD xs (some (j : Int)) none = xs.drop j := by
  unfold cutD
  rw [sIx_nat]
  show List.take (xs.length - min j xs.length) (List.drop (min j xs.length) xs) = _
  by_cases h : j ≤ xs.length
  · rw [Nat.min_eq_left h]
    exact List.take_of_length_le (by simp)
  · rw [Nat.min_eq_right (by omega), List.drop_of_length_le (by omega : xs.length ≤ j), Nat.sub_self]
    rfl
theorem oc_lstT {ds : List Dt} (h : R (.lst ds)) : Oc K J (Mv.rLst K) [.tup ds] R := fun G H vs w rs Q q => by
  cases rs with
  | cons r1 r2 =>
    cases r2
    cases r1 with
    | @tup a us _ s t =>
      refine ⟨a, us, rfl, .inr (same_t w.gh s), fun l hl => ?_⟩
      have n := w.new hl (.lst us)
      exact q _ _ _ _ n (.lst (.inl (.inl upd_same)) (t.mono n.gg)) h
theorem oc_lstL {ds : List Dt} (h : R (.lst ds)) : Oc K J (Mv.rLst K) [.lst ds] R := fun G H vs w rs Q q => by
  cases rs with
  | cons r1 r2 =>
    cases r2
    cases r1 with
    | @lst a us _ s t =>
      refine ⟨a, us, rfl, .inl (same_l w.gh s), fun l hl => ?_⟩
      have n := w.new hl (.lst us)
      exact q _ _ _ _ n (.lst (.inl (.inl upd_same)) (t.mono n.gg)) h
theorem oc_sum {ns : List Int} (h : R (.int ns.sum)) : Oc K J (rSum K) [.lst (ns.map Dt.int)] R := fun G H vs w rs Q q => by
  cases rs with
  | cons r1 r2 =>
    cases r2
    cases r1 with
    | lst s t =>
      have e := t.ints_inv
      subst e
      exact ⟨_, ns, rfl, same_l w.gh s, q _ _ G H w.nx (.int _) h⟩
theorem c_sumK (K : PySem.W.Frag) {X : Cx} (hc : X.calm = true := by rfl) (h : X.K = K := by rfl) : CallR X (.builtin "sum") (rSum K) := h ▸ cr_sum hc
theorem oc_maxL {ns : List Int} (hne : 0 < ns.length) (h : ∀ m, m ∈ ns → (∀ y ∈ ns, y ≤ m) → R (.int m)) : Oc K J (L2.rMax K) [.lst (ns.map Dt.int)] R := fun G H vs w rs Q q => by
  cases rs with
  | cons r1 r2 =>
    cases r2
    cases r1 with
    | lst s t =>
      have e := t.ints_inv
      subst e
      exact ⟨_, ns, rfl, same_l w.gh s, hne, fun m hm hy => q _ _ G H w.nx (.int _) (h m hm hy)⟩
theorem c_maxLK (K : PySem.W.Frag) {X : Cx} (hc : X.calm = true := by rfl) (h : X.K = K := by rfl) : CallR X (.builtin "max") (L2.rMax K) := h ▸ cr_max hc
def zipD (xs ys : List Dt) : List Dt := List.zipWith pairD xs ys
theorem zipD_len {xs ys : List Dt} (h : xs.length = ys.length) : (zipD xs ys).length = xs.length := by
  unfold zipD
  rw [List.length_zipWith, h, Nat.min_self]
theorem walk_zipT {a b : Addr} {xs ys : List V} (h : xs.length = ys.length) : Walk (RZ.ItzT K a b) xs.length (fun H => SqT K H a xs ∧ SqT K H b ys) (YPair (fun i => xs[i]?) fun i => ys[i]?) := by
  refine ⟨fun i _ hi q => ⟨xs, ys, xs[i], ys[i], q.1, q.2, by simp [hi], by simp [show i < ys.length by omega]⟩, fun _ q => ⟨xs, ys, q.1, q.2, .inl (Nat.le_refl _)⟩, fun i H v H' _ q y => ?_⟩
  obtain ⟨T, x, y, h1, h2, h3, h4, h5⟩ := y
  exact ⟨T, x, y, h1, h2, h3, h4 xs q.1, h5 ys q.2⟩
theorem ei_zipT {ta : TA} {R : List Dt → Prop} (h : Ed K J env ta fun zs => ∃ xs ys, zs = [.tup xs, .tup ys] ∧ xs.length = ys.length ∧ R (zipD xs ys)) : Ei K J env (RZ.iZipA K ta) R := fun B G H σ w E Q q =>
  h B G H σ w E _ fun vs zs G1 H1 n1 r ⟨xs, ys, e, hl, k⟩ => by
    subst e
    have w1 := n1.wf w
    cases r with
    | cons r1 r2 =>
      cases r2 with
      | cons r2 r3 =>
        cases r3
        cases r1 with
        | @tup a us _ s t =>
          cases r2 with
          | @tup b ws _ s' t' =>
            have hl' : us.length = ws.length := by rw [t.length, t'.length, hl]
            refine ⟨a, b, us, ws, rfl, .inr ⟨same_t w1.gh s, same_t w1.gh s', q _ _ G1 H1 n1 (wk_pairs (walk_zipT hl') (by rw [zipD_len hl, t.length]) (fun G2 H2 s1 s2 => ⟨same_t (s1.trans s2) s, same_t (s1.trans s2) s'⟩) fun i x y h1 h2 => ?_) k⟩⟩
            obtain ⟨c, hc, rc⟩ := t.get' h1
            obtain ⟨d, hd, rd⟩ := t'.get' h2
            exact ⟨c, d, by unfold zipD; rw [List.getElem?_zipWith, hc, hd], rc, rd⟩
end
end Mv

set_option Elab.async false
set_option linter.all false
set_option maxRecDepth 100000
set_option maxHeartbeats 4000000
namespace Mv
open PySem PySem.Spec PyProof.Rows L2
/-! ### a set of ints, by a comprehension -/
def tScI (wi : TI) (g : TG) (tt : TT) (te : TE) (vs : List Nat) : TE := fun σ H Q => wi σ H fun J H1 => ∀ D : Addr, H1 D = none → ∃ W : Nat → Nat → Hp → Prop, (∃ m, W 0 m (upd H1 D (.set (fun _ => false) 0))) ∧
  ∀ (i m : Nat) (H : Hp), W i m H → (J.stop i H ∧ Q (.ref D) H) ∨ (J.go i H ∧ ∃ Nx : Hp → Prop, (∀ H', Nx H' → ∃ m', m' < m ∧ W (i + 1) m' H') ∧
    ∀ (x : V) (H' : Hp), J.yld i H x H' → g x (wipe σ vs) H' fun σ2 H2 => wipe σ2 vs = wipe σ vs ∧ tt σ2 H2 fun b H3 => if b = true then te σ2 H3 fun y H4 =>
      ∃ (c : Int) (S : Int → Bool) (n : Nat), y = .int c ∧ H4 D = some (.set S n) ∧ n + 1 < scanBound ∧ Nx (upd H4 D (.set (fun j => S j || decide (j = c)) (if S c = true then n else n + 1))) else Nx H3)
theorem addI_ok {X : Cx} {pins : List (Addr × Obj)} {σ : L2.St} {H : Hp} {s : Shared} {E : Value → Shared → Prop} {D : Addr} {S : Int → Bool} {n : Nat} {y : Int} {tk : Tok} {Q : Value → Shared → Prop} (I : L2.Inv X pins σ H s) (hD : H D = some (.set S n)) (hn : n + 1 < scanBound)
    (q : ∀ s', L2.Inv X pins σ (upd H D (.set (fun j => S j || decide (j = y)) (if S y = true then n else n + 1))) s' → Q .none s') : wpAny (model X.prog X.w) X.A (call (.builtin "set.add") [.ref D, .int y tk]) Q E s := by
  have ho : Heap.SetOf (intKind X.prog X.w) s.heap D S n := I.hok D _ hD
  refine PySem.call_set_add (knd := intKind X.prog X.w) (k := y) (show Value.isInt y (Value.int y tk) = true by simp [Value.isInt]) rfl ho hn fun h' sb hs => ?_
  refine q _ (I.write (e := D) (x := D) ?_ (.inl rfl) (fun b u hb e => (sb.2 b hb).trans e) ?_ hs)
  · rw [hD]; exact trivial
  · obtain ⟨o, es, ep, t, e, _⟩ := hs
    exact ⟨o, e⟩
theorem sc_loop {X : Cx} {elt tg iter : Expr} {ifs : List Expr} {scope : Scope} {own : List (Str × Nat)} {pos : Pos} {g : TG} {tt : TT} {te : TE} (hc : X.calm = true) (hN : X.N.Nodup) (hB : BlkOk X.N X.env.scope scope own)
    (hG : ∀ (s : Shared) (H : Hp) (C : Addr) (cl : List (Str × Addr)) (fp : List Addr), PG (X.blk s H scope (compEnvC scope cl C X.env) fp) tg g)
    (hT : ∀ (s : Shared) (H : Hp) (C : Addr) (cl : List (Str × Addr)) (fp : List Addr), PTs (X.blk s H scope (compEnvC scope cl C X.env) fp) ifs tt)
    (hE : ∀ (s : Shared) (H : Hp) (C : Addr) (cl : List (Str × Addr)) (fp : List Addr), PE (X.blk s H scope (compEnvC scope cl C X.env) fp) elt te)
    {pins : List (Addr × Obj)} {s3 : Shared} {σ : L2.St} {H3 : Hp} {Q : VK} {it D : Addr} {fp : List Addr} {tn : Nat → Heap → Prop} {J : It} {W : Nat → Nat → Hp → Prop}
    (I3 : L2.Inv X pins σ H3 s3) (fok3 : ∀ b, b ∈ fp → FpOk X pins H3 b ∧ b < s3.heap.objs.size) (T : Turn X.prog X.w X.K tg J fp it tn) (t3 : tn 0 s3.heap) (w0 : ∃ m, W 0 m H3)
    (step : ∀ (i m : Nat) (H : Hp), W i m H → (J.stop i H ∧ Q (.ref D) H) ∨ (J.go i H ∧ ∃ Nx : Hp → Prop, (∀ H', Nx H' → ∃ m', m' < m ∧ W (i + 1) m' H') ∧
      ∀ (x : V) (H' : Hp), J.yld i H x H' → g x (wipe σ (own.map fun x => x.2)) H' fun σ2 H2 => wipe σ2 (own.map fun x => x.2) = wipe σ (own.map fun x => x.2) ∧ tt σ2 H2 fun b H3 => if b = true then te σ2 H3 fun y H4 =>
        ∃ (c : Int) (S : Int → Bool) (n : Nat), y = .int c ∧ H4 D = some (.set S n) ∧ n + 1 < scanBound ∧ Nx (upd H4 D (.set (fun j => S j || decide (j = c)) (if S c = true then n else n + 1))) else Nx H3)) :
    codeAny (model X.prog X.w) X.A (Code.compStart (.SetComp elt [⟨tg, iter, ifs, 0⟩] scope pos) 0 (.ref it) (.ref D) (compEnvC scope (cellsFrom (s3.heap.objs.size + 1) scope.names (cloFrom X.env.cells scope.names [])) s3.heap.objs.size X.env))
      (compPost (model X.prog X.w) X.A X.xe none (EP X pins σ Q) (.ref D) s3.heap.objs.size)
      { heap := pushCells (s3.heap.push { cls := Value.type "dict", data := Data.dict #[] }) scope.names, gens := s3.gens, drawn := s3.drawn, toks := s3.toks, os := s3.os } := by
  have I4 := block_start I3 hB hN fok3
  obtain ⟨m0, w0⟩ := w0
  generalize hcl : cellsFrom (s3.heap.objs.size + 1) scope.names (cloFrom X.env.cells scope.names []) = cl at *
  have fk : ∀ {H' : Hp} {s' : Shared}, L2.Inv (X.blk s3 H3 scope (compEnvC scope cl s3.heap.objs.size X.env) fp) [] (wipe σ (own.map fun x => x.2)) H' s' → (∀ b, b ∈ fp → H' b = none) → ∀ b, b ∈ fp → FpOk (X.blk s3 H3 scope (compEnvC scope cl s3.heap.objs.size X.env) fp) [] H' b :=
    fun I' hfr b hb => ⟨hfr b hb, (I'.ok.exf b hb).1, I'.ok.exfs b hb, .inl hb, (I'.ok.exf b hb).2, fun p hp => nomatch hp⟩
  have t4 : tn 0 (pushCells (s3.heap.push { cls := Value.type "dict", data := Data.dict #[] }) scope.names) := T.keep 0 _ _ t3 fun b hb o e => pushCells_keeps _ _ _ _ (Heap.get?_push_of_some _ e)
  have key := PpSet.compLoopS_any (prog := X.prog) (w := X.w) (A := X.A) (R := compPost (model X.prog X.w) X.A X.xe none (EP X pins σ Q) (.ref D) s3.heap.objs.size) (env := compEnvC scope cl s3.heap.objs.size X.env) (elt := elt) (target := tg) (iter := iter) (ifs := ifs) (scope := scope) (pos := pos) (it := .ref it) (acc := .ref D)
    (s := { heap := pushCells (s3.heap.push { cls := Value.type "dict", data := Data.dict #[] }) scope.names, gens := s3.gens, drawn := s3.drawn, toks := s3.toks, os := s3.os })
    (fun n s' => ∃ i H', L2.Inv (X.blk s3 H3 scope (compEnvC scope cl s3.heap.objs.size X.env) fp) [] (wipe σ (own.map fun x => x.2)) H' s' ∧ tn i s'.heap ∧ (∀ b, b ∈ fp → H' b = none) ∧ W i n H') ?turn m0 ⟨0, H3, I4, t4, fun b hb => (fok3 b hb).1.1, w0⟩
  case turn =>
    rintro n s' ⟨i, H', I', ti, hfr, w⟩
    rcases step i n H' w with ⟨hs, hq⟩ | ⟨hgo, Nx, hNx, hy⟩
    · refine thn (T.done (X.blk s3 H3 scope (compEnvC scope cl s3.heap.objs.size X.env) fp) rfl rfl rfl hc i [] s' _ H' _ I' (fk I' hfr) ti hs) fun r s6 ⟨hr, I6⟩ => ?_
      subst hr
      obtain ⟨m, hm, _⟩ := I6.loc
      refine ⟨m, hm, fun h' sb => ?_⟩
      have I7 : L2.Inv X pins σ H' s6 := I3.call' I6.os I6.base I6.hok I6.bare fun b hb => let f := (fok3 b hb).1; ⟨f.2.2.2.1, f.2.1, f.2.2.2.2.1, f.2.2.2.2.2⟩
      have fC := I3.fpOk (b := s3.heap.objs.size) (Nat.le_refl _) (H' := H') I6.free
      exact ⟨.ref D, H', I7.turned (h' := h') (t' := s6.toks) (fun b o hb e => (sb.2 b hb).trans e) fC.1 fC.2.1 fC.2.2.2.1 fC.2.2.2.2.1 fC.2.2.2.2.2, rfl, hq⟩
    · refine thn (T.item (X.blk s3 H3 scope (compEnvC scope cl s3.heap.objs.size X.env) fp) rfl rfl rfl hc i [] s' _ H' _ I' (fk I' hfr) ti hgo) fun r s5 ⟨u, hr, hl⟩ => ?_
      subst hr
      refine thn hl fun _ s5 ⟨x, H5, I5, rx, hyl, t5, hf5⟩ => ?_
      have I5p := I5.pinned (fk I5 hf5) (T.obj (i + 1) _ t5)
      refine thnF ((hG _ _ _ _ _).run _ s5 _ H5 x u _ I5p rx (hy x H5 hyl)) fun _ s6 ⟨σ6, H6, I6, hw6, ht6⟩ => ?_
      refine thnF ((hT _ _ _ _ _).run _ s6 σ6 H6 _ I6 ht6) fun ok s7 ⟨H7, I7, h7⟩ => ?_
      -- what stands of the walk's own objects, whatever came behind
      have back : ∀ {σ' : L2.St} {H' : Hp} {s' : Shared}, L2.Inv (X.blk s3 H3 scope (compEnvC scope cl s3.heap.objs.size X.env) fp) ([] ++ pinsAt fp s5.heap) σ' H' s' → wipe σ' (own.map fun x => x.2) = wipe σ (own.map fun x => x.2) →
          L2.Inv (X.blk s3 H3 scope (compEnvC scope cl s3.heap.objs.size X.env) fp) [] (wipe σ (own.map fun x => x.2)) H' s' ∧ tn (i + 1) s'.heap ∧ ∀ b, b ∈ fp → H' b = none := fun {σ' H' s'} I9 hw => by
        refine ⟨hw ▸ (L2.Inv.unpinned (pins := []) I9).weak (wipe_length _ _) (fun i v h => (wipe_some h).1), T.keep (i + 1) s5.heap s'.heap t5 fun b hb o e => (I9.pin (b, o) (by simpa using mem_pinsAt hb e)).1, fun b hb => ?_⟩
        obtain ⟨o, e, _⟩ := T.obj (i + 1) _ t5 b hb
        exact (I9.pin (b, o) (by simpa using mem_pinsAt hb e)).2.1
      cases ok with
      | false =>
        rw [if_neg (by decide)] at h7 ⊢
        obtain ⟨m', hm', w'⟩ := hNx _ h7
        obtain ⟨b1, b2, b3⟩ := back I7 hw6
        exact ⟨m', hm', i + 1, H7, b1, b2, b3, w'⟩
      | true =>
        rw [if_pos rfl] at h7 ⊢
        refine thnF ((hE _ _ _ _ _).run _ s7 σ6 H7 _ I7 h7) fun xv s8 ⟨y, H8, I8, ry, c, S, k, hy8, hD8, hk8, nx⟩ => ?_
        subst hy8
        obtain ⟨tk, rfl⟩ := ry
        refine addI_ok (X := X.blk s3 H3 scope (compEnvC scope cl s3.heap.objs.size X.env) fp) I8 hD8 hk8 fun s9 I9 => ?_
        obtain ⟨m', hm', w'⟩ := hNx _ nx
        obtain ⟨b1, b2, b3⟩ := back I9 hw6
        exact ⟨m', hm', i + 1, _, b1, b2, b3, w'⟩
  exact PpSet.codeAny_compStart_set key (T.self _ 0 _ _ _ t4 key)
theorem pe_scI {X : Cx} {elt tg iter : Expr} {ifs : List Expr} {scope : Scope} {own : List (Str × Nat)} {pos : Pos} {wi : TI} {g : TG} {tt : TT} {te : TE} (hc : X.calm = true) (hN : X.N.Nodup) (hI : PI X tg iter wi) (hB : BlkOk X.N X.env.scope scope own)
    (hG : ∀ (s : Shared) (H : Hp) (C : Addr) (cl : List (Str × Addr)) (fp : List Addr), PG (X.blk s H scope (compEnvC scope cl C X.env) fp) tg g)
    (hT : ∀ (s : Shared) (H : Hp) (C : Addr) (cl : List (Str × Addr)) (fp : List Addr), PTs (X.blk s H scope (compEnvC scope cl C X.env) fp) ifs tt)
    (hE : ∀ (s : Shared) (H : Hp) (C : Addr) (cl : List (Str × Addr)) (fp : List Addr), PE (X.blk s H scope (compEnvC scope cl C X.env) fp) elt te)
    (hf : ∀ x : Value, foldedSetIterable iter X.env x = pure x := by intro x; rfl) : PE X (.SetComp elt [⟨tg, iter, ifs, 0⟩] scope pos) (tScI wi g tt te (own.map fun x => x.2)) := by
  refine ⟨fun pins s σ H Q I h => ?_⟩
  rw [PpSet.eval_SetComp]
  have ok := I.ok
  refine PySem.wpAny_comprehension_free rfl hf (closure_ok fun y hy hfr => ok.has _ (hB.free y hy hfr)) hB.kind (fun x hx hl => hl ▸ hB.uniq x hx) ?_
  refine thn (hI.run pins s σ H _ I h) fun v s1 hv => thn hv fun itv s2 hp => ?_
  obtain ⟨it, fp, tn, J, H2, rfl, I2, T, t0, fok, r⟩ := hp
  have hD : H2 s2.heap.objs.size = none := I2.hok.fresh (Nat.le_refl _)
  obtain ⟨W, ⟨m0, w0⟩, step⟩ := r _ hD
  refine PySem.wpAny_newSet_of (knd := intKind X.prog X.w) fun led hset => ?_
  have I3 := I2.laid (h' := s2.heap.push { cls := Value.type "set", data := Data.set #[] 0 (SetTable.fresh 0 0 led) }) (t' := s2.toks) (a := s2.heap.objs.size) (o := .set (fun _ => false) 0) (fun b u e => Heap.get?_push_of_some _ e) (Nat.le_refl _) hset
  have hlt : ∀ b, b ∈ fp → b < s2.heap.objs.size := fun b hb => by
    obtain ⟨o, e, _⟩ := T.obj 0 _ t0 b hb
    exact Heap.lt_size e
  have fok3 : ∀ b, b ∈ fp → FpOk X pins (upd H2 s2.heap.objs.size (.set (fun _ => false) 0)) b ∧ b < (s2.heap.push { cls := Value.type "set", data := Data.set #[] 0 (SetTable.fresh 0 0 led) }).objs.size := fun b hb => by
    have hb2 := hlt b hb
    refine ⟨⟨?_, (fok b hb).2⟩, ?_⟩
    · rw [upd_ne (Nat.ne_of_lt hb2)]; exact (fok b hb).1
    · rw [Heap.size_push]; exact Nat.lt_succ_of_lt hb2
  refine newEnv_comp ?_
  have I4 := block_start I3 hB hN fok3
  exact sc_loop hc hN hB hG hT hE I3 fok3 T (T.keep 0 _ _ t0 fun b hb o e => Heap.get?_push_of_some _ e) ⟨m0, w0⟩ step
/-- len of such a set -/
def rLenS : List V → Hp → VK → Prop := fun xs H Q => ∃ (D : Addr) (S : Int → Bool) (n : Nat), xs = [.ref D] ∧ H D = some (.set S n) ∧ Q (.int (n : Int)) H
theorem c_lenS {X : Cx} : CallR X (.builtin "len") rLenS := fun pins s σ H xs us Q I rv ⟨D, S, n, e, hD, q⟩ => by
  subst e
  cases rv with
  | cons r1 r2 =>
    cases r2
    cases r1
    have ho : Heap.SetOf (intKind X.prog X.w) s.heap D S n := I.hok D _ hD
    obtain ⟨o, es, ep, t, e1, e2, e3, _, _, e6, e7, e8⟩ := ho
    have hlt : es.size < 4096 := e6
    refine PySem.call_len_set e1 e2 e3 e7 (by omega) ⟨.int (n : Int), H, I.tok _, ⟨_, by rw [e8]⟩, q⟩
def dgo : List Int → Nat
  | [] => 0
  | c :: r => if c ∈ r then dgo r else dgo r + 1
/-- how many there are, each counted once -/
def dcount (l : List Int) : Nat := dgo l.reverse
theorem dcount_snoc (l : List Int) (c : Int) : dcount (l ++ [c]) = if c ∈ l then dcount l else dcount l + 1 := by
  unfold dcount
  rw [List.reverse_append]
  show (if c ∈ l.reverse then dgo l.reverse else dgo l.reverse + 1) = _
  simp only [List.mem_reverse]
theorem dgo_le : ∀ l : List Int, dgo l ≤ l.length
  | [] => Nat.le_refl _
  | c :: r => by
    have := dgo_le r
    unfold dgo
    rw [List.length_cons]
    split <;> omega
theorem dgo_nodup : ∀ l : List Int, l.Nodup → dgo l = l.length
  | [], _ => rfl
  | c :: r, h => by
    have h' := List.nodup_cons.mp h
    unfold dgo
    rw [if_neg h'.1, dgo_nodup r h'.2, List.length_cons]
theorem dgo_dup : ∀ l : List Int, ¬ l.Nodup → dgo l < l.length
  | [], h => absurd List.nodup_nil h
  | c :: r, h => by
    unfold dgo
    rw [List.length_cons]
    have := dgo_le r
    by_cases hc : c ∈ r
    · rw [if_pos hc]; omega
    · rw [if_neg hc]
      have := dgo_dup r fun z => h (List.nodup_cons.mpr ⟨hc, z⟩)
      omega
theorem dcount_le (l : List Int) : dcount l ≤ l.length := by
  have := dgo_le l.reverse
  rw [List.length_reverse] at this
  exact this
theorem nodup_rev {l : List Int} : l.reverse.Nodup ↔ l.Nodup := by
  unfold List.Nodup
  rw [List.pairwise_reverse]
  exact ⟨fun h => h.imp fun z e => z e.symm, fun h => h.imp fun z e => z e.symm⟩
theorem dcount_lt (l : List Int) : decide (dcount l < l.length) = !decide l.Nodup := by
  by_cases h : l.Nodup
  · rw [decide_eq_true h, decide_eq_false]
    · rfl
    have := dgo_nodup l.reverse (nodup_rev.mpr h)
    rw [List.length_reverse] at this
    unfold dcount
    omega
  · rw [decide_eq_false h, decide_eq_true]
    · rfl
    have := dgo_dup l.reverse fun z => h (nodup_rev.mp z)
    rw [List.length_reverse] at this
    exact this
section
variable {K : PySem.W.Frag} {J : Jm} {env : List Sl} {R : Dt → Prop} {te : TE} {wi : TI} {g : TG} {vs : List Nat}
theorem ev_lenS (f : Dt → Int) (h : Ei K J env wi fun ds => ds.length ≤ 4000 ∧ (∀ d, d ∈ ds → Gt K J (wipeE env vs) g d vs fun e => Ev K J e te fun y => y = .int (f d)) ∧ R (.int (dcount (ds.map f) : Nat))) : Ev K J env (tCB rLenS (tCons (tScI wi g tYes te vs) tNil)) R := fun B G H σ w E Q q => by
  refine h B G H σ w E _ fun I ds G1 H1 n1 wk ⟨hz, hs, hR⟩ => ?_
  intro D hD
  have w1 := n1.wf w
  have E1 := E.mono n1
  have hn : D ∉ J.ms := w1.notin hD
  have n0 := w1.newM hD (.set (fun _ => false) 0)
  refine ⟨fun i m H' => m = ds.length - i ∧ i ≤ ds.length ∧ ∃ G', Nx J G1 H1 G' H' ∧ G' D = none ∧ H' D = some (.set (fun j => decide (j ∈ (ds.map f).take i)) (dcount ((ds.map f).take i))),
    ⟨ds.length, by simp, Nat.zero_le _, G1, n0, w1.free hD, by rw [upd_same]; simp [dcount, dgo]⟩, ?_⟩
  rintro i m H' ⟨rfl, hi, G', n, hG, hH⟩
  have w' := n.wf w1
  by_cases hlt : i < ds.length
  · refine .inr ⟨wk.go i G' H' n.gg w' hlt, fun H2 => ∃ G2, Nx J G1 H1 G2 H2 ∧ G2 D = none ∧ H2 D = some (.set (fun j => decide (j ∈ (ds.map f).take (i + 1))) (dcount ((ds.map f).take (i + 1)))),
      fun H2 ⟨G2, a, b, c⟩ => ⟨ds.length - (i + 1), by omega, rfl, hlt, G2, a, b, c⟩, fun x H2 y => ?_⟩
    obtain ⟨G2, d, n2, hd', rd⟩ := wk.yld i G' H' x H2 n.gg w' hlt y
    have n02 := n.trans n2
    have w2 := n2.wf w'
    refine hs d (List.mem_of_getElem? hd') B G2 H2 (wipe σ vs) x w2 ((E1.mono n02).wipe vs) rd _ fun e3 σ3 E3 ks ev => ⟨wipe_eq ks.1 ks.2, ?_⟩
    unfold L2.tYes
    simp only [if_true]
    refine ev B G2 H2 σ3 w2 E3 _ fun yv yd G4 H4 n4 ry ky => ?_
    subst ky
    cases ry
    have hG2 := n2.fr D hG (by rw [hH]; simp)
    have hH2 := n2.kp D _ hH hn
    have hG4 := n4.fr D hG2 (by rw [hH2]; simp)
    have hH4 := n4.kp D _ hH2 hn
    have n04 := n02.trans n4
    have ht : (ds.map f).take (i + 1) = (ds.map f).take i ++ [f d] := by
      rw [List.take_add_one, List.getElem?_map, hd']
      rfl
    have hdc := dcount_le ((ds.map f).take i)
    rw [List.length_take, List.length_map] at hdc
    refine ⟨f d, _, _, rfl, hH4, by show _ < 4096; omega, G4, n04.mut hD hG4 hn hH4, hG4, ?_⟩
    rw [upd_same, ht, dcount_snoc]
    congr 2
    · funext j
      simp
    · simp
  · have e' : i = ds.length := by omega
    subst e'
    refine .inl ⟨wk.stop G' H' n.gg w', D, _, _, rfl, hH, q _ _ G' H' (n1.trans n) (.int _) ?_⟩
    rw [← List.length_map (f := f), List.take_length]
    exact hR
end
end Mv

set_option Elab.async false
set_option linter.all false
set_option maxRecDepth 100000
set_option maxHeartbeats 4000000
namespace Mv
open PySem PySem.Spec PyProof.Rows L2
section
variable {K : PySem.W.Frag} {J : Jm} {env : List Sl} {te : TE} {tt : TT}
/-- [e for .. in xs if ..], xs an own list -/
theorem em_lcM {g : TG} {vs : List Nat} {R : List Dt → Prop} {j : Nat} {ds : List Dt} (hj : env[j]? = some (.ml ds)) (h : ds.length ≤ 100000 ∧ ∃ Iv : Nat → List Dt → Prop, Iv 0 [] ∧
    (∀ k d acc, ds[k]? = some d → acc.length ≤ k → Iv k acc → Gt K J (wipeE env vs) g d vs fun e => Et K J e tt fun b => (b = true → Ev K J e te fun y => Iv (k + 1) (acc ++ [y])) ∧ (b = false → Iv (k + 1) acc)) ∧
    ∀ acc, acc.length ≤ ds.length → Iv ds.length acc → R acc) : Em K J env (tLc (iSeq K (tVar j)) g tt te vs) R := fun B G1 H1 σ w1 E1 Q q => by
  obtain ⟨hz, Iv, h0, hs, hd⟩ := h
  obtain ⟨p, us, h1, hHp, rus, hm, hGp⟩ := E1.lst hj
  refine ⟨.ref p, h1, p, rfl, .inl ⟨us, .inl (.inl hHp), ?_⟩⟩
  have wl := walk_list (K := K) (a := p) (xs := us)
  have hul := rus.length
  intro Dl hDl
  have hn : Dl ∉ J.ms := w1.notin hDl
  have n0 := w1.newM hDl (.lst [])
  refine ⟨fun i m H' => m = ds.length - i ∧ i ≤ ds.length ∧ ∃ G' xs acc, Nx J G1 H1 G' H' ∧ G' Dl = none ∧ H' Dl = some (.lst xs) ∧ Da K G' xs acc ∧ acc.length ≤ i ∧ Iv i acc,
    ⟨ds.length, by simp, Nat.zero_le _, G1, [], [], n0, w1.free hDl, upd_same, .nil, Nat.le_refl _, h0⟩, ?_⟩
  rintro i m H' ⟨rfl, hi, G', xs, acc, n, hG, hH, r, hl, pI⟩
  have w' := n.wf w1
  have hHp' := n.kp p _ hHp hm
  by_cases hlt : i < ds.length
  · refine .inr ⟨wl.goes i H' (by omega) (.inl (.inl hHp')), fun H2 => ∃ G2 xs2 acc2, Nx J G1 H1 G2 H2 ∧ G2 Dl = none ∧ H2 Dl = some (.lst xs2) ∧ Da K G2 xs2 acc2 ∧ acc2.length ≤ i + 1 ∧ Iv (i + 1) acc2,
      fun H2 ⟨G2, xs2, acc2, a, b, c, d, e, f⟩ => ⟨ds.length - (i + 1), by omega, rfl, hlt, G2, xs2, acc2, a, b, c, d, e, f⟩, fun x H2 y => ?_⟩
    obtain ⟨e1, e2⟩ := wl.yields i H' x H2 (by omega) (.inl (.inl hHp')) y
    subst e1
    obtain ⟨d, hd', rd0⟩ := rus.get' e2
    have rd := rd0.mono n.gg
    refine hs i d acc hd' hl pI B G' H2 (wipe σ vs) x w' ((E1.mono n).wipe vs) rd _ fun e3 σ3 E3 ks et => ⟨wipe_eq ks.1 ks.2, et B G' H2 σ3 w' E3 _ fun b G3 H3 n3 k => ?_⟩
    have hG3 := n3.fr Dl hG (by rw [hH]; simp)
    have hH3 := n3.kp Dl _ hH hn
    have w3 := n3.wf w'
    cases b with
    | false => exact ⟨G3, xs, acc, n.trans n3, hG3, hH3, r.mono n3.gg, by omega, k.2 rfl⟩
    | true =>
      refine k.1 rfl B G3 H3 σ3 w3 (E3.mono n3) _ fun yv yd G4 H4 n4 ry ky => ?_
      have hG4 := n4.fr Dl hG3 (by rw [hH3]; simp)
      have hH4 := n4.kp Dl _ hH3 hn
      have n04 := (n.trans n3).trans n4
      have n5 := n04.mut (o' := .lst (xs ++ [yv])) hDl hG4 hn hH4
      refine ⟨xs, hH4, sz_lt (by rw [r.length]; omega), G4, xs ++ [yv], acc ++ [yd], n5, hG4, upd_same, ((r.mono n3.gg).mono n4.gg).append (.cons ry .nil), by simp; omega, ky⟩
  · have e' : i = ds.length := by omega
    subst e'
    exact .inl ⟨hul ▸ wl.stops H' (.inl (.inl hHp')), q Dl xs acc G' H' n hG hDl hH r (hd acc hl pI)⟩
theorem em_mapM {g : TG} {vs : List Nat} {R : List Dt → Prop} {j : Nat} {ds : List Dt} (f : Dt → Dt) (hj : env[j]? = some (.ml ds)) (hz : ds.length ≤ 100000) (h2 : ∀ d, d ∈ ds → Gt K J (wipeE env vs) g d vs fun e => Ev K J e te fun y => y = f d) (h3 : R (ds.map f)) : Em K J env (tLc (iSeq K (tVar j)) g tYes te vs) R := by
  refine em_lcM hj ⟨hz, fun k acc => acc = (ds.take k).map f, by simp, fun k d acc hd _ ha => ?_, fun acc _ ha => ?_⟩
  · intro B G H σ v w E r Q q
    refine h2 d (List.mem_of_getElem? hd) B G H σ v w E r Q fun e σ' E' k' x => q e σ' E' k' (et_yes ⟨fun _ => x.imp fun y hy => ?_, fun z => nomatch z⟩)
    subst hy ha
    rw [List.take_add_one, hd]
    simp
  · subst ha
    rw [List.take_length]
    exact h3
end
section
variable {P : Program} {w : World} {K : PySem.W.Frag} {mg : Str → Option Value} {base : Heap}
theorem MkI.mono {j k : Nat} {x : Str} {ps : List Str} {C : Addr} {sp : Sp} (M : MkI P w K mg base j x ps C sp) (h : j ≤ k) : MkI P w K mg base k x ps C sp := by
  obtain ⟨f, fd, m, F, g, b⟩ := M.ex
  exact ⟨f, fd, m, F.mono h, g, b⟩
theorem rec_allB {f : Addr} {fd : FuncData} {x : Str} {ps : List Str} (b : Nat) (W : Nat → Fw) (g : mg x = some (.ref f)) (kp : PySem.W.keepIn K (.ref f) = true) (bb : Binds K fd ps [])
    (step : ∀ n, Cal P w K mg base (n + b) x ps (Ct K (predW W n)) → FnOk P w K mg base CX0 (n + b + 1) f fd ps (Ct K (W n))) : ∀ n, FnOk P w K mg base CX0 (n + b + 1) f fd ps (Ct K (W n))
  | 0 => step 0 ⟨f, fd, ⟨fun vs H Q E h => by obtain ⟨_, _, _, _, _, _, z, _⟩ := h; exact z.elim, fun A outer s H args us vs Q E _ _ _ _ h => by obtain ⟨_, _, _, _, _, _, z, _⟩ := h; exact z.elim⟩, g, kp, bb⟩
  | n + 1 => step (n + 1) ⟨f, fd, by
      have := rec_allB b W g kp bb step n
      rw [show n + 1 + b = n + b + 1 by omega]
      exact this, g, kp, bb⟩
end
end Mv

set_option Elab.async false
set_option linter.all false
set_option maxRecDepth 100000
set_option maxHeartbeats 4000000
namespace Mv
open PySem PySem.Spec PyProof.Rows L2
/-! ### lists put together, and repeated: operands that are plain lists, own or new -/
section
variable {K : PySem.W.Frag} {J : Jm} {env : List Sl} {te ta tb : TE}
/-- an expression gives a plain list, own or new -/
def El (K : PySem.W.Frag) (J : Jm) (env : List Sl) (te : TE) (R : List Dt → Prop) : Prop := ∀ (B G H : Hp) (σ : L2.St), Wf J G H → En K J B G H σ env → ∀ Q : VK,
  (∀ p vs ds G' H', Nx J G H G' H' → p ∉ J.ms → H' p = some (.lst vs) → Da K G' vs ds → R ds → Q (.ref p) H') → te σ H Q
theorem el_var {i : Nat} {xs : List Dt} {R : List Dt → Prop} (hi : env[i]? = some (.ml xs)) (k : R xs) : El K J env (tVar i) R := fun B G H σ w E Q q => by
  obtain ⟨p, vs, h1, hH, r, hm, _⟩ := E.lst hi
  exact ⟨.ref p, h1, q p vs xs G H w.nx hm hH r k⟩
theorem Em.el {R : List Dt → Prop} (h : Em K J env te R) : El K J env te R := fun B G H σ w E Q q =>
  h B G H σ w E Q fun p vs ds G' H' n hG hp hH r k => q p vs ds G' H' n (w.notin hp) hH r k
theorem em_cat {R : List Dt → Prop} (h : El K J env ta fun xs => El K J env tb fun ys => xs.length + ys.length ≤ 100000 ∧ R (xs ++ ys)) : Em K J env (tOp rCat ta tb) R := fun B G H σ w E Q q =>
  h B G H σ w E _ fun p1 v1 d1 G1 H1 n1 m1 h1 r1 k => k B G1 H1 σ (n1.wf w) (E.mono n1) _ fun p2 v2 d2 G2 H2 n2 m2 h2 r2 ⟨hz, k2⟩ => by
    have n12 := n1.trans n2
    have w2 := n12.wf w
    refine ⟨p1, p2, v1, v2, rfl, rfl, n2.kp p1 _ h1 m1, h2, sz_of (by rw [r1.length, r2.length]; exact hz), fun p hp => ?_⟩
    refine q p (v1 ++ v2) (d1 ++ d2) G2 _ (n12.trans (w2.newM hp _)) (w2.free hp) ?_ upd_same ((r1.mono n2.gg).append r2) k2
    cases z : H p with
    | none => rfl
    | some o => exact absurd hp (n12.th p (by rw [z]; simp))
theorem da_flat {G : Hp} {vs : List V} {ds : List Dt} (r : Da K G vs ds) : ∀ n : Nat, Da K G (List.replicate n vs).flatten (List.replicate n ds).flatten
  | 0 => .nil
  | n + 1 => by
    rw [List.replicate_succ, List.replicate_succ, List.flatten_cons, List.flatten_cons]
    exact r.append (da_flat r n)
theorem em_rep {R : List Dt → Prop} (h : El K J env ta fun xs => Ev K J env tb fun x => ∃ i : Int, x = .int i ∧ -100000 ≤ i ∧ i ≤ 100000 ∧ xs.length * i.toNat ≤ 100000 ∧ R (List.replicate i.toNat xs).flatten) : Em K J env (tOp rRep ta tb) R := fun B G H σ w E Q q =>
  h B G H σ w E _ fun p1 v1 d1 G1 H1 n1 m1 h1 r1 k => k B G1 H1 σ (n1.wf w) (E.mono n1) _ fun v x G2 H2 n2 rx ⟨i, e, h0, h9, hz, k2⟩ => by
    subst e
    cases rx
    have n12 := n1.trans n2
    have w2 := n12.wf w
    refine ⟨p1, i, v1, rfl, rfl, n2.kp p1 _ h1 m1, by omega, by omega, sz_of (by rw [r1.length]; exact hz), fun p hp => ?_⟩
    refine q p _ _ G2 _ (n12.trans (w2.newM hp _)) (w2.free hp) ?_ upd_same (da_flat (r1.mono n2.gg) i.toNat) k2
    cases z : H p with
    | none => rfl
    | some o => exact absurd hp (n12.th p (by rw [z]; simp))
end
end Mv

set_option Elab.async false
set_option linter.all false
set_option maxRecDepth 100000
set_option maxHeartbeats 4000000
namespace Mv
open PySem PySem.Spec PyProof.Rows L2
/-! ### dicts whose keys are ints, own ones -/
def getI (kvs : List (Int × Dt)) (n : Int) : Option Dt := (kvs.find? fun kv => decide (kv.1 = n)).map fun kv => kv.2
def putI (kvs : List (Int × Dt)) (n : Int) (d : Dt) : List (Int × Dt) := if (kvs.any fun kv => decide (kv.1 = n)) = true then kvs.map fun kv => if kv.1 = n then (kv.1, d) else kv else kvs ++ [(n, d)]
section
variable {K : PySem.W.Frag} {J : Jm} {env : List Sl} {te ta tb tk tv : TE} {R : Dt → Prop} {D : DE}
theorem inl_eq (a b : Int) : decide ((Sum.inl a : Key) = Sum.inl b) = decide (a = b) := by
  by_cases h : a = b
  · subst h; simp
  · simp [h]
theorem Dk.length {G : Hp} : ∀ {vs : List (Key × V)} {kvs : List (Int × Dt)}, Dk K G vs kvs → vs.length = kvs.length
  | _, _, .nil => rfl
  | _, _, .cons _ t => by rw [List.length_cons, List.length_cons, Dk.length t]
theorem Dk.get {G : Hp} {n : Int} : ∀ {vs : List (Key × V)} {kvs : List (Int × Dt)}, Dk K G vs kvs → (∀ x, getI kvs n = some x → ∃ v, valV vs (Sum.inl n : Key) = some v ∧ Dr K G v x) ∧ (getI kvs n = none → valV vs (Sum.inl n : Key) = none)
  | _, _, .nil => ⟨fun x h => (by cases h), fun _ => rfl⟩
  | _, _, .cons (k := k) (v := v) (d := d) r t => by
    have ih := Dk.get (n := n) t
    unfold getI valV at ih ⊢
    rw [List.find?_cons, List.find?_cons]
    simp only [inl_eq]
    by_cases h : k = n
    · rw [decide_eq_true h]
      exact ⟨fun x hx => (by cases hx; exact ⟨v, rfl, r⟩), fun hx => (by cases hx)⟩
    · rw [decide_eq_false h]
      exact ih
theorem Dk.any {G : Hp} {n : Int} : ∀ {vs : List (Key × V)} {kvs : List (Int × Dt)}, Dk K G vs kvs → (vs.any fun kv => decide (kv.1 = (Sum.inl n : Key))) = kvs.any fun kv => decide (kv.1 = n)
  | _, _, .nil => rfl
  | _, _, .cons r t => by
    rw [List.any_cons, List.any_cons, Dk.any t, inl_eq]
theorem Dk.app {G : Hp} {n : Int} {v : V} {d : Dt} (rd : Dr K G v d) : ∀ {vs : List (Key × V)} {kvs : List (Int × Dt)}, Dk K G vs kvs → Dk K G (vs ++ [((Sum.inl n : Key), v)]) (kvs ++ [(n, d)])
  | _, _, .nil => .cons rd .nil
  | _, _, .cons r t => .cons r (Dk.app rd t)
theorem Dk.upd {G : Hp} {n : Int} {v : V} {d : Dt} (rd : Dr K G v d) : ∀ {vs : List (Key × V)} {kvs : List (Int × Dt)}, Dk K G vs kvs → Dk K G (vs.map fun kv => if kv.1 = (Sum.inl n : Key) then (kv.1, v) else kv) (kvs.map fun kv => if kv.1 = n then (kv.1, d) else kv)
  | _, _, .nil => .nil
  | _, _, .cons (k := k) r t => by
    rw [List.map_cons, List.map_cons]
    by_cases h : k = n
    · subst h
      rw [if_pos rfl, if_pos rfl]
      exact .cons rd (Dk.upd rd t)
    · rw [if_neg (by intro z; exact h (Sum.inl.inj z)), if_neg h]
      exact .cons r (Dk.upd rd t)
theorem Dk.put {G : Hp} {n : Int} {v : V} {d : Dt} {vs : List (Key × V)} {kvs : List (Int × Dt)} (t : Dk K G vs kvs) (rd : Dr K G v d) : Dk K G (putK vs (Sum.inl n : Key) v) (putI kvs n d) := by
  unfold putK putI
  rw [t.any]
  split
  · exact t.upd rd
  · exact t.app rd
theorem putI_len {kvs : List (Int × Dt)} {n : Int} {d : Dt} : (putI kvs n d).length ≤ kvs.length + 1 := by
  unfold putI
  split <;> simp
def isMd : Sl → Bool | .md _ => true | _ => false
def onlyMd : Nat → List Sl → Bool
  | _, [] => true
  | 0, _ :: r => r.all fun s => !isMd s
  | n + 1, s :: r => !isMd s && onlyMd n r
theorem onlyMd_ne : ∀ {i : Nat} {env : List Sl} {j : Nat} {s : Sl}, onlyMd i env = true → j ≠ i → env[j]? = some s → isMd s = false
  | _, [], _, _, _, _, h => by simp at h
  | 0, _ :: r, 0, _, _, hn, _ => absurd rfl hn
  | 0, _ :: r, j + 1, s, h, _, hs => by
    have := List.all_eq_true.mp h s (List.mem_of_getElem? (by simpa using hs))
    simpa using this
  | n + 1, x :: r, 0, s, h, _, hs => by
    unfold onlyMd at h
    rw [Bool.and_eq_true] at h
    simp at hs
    subst hs
    simpa using h.1
  | n + 1, x :: r, j + 1, s, h, hn, hs => by
    unfold onlyMd at h
    rw [Bool.and_eq_true] at h
    exact onlyMd_ne (j := j) h.2 (fun z => hn (by rw [z])) (by simpa using hs)
theorem En.dct {B G H : Hp} {σ : L2.St} (E : En K J B G H σ env) {i : Nat} {kvs : List (Int × Dt)} (hi : env[i]? = some (.md kvs)) : ∃ p vs, σ[i]? = some (some (.ref p)) ∧ B p = none ∧ G p = none ∧ p ∉ J.ms ∧ H p = some (.dK vs) ∧ Dk K G vs kvs := by
  obtain ⟨ov, h1, p, vs, h2, hB, hG, hm, hH, r⟩ := E.ok i _ hi
  exact ⟨p, vs, by rw [h1, h2], hB, hG, hm, hH, r⟩
/-- d[k] -/
theorem ev_dget {i : Nat} {kvs : List (Int × Dt)} (hi : env[i]? = some (.md kvs)) (h : Ev K J env tk fun k => ∃ n x, k = .int n ∧ getI kvs n = some x ∧ R x) : Ev K J env (tDGet (tVar i) tk) R := fun B G H σ w E Q q => by
  obtain ⟨p, vs, h1, _, _, hm, hH, r⟩ := E.dct hi
  refine ⟨.ref p, h1, h B G H σ w E _ fun v k G1 H1 n1 rk ⟨n, x, e, hx, kx⟩ => ?_⟩
  subst e
  cases rk
  obtain ⟨u, h3, h4⟩ := ((r.mono n1.gg).get (n := n)).1 x hx
  exact ⟨p, u, rfl, .inl ⟨vs, Sum.inl n, .inl (n1.kp p _ hH hm), rfl, h3.symm⟩, q u x G1 H1 n1 h4 kx⟩
/-- d[k] = v -/
theorem sv_dput {i : Nat} {kvs : List (Int × Dt)} (hi : env[i]? = some (.md kvs)) (hu : onlyMd i env = true) (hz : kvs.length < 100000) (h : Ev K J env tv fun v => Ev K J env tk fun k => ∃ n, k = .int n ∧ D.nx (env.set i (.md (putI kvs n v)))) :
    Sv K J env (sDPut (tVar i) tk tv) D := fun GB B G H σ a E q1 _ _ _ _ _ =>
  h B G H σ a.wf a.en _ fun v d G1 H1 n1 rd k => by
    have a1 := a.then n1
    obtain ⟨p, vs, h1, hB, hG, hm, hH, r⟩ := a1.en.dct hi
    refine ⟨.ref p, h1, k B G1 H1 σ a1.wf a1.en _ fun y yd G2 H2 n2 ry ⟨n, e, kx⟩ => ?_⟩
    subst e
    cases ry
    have a2 := a1.then n2
    have hH2 := n2.kp p _ hH hm
    have hG2 := n2.fr p hG (by rw [hH]; simp)
    refine ⟨p, _, rfl, .inl ⟨vs, Sum.inl n, hH2, rfl, sz_lt (by rw [r.length]; exact hz), rfl⟩, q1 _ G2 _ σ ?_ kx⟩
    have n3 := a2.nx.mut (o' := .dK (putK vs (Sum.inl n) v)) hB hG2 hm hH2
    refine ⟨⟨n3.gh, n3.ok, fun m hmm => ⟨(a2.wf.ms m hmm).1, by rw [upd_ne (ne_memP hm hmm)]; exact (a2.wf.ms m hmm).2⟩, a2.wf.tr⟩, n3, ⟨by simp [a2.en.len], fun j s hs => ?_, fun j l q hne hx hy => ?_⟩⟩
    · have hil := (List.getElem?_eq_some_iff.mp hi).1
      by_cases e : i = j
      · subst e
        rw [List.getElem?_set_self hil] at hs
        cases hs
        exact ⟨_, h1, p, _, rfl, hB, hG2, hm, upd_same, (r.mono n2.gg).put (rd.mono n2.gg)⟩
      · rw [List.getElem?_set_ne e] at hs
        obtain ⟨ov, g1, g2⟩ := a2.en.ok j s hs
        refine ⟨ov, g1, ?_⟩
        cases s with
        | no => trivial
        | d x => exact g2
        | hand => exact g2
        | hnd => exact g2
        | tap => exact g2
        | xv a d fs => exact g2
        | md kvs' => exact (by have z := onlyMd_ne hu (fun z => e z.symm) hs; cases z)
        | mi q C fs =>
          obtain ⟨dx, us, e3, hB', hG', hm', hH', r'⟩ := g2
          exact ⟨dx, us, e3, hB', hG', hm', by rw [upd_ne (ne_of hH' hH2 (by intro z; cases z))]; exact hH', r'⟩
        | ml xs =>
          obtain ⟨q, us, e3, hB', hG', hm', hH', r'⟩ := g2
          exact ⟨q, us, e3, hB', hG', hm', by rw [upd_ne (ne_of hH' hH2 (by intro z; cases z))]; exact hH', r'⟩
    · have back : ∀ m : Nat, (∃ xs, (env.set i (.md (putI kvs n d)))[m]? = some (Sl.ml xs)) → ∃ xs, env[m]? = some (Sl.ml xs) := fun m ⟨xs, hz⟩ => by
        by_cases e : i = m
        · subst e
          rw [List.getElem?_set_self (List.getElem?_eq_some_iff.mp hi).1] at hz
          cases hz
        · rw [List.getElem?_set_ne e] at hz
          exact ⟨xs, hz⟩
      exact a2.en.ap j l q hne (back j hx) (back l hy)
theorem ev_dget2 {i : Nat} {kvs : List (Int × Dt)} (hi : env[i]? = some (.md kvs)) (h : Ev K J env tk fun k => Ev K J env tv fun z => ∃ n, k = .int n ∧ R ((getI kvs n).getD z)) : Ev K J env (tDGet2 (tVar i) tk tv) R := fun B G H σ w E Q q => by
  obtain ⟨p, vs, h1, _, _, hm, hH, r⟩ := E.dct hi
  refine ⟨.ref p, h1, p, rfl, .inl ⟨vs, .inl hH⟩, h B G H σ w E _ fun v k G1 H1 n1 rk kk => kk B G1 H1 σ (n1.wf w) (E.mono n1) _ fun u z G2 H2 n2 rz ⟨n, e, kx⟩ => ?_⟩
  subst e
  cases rk
  have n12 := n1.trans n2
  have hH2 := n12.kp p _ hH hm
  have g := (r.mono n12.gg).get (n := n)
  cases e : getI kvs n with
  | some x =>
    obtain ⟨y, h3, h4⟩ := g.1 x e
    rw [e] at kx
    exact ⟨some y, .inl ⟨vs, Sum.inl n, .inl hH2, rfl, h3.symm⟩, q y x G2 H2 n12 h4 kx⟩
  | none =>
    rw [e] at kx
    exact ⟨none, .inl ⟨vs, Sum.inl n, .inl hH2, rfl, (g.2 e).symm⟩, q u z G2 H2 n12 rz kx⟩
theorem En.setK {B G H : Hp} {σ : L2.St} (E : En K J B G H σ env) {i : Nat} {p : Addr} {vs : List (Key × V)} {kvs : List (Int × Dt)} (hB : B p = none) (hG : G p = none) (hm : p ∉ J.ms) (hH : H p = some (.dK vs)) (r : Dk K G vs kvs) :
    En K J B G H (σ.set i (some (.ref p))) (env.set i (.md kvs)) := by
  have e0 := E.setN (i := i) (ov := some (.ref p))
  refine ⟨by simp [E.len], fun k s hk => ?_, fun k j q hne hk hj => ?_⟩
  · by_cases e : i = k
    · subst e
      have hi : i < env.length := by
        have := (List.getElem?_eq_some_iff.mp hk).1
        simpa using this
      rw [List.getElem?_set_self hi] at hk
      cases hk
      exact ⟨_, by rw [List.getElem?_set_self (by rw [E.len]; exact hi)], p, vs, rfl, hB, hG, hm, hH, r⟩
    · rw [List.getElem?_set_ne e] at hk
      rw [List.getElem?_set_ne e]
      exact E.ok k s hk
  · have back : ∀ m : Nat, (∃ xs, (env.set i (.md kvs))[m]? = some (Sl.ml xs)) → ∃ xs, (env.set i .no)[m]? = some (Sl.ml xs) := fun m ⟨xs, h⟩ => by
      by_cases e : i = m
      · subst e
        have hi : i < env.length := by
          have := (List.getElem?_eq_some_iff.mp h).1
          simpa using this
        rw [List.getElem?_set_self hi] at h
        cases h
      · rw [List.getElem?_set_ne e] at h ⊢
        exact ⟨xs, h⟩
    exact e0.ap k j q hne (back k hk) (back j hj)
/-- a new dict -/
def Ek (K : PySem.W.Frag) (J : Jm) (env : List Sl) (te : TE) (R : List (Int × Dt) → Prop) : Prop := ∀ (B G H : Hp) (σ : L2.St), Wf J G H → En K J B G H σ env → ∀ Q : VK,
  (∀ p vs kvs G' H', Nx J G H G' H' → G' p = none → H p = none → H' p = some (.dK vs) → Dk K G' vs kvs → R kvs → Q (.ref p) H') → te σ H Q
theorem sv_asgK {i : Nat} (h : Ek K J env te fun kvs => D.nx (env.set i (.md kvs))) : Sv K J env (tAsg te (gName i)) D := fun GB B G H σ a E q1 _ _ _ _ _ =>
  h B G H σ a.wf a.en _ fun p vs kvs G1 H1 n1 hG hp hH r k => by
    have hB : B p = none := by
      cases z : B p with
      | none => rfl
      | some o => exact absurd hp (a.nx.th p (by rw [z]; simp))
    exact q1 _ G1 H1 _ ⟨n1.wf a.wf, a.nx.trans n1, (a.en.mono n1).setK hB hG (a.wf.notin hp) hH r⟩ k
theorem ek_new {R : List (Int × Dt) → Prop} (h : R []) : Ek K J env tDNewK R := fun B G H σ w E Q q p hp => q p [] [] G _ (w.newM hp _) (w.free hp) hp upd_same .nil h
/-- {k: v for ..} -/
theorem ek_dc {wi : TI} {g : TG} {tt : TT} {vs : List Nat} {R : List (Int × Dt) → Prop} (h : Ei K J env wi fun ds => ds.length ≤ 100000 ∧ ∃ Iv : Nat → List (Int × Dt) → Prop, Iv 0 [] ∧
    (∀ k d acc, ds[k]? = some d → acc.length ≤ k → Iv k acc → Gt K J (wipeE env vs) g d vs fun e => Et K J e tt fun b => (b = true → Ev K J e tk fun y => ∃ n, y = .int n ∧ Ev K J e tv fun z => Iv (k + 1) (putI acc n z)) ∧ (b = false → Iv (k + 1) acc)) ∧
    ∀ acc, acc.length ≤ ds.length → Iv ds.length acc → R acc) : Ek K J env (tDc wi g tt tk tv vs) R := fun B G H σ w E Q q => by
  refine h B G H σ w E _ fun I ds G1 H1 n1 wk ⟨hz, Iv, h0, hs, hd⟩ => ?_
  intro Dl hDl
  have w1 := n1.wf w
  have E1 := E.mono n1
  have hn : Dl ∉ J.ms := w1.notin hDl
  have n0 := w1.newM hDl (.dK [])
  refine ⟨fun i m H' => m = ds.length - i ∧ i ≤ ds.length ∧ ∃ G' xs acc, Nx J G1 H1 G' H' ∧ G' Dl = none ∧ H' Dl = some (.dK xs) ∧ Dk K G' xs acc ∧ acc.length ≤ i ∧ Iv i acc,
    ⟨ds.length, by simp, Nat.zero_le _, G1, [], [], n0, w1.free hDl, upd_same, .nil, Nat.le_refl _, h0⟩, ?_⟩
  rintro i m H' ⟨rfl, hi, G', xs, acc, n, hG, hH, r, hl, p⟩
  have w' := n.wf w1
  by_cases hlt : i < ds.length
  · refine .inr ⟨wk.go i G' H' n.gg w' hlt, fun H2 => ∃ G2 xs2 acc2, Nx J G1 H1 G2 H2 ∧ G2 Dl = none ∧ H2 Dl = some (.dK xs2) ∧ Dk K G2 xs2 acc2 ∧ acc2.length ≤ i + 1 ∧ Iv (i + 1) acc2,
      fun H2 ⟨G2, xs2, acc2, a, b, c, d, e, f⟩ => ⟨ds.length - (i + 1), by omega, rfl, hlt, G2, xs2, acc2, a, b, c, d, e, f⟩, fun x H2 y => ?_⟩
    obtain ⟨G2, d, n2, hd', rd⟩ := wk.yld i G' H' x H2 n.gg w' hlt y
    have n02 := n.trans n2
    have w2 := n2.wf w'
    refine hs i d acc hd' hl p B G2 H2 (wipe σ vs) x w2 ((E1.mono n02).wipe vs) rd _ fun e3 σ3 E3 ks et => ⟨wipe_eq ks.1 ks.2, et B G2 H2 σ3 w2 E3 _ fun b G3 H3 n3 k => ?_⟩
    have hG2 := n2.fr Dl hG (by rw [hH]; simp)
    have hH2 := n2.kp Dl _ hH hn
    have hG3 := n3.fr Dl hG2 (by rw [hH2]; simp)
    have hH3 := n3.kp Dl _ hH2 hn
    have w3 := n3.wf w2
    cases b with
    | false => exact ⟨G3, xs, acc, n02.trans n3, hG3, hH3, (r.mono n2.gg).mono n3.gg, by omega, k.2 rfl⟩
    | true =>
      refine k.1 rfl B G3 H3 σ3 w3 (E3.mono n3) _ fun yv yd G4 H4 n4 ry ⟨kn, ek, kz⟩ => kz B G4 H4 σ3 (n4.wf w3) ((E3.mono n3).mono n4) _ fun zv zd G5 H5 n5 rz kI => ?_
      subst ek
      cases ry
      have hG4 := n4.fr Dl hG3 (by rw [hH3]; simp)
      have hH4 := n4.kp Dl _ hH3 hn
      have hG5 := n5.fr Dl hG4 (by rw [hH4]; simp)
      have hH5 := n5.kp Dl _ hH4 hn
      have n05 := ((n02.trans n3).trans n4).trans n5
      have n6 := n05.mut (o' := .dK (putK xs (Sum.inl kn) zv)) hDl hG5 hn hH5
      have r5 := (((r.mono n2.gg).mono n3.gg).mono n4.gg).mono n5.gg
      exact ⟨xs, Sum.inl kn, rfl, hH5, sz_lt (by rw [r.length]; omega), G5, _, putI acc kn zd, n6, hG5, upd_same, r5.put rz, Nat.le_trans putI_len (by omega), kI⟩
  · have e' : i = ds.length := by omega
    subst e'
    exact .inl ⟨wk.stop G' H' n.gg w', q Dl xs acc G' H' (n1.trans n) hG (by
      cases z : H Dl with
      | none => rfl
      | some o => exact absurd hDl (n1.th Dl (by rw [z]; simp))) hH r (hd acc hl p)⟩
end
end Mv

set_option Elab.async false
set_option linter.all false
set_option maxRecDepth 100000
set_option maxHeartbeats 4000000
namespace Mv
open PySem PySem.Spec PyProof.Rows L2
/-- d = {k: v for ..}, the name taking the dict at once -/
theorem ps_setDc {X : Cx} {i : Nat} {y : Str} {py : Pos} {kx vx tg iter : Expr} {ifs : List Expr} {scope : Scope} {own : List (Str × Nat)} {pos spos : Pos} {wi : TI} {g : TG} {tt : TT} {tk tv : TE} (hc : X.calm = true) (hN : X.N.Nodup) (hi : X.N[i]? = some y) (hl : List.lookup y X.env.scope.names = some .local)
    (hs : swapsWith (.DictComp kx vx [⟨tg, iter, ifs, 0⟩] scope pos) (some (.Name y py)) spos.line X.env = pure true) (hI : PI X tg iter wi) (hB : BlkOk X.N X.env.scope scope own)
    (hG : ∀ (s : Shared) (H : Hp) (C : Addr) (cl : List (Str × Addr)) (fp : List Addr), PG (X.blk s H scope (compEnvC scope cl C X.env) fp) tg g)
    (hT : ∀ (s : Shared) (H : Hp) (C : Addr) (cl : List (Str × Addr)) (fp : List Addr), PTs (X.blk s H scope (compEnvC scope cl C X.env) fp) ifs tt)
    (hK : ∀ (s : Shared) (H : Hp) (C : Addr) (cl : List (Str × Addr)) (fp : List Addr), PE (X.blk s H scope (compEnvC scope cl C X.env) fp) kx tk)
    (hV : ∀ (s : Shared) (H : Hp) (C : Addr) (cl : List (Str × Addr)) (fp : List Addr), PE (X.blk s H scope (compEnvC scope cl C X.env) fp) vx tv)
    (hf : ∀ x : Value, foldedSetIterable iter X.env x = pure x := by intro x; rfl) : PS X (.Assign [.Name y py] (.DictComp kx vx [⟨tg, iter, ifs, 0⟩] scope pos) spos) (tAsg (tDc wi g tt tk tv (own.map fun x => x.2)) (gName i)) := by
  refine ⟨fun pins s σ H D I h => ?_⟩
  rw [PySem.exec_Assign_Name_used _ _ _ _ hs]
  refine wpAny_bind (wpAny_standAt ?_)
  refine wpAny_bind ?_
  unfold PySem.evalThenUse
  refine wpAny_bind (thn (dc_core (use := some (assign (.Name y py) X.env)) (Qf := fun _ s' => ∃ σ' H', L2.Inv X pins σ' H' s' ∧ D.nx σ' H') hc hN I hI hB hG hT hK hV hf h fun Dd C s' m H' I' q hns fC => ?_) fun _ s' hx => ?_)
  · refine wpAny_assign_Name (store_ok2 (v := .ref Dd) I' hN hi (.inl hl) rfl (fun s'' I'' ⟨a, sb, ha⟩ => ⟨m, hns.sameBut sb ?_, fun h' sb2 => ⟨_, H', I''.turned (it := C) (fun b o hb e => (sb2.2 b hb).trans e) fC.1 fC.2.1 fC.2.2.2.1 fC.2.2.2.2.1 fC.2.2.2.2.2, q⟩⟩) (.inr hl))
    rcases ha with rfl | ha
    · exact fC.2.1
    · exact fun z => fC.2.2.2.2.1 _ _ ha z.symm
  · exact wpAny_pure (wpAny_pure hx)
theorem sw_trueD {kx vx : Expr} {gs : List Comprehension} {scope : Scope} {pos py : Pos} {y : Str} {l : Nat} {env : PySem.Env} (h1 : env.scope.kind = .function) (h2 : List.lookup y env.scope.names = some .local) (h3 : (py.line == pos.line) = true)
    (h4 : (scope.names.any fun x => match x with | (n, k) => n == y && (k == NameKind.local || k == NameKind.cell)) = false) : swapsWith (.DictComp kx vx gs scope pos) (some (.Name y py)) l env = pure true :=
  (show swapsWith (.DictComp kx vx gs scope pos) (some (.Name y py)) l env = swapsWith (.ListComp kx gs scope pos) (some (.Name y py)) l env from rfl).trans (sw_true h1 h2 h3 h4)
end Mv

set_option Elab.async false
set_option linter.all false
set_option maxRecDepth 100000
set_option maxHeartbeats 4000000
/-! Dicts whose keys are tuples within tuples: what such a dict is, k in d, d[k], d[k] = v, del d[k] (the hand layer's side). -/
namespace Mv
open PySem PySem.Spec PyProof.Rows L2
mutual
/-- a value that is such a key -/
inductive NkV (K : PySem.W.Frag) (H : Hp) : NestedKey → V → Prop
  | int (i : Int) : NkV K H (.num i) (.int i)
  | text (x : Str) : NkV K H (.text x) (.str x)
  | tup {a : Addr} {vs : List V} {ks : List NestedKey} : SqT K H a vs → NkA K H ks vs → NkV K H (.tup ks) (.ref a)
inductive NkA (K : PySem.W.Frag) (H : Hp) : List NestedKey → List V → Prop
  | nil : NkA K H [] []
  | cons {k : NestedKey} {v : V} {ks : List NestedKey} {vs : List V} : NkV K H k v → NkA K H ks vs → NkA K H (k :: ks) (v :: vs)
end
section
variable {X : Cx} {pins : List (Addr × Obj)} {σ : L2.St} {H : Hp} {s : Shared}
mutual
theorem NkV.is (I : Inv X pins σ H s) : ∀ {k : NestedKey} {v : V} {u : Value}, NkV X.K H k v → RelV v u → NestedIs s.heap k u
  | _, _, _, .int i, r => by
    obtain ⟨t, rfl⟩ := r
    exact .int i t
  | _, _, _, .text x, r => by
    obtain ⟨t, rfl⟩ := r
    exact .text x t
  | _, _, _, .tup hs ha, r => by
    cases r
    obtain ⟨its, rv, p, _⟩ := I.tuple hs
    obtain ⟨o, ho, hc, n, hd⟩ := p
    exact .tup ho hc hd (NkA.is I ha rv)
theorem NkA.is (I : Inv X pins σ H s) : ∀ {ks : List NestedKey} {vs : List V} {us : List Value}, NkA X.K H ks vs → Vals vs us → NestedAll s.heap ks us
  | _, _, _, .nil, r => by cases r; exact .nil
  | _, _, _, .cons h t, r => by
    cases r with
    | cons r1 r2 => exact .cons (NkV.is I h r1) (NkA.is I t r2)
end
end
/-- such a dict: its keys with where they stand, its values -/
def ndO (P : Program) (w : World) (a : Addr) (ks : List (NestedKey × Addr × V)) : HO := .ext fun h => (a == sysModules) = false ∧ ∃ (o : Obj) (es : Array DictEntry) (ep : Nat) (xs : List (NestedKey × Addr × Value)), h.get? a = some o ∧ o.ExactDict ∧ o.data = .dict es ep ∧ es.toList = xs.map (entryOfKey (nestedKind P w)) ∧ (xs.map (·.1)).Nodup ∧
  Paired (fun (p : NestedKey × Addr × V) (q : NestedKey × Addr × Value) => p.1 = q.1 ∧ p.2.1 = q.2.1 ∧ RelV p.2.2 q.2.2) ks xs
theorem ndO_ok {P : Program} {w : World} {H : Hp} {h : Heap} {a : Addr} {ks : List (NestedKey × Addr × V)} {xs : List (NestedKey × Addr × Value)} (hm : (a == sysModules) = false) (hd : h.DictOfH (nestedKind P w) a xs) (r : Paired (fun (p : NestedKey × Addr × V) (q : NestedKey × Addr × Value) => p.1 = q.1 ∧ p.2.1 = q.2.1 ∧ RelV p.2.2 q.2.2) ks xs) : ObjOk P w H h a (ndO P w a ks) := by
  obtain ⟨o, es, ep, h1, h2, h3, h4, _, h5⟩ := hd
  exact ⟨⟨hm, o, es, ep, xs, h1, h2, h3, h4, h5, r⟩, ⟨o, h1⟩, fun g1 g2 ⟨hm', o', es', ep', xs', k1, k⟩ hk => ⟨hm', o', es', ep', xs', hk o' k1, k⟩⟩
/-- all its keys stand where they are told to -/
def NdK (K : PySem.W.Frag) (H : Hp) (ks : List (NestedKey × Addr × V)) : Prop := ∀ e ∈ ks, NkV K H e.1 (.ref e.2.1) ∧ e.1.depth ≤ 8
section
variable {X : Cx} {pins : List (Addr × Obj)} {σ : L2.St} {H : Hp} {s : Shared}
theorem nd_at (I : Inv X pins σ H s) {a : Addr} {ks : List (NestedKey × Addr × V)} (hH : H a = some (ndO X.prog X.w a ks)) (hk : NdK X.K H ks) : (a == sysModules) = false ∧ ∃ xs, s.heap.DictOfH (nestedKind X.prog X.w) a xs ∧ Paired (fun (p : NestedKey × Addr × V) (q : NestedKey × Addr × Value) => p.1 = q.1 ∧ p.2.1 = q.2.1 ∧ RelV p.2.2 q.2.2) ks xs := by
  obtain ⟨⟨hm, o, es, ep, xs, h1, h2, h3, h4, h5, r⟩, _⟩ := I.hok a _ hH
  refine ⟨hm, xs, ⟨o, es, ep, h1, h2, h3, h4, fun x hx => ?_, h5⟩, r⟩
  obtain ⟨j, hj, e⟩ := List.getElem_of_mem hx
  obtain ⟨p, hp, e1, e2, _⟩ := L2.DX.pget r (by rw [List.getElem?_eq_getElem hj, e])
  have hp2 := hk p (List.mem_of_getElem? hp)
  rw [← e1, ← e2]
  exact ⟨hp2.1.is I rfl, hp2.2⟩
/-- what it holds at a key -/
def atN (ks : List (NestedKey × Addr × V)) (k : NestedKey) : Option V := (ks.find? fun x => decide (x.1 = k)).map (·.2.2)
abbrev NdR (ks : List (NestedKey × Addr × V)) (xs : List (NestedKey × Addr × Value)) : Prop := Paired (fun (p : NestedKey × Addr × V) (q : NestedKey × Addr × Value) => p.1 = q.1 ∧ p.2.1 = q.2.1 ∧ RelV p.2.2 q.2.2) ks xs
theorem NdR.at : ∀ {ks : List (NestedKey × Addr × V)} {xs : List (NestedKey × Addr × Value)} (k : NestedKey), NdR ks xs → (∀ v, atN ks k = some v → ∃ p, PySem.atKey xs k = some p ∧ RelV v p.2) ∧ (atN ks k = none → PySem.atKey xs k = none)
  | [], _, k, h => by
    cases h
    exact ⟨fun v h => (by cases h), fun _ => rfl⟩
  | e :: ks, _, k, h => by
    cases h with
    | cons h t =>
      rename_i q xs
      obtain ⟨i1, i2⟩ := NdR.at k t
      obtain ⟨e1, e2, e3⟩ := h
      unfold atN PySem.atKey at *
      rw [List.find?_cons, List.find?_cons, ← e1]
      by_cases z : e.1 = k
      · rw [decide_eq_true z]
        exact ⟨fun v hv => ⟨q.2, rfl, by cases hv; exact e3⟩, fun hv => (by cases hv)⟩
      · rw [decide_eq_false z]
        exact ⟨i1, i2⟩
/-- k in d, k not in d -/
def rInN (P : Program) (w : World) (K : PySem.W.Frag) (neg : Bool) : R2 := fun x y H Q => ∃ (b a : Addr) (ks : List (NestedKey × Addr × V)) (k : NestedKey), x = .ref b ∧ y = .ref a ∧ H a = some (ndO P w a ks) ∧ NdK K H ks ∧ NkV K H k (.ref b) ∧ k.depth ≤ 8 ∧ Q (.bl (if neg then !(atN ks k).isSome else (atN ks k).isSome)) H
theorem NdR.has {ks : List (NestedKey × Addr × V)} {xs : List (NestedKey × Addr × Value)} {k : NestedKey} (r : NdR ks xs) : (PySem.atKey xs k).isSome = (atN ks k).isSome := by
  obtain ⟨h1, h2⟩ := NdR.at k r
  cases h : atN ks k with
  | none => rw [h2 h]; rfl
  | some v => obtain ⟨p, hp, _⟩ := h1 v h; rw [hp]; rfl
theorem op_inN (hu : X.A.units + 9 < cLine) : OpR X (compareOp .In) (rInN X.prog X.w X.K false) := by
  intro pins s σ H x y v u Q I rx ry h
  obtain ⟨b, a, ks, k, rfl, rfl, hH, hk, hn, hd, q⟩ := h
  cases rx
  cases ry
  obtain ⟨hm, xs, hx, r⟩ := nd_at I hH hk
  refine wpAny_in_heap (knd := nestedKind X.prog X.w) (show X.A.units + 1 + 8 < cLine by omega) ⟨hn.is I rfl, hd⟩ hm hx ?_
  rw [NdR.has r]
  exact ⟨.bl _, H, I.tok _, rfl, q⟩
/-- d[k], there -/
def rIxN (P : Program) (w : World) (K : PySem.W.Frag) : R2 := fun x y H Q => ∃ (b a : Addr) (ks : List (NestedKey × Addr × V)) (k : NestedKey) (v : V), x = .ref a ∧ y = .ref b ∧ H a = some (ndO P w a ks) ∧ NdK K H ks ∧ NkV K H k (.ref b) ∧ k.depth ≤ 8 ∧ atN ks k = some v ∧ Q v H
theorem nd_getItem {A : Around} {E : Value → Shared → Prop} {Q : Value → Shared → Prop} (hu : A.units + 9 < cLine) (I : Inv X pins σ H s) {a b : Addr} {ks : List (NestedKey × Addr × V)} {k : NestedKey} {v : V} (hH : H a = some (ndO X.prog X.w a ks)) (hk : NdK X.K H ks) (hn : NkV X.K H k (.ref b)) (hd : k.depth ≤ 8) (hv : atN ks k = some v)
    (h : ∀ u s', Inv X pins σ H s' → RelV v u → Q u s') : wpAny (model X.prog X.w) A (getItem (.ref a) (.ref b)) Q E s := by
  obtain ⟨hm, xs, hx, r⟩ := nd_at I hH hk
  obtain ⟨p, hp, rp⟩ := (NdR.at k r).1 v hv
  exact wpAny_getItem_heap (knd := nestedKind X.prog X.w) (show A.units + 1 + 8 < cLine by omega) ⟨hn.is I rfl, hd⟩ hx hp (h _ _ (I.tok _) rp)
theorem op_notInN (hu : X.A.units + 9 < cLine) : OpR X (compareOp .NotIn) (rInN X.prog X.w X.K true) := by
  intro pins s σ H x y v u Q I rx ry h
  obtain ⟨b, a, ks, k, rfl, rfl, hH, hk, hn, hd, q⟩ := h
  cases rx
  cases ry
  obtain ⟨hm, xs, hx, r⟩ := nd_at I hH hk
  refine notIn_keyed (knd := nestedKind X.prog X.w) (show X.A.units + 1 + 8 < cLine by omega) ⟨hn.is I rfl, hd⟩ hm ⟨xs, hx, rfl⟩ ?_
  rw [valueAt_pairsH, Option.isSome_map, NdR.has r]
  exact ⟨.bl _, H, I.tok _, rfl, q⟩
/-- d[k] = v: a key that is there stays where it stands -/
def putN (ks : List (NestedKey × Addr × V)) (k : NestedKey) (b : Addr) (v : V) : List (NestedKey × Addr × V) := if (atN ks k).isSome then ks.map fun x => if x.1 = k then (x.1, x.2.1, v) else x else ks ++ [(k, b, v)]
theorem NdR.put1 {ks : List (NestedKey × Addr × V)} {xs : List (NestedKey × Addr × Value)} {k : NestedKey} {v : V} {u : Value} (r : NdR ks xs) (rv : RelV v u) : NdR (ks.map fun x => if x.1 = k then (x.1, x.2.1, v) else x) (xs.map (PySem.putAt k u)) := by
  induction r with
  | nil => exact .nil
  | @cons p q ps qs h t ih =>
    obtain ⟨e1, e2, e3⟩ := h
    refine .cons ?_ ih
    unfold PySem.putAt
    by_cases z : p.1 = k
    · have z2 : q.1 = k := e1 ▸ z
      simp only [if_pos z, if_pos z2]
      exact ⟨e1, e2, rv⟩
    · have z2 : ¬ q.1 = k := fun y => z (e1.trans y)
      simp only [if_neg z, if_neg z2]
      exact ⟨e1, e2, e3⟩
theorem NdR.put2 {ks : List (NestedKey × Addr × V)} {xs : List (NestedKey × Addr × Value)} {k : NestedKey} {b : Addr} {v : V} {u : Value} (r : NdR ks xs) (rv : RelV v u) : NdR (ks ++ [(k, b, v)]) (xs ++ [(k, b, u)]) := by
  induction r with
  | nil => exact .cons ⟨rfl, rfl, rv⟩ .nil
  | cons h _ ih => exact .cons h ih
theorem NdR.put {ks : List (NestedKey × Addr × V)} {xs : List (NestedKey × Addr × Value)} {k : NestedKey} {b : Addr} {v : V} {u : Value} (r : NdR ks xs) (rv : RelV v u) : NdR (putN ks k b v) (PySem.storedH xs k b u) := by
  unfold putN PySem.storedH
  rw [NdR.has r]
  split
  · exact NdR.put1 r rv
  · exact NdR.put2 r rv
/-- del d[k] -/
def dropN (ks : List (NestedKey × Addr × V)) (k : NestedKey) : List (NestedKey × Addr × V) := ks.filter fun x => decide (x.1 ≠ k)
theorem NdR.drop {ks : List (NestedKey × Addr × V)} {xs : List (NestedKey × Addr × Value)} {k : NestedKey} (r : NdR ks xs) : NdR (dropN ks k) (PySem.withoutH xs k) := by
  induction r with
  | nil => exact .nil
  | @cons p q ps qs h t ih =>
    unfold dropN PySem.withoutH at *
    rw [List.filter_cons, List.filter_cons, ← h.1]
    by_cases z : p.1 = k
    · rw [if_neg (by simp [z]), if_neg (by simp [z])]; exact ih
    · rw [if_pos (by simp [z]), if_pos (by simp [z])]; exact .cons h ih
theorem nd_len {ks : List (NestedKey × Addr × V)} {xs : List (NestedKey × Addr × Value)} (r : NdR ks xs) : ks.length = xs.length := by
  induction r with
  | nil => rfl
  | cons _ _ ih => rw [List.length_cons, List.length_cons, ih]
theorem nd_setItem {A : Around} {E : Value → Shared → Prop} {Q : Unit → Shared → Prop} (hu : A.units + 9 < cLine) (I : Inv X pins σ H s) {a b : Addr} {ks : List (NestedKey × Addr × V)} {k : NestedKey} {v : V} {u : Value} (hH : H a = some (ndO X.prog X.w a ks)) (hk : NdK X.K H ks) (hn : NkV X.K H k (.ref b)) (hd : k.depth ≤ 8) (rv : RelV v u) (hz : ks.length ≤ sizeLine)
    (h : ∀ s', Inv X pins σ (upd H a (ndO X.prog X.w a (putN ks k b v))) s' → Q () s') : wpAny (model X.prog X.w) A (setItem (.ref a) (.ref b) u) Q E s := by
  obtain ⟨hm, xs, hx, r⟩ := nd_at I hH hk
  refine wpAny_setItem_heap (knd := nestedKind X.prog X.w) (show A.units + 1 + 8 < cLine by omega) ⟨hn.is I rfl, hd⟩ hx (fun h' hx' hs => h _ ?_) (by rw [← nd_len r]; exact hz)
  have hex : ∃ o, h'.get? a = some o := let ⟨o, _, _, e, _⟩ := hx'; ⟨o, e⟩
  exact I.write (t' := s.toks + _) (by rw [hH]; trivial) (.inl rfl) (fun c o hc e => (hs.2 c hc).trans e) hex (ndO_ok hm hx' (NdR.put r rv))
theorem nd_delItem {A : Around} {E : Value → Shared → Prop} {Q : Unit → Shared → Prop} (hu : A.units + 9 < cLine) (I : Inv X pins σ H s) {a b : Addr} {ks : List (NestedKey × Addr × V)} {k : NestedKey} {v : V} (hH : H a = some (ndO X.prog X.w a ks)) (hk : NdK X.K H ks) (hn : NkV X.K H k (.ref b)) (hd : k.depth ≤ 8) (hv : atN ks k = some v) (hz : ks.length ≤ sizeLine)
    (h : ∀ s', Inv X pins σ (upd H a (ndO X.prog X.w a (dropN ks k))) s' → Q () s') : wpAny (model X.prog X.w) A (delItem (.ref a) (.ref b)) Q E s := by
  obtain ⟨hm, xs, hx, r⟩ := nd_at I hH hk
  obtain ⟨p, hp, rp⟩ := (NdR.at k r).1 v hv
  refine wpAny_delItem_heap (knd := nestedKind X.prog X.w) (show A.units + 1 + 8 < cLine by omega) ⟨hn.is I rfl, hd⟩ hm hx hp (fun h' hx' hs => h _ ?_) (by rw [← nd_len r]; exact hz)
  have hex : ∃ o, h'.get? a = some o := let ⟨o, _, _, e, _⟩ := hx'; ⟨o, e⟩
  exact I.write (t' := s.toks + _) (by rw [hH]; trivial) (.inl rfl) (fun c o hc e => (hs.2 c hc).trans e) hex (ndO_ok hm hx' (NdR.drop r))
end
/-! keys and values as data -/
mutual
theorem NkV.mono {K : PySem.W.Frag} {G G' : Hp} (e : Same G G') : ∀ {k : NestedKey} {v : V}, NkV K G k v → NkV K G' k v
  | _, _, .int i => .int i
  | _, _, .text x => .text x
  | _, _, .tup hs ha => .tup (same_t e hs) (NkA.mono e ha)
theorem NkA.mono {K : PySem.W.Frag} {G G' : Hp} (e : Same G G') : ∀ {ks : List NestedKey} {vs : List V}, NkA K G ks vs → NkA K G' ks vs
  | _, _, .nil => .nil
  | _, _, .cons h t => .cons (NkV.mono e h) (NkA.mono e t)
end
inductive NdD (K : PySem.W.Frag) (G : Hp) : List (NestedKey × Addr × V) → List (NestedKey × Dt) → Prop
  | nil : NdD K G [] []
  | cons {k : NestedKey} {b : Addr} {v : V} {d : Dt} {ks : List (NestedKey × Addr × V)} {ds : List (NestedKey × Dt)} : NkV K G k (.ref b) → k.depth ≤ 8 → Dr K G v d → NdD K G ks ds → NdD K G ((k, b, v) :: ks) ((k, d) :: ds)
theorem NdD.mono {K : PySem.W.Frag} {G G' : Hp} (e : Same G G') : ∀ {ks : List (NestedKey × Addr × V)} {ds : List (NestedKey × Dt)}, NdD K G ks ds → NdD K G' ks ds
  | _, _, .nil => .nil
  | _, _, .cons h hd r t => .cons (h.mono e) hd (r.mono e) (NdD.mono e t)
theorem NdD.keys {K : PySem.W.Frag} {G : Hp} : ∀ {ks : List (NestedKey × Addr × V)} {ds : List (NestedKey × Dt)}, NdD K G ks ds → NdK K G ks
  | _, _, .nil => fun e h => (nomatch h)
  | _, _, .cons h hd _ t => fun e he => by
    rcases List.mem_cons.mp he with rfl | he
    · exact ⟨h, hd⟩
    · exact NdD.keys t e he
theorem NdD.len {K : PySem.W.Frag} {G : Hp} : ∀ {ks : List (NestedKey × Addr × V)} {ds : List (NestedKey × Dt)}, NdD K G ks ds → ks.length = ds.length
  | _, _, .nil => rfl
  | _, _, .cons _ _ _ t => by rw [List.length_cons, List.length_cons, NdD.len t]
/-- the same over data -/
def atQ (ds : List (NestedKey × Dt)) (k : NestedKey) : Option Dt := (ds.find? fun x => decide (x.1 = k)).map (·.2)
def putQN (ds : List (NestedKey × Dt)) (k : NestedKey) (d : Dt) : List (NestedKey × Dt) := if (atQ ds k).isSome then ds.map fun x => if x.1 = k then (x.1, d) else x else ds ++ [(k, d)]
def dropQ (ds : List (NestedKey × Dt)) (k : NestedKey) : List (NestedKey × Dt) := ds.filter fun x => decide (x.1 ≠ k)
theorem NdD.at {K : PySem.W.Frag} {G : Hp} (k : NestedKey) : ∀ {ks : List (NestedKey × Addr × V)} {ds : List (NestedKey × Dt)}, NdD K G ks ds → (∀ d, atQ ds k = some d → ∃ v, atN ks k = some v ∧ Dr K G v d) ∧ (atQ ds k = none → atN ks k = none)
  | _, _, .nil => ⟨fun d h => (by cases h), fun _ => rfl⟩
  | _, _, .cons (k := k') (v := v) h hd r t => by
    obtain ⟨i1, i2⟩ := NdD.at k t
    unfold atQ atN at *
    rw [List.find?_cons, List.find?_cons]
    by_cases z : k' = k
    · simp only [z, decide_true]
      exact ⟨fun d hd => ⟨v, rfl, by cases hd; exact r⟩, fun hd => (by cases hd)⟩
    · simp only [z, decide_false]
      exact ⟨i1, i2⟩
theorem NdD.has {K : PySem.W.Frag} {G : Hp} {k : NestedKey} {ks : List (NestedKey × Addr × V)} {ds : List (NestedKey × Dt)} (h : NdD K G ks ds) : (atN ks k).isSome = (atQ ds k).isSome := by
  obtain ⟨h1, h2⟩ := h.at k
  cases q : atQ ds k with
  | none => rw [h2 q]; rfl
  | some d => obtain ⟨v, e, _⟩ := h1 d q; rw [e]; rfl
theorem NdD.put1 {K : PySem.W.Frag} {G : Hp} {k : NestedKey} {v : V} {d : Dt} (r : Dr K G v d) : ∀ {ks : List (NestedKey × Addr × V)} {ds : List (NestedKey × Dt)}, NdD K G ks ds → NdD K G (ks.map fun x => if x.1 = k then (x.1, x.2.1, v) else x) (ds.map fun x => if x.1 = k then (x.1, d) else x)
  | _, _, .nil => .nil
  | _, _, .cons (k := k') h hd r' t => by
    rw [List.map_cons, List.map_cons]
    by_cases z : k' = k
    · simp only [if_pos z]
      exact .cons h hd r (NdD.put1 r t)
    · simp only [if_neg z]
      exact .cons h hd r' (NdD.put1 r t)
theorem NdD.put2 {K : PySem.W.Frag} {G : Hp} {k : NestedKey} {b : Addr} {v : V} {d : Dt} (hk : NkV K G k (.ref b)) (h8 : k.depth ≤ 8) (r : Dr K G v d) : ∀ {ks : List (NestedKey × Addr × V)} {ds : List (NestedKey × Dt)}, NdD K G ks ds → NdD K G (ks ++ [(k, b, v)]) (ds ++ [(k, d)])
  | _, _, .nil => .cons hk h8 r .nil
  | _, _, .cons h hd r' t => .cons h hd r' (NdD.put2 hk h8 r t)
theorem NdD.put {K : PySem.W.Frag} {G : Hp} {k : NestedKey} {b : Addr} {v : V} {d : Dt} (hk : NkV K G k (.ref b)) (h8 : k.depth ≤ 8) (r : Dr K G v d) {ks : List (NestedKey × Addr × V)} {ds : List (NestedKey × Dt)} (h : NdD K G ks ds) : NdD K G (putN ks k b v) (putQN ds k d) := by
  unfold putN putQN
  rw [h.has]
  split
  · exact NdD.put1 r h
  · exact NdD.put2 hk h8 r h
theorem NdD.drop {K : PySem.W.Frag} {G : Hp} {k : NestedKey} : ∀ {ks : List (NestedKey × Addr × V)} {ds : List (NestedKey × Dt)}, NdD K G ks ds → NdD K G (dropN ks k) (dropQ ds k)
  | _, _, .nil => .nil
  | _, _, .cons (k := k') h hd r t => by
    have ih := NdD.drop (k := k) t
    unfold dropN dropQ at *
    rw [List.filter_cons, List.filter_cons]
    by_cases z : k' = k
    · rw [if_neg (by simp [z]), if_neg (by simp [z])]; exact ih
    · rw [if_pos (by simp [z]), if_pos (by simp [z])]; exact .cons h hd r ih
end Mv

set_option Elab.async false
set_option linter.all false
set_option maxRecDepth 100000
set_option maxHeartbeats 4000000
/-! Objects that a def changes for its caller: their addresses and what they hold. -/
namespace Mv
open PySem PySem.Spec PyProof.Rows L2

inductive OB where
  | lst (xs : List Dt) | dic (kvs : List (Key × Dt)) | dit (kvs : List (List Key × Dt)) | ins (C : Addr) (fs : List (Str × Dt)) | dn (P : Program) (w : World) (kvs : List (NestedKey × Dt)) | rng (lo hi : Int)
inductive Dq (K : PySem.W.Frag) (G : Hp) {κ : Type} : List (κ × V) → List (κ × Dt) → Prop
  | nil : Dq K G [] []
  | cons {k : κ} {v : V} {vs : List (κ × V)} {d : Dt} {ds : List (κ × Dt)} : Dr K G v d → Dq K G vs ds → Dq K G ((k, v) :: vs) ((k, d) :: ds)
theorem Dq.mono {K : PySem.W.Frag} {G G' : Hp} {κ : Type} (e : Same G G') : ∀ {vs : List (κ × V)} {ds : List (κ × Dt)}, Dq K G vs ds → Dq K G' vs ds
  | _, _, .nil => .nil
  | _, _, .cons r t => .cons (r.mono e) (Dq.mono e t)
inductive OR (K : PySem.W.Frag) (G : Hp) : HO → OB → Prop
  | lst {vs : List V} {ds : List Dt} : Da K G vs ds → OR K G (.lst vs) (.lst ds)
  | dic {vs : List (Key × V)} {ds : List (Key × Dt)} : Dq K G vs ds → OR K G (.dK vs) (.dic ds)
  | dit {vs : List (List Key × V)} {ds : List (List Key × Dt)} : Dq K G vs ds → OR K G (.dT vs) (.dit ds)
  | ins {C dx : Addr} {vs : List (Str × V)} {fs : List (Str × Dt)} : Df K G vs fs → OR K G (.ins C dx vs) (.ins C fs)
  | dn {P : Program} {w : World} {a : Addr} {ks : List (NestedKey × Addr × V)} {ds : List (NestedKey × Dt)} : NdD K G ks ds → OR K G (ndO P w a ks) (.dn P w ds)
  | rng {lo hi : Int} : OR K G (.rng lo hi) (.rng lo hi)
theorem OR.mono {K : PySem.W.Frag} {G G' : Hp} (e : Same G G') {ho : HO} {ob : OB} (h : OR K G ho ob) : OR K G' ho ob := by
  cases h with
  | lst r => exact .lst (r.mono e)
  | dic r => exact .dic (r.mono e)
  | dit r => exact .dit (r.mono e)
  | ins r => exact .ins (r.mono e)
  | dn r => exact .dn (r.mono e)
  | rng => exact .rng
abbrev Mm := Addr → Option OB
abbrev Mh := Addr → Option HO
def updM (M : Mm) (a : Addr) (o : OB) : Mm := fun b => if b = a then some o else M b
theorem updM_same {M : Mm} {a : Addr} {o : OB} : updM M a o a = some o := if_pos rfl
theorem updM_ne {M : Mm} {a b : Addr} {o : OB} (h : b ≠ a) : updM M a o b = M b := if_neg h
theorem updM_updM {M : Mm} {a : Addr} {o u : OB} : updM (updM M a o) a u = updM M a u := by
  funext b; unfold updM; split <;> rfl
def RM (K : PySem.W.Frag) (G : Hp) (M : Mm) (MV : Mh) : Prop := ∀ a, (∀ ob, M a = some ob → ∃ ho, MV a = some ho ∧ OR K G ho ob) ∧ (M a = none → MV a = none)
/-- J and the objects told by M -/
def Jt (K : PySem.W.Frag) (J : Jm) (MV : Mh) (M : Mm) : Jm where
  ms := fun b => b ∈ J.ms ∨ MV b ≠ none
  ok := fun H => J.ok H ∧ (∀ a, MV a ≠ none → a ∉ J.ms) ∧ ∀ a o, MV a = some o → H a = some o
  st := fun H H' ⟨a, b, c⟩ k => ⟨J.st H H' a fun x hx => k x (.inl hx), b, fun x o e => by rw [k x (.inr (by rw [e]; simp))]; exact c x o e⟩
  hd := J.hd
  hm := fun k e => .inl (J.hm k e)
  hg := fun k H e o => J.hg k H e o.1
  hp := fun k H H' e ⟨a, b, c⟩ o' q => ⟨J.hp k H H' e a o' fun x hx hn => q x (.inl hx) hn, b, fun x o ex => by
    have hx : MV x ≠ none := by rw [ex]; simp
    rw [q x (.inr hx) fun z => b x hx (by rw [z]; exact J.hm k e)]; exact c x o ex⟩
  tr := fun G => J.tr G ∧ RM K G M MV
  trm := fun G G' e ⟨a, b⟩ => ⟨J.trm G G' e a, fun x => ⟨fun ob h => let ⟨ho, h1, h2⟩ := (b x).1 ob h; ⟨ho, h1, h2.mono e⟩, (b x).2⟩⟩
section
variable {K : PySem.W.Frag} {J : Jm} {MV MV' MV2 MV0 : Mh} {M M' M2 : Mm} {G H G' H' G2 H2 GB B : Hp} {σ σ' : L2.St} {env : List Sl}
theorem Wf.at_ (w : Wf (Jt K J MV M) G H) {a : Addr} {ob : OB} (h : M a = some ob) : ∃ ho, MV a = some ho ∧ H a = some ho ∧ OR K G ho ob := by
  obtain ⟨ho, h1, h2⟩ := (w.tr.2 a).1 ob h
  exact ⟨ho, h1, w.ok.2.2 a ho h1, h2⟩
theorem Wf.lstM (w : Wf (Jt K J MV M) G H) {a : Addr} {ds : List Dt} (h : M a = some (.lst ds)) : ∃ vs, MV a = some (.lst vs) ∧ H a = some (.lst vs) ∧ Da K G vs ds := by
  obtain ⟨ho, h1, h2, h3⟩ := w.at_ h
  cases h3 with
  | lst r => exact ⟨_, h1, h2, r⟩
theorem Wf.insM (w : Wf (Jt K J MV M) G H) {a C : Addr} {fs : List (Str × Dt)} (h : M a = some (.ins C fs)) : ∃ dx vs, MV a = some (.ins C dx vs) ∧ H a = some (.ins C dx vs) ∧ Df K G vs fs := by
  obtain ⟨ho, h1, h2, h3⟩ := w.at_ h
  cases h3 with
  | ins r => exact ⟨_, _, h1, h2, r⟩
theorem Wf.dicM (w : Wf (Jt K J MV M) G H) {a : Addr} {ds : List (Key × Dt)} (h : M a = some (.dic ds)) : ∃ vs, MV a = some (.dK vs) ∧ H a = some (.dK vs) ∧ Dq K G vs ds := by
  obtain ⟨ho, h1, h2, h3⟩ := w.at_ h
  cases h3 with
  | dic r => exact ⟨_, h1, h2, r⟩
theorem Wf.ditM (w : Wf (Jt K J MV M) G H) {a : Addr} {ds : List (List Key × Dt)} (h : M a = some (.dit ds)) : ∃ vs, MV a = some (.dT vs) ∧ H a = some (.dT vs) ∧ Dq K G vs ds := by
  obtain ⟨ho, h1, h2, h3⟩ := w.at_ h
  cases h3 with
  | dit r => exact ⟨_, h1, h2, r⟩
/-- behind a piece of code that changes the objects -/
structure NxM (J : Jm) (MV : Mh) (G H : Hp) (MV' : Mh) (G' H' : Hp) : Prop where
  gg : Same G G'
  fr : ∀ b, G b = none → H b ≠ none → G' b = none
  kp : ∀ b o, H b = some o → b ∉ J.ms → MV b = none → H' b = some o
  th : ∀ b, H b ≠ none → H' b ≠ none
  dm : ∀ b, MV' b ≠ none → MV b ≠ none ∨ H b = none
  dk : ∀ b, MV b ≠ none → MV' b ≠ none
theorem NxM.of (n : Nx (Jt K J MV M) G H G' H') : NxM J MV G H MV G' H' :=
  ⟨n.gg, n.fr, fun b o e h1 h2 => n.kp b o e fun z => z.elim h1 fun z => z h2, n.th, fun b h => .inl h, fun b h => h⟩
theorem NxM.refl : NxM J MV G H MV G H := ⟨Same.refl _, fun b h _ => h, fun b o e _ _ => e, fun b h => h, fun b h => .inl h, fun b h => h⟩
theorem NxM.trans (a : NxM J MV G H MV' G' H') (b : NxM J MV' G' H' MV2 G2 H2) : NxM J MV G H MV2 G2 H2 := by
  refine ⟨a.gg.trans b.gg, fun x h1 h2 => b.fr x (a.fr x h1 h2) (a.th x h2), fun x o e h1 h2 => b.kp x o (a.kp x o e h1 h2) h1 ?_, fun x h => b.th x (a.th x h), fun x h => ?_, fun x h => b.dk x (a.dk x h)⟩
  · cases z : MV' x with
    | none => rfl
    | some o' =>
      rcases a.dm x (by rw [z]; simp) with h | h
      · exact absurd h2 h
      · rw [e] at h; cases h
  · rcases b.dm x h with h | h
    · exact a.dm x h
    · refine .inr ?_
      cases z : H x with
      | none => rfl
      | some o' => exact absurd h (a.th x (by rw [z]; simp))
theorem NxM.none (n : NxM J MV G H MV' G' H') {p : Addr} {o : HO} (hp : H p = some o) (hm : MV p = none) : MV' p = none := by
  cases z : MV' p with
  | none => rfl
  | some o' =>
    rcases n.dm p (by rw [z]; simp) with h | h
    · exact absurd hm h
    · rw [hp] at h; cases h
theorem not_jt {p : Addr} : p ∉ (Jt K J MV M).ms ↔ p ∉ J.ms ∧ MV p = none := by
  refine ⟨fun h => ⟨fun z => h (.inl z), ?_⟩, fun h z => z.elim h.1 fun z => z h.2⟩
  cases z : MV p with
  | none => rfl
  | some o => exact absurd (show p ∈ (Jt K J MV M).ms from .inr (by rw [z]; simp)) h
theorem SlOk.monoM {ov : Option V} {s : Sl} (n : NxM J MV G H MV' G' H') (h : SlOk K (Jt K J MV M) B G H ov s) : SlOk K (Jt K J MV' M') B G' H' ov s := by
  have key : ∀ p o, H p = some o → p ∉ (Jt K J MV M).ms → G p = none → p ∉ (Jt K J MV' M').ms ∧ G' p = none ∧ H' p = some o := fun p o e hm hG => by
    obtain ⟨h1, h2⟩ := not_jt.mp hm
    exact ⟨not_jt.mpr ⟨h1, n.none e h2⟩, n.fr p hG (by rw [e]; simp), n.kp p o e h1 h2⟩
  cases s with
  | no => trivial
  | d x => obtain ⟨v, e, r⟩ := h; exact ⟨v, e, r.mono n.gg⟩
  | ml xs => obtain ⟨p, vs, e, hB, hG, hm, hH, r⟩ := h; obtain ⟨k1, k2, k3⟩ := key p _ hH hm hG; exact ⟨p, vs, e, hB, k2, k1, k3, r.mono n.gg⟩
  | hand => exact h
  | hnd => exact h
  | tap => exact h
  | xv a d fs => obtain ⟨e, vs, g, r⟩ := h; exact ⟨e, vs, n.gg _ _ g, r.mono n.gg⟩
  | mi p C fs => obtain ⟨dx, vs, e, hB, hG, hm, hH, r⟩ := h; obtain ⟨k1, k2, k3⟩ := key p _ hH hm hG; exact ⟨dx, vs, e, hB, k2, k1, k3, r.mono n.gg⟩
  | md kvs => obtain ⟨p, vs, e, hB, hG, hm, hH, r⟩ := h; obtain ⟨k1, k2, k3⟩ := key p _ hH hm hG; exact ⟨p, vs, e, hB, k2, k1, k3, r.mono n.gg⟩
theorem En.monoM (E : En K (Jt K J MV M) B G H σ env) (n : NxM J MV G H MV' G' H') : En K (Jt K J MV' M') B G' H' σ env :=
  ⟨E.len, fun i s h => let ⟨ov, a, b⟩ := E.ok i s h; ⟨ov, a, b.monoM n⟩, E.ap⟩
structure AtM (K : PySem.W.Frag) (J : Jm) (MV0 : Mh) (GB B : Hp) (MV : Mh) (M : Mm) (G H : Hp) (σ : L2.St) (env : List Sl) : Prop where
  wf : Wf (Jt K J MV M) G H
  nx : NxM J MV0 GB B MV G H
  en : En K (Jt K J MV M) B G H σ env
theorem AtM.then (a : AtM K J MV0 GB B MV M G H σ env) (n : Nx (Jt K J MV M) G H G' H') : AtM K J MV0 GB B MV M G' H' σ env :=
  ⟨n.wf a.wf, a.nx.trans (.of n), a.en.mono n⟩
theorem AtM.thenM (a : AtM K J MV0 GB B MV M G H σ env) (n : NxM J MV G H MV' G' H') (w : Wf (Jt K J MV' M') G' H') : AtM K J MV0 GB B MV' M' G' H' σ env :=
  ⟨w, a.nx.trans n, a.en.monoM n⟩
/-- a fresh place is fresh since the entry -/
theorem AtM.freshB (a : AtM K J MV0 GB B MV M G H σ env) {p : Addr} (h : H p = none) : B p = none := by
  cases z : B p with
  | none => rfl
  | some o => exact absurd h (a.nx.th p (by rw [z]; simp))
end
structure DM where
  nx : Mm → List Sl → Prop
  rt : Dt → Mm → Prop
  bk : Mm → List Sl → Prop := fun _ _ => False
  ct : Mm → List Sl → Prop := fun _ _ => False
  xw : WX := fun _ _ _ _ => False
  xc : Addr → List (Str × Dt) → Mm → List Sl → Prop := fun _ _ _ _ => False
section
variable (K : PySem.W.Frag) (J : Jm)
def XOkM (MV0 : Mh) (GB B : Hp) (D : DM) : Prop := ∀ (C d : Addr) (vs : List (Str × V)) (fs : List (Str × Dt)) (env' : List Sl) (MV' : Mh) (M' : Mm) (G' H' : Hp) (σ' : L2.St),
  AtM K J MV0 GB B MV' M' G' H' σ' env' → G' d = some (.xd vs) → Df K G' vs fs → D.xc C fs M' env' → D.xw (.ref C) (some d) σ' H'
structure Rts (MV0 : Mh) (GB B : Hp) (D : DM) (E : Ends) : Prop where
  nx : ∀ M' MV' env' G' H' σ', AtM K J MV0 GB B MV' M' G' H' σ' env' → D.nx M' env' → E.nx σ' H'
  bk : ∀ M' MV' env' G' H' σ', AtM K J MV0 GB B MV' M' G' H' σ' env' → D.bk M' env' → E.bk σ' H'
  ct : ∀ M' MV' env' G' H' σ', AtM K J MV0 GB B MV' M' G' H' σ' env' → D.ct M' env' → E.ct σ' H'
  rt : ∀ v d M' MV' G' H', NxM J MV0 GB B MV' G' H' → Wf (Jt K J MV' M') G' H' → Dr K G' v d → D.rt d M' → E.rt v H'
  x : XOkM K J MV0 GB B D
def SvM (M : Mm) (env : List Sl) (ts : TS) (D : DM) : Prop := ∀ (MV0 MV : Mh) (GB B G H : Hp) (σ : L2.St), AtM K J MV0 GB B MV M G H σ env → ∀ E : Ends, Rts K J MV0 GB B D E → ts E σ H
def EvM (M : Mm) (env : List Sl) (D : DM) (te : TE) (R : Dt → Mm → Prop) : Prop := ∀ (MV0 MV : Mh) (GB B G H : Hp) (σ : L2.St), AtM K J MV0 GB B MV M G H σ env → XOkM K J MV0 GB B D → ∀ Q : VK,
  (∀ v d M' MV' G' H', NxM J MV G H MV' G' H' → AtM K J MV0 GB B MV' M' G' H' σ env → Dr K G' v d → R d M' → Q v H') → te σ H Q
def EtM (M : Mm) (env : List Sl) (D : DM) (tt : TT) (R : Bool → Mm → Prop) : Prop := ∀ (MV0 MV : Mh) (GB B G H : Hp) (σ : L2.St), AtM K J MV0 GB B MV M G H σ env → XOkM K J MV0 GB B D → ∀ Q : Bool → Hp → Prop,
  (∀ b M' MV' G' H', NxM J MV G H MV' G' H' → AtM K J MV0 GB B MV' M' G' H' σ env → R b M' → Q b H') → tt σ H Q
def EdM (M : Mm) (env : List Sl) (D : DM) (ta : TA) (R : List Dt → Mm → Prop) : Prop := ∀ (MV0 MV : Mh) (GB B G H : Hp) (σ : L2.St), AtM K J MV0 GB B MV M G H σ env → XOkM K J MV0 GB B D → ∀ Q : List V → Hp → Prop,
  (∀ vs ds M' MV' G' H', NxM J MV G H MV' G' H' → AtM K J MV0 GB B MV' M' G' H' σ env → Da K G' vs ds → R ds M' → Q vs H') → ta σ H Q
def EaM (M : Mm) (env : List Sl) (D : DM) (ta : TA) (R : List Sl → Mm → Prop) : Prop := ∀ (MV0 MV : Mh) (GB B G H : Hp) (σ : L2.St), AtM K J MV0 GB B MV M G H σ env → XOkM K J MV0 GB B D → ∀ Q : List V → Hp → Prop,
  (∀ vs ss M' MV' G' H', NxM J MV G H MV' G' H' → AtM K J MV0 GB B MV' M' G' H' σ env → SvA K (Jt K J MV' M') G' vs ss → R ss M' → Q vs H') → ta σ H Q
end
section
variable {K : PySem.W.Frag} {J : Jm} {M : Mm} {env : List Sl} {D : DM} {ta tb te : TE} {tt tu : TT} {tr : TA} {ts tv : TS}
theorem evm {R : Dt → Mm → Prop} (h : ∀ MV, Ev K (Jt K J MV M) env te fun d => R d M) : EvM K J M env D te R := fun MV0 MV GB B G H σ a x Q q =>
  h MV B G H σ a.wf a.en Q fun v d G' H' n r k => q v d M MV G' H' (.of n) (a.then n) r k
theorem etm {R : Bool → Mm → Prop} (h : ∀ MV, Et K (Jt K J MV M) env tt fun d => R d M) : EtM K J M env D tt R := fun MV0 MV GB B G H σ a x Q q =>
  h MV B G H σ a.wf a.en Q fun b G' H' n k => q b M MV G' H' (.of n) (a.then n) k
theorem edm {R : List Dt → Mm → Prop} (h : ∀ MV, Ed K (Jt K J MV M) env tr fun d => R d M) : EdM K J M env D tr R := fun MV0 MV GB B G H σ a x Q q =>
  h MV B G H σ a.wf a.en Q fun vs ds G' H' n r k => q vs ds M MV G' H' (.of n) (a.then n) r k
theorem eam {R : List Sl → Mm → Prop} (h : ∀ MV, Ea K (Jt K J MV M) env tr fun d => R d M) : EaM K J M env D tr R := fun MV0 MV GB B G H σ a x Q q =>
  h MV B G H σ a.wf a.en Q fun vs ds G' H' n r k => q vs ds M MV G' H' (.of n) (a.then n) r k
theorem EvM.imp {R R' : Dt → Mm → Prop} (h : EvM K J M env D te R) (k : ∀ d M', R d M' → R' d M') : EvM K J M env D te R' := fun MV0 MV GB B G H σ a x Q q =>
  h MV0 MV GB B G H σ a x Q fun v d M' MV' G' H' sg a' r y => q v d M' MV' G' H' sg a' r (k d M' y)
theorem etm_test {R : Bool → Mm → Prop} (h : EvM K J M env D te fun d M' => ∃ b, d = .bl b ∧ R b M') : EtM K J M env D (tTest te) R := fun MV0 MV GB B G H σ a x Q q =>
  h MV0 MV GB B G H σ a x _ fun v d M' MV' G' H' sg a' r ⟨b, e, k⟩ => by
    subst e; cases r
    exact ⟨b, rfl, q b M' MV' G' H' sg a' k⟩
theorem etm_B {R : Bool → Mm → Prop} (h : EvM K J M env D te fun d M' => ∃ b, d = .bl b ∧ R b M') : EtM K J M env D (tB te) R := fun MV0 MV GB B G H σ a x Q q =>
  h MV0 MV GB B G H σ a x _ fun v d M' MV' G' H' sg a' r ⟨b, e, k⟩ => by
    subst e; cases r
    exact ⟨b, rfl, q b M' MV' G' H' sg a' k⟩
theorem etm_not {R : Bool → Mm → Prop} (h : EtM K J M env D tt fun b M' => R (!b) M') : EtM K J M env D (tNot tt) R := fun MV0 MV GB B G H σ a x Q q =>
  h MV0 MV GB B G H σ a x _ fun b M' MV' G' H' sg a' k => q (!b) M' MV' G' H' sg a' k
theorem etm_and {R : Bool → Mm → Prop} (h : EtM K J M env D tt fun b M' => (b = true → EtM K J M' env D tu R) ∧ (b = false → R false M')) : EtM K J M env D (tAnd tt tu) R := fun MV0 MV GB B G H σ a x Q q =>
  h MV0 MV GB B G H σ a x _ fun b M' MV' G' H' sg a' k => by
    cases b with
    | true => exact k.1 rfl MV0 MV' GB B G' H' σ a' x Q (fun _ _ _ _ _ s2 => q _ _ _ _ _ (sg.trans s2))
    | false => exact q false M' MV' G' H' sg a' (k.2 rfl)
theorem etm_or {R : Bool → Mm → Prop} (h : EtM K J M env D tt fun b M' => (b = true → R true M') ∧ (b = false → EtM K J M' env D tu R)) : EtM K J M env D (tOr tt tu) R := fun MV0 MV GB B G H σ a x Q q =>
  h MV0 MV GB B G H σ a x _ fun b M' MV' G' H' sg a' k => by
    cases b with
    | true => exact q true M' MV' G' H' sg a' (k.1 rfl)
    | false => exact k.2 rfl MV0 MV' GB B G' H' σ a' x Q (fun _ _ _ _ _ s2 => q _ _ _ _ _ (sg.trans s2))
theorem evm_not {R : Dt → Mm → Prop} (h : EvM K J M env D te fun d M' => ∃ b, d = .bl b ∧ R (.bl (!b)) M') : EvM K J M env D (tNotV te) R := fun MV0 MV GB B G H σ a x Q q =>
  h MV0 MV GB B G H σ a x _ fun v d M' MV' G' H' sg a' r ⟨b, e, k⟩ => by
    subst e; cases r
    exact ⟨b, rfl, q _ _ M' MV' G' H' sg a' (.bl _) k⟩
theorem evm_and {R : Dt → Mm → Prop} (h : EvM K J M env D ta fun d M' => ∃ b, d = .bl b ∧ (b = true → EvM K J M' env D tb R) ∧ (b = false → R (.bl false) M')) : EvM K J M env D (tAndV ta tb) R := fun MV0 MV GB B G H σ a x Q q =>
  h MV0 MV GB B G H σ a x _ fun v d M' MV' G' H' sg a' r ⟨b, e, k1, k2⟩ => by
    subst e; cases r
    refine ⟨b, rfl, ?_⟩
    cases b with
    | true => exact k1 rfl MV0 MV' GB B G' H' σ a' x Q (fun _ _ _ _ _ _ s2 => q _ _ _ _ _ _ (sg.trans s2))
    | false => exact q _ _ M' MV' G' H' sg a' (.bl false) (k2 rfl)
theorem evm_or {R : Dt → Mm → Prop} (h : EvM K J M env D ta fun d M' => ∃ b, d = .bl b ∧ (b = true → R (.bl true) M') ∧ (b = false → EvM K J M' env D tb R)) : EvM K J M env D (tOrV ta tb) R := fun MV0 MV GB B G H σ a x Q q =>
  h MV0 MV GB B G H σ a x _ fun v d M' MV' G' H' sg a' r ⟨b, e, k1, k2⟩ => by
    subst e; cases r
    refine ⟨b, rfl, ?_⟩
    cases b with
    | true => exact q _ _ M' MV' G' H' sg a' (.bl true) (k1 rfl)
    | false => exact k2 rfl MV0 MV' GB B G' H' σ a' x Q (fun _ _ _ _ _ _ s2 => q _ _ _ _ _ _ (sg.trans s2))
theorem evm_if {R : Dt → Mm → Prop} (h : EtM K J M env D tt fun b M' => (b = true → EvM K J M' env D ta R) ∧ (b = false → EvM K J M' env D tb R)) : EvM K J M env D (tIf tt ta tb) R := fun MV0 MV GB B G H σ a x Q q =>
  h MV0 MV GB B G H σ a x _ fun b M' MV' G' H' sg a' k => by
    cases b with
    | true => exact k.1 rfl MV0 MV' GB B G' H' σ a' x Q (fun _ _ _ _ _ _ s2 => q _ _ _ _ _ _ (sg.trans s2))
    | false => exact k.2 rfl MV0 MV' GB B G' H' σ a' x Q (fun _ _ _ _ _ _ s2 => q _ _ _ _ _ _ (sg.trans s2))
/-- an operation's first part changes things or raises; the second doesn't -/
theorem evm_op {r : R2} {R : Dt → Mm → Prop} (h : EvM K J M env D ta fun x M' => EvM K J M' env D tb fun y M2 => ∀ MV, O2 K (Jt K J MV M2) r x y fun d => R d M2) : EvM K J M env D (tOp r ta tb) R := fun MV0 MV GB B G H σ a x Q q =>
  h MV0 MV GB B G H σ a x _ fun v d M' MV' G' H' sg a' rd k => by
    refine k MV0 MV' GB B G' H' σ a' x (fun y H2 => r v y H2 Q) fun v2 d2 M2 MV2 G2 H2 s2 a2 rd2 o => ?_
    exact o MV2 G2 H2 v v2 a2.wf (rd.mono s2.gg) rd2 Q fun v3 d3 G3 H3 n3 r3 k3 => q v3 d3 M2 MV2 G3 H3 (sg.trans (s2.trans (.of n3))) (a2.then n3) r3 k3
end
end Mv

set_option Elab.async false
set_option linter.all false
set_option maxRecDepth 100000
set_option maxHeartbeats 4000000
namespace Mv
open PySem PySem.Spec PyProof.Rows L2
section
variable {K : PySem.W.Frag} {J : Jm} {M : Mm} {env : List Sl} {D : DM} {ta tb te ti : TE} {tt tu : TT} {tr : TA} {ts tv : TS} {MV0 : Mh} {GB B : Hp}
theorem AtM.rebase {MV : Mh} {G H : Hp} {σ : L2.St} (a : AtM K J MV0 GB B MV M G H σ env) : AtM K J MV0 G B MV M G H σ env :=
  ⟨a.wf, ⟨Same.refl _, fun b h _ => h, a.nx.kp, a.nx.th, a.nx.dm, a.nx.dk⟩, a.en⟩
theorem NxM.back {MV MV1 : Mh} {G H G1 H1 : Hp} (n : NxM J MV0 GB B MV G H) (m : NxM J MV0 G B MV1 G1 H1) : NxM J MV0 GB B MV1 G1 H1 :=
  ⟨n.gg.trans m.gg, fun b h1 h2 => m.fr b (n.fr b h1 h2) h2, m.kp, m.th, m.dm, m.dk⟩
theorem AtM.back {MV MV1 : Mh} {M1 : Mm} {G H G1 H1 : Hp} {σ : L2.St} {env1 : List Sl} (n : NxM J MV0 GB B MV G H) (a : AtM K J MV0 G B MV1 M1 G1 H1 σ env1) : AtM K J MV0 GB B MV1 M1 G1 H1 σ env1 := ⟨a.wf, n.back a.nx, a.en⟩
/-- as plain state -/
theorem AtM.at_ {MV : Mh} {G H : Hp} {σ : L2.St} (a : AtM K J MV0 GB B MV M G H σ env) : At K (Jt K J MV M) G B G H σ env :=
  ⟨a.wf, ⟨Same.refl _, a.wf.gh, fun b h _ => h, fun b o e hb => by
    obtain ⟨h1, h2⟩ := not_jt.mp hb
    refine a.nx.kp b o e h1 ?_
    cases z : MV0 b with
    | none => rfl
    | some o' => exact absurd h2 (a.nx.dk b (by rw [z]; simp)), a.nx.th, a.wf.ok⟩, a.en⟩
theorem nx_up {MV : Mh} {G H G' H' : Hp} (n : NxM J MV0 GB B MV G H) (m : Nx (Jt K J MV M) G B G' H') : NxM J MV0 GB B MV G' H' :=
  ⟨n.gg.trans m.gg, fun b h1 h2 => m.fr b (n.fr b h1 h2) h2, fun b o e h1 h2 => m.kp b o e (not_jt.mpr ⟨h1, by
    cases z : MV b with
    | none => rfl
    | some o' =>
      rcases n.dm b (by rw [z]; simp) with h | h
      · exact absurd h2 h
      · rw [e] at h; cases h⟩), m.th, n.dm, n.dk⟩
theorem At.up {MV : Mh} {G H G' H' : Hp} {σ : L2.St} {env' : List Sl} (n : NxM J MV0 GB B MV G H) (a : At K (Jt K J MV M) G B G' H' σ env') : AtM K J MV0 GB B MV M G' H' σ env' :=
  ⟨a.wf, nx_up n a.nx, a.en⟩
/-- a statement that leaves the objects alone -/
theorem sm_of (h : ∀ MV, Sv K (Jt K J MV M) env ts { nx := D.nx M, rt := fun _ => False, bk := D.bk M, ct := D.ct M, xw := D.xw, xc := fun C fs e => D.xc C fs M e }) : SvM K J M env ts D := fun MV0 MV GB B G H σ a E r =>
  h MV G B G H σ a.at_ E (fun e G' H' σ' a' x => r.nx M MV e G' H' σ' (At.up a.nx a') x) (fun e G' H' σ' a' x => r.bk M MV e G' H' σ' (At.up a.nx a') x) (fun e G' H' σ' a' x => r.ct M MV e G' H' σ' (At.up a.nx a') x)
    (fun _ _ _ _ _ _ x => x.elim) (fun _ _ _ _ _ _ _ _ _ _ x => x.elim)
    fun C d vs fs e G' H' σ' a' g rf x => r.x C d vs fs e MV M G' H' σ' (At.up a.nx a') g rf x
theorem SvM.imp {D' : DM} (h : SvM K J M env ts D) (k1 : ∀ m e, D.nx m e → D'.nx m e) (k2 : ∀ m e, D.bk m e → D'.bk m e) (k3 : ∀ m e, D.ct m e → D'.ct m e) (k4 : ∀ d m, D.rt d m → D'.rt d m) (k6 : D.xw = D'.xw) (k7 : ∀ C fs m e, D.xc C fs m e → D'.xc C fs m e) : SvM K J M env ts D' := fun MV0 MV GB B G H σ a E r =>
  h MV0 MV GB B G H σ a E ⟨fun M' MV' e G' H' σ' a' x => r.nx M' MV' e G' H' σ' a' (k1 _ _ x), fun M' MV' e G' H' σ' a' x => r.bk M' MV' e G' H' σ' a' (k2 _ _ x), fun M' MV' e G' H' σ' a' x => r.ct M' MV' e G' H' σ' a' (k3 _ _ x),
    fun v d M' MV' G' H' n w rd x => r.rt v d M' MV' G' H' n w rd (k4 _ _ x), fun C d vs fs e MV' M' G' H' σ' a' g rf x => k6 ▸ r.x C d vs fs e MV' M' G' H' σ' a' g rf (k7 _ _ _ _ x)⟩
theorem sm_seq (h : SvM K J M env ts { D with nx := fun m e => SvM K J m e tv D }) : SvM K J M env (tSeq ts tv) D := fun MV0 MV GB B G H σ a E r =>
  h MV0 MV GB B G H σ a { E with nx := tv E } ⟨fun M' MV' e G' H' σ' a' x => x MV0 MV' GB B G' H' σ' a' E r, r.bk, r.ct, r.rt, r.x⟩
theorem sm_mid (N : Mm → List Sl → Prop) (h : SvM K J M env ts { D with nx := N }) (k : ∀ m e, N m e → SvM K J m e tv D) : SvM K J M env (tSeq ts tv) D :=
  sm_seq (h.imp k (fun _ _ x => x) (fun _ _ x => x) (fun _ _ x => x) rfl fun _ _ _ _ x => x)
theorem sm_next (h : D.nx M env) : SvM K J M env tNext D := fun MV0 MV GB B G H σ a E r => r.nx M MV env G H σ a h
theorem sm_break (h : D.bk M env) : SvM K J M env tBreak D := fun MV0 MV GB B G H σ a E r => r.bk M MV env G H σ a h
theorem sm_cont (h : D.ct M env) : SvM K J M env tCont D := fun MV0 MV GB B G H σ a E r => r.ct M MV env G H σ a h
theorem AtM.setD {MV : Mh} {G H : Hp} {σ : L2.St} (a : AtM K J MV0 GB B MV M G H σ env) {i : Nat} {v : V} {d : Dt} (r : Dr K G v d) : AtM K J MV0 GB B MV M G H (σ.set i (some v)) (env.set i (.d d)) := ⟨a.wf, a.nx, a.en.setD r⟩
theorem sm_asg {i : Nat} (h : EvM K J M env D te fun d M' => D.nx M' (env.set i (.d d))) : SvM K J M env (tAsg te (gName i)) D := fun MV0 MV GB B G H σ a E r =>
  h MV0 MV GB B G H σ a r.x _ fun v d M' MV' G' H' _ a' rd k => r.nx M' MV' _ G' H' _ (a'.setD rd) k
theorem sm_asgG {g : TG} (S : List Nat) (h : EvM K J M env D te fun d M' => ∀ MV, Gt K (Jt K J MV M') env g d S (D.nx M')) : SvM K J M env (tAsg te g) D := fun MV0 MV GB B G H σ a E r =>
  h MV0 MV GB B G H σ a r.x _ fun v d M' MV' G' H' _ a' rd k => k MV' B G' H' σ v a'.wf a'.en rd _ fun e σ' E' _ x => r.nx M' MV' e G' H' σ' ⟨a'.wf, a'.nx, E'⟩ x
theorem sm_drop (h : EvM K J M env D te fun _ M' => D.nx M' env) : SvM K J M env (tDrop te) D := fun MV0 MV GB B G H σ a E r =>
  h MV0 MV GB B G H σ a r.x _ fun v d M' MV' G' H' _ a' rd k => r.nx M' MV' _ G' H' _ a' k
theorem sm_ret (h : EvM K J M env D te D.rt) : SvM K J M env (tRet te) D := fun MV0 MV GB B G H σ a E r =>
  h MV0 MV GB B G H σ a r.x _ fun v d M' MV' G' H' _ a' rd k => r.rt v d M' MV' G' H' a'.nx a'.wf rd k
theorem sm_retN (h : D.rt .non M) : SvM K J M env tRetN D := fun MV0 MV GB B G H σ a E r => r.rt .non .non M MV G H a.nx a.wf .non h
theorem sm_if (h : EtM K J M env D tt fun b M' => (b = true → SvM K J M' env ts D) ∧ (b = false → SvM K J M' env tv D)) : SvM K J M env (tIfS tt ts tv) D := fun MV0 MV GB B G H σ a E r =>
  h MV0 MV GB B G H σ a r.x _ fun b M' MV' G' H' _ a' k => by
    cases b with
    | true => exact k.1 rfl MV0 MV' GB B G' H' σ a' E r
    | false => exact k.2 rfl MV0 MV' GB B G' H' σ a' E r
theorem XOkM.rebase {MV : Mh} {G H : Hp} (n : NxM J MV0 GB B MV G H) (x : XOkM K J MV0 GB B D) : XOkM K J MV0 G B D := fun C d vs fs e MV' M' G' H' σ' a' g rf y => x C d vs fs e MV' M' G' H' σ' (AtM.back n a') g rf y
theorem sm_while (P : Nat → Mm → List Sl → Prop) {m : Nat} (h0 : P m M env) (hs : ∀ m M' e, P m M' e → EtM K J M' e D tt fun b M2 => (b = true → SvM K J M2 e ts { D with nx := fun M3 e3 => ∃ m', m' < m ∧ P m' M3 e3, ct := fun M3 e3 => ∃ m', m' < m ∧ P m' M3 e3, bk := D.nx }) ∧ (b = false → D.nx M2 e)) :
    SvM K J M env (tWhile tt ts) D := fun MV0 MV GB B G H σ a E r => by
  refine ⟨fun k σ' H' => ∃ M' MV' e G', AtM K J MV0 GB B MV' M' G' H' σ' e ∧ P k M' e, ⟨m, M, MV, env, G, a, h0⟩, ?_⟩
  rintro k σ' H' ⟨M', MV', e, G', a', p⟩
  refine hs k M' e p MV0 MV' GB B G' H' σ' a' r.x _ fun b M2 MV2 G2 H2 _ a2 q => ?_
  cases b with
  | true =>
    refine (if_pos rfl).symm ▸ ⟨fun σ3 H3 => ∃ m', m' < k ∧ ∃ M3 MV3 e3 G3, AtM K J MV0 GB B MV3 M3 G3 H3 σ3 e3 ∧ P m' M3 e3, fun σ3 H3 ⟨m', hm, M3, MV3, e3, G3, a3, p3⟩ => ⟨m', hm, M3, MV3, e3, G3, a3, p3⟩, ?_⟩
    exact q.1 rfl MV0 MV2 GB B G2 H2 σ' a2 _ ⟨fun M3 MV3 e3 G3 H3 σ3 a3 ⟨m', hm, p3⟩ => ⟨m', hm, M3, MV3, e3, G3, a3, p3⟩, fun M3 MV3 e3 G3 H3 σ3 a3 y => r.nx M3 MV3 e3 G3 H3 σ3 a3 y, fun M3 MV3 e3 G3 H3 σ3 a3 ⟨m', hm, p3⟩ => ⟨m', hm, M3, MV3, e3, G3, a3, p3⟩, r.rt, r.x⟩
  | false =>
    refine (if_neg Bool.false_ne_true).symm ▸ ?_
    exact r.nx M2 MV2 e G2 H2 σ' a2 (q.2 rfl)
/-! arguments -/
theorem edm_cons {R : List Dt → Mm → Prop} (h : EvM K J M env D ta fun x M' => EdM K J M' env D tr fun xs M2 => R (x :: xs) M2) : EdM K J M env D (tCons ta tr) R := fun MV0 MV GB B G H σ a x Q q =>
  h MV0 MV GB B G H σ a x _ fun v d M' MV' G' H' sg a' rd k => k MV0 MV' GB B G' H' σ a' x _ fun vs ds M2 MV2 G2 H2 s2 a2 rs y => q _ _ M2 MV2 G2 H2 (sg.trans s2) a2 (.cons (rd.mono s2.gg) rs) y
theorem eam_cons {R : List Sl → Mm → Prop} (h : EvM K J M env D ta fun x M' => EaM K J M' env D tr fun xs M2 => R (.d x :: xs) M2) : EaM K J M env D (tCons ta tr) R := fun MV0 MV GB B G H σ a x Q q =>
  h MV0 MV GB B G H σ a x _ fun v d M' MV' G' H' sg a' rd k => k MV0 MV' GB B G' H' σ a' x _ fun vs ds M2 MV2 G2 H2 s2 a2 rs y => q _ _ M2 MV2 G2 H2 (sg.trans s2) a2 (.cons (show Sv1 K (Jt K J MV2 M2) G2 v (.d d) from rd.mono s2.gg) rs) y
theorem evm_cb {rc : List V → Hp → VK → Prop} {R : Dt → Mm → Prop} (h : EdM K J M env D tr fun ds M' => ∀ MV, Oc K (Jt K J MV M') rc ds fun d => R d M') : EvM K J M env D (tCB rc tr) R := fun MV0 MV GB B G H σ a x Q q =>
  h MV0 MV GB B G H σ a x _ fun vs ds M' MV' G' H' sg a' rs k => k MV' G' H' vs a'.wf rs Q fun v d G2 H2 n2 rd y => q v d M' MV' G2 H2 (sg.trans (.of n2)) (a'.then n2) rd y
theorem evm_tup {R : Dt → Mm → Prop} (h : EdM K J M env D tr fun ds M' => ds.length ≤ 100000 ∧ R (.tup ds) M') : EvM K J M env D (tTup tr) R := fun MV0 MV GB B G H σ a x Q q =>
  h MV0 MV GB B G H σ a x _ fun vs ds M' MV' G' H' sg a' rs ⟨hz, k⟩ => ⟨sz_of (by rw [rs.length]; exact hz), fun p hp => by
    have n2 := a'.wf.new hp (.tup vs)
    exact q (.ref p) (.tup ds) M' MV' _ _ (sg.trans (.of n2)) (a'.then n2) (.tup (.inl (.inl upd_same)) (rs.mono n2.gg)) k⟩
/-! calls -/
abbrev FwP := Mm → List Sl → (Dt → Mm → Prop) → (Addr → List (Str × Dt) → Mm → Prop) → Prop
def CtP (K : PySem.W.Frag) (W : FwP) : Sp := fun vs H Q E => ∃ (J : Jm) (M : Mm) (MV : Mh) (G : Hp) (ss : List Sl) (P : Dt → Mm → Prop) (PX : Addr → List (Str × Dt) → Mm → Prop), Wf (Jt K J MV M) G H ∧ SvA K (Jt K J MV M) G vs ss ∧ W M ss P PX ∧
  (∀ v d M' MV' G' H', NxM J MV G H MV' G' H' → Wf (Jt K J MV' M') G' H' → Dr K G' v d → P d M' → Q v H') ∧
  ∀ C d vs fs M' MV' G' H', NxM J MV G H MV' G' H' → Wf (Jt K J MV' M') G' H' → G' d = some (.xd vs) → Df K G' vs fs → PX C fs M' → E (.ref C) (some d) H'
theorem evm_callG {W : FwP} {E : L2.St → XK} {R : Dt → Mm → Prop} (hE : ∀ cls d σ H, D.xw cls d σ H → E σ cls d H) (h : EaM K J M env D tr fun ss M' => W M' ss R fun C fs M2 => D.xc C fs M2 env) : EvM K J M env D (tCallS (CtP K W) E tr) R := fun MV0 MV GB B G H σ a x Q q =>
  h MV0 MV GB B G H σ a x _ fun vs ss M' MV' G' H' sg a' rs k =>
    ⟨J, M', MV', G', ss, R, _, a'.wf, rs, k, fun v d M2 MV2 G2 H2 n2 w2 rd y => q v d M2 MV2 G2 H2 (sg.trans n2) (a'.thenM n2 w2) rd y,
      fun C d vs fs M2 MV2 G2 H2 n2 w2 g rf y => hE _ _ _ _ (x C d vs fs env MV2 M2 G2 H2 σ (a'.thenM n2 w2) g rf y)⟩
/-- a call whose error goes where the code wishes -/
theorem evm_call {W : FwP} {R : Dt → Mm → Prop} (h : EaM K J M env D tr fun ss M' => W M' ss R fun C fs M2 => D.xc C fs M2 env) : EvM K J M env D (tCallS (CtP K W) (WE D.xw) tr) R := evm_callG (fun _ _ _ _ z => z) h
/-- a call that lets nothing out -/
theorem evm_call0 {W : FwP} {R : Dt → Mm → Prop} (h : EaM K J M env D tr fun ss M' => W M' ss R fun _ _ _ => False) : EvM K J M env D (tCall (CtP K W) [] E0 tr) R := fun MV0 MV GB B G H σ a x Q q =>
  h MV0 MV GB B G H σ a x _ fun vs ss M' MV' G' H' sg a' rs k => by
    show CtP K W (vs ++ []) H' Q E0
    rw [List.append_nil]
    exact ⟨J, M', MV', G', ss, R, _, a'.wf, rs, k, fun v d M2 MV2 G2 H2 n2 w2 rd y => q v d M2 MV2 G2 H2 (sg.trans n2) (a'.thenM n2 w2) rd y, fun C d vs fs M2 MV2 G2 H2 n2 w2 g rf y => y.elim⟩
/-- by keywords, letting nothing out -/
theorem evm_callKw0 {W : FwP} {pi : List Nat} {R : Dt → Mm → Prop} (h : EaM K J M env D tr fun ss M' => W M' (pi.filterMap fun i => ss[i]?) R fun _ _ _ => False) : EvM K J M env D (tCallK (CtP K W) (kwP pi) E0 tNil tr) R := fun MV0 MV GB B G H σ a x Q q =>
  h MV0 MV GB B G H σ a x _ fun vs ss M' MV' G' H' sg a' rs k =>
    ⟨J, M', MV', G', _, R, _, a'.wf, sva_kw rs, k, fun v d M2 MV2 G2 H2 n2 w2 rd y => q v d M2 MV2 G2 H2 (sg.trans n2) (a'.thenM n2 w2) rd y, fun C d vs fs M2 MV2 G2 H2 n2 w2 g rf y => y.elim⟩
/-- a def of the plain kind that may raise -/
theorem evm_callX {W : FwX} {R : Dt → Mm → Prop} (h : EaM K J M env D tr fun ss M' => W ss (fun d => R d M') fun C fs => D.xc C fs M' env) : EvM K J M env D (tCallS (CtX K W) (WE D.xw) tr) R := fun MV0 MV GB B G H σ a x Q q =>
  h MV0 MV GB B G H σ a x _ fun vs ss M' MV' G' H' sg a' rs k =>
    ⟨Jt K J MV' M', G', ss, _, _, a'.wf, rs, k, fun v d G2 H2 n2 rd y => q v d M' MV' G2 H2 (sg.trans (.of n2)) (a'.then n2) rd y,
      fun C d vs fs G2 H2 n2 g rf y => x C d vs fs env MV' M' G2 H2 σ (a'.then n2) g rf y⟩
end
end Mv

set_option Elab.async false
set_option linter.all false
set_option maxRecDepth 100000
set_option maxHeartbeats 4000000
namespace Mv
open PySem PySem.Spec PyProof.Rows L2
/-! ### walks -/
def AgM (A M : Mm) : Prop := ∀ a o, A a = some o → M a = some o
def A0 : Mm := fun _ => none
def onlyM (a : Addr) (o : OB) : Mm := fun b => if b = a then some o else none
theorem ag0 {M : Mm} : AgM A0 M := fun a o h => nomatch h
theorem ag1 {M : Mm} {a : Addr} {o : OB} : AgM (onlyM a o) M ↔ M a = some o :=
  ⟨fun h => h a o (if_pos rfl), fun h b u e => by
    unfold onlyM at e
    split at e
    · rename_i z; cases e; rw [z]; exact h
    · cases e⟩
structure WkM (K : PySem.W.Frag) (J : Jm) (A : Mm) (G : Hp) (I : It) (ds : List Dt) : Prop where
  go : ∀ i MV M G1 H1, Same G G1 → Wf (Jt K J MV M) G1 H1 → AgM A M → i < ds.length → I.go i H1
  stop : ∀ MV M G1 H1, Same G G1 → Wf (Jt K J MV M) G1 H1 → AgM A M → I.stop ds.length H1
  yld : ∀ i MV M G1 H1 x H2, Same G G1 → Wf (Jt K J MV M) G1 H1 → AgM A M → i < ds.length → I.yld i H1 x H2 → ∃ G2 d, Nx (Jt K J MV M) G1 H1 G2 H2 ∧ ds[i]? = some d ∧ Dr K G2 x d
theorem WkM.of {K : PySem.W.Frag} {J : Jm} {G : Hp} {I : It} {ds : List Dt} (h : ∀ J', Wk K J' G I ds) : WkM K J A0 G I ds :=
  ⟨fun i MV M G1 H1 s w _ hi => (h (Jt K J MV M)).go i G1 H1 s w hi, fun MV M G1 H1 s w _ => (h (Jt K J MV M)).stop G1 H1 s w, fun i MV M G1 H1 x H2 s w _ hi y => (h (Jt K J MV M)).yld i G1 H1 x H2 s w hi y⟩
theorem WkM.wk {K : PySem.W.Frag} {J : Jm} {A : Mm} {G : Hp} {I : It} {ds : List Dt} (h : WkM K J A G I ds) {MV : Mh} {M : Mm} (ag : AgM A M) : Wk K (Jt K J MV M) G I ds :=
  ⟨fun i G1 H1 s w hi => h.go i MV M G1 H1 s w ag hi, fun G1 H1 s w => h.stop MV M G1 H1 s w ag, fun i G1 H1 x H2 s w hi y => h.yld i MV M G1 H1 x H2 s w ag hi y⟩
def EiM (K : PySem.W.Frag) (J : Jm) (M : Mm) (env : List Sl) (D : DM) (wi : TI) (R : Mm → List Dt → Mm → Prop) : Prop := ∀ (MV0 MV : Mh) (GB B G H : Hp) (σ : L2.St), AtM K J MV0 GB B MV M G H σ env → XOkM K J MV0 GB B D → ∀ Q : It → Hp → Prop,
  (∀ I A ds M' MV' G' H', NxM J MV G H MV' G' H' → AtM K J MV0 GB B MV' M' G' H' σ env → AgM A M' → WkM K J A G' I ds → R A ds M' → Q I H') → wi σ H Q
section
variable {K : PySem.W.Frag} {J : Jm} {M : Mm} {env : List Sl} {D : DM} {te tl tk tv : TE} {ta : TA} {tt : TT} {ts : TS} {wi : TI} {g : TG} {vs : List Nat}
/-- in plain code -/
theorem EiM.ei {MV : Mh} {R : List Dt → Prop} (h : EiM K J M env {nx := fun _ _ => False, rt := fun _ _ => False} wi fun A ds M' => M' = M ∧ R ds) : True := trivial
theorem eim_seq {R : Mm → List Dt → Mm → Prop} (h : EvM K J M env D tl fun x M' => ∃ ds, (x = .lst ds ∨ x = .tup ds) ∧ R A0 ds M') : EiM K J M env D (iSeq K tl) R := fun MV0 MV GB B G H σ a x Q q =>
  h MV0 MV GB B G H σ a x _ fun v d M' MV' G' H' sg a' r ⟨ds, e, k⟩ => by
    rcases e with rfl | rfl
    · cases r with
      | lst s t => exact ⟨_, rfl, .inl ⟨_, same_l a'.wf.gh s, q _ A0 ds M' MV' G' H' sg a' ag0 (.of fun _ => wk_list s t) k⟩⟩
    · cases r with
      | tup s t => exact ⟨_, rfl, .inr ⟨_, same_t a'.wf.gh s, q _ A0 ds M' MV' G' H' sg a' ag0 (.of fun _ => wk_tup s t) k⟩⟩
theorem wk_listM {a : Addr} {ds : List Dt} {G : Hp} : WkM K J (onlyM a (.lst ds)) G (Itl K a) ds := by
  refine ⟨fun i MV M G1 H1 sg w ag hi => ?_, fun MV M G1 H1 sg w ag => ?_, fun i MV M G1 H1 x H2 sg w ag hi y => ?_⟩ <;> obtain ⟨vs, h1, h2, r⟩ := w.lstM (ag1.mp ag)
  · exact (walk_list (K := K) (a := a) (xs := vs)).goes i H1 (by rw [r.length]; exact hi) (.inl (.inl h2))
  · have := (walk_list (K := K) (a := a) (xs := vs)).stops H1 (.inl (.inl h2))
    rw [r.length] at this
    exact this
  · obtain ⟨e1, e2⟩ := (walk_list (K := K) (a := a) (xs := vs)).yields i H1 x H2 (by rw [r.length]; exact hi) (.inl (.inl h2)) y
    subst e1
    obtain ⟨d, k1, k2⟩ := r.get' e2
    exact ⟨G1, d, w.nx, k1, k2⟩
theorem eim_seqP {R : Mm → List Dt → Mm → Prop} (h : EvM K J M env D tl fun x M' => ∃ a ds, x = .ptr a ∧ M' a = some (.lst ds) ∧ R (onlyM a (.lst ds)) ds M') : EiM K J M env D (iSeq K tl) R := fun MV0 MV GB B G H σ a x Q q =>
  h MV0 MV GB B G H σ a x _ fun v d M' MV' G' H' sg a' r ⟨p, ds, e, hM, k⟩ => by
    subst e
    cases r
    obtain ⟨vs, h1, h2, r⟩ := a'.wf.lstM hM
    exact ⟨p, rfl, .inl ⟨vs, .inl (.inl h2), q _ _ ds M' MV' G' H' sg a' (ag1.mpr hM) wk_listM k⟩⟩
theorem eim_range {R : Mm → List Dt → Mm → Prop} (h : EdM K J M env D ta fun xs M' => ∃ n : Int, xs = [.int n] ∧ -1000000 ≤ n ∧ n ≤ 1000000 ∧ R A0 ((List.range n.toNat).map fun i => Dt.int (i : Nat)) M') : EiM K J M env D (iRng1 ta) R := fun MV0 MV GB B G H σ a x Q q =>
  h MV0 MV GB B G H σ a x _ fun vs xs M' MV' G' H' sg a' r ⟨n, e, h0, hn, k⟩ => by
    subst e
    cases r with
    | cons r1 r2 =>
      cases r1
      cases r2
      refine ⟨n, rfl, by omega, by omega, q _ A0 _ M' MV' G' H' sg a' ag0 (.of fun _ => wk_range) ?_⟩
      have : (fun i : Nat => Dt.int (0 + (i : Int))) = fun i : Nat => Dt.int (i : Int) := by funext i; rw [Int.zero_add]
      rw [this]
      exact k
theorem eim_enum {R : Mm → List Dt → Mm → Prop} (h : EvM K J M env D te fun x M' => ∃ ds, (x = .lst ds ∨ x = .tup ds) ∧ R A0 (enumD ds) M') : EiM K J M env D (iEnumA K (tCons te tNil)) R := fun MV0 MV GB B G H σ a x Q q =>
  h MV0 MV GB B G H σ a x _ fun v d M' MV' G' H' sg a' r ⟨ds, e, k⟩ => by
    have fin : ∀ {vs : List V}, Da K G' vs ds → ∀ (i : Nat) (x y : V), (some (V.int (i : Nat)) = some x) → vs[i]? = some y → ∃ a b, (enumD ds)[i]? = some (pairD a b) ∧ Dr K G' x a ∧ Dr K G' y b := fun t i x y h1 h2 => by
      cases h1
      obtain ⟨d, h3, h4⟩ := t.get' h2
      exact ⟨_, _, enumD_get h3, .int _, h4⟩
    rcases e with e | e
    · subst e
      cases r with
      | @lst p vs ds s t => exact ⟨p, vs, rfl, .inl ⟨same_l a'.wf.gh s, q _ A0 _ M' MV' G' H' sg a' ag0 (.of fun _ => wk_pairs walk_enum (by rw [enumD_len, t.length]) (fun G2 H2 s1 s2 => same_l (s1.trans s2) s) (fin t)) k⟩⟩
    · subst e
      cases r with
      | @tup p vs ds s t => exact ⟨p, vs, rfl, .inr ⟨same_t a'.wf.gh s, q _ A0 _ M' MV' G' H' sg a' ag0 (.of fun _ => wk_pairs walk_enumT (by rw [enumD_len, t.length]) (fun G2 H2 s1 s2 => same_t (s1.trans s2) s) (fin t)) k⟩⟩
theorem wk_enumM {a : Addr} {ds : List Dt} {G : Hp} : WkM K J (onlyM a (.lst ds)) G (Ite K a) (enumD ds) := by
  refine ⟨fun i MV M G1 H1 sg w ag hi => ?_, fun MV M G1 H1 sg w ag => ?_, fun i MV M G1 H1 x H2 sg w ag hi y => ?_⟩ <;> obtain ⟨vs, h1, h2, r⟩ := w.lstM (ag1.mp ag)
  · exact (walk_enum (K := K) (a := a) (xs := vs)).goes i H1 (by rw [r.length, ← enumD_len]; exact hi) (.inl (.inl h2))
  · have := (walk_enum (K := K) (a := a) (xs := vs)).stops H1 (.inl (.inl h2))
    rw [r.length, ← enumD_len] at this
    exact this
  · obtain ⟨T, u, v, rfl, hT, rfl, k1, k2⟩ := (walk_enum (K := K) (a := a) (xs := vs)).yields i H1 x H2 (by rw [r.length, ← enumD_len]; exact hi) (.inl (.inl h2)) y
    cases k1
    obtain ⟨d, k3, k4⟩ := r.get' k2
    have n2 := w.new hT (.tup [.int (i : Nat), v])
    exact ⟨_, _, n2, enumD_get k3, .tup (.inl (.inl upd_same)) (.cons (.int _) (.cons (k4.mono n2.gg) .nil))⟩
theorem eim_enumP {R : Mm → List Dt → Mm → Prop} (h : EvM K J M env D te fun x M' => ∃ a ds, x = .ptr a ∧ M' a = some (.lst ds) ∧ R (onlyM a (.lst ds)) (enumD ds) M') : EiM K J M env D (iEnumA K (tCons te tNil)) R := fun MV0 MV GB B G H σ a x Q q =>
  h MV0 MV GB B G H σ a x _ fun v d M' MV' G' H' sg a' r ⟨p, ds, e, hM, k⟩ => by
    subst e
    cases r
    obtain ⟨vs, h1, h2, r⟩ := a'.wf.lstM hM
    exact ⟨p, vs, rfl, .inl ⟨.inl (.inl h2), q _ _ _ M' MV' G' H' sg a' (ag1.mpr hM) wk_enumM k⟩⟩
theorem eim_zip {R : Mm → List Dt → Mm → Prop} (h : EdM K J M env D ta fun zs M' => ∃ xs ys, zs = [.tup xs, .tup ys] ∧ xs.length = ys.length ∧ R A0 (zipD xs ys) M') : EiM K J M env D (RZ.iZipA K ta) R := fun MV0 MV GB B G H σ a x Q q =>
  h MV0 MV GB B G H σ a x _ fun vs zs M' MV' G' H' sg a' r ⟨xs, ys, e, hl, k⟩ => by
    subst e
    cases r with
    | cons r1 r2 =>
      cases r2 with
      | cons r2 r3 =>
        cases r3
        cases r1 with
        | @tup p us _ s t =>
          cases r2 with
          | @tup b ws _ s' t' =>
            have hl' : us.length = ws.length := by rw [t.length, t'.length, hl]
            refine ⟨p, b, us, ws, rfl, .inr ⟨same_t a'.wf.gh s, same_t a'.wf.gh s', q _ A0 _ M' MV' G' H' sg a' ag0 (.of fun _ => wk_pairs (walk_zipT hl') (by rw [zipD_len hl, t.length]) (fun G2 H2 s1 s2 => ⟨same_t (s1.trans s2) s, same_t (s1.trans s2) s'⟩) fun i x y h1 h2 => ?_) k⟩⟩
            obtain ⟨c, hc, rc⟩ := t.get' h1
            obtain ⟨d, hd, rd⟩ := t'.get' h2
            exact ⟨c, d, by unfold zipD; rw [List.getElem?_zipWith, hc, hd], rc, rd⟩
/-- a walk in plain code -/
theorem ei_of {MV : Mh} {R : List Dt → Prop} (h : EiM K J M env {nx := fun _ _ => False, rt := fun _ _ => False} wi fun A ds M' => M' = M ∧ R ds) : True := trivial
/-! ### for -/
theorem sm_for (S : List Nat) (h : EiM K J M env D wi fun A ds M0 => ∃ P : Nat → Mm → List Sl → Prop, P 0 M0 env ∧
    (∀ k d M' e, ds[k]? = some d → P k M' e → AgM A M' ∧ ∀ MV, Gt K (Jt K J MV M') e g d S fun e1 => SvM K J M' e1 ts { D with nx := P (k + 1), ct := P (k + 1), bk := D.nx }) ∧ ∀ M' e, P ds.length M' e → AgM A M' ∧ D.nx M' e) : SvM K J M env (tFor wi g ts) D := fun MV0 MV GB B G H σ a E r => by
  refine h MV0 MV GB B G H σ a r.x _ fun I A ds M0 MV1 G1 H1 sg a1 ag wk ⟨P, h0, hs, hd⟩ => ?_
  refine ⟨fun i m σ' H' => m = ds.length - i ∧ i ≤ ds.length ∧ ∃ M' MV' e G', AtM K J MV0 G1 B MV' M' G' H' σ' e ∧ P i M' e, ⟨ds.length, by simp, Nat.zero_le _, M0, MV1, env, G1, a1.rebase, h0⟩, ?_⟩
  rintro i m σ' H' ⟨rfl, hi, M', MV', e, G', a', p⟩
  by_cases hlt : i < ds.length
  · obtain ⟨d0, hd0⟩ : ∃ d, ds[i]? = some d := ⟨ds[i], by simp [hlt]⟩
    have ag' := (hs i d0 M' e hd0 p).1
    refine .inr ⟨wk.go i MV' M' G' H' a'.nx.gg a'.wf ag' hlt, fun σ2 H2 => ∃ M2 MV2 e2 G2, AtM K J MV0 G1 B MV2 M2 G2 H2 σ2 e2 ∧ P (i + 1) M2 e2, fun σ2 H2 ⟨M2, MV2, e2, G2, a2, p2⟩ => ⟨ds.length - (i + 1), by omega, rfl, hlt, M2, MV2, e2, G2, a2, p2⟩, fun x H2 y => ?_⟩
    obtain ⟨G2, d, n2, hd', rd⟩ := wk.yld i MV' M' G' H' x H2 a'.nx.gg a'.wf ag' hlt y
    have a2 := a'.then n2
    refine (hs i d M' e hd' p).2 MV' B G2 H2 σ' x a2.wf a2.en rd _ fun e3 σ3 E3 _ sv => ?_
    exact sv MV0 MV' G1 B G2 H2 σ3 ⟨a2.wf, a2.nx, E3⟩ _ ⟨fun M4 MV4 e4 G4 H4 σ4 a4 x => ⟨M4, MV4, e4, G4, a4, x⟩, fun M4 MV4 e4 G4 H4 σ4 a4 x => r.nx M4 MV4 e4 G4 H4 σ4 (AtM.back a1.nx a4) x, fun M4 MV4 e4 G4 H4 σ4 a4 x => ⟨M4, MV4, e4, G4, a4, x⟩,
      fun v d4 M4 MV4 G4 H4 n4 w4 r4 x => r.rt v d4 M4 MV4 G4 H4 (a1.nx.back n4) w4 r4 x, XOkM.rebase a1.nx r.x⟩
  · have e' : i = ds.length := by omega
    subst e'
    obtain ⟨ag', dn⟩ := hd M' e p
    exact .inl ⟨wk.stop MV' M' G' H' a'.nx.gg a'.wf ag', r.nx M' MV' e G' H' σ' (AtM.back a1.nx a') dn⟩
/-! ### comprehensions whose items change things (they let nothing out) -/
def DX : DM := { nx := fun _ _ => False, rt := fun _ _ => False }
theorem xok0 {MV0 : Mh} {GB B : Hp} : XOkM K J MV0 GB B DX := fun _ _ _ _ _ _ _ _ _ _ _ _ _ z => z.elim
theorem En.lowM {B B' G H : Hp} {σ : L2.St} {MV : Mh} (E : En K (Jt K J MV M) B G H σ env) (hb : ∀ b, B b = none → B' b = none) : En K (Jt K J MV M) B' G H σ env := E.low hb
/-- a new list comes to stand among the told ones -/
theorem Wf.put {MV : Mh} {G H : Hp} (w : Wf (Jt K J MV M) G H) {p : Addr} {ho : HO} {ob : OB} (hj : p ∉ J.ms) (hG : G p = none) (hH : H p = some ho) (r : OR K G ho ob) : Wf (Jt K J (upd MV p ho) (updM M p ob)) G H := by
  refine ⟨w.gh, ⟨w.ok.1, fun a ha => ?_, fun a o e => ?_⟩, fun m hm => ?_, w.tr.1, fun a => ?_⟩
  · by_cases z : a = p
    · subst z; exact hj
    · rw [upd_ne z] at ha; exact w.ok.2.1 a ha
  · by_cases z : a = p
    · subst z; rw [upd_same] at e; cases e; exact hH
    · rw [upd_ne z] at e; exact w.ok.2.2 a o e
  · by_cases z : m = p
    · subst z; exact ⟨hG, by rw [hH]; simp⟩
    · refine w.ms m (hm.elim .inl fun h => .inr ?_)
      rw [upd_ne z] at h; exact h
  · by_cases z : a = p
    · subst z
      refine ⟨fun ob' e => ?_, fun e => ?_⟩
      · rw [updM_same] at e; cases e; exact ⟨ho, upd_same, r⟩
      · rw [updM_same] at e; cases e
    · refine ⟨fun ob' e => ?_, fun e => ?_⟩
      · rw [updM_ne z] at e; rw [upd_ne z]; exact (w.tr.2 a).1 ob' e
      · rw [updM_ne z] at e; rw [upd_ne z]; exact (w.tr.2 a).2 e
theorem Wf.none_ {MV : Mh} {G H : Hp} (w : Wf (Jt K J MV M) G H) {p : Addr} (h : H p = none) : MV p = none ∧ M p = none := by
  have h1 : MV p = none := by
    cases z : MV p with
    | none => rfl
    | some o => have := w.ok.2.2 p o z; rw [h] at this; cases this
  refine ⟨h1, ?_⟩
  cases z : M p with
  | none => rfl
  | some o => obtain ⟨ho, e, _⟩ := (w.tr.2 p).1 o z; rw [h1] at e; cases e
theorem Wf.noneM {MV : Mh} {G H : Hp} (w : Wf (Jt K J MV M) G H) {p : Addr} (h : MV p = none) : M p = none := by
  cases z : M p with
  | none => rfl
  | some o => obtain ⟨ho, e, _⟩ := (w.tr.2 p).1 o z; rw [h] at e; cases e
theorem nxm_put {MV MV' : Mh} {G H : Hp} {p : Addr} {ho : HO} (h : MV p ≠ none ∨ H p = none) {G' H' : Hp} (n : NxM J MV G H MV' G' H') : NxM J MV G H (upd MV' p ho) G' H' :=
  ⟨n.gg, n.fr, n.kp, n.th, fun b hb => by
    by_cases z : b = p
    · subst z; exact h
    · rw [upd_ne z] at hb; exact n.dm b hb, fun b hb => by
    by_cases z : b = p
    · subst z; rw [upd_same]; simp
    · rw [upd_ne z]; exact n.dk b hb⟩
/-- [e for .. in .. if ..]: a new list among the told ones -/
theorem evm_lc {R : Dt → Mm → Prop} (h : EiM K J M env D wi fun A ds M0 => ds.length ≤ 100000 ∧ ∃ Iv : Nat → List Dt → Mm → Prop, Iv 0 [] M0 ∧
    (∀ k d acc M', ds[k]? = some d → acc.length ≤ k → Iv k acc M' → AgM A M' ∧ ∀ MV, Gt K (Jt K J MV M') (wipeE env vs) g d vs fun e => Et K (Jt K J MV M') e tt fun b => (b = true → EvM K J M' e DX te fun y M2 => Iv (k + 1) (acc ++ [y]) M2) ∧ (b = false → Iv (k + 1) acc M')) ∧
    ∀ acc M', acc.length ≤ ds.length → Iv ds.length acc M' → AgM A M' ∧ ∀ p, M' p = none → R (.ptr p) (updM M' p (.lst acc))) : EvM K J M env D (tLc wi g tt te vs) R := fun MV0 MV GB B G H σ a x Q q => by
  refine h MV0 MV GB B G H σ a x _ fun I A ds M0 MV1 G1 H1 sg a1 ag wk ⟨hz, Iv, h0, hs, hd⟩ => ?_
  intro Dl hDl
  have hjD : Dl ∉ J.ms := (not_jt.mp (a1.wf.notin hDl)).1
  have n0 := a1.wf.newM hDl (.lst [])
  have a0 := a1.then n0
  refine ⟨fun i m H' => m = ds.length - i ∧ i ≤ ds.length ∧ ∃ M' MV' G' xs acc, NxM J MV1 G1 H1 MV' G' H' ∧ AtM K J MV0 GB B MV' M' G' H' σ env ∧ MV' Dl = none ∧ G' Dl = none ∧ H' Dl = some (.lst xs) ∧ Da K G' xs acc ∧ acc.length ≤ i ∧ Iv i acc M',
    ⟨ds.length, by simp, Nat.zero_le _, M0, MV1, G1, [], [], .of n0, a0, (a1.wf.none_ hDl).1, a1.wf.free hDl, upd_same, .nil, Nat.le_refl _, h0⟩, ?_⟩
  rintro i m H' ⟨rfl, hi, M', MV', G', xs, acc, s1, a', hMD, hG, hH, r, hl, p⟩
  by_cases hlt : i < ds.length
  · obtain ⟨d0, hd0⟩ : ∃ d, ds[i]? = some d := ⟨ds[i], by simp [hlt]⟩
    have ag' := (hs i d0 acc M' hd0 hl p).1
    refine .inr ⟨wk.go i MV' M' G' H' s1.gg a'.wf ag' hlt, fun H2 => ∃ M2 MV2 G2 xs2 acc2, NxM J MV1 G1 H1 MV2 G2 H2 ∧ AtM K J MV0 GB B MV2 M2 G2 H2 σ env ∧ MV2 Dl = none ∧ G2 Dl = none ∧ H2 Dl = some (.lst xs2) ∧ Da K G2 xs2 acc2 ∧ acc2.length ≤ i + 1 ∧ Iv (i + 1) acc2 M2,
      fun H2 ⟨M2, MV2, G2, xs2, acc2, a, b, c, d, e, f, g⟩ => ⟨ds.length - (i + 1), by omega, rfl, hlt, M2, MV2, G2, xs2, acc2, a, b, c, d, e, f, g⟩, fun x H2 y => ?_⟩
    obtain ⟨G2, d, n2, hd', rd⟩ := wk.yld i MV' M' G' H' x H2 s1.gg a'.wf ag' hlt y
    have a2 := a'.then n2
    refine (hs i d acc M' hd' hl p).2 MV' B G2 H2 (wipe σ vs) x a2.wf (a2.en.wipe vs) rd _ fun e3 σ3 E3 ks et => ⟨wipe_eq ks.1 ks.2, et B G2 H2 σ3 a2.wf E3 _ fun b G3 H3 n3 k => ?_⟩
    have a3 := a2.then n3
    have nn := n2.trans n3
    have hn : Dl ∉ (Jt K J MV' M').ms := not_jt.mpr ⟨hjD, hMD⟩
    have hG3 := nn.fr Dl hG (by rw [hH]; simp)
    have hH3 := nn.kp Dl _ hH hn
    cases b with
    | false => exact ⟨M', MV', G3, xs, acc, s1.trans (.of nn), a3, hMD, hG3, hH3, r.mono nn.gg, by omega, k.2 rfl⟩
    | true =>
      have aE : AtM K J MV0 GB B MV' M' G3 H3 σ3 e3 := ⟨a3.wf, a3.nx, E3.mono n3⟩
      refine k.1 rfl MV0 MV' GB B G3 H3 σ3 aE xok0 _ fun yv yd M4 MV4 G4 H4 n4 a4 ry ky => ?_
      have hG4 := n4.fr Dl hG3 (by rw [hH3]; simp)
      have hH4 := n4.kp Dl _ hH3 hjD hMD
      have hM4 : MV4 Dl = none := n4.none hH3 hMD
      have a5 := a3.thenM n4 a4.wf
      -- the list grows
      have same : ∀ b, b ∈ (Jt K J MV4 M4).ms → upd H4 Dl (.lst (xs ++ [yv])) b = H4 b := fun b hb => upd_ne fun z => by
        subst z
        exact hb.elim hjD fun z => z hM4
      have gh : Same G4 (upd H4 Dl (.lst (xs ++ [yv]))) := fun b o e => by rw [upd_ne (ne_of_none e hG4)]; exact a4.wf.gh b o e
      have w6 : Wf (Jt K J MV4 M4) G4 (upd H4 Dl (.lst (xs ++ [yv]))) := ⟨gh, (Jt K J MV4 M4).st _ _ a4.wf.ok same, fun m hm => ⟨(a4.wf.ms m hm).1, by rw [same m hm]; exact (a4.wf.ms m hm).2⟩, a4.wf.tr⟩
      have up : ∀ {MVx : Mh} {Gx Hx : Hp}, Hx Dl = none → NxM J MVx Gx Hx MV4 G4 H4 → NxM J MVx Gx Hx MV4 G4 (upd H4 Dl (.lst (xs ++ [yv]))) := fun {MVx Gx Hx} hx n => ⟨n.gg, n.fr, fun b o e h1 h2 => by rw [upd_ne (ne_of_none e hx)]; exact n.kp b o e h1 h2, fun b hb => by
        by_cases z : b = Dl
        · subst z; rw [upd_same]; simp
        · rw [upd_ne z]; exact n.th b hb, n.dm, n.dk⟩
      have n16 := (s1.trans (.of nn)).trans n4
      refine ⟨xs, hH4, sz_lt (by rw [r.length]; omega), M4, MV4, G4, xs ++ [yv], acc ++ [yd], up hDl n16, ⟨w6, up (a1.freshB hDl) a5.nx, ?_⟩, hM4, hG4, upd_same, ((r.mono nn.gg).mono n4.gg).append (.cons ry .nil), by simp; omega, ky⟩
      -- the slots stay
      have E1 := a1.en.monoM (up hDl n16) (M' := M4)
      exact E1
  · have e' : i = ds.length := by omega
    subst e'
    obtain ⟨ag', hR⟩ := hd acc M' hl p
    refine .inl ⟨wk.stop MV' M' G' H' s1.gg a'.wf ag', ?_⟩
    have hH0 : H Dl = none := by
      cases z : H Dl with
      | none => rfl
      | some o => exact absurd hDl (sg.th Dl (by rw [z]; simp))
    have nq := nxm_put (ho := .lst xs) (.inr hH0) (sg.trans s1)
    have w7 : Wf (Jt K J (upd MV' Dl (.lst xs)) (updM M' Dl (.lst acc))) G' H' := a'.wf.put hjD hG hH (.lst r)
    exact q (.ref Dl) (.ptr Dl) _ _ G' H' nq (a.thenM nq w7) (.ptr _) (hR Dl (a'.wf.noneM hMD))
end
end Mv

set_option Elab.async false
set_option linter.all false
set_option maxRecDepth 100000
set_option maxHeartbeats 4000000
namespace Mv
open PySem PySem.Spec PyProof.Rows L2
section
variable {K : PySem.W.Frag} {J : Jm} {M : Mm} {MV : Mh} {env : List Sl} {R : Dt → Prop} {te ta tb ti to tk tv : TE} {tr : TA} {D : DM} {ts : TS}
/-! ### reading a told object -/
theorem o2_ixP {a : Addr} {ds : List Dt} {i : Int} {d : Dt} (hM : M a = some (.lst ds)) (h : atD ds i = some d) (k : R d) : O2 K (Jt K J MV M) (rIx K) (.ptr a) (.int i) R := fun G H vx vy w rx ry Q q => by
  cases ry
  cases rx
  obtain ⟨vs, _, h2, t⟩ := w.lstM hM
  obtain ⟨v, e1, e2⟩ := t.at h
  exact .inl ⟨_, _, i, v, rfl, rfl, .inl (.inl h2), e1, q v d G H w.nx e2 k⟩
theorem oc_lenP {a : Addr} {ds : List Dt} (hM : M a = some (.lst ds)) (h : R (.int (ds.length : Int))) : Oc K (Jt K J MV M) (Mv.rLen K) [.ptr a] R := fun G H vs w rs Q q => by
  cases rs with
  | cons r1 r2 =>
    cases r2
    cases r1
    obtain ⟨us, _, h2, t⟩ := w.lstM hM
    exact ⟨_, ds.length, rfl, .inl ⟨_, .inl (.inl h2), t.length.symm⟩, q _ _ G H w.nx (.int _) h⟩
theorem o2_inP {x : Dt} {a : Addr} {ds : List Dt} {neg : Bool} (hM : M a = some (.lst ds)) (hx : flatD x = true) (hs : ds.all flatD = true) (h : R (.bl (if neg then !inD x ds else inD x ds))) : O2 K (Jt K J MV M) (rIn K neg) x (.ptr a) R := fun G H vx vy w rx ry Q q => by
  cases ry
  obtain ⟨us, _, h2, t⟩ := w.lstM hM
  refine ⟨_, _, rfl, .inl (.inl (.inl h2)), flat_of rx hx, all_of t hs, q _ _ G H w.nx (.bl _) ?_⟩
  rw [in_of rx t]
  exact h
theorem oc_tupP {a : Addr} {ds : List Dt} (hM : M a = some (.lst ds)) (h : R (.tup ds)) : Oc K (Jt K J MV M) (Mv.rTup K) [.ptr a] R := fun G H vs w rs Q q => by
  cases rs with
  | cons r1 r2 =>
    cases r2
    cases r1
    obtain ⟨us, _, h2, t⟩ := w.lstM hM
    refine ⟨a, us, rfl, .inl ⟨.inl (.inl h2), fun l hl => ?_⟩⟩
    have n := w.new hl (.tup us)
    exact q _ _ _ _ n (.tup (.inl (.inl upd_same)) (t.mono n.gg)) h
theorem ev_fldP {f : Str} (h : Ev K (Jt K J MV M) env te fun o => ∃ a C fs x, o = .ptr a ∧ M a = some (.ins C fs) ∧ Cls K C ∧ NoAttr K C f ∧ fs.lookup f = some x ∧ R x) : Ev K (Jt K J MV M) env (tFld K te f) R := fun B G H σ w E Q q =>
  h B G H σ w E _ fun v o G1 H1 n1 r ⟨a, C, fs, x, e, hM, hC, hf, hx, k⟩ => by
    subst e
    cases r
    obtain ⟨dx, us, _, h2, t⟩ := (n1.wf w).insM hM
    obtain ⟨y, h3, h4⟩ := df_lookup t hx
    exact ⟨a, C, dx, us, y, rfl, h2, hC, hf, h3, q y x G1 H1 n1 h4 k⟩
theorem evm_fld {f : Str} {R : Dt → Mm → Prop} (h : EvM K J M env D te fun o M' => ∃ a C fs x, o = .ptr a ∧ M' a = some (.ins C fs) ∧ Cls K C ∧ NoAttr K C f ∧ fs.lookup f = some x ∧ R x M') : EvM K J M env D (tFld K te f) R := fun MV0 MV GB B G H σ a x Q q =>
  h MV0 MV GB B G H σ a x _ fun v o M' MV' G' H' n a' r ⟨p, C, fs, y, e, hM, hC, hf, hx, k⟩ => by
    subst e
    cases r
    obtain ⟨dx, us, _, h2, t⟩ := a'.wf.insM hM
    obtain ⟨z, h3, h4⟩ := df_lookup t hx
    exact ⟨p, C, dx, us, z, rfl, h2, hC, hf, h3, q z y M' MV' G' H' n a' h4 k⟩
/-! ### a told object changes -/
theorem Wf.chg {G H : Hp} (w : Wf (Jt K J MV M) G H) {p : Addr} {ho ho' : HO} {ob' : OB} (hp : MV p = some ho) (r : OR K G ho' ob') : Wf (Jt K J (upd MV p ho') (updM M p ob')) G (upd H p ho') := by
  have hne : MV p ≠ none := by rw [hp]; simp
  have hms : p ∈ (Jt K J MV M).ms := .inr hne
  have hG := (w.ms p hms).1
  have hj := w.ok.2.1 p hne
  have gh : Same G (upd H p ho') := fun b o e => by rw [upd_ne (ne_of_none e hG)]; exact w.gh b o e
  refine ⟨gh, ⟨J.st _ _ w.ok.1 fun b hb => upd_ne fun z => hj (z ▸ hb), fun a ha => ?_, fun a o e => ?_⟩, fun m hm => ?_, w.tr.1, fun a => ?_⟩
  · by_cases z : a = p
    · subst z; exact hj
    · rw [upd_ne z] at ha; exact w.ok.2.1 a ha
  · by_cases z : a = p
    · subst z; rw [upd_same] at e; cases e; exact upd_same
    · rw [upd_ne z] at e; rw [upd_ne z]; exact w.ok.2.2 a o e
  · by_cases z : m = p
    · subst z; exact ⟨hG, by rw [upd_same]; simp⟩
    · rw [upd_ne z]
      refine w.ms m (hm.elim .inl fun h => .inr ?_)
      rw [upd_ne z] at h; exact h
  · by_cases z : a = p
    · subst z
      refine ⟨fun ob e => ?_, fun e => ?_⟩
      · rw [updM_same] at e; cases e; exact ⟨ho', upd_same, r⟩
      · rw [updM_same] at e; cases e
    · refine ⟨fun ob e => ?_, fun e => ?_⟩
      · rw [updM_ne z] at e; rw [upd_ne z]; exact (w.tr.2 a).1 ob e
      · rw [updM_ne z] at e; rw [upd_ne z]; exact (w.tr.2 a).2 e
theorem Wf.chgN {G H : Hp} (w : Wf (Jt K J MV M) G H) {p : Addr} {ho ho' : HO} (hp : MV p = some ho) : NxM J MV G H (upd MV p ho') G (upd H p ho') := by
  refine ⟨Same.refl _, fun b h _ => h, fun b o e _ h2 => ?_, fun b hb => ?_, fun b hb => ?_, fun b hb => ?_⟩
  · rw [upd_ne (fun z => by rw [z, hp] at h2; cases h2)]; exact e
  · by_cases z : b = p
    · subst z; rw [upd_same]; simp
    · rw [upd_ne z]; exact hb
  · by_cases z : b = p
    · subst z; exact .inl (by rw [hp]; simp)
    · rw [upd_ne z] at hb; exact .inl hb
  · by_cases z : b = p
    · subst z; rw [upd_same]; simp
    · rw [upd_ne z]; exact hb
/-- xs.append(e) -/
theorem evm_app {R : Dt → Mm → Prop} (h : EvM K J M env D to fun o M1 => ∃ a ds0, o = .ptr a ∧ M1 a = some (.lst ds0) ∧ EvM K J M1 env D te fun d M2 => ∃ ds, M2 a = some (.lst ds) ∧ ds.length < 100000 ∧ R .non (updM M2 a (.lst (ds ++ [d])))) :
    EvM K J M env D (tBM K "list" rAppend to (tCons te tNil)) R := fun MV0 MV GB B G H σ a x Q q =>
  h MV0 MV GB B G H σ a x _ fun v o M1 MV1 G1 H1 n1 a1 r ⟨p, ds0, e, hM, k⟩ => by
    subst e
    cases r
    obtain ⟨vs0, _, h0, _⟩ := a1.wf.lstM hM
    refine ⟨.inl ⟨rfl, vs0, .inl (.inl h0)⟩, k MV0 MV1 GB B G1 H1 σ a1 x _ fun u d M2 MV2 G2 H2 n2 a2 rd ⟨ds, hM2, hz, k2⟩ => ?_⟩
    obtain ⟨us, e1, e2, t⟩ := a2.wf.lstM hM2
    refine ⟨p, us, u, rfl, rfl, e2, sz_lt (by rw [t.length]; exact hz), ?_⟩
    have n3 := a2.wf.chgN (ho' := .lst (us ++ [u])) e1
    exact q _ _ _ _ G2 _ ((n1.trans n2).trans n3) (a2.thenM n3 (a2.wf.chg e1 (.lst (t.append (.cons rd .nil))))) .non k2
theorem da_last {G : Hp} {vs : List V} {ds : List Dt} (t : Da K G vs ds) {d : Dt} (h : ds.getLast? = some d) : ∃ v, vs[vs.length - 1]? = some v ∧ Dr K G v d := by
  rw [List.getLast?_eq_getElem?] at h
  obtain ⟨v, h1, h2⟩ := t.get h
  exact ⟨v, by rw [t.length]; exact h1, h2⟩
theorem Da.dropLast {G : Hp} : ∀ {vs : List V} {ds : List Dt}, Da K G vs ds → Da K G vs.dropLast ds.dropLast
  | _, _, .nil => .nil
  | _, _, .cons r .nil => .nil
  | _, _, .cons r (.cons r2 t) => .cons r (Da.dropLast (.cons r2 t))
/-- xs.pop() -/
theorem evm_pop {R : Dt → Mm → Prop} (h : EvM K J M env D to fun o M1 => ∃ a ds d, o = .ptr a ∧ M1 a = some (.lst ds) ∧ ds.getLast? = some d ∧ R d (updM M1 a (.lst ds.dropLast))) :
    EvM K J M env D (tBM0 K "list" rPop to) R := fun MV0 MV GB B G H σ a x Q q =>
  h MV0 MV GB B G H σ a x _ fun v o M1 MV1 G1 H1 n1 a1 r ⟨p, ds, d, e, hM, hl, k⟩ => by
    subst e
    cases r
    obtain ⟨us, e1, e2, t⟩ := a1.wf.lstM hM
    obtain ⟨u, h1, h2⟩ := da_last t hl
    refine ⟨.inl ⟨rfl, us, .inl (.inl e2)⟩, p, us, u, rfl, rfl, e2, h1, ?_⟩
    have n3 := a1.wf.chgN (ho' := .lst us.dropLast) e1
    exact q _ _ _ _ G1 _ (n1.trans n3) (a1.thenM n3 (a1.wf.chg e1 (.lst t.dropLast))) h2 k
/-- xs.reverse() -/
theorem evm_reverse {R : Dt → Mm → Prop} (h : EvM K J M env D to fun o M1 => ∃ (a : Addr) (ns : List Int), o = .ptr a ∧ M1 a = some (.lst (ns.map Dt.int)) ∧ R .non (updM M1 a (.lst (ns.reverse.map Dt.int)))) :
    EvM K J M env D (tBM0 K "list" rReverse to) R := fun MV0 MV GB B G H σ a x Q q =>
  h MV0 MV GB B G H σ a x _ fun v o M1 MV1 G1 H1 n1 a1 r ⟨p, ns, e, hM, k⟩ => by
    subst e
    cases r
    obtain ⟨us, e1, e2, t⟩ := a1.wf.lstM hM
    have := t.ints_inv
    subst this
    refine ⟨.inl ⟨rfl, _, .inl (.inl e2)⟩, p, _, rfl, rfl, e2, ?_⟩
    have n3 := a1.wf.chgN (ho' := .lst (ns.map V.int).reverse) e1
    refine q _ _ _ _ G1 _ (n1.trans n3) (a1.thenM n3 (a1.wf.chg e1 (.lst ?_))) .non k
    rw [← List.map_reverse]
    exact Da.ints
theorem Da.ints_len {G : Hp} {vs : List V} {ns : List Int} (r : Da K G vs (ns.map Dt.int)) : vs = ns.map V.int := r.ints_inv
/-- xs.remove(k), whole numbers -/
theorem evm_remove {R : Dt → Mm → Prop} (h : EvM K J M env D to fun o M1 => ∃ (a : Addr) (ns0 : List Int), o = .ptr a ∧ M1 a = some (.lst (ns0.map Dt.int)) ∧ EvM K J M1 env D te fun d M2 => ∃ (ns : List Int) (k : Int) (j : Nat), d = .int k ∧ M2 a = some (.lst (ns.map Dt.int)) ∧ ns[j]? = some k ∧ (∀ m : Nat, m < j → ns[m]? ≠ some k) ∧ R .non (updM M2 a (.lst ((ns.eraseIdx j).map Dt.int)))) :
    EvM K J M env D (tBM K "list" rRemI to (tCons te tNil)) R := fun MV0 MV GB B G H σ a x Q q =>
  h MV0 MV GB B G H σ a x _ fun v o M1 MV1 G1 H1 n1 a1 r ⟨p, ds0, e, hM, k⟩ => by
    subst e
    cases r
    obtain ⟨vs0, _, h0, _⟩ := a1.wf.lstM hM
    refine ⟨.inl ⟨rfl, vs0, .inl (.inl h0)⟩, k MV0 MV1 GB B G1 H1 σ a1 x _ fun u d M2 MV2 G2 H2 n2 a2 rd ⟨ns, c, j, ed, hM2, hj, hm, k2⟩ => ?_⟩
    subst ed
    cases rd
    obtain ⟨us, e1, e2, t⟩ := a2.wf.lstM hM2
    have := t.ints_inv
    subst this
    refine ⟨p, ns, c, j, rfl, rfl, e2, hj, hm, ?_⟩
    have n3 := a2.wf.chgN (ho' := .lst ((ns.eraseIdx j).map V.int)) e1
    exact q _ _ _ _ G2 _ ((n1.trans n2).trans n3) (a2.thenM n3 (a2.wf.chg e1 (.lst Da.ints))) .non k2
/-- a new list among the told ones -/
theorem evm_new {R : Dt → Mm → Prop} (h : ∀ MV, Em K (Jt K J MV M) env te fun ds => ∀ p, M p = none → R (.ptr p) (updM M p (.lst ds))) : EvM K J M env D te R := fun MV0 MV GB B G H σ a x Q q =>
  h MV B G H σ a.wf a.en Q fun p vs ds G1 H1 n1 hG hH hp r k => by
    have hj : p ∉ J.ms := (not_jt.mp (a.wf.notin hH)).1
    have hM := a.wf.none_ hH
    have n2 := nxm_put (ho := .lst vs) (.inr hH) (NxM.of n1)
    exact q (.ref p) (.ptr p) _ _ G1 H1 n2 (a.thenM n2 ((n1.wf a.wf).put hj hG hp (.lst r))) (.ptr _) (k p hM.2)
theorem evm_lst {R : Dt → Mm → Prop} (h : EdM K J M env D tr fun ds M' => ds.length ≤ 100000 ∧ ∀ p, M' p = none → R (.ptr p) (updM M' p (.lst ds))) : EvM K J M env D (tLst tr) R := fun MV0 MV GB B G H σ a x Q q =>
  h MV0 MV GB B G H σ a x _ fun vs ds M' MV' G' H' n a' rs ⟨hz, k⟩ => ⟨sz_of (by rw [rs.length]; exact hz), fun p hp => by
    have hj : p ∉ J.ms := (not_jt.mp (a'.wf.notin hp)).1
    have hM := a'.wf.none_ hp
    have n1 := a'.wf.newM hp (.lst vs)
    have hH0 : MV p ≠ none ∨ H p = none := by
      cases z : H p with
      | none => exact .inr rfl
      | some o => exact absurd hp (n.th p (by rw [z]; simp))
    have n2 := nxm_put (ho := .lst vs) hH0 (n.trans (.of n1))
    exact q (.ref p) (.ptr p) _ _ G' _ n2 (a.thenM n2 ((n1.wf a'.wf).put hj (a'.wf.free hp) upd_same (.lst rs))) (.ptr _) (k p hM.2)⟩
/-- xs[k] = e -/
theorem sm_setP (h : EvM K J M env D te fun d M1 => EvM K J M1 env D to fun o M2 => EvM K J M2 env D ti fun i M3 => ∃ a ds j, o = .ptr a ∧ i = .int (j : Nat) ∧ M3 a = some (.lst ds) ∧ j < ds.length ∧ D.nx (updM M3 a (.lst (ds.set j d))) env) :
    SvM K J M env (tAsg te (gSub to ti rSetL)) D := fun MV0 MV GB B G H σ a E r =>
  h MV0 MV GB B G H σ a r.x _ fun v d M1 MV1 G1 H1 n1 a1 rd k => k MV0 MV1 GB B G1 H1 σ a1 r.x _ fun o od M2 MV2 G2 H2 n2 a2 ro k => k MV0 MV2 GB B G2 H2 σ a2 r.x _ fun i idd M3 MV3 G3 H3 n3 a3 ri ⟨p, ds, j, e1, e2, hM, hj, k3⟩ => by
    subst e1 e2
    cases ro
    cases ri
    obtain ⟨us, h1, h2, t⟩ := a3.wf.lstM hM
    refine ⟨p, us, (j : Int), j, rfl, rfl, h2, ixN_nat (by rw [t.length]; exact hj), ?_⟩
    have n4 := a3.wf.chgN (ho' := .lst (us.set j v)) h1
    exact r.nx _ _ env _ _ σ (a3.thenM n4 (a3.wf.chg h1 (.lst (t.set j (rd.mono (n2.gg.trans n3.gg)))))) k3
/-- o.f = e -/
theorem sm_fldP {f : Str} (h : EvM K J M env D tv fun d M1 => EvM K J M1 env D ta fun o M2 => ∃ a C fs, o = .ptr a ∧ M2 a = some (.ins C fs) ∧ Cls K C ∧ NoAttr K C f ∧ fs.length < 1000 ∧ D.nx (updM M2 a (.ins C (putD f d fs))) env) :
    SvM K J M env (sFld K ta tv f) D := fun MV0 MV GB B G H σ a E r =>
  h MV0 MV GB B G H σ a r.x _ fun v d M1 MV1 G1 H1 n1 a1 rd k => k MV0 MV1 GB B G1 H1 σ a1 r.x _ fun o od M2 MV2 G2 H2 n2 a2 ro ⟨p, C, fs, e, hM, hC, hf, hz, k⟩ => by
    subst e
    cases ro
    obtain ⟨dx, us, h1, h2, t⟩ := a2.wf.insM hM
    refine ⟨p, C, dx, us, rfl, h2, hC, hf, by rw [df_len t]; exact hz, ?_⟩
    have n4 := a2.wf.chgN (ho' := .ins C dx (putF f v us)) h1
    exact r.nx _ _ env _ _ σ (a2.thenM n4 (a2.wf.chg h1 (.ins (df_put (rd.mono n2.gg) t)))) k
/-- o.f op= e, whole numbers -/
theorem sm_fldAug {f : Str} {g : Int → Int → Int} {rd : V → V → Hp → VK → Prop} (hrd : ∀ i j H Q, Q (.int (g i j)) H → rd (.int i) (.int j) H Q) (h : EvM K J M env D ta fun o M1 => ∃ a C fs i, o = .ptr a ∧ M1 a = some (.ins C fs) ∧ Cls K C ∧ NoAttr K C f ∧ fs.lookup f = some (.int i) ∧ fs.length < 900 ∧
    EvM K J M1 env D tv fun d M2 => ∃ j, d = .int j ∧ M2 a = some (.ins C fs) ∧ D.nx (updM M2 a (.ins C (putD f (.int (g i j)) fs))) env) :
    SvM K J M env (sFldAug K ta tv rd f) D := fun MV0 MV GB B G H σ a E r =>
  h MV0 MV GB B G H σ a r.x _ fun o od M1 MV1 G1 H1 n1 a1 ro ⟨p, C, fs, i, e, hM, hC, hf, hl, hz, k⟩ => by
    subst e
    cases ro
    obtain ⟨dx, us, h1, h2, t⟩ := a1.wf.insM hM
    obtain ⟨y, h3, h4⟩ := df_lookup t hl
    cases h4
    refine ⟨p, C, dx, us, _, rfl, h2, hC, hf, h3, k MV0 MV1 GB B G1 H1 σ a1 r.x _ fun u d M2 MV2 G2 H2 n2 a2 ru ⟨j, e, hM2, k⟩ => ?_⟩
    subst e
    cases ru
    obtain ⟨dx2, us2, e1, e2, t2⟩ := a2.wf.insM hM2
    refine hrd i j H2 _ ⟨dx2, us2, e2, by rw [df_len t2]; omega, ?_⟩
    have n4 := a2.wf.chgN (ho' := .ins C dx2 (putF f (.int (g i j)) us2)) e1
    exact r.nx _ _ env _ _ σ (a2.thenM n4 (a2.wf.chg e1 (.ins (df_put (.int _) t2)))) k
/-- x op= e, whole numbers -/
theorem sm_aug {i : Nat} {x : Int} {g : Int → Int → Int} (hi : env[i]? = some (.d (.int x))) (h : EvM K J M env D te fun d M' => ∃ j, d = .int j ∧ D.nx M' (env.set i (.d (.int (g x j))))) :
    SvM K J M env (tAug i te (ipI g)) D := fun MV0 MV GB B G H σ a E r => by
  obtain ⟨v, e, rv⟩ := a.en.dat hi
  cases rv
  refine ⟨_, e, h MV0 MV GB B G H σ a r.x _ fun u d M' MV' G' H' n a' rd ⟨j, ed, k⟩ => ?_⟩
  subst ed
  cases rd
  exact ⟨x, j, rfl, rfl, r.nx M' MV' _ G' H' _ (a'.setD (.int _)) k⟩
/-! ### raise -/
theorem sm_raise {C : Addr} {fs : List Str} {sW : WX} (T : OexC K C) (hf : ∀ f ∈ fs, PySem.W.findIn K (.ref C) f = some none) (hW : D.xw = sW) (h : ∀ MV, Ed K (Jt K J MV M) env tr fun ds => ds.length = fs.length ∧ fs.length ≤ 1000 ∧ D.xc C (fs.zip ds).reverse M env) :
    SvM K J M env (tRaiseT (tMkO C (spI K fs) [] tr) sW) D := sm_of fun MV => sv_raise T hf hW (h MV)
/-! ### try -/
def ClM (K : PySem.W.Frag) (J : Jm) (D : DM) (C : Addr) (fs : List (Str × Dt)) (M : Mm) (env : List Sl) : List Clause → Prop
  | [] => False
  | k :: r => ∃ b, PySem.W.exmOne K (.ref C) k.c = some b ∧ (b = true → ∀ a d, SvM K J M (env.set k.i (.xv a d fs)) (k.ts a (.ref C) (some d)) { nx := fun m e => D.nx m (e.set k.i .no), rt := D.rt, bk := fun m e => D.bk m (e.set k.i .no), ct := fun m e => D.ct m (e.set k.i .no) }) ∧
    (b = false → ClM K J D C fs M env r)
theorem wN_ofM {MV0 : Mh} {GB B G H : Hp} {σ : L2.St} {C d : Addr} {vs : List (Str × V)} {fs : List (Str × Dt)} {E : Ends} (a : AtM K J MV0 GB B MV M G H σ env) (g : G d = some (.xd vs)) (rf : Df K G vs fs) (r : Rts K J MV0 GB B D E) :
    ∀ l, ClM K J D C fs M env l → wN K (fun _ _ _ _ => False) E l (.ref C) (some d) σ H
  | [], h => h.elim
  | k :: r', ⟨b, h1, h2, h3⟩ => by
    refine ⟨b, h1, fun hb x hx => ?_, fun hb => wN_ofM a g rf r r' (h3 hb)⟩
    refine h2 hb x d MV0 MV GB B G H _ ⟨a.wf, a.nx, a.en.setX g rf⟩ (outN k.i E) ⟨?_, ?_, ?_, r.rt, fun _ _ _ _ _ _ _ _ _ _ _ _ _ z => z.elim⟩
    · intro M' MV' e G' H' σ' a' z
      exact r.nx M' MV' _ G' H' _ ⟨a'.wf, a'.nx, a'.en.setN⟩ z
    · intro M' MV' e G' H' σ' a' z
      exact r.bk M' MV' _ G' H' _ ⟨a'.wf, a'.nx, a'.en.setN⟩ z
    · intro M' MV' e G' H' σ' a' z
      exact r.ct M' MV' _ G' H' _ ⟨a'.wf, a'.nx, a'.en.setN⟩ z
theorem sm_try {tb : WX → TS} {l : List Clause} (h : ∀ W : WX, SvM K J M env (tb W) { D with xw := W, xc := fun C fs m e => ClM K J D C fs m e l }) : SvM K J M env (tTry K tb (fun _ _ _ _ => False) l) D := fun MV0 MV GB B G H σ a E r =>
  h (wN K (fun _ _ _ _ => False) E l) MV0 MV GB B G H σ a E ⟨r.nx, r.bk, r.ct, r.rt, fun C d vs fs e MV' M' G' H' σ' a' g rf z => wN_ofM a' g rf r l z⟩
end
/-! ### methods -/
def tMethX (C : Addr) (m : Str) (sp : Sp) (E : L2.St → XK) (ta : TE) (t : TA) : TE := fun σ H Q => ta σ H fun x H1 => ∃ a dx fs, x = .ref a ∧ H1 a = some (.ins C dx fs) ∧ fs.lookup m = none ∧ t σ H1 fun vs H2 => sp (x :: vs) H2 Q (E σ)
structure CalM (P : Program) (w : World) (K : PySem.W.Frag) (mg : Str → Option Value) (base : Heap) (k : Nat) (C : Addr) (m : Str) (ps : List Str) (sp : Sp) : Prop where
  ex : ∃ f fd, FnOk P w K mg base (L2.CX P w) k f fd ps sp ∧ Meth K C m f ∧ Binds K fd ps []
  cls : Cls K C
theorem CalM.mono {P : Program} {w : World} {K : PySem.W.Frag} {mg : Str → Option Value} {base : Heap} {j k : Nat} {C : Addr} {m : Str} {ps : List Str} {sp : Sp} (c : CalM P w K mg base j C m ps sp) (h : j ≤ k) : CalM P w K mg base k C m ps sp := by
  obtain ⟨f, fd, F, g, b⟩ := c.ex
  exact ⟨⟨f, fd, F.mono h, g, b⟩, c.cls⟩
section
variable {X : Cx} {k : Nat} {C : Addr} {m : Str} {ps : List Str} {sp : Sp} {o e : Expr} {es : List Expr} {ta : TE} {t : TA} {apos pos : Pos}
theorem pe_methW {pl : Sem Bool} (W : WX) (tk : Takes X W) (c : CalM X.prog X.w X.K X.mg X.base k C m ps sp) (hr : Room k X.A) (he : PE X o ta) (ha : PA X (e :: es) t)
    (hst : starEach (e :: es) X.env = (false, eval e X.env) :: starEach es X.env := by rfl) (hpl : (backTo pos (starEach es X.env)).any (·.1) = false := by rfl)
    (ht : eval (.Call (.Attribute o m apos) (e :: es) [] pos) X.env = (do
      let ov ← eval o X.env
      standAt apos.atName
      let (f, first) ← holding [ov] (getMethod ov m pl)
      callWith pos f first (backTo pos (starEach (e :: es) X.env)) (backToKw pos (keywordEach [] X.env))) := by rfl) :
    PE X (.Call (.Attribute o m apos) (e :: es) [] pos) (tMethX C m sp (WE W) ta t) := by
  obtain ⟨f, fd, F, hm, b⟩ := c.ex
  refine ⟨fun pins s σ H Q I h => ?_⟩
  refine PySem.W.methodCall_KW (pl := pl) (thn (he.run pins s σ H _ I h) fun u s1 ⟨x, H1, I1, rx, a, dx, fs, ex, ea, l, q⟩ => ?_) ht
  subst ex
  obtain rfl : u = Value.ref a := rx
  refine getmeth_ok I1 ea c.cls hm l ?_
  refine PySem.W.callWith_K (first := [.ref a]) (h₀ := X.base) I.ok.mod.kin hm.kp (thn (ha.run pos pins s1 σ H1 _ I1 q) fun us s2 ⟨vs, H2, I2, r, q2⟩ => ⟨I2.kIn, ?_⟩) hst hpl
  exact run_fnS (us := .ref a :: us) (vs := .ref a :: vs) (E := WE W) F hr b (passAt tk σ) I2 (.cons rfl r) q2
theorem pe_methW0 {pl : Sem Bool} (W : WX) (tk : Takes X W) (c : CalM X.prog X.w X.K X.mg X.base k C m ps sp) (hr : Room k X.A) (he : PE X o ta)
    (ht : eval (.Call (.Attribute o m apos) [] [] pos) X.env = (do
      let ov ← eval o X.env
      standAt apos.atName
      let (f, first) ← holding [ov] (getMethod ov m pl)
      callWith pos f first (backTo pos (starEach [] X.env)) (backToKw pos (keywordEach [] X.env))) := by rfl) :
    PE X (.Call (.Attribute o m apos) [] [] pos) (tMethX C m sp (WE W) ta tNil) := by
  obtain ⟨f, fd, F, hm, b⟩ := c.ex
  refine ⟨fun pins s σ H Q I h => ?_⟩
  refine PySem.W.methodCall_KW (pl := pl) (thn (he.run pins s σ H _ I h) fun u s1 ⟨x, H1, I1, rx, a, dx, fs, ex, ea, l, q⟩ => ?_) ht
  subst ex
  obtain rfl : u = Value.ref a := rx
  refine getmeth_ok I1 ea c.cls hm l ?_
  exact PySem.W.callWith_K0 (first := [.ref a]) I1.kIn hm.kp (run_fnS (us := [.ref a]) (vs := [.ref a]) (E := WE W) F hr b (passAt tk σ) I1 (.cons rfl .nil) q)
theorem pe_methE {pl : Sem Bool} (c : CalM X.prog X.w X.K X.mg X.base k C m ps sp) (hr : Room k X.A) (he : PE X o ta) (ha : PA X (e :: es) t)
    (hst : starEach (e :: es) X.env = (false, eval e X.env) :: starEach es X.env := by rfl) (hpl : (backTo pos (starEach es X.env)).any (·.1) = false := by rfl)
    (ht : eval (.Call (.Attribute o m apos) (e :: es) [] pos) X.env = (do
      let ov ← eval o X.env
      standAt apos.atName
      let (f, first) ← holding [ov] (getMethod ov m pl)
      callWith pos f first (backTo pos (starEach (e :: es) X.env)) (backToKw pos (keywordEach [] X.env))) := by rfl) :
    PE X (.Call (.Attribute o m apos) (e :: es) [] pos) (tMethX C m sp (fun _ => E0) ta t) := by
  obtain ⟨f, fd, F, hm, b⟩ := c.ex
  refine ⟨fun pins s σ H Q I h => ?_⟩
  refine PySem.W.methodCall_KW (pl := pl) (thn (he.run pins s σ H _ I h) fun u s1 ⟨x, H1, I1, rx, a, dx, fs, ex, ea, l, q⟩ => ?_) ht
  subst ex
  obtain rfl : u = Value.ref a := rx
  refine getmeth_ok I1 ea c.cls hm l ?_
  refine PySem.W.callWith_K (first := [.ref a]) (h₀ := X.base) I.ok.mod.kin hm.kp (thn (ha.run pos pins s1 σ H1 _ I1 q) fun us s2 ⟨vs, H2, I2, r, q2⟩ => ⟨I2.kIn, ?_⟩) hst hpl
  refine run_fn (dvs := []) (ds := []) (us := .ref a :: us) (vs := .ref a :: vs) F hr b .nil passL I2 (.cons rfl r) ?_
  rw [List.append_nil]
  exact q2
theorem pe_methE0 {pl : Sem Bool} (c : CalM X.prog X.w X.K X.mg X.base k C m ps sp) (hr : Room k X.A) (he : PE X o ta)
    (ht : eval (.Call (.Attribute o m apos) [] [] pos) X.env = (do
      let ov ← eval o X.env
      standAt apos.atName
      let (f, first) ← holding [ov] (getMethod ov m pl)
      callWith pos f first (backTo pos (starEach [] X.env)) (backToKw pos (keywordEach [] X.env))) := by rfl) :
    PE X (.Call (.Attribute o m apos) [] [] pos) (tMethX C m sp (fun _ => E0) ta tNil) := by
  obtain ⟨f, fd, F, hm, b⟩ := c.ex
  refine ⟨fun pins s σ H Q I h => ?_⟩
  refine PySem.W.methodCall_KW (pl := pl) (thn (he.run pins s σ H _ I h) fun u s1 ⟨x, H1, I1, rx, a, dx, fs, ex, ea, l, q⟩ => ?_) ht
  subst ex
  obtain rfl : u = Value.ref a := rx
  refine getmeth_ok I1 ea c.cls hm l ?_
  refine PySem.W.callWith_K0 (first := [.ref a]) I1.kIn hm.kp (run_fn (dvs := []) (ds := []) (us := [.ref a]) (vs := [.ref a]) F hr b .nil passL I1 (.cons rfl .nil) ?_)
  exact q
end
section
variable {K : PySem.W.Frag} {J : Jm} {M : Mm} {env : List Sl} {D : DM} {ta : TE} {t : TA} {C : Addr} {m : Str} {W : FwP} {R : Dt → Mm → Prop}
theorem evm_methG {E : L2.St → XK} (XC : Addr → List (Str × Dt) → Mm → Prop) (hE : (∀ cls d σ H, D.xw cls d σ H → E σ cls d H) ∧ (∀ C fs m, XC C fs m → D.xc C fs m env) ∨ ∀ C fs m, ¬ XC C fs m)
    (h : EvM K J M env D ta fun o M1 => ∃ a fs, o = .ptr a ∧ M1 a = some (.ins C fs) ∧ fs.lookup m = none ∧ EaM K J M1 env D t fun ss M2 => W M2 (.d (.ptr a) :: ss) R XC) : EvM K J M env D (tMethX C m (CtP K W) E ta t) R := fun MV0 MV GB B G H σ a x Q q =>
  h MV0 MV GB B G H σ a x _ fun v o M1 MV1 G1 H1 n1 a1 r ⟨p, fs, e, hM, hl, k⟩ => by
    subst e
    cases r
    obtain ⟨dx, us, _, h2, t⟩ := a1.wf.insM hM
    have hl2 : us.lookup m = none := by
      have : ∀ {us : List (Str × V)} {fs : List (Str × Dt)}, Df K G1 us fs → fs.lookup m = none → us.lookup m = none := by
        intro us fs t
        refine Df.rec (motive_1 := fun _ _ _ => True) (motive_2 := fun _ _ _ => True) (motive_3 := fun us fs _ => fs.lookup m = none → us.lookup m = none) trivial (fun _ => trivial) (fun _ => trivial) (fun _ => trivial) (fun _ => trivial) (fun _ _ _ => trivial) (fun _ _ _ => trivial) (fun _ _ _ => trivial) trivial (fun _ _ _ _ => trivial) (fun h => rfl) (fun {f v vs d ds} _ _ _ ih h => ?_) t
        rw [List.lookup_cons] at h ⊢
        by_cases e : (m == f) = true
        · rw [e] at h; cases h
        · rw [Bool.not_eq_true] at e
          rw [e] at h ⊢
          exact ih h
      exact this t hl
    refine ⟨p, dx, us, rfl, h2, hl2, k MV0 MV1 GB B G1 H1 σ a1 x _ fun vs ss M2 MV2 G2 H2 n2 a2 rs k2 => ?_⟩
    refine ⟨J, M2, MV2, G2, _, R, _, a2.wf, .cons (show Sv1 K (Jt K J MV2 M2) G2 (.ref p) (.d (.ptr p)) from .ptr p) rs, k2, fun v d M3 MV3 G3 H3 n3 w3 rd y => q v d M3 MV3 G3 H3 ((n1.trans n2).trans n3) (a2.thenM n3 w3) rd y, fun C d vs fs M3 MV3 G3 H3 n3 w3 g rf y => ?_⟩
    rcases hE with ⟨hE, hX⟩ | hE
    · exact hE _ _ _ _ (x C d vs fs env MV3 M3 G3 H3 σ (a2.thenM n3 w3) g rf (hX _ _ _ y))
    · exact absurd y (hE _ _ _)
/-- a method of a told instance -/
theorem evm_meth (h : EvM K J M env D ta fun o M1 => ∃ a fs, o = .ptr a ∧ M1 a = some (.ins C fs) ∧ fs.lookup m = none ∧ EaM K J M1 env D t fun ss M2 => W M2 (.d (.ptr a) :: ss) R fun C fs m => D.xc C fs m env) : EvM K J M env D (tMethX C m (CtP K W) (WE D.xw) ta t) R :=
  evm_methG _ (.inl ⟨fun _ _ _ _ z => z, fun _ _ _ z => z⟩) h
theorem evm_meth0 (h : EvM K J M env D ta fun o M1 => ∃ a fs, o = .ptr a ∧ M1 a = some (.ins C fs) ∧ fs.lookup m = none ∧ EaM K J M1 env D t fun ss M2 => W M2 (.d (.ptr a) :: ss) R fun _ _ _ => False) : EvM K J M env D (tMethX C m (CtP K W) (fun _ => E0) ta t) R :=
  evm_methG _ (.inr fun _ _ _ z => z) h
theorem SvA.put {MV MV' : Mh} {M' : Mm} {G : Hp} : ∀ {vs : List V} {ss : List Sl}, SvA K (Jt K J MV M) G vs ss → SvA K (Jt K J MV' M') G vs ss
  | _, _, .nil => .nil
  | _, s :: _, .cons r t => .cons (by cases s <;> first | exact r | exact False.elim r) (SvA.put t)
/-! ### a new instance among the told ones; its __init__ is a def like others -/
theorem evm_make (h : EaM K J M env D t fun ss M1 => ∀ p, M1 p = none → W (updM M1 p (.ins C [])) (.d (.ptr p) :: ss) (fun d M' => d = .non ∧ R (.ptr p) M') fun _ _ _ => False) : EvM K J M env D (tMake C (CtP K W) [] E0 t) R := fun MV0 MV GB B G H σ a x Q q =>
  h MV0 MV GB B G H σ a x _ fun vs ss M1 MV1 G1 H1 n1 a1 rs k => fun y dx hy hdx hne => by
    show CtP K W (.ref y :: (vs ++ [])) _ _ _
    rw [List.append_nil]
    have w1 := a1.wf
    have m2 := w1.newM hdx (.own y)
    have w2 := m2.wf w1
    have hy2 : (upd H1 dx (.own y)) y = none := by rw [upd_ne hne.symm]; exact hy
    have m3 := w2.newM hy2 (.ins C dx [])
    have w3 := m3.wf w2
    have hH0 : MV1 y ≠ none ∨ H1 y = none := .inr hy
    have n3 := nxm_put (ho := .ins C dx []) hH0 ((NxM.of m2).trans (.of m3))
    have hj : y ∉ J.ms := (not_jt.mp (w1.notin hy)).1
    have w4 : Wf (Jt K J (upd MV1 y (.ins C dx [])) (updM M1 y (.ins C []))) G1 (upd (upd H1 dx (.own y)) y (.ins C dx [])) := w3.put hj (w1.free hy) upd_same (.ins .nil)
    have e3 : Same G1 G1 := Same.refl _
    refine ⟨J, _, _, G1, _, _, _, w4, .cons (show Sv1 K (Jt K J _ _) G1 (.ref y) (.d (.ptr y)) from .ptr y) (?_), k y (w1.none_ hy).2, fun v d M4 MV4 G4 H4 n4 w5 rd ⟨ed, kr⟩ => ?_, fun _ _ _ _ _ _ _ _ _ _ _ _ z => z.elim⟩
    · exact rs.put
    · subst ed
      cases rd
      exact ⟨rfl, q (.ref y) (.ptr y) M4 MV4 G4 H4 ((n1.trans n3).trans n4) (a1.thenM (n3.trans n4) w5) (.ptr _) kr⟩
end
/-! ### a def by its body -/
section
variable {P : Program} {w : World} {K : PySem.W.Frag} {mg : Str → Option Value} {base : Heap}
/-- fewer told objects -/
theorem Wf.less {J : Jm} {MV : Mh} {M M' : Mm} {G H : Hp} (w : Wf (Jt K J MV M) G H) (h : ∀ a o, M' a = some o → M a = some o) : Wf (Jt K J (fun a => if (M' a).isSome then MV a else none) M') G H := by
  refine ⟨w.gh, ⟨w.ok.1, fun a ha => ?_, fun a o e => ?_⟩, fun m hm => ?_, w.tr.1, fun a => ?_⟩
  · by_cases z : (M' a).isSome = true
    · simp only [z, if_true] at ha; exact w.ok.2.1 a ha
    · simp only [z] at ha; exact absurd rfl ha
  · by_cases z : (M' a).isSome = true
    · simp only [z, if_true] at e; exact w.ok.2.2 a o e
    · simp only [z] at e; cases e
  · refine w.ms m (hm.elim .inl fun h => .inr ?_)
    by_cases z : (M' m).isSome = true
    · simp only [z, if_true] at h; exact h
    · simp only [z] at h; exact absurd rfl h
  · refine ⟨fun ob e => ?_, fun e => ?_⟩
    · obtain ⟨ho, h1, h2⟩ := (w.tr.2 a).1 ob (h a ob e)
      exact ⟨ho, by simp only [e, Option.isSome_some, if_true]; exact h1, h2⟩
    · simp only [e, Option.isSome_none]; rfl
theorem nxm_less {J : Jm} {MV MV' : Mh} {M0 M : Mm} {M' : Mm} {G H G' H' : Hp} (n : NxM J MV G H MV' G' H') (k : ∀ a, MV a ≠ none → (M' a).isSome = true) : NxM J MV G H (fun a => if (M' a).isSome then MV' a else none) G' H' :=
  ⟨n.gg, n.fr, n.kp, n.th, fun b hb => by
    by_cases z : (M' b).isSome = true
    · simp only [z, if_true] at hb; exact n.dm b hb
    · simp only [z] at hb; exact absurd rfl hb, fun b hb => by
    simp only [k b hb, if_true]; exact n.dk b hb⟩
/-- told at the end: what was told ahead, and no more than wanted -/
def Less (M M' : Mm) (P : Mm → Prop) : Prop := ∃ M2, (∀ a o, M2 a = some o → M' a = some o) ∧ (∀ a, M a ≠ none → M2 a ≠ none) ∧ P M2
theorem less_same {M M' : Mm} {P : Mm → Prop} (h : ∀ a, M a ≠ none → M' a ≠ none) (p : P M') : Less M M' P := ⟨M', fun _ _ e => e, h, p⟩
theorem less_refl {M : Mm} {P : Mm → Prop} (p : P M) : Less M M P := ⟨M, fun _ _ e => e, fun _ h => h, p⟩
theorem ok_ctp {x qual : Str} {st : Stmt} {f : Addr} {fd : FuncData} {N ps : List Str} {k : Nat} {W : FwP} (F : L2.Fun K x qual st f fd) (S : FnScope N ps (defScope st)) (hn : ∀ M ss P PX, W M ss P PX → ss.length = ps.length)
    (hb : ∀ (cdv : Value) (A : Around) (outer : List PySem.Env) (s : Shared) (H : Hp) (E : XK), Room k (A.deeper (envOfC qual (defScope st) s.heap.objs.size f cdv)) →
      ∃ t, PSs (cxOf (L2.CX P w) P w K mg base N qual (defScope st) f cdv A outer s H E) (defBody st) t ∧ ∀ J M ss P PX, W M ss P PX → SvM K J M (startE N ss) t { nx := fun m _ => Less M m (P .non), rt := fun d m => Less M m (P d), xw := fun cls d _ H => E cls d H, xc := fun C fs m _ => Less M m (PX C fs) }) :
    FnOk P w K mg base (L2.CX P w) (k + 1) f fd ps (CtP K W) := by
  refine F.okX S (fun vs H Q E h => ?_) (fun cdv A outer s H vs Q E hr h => ?_)
  · obtain ⟨J, M, MV, G, ss, P, PX, wf, sv, hW, _⟩ := h
    rw [sv.length, hn M ss P PX hW]
  · obtain ⟨J, M, MV, G, ss, P, PX, wf, sv, hW, q, qx⟩ := h
    obtain ⟨t, hp, ht⟩ := hb cdv A outer s H E hr
    refine ⟨t, hp, ?_⟩
    have key : ∀ {MV' : Mh} {M2 : Mm}, (∀ a, M a ≠ none → M2 a ≠ none) → ∀ a, MV a ≠ none → (M2 a).isSome = true := fun {MV' M2} hk a ha => by
      have : M a ≠ none := fun z => ha ((wf.tr.2 a).2 z)
      exact Option.isSome_iff_ne_none.mpr (hk a this)
    refine ht J M ss P PX hW MV MV G H G H (L2.start N vs) ⟨wf, .refl, en_start sv⟩ _ ⟨fun M' MV' e G' H' σ' a ⟨M2, h1, h2, p⟩ => ?_, fun _ _ _ _ _ _ _ x => x.elim, fun _ _ _ _ _ _ _ x => x.elim, fun v d M' MV' G' H' n w' r ⟨M2, h1, h2, p⟩ => ?_, fun C d vs fs e MV' M' G' H' σ' a g r ⟨M2, h1, h2, p⟩ => ?_⟩
    · exact q .non .non M2 _ G' H' (nxm_less (M0 := M) (M := M) a.nx (key (MV' := MV') h2)) (a.wf.less h1) .non p
    · exact q v d M2 _ G' H' (nxm_less (M0 := M) (M := M) n (key (MV' := MV') h2)) (w'.less h1) r p
    · exact qx C d vs fs M2 _ G' H' (nxm_less (M0 := M) (M := M) a.nx (key (MV' := MV') h2)) (a.wf.less h1) g r p
end
end Mv

set_option Elab.async false
set_option linter.all false
set_option maxRecDepth 100000
set_option maxHeartbeats 4000000
namespace Mv
open PySem PySem.Spec PyProof.Rows L2
def Mn : Mm := fun _ => none
def MVn : Mh := fun _ => none
section
variable {K : PySem.W.Frag} {J : Jm} {env : List Sl} {R : Dt → Prop} {te ta tb ti to tk tv : TE} {tr : TA} {D : DE} {ts : TS}
theorem wfN {G H : Hp} (w : Wf J G H) : Wf (Jt K J MVn Mn) G H :=
  ⟨w.gh, ⟨w.ok, fun a h => absurd rfl h, fun a o e => (nomatch e)⟩, fun m hm => w.ms m (hm.elim id fun h => absurd rfl h), w.tr, fun a => ⟨fun ob e => (nomatch e), fun _ => rfl⟩⟩
theorem wfB {MV : Mh} {M : Mm} {G H : Hp} (w : Wf (Jt K J MV M) G H) : Wf J G H := ⟨w.gh, w.ok.1, fun m hm => w.ms m (.inl hm), w.tr.1⟩
theorem SlOk.toM {B G H : Hp} {ov : Option V} {s : Sl} (h : SlOk K J B G H ov s) : SlOk K (Jt K J MVn Mn) B G H ov s := by
  have key : ∀ p, p ∉ J.ms → p ∉ (Jt K J MVn Mn).ms := fun p h => not_jt.mpr ⟨h, rfl⟩
  cases s with
  | no => trivial
  | d x => exact h
  | ml xs => obtain ⟨p, vs, e, hB, hG, hm, r⟩ := h; exact ⟨p, vs, e, hB, hG, key p hm, r⟩
  | hand => exact h
  | hnd => exact h
  | tap => exact h
  | xv a d fs => exact h
  | mi p C fs => obtain ⟨dx, vs, e, hB, hG, hm, r⟩ := h; exact ⟨dx, vs, e, hB, hG, key p hm, r⟩
  | md kvs => obtain ⟨p, vs, e, hB, hG, hm, r⟩ := h; exact ⟨p, vs, e, hB, hG, key p hm, r⟩
theorem SlOk.ofM {MV : Mh} {M : Mm} {B G H : Hp} {ov : Option V} {s : Sl} (h : SlOk K (Jt K J MV M) B G H ov s) : SlOk K J B G H ov s := by
  have key : ∀ p, p ∉ (Jt K J MV M).ms → p ∉ J.ms := fun p h => (not_jt.mp h).1
  cases s with
  | no => trivial
  | d x => exact h
  | ml xs => obtain ⟨p, vs, e, hB, hG, hm, r⟩ := h; exact ⟨p, vs, e, hB, hG, key p hm, r⟩
  | hand => exact h
  | hnd => exact h
  | tap => exact h
  | xv a d fs => exact h
  | mi p C fs => obtain ⟨dx, vs, e, hB, hG, hm, r⟩ := h; exact ⟨dx, vs, e, hB, hG, key p hm, r⟩
  | md kvs => obtain ⟨p, vs, e, hB, hG, hm, r⟩ := h; exact ⟨p, vs, e, hB, hG, key p hm, r⟩
theorem nxN {GB B G H : Hp} (n : Nx J GB B G H) : NxM J MVn GB B MVn G H := ⟨n.gg, n.fr, fun b o e h _ => n.kp b o e h, n.th, fun b h => absurd rfl h, fun b h => h⟩
theorem nxB {MV : Mh} {M : Mm} {GB B G H : Hp} (n : NxM J MVn GB B MV G H) (w : Wf (Jt K J MV M) G H) : Nx J GB B G H := ⟨n.gg, w.gh, n.fr, fun b o e h => n.kp b o e h rfl, n.th, w.ok.1⟩
/-- from here on objects may be told -/
theorem sv_toM (h : SvM K J Mn env ts { nx := fun _ e => D.nx e, rt := fun d _ => D.rt d, bk := fun _ e => D.bk e, ct := fun _ e => D.ct e, xw := D.xw, xc := fun C fs _ e => D.xc C fs e }) : Sv K J env ts D := fun GB B G H σ a E q1 q2 q3 q4 _ q6 => by
  have back : ∀ {M' : Mm} {MV' : Mh} {e : List Sl} {G' H' : Hp} {σ' : L2.St}, AtM K J MVn GB B MV' M' G' H' σ' e → At K J GB B G' H' σ' e := fun a' => ⟨wfB a'.wf, nxB a'.nx a'.wf, ⟨a'.en.len, fun i s hs => let ⟨ov, x, y⟩ := a'.en.ok i s hs; ⟨ov, x, y.ofM⟩, a'.en.ap⟩⟩
  exact h MVn MVn GB B G H σ ⟨wfN a.wf, nxN a.nx, ⟨a.en.len, fun i s hs => let ⟨ov, x, y⟩ := a.en.ok i s hs; ⟨ov, x, y.toM⟩, a.en.ap⟩⟩ E
    ⟨fun M' MV' e G' H' σ' a' x => q1 e G' H' σ' (back a') x, fun M' MV' e G' H' σ' a' x => q2 e G' H' σ' (back a') x, fun M' MV' e G' H' σ' a' x => q3 e G' H' σ' (back a') x, fun v d M' MV' G' H' n w r x => q4 v d G' H' (nxB n w) r x,
      fun C d vs fs e MV' M' G' H' σ' a' g r x => q6 C d vs fs e G' H' σ' (back a') g r x⟩
/-! ### own lists turned round -/
theorem sv_rev {i : Nat} {ns : List Int} (hi : env[i]? = some (.ml (ns.map Dt.int))) (h : D.nx (env.set i (.ml (ns.reverse.map Dt.int)))) : Sv K J env (tDrop (tBM0 K "list" rReverse (tVar i))) D := fun GB B G H σ a E q1 _ _ _ _ _ => by
  obtain ⟨ov, h1, p, vs, h2, hB, hG, hm, hH, r⟩ := a.en.ok i _ hi
  have hs : σ[i]? = some (some (.ref p)) := by rw [h1, h2]
  have := r.ints_inv
  subst this
  refine ⟨.ref p, hs, .inl ⟨rfl, _, .inl (.inl hH)⟩, p, _, rfl, rfl, hH, q1 _ G _ σ ?_ h⟩
  have n2 := a.nx.mut (o' := .lst (ns.map V.int).reverse) hB hG hm hH
  refine ⟨⟨n2.gh, n2.ok, fun m hmm => ⟨(a.wf.ms m hmm).1, ?_⟩, a.wf.tr⟩, n2, ?_⟩
  · rw [upd_ne (ne_memP hm hmm)]; exact (a.wf.ms m hmm).2
  · rw [← List.map_reverse]
    exact a.en.upd1 hi hs Da.ints
end
/-! ### the second kind of hand -/
def W_take1 : Fw := fun ss P => ∃ m : Int, ss = [.hnd, .d (.int m)] ∧ 0 < m ∧ ∀ x : Int, 0 ≤ x → x < m → P (.int x)
def W_asked : FwP := fun M ss P _ => ss = [.hnd] ∧ M = Mn ∧ P (.bl true) Mn
section
variable {P : Program} {w : World} {K : PySem.W.Frag} {mg : Str → Option Value} {base : Heap}
theorem take_ok1 {f : Addr} {fd : FuncData} {qual : Str} {st : Stmt} {N ps : List Str} {k : Nat} (F : L2.Fun K qual qual st f fd) (S : FnScope N ps (defScope st)) (h2 : ps.length = 2)
    (hb : ∀ (cdv : Value) (A : Around) (outer : List PySem.Env) (s : Shared) (H : Hp) (E : XK), Room k (A.deeper (envOfC qual (defScope st) s.heap.objs.size f cdv)) →
      ∃ t, PSs (cxOf CX0 P w K mg base N qual (defScope st) f cdv A outer s H E).nox (defBody st) t ∧
        ∀ (h : Addr) (ns : List Int) (m : Int) (Q : VK), H h = some (.lst (ns.map V.int)) → 0 < m → (ns = [] → Q (.int 0) H) →
          (∀ x : Int, 0 ≤ x → x < m → ns ≠ [] → Q (.int x) (upd H h (.lst (ns.dropLast.map V.int)))) → t { nx := fun _ H' => Q .non H', rt := Q } (L2.start N [.ref h, .int m]) H) :
    FnOk P w K mg base CX0 (k + 1) f fd ps (Ct K W_take1) := by
  refine F.ok S (fun vs H Q E h => ?_) (fun cdv A outer s H vs Q E hr h => ?_)
  · obtain ⟨J, G, ss, P, wf, sv, ⟨m, e, _⟩, _⟩ := h
    rw [sv.length, e, h2]
    rfl
  · obtain ⟨J, G, ss, P, wf, sv, ⟨m, e, hm, hP⟩, q⟩ := h
    obtain ⟨t, hp, ht⟩ := hb cdv A outer s H E hr
    subst e
    cases sv with
    | cons s1 s2 =>
      cases s2 with
      | cons s2 s3 =>
        cases s3
        obtain ⟨h, e1, e2⟩ := s1
        have r2 : Dr K G _ (.int m) := s2
        cases r2
        subst e1
        obtain ⟨ns, a, c⟩ := J.hg _ _ e2 wf.ok
        have hms : h ∈ J.ms := J.hm _ e2
        have hG := (wf.ms h hms).1
        refine ⟨t, hp, ht h ns m Q a hm (fun _ => q _ _ G H wf.nx (.int _) (hP 0 (Int.le_refl _) hm)) fun x h0 h1 hn => q (.int x) (.int x) G _ ?_ (.int x) (hP x h0 h1)⟩
        refine ⟨Same.refl _, fun b o e => ?_, fun b e _ => e, fun b o e hb => ?_, fun b e => ?_, J.hp _ _ _ e2 wf.ok ⟨ns.dropLast, upd_same, by rw [List.length_dropLast]; omega⟩ fun b _ hb => upd_ne hb⟩
        · rw [upd_ne (ne_of_none e hG)]; exact wf.gh b o e
        · rw [upd_ne (fun z => hb (by rw [z]; exact hms))]; exact e
        · by_cases z : b = h
          · subst z; rw [upd_same]; simp
          · rw [upd_ne z]; exact e
/-- a law: try: return asked(hand(script, ..)) except ..: .. -/
theorem ok_lw2 {x qual : Str} {st : Stmt} {f : Addr} {fd : FuncData} {N : List Str} {k : Nat} {W_hand : FwM} {ta : TA} {c : Value} {ts : Addr → Value → Option Addr → TS} (F : L2.Fun K x qual st f fd) (S : FnScope N ["script"] (defScope st))
    (ht : ∀ ns : List Int, ns.length ≤ 63 → Ea K J0 (startE N [.d (.lst (ns.map Dt.int))]) ta fun ss => W_hand ss fun ds => ∃ rs : List Int, ds = rs.map Dt.int ∧ rs.length ≤ 1000)
    (hb : ∀ (cdv : Value) (A : Around) (outer : List PySem.Env) (s : Shared) (H : Hp) (E : XK), Room k (A.deeper (envOfC qual (defScope st) s.heap.objs.size f cdv)) →
      PSs (cxOf CX0 P w K mg base N qual (defScope st) f cdv A outer s H E).nox (defBody st) (fun D σ H => (fun W => tRet (tCallS (CtP K W_asked) (WE W) (tCons (tCall (CtM K W_hand) [] E0 ta) tNil))) (wOnly K c ts (fun _ _ _ _ => False) D) D σ H)) :
    FnOk P w K mg base CX0 (k + 1) f fd ["script"] (spLaw K) := by
  refine F.ok S (fun vs H Q E h => ?_) (fun cdv A outer s H vs Q E hr h => ?_)
  · obtain ⟨a, ns, rfl, _⟩ := h
    rfl
  · obtain ⟨a, ns, rfl, hS, hl, q⟩ := h
    refine ⟨_, hb cdv A outer s H E hr, ?_⟩
    have wf := wf0 H
    have sv : SvA K J0 H [.ref a] [.d (.lst (ns.map Dt.int))] := .cons (show Dr K H (.ref a) (.lst (ns.map Dt.int)) from .lst hS Da.ints) .nil
    refine ht ns hl H H H (L2.start N [.ref a]) wf (en_start sv) _ fun us ss G1 H1 n1 r1 k1 => ?_
    show CtM K W_hand (us ++ []) H1 _ E0
    rw [List.append_nil]
    refine ⟨J0, G1, ss, _, n1.wf wf, r1, k1, fun p ws ds G2 H2 n2 hG hH hp rd ⟨rs, e, hz⟩ => ?_⟩
    subst e
    have := rd.ints_inv
    subst this
    have w2 := n2.wf (n1.wf wf)
    have wj : Wf (Jo p) G2 H2 := ⟨w2.gh, ⟨rs, hp, hz⟩, fun m hm => by
      have : m = p := hm
      subst this
      exact ⟨hG, by rw [hp]; simp⟩, trivial⟩
    refine ⟨Jo p, Mn, MVn, G2, [.hnd], fun d _ => d = .bl true, fun _ _ _ => False, wfN wj, .cons ⟨p, rfl, rfl⟩ .nil, ⟨rfl, rfl, rfl⟩, fun v d M' MV' G' H' _ _ r e => ?_, fun _ _ _ _ _ _ _ _ _ _ _ _ z => z.elim⟩
    subst e
    cases r
    exact q H'
end
/-! ### equality at any depth -/
mutual
def pyD : Dt → PyData
  | .non => .none
  | .bl b => .bool b
  | .int i => .int i
  | .str s => .str s
  | .lst ds => .list (pyDs ds)
  | .tup ds => .tuple (pyDs ds)
  | .ob _ _ => .none
  | .ptr _ => .none
def pyDs : List Dt → List PyData
  | [] => []
  | d :: r => pyD d :: pyDs r
end
mutual
def plainD : Dt → Bool
  | .lst ds => plainDs ds
  | .tup ds => plainDs ds
  | .ob _ _ => false
  | .ptr _ => false
  | _ => true
def plainDs : List Dt → Bool
  | [] => true
  | d :: r => plainD d && plainDs r
end
/-- the program's own equality -/
def eqDD (x y : Dt) : Bool := PyData.eqv (pyD x) (pyD y)
section
variable {K : PySem.W.Frag} {G H : Hp}
mutual
theorem dp_of (e : Same G H) : ∀ {v : V} {d : Dt}, Dr K G v d → plainD d = true → L2.Dp K H v (pyD d)
  | _, .non, r, _ => by cases r; exact .non
  | _, .bl b, r, _ => by cases r; exact .bl b
  | _, .int b, r, _ => by cases r; exact .int b
  | _, .str b, r, _ => by cases r; exact .str b
  | _, .lst ds, r, h => by cases r with | lst s t => exact .lst (same_l e s) (dp_all e t h)
  | _, .tup ds, r, h => by cases r with | tup s t => exact .tup (same_t e s) (dp_all e t h)
  | _, .ob _ _, _, h => by cases h
  | _, .ptr _, _, h => by cases h
theorem dp_all (e : Same G H) : ∀ {vs : List V} {ds : List Dt}, Da K G vs ds → plainDs ds = true → L2.DpAll K H vs (pyDs ds)
  | _, [], r, _ => by cases r; exact .nil
  | _, d :: ds, r, h => by
    cases r with
    | cons r t =>
      have h' : (plainD d && plainDs ds) = true := h
      rw [Bool.and_eq_true] at h'
      exact .cons (dp_of e r h'.1) (dp_all e t h'.2)
end
end
def shapedD (d : Dt) : Bool := plainD d && SeqAt.shaped (pyD d)
section
variable {K : PySem.W.Frag} {J : Jm} {R : Dt → Prop}
theorem o2_eqDD {x y : Dt} (hx : shapedD x = true) (hy : shapedD y = true) (h : R (.bl (eqDD x y))) : O2 K J (rEqD K) x y R := fun G H vx vy w rx ry Q q => by
  have hx := Bool.and_eq_true_iff.mp hx
  have hy := Bool.and_eq_true_iff.mp hy
  exact ⟨_, _, dp_of w.gh rx hx.1, dp_of w.gh ry hy.1, hx.2, hy.2, q _ _ G H w.nx (.bl _) h⟩
theorem o2_neDD {x y : Dt} (hx : shapedD x = true) (hy : shapedD y = true) (h : R (.bl (!eqDD x y))) : O2 K J (rNeD K) x y R := fun G H vx vy w rx ry Q q => by
  have hx := Bool.and_eq_true_iff.mp hx
  have hy := Bool.and_eq_true_iff.mp hy
  exact ⟨_, _, dp_of w.gh rx hx.1, dp_of w.gh ry hy.1, hx.2, hy.2, q _ _ G H w.nx (.bl _) h⟩
end
theorem op_eqDK (K : PySem.W.Frag) {X : Cx} (hu : X.A.units + 64 < cLine) (h : X.K = K := by rfl) : OpR X (compareOp .Eq) (rEqD K) := h ▸ op_eqD hu
theorem op_neDK (K : PySem.W.Frag) {X : Cx} (hu : X.A.units + 64 < cLine) (h : X.K = K := by rfl) : OpR X (compareOp .NotEq) (rNeD K) := h ▸ op_neD hu
theorem ps_fldaugK (K : PySem.W.Frag) {X : Cx} {o value : Expr} {ta tv : TE} {f : Str} {pos tpos : Pos} {op : Operator} {rd : V → V → Hp → VK → Prop} (ha : PE X o ta) (hv : PE X value tv) (hop : InOp X op rd) (hk : X.K = K := by rfl) : PS X (.AugAssign (.Attribute o f tpos) op value pos) (sFldAug K ta tv rd f) := hk ▸ ps_fldaug ha hv hop
theorem pe_bmK (K : PySem.W.Frag) {X : Cx} {o e : Expr} {es : List Expr} {to : TE} {t : TA} {name : Str} {apos cpos : Pos} {T id : String} {r : V → List V → Hp → VK → Prop} (pa : PlainAttrs T) (slot : Slot T name id) (hty : typeOf (.builtin id) = pure (.type "method_descriptor")) (hm : MtR X id r) (ho : PE X o to) (ha : PA X (e :: es) t) (hk : X.K = K := by rfl)
    (hbase : attributeBase o name X.env (eval o X.env) = eval o X.env := by rfl)
    (hfew : ((backTo cpos (starEach (e :: es) X.env)).all (fun x => !x.1) && (backToKw cpos (keywordEach [] X.env)).all (fun x => x.1.isSome)
      && decide ((e :: es).length + ([] : List Keyword).length + (if ([] : List Keyword).isEmpty then 0 else 1) < 30)) = true := by rfl)
    (hline : (apos.endLine == cpos.line) = true := by rfl) (hs : starEach (e :: es) X.env = (false, eval e X.env) :: starEach es X.env := by rfl) (hplain : (backTo cpos (starEach es X.env)).any (·.1) = false := by rfl) :
    PE X (.Call (.Attribute o name apos) (e :: es) [] cpos) (tBM K T r to t) := by subst hk; exact pe_bm pa slot hty hm ho ha hbase hfew hline hs hplain
theorem pe_bm0K (K : PySem.W.Frag) {X : Cx} {o : Expr} {to : TE} {name : Str} {apos cpos : Pos} {T id : String} {r : V → List V → Hp → VK → Prop} (pa : PlainAttrs T) (slot : Slot T name id) (hty : typeOf (.builtin id) = pure (.type "method_descriptor")) (hm : MtR X id r) (ho : PE X o to) (hk : X.K = K := by rfl)
    (hbase : attributeBase o name X.env (eval o X.env) = eval o X.env := by rfl) (hline : (apos.endLine == cpos.line) = true := by rfl) : PE X (.Call (.Attribute o name apos) [] [] cpos) (tBM0 K T r to) := by subst hk; exact pe_bm0 pa slot hty hm ho hbase hline
/-- by keywords, of a def that may raise: lets nothing out -/
structure CalKwX (P : Program) (w : World) (K : PySem.W.Frag) (mg : Str → Option Value) (base : Heap) (k : Nat) (x : Str) (ps ks : List Str) (pi : List Nat) (sp : Sp) : Prop where
  ex : ∃ f fd, FnOk P w K mg base (L2.CX P w) k f fd ps sp ∧ mg x = some (.ref f) ∧ PySem.W.keepIn K (.ref f) = true ∧ KBinds K fd ps ks (kwP pi) (kwP pi)
theorem CalKwX.mono {P : Program} {w : World} {K : PySem.W.Frag} {mg : Str → Option Value} {base : Heap} {j k : Nat} {x : Str} {ps ks : List Str} {pi : List Nat} {sp : Sp} (c : CalKwX P w K mg base j x ps ks pi sp) (h : j ≤ k) : CalKwX P w K mg base k x ps ks pi sp := by
  obtain ⟨f, fd, F, r⟩ := c.ex
  exact ⟨f, fd, F.mono h, r⟩
theorem pe_callKwX {X : Cx} {k : Nat} {x : Str} {ps ks : List Str} {pi : List Nat} {sp : Sp} {p pos : Pos} {kws : List Keyword} {tk : TA} (C : CalKwX X.prog X.w X.K X.mg X.base k x ps ks pi sp) (hr : Room k X.A) (hg : Gl X x)
    (hkw : PK X kws tk) (hall : (backToKw pos (keywordEach kws X.env)).all (·.1.isSome) = true := by rfl) (hks : (backToKw pos (keywordEach kws X.env)).filterMap (·.1) = ks := by rfl) (hdb : (x == ("__debug__" : Str)) = false := by decide)
    (hpl : ((backTo pos (starEach [] X.env)).any (·.1) || (backToKw pos (keywordEach kws X.env)).any (·.1.isNone)) = false := by rfl) : PE X (.Call (.Name x p) [] kws pos) (tCallK sp (kwP pi) E0 tNil tk) := by
  obtain ⟨f, fd, F, hm, hk, hb⟩ := C.ex
  refine ⟨fun pins s σ H Q I h => ?_⟩
  refine wpAny_Call_Name_kw (ld_glob I hg hm ?_ hdb)
  refine PySem.W.callWith_KW0 (h₀ := X.base) I.ok.mod.kin hk hall (thn (hkw.run pos pins s σ H _ I h) fun ws s2 ⟨zs, H2, I2, rz, q2⟩ => ⟨I2.kIn, ?_⟩) hpl
  rw [hks]
  exact run_fnk (us := []) F hr hb passL I2 .nil rz q2
theorem fm_all {α : Type} (ws : List α) : ∀ pi : List Nat, (pi.filterMap fun i => ws[i]?).length = pi.length → ∀ i ∈ pi, i < ws.length
  | [], _, i, hi => by cases hi
  | j :: r, h, i, hi => by
    have hle : (r.filterMap fun i => ws[i]?).length ≤ r.length := List.length_filterMap_le ..
    have hc : (r.filterMap fun i => ws[i]?).length = r.length ∧ j < ws.length := by
      by_cases hj : j < ws.length
      · have e : ((j :: r).filterMap fun i => ws[i]?) = ws[j] :: r.filterMap fun i => ws[i]? := List.filterMap_cons_some (List.getElem?_eq_getElem hj)
        rw [e] at h
        exact ⟨Nat.succ.inj h, hj⟩
      · have e : ((j :: r).filterMap fun i => ws[i]?) = r.filterMap fun i => ws[i]? := List.filterMap_cons_none (List.getElem?_eq_none (Nat.le_of_not_lt hj))
        rw [e] at h
        have h' : (r.filterMap fun i => ws[i]?).length = r.length + 1 := h
        rw [h'] at hle
        exact absurd hle (Nat.not_succ_le_self _)
    rcases List.mem_cons.mp hi with rfl | hi
    · exact hc.2
    · exact fm_all ws r hc.1 i hi
theorem fm_take {α : Type} (ws : List α) (n : Nat) : ∀ pi : List Nat, (∀ i ∈ pi, i < n) → (pi.filterMap fun i => ws[i]?) = pi.filterMap fun i => (ws.take n)[i]?
  | [], _ => rfl
  | j :: r, h => by
    have ih := fm_take ws n r fun i hi => h i (List.mem_cons_of_mem _ hi)
    have e : (ws.take n)[j]? = ws[j]? := by rw [List.getElem?_take, if_pos (h j List.mem_cons_self)]
    cases z : ws[j]? with
    | none => rw [List.filterMap_cons_none z, List.filterMap_cons_none (e.trans z), ih]
    | some v => rw [List.filterMap_cons_some z, List.filterMap_cons_some (e.trans z), ih]
theorem zip_tk {α β : Type} : ∀ (ks : List α) (ws : List β) (n : Nat), ks.length ≤ n → ks.zip ws = ks.zip (ws.take n)
  | [], _, _, _ => rfl
  | _ :: _, [], n, _ => by rw [List.take_nil]
  | _ :: _, _ :: _, 0, h => by cases h
  | k :: ks, w :: ws, n + 1, h => by
    show (k, w) :: ks.zip ws = (k, w) :: ks.zip (ws.take n)
    rw [zip_tk ks ws n (Nat.le_of_succ_le_succ h)]
theorem kbN {K : PySem.W.Frag} {fd : FuncData} {ps ks : List Str} {pi : List Nat} (n : Nat) (h0 : 0 < n) (hp : ps.length = n) (hk : ks.length = n) (hpi : pi.length = n) (hlt : ∀ i ∈ pi, i < n) (hmem : n - 1 ∈ pi)
    (h : ∀ ws : List Value, ws.length = n → bindArgs fd ⟨[], ks.zip ws⟩ = pure (ps.zip (kwP pi [] ws))) : KBinds K fd ps ks (kwP pi) (kwP pi) := by
  refine ⟨fun s us ws _ hl => ?_, fun r rz => kw_rel2 r rz⟩
  cases us with
  | cons u r =>
    have hl' : (0 : Nat) = ps.length := hl
    omega
  | nil =>
    have hl' : (pi.filterMap fun i => ws[i]?).length = ps.length := hl
    have ha := fm_all ws pi (by rw [hl', hp, hpi]) _ hmem
    have hw : n ≤ ws.length := by omega
    have e1 : kwP pi [] ws = kwP pi [] (ws.take n) := fm_take ws n pi hlt
    have e2 : ks.zip ws = ks.zip (ws.take n) := zip_tk _ _ _ (Nat.le_of_eq hk)
    rw [e1, e2]
    exact .of_eq (h _ (by rw [List.length_take]; omega))
end Mv

set_option Elab.async false
set_option linter.all false
set_option maxRecDepth 100000
set_option maxHeartbeats 4000000
namespace Mv
open PySem PySem.Spec PyProof.Rows L2
section
variable {K : PySem.W.Frag} {J : Jm} {M : Mm} {MV : Mh} {env : List Sl} {R : Dt → Prop} {te ta tb ti to tk tv : TE} {tr : TA}
theorem oc_maxP {a : Addr} {ns : List Int} (hM : M a = some (.lst (ns.map Dt.int))) (hne : 0 < ns.length) (h : ∀ m, m ∈ ns → (∀ y ∈ ns, y ≤ m) → R (.int m)) : Oc K (Jt K J MV M) (L2.rMax K) [.ptr a] R := fun G H vs w rs Q q => by
  cases rs with
  | cons r1 r2 =>
    cases r2
    cases r1
    obtain ⟨us, _, h2, t⟩ := w.lstM hM
    have e := t.ints_inv
    subst e
    exact ⟨_, ns, rfl, .inl (.inl h2), hne, fun m hm hy => q _ _ G H w.nx (.int _) (h m hm hy)⟩
theorem oc_sumP {a : Addr} {ns : List Int} (hM : M a = some (.lst (ns.map Dt.int))) (h : R (.int ns.sum)) : Oc K (Jt K J MV M) (rSum K) [.ptr a] R := fun G H vs w rs Q q => by
  cases rs with
  | cons r1 r2 =>
    cases r2
    cases r1
    obtain ⟨us, _, h2, t⟩ := w.lstM hM
    have e := t.ints_inv
    subst e
    exact ⟨_, ns, rfl, .inl (.inl h2), q _ _ G H w.nx (.int _) h⟩
/-- truth of a value -/
theorem et_tru {R : Bool → Prop} (h : Ev K J env te fun x => (∃ ds, (x = .lst ds ∨ x = .tup ds) ∧ R (!ds.isEmpty)) ∨ ∃ i, x = .int i ∧ R (i != 0)) : Et K J env (tTru K te) R := fun B G H σ w E Q q =>
  h B G H σ w E _ fun v x G1 H1 n1 r k => by
    rcases k with ⟨ds, e, k⟩ | ⟨i, e, k⟩
    · rcases e with rfl | rfl
      · cases r with
        | @lst a vs _ s t => exact ⟨_, .inl ⟨vs, same_l n1.gh s, rfl⟩, q _ G1 H1 n1 (by
            have : vs.isEmpty = ds.isEmpty := by cases t <;> rfl
            rw [this]; exact k)⟩
      · cases r with
        | @tup a vs _ s t => exact ⟨_, .inr (.inl ⟨vs, same_t n1.gh s, rfl⟩), q _ G1 H1 n1 (by
            have : vs.isEmpty = ds.isEmpty := by cases t <;> rfl
            rw [this]; exact k)⟩
    · subst e
      cases r
      exact ⟨_, rfl, q _ G1 H1 n1 k⟩
theorem et_truP {R : Bool → Prop} (h : Ev K (Jt K J MV M) env te fun x => ∃ a ds, x = .ptr a ∧ M a = some (.lst ds) ∧ R (!ds.isEmpty)) : Et K (Jt K J MV M) env (tTru K te) R := fun B G H σ w E Q q =>
  h B G H σ w E _ fun v x G1 H1 n1 r ⟨a, ds, e, hM, k⟩ => by
    subst e
    cases r
    obtain ⟨us, _, h2, t⟩ := (n1.wf w).lstM hM
    exact ⟨_, .inl ⟨us, .inl (.inl h2), rfl⟩, q _ G1 H1 n1 (by
      have : us.isEmpty = ds.isEmpty := by cases t <;> rfl
      rw [this]; exact k)⟩
/-- an own list's count of an int -/
theorem ev_countM {i : Nat} {ns : List Int} (hi : env[i]? = some (.ml (ns.map Dt.int))) (h : Ev K J env te fun x => ∃ k, x = .int k ∧ R (.int (ns.count k : Nat))) : Ev K J env (tBM K "list" (rCntI K) (tVar i) (tCons te tNil)) R := fun B G H σ w E Q q => by
  obtain ⟨p, vs, h1, hH, r, hm, hG⟩ := E.lst hi
  refine ⟨.ref p, h1, .inl ⟨rfl, vs, .inl (.inl hH)⟩, h B G H σ w E _ fun v x G1 H1 n1 rx ⟨k, e, kk⟩ => ?_⟩
  subst e
  cases rx
  have := r.ints_inv
  subst this
  exact ⟨p, ns, k, rfl, rfl, .inl (.inl (n1.kp p _ hH hm)), q _ _ G1 H1 n1 (.int _) kk⟩
theorem ev_count {R : Dt → Prop} (h : Ev K J env to fun o => ∃ ns : List Int, o = .lst (ns.map Dt.int) ∧ Ev K J env te fun x => ∃ k, x = .int k ∧ R (.int (ns.count k : Nat))) : Ev K J env (tBM K "list" (rCntI K) to (tCons te tNil)) R := fun B G H σ w E Q q =>
  h B G H σ w E _ fun v o G0 H0 n0 r ⟨ns, e, h⟩ => by
    subst e
    cases r with
    | lst s t =>
      have := t.ints_inv
      subst this
      refine ⟨.inl ⟨rfl, _, same_l n0.gh s⟩, h B G0 H0 σ (n0.wf w) (E.mono n0) _ fun v x G1 H1 n1 rx ⟨k, e, kk⟩ => ?_⟩
      subst e
      cases rx
      exact ⟨_, ns, k, rfl, rfl, same_l (n1.gg.trans n1.gh) s, q _ _ G1 H1 (n0.trans n1) (.int _) kk⟩
end
theorem pt_truK (K : PySem.W.Frag) {X : Cx} {a : Expr} {ta : TE} (ha : PE X a ta) (he : ∀ whole, isTrue a X.env whole = (do let v ← whole; standAt a.pos; holding [v] (truthy v))) (hk : X.K = K := by rfl) : PT X a (tTru K ta) := hk ▸ pt_truth ha he
/-! ### a def of the plain kind in the new layer: by position, letting nothing out -/
section
variable {K : PySem.W.Frag} {J : Jm} {M : Mm} {env : List Sl} {D : DM} {tr : TA}
theorem evm_callC {W : Fw} {R : Dt → Mm → Prop} (h : EaM K J M env D tr fun ss M' => W ss fun d => R d M') : EvM K J M env D (tCall (Ct K W) [] E0 tr) R := fun MV0 MV GB B G H σ a x Q q =>
  h MV0 MV GB B G H σ a x _ fun vs ss M' MV' G' H' n a' rs k => by
    show Ct K W (vs ++ []) H' Q E0
    rw [List.append_nil]
    exact ⟨Jt K J MV' M', G', ss, _, a'.wf, rs, k, fun v d G2 H2 n2 rd y => q v d M' MV' G2 H2 (n.trans (.of n2)) (a'.then n2) rd y⟩
theorem eam_nil {R : List Sl → Mm → Prop} (h : R [] M) : EaM K J M env D tNil R := eam fun MV => ea_nil h
theorem edm_nil {R : List Dt → Mm → Prop} (h : R [] M) : EdM K J M env D tNil R := edm fun MV => ed_nil h
/-- the plain kind that may raise, where it raises nothing -/
theorem ev_callKwX0 {W : FwX} {pi : List Nat} {R : Dt → Prop} {tk : TA} (h : Ea K J env tk fun ss => W (pi.filterMap fun i => ss[i]?) R fun _ _ => False) : Ev K J env (tCallK (CtX K W) (kwP pi) E0 tNil tk) R := fun B G H σ w E Q q =>
  h B G H σ w E _ fun vs ss G1 H1 n1 r k => ⟨J, G1, _, R, _, n1.wf w, sva_kw r, k, fun v d G2 H2 n2 rd x => q v d G2 H2 (n1.trans n2) rd x, fun _ _ _ _ _ _ _ _ _ z => z.elim⟩
end
theorem mt_lcountK (K : PySem.W.Frag) {X : Cx} (h : X.K = K := by rfl) : MtR X "list.count" (rCntI K) := h ▸ mt_lcount
theorem mt_indexK (K : PySem.W.Frag) {X : Cx} (h : X.K = K := by rfl) : MtR X "list.index" (rIndex K) := h ▸ mt_index
end Mv

set_option Elab.async false
set_option linter.all false
set_option maxRecDepth 100000
set_option maxHeartbeats 4000000
namespace Mv
open PySem PySem.Spec PyProof.Rows L2 HT
/-! ### t[::-1] of a tuple -/
section
variable {prog : Program} {w : World} {A : Around} {E : Value → Shared → Prop} {s : Shared}
theorem adjust_rev (n : Nat) : Builtin.Slice.sliceAdjust none none (-1) (n : Int) = ((n : Int) - 1, -1) := by
  unfold Builtin.Slice.sliceAdjust
  simp
theorem places_rev (n : Nat) : Builtin.Slice.slicePlaces ((n : Int) - 1) (-1) (-1) = n := by
  unfold Builtin.Slice.slicePlaces
  simp
  omega
theorem sliceApplied_rev {sl : Addr} {t : Tok} {n : Nat} {Q : Int × Int × Nat → Shared → Prop} (hs : s.heap.IsSliceOf sl .none .none (.int (-1) t))
    (h : Q ((n : Int) - 1, -1, n) s) : wpAny (model prog w) A (Builtin.Slice.sliceApplied (.ref sl) (pure (n : Int))) Q E s := by
  obtain ⟨os, hos, hcs, hds⟩ := id hs
  unfold Builtin.Slice.sliceApplied Builtin.Slice.sliceFields
  refine wpAny_bind (wpAny_bind (wpAny_field hos hds (x := .none) rfl (wpAny_bind (wpAny_field hos hds (x := .none) rfl (wpAny_bind (wpAny_field hos hds (x := .int (-1) t) rfl (wpAny_pure ?_)))))))
  refine wpAny_bind (slicePart_int ?_)
  show wpAny _ _ (if ((-1 : Int) == 0) = true then _ else _) _ _ s
  rw [if_neg (by decide)]
  refine wpAny_bind (slicePart_none (wpAny_bind (slicePart_none (wpAny_bind (wpAny_pure ?_)))))
  show wpAny _ _ (match Builtin.Slice.sliceAdjust none none (-1) (n : Int) with | (lo, hi) => pure (lo, (-1 : Int), Builtin.Slice.slicePlaces lo hi (-1))) _ _ s
  rw [adjust_rev n]
  show wpAny _ _ (pure ((n : Int) - 1, (-1 : Int), Builtin.Slice.slicePlaces ((n : Int) - 1) (-1) (-1))) _ _ s
  rw [places_rev]
  exact wpAny_pure h
theorem pick_rev (xs : Array Value) : ((List.range xs.size).filterMap fun (m : Nat) => xs[((xs.size : Int) - 1 + (m : Int) * -1).toNat]?).toArray = xs.toList.reverse.toArray := by
  congr 1
  have e : ((List.range xs.size).filterMap fun (m : Nat) => xs[((xs.size : Int) - 1 + (m : Int) * -1).toNat]?) = ((List.range xs.size).map fun k => xs.size - 1 - k).filterMap (xs[·]?) := by
    rw [List.filterMap_map]
    refine congrArg (fun f => List.filterMap f (List.range xs.size)) ?_
    funext m
    have : ((xs.size : Int) - 1 + (m : Int) * -1).toNat = xs.size - 1 - m := by omega
    rw [this]
    rfl
  rw [e, PySem.W.krv_range, List.filterMap_reverse, PySem.W.krv_all]
theorem getItem_tuple_rev {t sl : Addr} {tk : Tok} {items : Array Value} {Q : Value → Shared → Prop} (ht : IsTup s.heap t items) (hs : s.heap.IsSliceOf sl .none .none (.int (-1) tk))
    (h : Q (.ref s.heap.objs.size) { s with heap := s.heap.push { cls := .type "tuple", data := .seq items.toList.reverse.toArray } })
    (hsz : items.size ≤ sizeLine) : wpAny (model prog w) A (getItem (.ref t) (.ref sl)) Q E s := by
  have htake : sizeOk (.seq items.toList.reverse.toArray) := by
    show items.toList.reverse.toArray.size ≤ sizeLine
    rw [List.size_toArray, List.length_reverse, Array.length_toList]
    exact hsz
  obtain ⟨os, hos, hcs, hds⟩ := id hs
  have hTs : s.TypeIs (.ref sl) "slice" := ⟨os, hos, hcs⟩
  unfold getItem
  try with_reducible refine wpAny_holding ?_
  first | refine wpAny_bind (wpAny_pure ?_) | skip
  refine wpAny_bind (wpAny_sequenceKey ht.typeIs (by decide) ?_)
  refine wpAny_bind (wpAny_callSpecial?_slot (name := Str.ofString "__getitem__") ht.typeIs PyProof.Rows.slot_tuple_getitem
    (wpAny_call_entry PyProof.Rows.slot_tuple_getitem ht.typeIs entry_tuple_getitem ?_ (args_tuple_getitem _ _)))
  show wpAny _ _ (Builtin.Tuple.tupleItemsOf (.ref t) >>= _) _ _ s
  refine wpAny_bind (tupleItemsOf_ ht ?_)
  refine wpAny_bind (wpAny_typeOf hTs ?_)
  rw [if_pos (by decide)]
  refine wpAny_bind (sliceApplied_rev hs ?_)
  have hno : ¬ ((((items.size : Int) - 1 == 0) && ((-1 : Int) == 1) && (items.size == items.size)) = true) := by
    intro q
    rw [Bool.and_eq_true, Bool.and_eq_true] at q
    exact absurd q.1.2 (by decide)
  show wpAny _ _ (if (((items.size : Int) - 1 == 0) && ((-1 : Int) == 1) && (items.size == items.size)) = true then _ else _) _ _ s
  rw [if_neg hno, pick_rev]
  first
    | exact wpAny_bind (m := Builtin.Tuple.tupleExact _) (wpAny_newObj_type (wpAny_pure ⟨_, rfl, wpAny_pure h⟩) htake)
    | exact wpAny_bind (m := Builtin.Tuple.tupleExact _) (wpAny_newObj_type (wpAny_bind (wpAny_pure (wpAny_pure ⟨_, rfl, wpAny_pure h⟩))) htake)
    | exact wpAny_bind (wpAny_bind (m := Builtin.Tuple.tupleExact _) (wpAny_newObj_type (wpAny_pure (wpAny_pure ⟨_, rfl, wpAny_pure h⟩)) htake))
    | exact wpAny_bind (wpAny_bind (m := Builtin.Tuple.tupleExact _) (wpAny_newObj_type (wpAny_pure ⟨_, rfl, wpAny_pure h⟩) htake))
end
def tRevT (K : PySem.W.Frag) (te : TE) : TE := fun σ H Q => te σ H fun x H1 => ∃ a xs, x = .ref a ∧ SqT K H1 a xs ∧ ∀ p, H1 p = none → Q (.ref p) (upd H1 p (.tup xs.reverse))
theorem pe_revT (K : PySem.W.Frag) {X : Cx} {e : Expr} {te : TE} {k : Nat} {p1 p2 p3 pos : Pos} (he : PE X e te) (hk : X.K = K := by rfl) : PE X (.Subscript e (.Slice none none (some (.UnaryOp .USub (.Constant (.int 1) k p1) p2)) p3) pos) (tRevT K te) := by
  subst hk
  refine ⟨fun pins s σ H Q I h => ?_⟩
  refine Subscript_ (thn (he.run pins s σ H _ I h) fun v s1 ⟨x, H1, I1, r1, q1⟩ => ?_)
  obtain ⟨a, xs, ex, hx, q⟩ := q1
  subst ex
  cases r1
  have hst : PO X (some (.UnaryOp .USub (.Constant (.int 1) k p1) p2)) (tPart (tUn (rU fun i => .int (-i)) (tC (.int 1)))) := po_some (pe_un un_neg pe_int)
  refine wpAny_Slice (thn (po_none.run pins s1 σ H1 (fun o H2 => o = none ∧ H2 = H1) I1 ⟨rfl, rfl⟩) fun vl s2 ⟨l, H2, I2, pl, el, e2⟩ => ?_)
  subst el e2
  refine thn (po_none.run pins s2 σ H2 (fun o H3 => o = none ∧ H3 = H2) I2 ⟨rfl, rfl⟩) fun vu s3 ⟨u, H3, I3, pu, eu, e3⟩ => ?_
  subst eu e3
  refine thn (hst.run pins s3 σ H3 (fun o H4 => o = some (-1) ∧ H4 = H3) I3 ⟨1, rfl, -1, rfl, rfl, rfl⟩) fun vs s4 ⟨o, H4, I4, ps, eo, e4⟩ => ?_
  subst eo e4
  have I5 : Inv X pins σ H4 { s4 with heap := s4.heap.push { cls := .type "slice", data := .fields #[vl, vu, vs] } } := I4.kept (t' := s4.toks) fun b ob q => Heap.get?_push_of_some _ q
  obtain ⟨its, r, ht, hz⟩ := I5.tuple hx
  cases pl
  cases pu
  cases ps with
  | int i t =>
    show wpAny (model X.prog X.w) X.A (subscriptTail e (.Slice none none (some (.UnaryOp .USub (.Constant (.int 1) k p1) p2)) p3) (.ref a) (.ref s4.heap.objs.size)) (EP X pins σ Q) X.xe { s4 with heap := s4.heap.push { cls := .type "slice", data := .fields #[.none, .none, .int (-1) t] } }
    refine tail_any (ops := [.ref a, .ref s4.heap.objs.size]) ht.typeIs PyProof.Rows.slot_tuple_getitem.lookup ?_ (by with_unfolding_all rfl)
    refine getItem_tuple_rev ht (Heap.IsSliceOf.new _ .none .none (.int (-1) t)) ?_ (by rw [List.size_toArray, ← r.length]; exact hz)
    refine ⟨.ref _, _, I5.laid (t' := s4.toks) (o := .tup xs.reverse) (fun b ob q => Heap.get?_push_of_some _ q) (Nat.le_refl _) ?_, rfl, q _ (I5.hok.fresh (Nat.le_refl _))⟩
    exact ⟨by rw [List.length_reverse]; exact hz, _, r.reverse, IsTup.new _ _⟩
section
variable {K : PySem.W.Frag} {J : Jm} {env : List Sl} {R : Dt → Prop} {te : TE}
theorem Da.reverse {G : Hp} : ∀ {vs : List V} {ds : List Dt}, Da K G vs ds → Da K G vs.reverse ds.reverse
  | _, _, .nil => .nil
  | _, _, .cons r t => by
    rw [List.reverse_cons, List.reverse_cons]
    exact (Da.reverse t).append (.cons r .nil)
theorem ev_revT (h : Ev K J env te fun x => ∃ ds, x = .tup ds ∧ R (.tup ds.reverse)) : Ev K J env (tRevT K te) R := fun B G H σ w E Q q =>
  h B G H σ w E _ fun v x G1 H1 n1 r ⟨ds, e, k⟩ => by
    subst e
    cases r with
    | @tup a vs _ s t =>
      refine ⟨a, vs, rfl, same_t n1.gh s, fun p hp => ?_⟩
      have n2 := (n1.wf w).new hp (.tup vs.reverse)
      exact q _ _ _ _ (n1.trans n2) (.tup (.inl (.inl upd_same)) (t.reverse.mono n2.gg)) k
end
end Mv

set_option Elab.async false
set_option linter.all false
set_option maxRecDepth 100000
set_option maxHeartbeats 4000000
namespace Mv
open PySem PySem.Spec PyProof.Rows L2
section
variable {K : PySem.W.Frag} {J : Jm} {env : List Sl} {R : Dt → Prop} {te : TE} {tl th : TO}
theorem sl_listK (K : PySem.W.Frag) {X : Cx} (h : X.K = K := by rfl) : SlR X (rSlL K) := h ▸ sl_list
theorem da_cut {G : Hp} {vs : List V} {ds : List Dt} (t : Da K G vs ds) (lo hi : Option Int) : Da K G (cutV vs lo hi) (cutD ds lo hi) := by
  unfold cutV cutD
  rw [t.length]
  exact (t.drop _).take _
/-- xs[lo:hi] of a list: a new list -/
theorem em_slL {R : List Dt → Prop} (h : Ev K J env te fun x => ∃ xs, x = .lst xs ∧ Ep K J env tl fun lo => Ep K J env th fun hi => R (cutD xs lo hi)) : Em K J env (tSl (rSlL K) te tl th) R := fun B G H σ w E Q q =>
  h B G H σ w E _ fun v x G1 H1 n1 r ⟨xs, e, k⟩ => by
    subst e
    have w1 := n1.wf w
    refine k B G1 H1 σ w1 (E.mono n1) _ fun lo G2 H2 n2 k2 => k2 B G2 H2 σ (n2.wf w1) (E.mono (n1.trans n2)) _ fun hi G3 H3 n3 k3 => ?_
    have n13 := (n1.trans n2).trans n3
    have w3 := n13.wf w
    have r3 := r.mono (n2.gg.trans n3.gg)
    cases r3 with
    | @lst a vs _ s t =>
      refine ⟨a, vs, rfl, same_l w3.gh s, fun p hp => ?_⟩
      refine q p _ _ G3 _ (n13.trans (w3.newM hp _)) (w3.free hp) ?_ upd_same (da_cut t lo hi) k3
      cases z : H p with
      | none => rfl
      | some o => exact absurd hp (n13.th p (by rw [z]; simp))
end
end Mv

set_option Elab.async false
set_option linter.all false
set_option maxRecDepth 100000
set_option maxHeartbeats 4000000
namespace Mv
open PySem PySem.Spec PyProof.Rows L2 PySem.W
/-! ### min(xs, default=d), max(xs, default=d) -/
theorem foldl_mem {α : Type} (f : α → α → α) (hf : ∀ a b, f a b = a ∨ f a b = b) : ∀ (xs : List α) (x : α), xs.foldl f x ∈ x :: xs
  | [], x => by simp
  | y :: r, x => by
    rw [List.foldl_cons]
    have := foldl_mem f hf r (f x y)
    rcases List.mem_cons.mp this with h | h
    · rw [h]
      rcases hf x y with e | e <;> rw [e] <;> simp
    · exact List.mem_cons_of_mem _ (List.mem_cons_of_mem _ h)
def mmD (mx : Bool) (x : PyData) (xs : List PyData) : PyData := if mx then maxD x xs else minD x xs
theorem mm_mem (mx : Bool) (x : PyData) (xs : List PyData) : mmD mx x xs ∈ x :: xs := by
  unfold mmD
  cases mx with
  | true => exact foldl_mem (fun a y => if dataLt a y then y else a) (fun a b => by by_cases h : dataLt a b = true <;> simp [h]) xs x
  | false => exact foldl_mem (fun a y => if dataLt y a then y else a) (fun a b => by by_cases h : dataLt b a = true <;> simp [h]) xs x
def rMMdef (K : PySem.W.Frag) (mx : Bool) : List V → List V → Hp → VK → Prop := fun vs zs H Q => ∃ (a : Addr) (xs : List V) (ds : List PyData) (z : V), vs = [.ref a] ∧ zs = [z] ∧ (SqL K H a xs ∨ SqT K H a xs) ∧ L2.DpAll K H xs ds ∧ AlikeAll ds ∧ PyData.depthAll ds ≤ 50 ∧
  (ds = [] → Q z H) ∧ ∀ (d0 : PyData) (dr : List PyData) (i : Nat) (v : V), ds = d0 :: dr → xs[i]? = some v → ds[i]? = some (mmD mx d0 dr) → Q v H
section
variable {X : Cx}
theorem cr_mmdef (mx : Bool) (hc : X.calm = true) (hu : X.A.units + 64 < cLine) : CallRK X (.builtin (if mx then "max" else "min")) [Str.ofString "default"] (rMMdef X.K mx) := by
  intro pins s σ H vs zs us ws Q I r rz h
  obtain ⟨a, xs, ds, z, rfl, rfl, hs, hd, ha, hdp, h0, h1⟩ := h
  obtain rfl := Vals.ref1 r
  cases rz with
  | cons rz0 rz1 =>
    rename_i w ws'
    cases rz1
    have hh := I.ok.hd hc
    -- the answers, told alike for lists and tuples
    have key : ∀ (its : List Value) (as : List Addr), Vals xs its → ReadsAll s.heap its ds as →
        (ds = [] → ∀ h' tk, (∀ b o, s.heap.get? b = some o → h'.get? b = some o) → EP X pins σ Q w { s with heap := h', toks := tk }) ∧
        (∀ (y : PyData) (ys : List PyData) (i : Nat) v h' tk bs, ds = y :: ys → its.toArray[i]? = some v → Reads h' v (mmD mx y ys) bs → (∀ b o, s.heap.get? b = some o → h'.get? b = some o) → EP X pins σ Q v { s with heap := h', toks := tk }) := by
      intro its as rv hr
      refine ⟨fun e h' tk hk => ⟨z, H, I.kept (t' := tk) hk, rz0, h0 e⟩, fun y ys i v h' tk bs e hv hr2 hk => ?_⟩
      have hv' : its[i]? = some v := by simpa using hv
      have hlx : i < xs.length := by rw [rv.length]; exact (List.getElem?_eq_some_iff.mp hv').1
      obtain ⟨u, hu', rx⟩ := rv.get (List.getElem?_eq_getElem hlx)
      have : u = v := Option.some.inj (hu'.symm.trans hv')
      subst this
      have hx : xs[i]? = some xs[i] := List.getElem?_eq_getElem hlx
      generalize xs[i] = x at hx rx
      obtain ⟨cs, r3, hlt, hmem, _⟩ := readsAll_at hr i u hv'
      have hgd : ds.getD i .none = ds[i] := by rw [List.getD_eq_getElem?_getD, List.getElem?_eq_getElem hlt]; rfl
      have hal := ha.1 _ hmem _ (by rw [e]; exact mm_mem mx y ys)
      have eq : ds.getD i .none = mmD mx y ys := alike_unique _ _ u _ _ hal (Reads.keeps hk r3) hr2
      refine ⟨x, H, I.kept (t' := tk) hk, rx, h1 y ys i x e hx ?_⟩
      rw [List.getElem?_eq_getElem hlt, ← hgd, eq]
    have hdep : X.A.units + 1 + PyData.depthAll ds < cLine := by omega
    rcases hs with hs | hs
    · obtain ⟨its, rv, hl, _⟩ := I.list hs
      obtain ⟨as, hr⟩ := L2.Dp.readsAll I ds xs its hd rv
      obtain ⟨k0, k1⟩ := key its as rv hr
      cases mx with
      | true => exact max_list_default hh hl.isList (by simpa using hr) ha hdep k0 k1
      | false => exact min_list_default hh hl.isList (by simpa using hr) ha hdep k0 k1
    · obtain ⟨its, rv, hl, _⟩ := I.tuple hs
      obtain ⟨as, hr⟩ := L2.Dp.readsAll I ds xs its hd rv
      obtain ⟨k0, k1⟩ := key its as rv hr
      have hlT : s.heap.IsTuple a its.toArray := hl
      cases mx with
      | true => exact max_tuple_default hh hlT (by simpa using hr) ha hdep k0 k1
      | false => exact min_tuple_default hh hlT (by simpa using hr) ha hdep k0 k1
end
end Mv

set_option Elab.async false
set_option linter.all false
set_option maxRecDepth 100000
set_option maxHeartbeats 4000000
/-! Walks over own dicts with int keys; the sum of their values. -/
namespace Mv
open PySem PySem.Spec PyProof.Rows L2
/-- J, and an own dict at p that is only read -/
def Jf (K : PySem.W.Frag) (J : Jm) (p : Addr) (od : Obj) (vs : List (Key × V)) (kvs : List (Int × Dt)) : Jm where
  ms := fun b => b ∈ J.ms ∨ b = p
  ok := fun H => J.ok H ∧ p ∉ J.ms ∧ H p = some (.frz od (.dK vs))
  st := fun H H' ⟨a, b, c⟩ k => ⟨J.st H H' a fun x hx => k x (.inl hx), b, by rw [k p (.inr rfl)]; exact c⟩
  hd := J.hd
  hm := fun k e => .inl (J.hm k e)
  hg := fun k H e o => J.hg k H e o.1
  hp := fun k H H' e ⟨a, b, c⟩ o' q => ⟨J.hp k H H' e a o' fun x hx hn => q x (.inl hx) hn, b, by
    rw [q p (.inr rfl) fun z => b (by rw [z]; exact J.hm k e)]; exact c⟩
  tr := fun G => J.tr G ∧ Dk K G vs kvs
  trm := fun G G' e ⟨a, b⟩ => ⟨J.trm G G' e a, b.mono e⟩
section
variable {K : PySem.W.Frag} {J : Jm} {env : List Sl} {te ta tb tk tv td : TE} {R : Dt → Prop} {D : DE} {t : TS} {p : Addr} {od : Obj} {vs : List (Key × V)} {kvs : List (Int × Dt)} {G H GB B G' H' : Hp} {σ : L2.St}
theorem not_jf {q : Addr} : q ∉ (Jf K J p od vs kvs).ms ↔ q ∉ J.ms ∧ q ≠ p := ⟨fun h => ⟨fun z => h (.inl z), fun z => h (.inr z)⟩, fun h z => z.elim h.1 h.2⟩
/-- d[k] of a dict that is only read -/
theorem ev_fget {i : Nat} (hi : env[i]? = some (.d (.ptr p))) (h : Ev K (Jf K J p od vs kvs) env tk fun k => ∃ n x, k = .int n ∧ getI kvs n = some x ∧ R x) : Ev K (Jf K J p od vs kvs) env (tDGet (tVar i) tk) R := fun B G H σ w E Q q => by
  obtain ⟨v, h1, r⟩ := E.dat hi
  cases r
  refine ⟨.ref p, h1, h B G H σ w E _ fun v k G1 H1 n1 rk ⟨n, x, e, hx, kx⟩ => ?_⟩
  subst e
  cases rk
  have w1 := n1.wf w
  obtain ⟨u, h3, h4⟩ := (w1.tr.2.get (n := n)).1 x hx
  exact ⟨p, u, rfl, .inl ⟨vs, Sum.inl n, .inr ⟨od, n1.ok.2.2⟩, rfl, h3.symm⟩, q u x G1 H1 n1 h4 kx⟩
theorem Dk.at : ∀ {vs : List (Key × V)} {kvs : List (Int × Dt)}, Dk K G vs kvs → ∀ {i : Nat} {k : Key} {v : V}, vs[i]? = some (k, v) → ∃ n x, k = Sum.inl n ∧ kvs[i]? = some (n, x) ∧ Dr K G v x
  | _, _, .cons r t, 0, k, v, e => by
    have e' := Option.some.inj (show some _ = some (k, v) from e)
    cases e'
    exact ⟨_, _, rfl, rfl, r⟩
  | _, _, .cons r t, i + 1, k, v, e => by
    obtain ⟨n, x, a, b, c⟩ := Dk.at t (i := i) (by simpa using e)
    exact ⟨n, x, a, by simpa using b, c⟩
/-- for k in d -/
theorem ei_keysF {i : Nat} {Z : List Dt → Prop} (hi : env[i]? = some (.d (.ptr p))) (h : Z (kvs.map fun kv => .int kv.1)) : Ei K (Jf K J p od vs kvs) env (iKeys (tVar i)) Z := fun B G H σ w E Q q => by
  obtain ⟨v, h1, r⟩ := E.dat hi
  cases r
  refine ⟨.ref p, h1, p, od, rfl, .inl ⟨vs, w.ok.2.2, q _ _ G H w.nx ?_ h⟩⟩
  have wl := walk_keys (d := p) (o := od) (kvs := vs)
  have hl := w.tr.2.length
  refine ⟨fun i G1 H1 sg w1 hi => wl.goes i H1 (by rw [List.length_map] at hi; omega) w1.ok.2.2, fun G1 H1 sg w1 => ?_, fun i G1 H1 x H2 sg w1 hi y => ?_⟩
  · rw [List.length_map, ← hl]
    exact wl.stops H1 w1.ok.2.2
  · obtain ⟨e1, k, v, hk, ex⟩ := wl.yields i H1 x H2 (by rw [List.length_map] at hi; omega) w1.ok.2.2 y
    subst e1
    obtain ⟨n, z, e, hz, _⟩ := w1.tr.2.at hk
    subst e ex
    exact ⟨G1, .int n, w1.nx, by rw [List.getElem?_map, hz]; rfl, .int n⟩
theorem wfF {i : Nat} (w : Wf J G H) (hG : G p = none) (hm : p ∉ J.ms) (hH : H p = some (.dK vs)) (r : Dk K G vs kvs) : Wf (Jf K J p od vs kvs) G (upd H p (.frz od (.dK vs))) := by
  refine ⟨fun b u e => ?_, ⟨J.st H _ w.ok fun b hb => upd_ne (ne_memP hm hb), hm, upd_same⟩, fun m hm' => ?_, w.tr, r⟩
  · rw [upd_ne (ne_of_none e hG)]; exact w.gh b u e
  · rcases hm' with hm' | rfl
    · exact ⟨(w.ms m hm').1, by rw [upd_ne (ne_memP hm hm')]; exact (w.ms m hm').2⟩
    · exact ⟨hG, by rw [upd_same]; simp⟩
theorem sv_lock {i : Nat} (hi : env[i]? = some (.md kvs)) (hu : onlyMd i env = true)
    (h : ∀ p od vs, Sv K (Jf K J p od vs kvs) (env.set i (.d (.ptr p))) t ⟨fun e => e[i]? = some (.d (.ptr p)) ∧ D.nx (e.set i (.md kvs)), fun _ => False, fun _ => False, fun _ => False, fun _ => False, D.xw, fun _ _ _ => False⟩) : Sv K J env (tLock t) D := fun GB B G H σ a E q1 _ _ _ _ _ => by
  obtain ⟨p, vs, h1, hB, hG, hm, hH, r⟩ := a.en.dct hi
  have hil := (List.getElem?_eq_some_iff.mp hi).1
  refine ⟨p, .dK vs, hH, trivial, fun od => ?_⟩
  refine h p od vs GB B G _ σ ⟨wfF (i := i) a.wf hG hm hH r, ⟨a.nx.gg, fun b u e => ?_, fun b e1 e2 => a.nx.fr b e1 e2, fun b o e hb => ?_, fun b hb => ?_, (wfF (i := i) (od := od) a.wf hG hm hH r).ok⟩, ?_⟩ _ (fun e G2 H2 σ2 a2 ⟨ei, k⟩ => ?_) (fun _ _ _ _ _ z => z.elim) (fun _ _ _ _ _ z => z.elim) (fun _ _ _ _ _ _ z => z.elim) (fun _ _ _ _ _ _ _ _ _ _ z => z.elim) (fun _ _ _ _ _ _ _ _ _ _ _ z => z.elim)
  · rw [upd_ne (ne_of_none e hG)]; exact a.wf.gh b u e
  · obtain ⟨hb1, hb2⟩ := not_jf.mp hb
    rw [upd_ne hb2]
    exact a.nx.kp b o e hb1
  · by_cases z : b = p
    · rw [z, upd_same]; simp
    · rw [upd_ne z]; exact a.nx.th b hb
  · refine ⟨by simp [a.en.len], fun j s hs => ?_, fun j l q hne hx hy => ?_⟩
    · by_cases e : i = j
      · subst e
        rw [List.getElem?_set_self hil] at hs
        cases hs
        exact ⟨_, h1, _, rfl, .ptr p⟩
      · rw [List.getElem?_set_ne e] at hs
        obtain ⟨ov, g1, g2⟩ := a.en.ok j s hs
        refine ⟨ov, g1, ?_⟩
        cases s with
        | no => trivial
        | d x => exact g2
        | hand => exact g2
        | hnd => exact g2
        | tap => exact g2
        | xv a d fs => exact g2
        | md kvs' => exact (by have z := onlyMd_ne hu (fun z => e z.symm) hs; cases z)
        | mi q C fs =>
          obtain ⟨dx, us, e3, hB', hG', hm', hH', r'⟩ := g2
          have hne := ne_of hH' hH (by intro z; cases z)
          exact ⟨dx, us, e3, hB', hG', not_jf.mpr ⟨hm', hne⟩, by rw [upd_ne hne]; exact hH', r'⟩
        | ml xs =>
          obtain ⟨q, us, e3, hB', hG', hm', hH', r'⟩ := g2
          have hne := ne_of hH' hH (by intro z; cases z)
          exact ⟨q, us, e3, hB', hG', not_jf.mpr ⟨hm', hne⟩, by rw [upd_ne hne]; exact hH', r'⟩
    · have back : ∀ m : Nat, (∃ xs, (env.set i (.d (.ptr p)))[m]? = some (Sl.ml xs)) → ∃ xs, env[m]? = some (Sl.ml xs) := fun m ⟨xs, hz⟩ => by
        by_cases e : i = m
        · subst e
          rw [List.getElem?_set_self hil] at hz
          cases hz
        · rw [List.getElem?_set_ne e] at hz
          exact ⟨xs, hz⟩
      exact a.en.ap j l q hne (back j hx) (back l hy)
  · have w2 := a2.wf
    have hG2 := (w2.ms p (.inr rfl)).1
    have hH2 := w2.ok.2.2
    refine ⟨hH2, q1 _ G2 _ σ2 ⟨⟨fun b u e => ?_, J.st H2 _ w2.ok.1 fun b hb => upd_ne (ne_memP hm hb), fun m hm' => ?_, w2.tr.1⟩, ⟨a2.nx.gg, fun b u e => ?_, a2.nx.fr, fun b o e hb => ?_, fun b hb => ?_, J.st H2 _ w2.ok.1 fun b hb => upd_ne (ne_memP hm hb)⟩, ⟨by simp [a2.en.len], fun j s hs => ?_, fun j l q hne hx hy => ?_⟩⟩ k⟩
    · rw [upd_ne (ne_of_none e hG2)]; exact w2.gh b u e
    · obtain ⟨m1, m2⟩ := w2.ms m (.inl hm')
      exact ⟨m1, by rw [upd_ne (ne_memP hm hm')]; exact m2⟩
    · rw [upd_ne (ne_of_none e hG2)]; exact w2.gh b u e
    · have hb2 : b ≠ p := fun z => by rw [z, hB] at e; cases e
      rw [upd_ne hb2]
      exact a2.nx.kp b o e (not_jf.mpr ⟨hb, hb2⟩)
    · by_cases z : b = p
      · rw [z, upd_same]; simp
      · rw [upd_ne z]; exact a2.nx.th b hb
    · have hel := (List.getElem?_eq_some_iff.mp ei).1
      by_cases e' : i = j
      · subst e'
        rw [List.getElem?_set_self hel] at hs
        cases hs
        obtain ⟨v, g1, r1⟩ := a2.en.dat ei
        cases r1
        exact ⟨_, g1, p, vs, rfl, hB, hG2, hm, upd_same, w2.tr.2⟩
      · rw [List.getElem?_set_ne e'] at hs
        obtain ⟨ov, g1, g2⟩ := a2.en.ok j s hs
        refine ⟨ov, g1, ?_⟩
        cases s with
        | no => trivial
        | d x => exact g2
        | hand => exact g2
        | hnd => exact g2
        | tap => exact g2
        | xv a d fs => exact g2
        | md kvs' =>
          obtain ⟨q, us, e3, hB', hG', hm', hH', r'⟩ := g2
          obtain ⟨m1, m2⟩ := not_jf.mp hm'
          exact ⟨q, us, e3, hB', hG', m1, by rw [upd_ne m2]; exact hH', r'⟩
        | mi q C fs =>
          obtain ⟨dx, us, e3, hB', hG', hm', hH', r'⟩ := g2
          obtain ⟨m1, m2⟩ := not_jf.mp hm'
          exact ⟨dx, us, e3, hB', hG', m1, by rw [upd_ne m2]; exact hH', r'⟩
        | ml xs =>
          obtain ⟨q, us, e3, hB', hG', hm', hH', r'⟩ := g2
          obtain ⟨m1, m2⟩ := not_jf.mp hm'
          exact ⟨q, us, e3, hB', hG', m1, by rw [upd_ne m2]; exact hH', r'⟩
    · have hel := (List.getElem?_eq_some_iff.mp ei).1
      have back : ∀ m : Nat, (∃ xs, (e.set i (.md kvs))[m]? = some (Sl.ml xs)) → ∃ xs, e[m]? = some (Sl.ml xs) := fun m ⟨xs, hz⟩ => by
        by_cases e' : i = m
        · subst e'
          rw [List.getElem?_set_self hel] at hz
          cases hz
        · rw [List.getElem?_set_ne e'] at hz
          exact ⟨xs, hz⟩
      exact a2.en.ap j l q hne (back j hx) (back l hy)
end
theorem hu1 {n : Nat} (h : n + 64 < cLine) : n + 1 < cLine := by omega
/-! ### sum(d.values()) -/
/-- sum(o.values()), a dict with int values -/
def tSumVals (td : TE) : TE := fun σ H Q => td σ H fun x H1 => ∃ (a : Addr) (kvs : List (Key × V)) (is : List Int), x = V.ref a ∧ H1 a = some (.dK kvs) ∧ kvs.map (·.2) = is.map V.int ∧ Q (.int is.sum) H1
section
variable {X : Cx} {o : Expr} {p pos apos mpos : Pos} {td : TE}
theorem preSum_ints : ∀ (is : List Int) (n : Nat), n ≤ is.length → preSum (fun i => is.getD i 0) n = (is.take n).sum
  | _, 0, _ => rfl
  | is, n + 1, hn => by
    have hx : is[n]? = some is[n] := List.getElem?_eq_getElem hn
    show preSum _ n + is.getD n 0 = _
    rw [preSum_ints is n (Nat.le_of_succ_le hn), List.take_succ, hx, List.sum_append, List.getD_eq_getElem?_getD, hx]
    simp
theorem pe_sumVals (hc : X.calm = true) (hg : Gl X "sum") (hm : X.mg "sum" = none) (hd : PE X o td) (hbase : attributeBase o "values" X.env (eval o X.env) = eval o X.env := by rfl) (hline : (apos.endLine == mpos.line) = true := by rfl)
    (hse : starEach [Expr.Call (.Attribute o "values" apos) [] [] mpos] X.env = [(false, eval (Expr.Call (.Attribute o "values" apos) [] [] mpos) X.env)] := by rfl) :
    PE X (.Call (.Name "sum" p) [.Call (.Attribute o "values" apos) [] [] mpos] [] pos) (tSumVals td) := by
  refine ⟨fun pins s σ H Q I h => ?_⟩
  refine wpAny_Call_Name_kw (ld_blt I hg hm (u := .builtin "sum") (by first | rfl | decide +kernel) ?_ (by first | decide +kernel | decide) (by first | decide +kernel | decide))
  rw [hse]
  refine PySem.callWith_builtin1 (wpAny_Call_method0_late hbase hline (thn (hd.run pins s σ H _ I h) fun v s1 ⟨x, H1, I1, r1, a, kvs, is, ex, ha, hv, q⟩ => ?_))
  subst ex
  obtain rfl : v = Value.ref a := r1
  obtain ⟨_, hsys, vs, rel, dof⟩ := dk_of I1.hok ha
  obtain ⟨ep, dat⟩ := dof.dictAt
  have dat' := dat
  obtain ⟨ob, es, ho, ex, hdat, hko, hpr, hnd⟩ := dat'
  refine ⟨"dict", "dict.values", F.plainAttrs_dict, F.slot_dict_values, F.type_dict_values, ⟨ob, ho, ex.1⟩, fun b e => ?_, Calls.callWith_builtin rfl (PySem.evalArgs_none ?_)⟩
  · cases e
    exact ⟨ob, ho, ex.2.1⟩
  refine call_meetsIn F.slot_dict_values ⟨ob, ho, ex.1⟩ F.entry_dict_values (F.args_dict_values_1 _) (meets_dict_values (mixKind X.prog X.w) a hsys) ⟨⟨vs, dof⟩, ?_⟩
  have k1 : ∀ b u, s1.heap.get? b = some u → (s1.heap.push { cls := .type "dict_values", data := .fields #[.ref a] }).get? b = some u := fun b u e => Heap.get?_push_of_some _ e
  have dat1 : (s1.heap.push { cls := .type "dict_values", data := .fields #[.ref a] }).DictAt (mixKind X.prog X.w) a vs ep := dat.keep k1
  have hlv : vs.length = is.length := by
    have e1 := congrArg List.length hv
    rw [List.length_map, List.length_map] at e1
    rw [← e1]
    exact (KV.length rel).symm
  have hval : ∀ (i : Nat) (v : Value), (∃ k, vs[i]? = some (k, v)) → ∃ t, v = Value.int (is.getD i 0) t := fun i v ⟨k, hk⟩ => by
    obtain ⟨x, h1, h2⟩ := KV.at' rel hk
    have e1 : (kvs.map (·.2))[i]? = some x := by rw [List.getElem?_map, h1] <;> rfl
    rw [hv, List.getElem?_map] at e1
    obtain ⟨j, hj, e2⟩ := Option.map_eq_some_iff.mp e1
    subst e2
    obtain ⟨t, e3⟩ := h2
    refine ⟨t, ?_⟩
    rw [e3, List.getD_eq_getElem?_getD, hj] <;> rfl
  refine call_sum_walkAnyS (wpAny_pyIter_values (v := s1.heap.objs.size) (d := a) ⟨_, Heap.get?_push_size _ rfl, rfl, rfl⟩ dat1 ?_)
  have hlt : a < s1.heap.objs.size := Heap.lt_size ho
  have hsz : (s1.heap.push { cls := .type "dict_values", data := .fields #[.ref a] }).objs.size = s1.heap.objs.size + 1 := Heap.size_push _ _
  refine ⟨_, _, _, _, _, _, _, fun i => is.getD i 0, rfl, (Walks.dictValues (knd := mixKind X.prog X.w) (A := X.A.in1) (I.ok.hd hc) (s1.heap.push { cls := .type "dict_values", data := .fields #[.ref a] }).objs.size a (by rw [hsz]; exact Nat.ne_of_lt (Nat.lt_succ_of_lt hlt)) vs ep).toS,
    ⟨⟨_, Heap.get?_push_size _ rfl, rfl, rfl⟩, dat1.keep fun b u e => Heap.get?_push_of_some _ e⟩, fun b hb => ?_, fun i v hP => hval i v hP, fun s' t' mv => ?_⟩
  · show b < ((s1.heap.push _).push _).objs.size
    rw [Heap.size_push, Heap.size_push]
    rw [hsz] at hb
    rcases List.mem_cons.mp hb with e | hb
    · rw [e]
      exact Nat.lt_succ_self _
    · have e : b = a := List.mem_singleton.mp hb
      rw [e]
      exact Nat.lt_succ_of_lt (Nat.lt_succ_of_lt hlt)
  · have es := Moved.eq_with mv
    rw [es]
    refine ⟨.int _, H1, I1.kept (t' := s'.toks) fun b u e => mv.heap b u (fun hmem => ?_) (Heap.get?_push_of_some _ (k1 b u e)), ⟨t', rfl⟩, ?_⟩
    · have e1 : b = (s1.heap.push { cls := .type "dict_values", data := .fields #[.ref a] }).objs.size := List.mem_singleton.mp hmem
      have e2 := Heap.lt_size e
      rw [hsz] at e1
      rw [e1] at e2
      exact absurd e2 (Nat.not_lt.mpr (Nat.le_succ _))
    · have e1 : preSum (fun i => is.getD i 0) vs.length = is.sum := by
        rw [preSum_ints is _ (by omega), hlv, List.take_length]
      rw [e1]
      exact q
end
section
variable {K : PySem.W.Frag} {J : Jm} {env : List Sl} {R : Dt → Prop}
theorem Dk.ints {G : Hp} : ∀ {vs : List (Key × V)} {ks : List (Int × Int)}, Dk K G vs (ks.map fun x => (x.1, Dt.int x.2)) → vs.map (·.2) = (ks.map (·.2)).map V.int
  | _, [], .nil => rfl
  | _, (k, x) :: ks, .cons r t => by
    cases r
    simp only [List.map_cons]
    rw [Dk.ints t]
theorem ev_sumVals {i : Nat} {ks : List (Int × Int)} (hi : env[i]? = some (.md (ks.map fun x => (x.1, Dt.int x.2)))) (h : R (.int (ks.map (·.2)).sum)) : Ev K J env (tSumVals (tVar i)) R := fun B G H σ w E Q q => by
  obtain ⟨p, vs, h1, _, _, hm, hH, r⟩ := E.dct hi
  exact ⟨.ref p, h1, p, vs, _, rfl, hH, r.ints, q _ _ G H w.nx (.int _) h⟩
end
end Mv

set_option Elab.async false
set_option linter.all false
set_option maxRecDepth 100000
set_option maxHeartbeats 4000000
namespace Mv
open PySem PySem.Spec PyProof.Rows L2 PySem.W
section
variable {K : PySem.W.Frag} {J : Jm} {env : List Sl}
/-- the hand of the second kind handed on -/
theorem ea_hnd {i : Nat} {tr : TA} {R : List Sl → Prop} (hh : env[i]? = some .hnd) (h : Ea K J env tr fun xs => R (.hnd :: xs)) : Ea K J env (tCons (tVar i) tr) R := fun B G H σ w E Q q => by
  obtain ⟨ov, a, hh, b, c⟩ := E.ok i _ hh
  exact ⟨.ref hh, by rw [a, b], h B G H σ w E _ fun vs ds G2 H2 n2 rs x => q _ _ G2 H2 n2 (.cons (show Sv1 K J G2 (.ref hh) .hnd from ⟨hh, rfl, c⟩) rs) x⟩
theorem pyDs_get : ∀ {ds : List Dt} {i : Nat} {y : PyData}, (pyDs ds)[i]? = some y → ∃ d, ds[i]? = some d ∧ y = pyD d
  | d :: r, 0, y, h => ⟨d, rfl, (Option.some.inj h).symm⟩
  | d :: r, i + 1, y, h => by
    obtain ⟨e, h1, h2⟩ := pyDs_get (ds := r) (i := i) (by simpa [pyDs] using h)
    exact ⟨e, by simpa using h1, h2⟩
  | [], i, y, h => by simp [pyDs] at h
/-- min(xs, default=z), max(xs, default=z) -/
theorem ev_mmdef (mx : Bool) {ta tk : TA} {R : Dt → Prop} (h : Ed K J env ta fun ds => ∃ es : List Dt, (ds = [.lst es] ∨ ds = [.tup es]) ∧ plainDs es = true ∧ AlikeAll (pyDs es) ∧ PyData.depthAll (pyDs es) ≤ 50 ∧
    Ed K J env tk fun zs => ∃ z, zs = [z] ∧ (es = [] → R z) ∧ ∀ d r, es = d :: r → ∀ y ∈ es, pyD y = mmD mx (pyD d) (pyDs r) → R y) : Ev K J env (tCKw (rMMdef K mx) ta tk) R := fun B G H σ w E Q q =>
  h B G H σ w E _ fun vs ds G1 H1 n1 r1 ⟨es, he, hp, ha, hd, hk⟩ => hk B G1 H1 σ (n1.wf w) (E.mono n1) _ fun ws zs G2 H2 n2 r2 ⟨z, ez, k0, k1⟩ => by
    subst ez
    have n12 := n1.trans n2
    cases r2 with
    | cons rz rn =>
      cases rn
      have fin : ∀ (a : Addr) (us : List V), (SqL K H2 a us ∨ SqT K H2 a us) → Da K G2 us es → rMMdef K mx [.ref a] [_] H2 Q := fun a us hs t => by
        refine ⟨a, us, pyDs es, _, rfl, rfl, hs, dp_all n2.gh t hp, ha, hd, fun e => ?_, fun d0 dr i v e hv hm => ?_⟩
        · refine q _ _ G2 H2 n12 rz (k0 ?_)
          cases es with
          | nil => rfl
          | cons d r => cases e
        · cases es with
          | nil => cases e
          | cons d r =>
            cases e
            obtain ⟨y, hy, ry⟩ := t.get' hv
            obtain ⟨y', hy', e'⟩ := pyDs_get hm
            rw [hy] at hy'
            cases hy'
            exact q v y G2 H2 n12 ry (k1 _ _ rfl _ (List.mem_of_getElem? hy) e'.symm)
      rcases he with rfl | rfl
      · cases r1 with
        | cons r s =>
          cases s
          cases r with
          | lst s t => exact fin _ _ (.inl (same_l (n2.gg.trans n2.gh) s)) (t.mono n2.gg)
      · cases r1 with
        | cons r s =>
          cases s
          cases r with
          | tup s t => exact fin _ _ (.inr (same_t (n2.gg.trans n2.gh) s)) (t.mono n2.gg)
/-! of whole numbers -/
def mmI (mx : Bool) (n : Int) (r : List Int) : Int := r.foldl (fun a y => if (if mx then a < y else y < a) then y else a) n
theorem mm_ints (mx : Bool) : ∀ (r : List Int) (n : Int), mmD mx (.int n) (r.map PyData.int) = .int (mmI mx n r)
  | [], n => by cases mx <;> rfl
  | y :: r, n => by
    have ih := mm_ints mx r
    have e1 : mmD mx (.int n) ((y :: r).map PyData.int) = mmD mx (if (if mx then dataLt (.int n) (.int y) else dataLt (.int y) (.int n)) = true then .int y else .int n) (r.map PyData.int) := by
      cases mx <;> rfl
    have e2 : (if (if mx then dataLt (.int n) (.int y) else dataLt (.int y) (.int n)) = true then PyData.int y else .int n) = .int (if (if mx then n < y else y < n) then y else n) := by
      cases mx
      · simp only [Bool.false_eq_true, if_false, dataLt_int, decide_eq_true_eq]
        split <;> rfl
      · simp only [if_true, dataLt_int, decide_eq_true_eq]
        split <;> rfl
    rw [e1, e2, ih]
    rfl
theorem pyDs_ints : ∀ l : List Int, pyDs (l.map Dt.int) = l.map PyData.int
  | [] => rfl
  | x :: r => by show pyD _ :: pyDs _ = _; rw [pyDs_ints r]; rfl
theorem plain_ints : ∀ l : List Int, plainDs (l.map Dt.int) = true
  | [] => rfl
  | x :: r => by show (true && plainDs (r.map Dt.int)) = true; rw [plain_ints r]; rfl
theorem depth_ints : ∀ l : List Int, PyData.depthAll (l.map PyData.int) ≤ 50
  | [] => by simp [PyData.depthAll]
  | x :: r => by
    have := depth_ints r
    simp [PyData.depthAll, PyData.depth] at this ⊢
    omega
theorem alike_ints (l : List Int) : AlikeAll (l.map PyData.int) := by
  refine ⟨fun x hx y hy => ?_, fun x hx => ?_⟩
  · obtain ⟨i, _, rfl⟩ := List.mem_map.mp hx
    obtain ⟨j, _, rfl⟩ := List.mem_map.mp hy
    simp [alike]
  · obtain ⟨i, _, rfl⟩ := List.mem_map.mp hx
    exact fun z => by cases z
theorem ev_mmdefI (mx : Bool) {ta tk : TA} {R : Dt → Prop} (h : Ed K J env ta fun ds => ∃ ns : List Int, (ds = [.lst (ns.map Dt.int)] ∨ ds = [.tup (ns.map Dt.int)]) ∧
    Ed K J env tk fun zs => ∃ z, zs = [z] ∧ (ns = [] → R z) ∧ ∀ n r, ns = n :: r → R (.int (mmI mx n r))) : Ev K J env (tCKw (rMMdef K mx) ta tk) R :=
  ev_mmdef mx fun B G H σ w E Q q => h B G H σ w E Q fun vs ds G' H' n rs ⟨ns, e, k⟩ => q vs ds G' H' n rs ⟨_, e, plain_ints ns, by rw [pyDs_ints]; exact alike_ints ns, by rw [pyDs_ints]; exact depth_ints ns,
    fun B G H σ w E Q q => k B G H σ w E Q fun vs zs G' H' n rs ⟨z, ez, k0, k1⟩ => q vs zs G' H' n rs ⟨z, ez, fun z => k0 (by cases ns with | nil => rfl | cons a b => cases z), fun d r er y hy ey => by
      cases ns with
      | nil => cases er
      | cons a b =>
        cases er
        obtain ⟨i, _, rfl⟩ := List.mem_map.mp hy
        rw [pyDs_ints] at ey
        have ey2 : PyData.int i = mmD mx (.int a) (b.map PyData.int) := ey
        rw [mm_ints] at ey2
        cases ey2
        exact k1 a b rfl⟩⟩
/-! of pairs of whole numbers -/
abbrev iiD (p : Int × Int) : Dt := .tup [.int p.1, .int p.2]
def ltP (p q : Int × Int) : Prop := p.1 < q.1 ∨ (p.1 = q.1 ∧ p.2 < q.2)
instance (p q : Int × Int) : Decidable (ltP p q) := inferInstanceAs (Decidable (_ ∨ _))
def minP (n : Int × Int) (r : List (Int × Int)) : Int × Int := r.foldl (fun a y => if ltP y a then y else a) n
def pyP (p : Int × Int) : PyData := .tuple [.int p.1, .int p.2]
theorem mm_pairs : ∀ (r : List (Int × Int)) (n : Int × Int), mmD false (pyP n) (r.map pyP) = pyP (minP n r)
  | [], n => rfl
  | y :: r, n => by
    have ih := mm_pairs r
    have e1 : mmD false (pyP n) ((y :: r).map pyP) = mmD false (if dataLt (pyP y) (pyP n) = true then pyP y else pyP n) (r.map pyP) := rfl
    have e2 : (if dataLt (pyP y) (pyP n) = true then pyP y else pyP n) = pyP (if ltP y n then y else n) := by
      unfold pyP
      rw [dataLt_ii]
      show (if decide (ltP y n) = true then _ else _) = _
      by_cases h : ltP y n
      · rw [if_pos (decide_eq_true h), if_pos h]
      · rw [if_neg (by simpa using h), if_neg h]
    rw [e1, e2, ih]
    rfl
theorem pyDs_pairs : ∀ l : List (Int × Int), pyDs (l.map iiD) = l.map pyP
  | [] => rfl
  | x :: r => by show pyD _ :: pyDs _ = _; rw [pyDs_pairs r]; rfl
theorem plain_pairs : ∀ l : List (Int × Int), plainDs (l.map iiD) = true
  | [] => rfl
  | x :: r => by show (true && plainDs (r.map iiD)) = true; rw [plain_pairs r]; rfl
theorem depth_pairs : ∀ l : List (Int × Int), PyData.depthAll (l.map pyP) ≤ 50
  | [] => by simp [PyData.depthAll]
  | x :: r => by
    have := depth_pairs r
    simp [PyData.depthAll, PyData.depth, pyP] at this ⊢
    omega
theorem alike_pairs (l : List (Int × Int)) : AlikeAll (l.map pyP) := by
  refine ⟨fun x hx y hy => ?_, fun x hx => ?_⟩
  · obtain ⟨i, _, rfl⟩ := List.mem_map.mp hx
    obtain ⟨j, _, rfl⟩ := List.mem_map.mp hy
    simp [alike, alikeAll, pyP]
  · obtain ⟨i, _, rfl⟩ := List.mem_map.mp hx
    exact fun z => by cases z
theorem ev_mindefP {ta tk : TA} {R : Dt → Prop} (h : Ed K J env ta fun ds => ∃ ns : List (Int × Int), (ds = [.lst (ns.map iiD)] ∨ ds = [.tup (ns.map iiD)]) ∧
    Ed K J env tk fun zs => ∃ z, zs = [z] ∧ (ns = [] → R z) ∧ ∀ n r, ns = n :: r → R (iiD (minP n r))) : Ev K J env (tCKw (rMMdef K false) ta tk) R :=
  ev_mmdef false fun B G H σ w E Q q => h B G H σ w E Q fun vs ds G' H' n rs ⟨ns, e, k⟩ => q vs ds G' H' n rs ⟨_, e, plain_pairs ns, by rw [pyDs_pairs]; exact alike_pairs ns, by rw [pyDs_pairs]; exact depth_pairs ns,
    fun B G H σ w E Q q => k B G H σ w E Q fun vs zs G' H' n rs ⟨z, ez, k0, k1⟩ => q vs zs G' H' n rs ⟨z, ez, fun z => k0 (by cases ns with | nil => rfl | cons a b => cases z), fun d r er y hy ey => by
      cases ns with
      | nil => cases er
      | cons a b =>
        cases er
        obtain ⟨i, _, rfl⟩ := List.mem_map.mp hy
        rw [pyDs_pairs] at ey
        have ey2 : pyP i = mmD false (pyP a) (b.map pyP) := ey
        rw [mm_pairs] at ey2
        have e3 : i = minP a b := by
          unfold pyP at ey2
          injection ey2 with e
          injection e with e1 e
          injection e with e2
          injection e1 with e1
          injection e2 with e2
          exact Prod.ext e1 e2
        rw [e3]
        exact k1 a b rfl⟩⟩
end
theorem cr_mmdefK (K : PySem.W.Frag) {X : Cx} (mx : Bool) (hc : X.calm = true) (hu : X.A.units + 64 < cLine) (h : X.K = K := by rfl) : CallRK X (.builtin (if mx then "max" else "min")) [Str.ofString "default"] (rMMdef K mx) := h ▸ cr_mmdef mx hc hu
theorem cr_maxdK (K : PySem.W.Frag) {X : Cx} (hc : X.calm = true) (hu : X.A.units + 64 < cLine) (h : X.K = K := by rfl) : CallRK X (.builtin "max") [Str.ofString "default"] (rMMdef K true) := cr_mmdefK K true hc hu h
theorem cr_mindK (K : PySem.W.Frag) {X : Cx} (hc : X.calm = true) (hu : X.A.units + 64 < cLine) (h : X.K = K := by rfl) : CallRK X (.builtin "min") [Str.ofString "default"] (rMMdef K false) := cr_mmdefK K false hc hu h
end Mv

set_option Elab.async false
set_option linter.all false
set_option maxRecDepth 100000
set_option maxHeartbeats 4000000
/-! for k, v in d.items(), d a dict with tuple keys. -/
namespace L2
open PySem PySem.Spec PyProof.Rows
/-- the pairs of a dict with tuple keys, each a new tuple -/
def Itit (d : Addr) (o : Obj) (kvs : List (List Key × V)) : It :=
  ⟨fun i H => H d = some (.frz o (.dT kvs)) ∧ i < kvs.length, fun i H x H' => ∃ (T q : Addr) (k : List Key) (v : V), kvs[i]? = some (k, v) ∧ x = .ref T ∧ H T = none ∧ H q = some (.tup (k.map kV)) ∧ H' = upd H T (.tup [.ref q, v]), fun i H => H d = some (.frz o (.dT kvs)) ∧ kvs.length ≤ i⟩
section
variable {X : Cx} {pins : List (Addr × Obj)} {σ : St} {H : Hp} {s : Shared} {d : Addr} {o : Obj}
theorem Inv.frzT2 {kvs : List (List Key × V)} (I : Inv X pins σ H s) (h : H d = some (.frz o (.dT kvs))) :
    (d == sysModules) = false ∧ s.heap.get? d = some o ∧ o.ExactDict ∧ ∃ (es : Array DictEntry) (ep : Nat), o.data = .dict es ep ∧ es.size = kvs.length ∧
      ∀ (i : Nat) (k : List Key) (v : V), kvs[i]? = some (k, v) → ∃ (en : DictEntry) (q : Addr), es[i]? = some en ∧ en.key = .ref q ∧ H q = some (.tup (k.map kV)) ∧ RelV v en.val := by
  obtain ⟨hd, z, hs, xs, pr, o', es, ep, ho, hx, hdt, he, _⟩ := I.hok d _ h
  rw [hd] at ho
  cases ho
  refine ⟨hs, hd, hx, es, ep, hdt, ?_, fun i k v e => ?_⟩
  · have l1 : es.size = xs.length := size_of_entries he
    have l2 : kvs.length = xs.length := Paired.length pr
    omega
  · obtain ⟨b, hb, e1, e2, e3⟩ := paired_get pr e
    have q := entry_at he i
    rw [hb] at q
    exact ⟨_, b.2.1, q, rfl, e2, e3⟩
end
section
variable {P : Program} {w : World} {K : PySem.W.Frag} {d : Addr} {o : Obj} {es : Array DictEntry} {ep : Nat}
theorem turn_itemsT {kvs : List (List Key × V)} {elts : List Expr} {kk : Nat} {tpos : Pos} (it : Addr) (hod : o.data = .dict es ep) :
    Turn P w K (.Tuple elts kk tpos) (Itit d o kvs) [it] it (fun i h => ∃ ok ov, IsItemIter h it d i kvs.length ep ok ov) where
  mem := by simp
  obj := fun i h st b hb => by
    have e : b = it := by simpa using hb
    subst e
    obtain ⟨ok, ov, e⟩ := st
    exact ⟨_, e, fun v z => nomatch z⟩
  keep := fun i h h' st k => let ⟨ok, ov, e⟩ := st; ⟨ok, ov, k it (by simp) _ e⟩
  item := by
    intro X hP hw hK hc i pins s σ H E I hf st hg
    subst hP hw hK
    obtain ⟨hd, hi⟩ := hg
    obtain ⟨hs, hgd, hx, es', ep', hdt, hsz, hent⟩ := I.frzT2 hd
    obtain ⟨rfl, rfl⟩ := dict_ep hod hdt
    obtain ⟨⟨k, v⟩, hkv⟩ : ∃ p, kvs[i]? = some p := ⟨kvs[i], List.getElem?_eq_getElem hi⟩
    obtain ⟨en, q, hen, hkey, hq, ru⟩ := hent i k v hkv
    obtain ⟨ok, ov, he⟩ := st
    rw [← hsz] at he
    have hies : i < es'.size := by rw [hsz]; exact hi
    have een : es'[i] = en := Option.some.inj ((Array.getElem?_eq_getElem hies).symm.trans hen)
    have hlt : it < s.heap.objs.size := Heap.lt_size he
    refine DT.nextI he ⟨o, hgd, hx, hdt⟩ hies fun h' ho hT hz hk => ?_
    rw [een, hkey] at ho hT
    refine ⟨_, rfl, wpAny_letOwnedTupleGo_items (s := { s with heap := h' }) ho fun h'' he' sb => ?_⟩
    have hT2 : h''.get? s.heap.objs.size = some { cls := .type "tuple", data := .seq #[.ref q, en.val] } := (sb.2 _ (Nat.ne_of_gt hlt)).trans hT
    have new : ObjOk X.prog X.w (upd H s.heap.objs.size (.tup [.ref q, v])) h'' s.heap.objs.size (.tup [.ref q, v]) :=
      ⟨by show 2 ≤ sizeLine; decide, [.ref q, en.val], .cons (show RelV (.ref q) (.ref q) from rfl) (.cons ru .nil), ⟨_, hT2, rfl, _, rfl⟩⟩
    have I1 : Inv X pins σ (upd H s.heap.objs.size (.tup [.ref q, v])) { s with heap := h'' } :=
      I.turnedNew (t' := s.toks) (ch := [it]) (fun b ob hb e => (sb.2 b (by simpa using hb)).trans (hk b ob (by simpa using hb) e)) hf (Nat.le_refl _) new
    refine ⟨.ref s.heap.objs.size, _, I1, rfl, ⟨_, q, k, v, hkv, rfl, I.hok.fresh (Nat.le_refl _), hq, rfl⟩, ⟨.ref q, en.val, ?_⟩, fun b hb => ?_⟩
    · rw [← hsz]; exact he'
    · have e : b = it := by simpa using hb
      rw [e, upd_ne (Nat.ne_of_lt hlt)]
      exact (hf it (by simp)).1
  done := by
    intro X hP hw hK hc i pins s σ H E I hf st hg
    subst hP hw hK
    obtain ⟨hd, hi⟩ := hg
    obtain ⟨f0, f1, f2, f3, f4, f5⟩ := hf it (by simp)
    obtain ⟨hs, hgd, hx, es', ep', hdt, hsz, hent⟩ := I.frzT2 hd
    obtain ⟨rfl, rfl⟩ := dict_ep hod hdt
    obtain ⟨ok, ov, he⟩ := st
    rw [← hsz] at he
    exact DT.endI (I.ok.hd hc) he ⟨o, hgd, hx, hdt⟩ (by rw [hsz]; exact hi) fun h' eb => ⟨rfl, I.turned (t' := s.toks) (fun b ob hb e => eb b ob hb e) f0 f1 f3 f4 f5⟩
  self := fun A i s Q E st h => let ⟨_, _, e⟩ := st; PySem.W.kcp_self e h
end
/-- the dict is locked -/
def iItemsT (td : TE) : TI := fun σ H R => td σ H fun x H1 => ∃ d o kvs, x = .ref d ∧ H1 d = some (.frz o (.dT kvs)) ∧ R (Itit d o kvs) H1
section
variable {X : Cx} {e : Expr} {td : TE} {apos cpos : Pos}
theorem pi_itemsT {elts : List Expr} {kk : Nat} {tpos : Pos} (he : PE X e td) (hbase : attributeBase e "items" X.env (eval e X.env) = eval e X.env := by rfl) (hline : (apos.endLine == cpos.line) = true := by rfl) :
    PI X (.Tuple elts kk tpos) (.Call (.Attribute e "items" apos) [] [] cpos) (iItemsT td) := by
  refine ⟨fun pins s σ H R I h => ?_⟩
  refine wpAny_Call_method (T := "dict") (id := "dict.items") hbase rfl hline F.plainAttrs_dict F.slot_dict_items F.type_dict_items (thn (he.run pins s σ H _ I h) fun u s1 ⟨x, H1, I1, rx, d, o, kvs, ex, hd, q⟩ => ?_)
  subst ex
  obtain rfl : u = Value.ref d := rx
  obtain ⟨hs, hgd, hx, es, ep, hdt, hsz, hent⟩ := I1.frzT2 hd
  have raw : DT.Raw s1.heap d es ep := ⟨o, hgd, hx, hdt⟩
  refine ⟨raw.typeIs, fun b eb => ⟨o, by cases eb; exact hgd, hx.2.1⟩, ?_⟩
  have I2 : Inv X pins σ H1 { s1 with heap := s1.heap.push { cls := .type "dict_items", data := .fields #[.ref d] } } := I1.kept (t' := s1.toks) fun b ob q => Heap.get?_push_of_some _ q
  have fin : wpAny (model X.prog X.w) X.A (pyIter (.ref s1.heap.objs.size)) (PIE X pins σ (.Tuple elts kk tpos) R) X.xe { s1 with heap := s1.heap.push { cls := .type "dict_items", data := .fields #[.ref d] } } := by
    refine DT.iterI (d := d) ⟨_, Heap.get?_push_size _ rfl, rfl, rfl⟩ (raw.push _) (pi_one (tk := s1.toks) I2 _ (turn_itemsT _ hdt) ⟨.none, .none, ?_⟩ q)
    rw [← hsz]
    exact Heap.get?_push_size _ rfl
  show wpAny _ _ (callWith cpos (.builtin "dict.items") [.ref d] [] []) _ X.xe s1
  exact method_meetsIn F.slot_dict_items F.entry_dict_items rfl (PySem.evalArgs_none ⟨rfl, raw.typeIs, F.args_dict_items_1 _, _, DT.meetsItems (es := es) (ep := ep) hs, raw, fin⟩)
end
end L2

set_option Elab.async false
set_option linter.all false
set_option maxRecDepth 100000
set_option maxHeartbeats 4000000
/-! Told dicts whose keys are pairs of whole numbers. -/
namespace Mv
open PySem PySem.Spec PyProof.Rows L2
def getQ {κ : Type} [DecidableEq κ] (kvs : List (κ × Dt)) (k : κ) : Option Dt := (kvs.find? fun kv => decide (kv.1 = k)).map fun kv => kv.2
def putQ {κ : Type} [DecidableEq κ] (kvs : List (κ × Dt)) (k : κ) (d : Dt) : List (κ × Dt) := if (kvs.any fun kv => decide (kv.1 = k)) = true then kvs.map fun kv => if kv.1 = k then (kv.1, d) else kv else kvs ++ [(k, d)]
section
variable {K : PySem.W.Frag} {G : Hp}
theorem Dq.length {κ : Type} : ∀ {vs : List (κ × V)} {kvs : List (κ × Dt)}, Dq K G vs kvs → vs.length = kvs.length
  | _, _, .nil => rfl
  | _, _, .cons _ t => by rw [List.length_cons, List.length_cons, Dq.length t]
theorem Dq.get {κ : Type} [DecidableEq κ] {n : κ} : ∀ {vs : List (κ × V)} {kvs : List (κ × Dt)}, Dq K G vs kvs → (∀ x, getQ kvs n = some x → ∃ v, valV vs n = some v ∧ Dr K G v x) ∧ (getQ kvs n = none → valV vs n = none)
  | _, _, .nil => ⟨fun x h => (by cases h), fun _ => rfl⟩
  | _, _, .cons (k := k) (v := v) (d := d) r t => by
    have ih := Dq.get (n := n) t
    unfold getQ valV at ih ⊢
    rw [List.find?_cons, List.find?_cons]
    by_cases h : k = n
    · rw [decide_eq_true h]
      exact ⟨fun x hx => (by cases hx; exact ⟨v, rfl, r⟩), fun hx => (by cases hx)⟩
    · rw [decide_eq_false h]
      exact ih
theorem Dq.any {κ : Type} [DecidableEq κ] {n : κ} : ∀ {vs : List (κ × V)} {kvs : List (κ × Dt)}, Dq K G vs kvs → (vs.any fun kv => decide (kv.1 = n)) = kvs.any fun kv => decide (kv.1 = n)
  | _, _, .nil => rfl
  | _, _, .cons r t => by
    rw [List.any_cons, List.any_cons, Dq.any t]
theorem Dq.app {κ : Type} {n : κ} {v : V} {d : Dt} (rd : Dr K G v d) : ∀ {vs : List (κ × V)} {kvs : List (κ × Dt)}, Dq K G vs kvs → Dq K G (vs ++ [(n, v)]) (kvs ++ [(n, d)])
  | _, _, .nil => .cons rd .nil
  | _, _, .cons r t => .cons r (Dq.app rd t)
theorem Dq.upd {κ : Type} [DecidableEq κ] {n : κ} {v : V} {d : Dt} (rd : Dr K G v d) : ∀ {vs : List (κ × V)} {kvs : List (κ × Dt)}, Dq K G vs kvs → Dq K G (vs.map fun kv => if kv.1 = n then (kv.1, v) else kv) (kvs.map fun kv => if kv.1 = n then (kv.1, d) else kv)
  | _, _, .nil => .nil
  | _, _, .cons (k := k) r t => by
    rw [List.map_cons, List.map_cons]
    by_cases h : k = n
    · subst h
      rw [if_pos rfl, if_pos rfl]
      exact .cons rd (Dq.upd rd t)
    · rw [if_neg h, if_neg h]
      exact .cons r (Dq.upd rd t)
theorem Dq.put {κ : Type} [DecidableEq κ] {n : κ} {v : V} {d : Dt} {vs : List (κ × V)} {kvs : List (κ × Dt)} (t : Dq K G vs kvs) (rd : Dr K G v d) : Dq K G (putK vs n v) (putQ kvs n d) := by
  unfold putK putQ
  rw [t.any]
  split
  · exact t.upd rd
  · exact t.app rd
theorem Dq.at {κ : Type} : ∀ {vs : List (κ × V)} {kvs : List (κ × Dt)}, Dq K G vs kvs → ∀ {i : Nat} {k : κ} {v : V}, vs[i]? = some (k, v) → ∃ x, kvs[i]? = some (k, x) ∧ Dr K G v x
  | _, _, .cons r t, 0, k, v, e => by
    have e' := Option.some.inj (show some _ = some (k, v) from e)
    cases e'
    exact ⟨_, rfl, r⟩
  | _, _, .cons r t, i + 1, k, v, e => by
    obtain ⟨x, b, c⟩ := Dq.at t (i := i) (by simpa using e)
    exact ⟨x, by simpa using b, c⟩
end
/-- the key of a pair of whole numbers -/
abbrev k2 (a b : Int) : List Key := [Sum.inl a, Sum.inl b]
section
variable {K : PySem.W.Frag} {J : Jm} {M : Mm} {MV : Mh} {env : List Sl} {D : DM} {te ta tb tv td : TE} {R : Dt → Mm → Prop}
/-- {} -/
theorem evm_dnewT (h : ∀ p, M p = none → R (.ptr p) (updM M p (.dit []))) : EvM K J M env D tDNewT R := fun MV0 MV GB B G H σ a x Q q p hp => by
  have hj : p ∉ J.ms := (not_jt.mp (a.wf.notin hp)).1
  have hM := a.wf.none_ hp
  have n1 := a.wf.newM hp (.dT [])
  have n2 := nxm_put (ho := .dT []) (.inr hp) (NxM.of n1)
  exact q (.ref p) (.ptr p) _ _ G _ n2 (a.thenM n2 ((n1.wf a.wf).put hj (a.wf.free hp) upd_same (.dit .nil))) (.ptr _) (h p hM.2)
/-- a new pair of whole numbers, of which is known how it lies -/
theorem ev_key {R : Dt → Prop} {Q : VK} {B G H : Hp} {σ : L2.St} (w : Wf J G H) (E : En K J B G H σ env) (h : Ev K J env ta fun x => ∃ m, x = .int m ∧ Ev K J env tb fun y => ∃ n, y = .int n ∧ R (.tup [.int m, .int n]))
    (q : ∀ p m n G' H', Nx J G H G' H' → H' p = some (.tup ((k2 m n).map kV)) → R (.tup [.int m, .int n]) → Q (.ref p) H') : tTup (tCons ta (tCons tb tNil)) σ H Q :=
  h B G H σ w E _ fun v x G1 H1 n1 r1 ⟨m, e1, k⟩ => k B G1 H1 σ (n1.wf w) (E.mono n1) _ fun u y G2 H2 n2 r2 ⟨n, e2, k2'⟩ => ⟨by show 2 ≤ sizeLine; decide, fun p hp => by
    subst e1 e2
    cases r1
    cases r2
    have n12 := n1.trans n2
    have n3 := (n12.wf w).new hp (.tup [.int m, .int n])
    exact q p m n _ _ (n12.trans n3) upd_same k2'⟩
/-- d.get((m, n), z) -/
theorem ev_dget2T {R : Dt → Prop} {i : Nat} {p : Addr} {kvs : List (List Key × Dt)} (hi : env[i]? = some (.d (.ptr p))) (hM : M p = some (.dit kvs)) (h : Ev K (Jt K J MV M) env ta fun x => ∃ m, x = .int m ∧ Ev K (Jt K J MV M) env tb fun y => ∃ n, y = .int n ∧ Ev K (Jt K J MV M) env tv fun z => R ((getQ kvs (k2 m n)).getD z)) :
    Ev K (Jt K J MV M) env (tDGet2 (tVar i) (tTup (tCons ta (tCons tb tNil))) tv) R := fun B G H σ w E Q q => by
  obtain ⟨v, h1, r⟩ := E.dat hi
  cases r
  obtain ⟨vs0, hv0, hH0, _⟩ := w.ditM hM
  refine ⟨.ref p, h1, p, rfl, .inr ⟨vs0, .inl hH0⟩, h B G H σ w E _ fun v x G1 H1 n1 r1 ⟨m, e1, k⟩ => k B G1 H1 σ (n1.wf w) (E.mono n1) _ fun u y G2 H2 n2 r2 ⟨n, e2, k2'⟩ => ⟨by show 2 ≤ sizeLine; decide, fun b hb => ?_⟩⟩
  subst e1 e2
  cases r1
  cases r2
  have n12 := n1.trans n2
  have w2 := n12.wf w
  have n3 := w2.new hb (.tup [.int m, .int n])
  have w3 := n3.wf w2
  have E3 := (E.mono n12).mono n3
  refine k2' B _ _ σ w3 E3 _ fun u z G4 H4 n4 rz kx => ?_
  have w4 := n4.wf w3
  obtain ⟨vs, _, hH, rq⟩ := w4.ditM hM
  have hbt : H4 b = some (.tup ((k2 m n).map kV)) := n4.gh _ _ (n4.gg _ _ upd_same)
  have g := rq.get (n := k2 m n)
  have nn := (n12.trans n3).trans n4
  cases e : getQ kvs (k2 m n) with
  | some x =>
    obtain ⟨y, h3, h4⟩ := g.1 x e
    rw [e] at kx
    exact ⟨some y, .inr ⟨vs, k2 m n, b, .inl hH, rfl, hbt, h3.symm⟩, q y x G4 H4 nn h4 kx⟩
  | none =>
    rw [e] at kx
    exact ⟨none, .inr ⟨vs, k2 m n, b, .inl hH, rfl, hbt, (g.2 e).symm⟩, q u z G4 H4 nn rz kx⟩
/-- d[m, n] = e -/
theorem sm_dputT {i : Nat} {p : Addr} {kvs : List (List Key × Dt)} (hi : env[i]? = some (.d (.ptr p))) (hM : M p = some (.dit kvs)) (hz : kvs.length < 100000)
    (h : ∀ MV, Ev K (Jt K J MV M) env tv fun d => Ev K (Jt K J MV M) env ta fun x => ∃ m, x = .int m ∧ Ev K (Jt K J MV M) env tb fun y => ∃ n, y = .int n ∧ D.nx (updM M p (.dit (putQ kvs (k2 m n) d))) env) :
    SvM K J M env (sDPut (tVar i) (tTup (tCons ta (tCons tb tNil))) tv) D := fun MV0 MV GB B G H σ a E r =>
  h MV B G H σ a.wf a.en _ fun v d G1 H1 n1 rd k => by
    have a1 := a.then n1
    obtain ⟨v0, h1, r0⟩ := a1.en.dat hi
    cases r0
    refine ⟨.ref p, h1, k B G1 H1 σ a1.wf a1.en _ fun v1 x G2 H2 n2 r1 ⟨m, e1, k⟩ => k B G2 H2 σ (n2.wf a1.wf) (a1.en.mono n2) _ fun u y G3 H3 n3 r2 ⟨n, e2, kx⟩ => ⟨by show 2 ≤ sizeLine; decide, fun b hb => ?_⟩⟩
    subst e1 e2
    cases r1
    cases r2
    have a3 := (a1.then n2).then n3
    have n4 := a3.wf.new hb (.tup [.int m, .int n])
    have a4 := a3.then n4
    obtain ⟨us, e1, e2, t⟩ := a4.wf.ditM hM
    have n5 := a4.wf.chgN (ho' := .dT (putK us (k2 m n) v)) e1
    refine ⟨p, _, rfl, .inr ⟨us, k2 m n, b, e2, rfl, upd_same, sz_lt (by rw [t.length]; exact hz), rfl⟩, r.nx _ _ env _ _ σ (a4.thenM n5 (a4.wf.chg e1 (.dit (t.put (rd.mono ((n2.gg.trans n3.gg).trans n4.gg)))))) kx⟩
end
end Mv

set_option Elab.async false
set_option linter.all false
set_option maxRecDepth 100000
set_option maxHeartbeats 4000000
/-! [e for (m, n), v in d.items() if ..], d a told dict whose keys are pairs of whole numbers. -/
namespace Mv
open PySem PySem.Spec PyProof.Rows L2
theorem upd_back {H : Hp} {p : Addr} {o u : HO} (h : H p = some o) : upd (upd H p u) p o = H := by
  funext b
  by_cases e : b = p
  · subst e; rw [upd_same, h]
  · rw [upd_ne e, upd_ne e]
/-- the told objects, that at p only read -/
def JfT (K : PySem.W.Frag) (J : Jm) (MV : Mh) (M : Mm) (p : Addr) (od : Obj) (vs : List (List Key × V)) (kvs : List (List Key × Dt)) (hp : p ∈ (Jt K J MV M).ms) : Jm where
  ms := (Jt K J MV M).ms
  ok := fun H => (Jt K J MV M).ok (upd H p (.dT vs)) ∧ H p = some (.frz od (.dT vs))
  st := fun H H' ⟨a, b⟩ k => ⟨(Jt K J MV M).st _ _ a fun x hx => by
    by_cases z : x = p
    · subst z; rw [upd_same, upd_same]
    · rw [upd_ne z, upd_ne z]; exact k x hx, by rw [k p hp]; exact b⟩
  hd := none
  hm := fun k e => nomatch e
  hg := fun k H e => nomatch e
  hp := fun k H H' e => nomatch e
  tr := fun G => (Jt K J MV M).tr G ∧ Dq K G vs kvs
  trm := fun G G' e ⟨a, b⟩ => ⟨(Jt K J MV M).trm G G' e a, b.mono e⟩
def plainE (env : List Sl) : Bool := env.all fun s => match s with
  | .d _ => true
  | .no => true
  | _ => false
section
variable {K : PySem.W.Frag} {J : Jm} {MV : Mh} {M : Mm} {env : List Sl} {te : TE} {tt : TT} {R : List Dt → Prop} {p : Addr} {kvs : List (List Key × Dt)} {od : Obj} {vs : List (List Key × V)} {hp : p ∈ (Jt K J MV M).ms}
theorem En.plain {J1 J2 : Jm} {B G H G' H' : Hp} {σ : L2.St} (E : En K J1 B G H σ env) (h : plainE env = true) (sg : Same G G') : En K J2 B G' H' σ env := by
  refine ⟨E.len, fun i s hs => ?_, fun i j q hne ⟨xs, hx⟩ => ?_⟩
  · obtain ⟨ov, h1, h2⟩ := E.ok i s hs
    refine ⟨ov, h1, ?_⟩
    have := List.all_eq_true.mp h s (List.mem_of_getElem? hs)
    cases s <;> first | exact trivial | (cases this; done) | skip
    obtain ⟨v, e, r⟩ := h2
    exact ⟨v, e, r.mono sg⟩
  · have := List.all_eq_true.mp h _ (List.mem_of_getElem? hx)
    cases this
theorem em_lockT (hpl : plainE env = true) (hM : M p = some (.dit kvs)) (h : ∀ od vs hp, Em K (JfT K J MV M p od vs kvs hp) env te R) : Em K (Jt K J MV M) env (tLockE te) R := fun B G H σ w E Q q => by
  obtain ⟨vs, hv, hH, rq⟩ := w.ditM hM
  have hp : p ∈ (Jt K J MV M).ms := .inr (by rw [hv]; simp)
  have hG := (w.ms p hp).1
  refine ⟨p, .dT vs, hH, trivial, fun od => ?_⟩
  have w' : Wf (JfT K J MV M p od vs kvs hp) G (upd H p (.frz od (.dT vs))) := by
    refine ⟨fun b u e => ?_, ⟨by rw [upd_back hH]; exact w.ok, upd_same⟩, fun m hm => ⟨(w.ms m hm).1, ?_⟩, w.tr, rq⟩
    · rw [upd_ne (ne_of_none e hG)]; exact w.gh b u e
    · by_cases z : m = p
      · subst z; rw [upd_same]; simp
      · rw [upd_ne z]; exact (w.ms m hm).2
  refine h od vs hp B G _ σ w' (E.plain hpl (Same.refl _)) _ fun p' vs' ds G' H' n hG' hH0 hH' r k => ?_
  have hpG : G' p = none := n.fr p hG (by rw [upd_same]; simp)
  have hne : p' ≠ p := fun z => by
    have := n.ok.2
    rw [← z, hH'] at this
    cases this
  refine ⟨n.ok.2, q p' vs' ds G' _ ⟨n.gg, fun b u e => ?_, fun b h1 h2 => n.fr b h1 ?_, fun b o e hb => ?_, fun b hb => ?_, n.ok.1⟩ hG' ?_ (by rw [upd_ne hne]; exact hH') r k⟩
  · rw [upd_ne (ne_of_none e hpG)]; exact n.gh b u e
  · by_cases z : b = p
    · subst z; rw [upd_same]; simp
    · rw [upd_ne z]; exact h2
  · have z : b ≠ p := fun z => hb (by rw [z]; exact hp)
    rw [upd_ne z]
    exact n.kp b o (by rw [upd_ne z]; exact e) hb
  · by_cases z : b = p
    · subst z; rw [upd_same]; simp
    · rw [upd_ne z]
      exact n.th b (by rw [upd_ne z]; exact hb)
  · rw [upd_ne hne] at hH0
    exact hH0
theorem em_lcT {i a b c : Nat} {ws : List Nat} (hi : env[i]? = some (.d (.ptr p))) (ha : a ∈ ws) (hb : b ∈ ws) (hc : c ∈ ws) (hk : ∀ q ∈ kvs, ∃ m n, q.1 = k2 m n) (hz : kvs.length ≤ 100000)
    (h : ∃ Iv : Nat → List Dt → Prop, Iv 0 [] ∧
      (∀ k m n d acc, kvs[k]? = some (k2 m n, d) → acc.length ≤ k → Iv k acc → Et K (JfT K J MV M p od vs kvs hp) ((((wipeE env ws).set a (.d (.int m))).set b (.d (.int n))).set c (.d d)) tt fun bo =>
        (bo = true → Ev K (JfT K J MV M p od vs kvs hp) ((((wipeE env ws).set a (.d (.int m))).set b (.d (.int n))).set c (.d d)) te fun y => Iv (k + 1) (acc ++ [y])) ∧ (bo = false → Iv (k + 1) acc)) ∧
      ∀ acc, acc.length ≤ kvs.length → Iv kvs.length acc → R acc) :
    Em K (JfT K J MV M p od vs kvs hp) env (tLc (iItemsT (tVar i)) (gTup K 2 (gCons (gTup K 2 (gCons (gName a) (gCons (gName b) gNil))) (gCons (gName c) gNil))) tt te ws) R := fun B G1 H1 σ w1 E1 Q q => by
  obtain ⟨v, h1, r⟩ := E1.dat hi
  cases r
  obtain ⟨Iv, h0, hs, hd⟩ := h
  refine ⟨.ref p, h1, p, od, vs, rfl, w1.ok.2, ?_⟩
  intro Dl hDl
  have hlen := w1.tr.2.length
  have hn : Dl ∉ (JfT K J MV M p od vs kvs hp).ms := w1.notin hDl
  have n0 := w1.newM hDl (.lst [])
  refine ⟨fun i m H' => m = kvs.length - i ∧ i ≤ kvs.length ∧ ∃ G' xs acc, Nx (JfT K J MV M p od vs kvs hp) G1 H1 G' H' ∧ G' Dl = none ∧ H' Dl = some (.lst xs) ∧ Da K G' xs acc ∧ acc.length ≤ i ∧ Iv i acc,
    ⟨kvs.length, by simp, Nat.zero_le _, G1, [], [], n0, w1.free hDl, upd_same, .nil, Nat.le_refl _, h0⟩, ?_⟩
  rintro i m H' ⟨rfl, hi, G', xs, acc, n, hG, hH, r, hl, pI⟩
  have w' := n.wf w1
  by_cases hlt : i < kvs.length
  · refine .inr ⟨⟨w'.ok.2, by omega⟩, fun H2 => ∃ G2 xs2 acc2, Nx (JfT K J MV M p od vs kvs hp) G1 H1 G2 H2 ∧ G2 Dl = none ∧ H2 Dl = some (.lst xs2) ∧ Da K G2 xs2 acc2 ∧ acc2.length ≤ i + 1 ∧ Iv (i + 1) acc2,
      fun H2 ⟨G2, xs2, acc2, a, b, c, d, e, f⟩ => ⟨kvs.length - (i + 1), by omega, rfl, hlt, G2, xs2, acc2, a, b, c, d, e, f⟩, fun x H2 y => ?_⟩
    obtain ⟨T, qa, k, v, hv, rfl, hT, hq, rfl⟩ := y
    obtain ⟨d, hkd, rv⟩ := w'.tr.2.at hv
    obtain ⟨mm, nn, ek⟩ := hk _ (List.mem_of_getElem? hkd)
    have ek : k = k2 mm nn := ek
    subst ek
    have n2 := w'.new hT (.tup [.ref qa, v])
    have n02 := n.trans n2
    have w2 := n2.wf w'
    have hqT : qa ≠ T := fun z => by rw [z, hT] at hq; cases hq
    have hq2 : (upd H' T (.tup [.ref qa, v])) qa = some (.tup [V.int mm, V.int nn]) := by rw [upd_ne hqT]; exact hq
    have E3 : En K (JfT K J MV M p od vs kvs hp) B (upd G' T (.tup [.ref qa, v])) (upd H' T (.tup [.ref qa, v])) ((((wipe σ ws).set a (some (.int mm))).set b (some (.int nn))).set c (some v)) ((((wipeE env ws).set a (.d (.int mm))).set b (.d (.int nn))).set c (.d d)) :=
      ((((E1.mono n02).wipe ws).setD (.int mm)).setD (.int nn)).setD (rv.mono n2.gg)
    refine ⟨T, [.ref qa, v], rfl, .inl (.inl upd_same), rfl, .ref qa, [v], rfl, ⟨qa, [V.int mm, V.int nn], rfl, .inl (.inl hq2), rfl, .int mm, [.int nn], rfl, .int nn, [], rfl, rfl, v, [], rfl, rfl, ?_⟩⟩
    refine ⟨wipe_eq (by simp) fun j hj => ?_, ?_⟩
    · rw [List.getElem?_set_ne (fun z => hj (by rw [← z]; exact hc)), List.getElem?_set_ne (fun z => hj (by rw [← z]; exact hb)), List.getElem?_set_ne (fun z => hj (by rw [← z]; exact ha))]
    refine hs i mm nn d acc hkd hl pI B _ _ _ w2 E3 _ fun bo G3 H3 n3 k => ?_
    have hG2 := n2.fr Dl hG (by rw [hH]; simp)
    have hH2 := n2.kp Dl _ hH hn
    have hG3 := n3.fr Dl hG2 (by rw [hH2]; simp)
    have hH3 := n3.kp Dl _ hH2 hn
    have w3 := n3.wf w2
    cases bo with
    | false => exact ⟨G3, xs, acc, n02.trans n3, hG3, hH3, (r.mono n2.gg).mono n3.gg, by omega, k.2 rfl⟩
    | true =>
      refine k.1 rfl B G3 H3 _ w3 (E3.mono n3) _ fun yv yd G4 H4 n4 ry ky => ?_
      have hG4 := n4.fr Dl hG3 (by rw [hH3]; simp)
      have hH4 := n4.kp Dl _ hH3 hn
      have n04 := (n02.trans n3).trans n4
      have n5 := n04.mut (o' := .lst (xs ++ [yv])) hDl hG4 hn hH4
      refine ⟨xs, hH4, sz_lt (by rw [r.length]; omega), G4, xs ++ [yv], acc ++ [yd], n5, hG4, upd_same, (((r.mono n2.gg).mono n3.gg).mono n4.gg).append (.cons ry .nil), by simp; omega, ky⟩
  · have e' : i = kvs.length := by omega
    subst e'
    exact .inl ⟨⟨w'.ok.2, by omega⟩, q Dl xs acc G' H' n hG (by
      cases z : H1 Dl with
      | none => rfl
      | some o => exact absurd hDl (by rw [z]; simp)) hH r (hd acc hl pI)⟩
end
end Mv

set_option Elab.async false
set_option linter.all false
set_option maxRecDepth 100000
set_option maxHeartbeats 4000000
/-! sorted(t), max(t), t a tuple of whole numbers. -/
namespace SrtO
open PySem PySem.Spec PyProof.Rows
open Sem (wp)
section
variable {prog : Program} {w : World} {A : Around} {E : Value → Shared → Prop} {s : Shared}
theorem collect_tuple {l : Addr} {vs : List Value} {Q : List Value → Shared → Prop} (hl : s.heap.IsTuple l vs.toArray)
    (h : Q vs { s with heap := (s.heap.push (seqObj "list" #[] 0)).update s.heap.objs.size (Obj.mapSeq (· ++ vs.toArray)) }) (hsz : vs.length ≤ sizeLine) :
    wpAny (model prog w) A (collect (.ref l)) Q E s := by
  obtain ⟨o, ho, hc, n, hd⟩ := id hl
  unfold collect
  refine wpAny_bind (wpAny_runValue (codeAny_builtin entry_proto_collect' ?_))
  show wpAny _ _ (do again (.builtin "list.__iadd__" ⟨[← newList [], .ref l], []⟩)) _ _ s
  refine wpAny_bind (wpAny_newList (wpAny_pure ⟨Code.quiet_builtin _ (by decide +kernel), codeAny_builtin entry_list_iadd' ?_⟩))
  show wpAny _ _ (Builtin.List.listExtendWith (.ref s.heap.objs.size) (.ref l) (.ref s.heap.objs.size)) _ _ { s with heap := s.heap.push (seqObj "list" #[] 0) }
  unfold Builtin.List.listExtendWith
  have ho' : (s.heap.push (seqObj "list" #[] 0)).get? l = some o := Heap.get?_push_of_some _ ho
  refine wpAny_bind (wpAny_typeOf (T := "tuple") ⟨o, ho', hc⟩ ?_)
  have ht : (Value.type "tuple" == Value.type "tuple") = true := by rfl
  rw [if_pos (by rw [ht]; simp)]
  refine wpAny_bind (listItems_at ho' hd ?_)
  refine wpAny_bind (listItems_at (xs := #[]) (n := 0) (Heap.get?_push_size _ rfl) rfl ?_)
  rw [if_neg (by simp)]
  refine wpAny_bind (listUpdate_at (xs := #[]) (n := 0) (Heap.get?_push_size _ rfl) rfl ?_ (Nat.zero_le _) (by show (#[] ++ vs.toArray).size ≤ sizeLine + 1; simp only [Array.size_append, List.size_toArray, List.length_nil]; omega))
  refine wpAny_pure ?_
  show wpAny (model prog w) A (do
      let o ← load s.heap.objs.size
      match o.data with
      | .seq xs _ => pure xs.toList
      | _ => unsupported "internal:collect") Q E { s with heap := (s.heap.push (seqObj "list" #[] 0)).update s.heap.objs.size (Obj.mapSeq (· ++ vs.toArray)) }
  refine wpAny_bind (wpAny_load (get?_update_seq (Heap.get?_push_size _ rfl) _) ?_)
  show wpAny _ _ (pure ((#[] : Array Value) ++ vs.toArray).toList) Q E _
  rw [show ((#[] : Array Value) ++ vs.toArray).toList = vs by simp]
  exact wpAny_pure h
theorem sorted_ordT {l : Addr} {vs : List Value} {ltv : Value → Value → Bool} {Q : Value → Shared → Prop} (O : Swo ltv) (hl : s.heap.IsTuple l vs.toArray) (hz : vs.length ≤ sizeLine)
    (hS : 2 ≤ vs.length → ∀ (h₁ : Heap) (a : Addr), h₁.get? a = some (seqObj "list" vs.toArray 0) → (∀ b o, s.heap.get? b = some o → b ≠ a ∧ h₁.get? b = some o) → SortableO prog w A.in1.in1 { s with heap := h₁ } a vs ltv)
    (h : ∀ out : List Value, Srtd ltv out → Stb ltv out vs → Q (.ref (s.heap.objs.size + 1)) { s with heap := sortedAll s.heap vs out.toArray }) :
    wpAny (model prog w) A (call (.builtin "sorted") [.ref l]) Q E s := by
  refine Calls.call_function_entry kind_sorted plain_sorted entry_sorted (args_sorted1 _) ?_
  unfold Builtin.«sorted»
  refine wpAny_bind (m := checkCount "sorted" 1 1 _) (wpAny_pure ?_)
  refine wpAny_bind (collect_tuple hl ?_ hz)
  refine wpAny_bind (wpAny_newList ?_ hz)
  have hsz : ((s.heap.push (seqObj "list" #[] 0)).update s.heap.objs.size (Obj.mapSeq (· ++ vs.toArray))).objs.size = s.heap.objs.size + 1 := by
    rw [Heap.size_update, size_push']
  have hoL : (((s.heap.push (seqObj "list" #[] 0)).update s.heap.objs.size (Obj.mapSeq (· ++ vs.toArray))).push (seqObj "list" vs.toArray 0)).get? (s.heap.objs.size + 1) = some (seqObj "list" vs.toArray 0) := by
    rw [← hsz]; exact Heap.get?_push_size _ rfl
  have keep : ∀ b o, s.heap.get? b = some o → b ≠ s.heap.objs.size + 1 ∧ (((s.heap.push (seqObj "list" #[] 0)).update s.heap.objs.size (Obj.mapSeq (· ++ vs.toArray))).push (seqObj "list" vs.toArray 0)).get? b = some o := fun b o q => by
    have hlt : b < s.heap.objs.size := Heap.lt_size q
    refine ⟨Nat.ne_of_lt (Nat.lt_succ_of_lt hlt), Heap.get?_push_of_some _ ?_⟩
    rw [Heap.get?_update_ne _ _ _ _ (Nat.ne_of_lt hlt)]
    exact Heap.get?_push_of_some _ q
  show wpAny _ _ _ _ _ { s with heap := ((s.heap.push (seqObj "list" #[] 0)).update s.heap.objs.size (Obj.mapSeq (· ++ vs.toArray))).push (seqObj "list" vs.toArray 0) }
  rw [hsz]
  refine wpAny_bind (wpAny_holding (wpAny_call_entry slot_list_sort ⟨_, hoL, rfl⟩ entry_list_sort (list_sort_ord O hoL hz (fun h2 => hS h2 _ _ hoL keep) fun out hs hb => ⟨_, rfl, ?_⟩) (args_list_sort _)))
  exact wpAny_pure ⟨_, rfl, h out hs hb⟩
end
end SrtO
namespace L2
open PySem PySem.Spec PyProof.Rows
/-- sorted(xs), a list or a tuple of whole numbers -/
def rSorted2 (K : PySem.W.Frag) : List V → Hp → VK → Prop := fun vs H Q => ∃ (a : Addr) (ns : List Int), vs = [V.ref a] ∧ (SqL K H a (ns.map V.int) ∨ SqT K H a (ns.map V.int)) ∧
  ∀ (ns' : List Int) (p : Addr), ns'.Perm ns → ns'.Pairwise (· ≤ ·) → H p = none → Q (.ref p) (upd H p (.lst (ns'.map V.int)))
section
variable {X : Cx}
theorem cr_sorted2 : CallR X (.builtin "sorted") (rSorted2 X.K) := by
  intro pins s σ H vs us Q I r h
  obtain ⟨a, ns, rfl, hs, q⟩ := h
  rcases hs with hs | hs
  · exact cr_sortedI pins s σ H _ us Q I r ⟨a, ns, rfl, hs, q⟩
  · obtain ⟨its, rv, hl, hz⟩ := I.tuple hs
    rw [Vals.ref1 r]
    have hi := rv.ints
    have hl' : s.heap.IsTuple a its.toArray := hl
    refine SrtO.sorted_ordT SrtO.swo_int hl' (by rw [← rv.length]; exact hz) (fun h2 h₁ a' _ _ => SrtO.ints_sortable hi h2) fun out h1 h2 => ?_
    obtain ⟨k1, k2, k3⟩ := SrtO.ints_out hi h1 h2
    obtain ⟨ep, he'⟩ := PyProof.Rows.sortedAll_at s.heap its out.toArray
    have hlen : ((out.map SrtO.iv).map V.int).length ≤ sizeLine := by
      rw [List.length_map, k2.length_eq]
      rw [List.length_map] at hz
      exact hz
    exact ⟨.ref _, upd H (s.heap.objs.size + 1) (.lst ((out.map SrtO.iv).map V.int)), I.laid (t' := s.toks) (fun _ _ => PyProof.Rows.sortedAll_old) (Nat.le_succ _) ⟨hlen, out, ep, vals_of_ints k1, he'⟩, rfl, q _ _ k2 k3 (I.hok.fresh (Nat.le_succ _))⟩
end
end L2
namespace Mv
open PySem PySem.Spec PyProof.Rows L2
theorem cr_sorted2K (K : PySem.W.Frag) {X : Cx} (h : X.K = K := by rfl) : CallR X (.builtin "sorted") (rSorted2 K) := h ▸ cr_sorted2
section
variable {K : PySem.W.Frag} {J : Jm} {R : Dt → Prop}
theorem oc_sorted2 {ns : List Int} {x : Dt} (hx : x = .lst (ns.map Dt.int) ∨ x = .tup (ns.map Dt.int)) (h : ∀ ns' : List Int, ns'.Perm ns → ns'.Pairwise (· ≤ ·) → R (.lst (ns'.map Dt.int))) : Oc K J (rSorted2 K) [x] R := fun G H vs w rs Q q => by
  cases rs with
  | cons r1 r2 =>
    cases r2
    have fin : ∀ a, (SqL K H a (ns.map V.int) ∨ SqT K H a (ns.map V.int)) → rSorted2 K [.ref a] H Q := fun a hs => ⟨a, ns, rfl, hs, fun ns' p hp1 hp2 hp => by
      have n2 := w.new hp (.lst (ns'.map V.int))
      exact q (.ref p) _ _ _ n2 (.lst (.inl (.inl upd_same)) Da.ints) (h ns' hp1 hp2)⟩
    rcases hx with rfl | rfl
    · cases r1 with
      | lst s t =>
        have e := t.ints_inv
        subst e
        exact fin _ (.inl (same_l w.gh s))
    · cases r1 with
      | tup s t =>
        have e := t.ints_inv
        subst e
        exact fin _ (.inr (same_t w.gh s))
end
end Mv

set_option Elab.async false
set_option linter.all false
set_option maxRecDepth 100000
set_option maxHeartbeats 4000000
/-! max(xs), xs a list or a tuple of whole numbers. -/
namespace Mv
open PySem PySem.Spec PyProof.Rows L2 PySem.W
def rMax2 (K : PySem.W.Frag) : List V → Hp → VK → Prop := fun vs H Q => ∃ (a : Addr) (n : Int) (r : List Int), vs = [.ref a] ∧ (SqL K H a ((n :: r).map V.int) ∨ SqT K H a ((n :: r).map V.int)) ∧ Q (.int (mmI true n r)) H
theorem dpa_ints {K : PySem.W.Frag} {H : Hp} : ∀ l : List Int, L2.DpAll K H (l.map V.int) (l.map PyData.int)
  | [] => .nil
  | x :: r => .cons (.int x) (dpa_ints r)
section
variable {X : Cx}
theorem cr_max2 (hc : X.calm = true) (hu : X.A.units + 64 < cLine) : CallR X (.builtin "max") (rMax2 X.K) := by
  intro pins s σ H vs us Q I r h
  obtain ⟨a, n, l, rfl, hs, q⟩ := h
  obtain rfl := Vals.ref1 r
  have hh := I.ok.hd hc
  have ha := alike_ints (n :: l)
  have hd := depth_ints (n :: l)
  have hdep : X.A.units + 1 + PyData.depthAll ((n :: l).map PyData.int) < cLine := by omega
  have key : ∀ (its : List Value) (as : List Addr), Vals ((n :: l).map V.int) its → ReadsAll s.heap its ((n :: l).map PyData.int) as →
      (∀ (i : Nat) v h' tk bs, its.toArray[i]? = some v → Reads h' v (maxD (.int n) (l.map PyData.int)) bs → (∀ b o, s.heap.get? b = some o → h'.get? b = some o) → EP X pins σ Q v { s with heap := h', toks := tk }) := by
    intro its as rv hr i v h' tk bs hv hr2 hk
    have hv' : its[i]? = some v := by simpa using hv
    have hlx : i < ((n :: l).map V.int).length := by rw [rv.length]; exact (List.getElem?_eq_some_iff.mp hv').1
    have hl2 : i < (n :: l).length := by rw [List.length_map] at hlx; exact hlx
    obtain ⟨u, hu', rx⟩ := rv.get (show ((n :: l).map V.int)[i]? = some (V.int (n :: l)[i]) by rw [List.getElem?_map, List.getElem?_eq_getElem hl2]; rfl)
    have : u = v := Option.some.inj (hu'.symm.trans hv')
    subst this
    obtain ⟨cs, r3, hlt, hmem, _⟩ := readsAll_at hr i u hv'
    have hgd : ((n :: l).map PyData.int).getD i .none = .int (n :: l)[i] := by rw [List.getD_eq_getElem?_getD, List.getElem?_map, List.getElem?_eq_getElem hl2]; rfl
    have hmx : maxD (.int n) (l.map PyData.int) = .int (mmI true n l) := mm_ints true l n
    rw [hgd] at r3 hmem
    rw [hmx] at hr2
    have hal : alike (.int (n :: l)[i]) (.int (mmI true n l)) = true := by simp [alike]
    have eq := alike_unique _ _ u _ _ hal (Reads.keeps hk r3) hr2
    injection eq with eq
    rw [eq] at rx
    exact ⟨_, H, I.kept (t' := tk) hk, rx, q⟩
  rcases hs with hs | hs
  · obtain ⟨its, rv, hl, _⟩ := I.list hs
    obtain ⟨as, hr⟩ := L2.Dp.readsAll I _ _ its (dpa_ints (n :: l)) rv
    have k := key its as rv hr
    exact max_list_data (x := .int n) (xs := l.map PyData.int) hh hl.isList (by simpa using hr) ha hdep k
  · obtain ⟨its, rv, hl, _⟩ := I.tuple hs
    obtain ⟨as, hr⟩ := L2.Dp.readsAll I _ _ its (dpa_ints (n :: l)) rv
    have hlT : s.heap.IsTuple a its.toArray := hl
    have k := key its as rv hr
    exact max_tuple_data (x := .int n) (xs := l.map PyData.int) hh hlT (by simpa using hr) ha hdep k
end
theorem cr_max2K (K : PySem.W.Frag) {X : Cx} (hc : X.calm = true) (hu : X.A.units + 64 < cLine) (h : X.K = K := by rfl) : CallR X (.builtin "max") (rMax2 K) := h ▸ cr_max2 hc hu
section
variable {K : PySem.W.Frag} {J : Jm} {R : Dt → Prop}
theorem oc_max2 {n : Int} {r : List Int} {x : Dt} (hx : x = .lst ((n :: r).map Dt.int) ∨ x = .tup ((n :: r).map Dt.int)) (h : R (.int (mmI true n r))) : Oc K J (rMax2 K) [x] R := fun G H vs w rs Q q => by
  cases rs with
  | cons r1 r2 =>
    cases r2
    rcases hx with rfl | rfl
    · cases r1 with
      | lst s t =>
        have e := t.ints_inv
        subst e
        exact ⟨_, n, r, rfl, .inl (same_l w.gh s), q _ _ G H w.nx (.int _) h⟩
    · cases r1 with
      | tup s t =>
        have e := t.ints_inv
        subst e
        exact ⟨_, n, r, rfl, .inr (same_t w.gh s), q _ _ G H w.nx (.int _) h⟩
end
end Mv

set_option Elab.async false
set_option linter.all false
set_option maxRecDepth 100000
set_option maxHeartbeats 4000000
namespace Mv
open PySem PySem.Spec PyProof.Rows L2
section
variable {K : PySem.W.Frag} {J : Jm} {env : List Sl} {te : TE} {R : Dt → Prop}
theorem ev_isiTL (h : Ev K J env te fun x => noOb x = true ∧ R (.bl (isiD x "tuple" || isiD x "list"))) : Ev K J env (tCB (rIsiT K) (tCons te (tCons (tTup (tCons (tC (.ty "tuple")) (tCons (tC (.ty "list")) tNil))) tNil))) R := fun B G H σ w E Q q =>
  h B G H σ w E _ fun v x G1 H1 n1 r ⟨hn, k⟩ => ⟨by show 2 ≤ sizeLine; decide, fun p hp => by
    have w1 := n1.wf w
    have n2 := w1.new hp (.tup [.ty "tuple", .ty "list"])
    obtain ⟨t, ht, hk⟩ : ∃ t, tyD x = some t ∧ PySem.W.kitAny K (.type t) [.type "tuple", .type "list"] = some (isiD x "tuple" || isiD x "list") := by
      cases x <;> first | exact ⟨_, rfl, rfl⟩ | (cases hn)
    exact ⟨v, p, [.ty "tuple", .ty "list"], .type t, [.type "tuple", .type "list"], _, rfl, upd_same, .cons (.ty _) (.cons (.ty _) .nil), ty_of (r.mono n2.gg) (n2.wf w1).gh ht, hk, q _ _ _ _ (n1.trans n2) (.bl _) k⟩⟩
theorem o2_eqN (h : R (.bl true)) : O2 K J L2.rEq .non .non R := fun G H vx vy w rx ry Q q => by
  cases rx
  cases ry
  refine ⟨rfl, ?_⟩
  rw [decide_eq_true rfl]
  exact q _ _ G H w.nx (.bl _) h
end
end Mv

set_option Elab.async false
set_option linter.all false
set_option maxRecDepth 100000
set_option maxHeartbeats 4000000
/-! isinstance of a caught error that keeps its arguments; defs of the telling kind that call themselves. -/
namespace Mv
open PySem PySem.Spec PyProof.Rows L2
section
open PySem.W
variable {prog : Program} {w : World} {A : Around} {E : Value → Shared → Prop} {K : Frag} {x D : Addr} {ox : Obj} {od : Option Obj}
theorem find_cls (c : ExcC K D) : findObj K D od "__class__" = some (.bind (.builtin "getset_descriptor.__get__") (.builtin "object.__class__")) := by
  obtain ⟨cd, hc, _⟩ := any_some c.hd
  unfold findObj
  rw [hc, Option.bind_some, c.ha, Option.bind_some]; simp [c.hn, c.ht]
theorem read_cls {s : Shared} {Q : Option Value → Shared → Prop} (c : ExcC K D) (X : K.In s.heap) (I : InstAt s.heap x ox D od) (q : Q (some (.ref D)) { s with toks := s.toks + 1 }) : wpAny (model prog w) A (getAttr? (.ref x) "__class__") Q E s := by
  obtain ⟨hp, g, d, t, os⟩ := s
  have T0 := I.type (M := model prog w); have T1 := looks_findIn (M := model prog w) X c.hg; have T2 := looks_findIn (M := model prog w) X c.hk
  have T3 := looks_find (M := model prog w) X I (find_cls c (od := od)); have sb : Looks (model prog w) hp (isInstance (.ref x) (.type "BaseException")) true := T0.andThen (looks_subIn X c.hs)
  have z2 : (Value.builtin "BaseException.__getattribute__" == Value.builtin "object.__getattribute__") = false := by decide +kernel
  have z0 : (false && onTheHeap (Value.builtin "BaseException.__getattribute__")) = false := rfl
  have z1 : (onTheHeap (Value.ref D) && Value.builtin "BaseException.__getattribute__" == Value.builtin "object.__getattribute__") = false := by rw [z2] <;> rfl
  unfold getAttr? getAttrBy? getAttrBy; refine wpAny_bind (wpAny_mkText (wpAny_bind (wpAny_attempt (wpAny_holding (wpAny_bind (T0.at (wpAny_bind (T1.at ?_))))))))
  show wpAny _ _ (ite ((onTheHeap (Value.ref D) && Value.builtin "BaseException.__getattribute__" == Value.builtin "object.__getattribute__") = true) _ _) _ _ _
  rw [z1, if_neg Bool.false_ne_true]; unfold getAttrByItsOwn hookBefore
  refine wpAny_bind ?_; rw [if_pos (show onTheHeap (Value.ref D) = true from rfl)]
  refine T2.at (wpAny_bind (wpAny_attempt (wpAny_holding ?_))); unfold callGetattribute
  rw [z0, if_neg Bool.false_ne_true]; unfold boundAndCalled
  rw [PySem.F.excAttr_ValueError.ga.bind (.ref x)]; refine wpAny_bind (wpAny_pure ?_)
  show wpAny _ _ (call (.builtin "BaseException.__getattribute__") [.ref x, .str "__class__" t]) _ _ _
  refine wpAny_call (codeAny_call_builtin PySem.F.excAttr_ValueError.ga.plain PySem.F.entry_bexc_ga (@check_slot (model prog w) _ _ ⟨hp, g, d, t + 1, os⟩ "BaseException.__getattribute__" "BaseException" "__getattribute__" (.ref x) [.str "__class__" t] [] _ (by decide +kernel) (by decide +kernel) sb (PySem.F.args_bexc_ga (.ref x) (.str "__class__" t)) ?_))
  unfold Builtin.«object.__getattribute__»; refine wpAny_bind (wpAny_of_eq (a := ((Value.ref x : Value), [Value.str "__class__" t])) (by first | rfl | (simp only [slotArgs]; rfl)) ?_)
  refine wpAny_pure (wpAny_bind (T0.at (wpAny_bind (T3.at ?_)))) |> wpAny_bind
  show wpAny _ _ (holding [Value.builtin "object.__class__"] (call (.builtin "getset_descriptor.__get__") [.builtin "object.__class__", .ref x, .ref D]) >>= ret) _ _ _
  refine wpAny_bind (wpAny_holding (wpAny_call (class_get (s := ⟨hp, g, d, t + 1, os⟩) (ox := ox) (od := od) X I c.hm (wpAny_pure ?_))))
  show wpAny _ _ (handedOut (.ref D)) _ _ _; rw [handedOut_of (v := .ref D) rfl]
  first | exact wpAny_pure (wpAny_pure q) | exact wpAny_pure q | exact wpAny_pure (wpAny_bind (wpAny_pure (wpAny_pure q)))
theorem kit_err (c : ExcC K D) : KitX K (.ref x) (.ref D) (fun h => InstAt h x ox D od) := by
  obtain ⟨cd, hc, _⟩ := any_some c.hd
  unfold clsIn at hc; split at hc
  · rename_i c' d' cd' sl' ho
    refine ⟨fun _ _ _ I => I.type, fun _ _ X _ A' Q' E' s' k q => ?_, fun h tp dd its n sl X htp => ?_, fun X I k => read_cls c X I k⟩
    · unfold isType loadHead; exact wpAny_bind (wpAny_loadPart (k _ _ (X _ _ ho)) (wpAny_pure q))
    · by_cases e : (Value.ref D == Value.ref tp) = true
      · cases beq_iff_eq.mp e; exact nomatch (X _ _ ho).symm.trans htp
      · simpa using e
  · cases hc
end
/-- isinstance(e, C), e the caught error: a where it lies, cls its class, d its dict -/
def rIsX (K : PySem.W.Frag) (a : Addr) (cls : Value) (d : Option Addr) : List V → Hp → VK → Prop := fun xs H Q => ∃ (D C : Addr) (b : Bool) (dd : Addr) (fs : List (Str × V)),
  xs = [.ref a, .ref C] ∧ cls = .ref D ∧ d = some dd ∧ H dd = some (.xd fs) ∧ ExcC K D ∧ PySem.W.kitOne K (.ref D) (.ref C) = some b ∧ Q (.bl b) H
theorem call_isX {X : Cx} {a : Addr} {oe : Obj} {cls : Value} {d : Option Addr} {pn : List (Addr × Obj)} (hz : Zc cls d oe) (hf : ∃ vs, oe.data = .fields vs) (K : PySem.W.Frag) (hk : X.K = K := by rfl) : CallR (X.suite a ((a, oe) :: pn)) (.builtin "isinstance") (rIsX K a cls d) := by
  subst hk
  intro pins s σ H xs us Q I r h
  obtain ⟨D, C, b, dd, fs, rfl, rfl, rfl, ea, hc, e, q⟩ := h
  obtain ⟨u1, u2, rfl, r1, r2⟩ := vals2 r
  cases (show u1 = Value.ref a from r1)
  cases (show u2 = Value.ref C from r2)
  obtain ⟨ha, _⟩ := I.pin (a, oe) (List.mem_append_left _ List.mem_cons_self)
  obtain ⟨vs, hd⟩ := hf
  obtain ⟨mA, hns, _⟩ := (show ObjOk X.prog X.w H s.heap dd (.xd fs) from I.hok dd _ ea)
  obtain ⟨od, ho, _⟩ := lookIn_ns hns
  have J : PySem.W.InstAt s.heap a oe D (some od) := ⟨ha, hz.1, by unfold PySem.W.notCls; rw [hd] <;> rfl, by rw [hz.2]; exact ho⟩
  exact PySem.W.kia_one (kit_err hc) I.kIn J e (fun z => nomatch z) fun tk => ⟨.bl b, H, I.kept (t' := tk) fun _ _ z => z, rfl, q⟩
section
variable {K : PySem.W.Frag} {J : Jm} {env : List Sl} {R : Dt → Prop}
theorem ev_isX {a d C D : Addr} {i : Nat} {fs : List (Str × Dt)} {b : Bool} (hi : env[i]? = some (.xv a d fs)) (c : ExcC K D) (hb : PySem.W.kitOne K (.ref D) (.ref C) = some b) (k : R (.bl b)) :
    Ev K J env (tCB (rIsX K a (.ref D) (some d)) (tCons (tVar i) (tCons (tC (.ref C)) tNil))) R := fun B G H σ w E Q q => by
  obtain ⟨ov, h1, h2, vs, g, r⟩ := E.ok i _ hi
  subst h2
  refine ⟨_, h1, ?_⟩
  exact ⟨D, C, b, d, vs, rfl, rfl, rfl, w.gh d _ g, c, hb, q _ _ G H w.nx (.bl _) k⟩
end
/-! ### defs that call themselves, of the telling kind -/
def predWP (W : Nat → FwP) : Nat → FwP
  | 0 => fun _ _ _ _ => False
  | n + 1 => W n
section
variable {P : Program} {w : World} {K : PySem.W.Frag} {mg : Str → Option Value} {base : Heap}
theorem rec_allP {f : Addr} {fd : FuncData} {x : Str} {ps : List Str} (b : Nat) (W : Nat → FwP) (g : mg x = some (.ref f)) (kp : PySem.W.keepIn K (.ref f) = true) (bb : Binds K fd ps [])
    (step : ∀ n, CalX P w K mg base (n + b) x ps (CtP K (predWP W n)) → FnOk P w K mg base (L2.CX P w) (n + b + 1) f fd ps (CtP K (W n))) : ∀ n, FnOk P w K mg base (L2.CX P w) (n + b + 1) f fd ps (CtP K (W n))
  | 0 => step 0 ⟨f, fd, ⟨fun vs H Q E h => by obtain ⟨_, _, _, _, _, _, _, _, _, z, _⟩ := h; exact z.elim, fun A outer s H args us vs Q E _ _ _ _ h => by obtain ⟨_, _, _, _, _, _, _, _, _, z, _⟩ := h; exact z.elim⟩, g, kp, bb⟩
  | n + 1 => step (n + 1) ⟨f, fd, by
      have := rec_allP b W g kp bb step n
      rw [show n + 1 + b = n + b + 1 by omega]
      exact this, g, kp, bb⟩
theorem updM_self {M : Mm} {a : Addr} {o : OB} (h : M a = some o) : updM M a o = M := by
  funext b
  by_cases e : b = a
  · subst e; rw [updM_same, h]
  · rw [updM_ne e]
theorem updM_comm {M : Mm} {a b : Addr} {o u : OB} (h : a ≠ b) : updM (updM M a o) b u = updM (updM M b u) a o := by
  funext c
  unfold updM
  by_cases e : c = b
  · subst e
    by_cases e2 : c = a
    · exact absurd e2.symm h
    · simp [e2]
  · simp [e]
end
end Mv

set_option Elab.async false
set_option linter.all false
set_option maxRecDepth 100000
set_option maxHeartbeats 4000000
/-! Equality of any data with itself: what the comparison asks, and its answer. -/
namespace Mv
open PySem PySem.Spec PyProof.Rows L2
mutual
/-- all texts within are made of code points -/
def txtD : Dt → Bool
  | .str s => PyData.strOk s
  | .lst ds => txtDs ds
  | .tup ds => txtDs ds
  | _ => true
def txtDs : List Dt → Bool
  | [] => true
  | d :: r => txtD d && txtDs r
end
theorem txtDs_iff : ∀ {ds : List Dt}, txtDs ds = true ↔ ∀ d ∈ ds, txtD d = true
  | [] => by simp [txtDs]
  | d :: r => by
    rw [show txtDs (d :: r) = (txtD d && txtDs r) from by simp only [txtDs], Bool.and_eq_true, txtDs_iff (ds := r)]
    simp
theorem txt_lst {ds : List Dt} : txtD (.lst ds) = txtDs ds := by simp only [txtD]
theorem txt_tup {ds : List Dt} : txtD (.tup ds) = txtDs ds := by simp only [txtD]
theorem plainDs_iff : ∀ {ds : List Dt}, plainDs ds = true ↔ ∀ d ∈ ds, plainD d = true
  | [] => by simp [plainDs]
  | d :: r => by
    rw [show plainDs (d :: r) = (plainD d && plainDs r) from by simp only [plainDs], Bool.and_eq_true, plainDs_iff (ds := r)]
    simp
theorem flat_plain : ∀ {n : Nat} {d : Dt}, Flat n d → plainD d = true := fun {n} {d} h => by
  induction h with
  | non => simp [plainD]
  | bl => simp [plainD]
  | int => simp [plainD]
  | str => simp [plainD]
  | lst n ds hz _ ih => rw [show plainD (.lst ds) = plainDs ds from by simp only [plainD]]; exact plainDs_iff.mpr ih
  | tup n ds hz _ ih => rw [show plainD (.tup ds) = plainDs ds from by simp only [plainD]]; exact plainDs_iff.mpr ih
theorem depthAll_le {m : Nat} : ∀ {ds : List Dt}, (∀ d ∈ ds, (pyD d).depth ≤ m) → PyData.depthAll (pyDs ds) ≤ m
  | [], _ => by simp [pyDs, PyData.depthAll]
  | d :: r, h => by
    have h1 := h d List.mem_cons_self
    have h2 := depthAll_le (ds := r) fun x hx => h x (List.mem_cons_of_mem _ hx)
    simp only [pyDs, PyData.depthAll]
    omega
theorem flat_depth : ∀ {n : Nat} {d : Dt}, Flat n d → (pyD d).depth ≤ n := fun {n} {d} h => by
  induction h with
  | non => simp [pyD, PyData.depth]
  | bl => simp [pyD, PyData.depth]
  | int => simp [pyD, PyData.depth]
  | str => simp [pyD, PyData.depth]
  | lst n ds hz _ ih => simp only [pyD, PyData.depth]; have := depthAll_le ih; omega
  | tup n ds hz _ ih => simp only [pyD, PyData.depth]; have := depthAll_le ih; omega
theorem canAll_of : ∀ {ds : List Dt}, (∀ d ∈ ds, (pyD d).canLay0 = true) → PyData.canLayAll0 (pyDs ds) = true
  | [], _ => by simp [pyDs, PyData.canLayAll0]
  | d :: r, h => by
    simp only [pyDs, PyData.canLayAll0]
    rw [h d List.mem_cons_self, canAll_of (ds := r) fun x hx => h x (List.mem_cons_of_mem _ hx)]
    rfl
theorem flat_can : ∀ {n : Nat} {d : Dt}, Flat n d → txtD d = true → (pyD d).canLay0 = true := fun {n} {d} h => by
  induction h with
  | non => simp [pyD, PyData.canLay0]
  | bl => simp [pyD, PyData.canLay0]
  | int => simp [pyD, PyData.canLay0]
  | str n s => intro t; simp only [pyD, PyData.canLay0]; simpa [txtD] using t
  | lst n ds hz _ ih =>
    intro t
    rw [txt_lst] at t
    simp only [pyD, PyData.canLay0]
    exact canAll_of fun d hd => ih d hd (txtDs_iff.mp t d hd)
  | tup n ds hz _ ih =>
    intro t
    rw [txt_tup] at t
    simp only [pyD, PyData.canLay0]
    exact canAll_of fun d hd => ih d hd (txtDs_iff.mp t d hd)
theorem shaped_of {n : Nat} {d : Dt} (h : Flat n d) (hn : n ≤ 64) (t : txtD d = true) : shapedD d = true := by
  unfold shapedD SeqAt.shaped
  rw [flat_plain h, flat_can h t, decide_eq_true (Nat.le_trans (flat_depth h) hn)]
  rfl
theorem eqvAll_refl : ∀ {ds : List Dt}, (∀ d ∈ ds, PyData.eqv (pyD d) (pyD d) = true) → PyData.eqvAll (pyDs ds) (pyDs ds) = true
  | [], _ => by simp [pyDs, PyData.eqvAll]
  | d :: r, h => by
    simp only [pyDs, PyData.eqvAll]
    rw [h d List.mem_cons_self, eqvAll_refl (ds := r) fun x hx => h x (List.mem_cons_of_mem _ hx)]
    rfl
theorem eqDD_refl {n : Nat} {d : Dt} (h : Flat n d) : eqDD d d = true := by
  unfold eqDD
  induction h with
  | non => simp [pyD, PyData.eqv]
  | bl => simp [pyD, PyData.eqv]
  | int => simp [pyD, PyData.eqv]
  | str => simp [pyD, PyData.eqv]
  | lst n ds hz _ ih => simp only [pyD, PyData.eqv]; exact eqvAll_refl ih
  | tup n ds hz _ ih => simp only [pyD, PyData.eqv]; exact eqvAll_refl ih
theorem kit_sub {K : PySem.W.Frag} {C D : Addr} {b : Bool} (h1 : PySem.W.isClsIn K D = true) (h3 : PySem.W.typeIn K (.ref D) = some (.type "type")) (h4 : PySem.W.subIn K (.ref C) (.ref D) = some b) (h5 : PySem.W.subIn K (.ref C) (.ref C) = some true) :
    PySem.W.kitOne K (.ref C) (.ref D) = some b := by
  unfold PySem.W.kitOne
  by_cases e : (Value.ref C == Value.ref D) = true
  · rw [if_pos e]
    have e : C = D := Value.ref.inj (beq_iff_eq.mp e)
    subst e
    rw [← h4, h5]
  · rw [if_neg e]
    unfold PySem.W.isClsIn at h1
    show (if ((PySem.W.clsIn K D).isSome && PySem.W.typeIn K (.ref D) == some (.type "type")) = true then PySem.W.subIn K (.ref C) (.ref D) else none) = some b
    rw [h1, h3, if_pos (by decide)]
    exact h4
end Mv

set_option Elab.async false
set_option linter.all false
set_option maxRecDepth 100000
set_option maxHeartbeats 4000000
/-! Told dicts whose keys are whole numbers; n & 1. -/
namespace Mv
open PySem PySem.Spec PyProof.Rows L2
section
variable {K : PySem.W.Frag} {J : Jm} {MV : Mh} {M : Mm} {env : List Sl} {td tk tv : TE} {D : DM} {R : Dt → Prop}
/-- {} among the told objects -/
theorem evm_dnewI {R : Dt → Mm → Prop} (h : ∀ p, M p = none → R (.ptr p) (updM M p (.dic []))) : EvM K J M env D tDNewK R := fun MV0 MV GB B G H σ a x Q q p hp => by
  have hj : p ∉ J.ms := (not_jt.mp (a.wf.notin hp)).1
  have hM := a.wf.none_ hp
  have n1 := a.wf.newM hp (.dK [])
  have n2 := nxm_put (ho := .dK []) (.inr hp) (NxM.of n1)
  exact q (.ref p) (.ptr p) _ _ G _ n2 (a.thenM n2 ((n1.wf a.wf).put hj (a.wf.free hp) upd_same (.dic .nil))) (.ptr _) (h p hM.2)
/-- d[n] -/
theorem ev_dgetI (h : Ev K (Jt K J MV M) env td fun o => ∃ p kvs, o = .ptr p ∧ M p = some (.dic kvs) ∧ Ev K (Jt K J MV M) env tk fun k => ∃ (n : Int) (x : Dt), k = .int n ∧ getQ kvs (Sum.inl n : Key) = some x ∧ R x) : Ev K (Jt K J MV M) env (tDGet td tk) R :=
  fun B G H σ w E Q q => h B G H σ w E _ fun v o G1 H1 n1 r1 ⟨p, kvs, e1, hM, h2⟩ => by
    subst e1
    cases r1
    refine h2 B G1 H1 σ (n1.wf w) (E.mono n1) _ fun u k G2 H2 n2 r2 ⟨n, x, e2, hx, kx⟩ => ?_
    subst e2
    cases r2
    obtain ⟨vs, _, hH, r⟩ := (n2.wf (n1.wf w)).dicM hM
    obtain ⟨y, h3, h4⟩ := (r.get (n := (Sum.inl n : Key))).1 x hx
    exact ⟨p, y, rfl, .inl ⟨vs, Sum.inl n, .inl hH, rfl, h3.symm⟩, q y x G2 H2 (n1.trans n2) h4 kx⟩
/-- n in d -/
theorem ev_dinI (h : Ev K (Jt K J MV M) env tk fun k => ∃ n : Int, k = .int n ∧ Ev K (Jt K J MV M) env td fun o => ∃ p kvs, o = .ptr p ∧ M p = some (.dic kvs) ∧ R (.bl (getQ kvs (Sum.inl n : Key)).isSome)) : Ev K (Jt K J MV M) env (tDIn tk td) R :=
  fun B G H σ w E Q q => h B G H σ w E _ fun v k G1 H1 n1 r1 ⟨n, e1, h2⟩ => by
    subst e1
    cases r1
    refine h2 B G1 H1 σ (n1.wf w) (E.mono n1) _ fun u o G2 H2 n2 r2 ⟨p, kvs, e2, hM, kx⟩ => ?_
    subst e2
    cases r2
    obtain ⟨vs, _, hH, r⟩ := (n2.wf (n1.wf w)).dicM hM
    have g := r.get (n := (Sum.inl n : Key))
    cases e : getQ kvs (Sum.inl n : Key) with
    | some x =>
      obtain ⟨y, h3, _⟩ := g.1 x e
      rw [e] at kx
      exact ⟨p, some y, rfl, .inl ⟨vs, Sum.inl n, .inl hH, rfl, h3.symm⟩, q _ _ G2 H2 (n1.trans n2) (.bl _) kx⟩
    | none =>
      rw [e] at kx
      exact ⟨p, none, rfl, .inl ⟨vs, Sum.inl n, .inl hH, rfl, (g.2 e).symm⟩, q _ _ G2 H2 (n1.trans n2) (.bl _) kx⟩
/-- d[n] = e -/
theorem sm_dputI (h : EvM K J M env D tv fun d M1 => EvM K J M1 env D td fun o M2 => EvM K J M2 env D tk fun k M3 => ∃ (p : Addr) (kvs : List (Key × Dt)) (n : Int), o = .ptr p ∧ M3 p = some (.dic kvs) ∧ k = .int n ∧ kvs.length < 100000 ∧ D.nx (updM M3 p (.dic (putQ kvs (Sum.inl n : Key) d))) env) :
    SvM K J M env (sDPut td tk tv) D := fun MV0 MV GB B G H σ a E r =>
  h MV0 MV GB B G H σ a r.x _ fun v d M1 MV1 G1 H1 n1 a1 rd h2 => h2 MV0 MV1 GB B G1 H1 σ a1 r.x _ fun u o M2 MV2 G2 H2 n2 a2 ro h3 => h3 MV0 MV2 GB B G2 H2 σ a2 r.x _ fun y k M3 MV3 G3 H3 n3 a3 rk ⟨p, kvs, n, e1, hM, e2, hz, hx⟩ => by
    subst e1 e2
    cases ro
    cases rk
    obtain ⟨us, e1, e2, t⟩ := a3.wf.dicM hM
    have n5 := a3.wf.chgN (ho' := .dK (putK us (Sum.inl n : Key) v)) e1
    refine ⟨p, _, rfl, .inl ⟨us, Sum.inl n, e2, rfl, sz_lt (by rw [t.length]; exact hz), rfl⟩, r.nx _ _ env _ _ σ (a3.thenM n5 (a3.wf.chg e1 (.dic (t.put (rd.mono (n2.gg.trans n3.gg)))))) hx⟩
/-- n & 1 -/
def rOdd : R2 := fun x y H Q => ∃ n : Nat, x = .int (n : Int) ∧ y = .int 1 ∧ Q (.int ((n % 2 : Nat) : Int)) H
theorem op_oddK {X : Cx} : OpR X (binaryOp .BitAnd) rOdd := op_odd
theorem o2_odd {J : Jm} {n : Nat} (h : R (.int ((n % 2 : Nat) : Int))) : O2 K J rOdd (.int (n : Int)) (.int 1) R := fun G H vx vy w rx ry Q q => by
  cases rx
  cases ry
  exact ⟨n, rfl, rfl, q _ _ G H w.nx (.int _) h⟩
/-- list(range(n)) -/
theorem em_listRg {J : Jm} {te : TE} {R : List Dt → Prop} (h : Ev K J env te fun x => ∃ n : Nat, x = .int (n : Int) ∧ n ≤ 100000 ∧ R ((List.range n).map fun i => Dt.int (i : Nat))) : Em K J env (tLstRg (tRg1 te)) R := fun B G H σ w E Q q =>
  h B G H σ w E _ fun v x G1 H1 n1 r1 ⟨n, e, hn, k⟩ => by
    subst e
    cases r1
    refine ⟨_, rfl, RgOk.of_le (Int.le_refl _) (by omega) (by decide) (by omega), fun p hp => ?_⟩
    have n2 := (n1.wf w).newM hp (.lst (rgV 0 (n : Int)))
    have e : rgV 0 (n : Int) = (List.range n).map fun i => V.int ((i : Nat) : Int) := by
      unfold rgV
      rw [show ((n : Int) - 0).toNat = n by omega]
      exact List.map_congr_left fun i _ => by rw [Int.zero_add]
    have hp0 : H p = none := by
      cases q : H p with
      | none => rfl
      | some o => exact absurd hp (n1.th p (by rw [q]; simp))
    refine q p _ _ G1 _ (n1.trans n2) ((n1.wf w).free hp) hp0 upd_same ?_ k
    rw [e]
    have : (List.range n).map (fun i => V.int ((i : Nat) : Int)) = ((List.range n).map fun i => ((i : Nat) : Int)).map V.int := by rw [List.map_map]; rfl
    rw [this]
    have : (List.range n).map (fun i => Dt.int ((i : Nat) : Int)) = ((List.range n).map fun i => ((i : Nat) : Int)).map Dt.int := by rw [List.map_map]; rfl
    rw [this]
    exact Da.ints
end
end Mv

set_option Elab.async false
set_option linter.all false
set_option maxRecDepth 100000
set_option maxHeartbeats 4000000
/-! t * n of a tuple, n from 0 on; x in a list, x not in a list, at any depth. -/
namespace Mv
open PySem PySem.Spec PyProof.Rows L2
theorem tup_mul1 (l : Addr) (its : Array Value) (n : Nat) (dd : Option Addr) (sl : Array (Option Value)) (u : Tok) (c1 : (its.isEmpty || (1 : Int) == 1) = true) : Meets (Builtin.«tuple.__mul__» ⟨[.ref l, .int 1 u], []⟩) (fun _ R s => s.heap.get? l = some ⟨.type "tuple", dd, .seq its n, sl⟩ ∧ R (.ok (.ret (.ref l))) s) :=
  .of_wp fun prog w A R s ⟨hl, q⟩ => by
    obtain ⟨hp, g, d, tk, os⟩ := s
    have f1 := AutoSeq1.idx_int
    wp_walk using wpAny_loadPart' hl
    exact ⟨_, rfl, q⟩
theorem tup_mul0 (l : Addr) (its : Array Value) (n : Nat) (dd : Option Addr) (sl : Array (Option Value)) (u : Tok) (c1 : (its.isEmpty || (0 : Int) == 1) = false) : Meets (Builtin.«tuple.__mul__» ⟨[.ref l, .int 0 u], []⟩) (fun _ R s => s.heap.get? l = some ⟨.type "tuple", dd, .seq its n, sl⟩ ∧ R (.ok (.ret (.ref s.heap.objs.size))) { s with heap := s.heap.push { cls := Value.type "tuple", data := Data.seq #[] } }) :=
  .of_wp fun prog w A R s ⟨hl, q⟩ => by
    obtain ⟨hp, g, d, tk, os⟩ := s
    have f1 := AutoSeq1.idx_int
    wp_walk using wpAny_loadPart' hl
    refine wpAny_ite_false (decide_eq_false fun z => ?_) ?_
    · rw [c1] at z; cases z
    wp_walk using wpAny_loadPart' hl
    exact ⟨_, rfl, q⟩
def rRepT2 (K : PySem.W.Frag) : R2 := fun x y H Q => ∃ l k xs, x = .ref l ∧ y = .int k ∧ SqT K H l xs ∧ xs ≠ [] ∧ 0 ≤ k ∧ k ≤ 1000 ∧ xs.length ≤ 1000 ∧ (k = 1 → Q (.ref l) H) ∧ (k ≠ 1 → ∀ p, H p = none → Q (.ref p) (upd H p (.tup (List.replicate k.toNat xs).flatten)))
theorem op_repTK (K : PySem.W.Frag) {X : Cx} (hk : X.K = K := by rfl) : OpR X (binaryOp .Mult) (rRepT2 K) := by
  subst hk
  intro pins s σ H x y v u Q I rx ry h
  obtain ⟨l, k, xs, rfl, rfl, hT, hne, h1, h2, hz, q1, q2⟩ := h
  by_cases hk2 : 2 ≤ k
  · exact op_repT pins s σ H _ _ v u Q I rx ry ⟨l, k, xs, rfl, rfl, hT, hne, hk2, h2, hz, q2 (by omega)⟩
  · cases rx
    obtain ⟨t, rfl⟩ := ry
    obtain ⟨its, r, ⟨⟨cls, dd, data, sl⟩, ho, hc, n, hd⟩, hs⟩ := I.tuple hT
    simp only at hc hd
    subst hc hd
    have hie : its.toArray.isEmpty = false := by
      cases its with
      | nil => exact absurd (List.eq_nil_of_length_eq_zero r.length) hne
      | cons a b => rfl
    by_cases hk1 : k = 1
    · subst hk1
      refine wpAny_binaryOp_repeat_ref (T := "tuple") (U := "int") (by decide) ⟨_, ho, rfl⟩ (fun s' => typeIs_int s' 1 t) noFill_tuple_mul F.fills_int_mul F.slot_int_rmul repeat_tuple F.slot_int_index.lookup
        (call_meets F.slot_int_rmul (typeIs_int s 1 t) F.entry_int_rmul (F.args_int_rmul_2 _ _) (int_rmul_tuple 1 t l its.toArray n dd sl) ⟨ho, rfl, ⟨_, ho, rfl⟩, ?_⟩)
      exact call_meets F.slot_tuple_mul ⟨_, ho, rfl⟩ F.entry_tuple_mul (F.args_tuple_mul_2 _ _) (tup_mul1 l its.toArray n dd sl t (by simp)) ⟨ho, .ref l, H, I, rfl, q1 rfl⟩
    · have hk0 : k = 0 := by omega
      subst hk0
      refine wpAny_binaryOp_repeat_ref (T := "tuple") (U := "int") (by decide) ⟨_, ho, rfl⟩ (fun s' => typeIs_int s' 0 t) noFill_tuple_mul F.fills_int_mul F.slot_int_rmul repeat_tuple F.slot_int_index.lookup
        (call_meets F.slot_int_rmul (typeIs_int s 0 t) F.entry_int_rmul (F.args_int_rmul_2 _ _) (int_rmul_tuple 0 t l its.toArray n dd sl) ⟨ho, rfl, ⟨_, ho, rfl⟩, ?_⟩)
      refine call_meets F.slot_tuple_mul ⟨_, ho, rfl⟩ F.entry_tuple_mul (F.args_tuple_mul_2 _ _) (tup_mul0 l its.toArray n dd sl t (by rw [hie]; rfl)) ⟨ho, ?_⟩
      refine ⟨.ref s.heap.objs.size, _, I.laid (t' := s.toks) (o := .tup []) (fun b ob q => Heap.get?_push_of_some _ q) (Nat.le_refl _) ?_, rfl, q2 (by decide) _ (I.hok.fresh (Nat.le_refl _))⟩
      exact ⟨Nat.zero_le _, [], .nil, IsTup.new _ _⟩
section
variable {K : PySem.W.Frag} {J : Jm} {R : Dt → Prop}
theorem o2_repT {xs : List Dt} {k : Int} (hne : xs ≠ []) (h0 : 0 ≤ k) (h1 : k ≤ 1000) (hz : xs.length ≤ 1000) (h : R (.tup (List.replicate k.toNat xs).flatten)) : O2 K J (rRepT2 K) (.tup xs) (.int k) R := fun G H vx vy w rx ry Q q => by
  cases rx with
  | @tup _ vs _ s t =>
    cases ry
    refine ⟨_, k, _, rfl, rfl, same_t w.gh s, fun z => hne (t.nil_iff.mp z), h0, h1, by rw [t.length]; exact hz, fun e => ?_, fun _ p hp => ?_⟩
    · subst e
      refine q _ (.tup xs) G H w.nx (.tup s t) ?_
      have : (List.replicate (1 : Int).toNat xs).flatten = xs := by show (List.replicate 1 xs).flatten = xs; simp
      rw [this] at h
      exact h
    · have n1 := w.new hp (.tup (List.replicate k.toNat vs).flatten)
      exact q _ _ _ _ n1 (.tup (.inl (.inl upd_same)) (da_flat (t.mono n1.gg) k.toNat)) h
/-! at any depth -/
theorem op_inDK (K : PySem.W.Frag) {X : Cx} (hu : X.A.units + 65 < cLine) (h : X.K = K := by rfl) : OpR X (compareOp .In) (rInD K) := by subst h; exact op_inD hu
theorem op_notInDK (K : PySem.W.Frag) {X : Cx} (hu : X.A.units + 65 < cLine) (h : X.K = K := by rfl) : OpR X (compareOp .NotIn) (rNotInD K) := by subst h; exact op_notInD hu
theorem units65 {k : Nat} {A : Around} (r : Room k A) : A.units + 65 < cLine := by have := r.un; omega
theorem any_pyDs {z : PyData} : ∀ {ds : List Dt}, ((pyDs ds).any fun y => PyData.eqv y z) = ds.any fun d => PyData.eqv (pyD d) z
  | [] => rfl
  | d :: r => by
    show (_ || (pyDs r).any _) = (_ || r.any _)
    rw [any_pyDs (ds := r)]
theorem o2_inDD {x : Dt} {ds : List Dt} (hx : shapedD x = true) (hy : shapedD (.lst ds) = true) (h : R (.bl (ds.any fun d => eqDD d x))) : O2 K J (rInD K) x (.lst ds) R := fun G H vx vy w rx ry Q q => by
  have hx := Bool.and_eq_true_iff.mp hx
  have hy := Bool.and_eq_true_iff.mp hy
  refine ⟨_, pyDs ds, dp_of w.gh rx hx.1, ?_, hx.2, ?_, q _ _ G H w.nx (.bl _) ?_⟩
  · have := dp_of w.gh ry hy.1; simpa only [pyD] using this
  · simpa only [pyD] using hy.2
  · rw [any_pyDs]; exact h
theorem o2_notInDD {x : Dt} {ds : List Dt} (hx : shapedD x = true) (hy : shapedD (.lst ds) = true) (h : R (.bl (!ds.any fun d => eqDD d x))) : O2 K J (rNotInD K) x (.lst ds) R := fun G H vx vy w rx ry Q q => by
  have hx := Bool.and_eq_true_iff.mp hx
  have hy := Bool.and_eq_true_iff.mp hy
  refine ⟨_, pyDs ds, dp_of w.gh rx hx.1, ?_, hx.2, ?_, q _ _ G H w.nx (.bl _) ?_⟩
  · have := dp_of w.gh ry hy.1; simpa only [pyD] using this
  · simpa only [pyD] using hy.2
  · rw [any_pyDs]; exact h
end
end Mv

set_option Elab.async false
set_option linter.all false
set_option maxRecDepth 100000
set_option maxHeartbeats 4000000
/-! xs[i] op= e of a told list; xs.extend(ys); sorted(d); xs.index(k); None == i. -/
namespace Mv
open PySem PySem.Spec PyProof.Rows L2
def rGetL : V → V → Hp → VK → Prop := fun x y H Q => ∃ (p : Addr) (xs : List V) (j : Nat) (v : V), x = .ref p ∧ y = .int (j : Int) ∧ H p = some (.lst xs) ∧ xs[j]? = some v ∧ Q v H
theorem pget_list {X : Cx} : PGet X rGetL := by
  intro pins s σ H o i ov iv Q I ro ri h
  obtain ⟨p, xs, j, v, rfl, rfl, hp, hj, q⟩ := h
  cases ro
  obtain ⟨t, rfl⟩ := ri
  obtain ⟨its, r, pl, hz⟩ := I.list (.inl (.inl hp))
  obtain ⟨w, ew, rw'⟩ := r.get hj
  have hl := r.length
  have hn := line63
  have hjl := (List.getElem?_eq_some_iff.mp hj).1
  exact wpAny_getItem_list pl.isList (Int.natCast_nonneg j) (by omega) (by simpa using ew) ⟨v, H, I, rw', q⟩
section
variable {K : PySem.W.Frag} {J : Jm} {M : Mm} {env : List Sl} {to ti te : TE} {D : DM}
/-- xs[i] op= e, whole numbers -/
theorem sm_augSP {g : Int → Int → Int} (h : EvM K J M env D to fun o M1 => EvM K J M1 env D ti fun i M2 => ∃ (p : Addr) (ds : List Dt) (j : Nat) (x : Int), o = .ptr p ∧ i = .int (j : Int) ∧ M2 p = some (.lst ds) ∧ ds[j]? = some (.int x) ∧
    EvM K J M2 env D te fun d M3 => ∃ y, d = .int y ∧ M3 p = some (.lst ds) ∧ D.nx (updM M3 p (.lst (ds.set j (.int (g x y))))) env) : SvM K J M env (tAugS to ti te rGetL (ipI g) rSetL) D := fun MV0 MV GB B G H σ a E r =>
  h MV0 MV GB B G H σ a r.x _ fun v o M1 MV1 G1 H1 n1 a1 ro h2 => h2 MV0 MV1 GB B G1 H1 σ a1 r.x _ fun u i M2 MV2 G2 H2 n2 a2 ri ⟨p, ds, j, x, e1, e2, hM, hj, h3⟩ => by
    subst e1 e2
    cases ro
    cases ri
    obtain ⟨us, e1, e2, t⟩ := a2.wf.lstM hM
    obtain ⟨w, hw, rw'⟩ := t.get hj
    cases rw'
    refine ⟨p, us, j, _, rfl, rfl, e2, hw, h3 MV0 MV2 GB B G2 H2 σ a2 r.x _ fun z d M3 MV3 G3 H3 n3 a3 rd ⟨y, e3, hM3, hx⟩ => ?_⟩
    subst e3
    cases rd
    obtain ⟨us3, e4, e5, t3⟩ := a3.wf.lstM hM3
    have hjl : j < us3.length := by rw [t3.length]; exact (List.getElem?_eq_some_iff.mp hj).1
    refine ⟨x, y, rfl, rfl, p, us3, (j : Int), j, rfl, rfl, e5, ixN_nat hjl, ?_⟩
    have n5 := a3.wf.chgN (ho' := .lst (us3.set j (.int (g x y)))) e4
    exact r.nx _ _ env _ _ σ (a3.thenM n5 (a3.wf.chg e4 (.lst (t3.set j (.int _))))) hx
/-- xs.extend(ys), both told -/
theorem evm_extend {R : Dt → Mm → Prop} (h : EvM K J M env D to fun o M1 => ∃ a ds0, o = .ptr a ∧ M1 a = some (.lst ds0) ∧ EvM K J M1 env D te fun d M2 => ∃ b ds es, d = .ptr b ∧ M2 a = some (.lst ds) ∧ M2 b = some (.lst es) ∧ ds.length + es.length ≤ 100000 ∧ R .non (updM M2 a (.lst (ds ++ es)))) :
    EvM K J M env D (tBM K "list" rExtend to (tCons te tNil)) R := fun MV0 MV GB B G H σ a x Q q =>
  h MV0 MV GB B G H σ a x _ fun v o M1 MV1 G1 H1 n1 a1 r ⟨p, ds0, e, hM, k⟩ => by
    subst e
    cases r
    obtain ⟨vs0, _, h0, _⟩ := a1.wf.lstM hM
    refine ⟨.inl ⟨rfl, vs0, .inl (.inl h0)⟩, k MV0 MV1 GB B G1 H1 σ a1 x _ fun u d M2 MV2 G2 H2 n2 a2 rd ⟨b, ds, es, e0, hM2, hM3, hz, k2⟩ => ?_⟩
    subst e0
    cases rd
    obtain ⟨us, e1, e2, t⟩ := a2.wf.lstM hM2
    obtain ⟨ws, e3, e4, t2⟩ := a2.wf.lstM hM3
    refine ⟨p, b, us, ws, rfl, rfl, e2, e4, sz_of (by rw [t.length, t2.length]; exact hz), ?_⟩
    have n3 := a2.wf.chgN (ho' := .lst (us ++ ws)) e1
    exact q _ _ _ _ G2 _ ((n1.trans n2).trans n3) (a2.thenM n3 (a2.wf.chg e1 (.lst (t.append t2)))) .non k2
/-- sorted(d), d's keys whole numbers -/
def rSortDI : List V → Hp → VK → Prop := fun xs H Q => ∃ (a : Addr) (kvs : List (Key × V)) (ks : List Int), xs = [.ref a] ∧ Rd H a (.dK kvs) ∧ kvs.map (·.1) = ks.map Sum.inl ∧ ks.length < 64 ∧
    ∀ (ys : List Int) (p : Addr), ys.Perm ks → ys.Pairwise (· ≤ ·) → H p = none → Q (.ref p) (upd H p (.lst (ys.map V.int)))
theorem cr_sortDI {X : Cx} (hc : X.calm = true := by rfl) : CallR X (.builtin "sorted") rSortDI := call_sortedDI hc
theorem Dq.keys {κ : Type} {G : Hp} : ∀ {vs : List (κ × V)} {kvs : List (κ × Dt)}, Dq K G vs kvs → vs.map (·.1) = kvs.map (·.1)
  | _, _, .nil => rfl
  | _, _, .cons _ t => by rw [List.map_cons, List.map_cons, Dq.keys t]
theorem oc_sortDI {MV : Mh} {R : Dt → Prop} {p : Addr} {kvs : List (Key × Dt)} {ks : List Int} (hM : M p = some (.dic kvs)) (hk : kvs.map (·.1) = ks.map Sum.inl) (hz : ks.length < 64) (h : ∀ ys : List Int, ys.Perm ks → ys.Pairwise (· ≤ ·) → R (.lst (ys.map Dt.int))) :
    Oc K (Jt K J MV M) rSortDI [.ptr p] R := fun G H vs w r Q q => by
  cases r with
  | cons r1 r2 =>
    cases r2
    cases r1
    obtain ⟨us, _, hH, t⟩ := w.dicM hM
    refine ⟨p, us, ks, rfl, .inl hH, t.keys.trans hk, hz, fun ys b hp hs hb => ?_⟩
    have n1 := w.new hb (.lst (ys.map V.int))
    exact q _ _ _ _ n1 (.lst (.inl (.inl upd_same)) Da.ints) (h ys hp hs)
theorem eqV_int {a b : Int} : eqV (V.int a) (.int b) = decide (a = b) := by
  show (a == b) = _
  by_cases h : a = b
  · subst h; simp
  · simp [h]
/-- xs.index(k) of a list of whole numbers -/
theorem ev_index {J : Jm} {R : Dt → Prop} (h : Ev K J env to fun o => ∃ ns : List Int, o = .lst (ns.map Dt.int) ∧ Ev K J env te fun x => ∃ k, x = .int k ∧ k ∈ ns ∧ R (.int (ns.idxOf k : Nat))) : Ev K J env (tBM K "list" (rIndex K) to (tCons te tNil)) R := fun B G H σ w E Q q =>
  h B G H σ w E _ fun v o G0 H0 n0 r ⟨ns, e, h⟩ => by
    subst e
    cases r with
    | lst s t =>
      have := t.ints_inv
      subst this
      refine ⟨.inl ⟨rfl, _, same_l n0.gh s⟩, h B G0 H0 σ (n0.wf w) (E.mono n0) _ fun v x G1 H1 n1 rx ⟨k, e, hk, kk⟩ => ?_⟩
      subst e
      cases rx
      have hlt := List.idxOf_lt_length_of_mem hk
      have hge := List.getElem_idxOf hlt
      refine ⟨_, ns.map V.int, .int k, ns.idxOf k, .int k, rfl, rfl, same_l (n1.gg.trans n1.gh) s, rfl, List.all_eq_true.mpr fun z hz => ?_, ?_, ?_, fun m z hm hz => ?_, q _ _ G1 H1 (n0.trans n1) (.int _) kk⟩
      · obtain ⟨i, _, rfl⟩ := List.mem_map.mp hz
        rfl
      · rw [List.getElem?_map, List.getElem?_eq_getElem hlt, hge]; rfl
      · rw [eqV_int]; simp
      · rw [List.getElem?_map] at hz
        have hm2 : m < ns.length := by omega
        rw [List.getElem?_eq_getElem hm2] at hz
        have hz : V.int ns[m] = z := by simpa using hz
        subst hz
        rw [eqV_int]
        refine decide_eq_false fun e => ?_
        have := List.not_of_lt_findIdx (p := fun x => x == k) (xs := ns) (i := m) (by unfold List.idxOf at hm; exact hm)
        simp [e] at this
theorem o2_eqNI {J : Jm} {R : Dt → Prop} {i : Int} (h : R (.bl false)) : O2 K J L2.rEq .non (.int i) R := fun G H vx vy w rx ry Q q => by
  cases rx; cases ry
  exact ⟨rfl, q _ _ G H w.nx (.bl _) h⟩
end
end Mv

set_option Elab.async false
set_option linter.all false
set_option maxRecDepth 100000
set_option maxHeartbeats 4000000
/-! zip of two sequences, a list or a tuple each. -/
namespace Mv
open PySem PySem.Spec PyProof.Rows L2
/-- f: a tuple; otherwise a list -/
def SqF (K : PySem.W.Frag) (f : Bool) (H : Hp) (a : Addr) (xs : List V) : Prop := match f with | true => SqT K H a xs | false => SqL K H a xs
def atF (f : Bool) (i a : Addr) (k : Nat) (h : Heap) : Prop := match f with | true => h.IsTupleIter i a k | false => h.IsListIter i a k
def ofF (f : Bool) (a : Addr) (us : Array Value) (h : Heap) : Prop := match f with | true => h.IsTuple a us | false => h.IsList a us
theorem drawsF {P : Program} {w : World} {A : Around} (f : Bool) (hh : A.handled = none) {it a : Addr} (ne : a ≠ it) (us : Array Value) :
    Draws P w A it [it, a] us.size (fun i v => us[i]? = some v) (fun i h => atF f it a i h ∧ ofF f a us h) := by
  cases f
  · exact Draws.list hh it a ne us
  · exact Draws.tuple hh it a ne us
def startF (f : Bool) (a : Addr) : Obj := match f with
  | true => { cls := .type "tuple_iterator", data := .fields #[.ref a, .int 0 0] }
  | false => { cls := .type "list_iterator", data := .fields #[.ref a, .int 0 0] }
theorem beginsF (f : Bool) (a : Addr) (us : Array Value) : Begins (.ref a) (startF f a) (ofF f a us) := by
  cases f
  · exact begins_list a us
  · exact begins_tuple a us
theorem startF_at {f : Bool} {a it : Addr} {h : Heap} (e : h.get? it = some (startF f a)) : atF f it a 0 h := by
  cases f <;> exact ⟨_, e, rfl, rfl⟩
theorem atF_obj {f : Bool} {it a : Addr} {k : Nat} {h : Heap} (e : atF f it a k h) : ∃ o, h.get? it = some o ∧ ∀ v, o.data ≠ .cell v := by
  cases f <;> (obtain ⟨o, e1, _, e2⟩ := e; exact ⟨o, e1, fun v q => by rw [e2] at q; cases q⟩)
theorem atF_keep {f : Bool} {it a : Addr} {k : Nat} {h h' : Heap} (e : atF f it a k h) (q : ∀ o, h.get? it = some o → h'.get? it = some o) : atF f it a k h' := by
  cases f
  · exact Heap.IsListIter.at (show Heap.IsListIter h it a k from e) fun o z => q o z
  · exact Heap.IsTupleIter.at (show Heap.IsTupleIter h it a k from e) fun o z => q o z
section
variable {X : Cx} {pins : List (Addr × Obj)} {σ : L2.St} {H : Hp} {s : Shared}
theorem seqF {f : Bool} {a : Addr} {xs : List V} (I : Inv X pins σ H s) (h : SqF X.K f H a xs) : ∃ us : List Value, Vals xs us ∧ ofF f a us.toArray s.heap ∧ a < s.heap.objs.size := by
  cases f
  · obtain ⟨us, r, p, _⟩ := I.list h
    exact ⟨us, r, p.isList, p.lt⟩
  · obtain ⟨us, r, p, _⟩ := I.tuple h
    exact ⟨us, r, p, p.lt⟩
theorem oneF {f : Bool} {a : Addr} {xs ys : List V} (I : Inv X pins σ H s) (h : SqF X.K f H a xs) (h' : SqF X.K f H a ys) : xs = ys := by
  cases f
  · exact I.list_inj h h'
  · exact I.tuple_inj h h'
end
/-- what stands at a and b turn by turn, in new pairs -/
def ItF (K : PySem.W.Frag) (f g : Bool) (a b : Addr) : It where
  go i H := ∃ xs ys x y, SqF K f H a xs ∧ SqF K g H b ys ∧ xs[i]? = some x ∧ ys[i]? = some y
  yld i H v H' := ∃ T x y, v = .ref T ∧ H T = none ∧ H' = upd H T (.tup [x, y]) ∧ (∀ xs, SqF K f H a xs → xs[i]? = some x) ∧ ∀ ys, SqF K g H b ys → ys[i]? = some y
  stop i H := ∃ xs ys, SqF K f H a xs ∧ SqF K g H b ys ∧ i = min xs.length ys.length
def tnF (f g : Bool) (N : Nat) (a b : Addr) (i : Nat) (h : Heap) : Prop :=
  IsZip h (N + 4) (N + 2) (N + 3) .none ∧ IsTupOf2 h (N + 2) (.ref N) (.ref (N + 1)) ∧ (∃ u v, IsTupOf2 h (N + 3) u v) ∧ atF f N a i h ∧ atF g (N + 1) b i h
theorem mem5 {N : Nat} {c : Addr} (h : c ∈ [N + 4, N + 2, N + 3, N, N + 1]) : c = N + 4 ∨ c = N + 2 ∨ c = N + 3 ∨ c = N ∨ c = N + 1 := by simpa using h
theorem tnF_obj {f g : Bool} {N : Nat} {a b : Addr} {i : Nat} {h : Heap} (t : tnF f g N a b i h) (c : Addr) (hc : c ∈ [N + 4, N + 2, N + 3, N, N + 1]) : ∃ o, h.get? c = some o ∧ ∀ v, o.data ≠ .cell v := by
  obtain ⟨t1, t2, ⟨u, v, t3⟩, t4, t5⟩ := t
  rcases mem5 hc with e | e | e | e | e <;> rw [e]
  · exact ⟨_, t1, fun _ q => nomatch q⟩
  · exact ⟨_, t2, fun _ q => nomatch q⟩
  · exact ⟨_, t3, fun _ q => nomatch q⟩
  · exact atF_obj t4
  · exact atF_obj t5
theorem sepF {N a b : Nat} (ha : a < N) (hb : b < N) : ZipSep2 (N + 4) (N + 2) (N + 3) N (N + 1) [N, a] [N + 1, b] :=
  zip_sep2 (fp1 := [a]) (fp2 := [b]) (fun c hc => by rw [List.mem_singleton.mp hc]; exact ha) (fun c hc => by rw [List.mem_singleton.mp hc]; exact hb)
theorem turnF {P : Program} {w : World} {K : PySem.W.Frag} {elts : List Expr} {kk : Nat} {tpos : Pos} {f g : Bool} {N : Nat} {a b : Addr} (ha : a < N) (hb : b < N) :
    Turn P w K (.Tuple elts kk tpos) (ItF K f g a b) [N + 4, N + 2, N + 3, N, N + 1] (N + 4) (tnF f g N a b) where
  mem := List.mem_cons_self ..
  obj := fun i h t => tnF_obj t
  keep := fun i h h' t k => by
    obtain ⟨t1, t2, ⟨u, v, t3⟩, t4, t5⟩ := t
    exact ⟨k _ (by simp) _ t1, k _ (by simp) _ t2, ⟨u, v, k _ (by simp) _ t3⟩, atF_keep t4 (k _ (by simp)), atF_keep t5 (k _ (by simp))⟩
  item := by
    intro X hP hw hK hc i pins s σ H E I hf t hg
    subst hP hw hK
    obtain ⟨xs, ys, x, y, q1, q2, x1, y1⟩ := hg
    obtain ⟨us, r1, p1, _⟩ := seqF I q1
    obtain ⟨vs, r2, p2, _⟩ := seqF I q2
    obtain ⟨u, hu, ru⟩ := r1.get x1
    obtain ⟨v, hv, rv⟩ := r2.get y1
    have hob := fun c hc => tnF_obj t c hc
    obtain ⟨t1, t2, t3, t4, t5⟩ := t
    have l1 := (List.getElem?_eq_some_iff.mp hu).1
    have l2 := (List.getElem?_eq_some_iff.mp hv).1
    have W := WalksT.zipD2 (prog := X.prog) (w := X.w) (A := X.A) (sepF ha hb) (drawsF (A := X.A.in1) f (I.ok.hd hc) (Nat.ne_of_lt ha) us.toArray) (drawsF (A := X.A.in1) g (I.ok.hd hc) (show b ≠ N + 1 from Nat.ne_of_lt (Nat.lt_succ_of_lt hb)) vs.toArray)
    refine W.item i s _ _ (by simp; omega) ⟨t1, t2, t3, ⟨t4, p1⟩, ⟨t5, p2⟩⟩ fun T vals h1 tk ⟨z1, z2, e1, e2, e3⟩ hle hT mid k1 => ⟨_, rfl, ?_⟩
    have hz1 : z1 = u := by
      have : us[i]? = some z1 := by simpa using e1
      exact Option.some.inj (this.symm.trans hu)
    have hz2 : z2 = v := by
      have : vs[i]? = some z2 := by simpa using e2
      exact Option.some.inj (this.symm.trans hv)
    subst hz1 hz2 e3
    have ap := W.apart _ _ _ mid
    refine W.go elts kk tpos i T _ _ _ mid fun h2 st2 k2 => ?_
    obtain ⟨s1, s2, s3, ⟨s4, _⟩, s5, _⟩ := st2
    have hT2 : Heap.IsTuple h2 T #[z1, z2] := by
      obtain ⟨o, ho, r⟩ := hT
      exact ⟨o, k2 _ _ ap ho, r⟩
    have new : ObjOk X.prog X.w (upd H T (.tup [x, y])) h2 T (.tup [x, y]) := ⟨by show 2 ≤ sizeLine; decide, [z1, z2], .cons ru (.cons rv .nil), hT2⟩
    have sub : ∀ c, c ∉ [N + 4, N + 2, N + 3, N, N + 1] → c ∉ [N + 4, N + 3, N, N + 1] := fun c hc q => hc (by
      have q' : c = N + 4 ∨ c = N + 3 ∨ c = N ∨ c = N + 1 := by simpa using q
      rcases q' with q' | q' | q' | q' <;> simp [q'])
    refine ⟨.ref T, _, I.turnedNew (ch := [N + 4, N + 2, N + 3, N, N + 1]) (fun c o hc e => k2 c o (sub c hc) (k1 c o (sub c hc) e)) hf hle new, rfl, ⟨T, x, y, rfl, I.hok.fresh hle, rfl, fun l hl => by rw [oneF I hl q1]; exact x1, fun l hl => by rw [oneF I hl q2]; exact y1⟩,
      ⟨s1, s2, s3, s4, s5⟩, fun c hc => ?_⟩
    obtain ⟨o, e, _⟩ := hob c hc
    have lt := Heap.lt_size e
    rw [upd_ne (fun z : c = T => by rw [z] at lt; exact Nat.lt_irrefl _ (Nat.lt_of_lt_of_le lt hle))]
    exact (hf c hc).1
  done := by
    intro X hP hw hK hc i pins s σ H E I hf t hg
    subst hP hw hK
    obtain ⟨xs, ys, q1, q2, e⟩ := hg
    obtain ⟨us, r1, p1, _⟩ := seqF I q1
    obtain ⟨vs, r2, p2, _⟩ := seqF I q2
    obtain ⟨t1, t2, t3, t4, t5⟩ := t
    have W := WalksT.zipD2 (prog := X.prog) (w := X.w) (A := X.A) (sepF ha hb) (drawsF (A := X.A.in1) f (I.ok.hd hc) (Nat.ne_of_lt ha) us.toArray) (drawsF (A := X.A.in1) g (I.ok.hd hc) (show b ≠ N + 1 from Nat.ne_of_lt (Nat.lt_succ_of_lt hb)) vs.toArray)
    have e' : i = min us.toArray.size vs.toArray.size := by
      have := r1.length
      have := r2.length
      simp
      omega
    subst e'
    exact W.done s _ _ ⟨t1, t2, t3, ⟨t4, p1⟩, ⟨t5, p2⟩⟩ fun h' tk k => ⟨rfl, I.turnedL (ch := [N + 4, N + 2, N + 3, N, N + 1]) (fun c o hc e => k c o (fun q => hc (by
      have q' : c = N + 4 ∨ c = N + 3 ∨ c = N ∨ c = N + 1 := by simpa using q
      rcases q' with q' | q' | q' | q' <;> simp [q'])) e) hf⟩
  self := fun A i s Q E t h => wpAny_pyIter_zip t.1 h
def iZipF (K : PySem.W.Frag) (f g : Bool) (ta : TA) : TI := fun σ H R => ta σ H fun vs H1 => ∃ a b xs ys, vs = [.ref a, .ref b] ∧ SqF K f H1 a xs ∧ SqF K g H1 b ys ∧ R (ItF K f g a b) H1
theorem pi_zipF {X : Cx} {K : PySem.W.Frag} (f g : Bool) {e e2 : Expr} {ta : TA} {p pos tpos : Pos} {elts : List Expr} {kk : Nat} (hK : X.K = K) (hg : Gl X "zip") (hm : X.mg "zip" = none) (ha : PA X [e, e2] ta)
    (hs : starEach [e, e2] X.env = (false, eval e X.env) :: starEach [e2] X.env := by rfl) (hp : (backTo pos (starEach [e2] X.env)).any (·.1) = false := by rfl) :
    PI X (.Tuple elts kk tpos) (.Call (.Name "zip" p) [e, e2] [] pos) (iZipF K f g ta) := by
  subst hK
  refine ⟨fun pins s σ H R I h => Call_ (ld_blt I hg hm PyProof.Rows.boot_zip (PyProof.Rows.callWith_type1 (thn (ha.run pos pins s σ H _ I h) fun us s1 hv => ?_) hs hp))⟩
  obtain ⟨vs, H1, I1, r1, a, b, xs, ys, ex, q1, q2, q3⟩ := hv
  subst ex
  obtain ⟨u, v, rfl, ra, rb⟩ : ∃ u v, us = [u, v] ∧ RelV (.ref a) u ∧ RelV (.ref b) v := by
    cases r1 with
    | cons h1 h2 =>
      cases h2 with
      | cons h2 h3 =>
        cases h3
        exact ⟨_, _, rfl, h1, h2⟩
  cases ra
  cases rb
  obtain ⟨us, _, p1, l1⟩ := seqF I1 q1
  obtain ⟨ws, _, p2, l2⟩ := seqF I1 q2
  refine zip_begins2 (beginsF f a us.toArray) (beginsF g b ws.toArray) p1 p2 fun h' y1 y2 y3 y4 y5 y6 y7 => wpAny_pyIter_zip y1 ?_
  have I2 : Inv X pins σ H1 { s1 with heap := h' } := I1.kept (t' := s1.toks) y7
  refine ⟨s1.heap.objs.size + 4, _, _, _, H1, rfl, I2, turnF (f := f) (g := g) l1 l2, ⟨y1, y2, ⟨_, _, y3⟩, startF_at y4, startF_at y5⟩, fun c hc => ?_, q3⟩
  have hle : s1.heap.objs.size ≤ c := by rcases mem5 hc with e | e | e | e | e <;> (rw [e]; first | exact Nat.le_refl _ | exact Nat.le_add_right _ _)
  exact I1.fpOk hle (I1.hok.fresh hle)
end Mv
namespace Mv
open PySem PySem.Spec PyProof.Rows L2
section
variable {K : PySem.W.Frag} {J : Jm} {M : Mm} {env : List Sl} {D : DM} {ta : TA}
def mkF (f : Bool) (xs : List Dt) : Dt := match f with | true => .tup xs | false => .lst xs
theorem walkF {f g : Bool} {a b : Addr} {xs ys : List V} (h : xs.length = ys.length) : Walk (ItF K f g a b) xs.length (fun H => SqF K f H a xs ∧ SqF K g H b ys) (YPair (fun i => xs[i]?) fun i => ys[i]?) := by
  refine ⟨fun i _ hi q => ⟨xs, ys, xs[i], ys[i]'(h ▸ hi), q.1, q.2, List.getElem?_eq_getElem _, List.getElem?_eq_getElem _⟩, fun _ q => ⟨xs, ys, q.1, q.2, by omega⟩, fun i H v H' _ q y => ?_⟩
  obtain ⟨T, x, y, y1, y2, y3, y4, y5⟩ := y
  exact ⟨T, x, y, y1, y2, y3, y4 xs q.1, y5 ys q.2⟩
/-- a datum of the kind stands in H -/
theorem drF {f : Bool} {G : Hp} {v : V} {xs : List Dt} (r : Dr K G v (mkF f xs)) : ∃ a us, v = .ref a ∧ SqF K f G a us ∧ Da K G us xs := by
  cases f
  · cases r with
    | lst s t => exact ⟨_, _, rfl, s, t⟩
  · cases r with
    | tup s t => exact ⟨_, _, rfl, s, t⟩
theorem sameF {f : Bool} {G H : Hp} {a : Addr} {us : List V} (sg : Same G H) (s : SqF K f G a us) : SqF K f H a us := by
  cases f
  · exact same_l sg s
  · exact same_t sg s
theorem zipD_get {xs ys : List Dt} {i : Nat} {c d : Dt} (h1 : xs[i]? = some c) (h2 : ys[i]? = some d) : (zipD xs ys)[i]? = some (pairD c d) := by
  unfold zipD
  rw [List.getElem?_zipWith, h1, h2]
theorem eim_zipF {f g : Bool} {R : Mm → List Dt → Mm → Prop} (h : EdM K J M env D ta fun zs M' => ∃ xs ys, zs = [mkF f xs, mkF g ys] ∧ xs.length = ys.length ∧ R A0 (zipD xs ys) M') : EiM K J M env D (iZipF K f g ta) R := fun MV0 MV GB B G H σ a x Q q =>
  h MV0 MV GB B G H σ a x _ fun vs zs M' MV' G' H' sg a' r ⟨xs, ys, e, hl, k⟩ => by
    subst e
    cases r with
    | cons r1 r2 =>
      cases r2 with
      | cons r2 r3 =>
        cases r3
        obtain ⟨p, us, rfl, s, t⟩ := drF r1
        obtain ⟨b, ws, rfl, s', t'⟩ := drF r2
        have hl' : us.length = ws.length := by rw [t.length, t'.length, hl]
        refine ⟨p, b, us, ws, rfl, sameF a'.wf.gh s, sameF a'.wf.gh s', q _ A0 _ M' MV' G' H' sg a' ag0 (.of fun _ => wk_pairs (walkF hl') (by rw [zipD_len hl, t.length]) (fun G2 H2 s1 s2 => ⟨sameF (s1.trans s2) s, sameF (s1.trans s2) s'⟩) fun i x y h1 h2 => ?_) k⟩
        obtain ⟨c, hc, rc⟩ := t.get' h1
        obtain ⟨d, hd, rd⟩ := t'.get' h2
        exact ⟨c, d, zipD_get hc hd, rc, rd⟩
/-- one of the two told -/
theorem wk_zipM {f g : Bool} {a b p : Addr} {xs ys zs : List Dt} {G : Hp} (hl : xs.length = ys.length)
    (ex : ∀ MV M' G1 H1, Same G G1 → Wf (Jt K J MV M') G1 H1 → M' p = some (.lst zs) → ∃ us ws, SqF K f H1 a us ∧ SqF K g H1 b ws ∧ Da K G1 us xs ∧ Da K G1 ws ys) : WkM K J (onlyM p (.lst zs)) G (ItF K f g a b) (zipD xs ys) := by
  refine ⟨fun i MV M G1 H1 sg w ag hi => ?_, fun MV M G1 H1 sg w ag => ?_, fun i MV M G1 H1 x H2 sg w ag hi y => ?_⟩ <;> obtain ⟨us, ws, s1, s2, t1, t2⟩ := ex MV M G1 H1 sg w (ag1.mp ag) <;>
    have hl' : us.length = ws.length := by rw [t1.length, t2.length, hl]
  · exact (walkF hl').goes i H1 (by rw [t1.length, ← zipD_len hl]; exact hi) ⟨s1, s2⟩
  · have := (walkF (K := K) hl').stops H1 ⟨s1, s2⟩
    rw [t1.length, ← zipD_len hl] at this
    exact this
  · obtain ⟨T, u, v, rfl, hT, rfl, k1, k2⟩ := (walkF hl').yields i H1 x H2 (by rw [t1.length, ← zipD_len hl]; exact hi) ⟨s1, s2⟩ y
    obtain ⟨c, hc, rc⟩ := t1.get' k1
    obtain ⟨d, hd, rd⟩ := t2.get' k2
    have n2 := w.new hT (.tup [u, v])
    exact ⟨_, _, n2, zipD_get hc hd, .tup (.inl (.inl upd_same)) (.cons (rc.mono n2.gg) (.cons (rd.mono n2.gg) .nil))⟩
theorem eim_zipPF {g : Bool} {R : Mm → List Dt → Mm → Prop} (h : EdM K J M env D ta fun zs M' => ∃ p xs ys, zs = [.ptr p, mkF g ys] ∧ M' p = some (.lst xs) ∧ xs.length = ys.length ∧ R (onlyM p (.lst xs)) (zipD xs ys) M') :
    EiM K J M env D (iZipF K false g ta) R := fun MV0 MV GB B G H σ a x Q q =>
  h MV0 MV GB B G H σ a x _ fun vs zs M' MV' G' H' sg a' r ⟨p, xs, ys, e, hM, hl, k⟩ => by
    subst e
    cases r with
    | cons r1 r2 =>
      cases r2 with
      | cons r2 r3 =>
        cases r3
        cases r1
        obtain ⟨b, ws, rfl, s', t'⟩ := drF r2
        obtain ⟨us, e1, e2, t⟩ := a'.wf.lstM hM
        refine ⟨p, b, us, ws, rfl, .inl (.inl e2), sameF a'.wf.gh s', q _ _ _ M' MV' G' H' sg a' (ag1.mpr hM) (wk_zipM hl fun MV2 M2 G1 H1 s1 w1 hM1 => ?_) k⟩
        obtain ⟨us1, _, e3, t1⟩ := w1.lstM hM1
        exact ⟨us1, ws, .inl (.inl e3), sameF (s1.trans w1.gh) s', t1, t'.mono s1⟩
theorem eim_zipFP {f : Bool} {R : Mm → List Dt → Mm → Prop} (h : EdM K J M env D ta fun zs M' => ∃ p xs ys, zs = [mkF f xs, .ptr p] ∧ M' p = some (.lst ys) ∧ xs.length = ys.length ∧ R (onlyM p (.lst ys)) (zipD xs ys) M') :
    EiM K J M env D (iZipF K f false ta) R := fun MV0 MV GB B G H σ a x Q q =>
  h MV0 MV GB B G H σ a x _ fun vs zs M' MV' G' H' sg a' r ⟨p, xs, ys, e, hM, hl, k⟩ => by
    subst e
    cases r with
    | cons r1 r2 =>
      cases r2 with
      | cons r2 r3 =>
        cases r3
        cases r2
        obtain ⟨b, ws, rfl, s', t'⟩ := drF r1
        obtain ⟨us, e1, e2, t⟩ := a'.wf.lstM hM
        refine ⟨b, p, ws, us, rfl, sameF a'.wf.gh s', .inl (.inl e2), q _ _ _ M' MV' G' H' sg a' (ag1.mpr hM) (wk_zipM hl fun MV2 M2 G1 H1 s1 w1 hM1 => ?_) k⟩
        obtain ⟨us1, _, e3, t1⟩ := w1.lstM hM1
        exact ⟨ws, us1, sameF (s1.trans w1.gh) s', .inl (.inl e3), t'.mono s1, t1⟩
end
end Mv

set_option Elab.async false
set_option linter.all false
set_option maxRecDepth 100000
set_option maxHeartbeats 4000000
/-! a told list zipped, the objects left alone -/
namespace Mv
open PySem PySem.Spec PyProof.Rows L2
section
variable {K : PySem.W.Frag} {J : Jm} {M : Mm} {MV : Mh} {env : List Sl} {ta : TA}
theorem ei_zipPF {g : Bool} {R : List Dt → Prop} (h : Ed K (Jt K J MV M) env ta fun zs => ∃ p xs ys, zs = [.ptr p, mkF g ys] ∧ M p = some (.lst xs) ∧ xs.length = ys.length ∧ R (zipD xs ys)) :
    Ei K (Jt K J MV M) env (iZipF K false g ta) R := fun B G H σ w E Q q =>
  h B G H σ w E _ fun vs zs G1 H1 n1 r ⟨p, xs, ys, e, hM, hl, k⟩ => by
    subst e
    have w1 := n1.wf w
    cases r with
    | cons r1 r2 =>
      cases r2 with
      | cons r2 r3 =>
        cases r3
        cases r1
        obtain ⟨b, ws, rfl, s', t'⟩ := drF r2
        obtain ⟨us, e1, e2, t⟩ := w1.lstM hM
        refine ⟨p, b, us, ws, rfl, .inl (.inl e2), sameF w1.gh s', q _ _ G1 H1 n1 (WkM.wk (A := onlyM p (.lst xs)) (wk_zipM hl fun MV2 M2 G2 H2 s1 w2 hM1 => ?_) (ag1.mpr hM)) k⟩
        obtain ⟨us1, _, e3, t1⟩ := w2.lstM hM1
        exact ⟨us1, ws, .inl (.inl e3), sameF (s1.trans w2.gh) s', t1, t'.mono s1⟩
theorem ei_zipF {J : Jm} {f g : Bool} {R : List Dt → Prop} (h : Ed K J env ta fun zs => ∃ xs ys, zs = [mkF f xs, mkF g ys] ∧ xs.length = ys.length ∧ R (zipD xs ys)) : Ei K J env (iZipF K f g ta) R := fun B G H σ w E Q q =>
  h B G H σ w E _ fun vs zs G1 H1 n1 r ⟨xs, ys, e, hl, k⟩ => by
    subst e
    have w1 := n1.wf w
    cases r with
    | cons r1 r2 =>
      cases r2 with
      | cons r2 r3 =>
        cases r3
        obtain ⟨p, us, rfl, s, t⟩ := drF r1
        obtain ⟨b, ws, rfl, s', t'⟩ := drF r2
        have hl' : us.length = ws.length := by rw [t.length, t'.length, hl]
        refine ⟨p, b, us, ws, rfl, sameF w1.gh s, sameF w1.gh s', q _ _ G1 H1 n1 (wk_pairs (walkF hl') (by rw [zipD_len hl, t.length]) (fun G2 H2 s1 s2 => ⟨sameF (s1.trans s2) s, sameF (s1.trans s2) s'⟩) fun i x y h1 h2 => ?_) k⟩
        obtain ⟨c, hc, rc⟩ := t.get' h1
        obtain ⟨d, hd, rd⟩ := t'.get' h2
        exact ⟨c, d, zipD_get hc hd, rc, rd⟩
theorem ei_zipFP {f : Bool} {R : List Dt → Prop} (h : Ed K (Jt K J MV M) env ta fun zs => ∃ p xs ys, zs = [mkF f xs, .ptr p] ∧ M p = some (.lst ys) ∧ xs.length = ys.length ∧ R (zipD xs ys)) :
    Ei K (Jt K J MV M) env (iZipF K f false ta) R := fun B G H σ w E Q q =>
  h B G H σ w E _ fun vs zs G1 H1 n1 r ⟨p, xs, ys, e, hM, hl, k⟩ => by
    subst e
    have w1 := n1.wf w
    cases r with
    | cons r1 r2 =>
      cases r2 with
      | cons r2 r3 =>
        cases r3
        cases r2
        obtain ⟨b, ws, rfl, s', t'⟩ := drF r1
        obtain ⟨us, e1, e2, t⟩ := w1.lstM hM
        refine ⟨b, p, ws, us, rfl, sameF w1.gh s', .inl (.inl e2), q _ _ G1 H1 n1 (WkM.wk (A := onlyM p (.lst ys)) (wk_zipM hl fun MV2 M2 G2 H2 s1 w2 hM1 => ?_) (ag1.mpr hM)) k⟩
        obtain ⟨us1, _, e3, t1⟩ := w2.lstM hM1
        exact ⟨ws, us1, sameF (s1.trans w2.gh) s', .inl (.inl e3), t'.mono s1, t1⟩
end
section
variable {K : PySem.W.Frag} {J : Jm} {R : Dt → Prop}
/-- the least of a list of whole numbers -/
theorem oc_minL {ns : List Int} (hne : 0 < ns.length) (h : ∀ m, m ∈ ns → (∀ y ∈ ns, m ≤ y) → R (.int m)) : Oc K J (L2.rMin K) [.lst (ns.map Dt.int)] R := fun G H vs w rs Q q => by
  cases rs with
  | cons r1 r2 =>
    cases r2
    cases r1 with
    | lst s t =>
      have e := t.ints_inv
      subst e
      exact ⟨_, ns, rfl, same_l w.gh s, hne, fun m hm hy => q _ _ G H w.nx (.int _) (h m hm hy)⟩
theorem c_minLK (K : PySem.W.Frag) {X : Cx} (hc : X.calm = true := by rfl) (h : X.K = K := by rfl) : CallR X (.builtin "min") (L2.rMin K) := h ▸ cr_min hc
end
section
variable {K : PySem.W.Frag} {J : Jm} {env : List Sl} {te : TE} {D : DE}
/-- return of a list that is new -/
theorem sv_retE (h : Em K J env te D.rm) : Sv K J env (tRet te) D := fun GB B G H σ a E _ _ _ _ q5 _ =>
  h B G H σ a.wf a.en _ fun p vs ds G1 H1 n1 hG hH hp r k => q5 p vs ds G1 H1 (a.nx.trans n1) hG (by
    cases z : B p with
    | none => rfl
    | some o => exact absurd hH (a.nx.th p (by rw [z]; simp))) hp r k
end
section
variable {K : PySem.W.Frag} {J : Jm} {env : List Sl} {tl th : TO}
/-- xs[lo:hi] of a slot's own list -/
theorem em_slM {i : Nat} {xs : List Dt} {R : List Dt → Prop} (hi : env[i]? = some (.ml xs)) (h : Ep K J env tl fun lo => Ep K J env th fun hi => R (cutD xs lo hi)) : Em K J env (tSl (rSlL K) (tVar i) tl th) R := fun B G H σ w E Q q => by
  obtain ⟨p, vs, h1, hH, r, hm, hG⟩ := E.lst hi
  refine ⟨.ref p, h1, h B G H σ w E _ fun lo G2 H2 n2 k2 => k2 B G2 H2 σ (n2.wf w) (E.mono n2) _ fun hi G3 H3 n3 k3 => ?_⟩
  have n := n2.trans n3
  have w3 := n.wf w
  refine ⟨p, vs, rfl, .inl (.inl (n.kp p _ hH hm)), fun l hl => ?_⟩
  refine q l _ _ G3 _ (n.trans (w3.newM hl _)) (w3.free hl) ?_ upd_same (da_cut (r.mono n.gg) lo hi) k3
  cases z : H l with
  | none => rfl
  | some o => exact absurd hl (n.th l (by rw [z]; simp))
end
section
variable {K : PySem.W.Frag} {J : Jm} {M : Mm} {MV : Mh} {R : Dt → Prop}
/-- the least of a told list -/
theorem oc_minP {a : Addr} {ns : List Int} (hM : M a = some (.lst (ns.map Dt.int))) (hne : 0 < ns.length) (h : ∀ m, m ∈ ns → (∀ y ∈ ns, m ≤ y) → R (.int m)) : Oc K (Jt K J MV M) (L2.rMin K) [.ptr a] R := fun G H vs w rs Q q => by
  cases rs with
  | cons r1 r2 =>
    cases r2
    cases r1
    obtain ⟨us, _, e2, t⟩ := w.lstM hM
    have e := t.ints_inv
    subst e
    exact ⟨a, ns, rfl, .inl (.inl e2), hne, fun m hm hy => q _ _ G H w.nx (.int _) (h m hm hy)⟩
end
section
variable {K : PySem.W.Frag} {J : Jm} {env : List Sl} {ta : TA}
theorem ei_range2 {R : List Dt → Prop} (h : Ed K J env ta fun xs => ∃ i j : Int, xs = [.int i, .int j] ∧ -1000000 ≤ i ∧ i ≤ 1000000 ∧ -1000000 ≤ j ∧ j ≤ 1000000 ∧ R ((List.range (j - i).toNat).map fun k => Dt.int (i + (k : Nat)))) : Ei K J env (iRng2 ta) R := fun B G H σ w E Q q =>
  h B G H σ w E _ fun vs xs G1 H1 n1 r ⟨i, j, e, h0, h1, h2, h3, k⟩ => by
    subst e
    cases r with
    | cons r1 r2 =>
      cases r2 with
      | cons r2 r3 =>
        cases r1
        cases r2
        cases r3
        exact ⟨i, j, rfl, ⟨by omega, by omega, by omega, by omega⟩, q _ _ G1 H1 n1 wk_range k⟩
end
end Mv

set_option Elab.async false
set_option linter.all false
set_option maxRecDepth 100000
set_option maxHeartbeats 4000000
/-! an instance made without arguments -/
namespace Mv
open PySem PySem.Spec PyProof.Rows L2
theorem pe_makeC0 {X : Cx} {k : Nat} {x : Str} {ps : List Str} {C : Addr} {sp : Sp} {p pos : Pos} (M : MkI X.prog X.w X.K X.mg X.base k x ps C sp) (hr : Room (k + 1) X.A) (hg : Gl X x) (hdb : (x == ("__debug__" : Str)) = false := by decide) :
    PE X (.Call (.Name x p) [] [] pos) (tMake C sp [] E0 tNil) := by
  obtain ⟨f, fd, m, F, g, b⟩ := M.ex
  exact pe_make0 m F hr hg g b .nil passL hdb
section
variable {K : PySem.W.Frag} {J : Jm} {M : Mm} {env : List Sl} {D : DM} {ta : TA}
/-- a, b = x, y with plain names -/
theorem sm_par {i j : Nat} (h : EdM K J M env D ta fun ds M' => ∃ d e, ds = [d, e] ∧ D.nx M' ((env.set i (.d d)).set j (.d e))) : SvM K J M env (tPar i j ta) D := fun MV0 MV GB B G H σ a E r =>
  h MV0 MV GB B G H σ a r.x _ fun vs ds M' MV' G' H' _ a' rs ⟨d, e, he, k⟩ => by
    subst he
    cases rs with
    | cons r1 r2 =>
      cases r2 with
      | cons r2 r3 =>
        cases r3
        exact ⟨_, _, rfl, r.nx M' MV' _ G' H' _ ((a'.setD r1).setD r2) k⟩
end
end Mv

set_option Elab.async false
set_option linter.all false
set_option maxRecDepth 100000
set_option maxHeartbeats 4000000
/-! Truth values within sums; str of an int and of a truth value; data of which all parts are small. -/
namespace Mv
open PySem PySem.Spec PyProof.Rows L2
def rJ (g : Int → Int → Int) : R2 := fun x y H Q => (∃ i j, x = .int i ∧ y = .int j ∧ Q (.int (g i j)) H) ∨ (∃ (b : Bool) (j : Int), x = .bl b ∧ y = .int j ∧ Q (.int (g (if b = true then 1 else 0) j)) H) ∨ ∃ (i : Int) (b : Bool), x = .int i ∧ y = .bl b ∧ Q (.int (g i (if b = true then 1 else 0))) H
section
variable {X : Cx}
theorem op_addJ : OpR X (binaryOp .Add) (rJ (· + ·)) := by
  intro pins s σ H x y v u Q I rx ry h
  rcases h with ⟨i, j, rfl, rfl, q⟩ | ⟨b, j, rfl, rfl, q⟩ | ⟨i, b, rfl, rfl, q⟩
  · obtain ⟨t, rfl⟩ := rx
    obtain ⟨t', rfl⟩ := ry
    exact add_int ⟨.int _, H, I.tok _, ⟨_, rfl⟩, q⟩
  · cases rx
    obtain ⟨t', rfl⟩ := ry
    exact PySem.IntBool.add_bool_int ⟨.int _, H, I.tok _, ⟨_, rfl⟩, q⟩
  · obtain ⟨t, rfl⟩ := rx
    cases ry
    exact PySem.add_int_bool ⟨.int _, H, I.tok _, ⟨_, rfl⟩, q⟩
theorem op_subJ : OpR X (binaryOp .Sub) (rJ (· - ·)) := by
  intro pins s σ H x y v u Q I rx ry h
  rcases h with ⟨i, j, rfl, rfl, q⟩ | ⟨b, j, rfl, rfl, q⟩ | ⟨i, b, rfl, rfl, q⟩
  · obtain ⟨t, rfl⟩ := rx
    obtain ⟨t', rfl⟩ := ry
    exact sub_int ⟨.int _, H, I.tok _, ⟨_, rfl⟩, q⟩
  · cases rx
    obtain ⟨t', rfl⟩ := ry
    exact PySem.IntBool.sub_bool_int ⟨.int _, H, I.tok _, ⟨_, rfl⟩, q⟩
  · obtain ⟨t, rfl⟩ := rx
    cases ry
    exact PySem.IntBool.sub_int_bool ⟨.int _, H, I.tok _, ⟨_, rfl⟩, q⟩
def rStrX : List V → Hp → VK → Prop := fun xs H Q => (∃ i, xs = [.int i] ∧ i.natAbs.log2 < 1920 ∧ Q (.str (Str.ofString (toString i))) H) ∨ ∃ b : Bool, xs = [.bl b] ∧ Q (.str (if b then "True" else "False")) H
theorem c_strX : CallR X (.type "str") rStrX := by
  intro pins s σ H xs us Q I r h
  rcases h with ⟨i, rfl, hz, q⟩ | ⟨b, rfl, q⟩
  · obtain ⟨u, rfl, t, rfl⟩ := vals1 r
    exact PySem.P.str_of_int hz ⟨.str _, H, I.tok _, ⟨_, rfl⟩, q⟩
  · obtain ⟨u, rfl, r1⟩ := vals1 r
    cases r1
    exact PySem.P.str_of_bool ⟨.str _, H, I.tok _, ⟨_, rfl⟩, q⟩
end
/-- an int, or a truth value as one -/
def intV : Dt → Option Int
  | .int i => some i
  | .bl b => some (if b = true then 1 else 0)
  | _ => none
section
variable {K : PySem.W.Frag} {J : Jm} {R : Dt → Prop}
theorem o2_JL {g : Int → Int → Int} {x : Dt} {i j : Int} (hx : intV x = some i) (h : R (.int (g i j))) : O2 K J (rJ g) x (.int j) R := fun G H vx vy w rx ry Q q => by
  cases x <;> cases hx
  · cases rx; cases ry
    exact .inr (.inl ⟨_, j, rfl, rfl, q _ _ G H w.nx (.int _) h⟩)
  · cases rx; cases ry
    exact .inl ⟨_, j, rfl, rfl, q _ _ G H w.nx (.int _) h⟩
theorem o2_JR {g : Int → Int → Int} {y : Dt} {i j : Int} (hy : intV y = some j) (h : R (.int (g i j))) : O2 K J (rJ g) (.int i) y R := fun G H vx vy w rx ry Q q => by
  cases y <;> cases hy
  · cases rx; cases ry
    exact .inr (.inr ⟨i, _, rfl, rfl, q _ _ G H w.nx (.int _) h⟩)
  · cases rx; cases ry
    exact .inl ⟨i, _, rfl, rfl, q _ _ G H w.nx (.int _) h⟩
theorem strOk_of (s : String) : PyData.strOk (Str.ofString s) = true := by
  unfold PyData.strOk
  rw [Str.ofString_eq_toList]
  rw [Array.all_eq_true_iff_forall_mem]
  intro x hx
  have hx : x ∈ s.toList.map Char.toNat := by simpa using hx
  obtain ⟨c, _, rfl⟩ := List.mem_map.mp hx
  have h := c.valid
  rw [decide_eq_true_eq]
  show c.val.toNat < 0x110000
  rcases h with h | h
  · have h : c.val.toNat < 0xd800 := h
    omega
  · exact h.2
theorem oc_strX {x : Dt} {i : Int} (hx : intV x = some i) (hz : i.natAbs ≤ 100000) (h : ∀ s, PyData.strOk s = true → R (.str s)) : Oc K J rStrX [x] R := fun G H vs w rs Q q => by
  cases rs with
  | cons r1 r2 =>
    cases r2
    cases x <;> cases hx
    · cases r1
      rename_i b
      exact .inr ⟨b, rfl, q _ _ G H w.nx (.str _) (h _ (by cases b <;> exact strOk_of _))⟩
    · cases r1
      refine .inl ⟨i, rfl, ?_, q _ _ G H w.nx (.str _) (h _ (strOk_of _))⟩
      by_cases h0 : i.natAbs = 0
      · rw [h0]; decide
      · have := Nat.log2_self_le h0
        have h2 : i.natAbs.log2 < 2 ^ i.natAbs.log2 := Nat.lt_two_pow_self
        have h3 : i.natAbs.log2 ≤ 100000 := by omega
        by_cases h4 : i.natAbs.log2 < 20
        · omega
        · have : 2 ^ 20 ≤ 2 ^ i.natAbs.log2 := Nat.pow_le_pow_right (by decide) (by omega)
          have e : (2 : Nat) ^ 20 = 1048576 := by decide
          omega
end
/-- data of which all parts are small: so many members at most, ints so great at most -/
inductive Tam (c : Nat) : Nat → Dt → Prop
  | non (n : Nat) : Tam c n .non
  | bl (n : Nat) (b : Bool) : Tam c n (.bl b)
  | int (n : Nat) (i : Int) (h : i.natAbs ≤ c + 100) : Tam c n (.int i)
  | str (n : Nat) (s : Str) (h : PyData.strOk s = true) : Tam c n (.str s)
  | lst (n : Nat) (ds : List Dt) (hz : ds.length ≤ c) (h : ∀ d, d ∈ ds → Tam c n d) : Tam c (n + 1) (.lst ds)
  | tup (n : Nat) (ds : List Dt) (hz : ds.length ≤ c) (h : ∀ d, d ∈ ds → Tam c n d) : Tam c (n + 1) (.tup ds)
theorem Tam.mono {c c' n n' : Nat} {d : Dt} (h : Tam c n d) (h1 : c ≤ c') (h2 : n ≤ n') : Tam c' n' d := by
  induction h generalizing n' with
  | non => exact .non _
  | bl => exact .bl _ _
  | int n i h => exact .int _ _ (by omega)
  | str n s h => exact .str _ _ h
  | lst n ds hz h ih =>
    obtain ⟨m, rfl⟩ : ∃ m, n' = m + 1 := ⟨n' - 1, by omega⟩
    exact .lst _ _ (by omega) fun d hd => ih d hd (by omega)
  | tup n ds hz h ih =>
    obtain ⟨m, rfl⟩ : ∃ m, n' = m + 1 := ⟨n' - 1, by omega⟩
    exact .tup _ _ (by omega) fun d hd => ih d hd (by omega)
theorem Tam.flat {c n : Nat} {d : Dt} (h : Tam c n d) (hc : c ≤ 100000) : Flat n d := by
  induction h with
  | non => exact .non _
  | bl => exact .bl _ _
  | int => exact .int _ _
  | str => exact .str _ _
  | lst n ds hz h ih => exact .lst _ _ (by omega) ih
  | tup n ds hz h ih => exact .tup _ _ (by omega) ih
theorem Tam.txt {c n : Nat} {d : Dt} (h : Tam c n d) : txtD d = true := by
  induction h with
  | non => simp [txtD]
  | bl => simp [txtD]
  | int => simp [txtD]
  | str n s h => simpa [txtD] using h
  | lst n ds hz h ih => rw [txt_lst]; exact txtDs_iff.mpr ih
  | tup n ds hz h ih => rw [txt_tup]; exact txtDs_iff.mpr ih
theorem Tam.intV {c n : Nat} {d : Dt} {i : Int} (h : Tam c n d) (e : Mv.intV d = some i) : i.natAbs ≤ c + 100 := by
  cases h <;> cases e
  · rename_i b
    cases b <;> simp <;> omega
  · assumption
theorem cut_mem {ds : List Dt} {lo hi : Option Int} {d : Dt} (h : d ∈ cutD ds lo hi) : d ∈ ds := List.mem_of_mem_drop (List.mem_of_mem_take h)
theorem cut_two {ds : List Dt} {a b : Nat} : (cutD ds (some (a : Int)) (some (b : Int))).length ≤ min (b - a) (ds.length - a) := by
  unfold cutD
  rw [sIx_nat, sIx_nat, List.length_take, List.length_drop]
  omega
end Mv

set_option Elab.async false
set_option linter.all false
set_option maxRecDepth 100000
set_option maxHeartbeats 4000000
/-! a, b, c = a list; calls by keywords whose error goes where the code wishes. -/
namespace Mv
open PySem PySem.Spec PyProof.Rows L2
section
variable {K : PySem.W.Frag} {J : Jm} {env : List Sl} {X : Cx}
theorem pg_lstK (n : Nat) {es : List Expr} {k : Nat} {t : TGs} {pos : Pos} (hc : X.calm = true) (h : PGs X es t) (hk : X.K = K := by rfl)
    (hn : (assignEach es X.env).length = n := by rfl) (hst : (assignEach es X.env).findIdx? (·.1) = none := by rfl) : PG X (.Tuple es k pos) (gLst K n t) := hk ▸ pg_lst hc h hn hst
theorem gt_lst {u : TGs} {n : Nat} {ds : List Dt} {S : List Nat} {R : List Sl → Prop} (hn : ds.length = n) (h : Gs K J env u ds S R) : Gt K J env (gLst K n u) (.lst ds) S R := fun B G H σ v w E r Q q => by
  cases r with
  | lst s t => exact ⟨_, _, rfl, same_l w.gh s, by rw [t.length]; exact hn, h B G H σ _ w E t Q q⟩
def tCallKS (sp : Sp) (gV : List V → List V → List V) (E : L2.St → XK) (tk : TA) : TE := fun σ H Q => tk σ H fun zs H2 => sp (gV [] zs) H2 Q (E σ)
theorem run_fnkS {CX : CXT} {k : Nat} {f : Addr} {fd : FuncData} {ps ks : List Str} {sp : Sp} {E : L2.St → XK} {g : List Value → List Value → List Value} {gV : List V → List V → List V} {pins : List (Addr × Obj)} {σ : L2.St} {H : Hp} {s : Shared} {Q : VK} {us ws : List Value} {vs zs : List V}
    (F : FnOk X.prog X.w X.K X.mg X.base CX k f fd ps sp) (hr : Room k X.A) (hb : KBinds X.K fd ps ks g gV) (hx : PassesAt CX X σ (E σ))
    (I : Inv X pins σ H s) (r : Vals vs us) (rz : Vals zs ws) (h : sp (gV vs zs) H Q (E σ)) : wpAny (model X.prog X.w) X.A (call (.ref f) us (ks.zip ws)) (EP X pins σ Q) X.xe s := by
  have r2 := hb.rel r rz
  have hl : (g us ws).length = ps.length := by rw [← r2.length]; exact F.len _ _ _ _ h
  refine wpAny_call (codeAny_mono (F.run X.A X.stack s H ⟨us, ks.zip ws⟩ (g us ws) (gV vs zs) Q (E σ) hr I.env0 (hb.to s us ws I.kIn hl) r2 h) fun r s' hq => ?_)
  cases r with
  | error e => exact hx pins H s e s' I hq
  | ok fl =>
    cases fl with
    | ret u => exact I.after hq
    | next => exact False.elim hq
    | brk => exact False.elim hq
    | cont => exact False.elim hq
theorem pe_callKwW (W : WX) (tw : Takes X W) {k : Nat} {x : Str} {ps ks : List Str} {pi : List Nat} {sp : Sp} {p pos : Pos} {kws : List Keyword} {tk : TA} (C : CalKwX X.prog X.w X.K X.mg X.base k x ps ks pi sp) (hr : Room k X.A) (hg : Gl X x)
    (hkw : PK X kws tk) (hall : (backToKw pos (keywordEach kws X.env)).all (·.1.isSome) = true := by rfl) (hks : (backToKw pos (keywordEach kws X.env)).filterMap (·.1) = ks := by rfl) (hdb : (x == ("__debug__" : Str)) = false := by decide)
    (hpl : ((backTo pos (starEach [] X.env)).any (·.1) || (backToKw pos (keywordEach kws X.env)).any (·.1.isNone)) = false := by rfl) : PE X (.Call (.Name x p) [] kws pos) (tCallKS sp (kwP pi) (WE W) tk) := by
  obtain ⟨f, fd, F, hm, hk, hb⟩ := C.ex
  refine ⟨fun pins s σ H Q I h => ?_⟩
  refine wpAny_Call_Name_kw (ld_glob I hg hm ?_ hdb)
  refine PySem.W.callWith_KW0 (h₀ := X.base) I.ok.mod.kin hk hall (thn (hkw.run pos pins s σ H _ I h) fun ws s2 ⟨zs, H2, I2, rz, q2⟩ => ⟨I2.kIn, ?_⟩) hpl
  rw [hks]
  exact run_fnkS (us := []) F hr hb (passAt tw σ) I2 .nil rz q2
end
section
variable {K : PySem.W.Frag} {J : Jm} {M : Mm} {env : List Sl} {D : DM} {tr : TA}
/-- by keywords: its error goes where the code wishes -/
theorem evm_callKw {W : FwP} {pi : List Nat} {R : Dt → Mm → Prop} (h : EaM K J M env D tr fun ss M' => W M' (pi.filterMap fun i => ss[i]?) R fun C fs M2 => D.xc C fs M2 env) : EvM K J M env D (tCallKS (CtP K W) (kwP pi) (WE D.xw) tr) R := fun MV0 MV GB B G H σ a x Q q =>
  h MV0 MV GB B G H σ a x _ fun vs ss M' MV' G' H' sg a' rs k =>
    ⟨J, M', MV', G', _, R, _, a'.wf, sva_kw rs, k, fun v d M2 MV2 G2 H2 n2 w2 rd y => q v d M2 MV2 G2 H2 (sg.trans n2) (a'.thenM n2 w2) rd y,
      fun C d vs fs M2 MV2 G2 H2 n2 w2 g rf y => x C d vs fs env MV2 M2 G2 H2 σ (a'.thenM n2 w2) g rf y⟩
end
end Mv

set_option Elab.async false
set_option linter.all false
set_option maxRecDepth 100000
set_option maxHeartbeats 4000000
/-! A def that raises nothing and goes through nothing, called where an error is handled: nothing is asked of the error but that it stands. -/
namespace Mv
open PySem PySem.Spec PyProof.Rows L2
/-- what such a def promises there -/
structure FnC (P : Program) (w : World) (K : PySem.W.Frag) (mg : Str → Option Value) (base : Heap) (k : Nat) (f : Addr) (fd : FuncData) (ps : List Str) (sp : Sp) : Prop where
  ln : ∀ vs H Q E, sp vs H Q E → vs.length = ps.length
  go : ∀ (A : Around) (stk : List PySem.Env) (s : Shared) (H : Hp) (as : Args) (us : List Value) (vs : List V) (Q : VK) (pin : Addr × Obj), L2H.RoomH k A → L2H.PinOk stk H s pin →
    Env0 P w K mg base A stk s H → BindsTo s fd as (ps.zip us) → Vals vs us → sp vs H Q E0 → codeAny (model P w) A (.call (.ref f) as) (CR CX0 stk P w H s Q E0) s
section
variable {P : Program} {w : World} {K : PySem.W.Frag} {mg : Str → Option Value} {base : Heap}
theorem fnC_of {x qual : Str} {st : Stmt} {f : Addr} {fd : FuncData} {N ps : List Str} {k : Nat} {sp : Sp} (F : L2.Fun K x qual st f fd) (S : FnScope N ps (defScope st)) (hn : ∀ vs H Q E, sp vs H Q E → vs.length = ps.length)
    (hb : ∀ (cdv : Value) (A : Around) (stk : List PySem.Env) (s : Shared) (H : Hp) (vs : List V) (Q : VK) (pin : Addr × Obj), L2H.RoomH k (A.deeper (envOfC qual (defScope st) s.heap.objs.size f cdv)) → sp vs H Q E0 →
      ∃ t, PSs (L2H.cxH CX0 P w K mg base N qual (defScope st) f cdv A stk s H E0 pin) (defBody st) t ∧ t { nx := fun _ H' => Q .non H', rt := Q } (L2.start N vs) H) : FnC P w K mg base (k + 1) f fd ps sp := by
  obtain ⟨_, _, _, _, _, _, cdv, _, _, rfl, look, hcode⟩ := F.ex
  refine ⟨hn, fun A stk s H as us vs Q pin room hpin e0 hbind rv hsp => ?_⟩
  have len := hn _ _ _ _ hsp
  have hin : K.In s.heap := e0.mod.kin.keeps fun b o e => (e0.bs b o e).1
  have hlim := e0.mod.nolimit.keeps (h' := s.heap) fun b o e => (e0.bs b o e).1
  have kinds : ∀ y ∈ ps.zip us, (defScope st).names.lookup y.1 = some .local ∨ ((defScope st).names.lookup y.1 = some .cell ∧ ((cellsFrom (s.heap.objs.size + 1) (defScope st).names []).lookup y.1).isSome = true) := by
    rintro ⟨a, b⟩ hy
    exact (S.par a (List.of_mem_zip hy).1).elim .inl fun q => .inr ⟨q, PySem.W.cellsFrom_some _ _ _ (.inl q)⟩
  refine codeAny_call_function room.depth (hin _ _ look) rfl S.co S.gen rfl (PySem.W.codeRec_of hin hcode) (hbind _ _ _ _ (wpAny_newFunctionEnv_cells S.kind kinds fun env e s1 made => ?_))
  subst e
  refine ⟨hlim.keeps made.toInCall.keep, codeAny_func ?_⟩
  obtain ⟨t, hp, ht⟩ := hb cdv A stk s H vs Q pin (room.deeper _) hsp
  refine wpAny_mono (hp.run [] s1 (L2.start N vs) H _ (L2H.inv_startH S hpin e0 len rv made) ht) (fun fl s' out => ?_) fun _ _ z => z
  match fl, out with
  | .ret u, ⟨v, σ2, H2, I2, r2, q2⟩ => exact ⟨v, H2, I2.os, I2.bare, I2.base, I2.hok, r2, q2⟩
  | .next, ⟨σ2, H2, I2, q2⟩ => exact ⟨.non, H2, I2.os, I2.bare, I2.base, I2.hok, rfl, q2⟩
  | .brk, ⟨_, _, _, q2⟩ => exact q2.elim
  | .cont, ⟨_, _, _, q2⟩ => exact q2.elim
theorem ok_ctC {x qual : Str} {st : Stmt} {f : Addr} {fd : FuncData} {N ps : List Str} {k : Nat} {W : Fw} (F : L2.Fun K x qual st f fd) (S : FnScope N ps (defScope st)) (hn : ∀ ss P, W ss P → ss.length = ps.length)
    (hb : ∀ (cdv : Value) (A : Around) (stk : List PySem.Env) (s : Shared) (H : Hp) (pin : Addr × Obj), L2H.RoomH k (A.deeper (envOfC qual (defScope st) s.heap.objs.size f cdv)) →
      ∃ t, PSs (L2H.cxH CX0 P w K mg base N qual (defScope st) f cdv A stk s H E0 pin) (defBody st) t ∧ ∀ J ss P, W ss P → Sv K J (startE N ss) t { nx := fun _ => P .non, rt := P }) : FnC P w K mg base (k + 1) f fd ps (Ct K W) := by
  refine fnC_of F S (fun vs H Q E h => ?_) (fun cdv A stk s H vs Q pin hr h => ?_)
  · obtain ⟨J, G, ss, P, wf, sv, hW, _⟩ := h
    rw [sv.length, hn ss P hW]
  · obtain ⟨J, G, ss, P, wf, sv, hW, q⟩ := h
    obtain ⟨t, hp, ht⟩ := hb cdv A stk s H pin hr
    refine ⟨t, hp, ?_⟩
    exact ht J ss P hW G H G H (L2.start N vs) ⟨wf, wf.nx, en_start sv⟩ _ (fun e G' H' σ' a x => q .non .non G' H' a.nx .non x) (fun _ _ _ _ _ x => x.elim) (fun _ _ _ _ _ x => x.elim) (fun v d G' H' n r x => q v d G' H' n r x) (fun _ _ _ _ _ _ _ _ _ _ x => x.elim) (fun _ _ _ _ _ _ _ _ _ _ _ x => x.elim)
end
/-- a callable one, by its name -/
structure CalC (P : Program) (w : World) (K : PySem.W.Frag) (mg : Str → Option Value) (base : Heap) (k : Nat) (x : Str) (ps : List Str) (sp : Sp) : Prop where
  ex : ∃ f fd, FnC P w K mg base k f fd ps sp ∧ mg x = some (.ref f) ∧ PySem.W.keepIn K (.ref f) = true ∧ Binds K fd ps []
theorem FnC.up {P : Program} {w : World} {K : PySem.W.Frag} {mg : Str → Option Value} {base : Heap} {j k : Nat} {f : Addr} {fd : FuncData} {ps : List Str} {sp : Sp} (F : FnC P w K mg base j f fd ps sp) (h : j ≤ k) : FnC P w K mg base k f fd ps sp :=
  ⟨F.ln, fun A stk s H as us vs Q pin r => F.go A stk s H as us vs Q pin (r.mono h)⟩
theorem CalC.mono {P : Program} {w : World} {K : PySem.W.Frag} {mg : Str → Option Value} {base : Heap} {j k : Nat} {x : Str} {ps : List Str} {sp : Sp} (C : CalC P w K mg base j x ps sp) (h : j ≤ k) : CalC P w K mg base k x ps sp := by
  obtain ⟨f, fd, F, g⟩ := C.ex
  exact ⟨f, fd, F.up h, g⟩
section
variable {X : Cx}
theorem pe_callHot {k : Nat} {x : Str} {ps : List Str} {sp : Sp} {p pos : Pos} {e : Expr} {es : List Expr} {t : TA} (C : CalC X.prog X.w X.K X.mg X.base k x ps sp) (hr : L2H.RoomH k X.A) {pin : Addr × Obj} (hp : pin ∈ X.pn) (hg : Gl X x)
    (ha : PA X (e :: es) t) (hdb : (x == ("__debug__" : Str)) = false := by decide) (he : starEach (e :: es) X.env = (false, eval e X.env) :: starEach es X.env := by rfl) (hpl : (backTo pos (starEach es X.env)).any (·.1) = false := by rfl) :
    PE X (.Call (.Name x p) (e :: es) [] pos) (tCall sp [] E0 t) := by
  obtain ⟨f, fd, F, hm, hk, hb⟩ := C.ex
  refine ⟨fun pins s σ H Q I h => ?_⟩
  refine wpAny_Call_Name_kw (ld_glob I hg hm ?_ hdb)
  refine PySem.W.callWith_K (h₀ := X.base) I.ok.mod.kin hk (thn (ha.run pos pins s σ H _ I h) fun us s1 ⟨vs, H1, I1, r, q⟩ => ⟨I1.kIn, ?_⟩) he hpl
  have q : sp (vs ++ []) H1 Q E0 := q
  rw [List.append_nil] at q
  have hlen : us.length = ps.length := by rw [← r.length]; exact F.ln _ _ _ _ q
  have bnd := hb s1 us I1.kIn (by rw [List.append_nil]; exact hlen)
  rw [List.append_nil] at bnd
  obtain ⟨g1, g2, g3, g4, g5⟩ := I1.pin pin (List.mem_append_left _ hp)
  have pok : L2H.PinOk X.stack H1 s1 pin := ⟨g1, g2, fun z => (List.mem_cons.mp (I1.stkSub pin.1 z)).elim g3 g4, g5⟩
  refine wpAny_call (codeAny_mono (F.go X.A X.stack s1 H1 ⟨us, []⟩ us vs Q pin hr pok I1.env0 bnd r q) fun out s2 hq => ?_)
  match out, hq with
  | .ok (.ret u), hq => exact I1.after hq
  | .ok .next, hq => exact hq.elim
  | .ok .brk, hq => exact hq.elim
  | .ok .cont, hq => exact hq.elim
  | .error e, hq => exact hq.elim
end
section
variable {K : PySem.W.Frag} {J : Jm} {M : Mm} {env : List Sl} {D : DM} {ta : TA}
theorem eim_range2 {R : Mm → List Dt → Mm → Prop} (h : EdM K J M env D ta fun xs M' => ∃ i j : Int, xs = [.int i, .int j] ∧ -1000000 ≤ i ∧ i ≤ 1000000 ∧ -1000000 ≤ j ∧ j ≤ 1000000 ∧ R A0 ((List.range (j - i).toNat).map fun k => Dt.int (i + (k : Nat))) M') : EiM K J M env D (iRng2 ta) R := fun MV0 MV GB B G H σ a x Q q =>
  h MV0 MV GB B G H σ a x _ fun vs xs M' MV' G' H' sg a' r ⟨i, j, e, h0, h1, h2, h3, k⟩ => by
    subst e
    cases r with
    | cons r1 r2 =>
      cases r2 with
      | cons r2 r3 =>
        cases r1
        cases r2
        cases r3
        exact ⟨i, j, rfl, ⟨by omega, by omega, by omega, by omega⟩, q _ A0 _ M' MV' G' H' sg a' ag0 (.of fun _ => wk_range) k⟩
end
end Mv

set_option Elab.async false
set_option linter.all false
set_option maxRecDepth 100000
set_option maxHeartbeats 4000000
/-! Told dicts whose keys are texts, their displays; the tape: a dict of draws as the third kind of hand. -/
namespace Mv
open PySem PySem.Spec PyProof.Rows L2
section
variable {K : PySem.W.Frag} {J : Jm} {env : List Sl}
/-- the tape handed on -/
theorem ea_tap {i : Nat} {tr : TA} {R : List Sl → Prop} (hh : env[i]? = some .tap) (h : Ea K J env tr fun xs => R (.tap :: xs)) : Ea K J env (tCons (tVar i) tr) R := fun B G H σ w E Q q => by
  obtain ⟨ov, a, p, c, b, e⟩ := E.ok i _ hh
  exact ⟨.ref p, by rw [a, b], h B G H σ w E _ fun vs ds G2 H2 n2 rs x => q _ _ G2 H2 n2 (.cons (show Sv1 K J G2 (.ref p) .tap from ⟨p, c, rfl, e⟩) rs) x⟩
end
section
variable {K : PySem.W.Frag} {J : Jm} {MV : Mh} {M : Mm} {env : List Sl} {td tk tv : TE} {D : DM} {R : Dt → Prop}
/-- d["s"] -/
theorem ev_dgetS (h : Ev K (Jt K J MV M) env td fun o => ∃ p kvs, o = .ptr p ∧ M p = some (.dic kvs) ∧ Ev K (Jt K J MV M) env tk fun k => ∃ (s : Str) (x : Dt), k = .str s ∧ getQ kvs (Sum.inr s : Key) = some x ∧ R x) : Ev K (Jt K J MV M) env (tDGet td tk) R :=
  fun B G H σ w E Q q => h B G H σ w E _ fun v o G1 H1 n1 r1 ⟨p, kvs, e1, hM, h2⟩ => by
    subst e1
    cases r1
    refine h2 B G1 H1 σ (n1.wf w) (E.mono n1) _ fun u k G2 H2 n2 r2 ⟨s, x, e2, hx, kx⟩ => ?_
    subst e2
    cases r2
    obtain ⟨vs, _, hH, r⟩ := (n2.wf (n1.wf w)).dicM hM
    obtain ⟨y, h3, h4⟩ := (r.get (n := (Sum.inr s : Key))).1 x hx
    exact ⟨p, y, rfl, .inl ⟨vs, Sum.inr s, .inl hH, rfl, h3.symm⟩, q y x G2 H2 (n1.trans n2) h4 kx⟩
/-- d["s"] = e -/
theorem sm_dputS (h : EvM K J M env D tv fun d M1 => EvM K J M1 env D td fun o M2 => EvM K J M2 env D tk fun k M3 => ∃ (p : Addr) (kvs : List (Key × Dt)) (s : Str), o = .ptr p ∧ M3 p = some (.dic kvs) ∧ k = .str s ∧ kvs.length < 100000 ∧ D.nx (updM M3 p (.dic (putQ kvs (Sum.inr s : Key) d))) env) :
    SvM K J M env (sDPut td tk tv) D := fun MV0 MV GB B G H σ a E r =>
  h MV0 MV GB B G H σ a r.x _ fun v d M1 MV1 G1 H1 n1 a1 rd h2 => h2 MV0 MV1 GB B G1 H1 σ a1 r.x _ fun u o M2 MV2 G2 H2 n2 a2 ro h3 => h3 MV0 MV2 GB B G2 H2 σ a2 r.x _ fun y k M3 MV3 G3 H3 n3 a3 rk ⟨p, kvs, s, e1, hM, e2, hz, hx⟩ => by
    subst e1 e2
    cases ro
    cases rk
    obtain ⟨us, e1, e2, t⟩ := a3.wf.dicM hM
    have n5 := a3.wf.chgN (ho' := .dK (putK us (Sum.inr s : Key) v)) e1
    refine ⟨p, _, rfl, .inl ⟨us, Sum.inr s, e2, rfl, sz_lt (by rw [t.length]; exact hz), rfl⟩, r.nx _ _ env _ _ σ (a3.thenM n5 (a3.wf.chg e1 (.dic (t.put (rd.mono (n2.gg.trans n3.gg)))))) hx⟩
end
/-! ### displays with texts as keys -/
def EpD (K : PySem.W.Frag) (J : Jm) (env : List Sl) : List (TE × TE) → (List (Key × Dt) → Prop) → Prop
  | [], R => R []
  | (tk, tv) :: r, R => Ev K J env tk fun k => ∃ s, k = .str s ∧ Ev K J env tv fun d => EpD K J env r fun l => R ((Sum.inr s, d) :: l)
def mergeQ (l : List (Key × Dt)) : List (Key × Dt) := l.foldl (fun acc kv => putQ acc kv.1 kv.2) []
theorem dq_merge {K : PySem.W.Frag} {G : Hp} : ∀ {more : List (Key × V)} {l : List (Key × Dt)} {vs : List (Key × V)} {ds : List (Key × Dt)}, Dq K G more l → Dq K G vs ds → Dq K G (mergeK vs more) (l.foldl (fun acc kv => putQ acc kv.1 kv.2) ds)
  | _, _, _, _, .nil, h => h
  | _, _, vs, ds, .cons (k := k) (v := v) (vs := more) (d := d) (ds := l) r t, h => by
    show Dq K G (mergeK (putK vs k v) more) (l.foldl (fun acc kv => putQ acc kv.1 kv.2) (putQ ds k d))
    exact dq_merge t (h.put r)
theorem epd_run {K : PySem.W.Frag} {J : Jm} {env : List Sl} : ∀ {trs : List (TE × TE)} {R : List (Key × Dt) → Prop}, EpD K J env trs R → ∀ (B G H : Hp) (σ : L2.St), Wf J G H → En K J B G H σ env → ∀ Q : List (V × V) → Hp → Prop,
    (∀ (kvs : List (Key × V)) (l : List (Key × Dt)) (G' H' : Hp), Nx J G H G' H' → Dq K G' kvs l → R l → Q (kvs.map fun kv => (kV kv.1, kv.2)) H') → tPairs trs σ H Q
  | [], R, h, B, G, H, σ, w, E, Q, q => q [] [] G H w.nx .nil h
  | (tk, tv) :: r, R, h, B, G, H, σ, w, E, Q, q => by
    refine h B G H σ w E _ fun v k G1 H1 n1 r1 ⟨s, e, h2⟩ => ?_
    subst e
    cases r1
    refine h2 B G1 H1 σ (n1.wf w) (E.mono n1) _ fun u d G2 H2 n2 r2 h3 => ?_
    have n12 := n1.trans n2
    refine epd_run h3 B G2 H2 σ (n12.wf w) (E.mono n12) _ fun kvs l G3 H3 n3 rq hl => ?_
    exact q ((Sum.inr s, u) :: kvs) _ G3 H3 (n12.trans n3) (.cons (r2.mono n3.gg) rq) hl
theorem evm_disp {K : PySem.W.Frag} {J : Jm} {M : Mm} {env : List Sl} {D : DM} {trs : List (TE × TE)} {R : Dt → Mm → Prop}
    (h : ∀ p, M p = none → ∀ MV, EpD K (Jt K J MV (updM M p (.dic []))) env trs fun l => l.length ≤ 15 ∧ R (.ptr p) (updM M p (.dic (mergeQ l)))) : EvM K J M env D (tDisp trs) R := fun MV0 MV GB B G H σ a x Q q p hp => by
  have hj : p ∉ J.ms := (not_jt.mp (a.wf.notin hp)).1
  have hM := a.wf.none_ hp
  have n1 := a.wf.newM hp (.dK [])
  have n2 := nxm_put (ho := .dK []) (.inr hp) (NxM.of n1)
  have a2 := a.thenM n2 ((n1.wf a.wf).put hj (a.wf.free hp) upd_same (.dic .nil))
  refine epd_run (h p hM.2 _) B G _ σ a2.wf a2.en _ fun kvs l G3 H3 n3 rq ⟨hz, k⟩ => ?_
  have a3 := a2.then n3
  obtain ⟨us, e1, e2, t⟩ := a3.wf.dicM (updM_same (M := M) (a := p) (o := .dic []))
  cases t
  have n5 := a3.wf.chgN (ho' := .dK (mergeK [] kvs)) e1
  have a5 := a3.thenM n5 (a3.wf.chg (ob' := .dic (mergeQ l)) e1 (.dic (dq_merge rq .nil)))
  rw [updM_updM] at a5
  exact ⟨e2, kvs, rfl, by rw [rq.length]; exact hz, q (.ref p) (.ptr p) _ _ G3 _ (n2.trans ((NxM.of n3).trans n5)) a5 (.ptr _) k⟩
/-! ### the tape -/
def tapeD (c : Addr) (a g l s t : Int) : List (Key × Dt) := [(Sum.inr ("cells" : Str), .ptr c), (Sum.inr ("at" : Str), .int a), (Sum.inr ("great" : Str), .int g), (Sum.inr ("left" : Str), .int l), (Sum.inr ("seed" : Str), .int s), (Sum.inr ("turn" : Str), .int t)]
def W_draw : Fw := fun ss P => ∃ m : Int, ss = [.tap, .d (.int m)] ∧ 0 < m ∧ ∀ x : Int, 0 ≤ x → x < m → P (.int x)
/-- the same, of the tape as a told dict -/
def W_drawM : FwP := fun M ss P _ => ∃ (p c : Addr) (ns : List Int) (a g l s t m : Int), ss = [.d (.ptr p), .d (.int m)] ∧ M p = some (.dic (tapeD c a g l s t)) ∧ M c = some (.lst (ns.map Dt.int)) ∧ p ≠ c ∧ 0 ≤ a ∧ ns.length ≤ 63 ∧ 0 < m ∧
  ∀ x a' g' l' s' t' : Int, 0 ≤ x → x < m → 0 ≤ a' → P (.int x) (updM M p (.dic (tapeD c a' g' l' s' t')))
theorem tape_dq {K : PySem.W.Frag} {G : Hp} {c : Addr} {a g l s t : Int} : Dq K G (tapeV c a g l s t) (tapeD c a g l s t) := .cons (.ptr c) (.cons (.int _) (.cons (.int _) (.cons (.int _) (.cons (.int _) (.cons (.int _) .nil)))))
theorem tape_inv {K : PySem.W.Frag} {G : Hp} {c : Addr} {a g l s t : Int} {us : List (Key × V)} (h : Dq K G us (tapeD c a g l s t)) : us = tapeV c a g l s t := by
  cases h with
  | cons r1 h =>
  cases h with
  | cons r2 h =>
  cases h with
  | cons r3 h =>
  cases h with
  | cons r4 h =>
  cases h with
  | cons r5 h =>
  cases h with
  | cons r6 h =>
  cases h
  cases r1; cases r2; cases r3; cases r4; cases r5; cases r6
  rfl
theorem draw_of {P : Program} {w : World} {K : PySem.W.Frag} {mg : Str → Option Value} {base : Heap} {k : Nat} {f : Addr} {fd : FuncData} {ps : List Str} (F : FnOk P w K mg base (L2.CX P w) k f fd ps (CtP K W_drawM)) : FnOk P w K mg base CX0 k f fd ps (Ct K W_draw) := by
  have conv : ∀ (vs : List V) (H : Hp) (Q : VK) (E : XK), Ct K W_draw vs H Q E → CtP K W_drawM vs H Q E0 := fun vs H Q E h => by
    obtain ⟨J, G, ss, P, wf, sv, ⟨m, e, hm, hP⟩, q⟩ := h
    subst e
    cases sv with
    | cons s1 s2 =>
      cases s2 with
      | cons s2 s3 =>
        cases s3
        obtain ⟨p, c, e1, e2⟩ := s1
        have r2 : Dr K G _ (.int m) := s2
        cases r2
        subst e1
        obtain ⟨ns, a, g, l, s, t, hp, hc, ha, hn⟩ := J.hg _ _ e2 wf.ok
        have hpc : p ≠ c := fun z => by rw [z, hc] at hp; cases hp
        have hms : p ∈ J.ms := J.hm _ e2
        have hG := (wf.ms p hms).1
        let G1 : Hp := fun b => if b = c then none else G b
        have g1 : Same G1 H := fun b o e => by
          show H b = some o
          have e : (if b = c then none else G b) = some o := e
          by_cases hb : b = c
          · rw [if_pos hb] at e; cases e
          · rw [if_neg hb] at e; exact wf.gh b o e
        have g1p : G1 p = none := (if_neg hpc).trans hG
        have g1c : G1 c = none := if_pos rfl
        let MV : Mh := fun b => if b = p then some (.dK (tapeV c a g l s t)) else if b = c then some (.lst (ns.map V.int)) else none
        let M : Mm := fun b => if b = p then some (.dic (tapeD c a g l s t)) else if b = c then some (.lst (ns.map Dt.int)) else none
        have mvp : MV p = some (.dK (tapeV c a g l s t)) := if_pos rfl
        have mvc : MV c = some (.lst (ns.map V.int)) := (if_neg hpc.symm).trans (if_pos rfl)
        have mvn : ∀ b, b ≠ p → b ≠ c → MV b = none := fun b h1 h2 => (if_neg h1).trans (if_neg h2)
        have mp : M p = some (.dic (tapeD c a g l s t)) := if_pos rfl
        have mc : M c = some (.lst (ns.map Dt.int)) := (if_neg hpc.symm).trans (if_pos rfl)
        have mn : ∀ b, b ≠ p → b ≠ c → M b = none := fun b h1 h2 => (if_neg h1).trans (if_neg h2)
        have wj : Wf (Jt K J0 MV M) G1 H := by
          refine ⟨g1, ⟨trivial, fun b _ z => z.elim, fun b o e => ?_⟩, fun b hb => ?_, trivial, fun b => ⟨fun ob e => ?_, fun e => ?_⟩⟩
          · by_cases h1 : b = p
            · rw [h1, mvp] at e; cases e; rw [h1]; exact hp
            · by_cases h2 : b = c
              · rw [h2, mvc] at e; cases e; rw [h2]; exact hc
              · rw [mvn b h1 h2] at e; cases e
          · rcases hb with hb | hb
            · exact hb.elim
            · by_cases h1 : b = p
              · rw [h1, hp]; exact ⟨g1p, by simp⟩
              · by_cases h2 : b = c
                · rw [h2, hc]; exact ⟨g1c, by simp⟩
                · exact absurd (mvn b h1 h2) hb
          · by_cases h1 : b = p
            · rw [h1, mp] at e; cases e; rw [h1]; exact ⟨_, mvp, .dic tape_dq⟩
            · by_cases h2 : b = c
              · rw [h2, mc] at e; cases e; rw [h2]; exact ⟨_, mvc, .lst Da.ints⟩
              · rw [mn b h1 h2] at e; cases e
          · by_cases h1 : b = p
            · rw [h1, mp] at e; cases e
            · by_cases h2 : b = c
              · rw [h2, mc] at e; cases e
              · exact mvn b h1 h2
        refine ⟨J0, M, MV, G1, [.d (.ptr p), .d (.int m)], fun d M2 => ∃ x a' g' l' s' t' : Int, d = .int x ∧ 0 ≤ x ∧ x < m ∧ 0 ≤ a' ∧ M2 = updM M p (.dic (tapeD c a' g' l' s' t')), fun _ _ _ => False, wj, .cons (show Dr K G1 (.ref p) (.ptr p) from .ptr p) (.cons (show Dr K G1 (.int m) (.int m) from .int m) .nil),
          ⟨p, c, ns, a, g, l, s, t, m, rfl, mp, mc, hpc, ha, hn, hm, fun x a' g' l' s' t' h0 h1 h2 => ⟨x, a', g', l', s', t', rfl, h0, h1, h2, rfl⟩⟩, ?_, fun _ _ _ _ _ _ _ _ _ _ _ _ z => z.elim⟩
        rintro v d M' MV' G' H' n w' rd ⟨x, a', g', l', s', t', rfl, h0, h1, h2, rfl⟩
        cases rd
        obtain ⟨us, _, hHp, rq⟩ := w'.dicM (updM_same (M := M) (a := p) (o := .dic (tapeD c a' g' l' s' t')))
        obtain ⟨ws, _, hHc, rl⟩ := w'.lstM (show updM M p (.dic (tapeD c a' g' l' s' t')) c = some (.lst (ns.map Dt.int)) from (updM_ne hpc.symm).trans mc)
        have hHc : H' c = some (.lst (ns.map V.int)) := by rw [hHc, rl.ints_inv]
        have hHp : H' p = some (.dK (tapeV c a' g' l' s' t')) := by rw [hHp, tape_inv rq]
        have kp : ∀ b o, H b = some o → b ≠ p → H' b = some o := fun b o e hb => by
          by_cases h2 : b = c
          · rw [h2, hc] at e; cases e; rw [h2]; exact hHc
          · exact n.kp b o e (fun z => z.elim) (mvn b hb h2)
        refine q (.int x) (.int x) G H' ⟨Same.refl _, fun b o e => ?_, fun b h _ => h, fun b o e hb => kp b o e fun z => hb (by rw [z]; exact hms), n.th, ?_⟩ (.int x) (hP x h0 h1)
        · exact kp b o (wf.gh b o e) (fun z => by rw [z, hG] at e; cases e)
        · refine J.hp _ _ _ e2 wf.ok ⟨ns, a', g', l', s', t', hHp, hHc, h2, hn⟩ fun b hb hne => ?_
          have hb' : b ≠ p := hne
          cases e : H b with
          | none => exact absurd e (wf.ms b hb).2
          | some o => exact kp b o e hb'
  refine ⟨fun vs H Q E h => F.len vs H Q E0 (conv vs H Q E h), fun A outer s H as us vs Q E hr e0 hb hv h => ?_⟩
  refine codeAny_mono (F.run A outer s H as us vs Q E0 hr e0 hb hv (conv vs H Q E h)) fun r s' hq => ?_
  cases r with
  | ok fl => cases fl <;> exact hq
  | error e =>
    obtain ⟨_, _, _, _, _, _, _, _, _, _, _, _, z⟩ := (show L2.CX P w outer H s E0 e s' from hq)
    exact z.elim
/-- the jm of a law that has a tape -/
def JT (p c : Addr) : Jm where
  ms := fun b => b = p ∨ b = c
  ok := TapeAt p c
  st := fun H H' ⟨ns, a, g, l, s, t, h1, h2, h3⟩ k => ⟨ns, a, g, l, s, t, by rw [k p (.inl rfl)]; exact h1, by rw [k c (.inr rfl)]; exact h2, h3⟩
  hd := some (.tap p c)
  hm := fun k e => by cases e; exact .inl rfl
  hg := fun k H e o => by cases e; exact o
  hp := fun k H H' e o o' _ => by cases e; exact o'
  tr := fun _ => True
  trm := fun _ _ _ _ => trivial
/-- the maker of a tape -/
def spTape (K : PySem.W.Frag) : Sp := fun vs H Q _ => ∃ (x : Addr) (ns : List Int), vs = [.ref x] ∧ SqL K H x (ns.map V.int) ∧ ns.length ≤ 63 ∧ ∀ (p c : Addr) (H' : Hp), p ≠ c → H p = none → H c = none → H' p = some (.dK (tapeV c 0 0 0 7 0)) → H' c = some (.lst (ns.map V.int)) → (∀ b, b ≠ p → b ≠ c → H' b = H b) → Q (.ref p) H'
section
variable {P : Program} {w : World} {K : PySem.W.Frag} {mg : Str → Option Value} {base : Heap}
theorem En.setT {J : Jm} {B G H : Hp} {σ : L2.St} {env : List Sl} (E : En K J B G H σ env) {i : Nat} {p c : Addr} (hd : J.hd = some (.tap p c)) : En K J B G H (σ.set i (some (.ref p))) (env.set i .tap) := by
  have e0 := E.setN (i := i) (ov := some (.ref p))
  refine ⟨by simp [E.len], fun k s hk => ?_, fun k j q hne hk hj => ?_⟩
  · by_cases e : i = k
    · subst e
      have hi : i < env.length := by
        have := (List.getElem?_eq_some_iff.mp hk).1
        simpa using this
      rw [List.getElem?_set_self hi] at hk
      cases hk
      exact ⟨_, by rw [List.getElem?_set_self (by rw [E.len]; exact hi)], p, c, rfl, hd⟩
    · exact e0.ok k s (by rw [List.getElem?_set_ne e] at hk ⊢; exact hk)
  · have conv : ∀ z : Nat, (∃ xs : List Dt, (env.set i .tap)[z]? = some (Sl.ml xs)) → ∃ xs : List Dt, (env.set i .no)[z]? = some (Sl.ml xs) := fun z hz0 => by
      obtain ⟨xs, hz⟩ := hz0
      by_cases e : i = z
      · subst e
        have hi : i < env.length := by
          have := (List.getElem?_eq_some_iff.mp hz).1
          simpa using this
        rw [List.getElem?_set_self hi] at hz
        cases hz
      · exact ⟨xs, by rw [List.getElem?_set_ne e] at hz ⊢; exact hz⟩
    exact e0.ap k j q hne (conv k hk) (conv j hj)
theorem ok_lwT {x qual : Str} {st : Stmt} {f : Addr} {fd : FuncData} {N : List Str} {k : Nat} (F : L2.Fun K x qual st f fd) (S : FnScope N ["script"] (defScope st)) (hN : 1 < N.length)
    (hb : ∀ (cdv : Value) (A : Around) (outer : List PySem.Env) (s : Shared) (H : Hp) (E : XK), Room k (A.deeper (envOfC qual (defScope st) s.heap.objs.size f cdv)) →
      ∃ t, PSs (cxOf CX0 P w K mg base N qual (defScope st) f cdv A outer s H E).nox (defBody st) (tSeq (tAsg (tCall (spTape K) [] E0 (tCons (tVar 0) tNil)) (gName 1)) t) ∧
        ∀ (ns : List Int) (p c : Addr), SvM K (JT p c) Mn ((startE N [.d (.lst (ns.map Dt.int))]).set 1 .tap) t { nx := fun _ _ => False, rt := fun d _ => d = .bl true }) :
    FnOk P w K mg base CX0 (k + 1) f fd ["script"] (spLaw K) := by
  refine F.ok S (fun vs H Q E h => ?_) (fun cdv A outer s H vs Q E hr h => ?_)
  · obtain ⟨a, ns, rfl, _⟩ := h
    rfl
  · obtain ⟨a, ns, rfl, hS, hl, q⟩ := h
    obtain ⟨t, hp, ht⟩ := hb cdv A outer s H E hr
    refine ⟨_, hp, ?_⟩
    have sv : SvA K J0 H [.ref a] [.d (.lst (ns.map Dt.int))] := .cons (show Dr K H (.ref a) (.lst (ns.map Dt.int)) from .lst hS Da.ints) .nil
    refine ⟨.ref a, by unfold L2.start; rfl, ?_⟩
    show spTape K [.ref a] H (fun x H1 => t { nx := fun x H' => Q V.non H', rt := Q } ((L2.start N [V.ref a]).set 1 (some x)) H1) E0
    refine ⟨a, ns, rfl, hS, hl, fun p c H' hpc hp hc h1 h2 hk => ?_⟩
    have hd : (JT p c).hd = some (.tap p c) := rfl
    have sv : SvA K (JT p c) H [.ref a] [.d (.lst (ns.map Dt.int))] := .cons (show Dr K H (.ref a) (.lst (ns.map Dt.int)) from .lst hS Da.ints) .nil
    have en1 := (en_start (K := K) (J := JT p c) (G := H) (H := H') (N := N) sv).setT (i := 1) hd
    have keep : ∀ b o, H b = some o → H' b = some o := fun b o e => (hk b (fun z => by rw [z, hp] at e; cases e) (fun z => by rw [z, hc] at e; cases e)).trans e
    have wf : Wf (JT p c) H H' := ⟨keep, ⟨ns, 0, 0, 0, 7, 0, h1, h2, Int.le_refl _, hl⟩, fun m hm => by
      rcases hm with hm | hm
      · rw [hm, h1]; exact ⟨hp, by simp⟩
      · rw [hm, h2]; exact ⟨hc, by simp⟩, trivial⟩
    refine ht ns p c MVn MVn H H' H H' _ ⟨wfN wf, nxN wf.nx, ?_⟩ _ ⟨fun _ _ _ _ _ _ _ x => x.elim, fun _ _ _ _ _ _ _ x => x.elim, fun _ _ _ _ _ _ _ x => x.elim, fun v d M' MV' G' H2 n w' r x => ?_, fun _ _ _ _ _ _ _ _ _ _ _ _ _ x => x.elim⟩
    · exact ⟨en1.len, fun i s hs => let ⟨ov, x, y⟩ := en1.ok i s hs; ⟨ov, x, y.toM⟩, en1.ap⟩
    · have x : d = .bl true := x
      subst x
      cases r
      exact q H2
end
end Mv

set_option Elab.async false
set_option linter.all false
set_option maxRecDepth 100000
set_option maxHeartbeats 4000000
/-! sorted of a list of tuples (some order of it); repr of an int. -/
namespace Mv
open PySem PySem.Spec PyProof.Rows L2
def rReprI : List V → Hp → VK → Prop := fun xs H Q => ∃ i : Int, xs = [.int i] ∧ i.natAbs.log2 < 1920 ∧ Q (.str (toString i : String)) H
theorem c_reprI {X : Cx} : CallR X (.builtin "repr") rReprI := SkE.call_repr_int
theorem oc_reprI {K : PySem.W.Frag} {J : Jm} {R : Dt → Prop} {i : Int} (hz : i.natAbs ≤ 100000) (h : R (.str (Str.ofString (toString i)))) : Oc K J rReprI [.int i] R := fun G H vs w rs Q q => by
  cases rs with
  | cons r1 r2 =>
    cases r2
    cases r1
    refine ⟨i, rfl, ?_, q _ _ G H w.nx (.str _) h⟩
    by_cases h0 : i.natAbs = 0
    · rw [h0]; decide
    · have := Nat.log2_self_le h0
      by_cases h4 : i.natAbs.log2 < 20
      · omega
      · have : 2 ^ 20 ≤ 2 ^ i.natAbs.log2 := Nat.pow_le_pow_right (by decide) (by omega)
        have e : (2 : Nat) ^ 20 = 1048576 := by decide
        omega
/-- sorted(xs), xs a list of data that can be sorted -/
def rSortedP (K : PySem.W.Frag) : List V → Hp → VK → Prop := fun xs H Q => ∃ (a : Addr) (bs : List (V × Dt)), xs = [.ref a] ∧ SqL K H a (bs.map Prod.fst) ∧ (∀ b ∈ bs, Dp K H b.1 (pyD b.2)) ∧ PySem.W.AllAlike (bs.map fun b => pyD b.2) ∧ PySem.W.Sortable (bs.map fun b => pyD b.2) ∧ (∀ b ∈ bs, (pyD b.2).depth ≤ 60) ∧
  ∀ (bs' : List (V × Dt)) (p : Addr), bs'.Perm bs → H p = none → Q (.ref p) (upd H p (.lst (bs'.map Prod.fst)))
theorem each_of {X : Cx} {pins : List (Addr × Obj)} {σ : L2.St} {H : Hp} {s : Shared} (I : Inv X pins σ H s) : ∀ {bs : List (V × Dt)} {its : List Value}, Vals (bs.map Prod.fst) its → (∀ b ∈ bs, Dp X.K H b.1 (pyD b.2)) →
    PySem.W.EachIs (fun (u : Value) (b : V × Dt) => RelV b.1 u) its bs ∧ PySem.W.EachIs (fun (u : Value) (b : V × Dt) => ∃ as, Reads s.heap u (pyD b.2) as) its bs
  | [], _, r, _ => by cases r; exact ⟨.nil, .nil⟩
  | b :: bs, _, r, h => by
    cases r with
    | cons r1 r2 =>
      obtain ⟨k1, k2⟩ := each_of I r2 fun x hx => h x (List.mem_cons_of_mem _ hx)
      exact ⟨.cons r1 k1, .cons (Dp.reads I _ _ _ (h b List.mem_cons_self) r1) k2⟩
theorem vals_each : ∀ {bs : List (V × Dt)} {its : List Value}, PySem.W.EachIs (fun (u : Value) (b : V × Dt) => RelV b.1 u) its bs → Vals (bs.map Prod.fst) its
  | _, _, .nil => .nil
  | _, _, .cons h t => .cons h (vals_each t)
theorem cr_sortedPK (K : PySem.W.Frag) {X : Cx} (hu : X.A.units + 64 < cLine) (hk : X.K = K := by rfl) : CallR X (.builtin "sorted") (rSortedP K) := by
  subst hk
  intro pins s σ H vs us Q I r h
  obtain ⟨a, bs, rfl, hs, hd, hal, hso, hdp, q⟩ := h
  obtain ⟨its, rv, hl, hz⟩ := I.list hs
  rw [Vals.ref1 r]
  obtain ⟨e1, e2⟩ := each_of I rv hd
  refine PySem.W.sorted_data (enc := fun b : V × Dt => pyD b.2) hl.isList e1 e2 hal hso (by rw [← e1.length, ← rv.length]; exact hz) (fun b hb => by have := hdp b hb; omega) fun out hlen hout => ?_
  have hp : (bs.mergeSort (PySem.W.dataLe false fun b : V × Dt => pyD b.2)).Perm bs := List.mergeSort_perm _ _
  obtain ⟨ep, he'⟩ := PyProof.Rows.sortedAll_at s.heap its out.toArray
  have hlen2 : ((bs.mergeSort (PySem.W.dataLe false fun b : V × Dt => pyD b.2)).map Prod.fst).length ≤ sizeLine := by
    rw [List.length_map, hp.length_eq]
    rw [List.length_map] at hz
    exact hz
  exact ⟨.ref _, upd H (s.heap.objs.size + 1) (.lst ((bs.mergeSort (PySem.W.dataLe false fun b : V × Dt => pyD b.2)).map Prod.fst)), I.laid (t' := s.toks) (fun _ _ => PyProof.Rows.sortedAll_old) (Nat.le_succ _) ⟨hlen2, out, ep, vals_each hout, he'⟩, rfl, q _ _ hp (I.hok.fresh (Nat.le_succ _))⟩
theorem da_zip {K : PySem.W.Frag} {G : Hp} : ∀ {vs : List V} {ds : List Dt}, Da K G vs ds → (vs.zip ds).map Prod.fst = vs ∧ (vs.zip ds).map Prod.snd = ds ∧ ∀ b ∈ vs.zip ds, Dr K G b.1 b.2
  | _, _, .nil => ⟨rfl, rfl, fun b h => (nomatch h)⟩
  | _, _, .cons (v := v) (d := d) r t => by
    obtain ⟨h1, h2, h3⟩ := da_zip t
    refine ⟨by rw [List.zip_cons_cons, List.map_cons, h1], by rw [List.zip_cons_cons, List.map_cons, h2], fun b hb => ?_⟩
    rcases List.mem_cons.mp hb with rfl | hb
    · exact r
    · exact h3 b hb
theorem da_pairs {K : PySem.W.Frag} {G : Hp} : ∀ {bs : List (V × Dt)}, (∀ b ∈ bs, Dr K G b.1 b.2) → Da K G (bs.map Prod.fst) (bs.map Prod.snd)
  | [], _ => .nil
  | b :: bs, h => .cons (h b List.mem_cons_self) (da_pairs fun x hx => h x (List.mem_cons_of_mem _ hx))
theorem oc_sortedP {K : PySem.W.Frag} {J : Jm} {R : Dt → Prop} {ds : List Dt} (hpl : plainDs ds = true) (hal : PySem.W.AllAlike (ds.map pyD)) (hso : PySem.W.Sortable (ds.map pyD)) (hdp : ∀ d ∈ ds, (pyD d).depth ≤ 60) (h : ∀ ds' : List Dt, ds'.Perm ds → R (.lst ds')) : Oc K J (rSortedP K) [.lst ds] R := fun G H vs w rs Q q => by
  cases rs with
  | cons r1 r2 =>
    cases r2
    cases r1 with
    | @lst a us _ s t =>
      obtain ⟨h1, h2, h3⟩ := da_zip t
      have e : ((us.zip ds).map fun b => pyD b.2) = ds.map pyD := by
        have h4 := congrArg (List.map pyD) h2
        rw [List.map_map] at h4
        exact h4
      have hmem : ∀ b ∈ us.zip ds, b.2 ∈ ds := fun b hb => by rw [← h2]; exact List.mem_map.mpr ⟨b, hb, rfl⟩
      refine ⟨a, us.zip ds, rfl, by rw [h1]; exact same_l w.gh s, fun b hb => dp_of w.gh (h3 b hb) (plainDs_iff.mp hpl _ (hmem b hb)), by rw [e]; exact hal, by rw [e]; exact hso, fun b hb => hdp _ (hmem b hb), fun bs' p hp hpn => ?_⟩
      have n2 := w.new hpn (.lst (bs'.map Prod.fst))
      have hda := da_pairs (K := K) (G := G) (bs := bs') fun b hb => h3 b (hp.mem_iff.mp hb)
      refine q (.ref p) (.lst (bs'.map Prod.snd)) _ _ n2 (.lst (.inl (.inl upd_same)) (hda.mono n2.gg)) (h _ ?_)
      have := hp.map Prod.snd
      rw [h2] at this
      exact this
theorem c_anyK (K : PySem.W.Frag) {X : Cx} (hc : X.calm = true := by rfl) (h : X.K = K := by rfl) : CallR X (.builtin "any") (rAny K) := h ▸ cr_any hc
theorem oc_any {K : PySem.W.Frag} {J : Jm} {R : Dt → Prop} {bs : List Bool} (h : R (.bl (bs.any id))) : Oc K J (rAny K) [.lst (bs.map Dt.bl)] R := fun G H vs w rs Q q => by
  cases rs with
  | cons r1 r2 =>
    cases r2
    cases r1 with
    | lst s t =>
      have e := bools_inv t
      subst e
      exact ⟨_, bs, rfl, same_l w.gh s, q _ _ G H w.nx (.bl _) h⟩
/-- tuple(range(n)) -/
theorem ev_tupRg {K : PySem.W.Frag} {J : Jm} {env : List Sl} {te : TE} {R : Dt → Prop} (h : Ev K J env te fun x => ∃ n : Nat, x = .int (n : Int) ∧ n ≤ 100000 ∧ R (.tup ((List.range n).map fun i => Dt.int (i : Nat)))) : Ev K J env (tTupRg (tRg1 te)) R := fun B G H σ w E Q q =>
  h B G H σ w E _ fun v x G1 H1 n1 r1 ⟨n, e, hn, k⟩ => by
    subst e
    cases r1
    refine ⟨_, rfl, RgOk.of_le (Int.le_refl _) (by omega) (by decide) (by omega), fun p hp => ?_⟩
    have n2 := (n1.wf w).new hp (.tup (rgV 0 (n : Int)))
    have e : rgV 0 (n : Int) = ((List.range n).map fun i => ((i : Nat) : Int)).map V.int := by
      unfold rgV
      rw [show ((n : Int) - 0).toNat = n by omega, List.map_map]
      exact List.map_congr_left fun i _ => by rw [Int.zero_add]; rfl
    have e2 : (List.range n).map (fun i => Dt.int ((i : Nat) : Int)) = ((List.range n).map fun i => ((i : Nat) : Int)).map Dt.int := by rw [List.map_map]; rfl
    refine q (.ref p) _ _ _ (n1.trans n2) (.tup (.inl (.inl upd_same)) ?_) k
    rw [e, e2]
    exact Da.ints
end Mv

set_option Elab.async false
set_option linter.all false
set_option maxRecDepth 100000
set_option maxHeartbeats 4000000
/-! repr of lists and tuples: a def's promise that knows that no guard stands (FnG), its end. -/
namespace Mv
open PySem PySem.Spec PyProof.Rows L2
/-- what a def promises where no guard of repr stands -/
structure FnG (P : Program) (w : World) (K : PySem.W.Frag) (mg : Str → Option Value) (base : Heap) (k : Nat) (f : Addr) (fd : FuncData) (ps : List Str) (sp : Sp) : Prop where
  ln : ∀ vs H Q E, sp vs H Q E → vs.length = ps.length
  go : ∀ (A : Around) (stk : List PySem.Env) (s : Shared) (H : Hp) (as : Args) (us : List Value) (vs : List V) (Q : VK) (E : XK), Room k A → A.guards = some [] →
    Env0 P w K mg base A stk s H → BindsTo s fd as (ps.zip us) → Vals vs us → sp vs H Q E → codeAny (model P w) A (.call (.ref f) as) (CR CX0 stk P w H s Q E) s
section
variable {P : Program} {w : World} {K : PySem.W.Frag} {mg : Str → Option Value} {base : Heap}
theorem fnG_of {x qual : Str} {st : Stmt} {f : Addr} {fd : FuncData} {N ps : List Str} {k : Nat} {sp : Sp} (F : L2.Fun K x qual st f fd) (S : FnScope N ps (defScope st)) (hn : ∀ vs H Q E, sp vs H Q E → vs.length = ps.length)
    (hb : ∀ (cdv : Value) (A : Around) (stk : List PySem.Env) (s : Shared) (H : Hp) (vs : List V) (Q : VK) (E : XK), Room k (A.deeper (envOfC qual (defScope st) s.heap.objs.size f cdv)) → (A.deeper (envOfC qual (defScope st) s.heap.objs.size f cdv)).guards = some [] → sp vs H Q E →
      ∃ t, PSs (cxOf CX0 P w K mg base N qual (defScope st) f cdv A stk s H E).nox (defBody st) t ∧ t { nx := fun _ H' => Q .non H', rt := Q } (L2.start N vs) H) : FnG P w K mg base (k + 1) f fd ps sp := by
  obtain ⟨_, _, _, _, _, _, cdv, _, _, rfl, look, hcode⟩ := F.ex
  refine ⟨hn, fun A stk s H as us vs Q E room hguard e0 hbind rv hsp => ?_⟩
  have len := hn _ _ _ _ hsp
  have hin : K.In s.heap := e0.mod.kin.keeps fun b o e => (e0.bs b o e).1
  have hlim := e0.mod.nolimit.keeps (h' := s.heap) fun b o e => (e0.bs b o e).1
  have kinds : ∀ y ∈ ps.zip us, (defScope st).names.lookup y.1 = some .local ∨ ((defScope st).names.lookup y.1 = some .cell ∧ ((cellsFrom (s.heap.objs.size + 1) (defScope st).names []).lookup y.1).isSome = true) := by
    rintro ⟨a, b⟩ hy
    exact (S.par a (List.of_mem_zip hy).1).elim .inl fun q => .inr ⟨q, PySem.W.cellsFrom_some _ _ _ (.inl q)⟩
  refine codeAny_call_function room.depth (hin _ _ look) rfl S.co S.gen rfl (PySem.W.codeRec_of hin hcode) (hbind _ _ _ _ (wpAny_newFunctionEnv_cells S.kind kinds fun env e s1 made => ?_))
  subst e
  refine ⟨hlim.keeps made.toInCall.keep, codeAny_func ?_⟩
  obtain ⟨t, hp, ht⟩ := hb cdv A stk s H vs Q E (room.deeper _) hguard hsp
  refine wpAny_mono (hp.nox.run [] s1 (L2.start N vs) H _ (inv_start S room.hd e0 len rv made) ht) (fun fl s' out => ?_) fun _ _ z => z
  match fl, out with
  | .ret u, ⟨v, σ2, H2, I2, r2, q2⟩ => exact ⟨v, H2, I2.os, I2.bare, I2.base, I2.hok, r2, q2⟩
  | .next, ⟨σ2, H2, I2, q2⟩ => exact ⟨.non, H2, I2.os, I2.bare, I2.base, I2.hok, rfl, q2⟩
  | .brk, ⟨_, _, _, q2⟩ => exact q2.elim
  | .cont, ⟨_, _, _, q2⟩ => exact q2.elim
end
/-! repr -/
def rReprT (K : PySem.W.Frag) : List V → Hp → VK → Prop := fun xs H Q => ∃ (a : Addr) (d : PyData), xs = [.ref a] ∧ Dp K H (.ref a) d ∧ d.showable = true ∧ d.hasDict = false ∧ d.depth ≤ 60 ∧ d.shown.length ≤ sizeLine ∧ Q (.str d.shown) H
theorem cr_reprTK (K : PySem.W.Frag) {X : Cx} (hg : X.A.guards = some []) (hu : X.A.units + 64 < cLine) (hk : X.K = K := by rfl) : CallR X (.builtin "repr") (rReprT K) := by
  subst hk
  intro pins s σ H vs us Q I r h
  obtain ⟨a, d, rfl, hd, h1, h2, h3, h4, q⟩ := h
  rw [Vals.ref1 r]
  obtain ⟨as, rd⟩ := Dp.reads I _ _ _ hd (show RelV (.ref a) (.ref a) from rfl)
  exact repr_of_reads' rd h1 (PyData.noDict_hsm h2) hg (by omega) (fun _ _ e => e) (fun h' u tk hk => ⟨.str d.shown, H, I.kept hk, ⟨_, rfl⟩, q⟩) h4
theorem oc_reprT {K : PySem.W.Frag} {J : Jm} {R : Dt → Prop} {d : Dt} {ds : List Dt} (hd : d = .tup ds ∨ d = .lst ds) (hpl : plainD d = true) (hs : (pyD d).showable = true) (hn : (pyD d).hasDict = false) (hdp : (pyD d).depth ≤ 60) (hz : (pyD d).shown.length ≤ sizeLine) (h : R (.str (pyD d).shown)) : Oc K J (rReprT K) [d] R := fun G H vs w rs Q q => by
  cases rs with
  | cons r1 r2 =>
    cases r2
    have hdp2 := dp_of w.gh r1 hpl
    rcases hd with rfl | rfl
    · cases r1 with
      | tup s t => exact ⟨_, _, rfl, hdp2, hs, hn, hdp, hz, q _ _ G H w.nx (.str _) h⟩
    · cases r1 with
      | lst s t => exact ⟨_, _, rfl, hdp2, hs, hn, hdp, hz, q _ _ G H w.nx (.str _) h⟩
/-! the end -/
/-- the script tracked as a list that none changes, unless it is one of the module's own -/
def hpS (K : PySem.W.Frag) (a : Addr) (vs : List Value) (ns : List Int) : Hp := fun b => if b = a ∧ K.lookup a = none then some (.frz { cls := .type "list", data := .seq vs.toArray } (.lst (ns.map V.int))) else none
section
variable {P : Program} {w : World} {K : PySem.W.Frag} {mg mb : Str → Option Value}
theorem hpS_some {a b : Addr} {vs : List Value} {ns : List Int} (h : hpS K a vs ns b ≠ none) : b = a ∧ K.lookup a = none := by
  unfold hpS at h
  by_cases q : b = a ∧ K.lookup a = none
  · exact q
  · rw [if_neg q] at h; exact absurd rfl h
theorem hpS_at {a : Addr} {vs : List Value} {ns : List Int} (h : K.lookup a = none) : hpS K a vs ns a = some (.frz { cls := .type "list", data := .seq vs.toArray } (.lst (ns.map V.int))) := if_pos ⟨rfl, h⟩
theorem law_goG {k : Nat} {fa a : Addr} {fd : FuncData} {x : Str} {sp : Sp} {s : Shared} {vs : List Value} {ns : List Int} (KX : K.In s.heap) (hG : s.heap.Ns mainGlobals mg) (hB : s.heap.Ns builtinsNs mb) (hBb : ∀ x : Str, x ≠ "__name__" → mb x = bootBuiltins x)
    (hlim : s.heap.NoLimit) (hg : s.gens = #[]) (ha : s.heap.get? a = some { cls := .type "list", data := .seq vs.toArray }) (hi : IntsAre vs ns) (hl : ns.length ≤ sizeLine) (hr : Room k callerA)
    (F : ∀ base : Heap, K.In base → base.Ns mainGlobals mg → FnG P w K mg base k fa fd [x] sp) (hbind : ∀ (s : Shared) (u : Value), BindsTo s fd ⟨[u], []⟩ [(x, u)])
    (hsp : ∀ H : Hp, SqL K H a (ns.map V.int) → sp [.ref a] H (fun v _ => v = .bl true) E0) :
    codeAny (model P w) callerA (.call (.ref fa) ⟨[.ref a], []⟩) (fun r s' => r = .ok (.ret (.bool true)) ∧ OldK s.heap s'.heap ∧ s'.os = s.os ∧ AllBare s'.gens) s := by
  have rv := vals_ints hi
  have lenV := hi.length
  have only : ∀ b o, s.heap.get? b = some o → (b = a → K.lookup a = none → False) → (hidT s.heap (hpS K a vs ns)).get? b = some o := fun b o e hn => hidT_get e (by
    cases q : hpS K a vs ns b with
    | none => rfl
    | some u =>
      obtain ⟨h1, h2⟩ := hpS_some (K := K) (a := a) (b := b) (vs := vs) (ns := ns) (by rw [q]; simp)
      exact (hn h1 h2).elim)
  have keepD : ∀ (b : Addr) (m : Str → Option Value), s.heap.Ns b m → (hidT s.heap (hpS K a vs ns)).Ns b m := fun b m ⟨o, es, ep, e, d, r⟩ => ⟨o, es, ep, only b o e (fun h1 _ => by
    subst h1
    rw [ha] at e
    cases e
    cases (show Data.seq vs.toArray _ = Data.dict es ep from d)), d, r⟩
  have hin : K.In (hidT s.heap (hpS K a vs ns)) := fun b o e => only b o (KX b o e) fun h1 h2 => by
    subst h1
    rw [h2] at e
    cases e
  have hok : HOk P w (hpS K a vs ns) s.heap := fun b u e => by
    obtain ⟨h1, h2⟩ := hpS_some (K := K) (a := a) (b := b) (vs := vs) (ns := ns) (by rw [e]; simp)
    subst h1
    rw [hpS_at h2] at e
    cases e
    exact ⟨ha, by rw [List.length_map]; exact hl, vs, _, rv, ha⟩
  have sq : SqL K (hpS K a vs ns) a (ns.map V.int) := by
    cases hk : K.lookup a with
    | some o =>
      have e := KX a o hk
      rw [ha] at e
      cases e
      exact .inr ⟨_, vs.toArray, _, hk, rfl, rfl, rfl, by rw [List.size_toArray, lenV]; exact hl, by simpa using rv⟩
    | none => exact .inl (.inr ⟨_, hpS_at hk⟩)
  obtain ⟨mc, l1, l2⟩ := hlim
  have e0 : Env0 P w K mg (hidT s.heap (hpS K a vs ns)) callerA [] s (hpS K a vs ns) :=
    ⟨rfl, ⟨hin, keepD _ _ hG, ⟨mb, keepD _ _ hB, hBb⟩, ⟨mc, keepD _ _ l1, l2⟩⟩, fun b o e => of_hidT e, Nat.le_of_eq (hidT_size _ _), trivial, fun b hb => (by cases (show b ∈ ([] : List Addr) from hb)), hok, .of_eq hg⟩
  refine codeAny_mono ((F _ hin (keepD _ _ hG)).go callerA [] s _ ⟨[.ref a], []⟩ [.ref a] [.ref a] _ E0 hr rfl e0 (hbind s (.ref a)) (.cons rfl .nil) (hsp _ sq)) fun r s' out => ?_
  match r, out with
  | .ok (.ret u), ⟨v, H', os, bare, un, hok', r', q⟩ =>
    have q : v = .bl true := q
    subst q
    obtain rfl : u = Value.bool true := r'
    refine ⟨rfl, OldK.of_keep fun b o e => ?_, os, bare⟩
    cases hq : hpS K a vs ns b with
    | none => exact un.keep b o e hq (fun z => by cases (show b ∈ ([] : List Addr) from z)) (by simp)
    | some u =>
      obtain ⟨h1, h2⟩ := hpS_some (K := K) (a := a) (b := b) (vs := vs) (ns := ns) (by rw [hq]; simp)
      subst h1
      have later := un.frzs b _ _ (hpS_at h2)
      rw [ha] at e
      cases e
      exact (hok' b _ later).1
  | .ok .next, z => exact z.elim
  | .ok .brk, z => exact z.elim
  | .ok .cont, z => exact z.elim
  | .error e, z => exact z.elim
end
theorem walk_ofG {l : PySem.W.OpenLaw} {n k : Nat} {q : Program} {loose : List Str} {XP : (Str → Option Value) → Heap → Prop} {YP : World → Heap → Prop} {d : DefRec} {K : Params → PySem.W.Frag} {sp : World → Sp} {x : Str} (hn : l.most = some n) (hn2 : n ≤ sizeLine)
    (hdf : d.params.defaults = []) (hr : Room k callerA) (hY : ∀ (w : World) (h : Heap), YP w h → (K w.params).In h)
    (F : ∀ (w : World) (mg : Str → Option Value) (fa : Addr) (h : Heap), (K w.params).In h → h.Ns mainGlobals mg → mg d.name = some (.ref fa) →
      ∃ fd : FuncData, (∀ (s : Shared) (u : Value), BindsTo s fd ⟨[u], []⟩ [(x, u)]) ∧ ∀ base : Heap, (K w.params).In base → base.Ns mainGlobals mg → FnG l.prog w (K w.params) mg base k fa fd [x] (sp w))
    (hsp : ∀ (w : World) (H : Hp) (a : Addr) (ns : List Int), ns.length ≤ n → SqL (K w.params) H a (ns.map V.int) → sp w [.ref a] H (fun v _ => v = .bl true) E0) :
    PySem.W.WalkO q loose XP YP l.row.toRowW d [] (fun f vs => PySem.call f vs) := by
  refine Att.attach_call hn hdf fun w s₀ s₁ mg mb fa o pm cd doc a vs ns G Y ho hd hcd hmg hobj hints hlen hg => ?_
  obtain ⟨fd, hb, hF⟩ := F w mg fa _ (hY w _ Y) G.T.g hmg
  exact law_goG (hY w _ Y) G.T.g G.T.b G.T.builtins G.T.nolimit hg hobj hints (Nat.le_trans hlen hn2) hr hF hb fun H hS => hsp w H a ns hlen hS
section
variable {P : Program} {w : World} {K : PySem.W.Frag} {mg : Str → Option Value} {base : Heap}
theorem tape_start {N : List Str} {t : TS} {a : Addr} {ns : List Int} {H : Hp} {Q : VK} (hN : 1 < N.length) (hS : SqL K H a (ns.map V.int)) (hl : ns.length ≤ 63) (q : ∀ H', Q (.bl true) H')
    (ht : ∀ (ns : List Int) (p c : Addr), SvM K (JT p c) Mn ((startE N [.d (.lst (ns.map Dt.int))]).set 1 .tap) t { nx := fun _ _ => False, rt := fun d _ => d = .bl true }) :
    tSeq (tAsg (tCall (spTape K) [] E0 (tCons (tVar 0) tNil)) (gName 1)) t { nx := fun _ H' => Q .non H', rt := Q } (L2.start N [.ref a]) H := by
  refine ⟨.ref a, by unfold L2.start; rfl, ?_⟩
  show spTape K [.ref a] H (fun x H1 => t { nx := fun x H' => Q V.non H', rt := Q } ((L2.start N [V.ref a]).set 1 (some x)) H1) E0
  refine ⟨a, ns, rfl, hS, hl, fun p c H' hpc hp hc h1 h2 hk => ?_⟩
  have hd : (JT p c).hd = some (.tap p c) := rfl
  have sv : SvA K (JT p c) H [.ref a] [.d (.lst (ns.map Dt.int))] := .cons (show Dr K H (.ref a) (.lst (ns.map Dt.int)) from .lst hS Da.ints) .nil
  have en1 := (en_start (K := K) (J := JT p c) (G := H) (H := H') (N := N) sv).setT (i := 1) hd
  have keep : ∀ b o, H b = some o → H' b = some o := fun b o e => (hk b (fun z => by rw [z, hp] at e; cases e) (fun z => by rw [z, hc] at e; cases e)).trans e
  have wf : Wf (JT p c) H H' := ⟨keep, ⟨ns, 0, 0, 0, 7, 0, h1, h2, Int.le_refl _, hl⟩, fun m hm => by
    rcases hm with hm | hm
    · rw [hm, h1]; exact ⟨hp, by simp⟩
    · rw [hm, h2]; exact ⟨hc, by simp⟩, trivial⟩
  refine ht ns p c MVn MVn H H' H H' _ ⟨wfN wf, nxN wf.nx, ?_⟩ _ ⟨fun _ _ _ _ _ _ _ x => x.elim, fun _ _ _ _ _ _ _ x => x.elim, fun _ _ _ _ _ _ _ x => x.elim, fun v d M' MV' G' H2 n w' r x => ?_, fun _ _ _ _ _ _ _ _ _ _ _ _ _ x => x.elim⟩
  · exact ⟨en1.len, fun i s hs => let ⟨ov, x, y⟩ := en1.ok i s hs; ⟨ov, x, y.toM⟩, en1.ap⟩
  · have x : d = .bl true := x
    subst x
    cases r
    exact q H2
theorem ok_lwTG {x qual : Str} {st : Stmt} {f : Addr} {fd : FuncData} {N : List Str} {k : Nat} (F : L2.Fun K x qual st f fd) (S : FnScope N ["script"] (defScope st)) (hN : 1 < N.length)
    (hb : ∀ (cdv : Value) (A : Around) (outer : List PySem.Env) (s : Shared) (H : Hp) (E : XK), Room k (A.deeper (envOfC qual (defScope st) s.heap.objs.size f cdv)) → (A.deeper (envOfC qual (defScope st) s.heap.objs.size f cdv)).guards = some [] →
      ∃ t, PSs (cxOf CX0 P w K mg base N qual (defScope st) f cdv A outer s H E).nox (defBody st) (tSeq (tAsg (tCall (spTape K) [] E0 (tCons (tVar 0) tNil)) (gName 1)) t) ∧
        ∀ (ns : List Int) (p c : Addr), SvM K (JT p c) Mn ((startE N [.d (.lst (ns.map Dt.int))]).set 1 .tap) t { nx := fun _ _ => False, rt := fun d _ => d = .bl true }) :
    FnG P w K mg base (k + 1) f fd ["script"] (spLaw K) := by
  refine fnG_of F S (fun vs H Q E h => ?_) (fun cdv A outer s H vs Q E hr hgd h => ?_)
  · obtain ⟨a, ns, rfl, _⟩ := h
    rfl
  · obtain ⟨a, ns, rfl, hS, hl, q⟩ := h
    obtain ⟨t, hp, ht⟩ := hb cdv A outer s H E hr hgd
    exact ⟨_, hp, tape_start hN hS hl q ht⟩
end
end Mv

set_option Elab.async false
set_option linter.all false
set_option maxRecDepth 100000
set_option maxHeartbeats 4000000
/-! Told dicts whose keys are tuples within tuples: keys as data, where such a dict stands, k in d. -/
namespace Mv
open PySem PySem.Spec PyProof.Rows L2
mutual
/-- data that is a key -/
def nkD : Dt → Option NestedKey
  | .int i => some (.num i)
  | .str x => some (.text x)
  | .tup ds => (nkDs ds).map .tup
  | _ => none
def nkDs : List Dt → Option (List NestedKey)
  | [] => some []
  | d :: ds => match nkD d, nkDs ds with
    | some k, some ks => some (k :: ks)
    | _, _ => none
end
mutual
theorem nk_dr {K : PySem.W.Frag} {G : Hp} : ∀ {v : V} {d : Dt} {k : NestedKey}, Dr K G v d → nkD d = some k → NkV K G k v
  | _, .int i, k, r, h => by
    cases r
    simp only [nkD] at h
    cases h
    exact .int i
  | _, .str x, k, r, h => by
    cases r
    simp only [nkD] at h
    cases h
    exact .text x
  | _, .tup ds, k, r, h => by
    cases r with
    | tup s t =>
      simp only [nkD] at h
      obtain ⟨ks, h1, rfl⟩ := Option.map_eq_some_iff.mp h
      exact .tup s (nk_da t h1)
  | _, .non, k, r, h => by simp [nkD] at h
  | _, .bl _, k, r, h => by simp [nkD] at h
  | _, .lst _, k, r, h => by simp [nkD] at h
  | _, .ob _ _, k, r, h => by simp [nkD] at h
  | _, .ptr _, k, r, h => by simp [nkD] at h
theorem nk_da {K : PySem.W.Frag} {G : Hp} : ∀ {vs : List V} {ds : List Dt} {ks : List NestedKey}, Da K G vs ds → nkDs ds = some ks → NkA K G ks vs
  | _, [], ks, r, h => by
    cases r
    simp only [nkDs] at h
    cases h
    exact .nil
  | _, d :: ds, ks, r, h => by
    cases r with
    | cons r1 r2 =>
      simp only [nkDs] at h
      cases h1 : nkD d with
      | none => rw [h1] at h; cases h
      | some k =>
        cases h2 : nkDs ds with
        | none => rw [h1, h2] at h; cases h
        | some ks' =>
          rw [h1, h2] at h
          cases h
          exact .cons (nk_dr r1 h1) (nk_da r2 h2)
end
/-- such a dict stands where it is told to -/
theorem nd_addr {P : Program} {w w' : World} {P' : Program} {H : Hp} {h : Heap} {p a : Addr} {ks : List (NestedKey × Addr × V)} (ok : ObjOk P w H h p (ndO P' w' a ks)) : a = p := by
  by_cases e : a = p
  · exact e
  · exfalso
    obtain ⟨h1, _, h3⟩ := ok
    obtain ⟨G, g1, g2⟩ := restrict h fun b => decide (b ≠ a)
    obtain ⟨_, o, es, ep, xs, q, _⟩ := h3 h G h1 fun o ho => by rw [g1 p (decide_eq_true fun z => e z.symm)]; exact ho
    rw [g2 a (by simp)] at q
    cases q
section
variable {X : Cx}
/-- the same rules, where the dict stands as told -/
def rInP (P : Program) (w : World) (K : PySem.W.Frag) (neg : Bool) : R2 := fun x y H Q => ∃ (b p a : Addr) (ks : List (NestedKey × Addr × V)) (k : NestedKey), x = .ref b ∧ y = .ref p ∧ H p = some (ndO P w a ks) ∧ NdK K H ks ∧ NkV K H k (.ref b) ∧ k.depth ≤ 8 ∧ Q (.bl (if neg then !(atN ks k).isSome else (atN ks k).isSome)) H
theorem op_inP (hu : X.A.units + 9 < cLine) : OpR X (compareOp .In) (rInP X.prog X.w X.K false) := by
  intro pins s σ H x y v u Q I rx ry h
  obtain ⟨b, p, a, ks, k, rfl, rfl, hH, r⟩ := h
  have e := nd_addr (I.hok p _ hH)
  subst e
  exact op_inN hu pins s σ H _ _ v u Q I rx ry ⟨b, a, ks, k, rfl, rfl, hH, r⟩
theorem op_notInP (hu : X.A.units + 9 < cLine) : OpR X (compareOp .NotIn) (rInP X.prog X.w X.K true) := by
  intro pins s σ H x y v u Q I rx ry h
  obtain ⟨b, p, a, ks, k, rfl, rfl, hH, r⟩ := h
  have e := nd_addr (I.hok p _ hH)
  subst e
  exact op_notInN hu pins s σ H _ _ v u Q I rx ry ⟨b, a, ks, k, rfl, rfl, hH, r⟩
theorem op_inPK {P : Program} {w : World} (K : PySem.W.Frag) (hu : X.A.units + 64 < cLine) (hk : X.K = K := by rfl) (hp : X.prog = P := by rfl) (hw : X.w = w := by rfl) : OpR X (compareOp .In) (rInP P w K false) := by
  subst hk hp hw
  exact op_inP (by omega)
theorem op_notInPK {P : Program} {w : World} (K : PySem.W.Frag) (hu : X.A.units + 64 < cLine) (hk : X.K = K := by rfl) (hp : X.prog = P := by rfl) (hw : X.w = w := by rfl) : OpR X (compareOp .NotIn) (rInP P w K true) := by
  subst hk hp hw
  exact op_notInP (by omega)
end
/-! {}, d[k], d[k] = v, del d[k] as terms -/
def tDNewN (P : Program) (w : World) : TE := fun _ H Q => ∀ p, H p = none → Q (.ref p) (upd H p (ndO P w p []))
def tDGetN (P : Program) (w : World) (K : PySem.W.Frag) (td ty : TE) : TE := fun σ H Q => td σ H fun x H1 => ty σ H1 fun y H2 => ∃ (p a b : Addr) (ks : List (NestedKey × Addr × V)) (k : NestedKey) (v : V), x = .ref p ∧ y = .ref b ∧ H2 p = some (ndO P w a ks) ∧ NdK K H2 ks ∧ NkV K H2 k (.ref b) ∧ k.depth ≤ 8 ∧ atN ks k = some v ∧ Q v H2
def sDPutN (P : Program) (w : World) (K : PySem.W.Frag) (td ty tv : TE) : TS := fun D σ H => tv σ H fun v H1 => td σ H1 fun x H2 => ty σ H2 fun y H3 => ∃ (p a b : Addr) (ks : List (NestedKey × Addr × V)) (k : NestedKey), x = .ref p ∧ y = .ref b ∧ H3 p = some (ndO P w a ks) ∧ NdK K H3 ks ∧ NkV K H3 k (.ref b) ∧ k.depth ≤ 8 ∧ ks.length ≤ sizeLine ∧ D.nx σ (upd H3 p (ndO P w p (putN ks k b v)))
def sDDelN (P : Program) (w : World) (K : PySem.W.Frag) (td ty : TE) : TS := fun D σ H => td σ H fun x H1 => ty σ H1 fun y H2 => ∃ (p a b : Addr) (ks : List (NestedKey × Addr × V)) (k : NestedKey) (v : V), x = .ref p ∧ y = .ref b ∧ H2 p = some (ndO P w a ks) ∧ NdK K H2 ks ∧ NkV K H2 k (.ref b) ∧ k.depth ≤ 8 ∧ atN ks k = some v ∧ ks.length ≤ sizeLine ∧ D.nx σ (upd H2 p (ndO P w p (dropN ks k)))
section
variable {X : Cx} {o i e value : Expr} {pos pos' tpos : Pos} {td ty tv : TE}
theorem nd_empty {P : Program} {w : World} {H : Hp} (h : Heap) (hb : sysModules < h.objs.size) : ObjOk P w H (h.push { cls := .type "dict", data := .dict #[] }) h.objs.size (ndO P w h.objs.size []) :=
  ndO_ok (beq_eq_false_iff_ne.mpr (Ne.symm (Nat.ne_of_lt hb))) (Heap.DictOfH.new h) .nil
theorem pe_dnewN : PE X (.Dict [] [] pos) (tDNewN X.prog X.w) := ⟨fun pins s σ H Q I h =>
  wpAny_Dict_empty ⟨.ref s.heap.objs.size, _, I.laid (a := s.heap.objs.size) (o := ndO X.prog X.w s.heap.objs.size []) (t' := s.toks) (fun _ _ q => Heap.get?_push_of_some _ q) (Nat.le_refl _) (nd_empty s.heap I.big), rfl, h _ (I.hok.fresh (Nat.le_refl _))⟩⟩
theorem pe_dgetN (hu : X.A.units + 64 < cLine) (ho : PE X o td) (hi : PE X i ty) (hs : NoSl i) : PE X (.Subscript o i pos) (tDGetN X.prog X.w X.K td ty) := by
  refine ⟨fun pins s σ H Q I h => ?_⟩
  refine subD_of PySem.F.slot_dict_getitem.lookup hs (thn (ho.run pins s σ H _ I h) fun u s1 ⟨x, H1, I1, rx, q1⟩ => thn (hi.run pins s1 σ H1 _ I1 q1) fun iv s2 ⟨y, H2, I2, ry, p, a, b, ks, k, v, ex, ey, hH, hk, hn, hd, hv, q2⟩ => ?_)
  subst ex ey
  obtain rfl : u = Value.ref p := rx
  obtain rfl : iv = Value.ref b := ry
  have e := nd_addr (I2.hok p _ hH)
  subst e
  obtain ⟨_, xs, hx, _⟩ := nd_at I2 hH hk
  exact ⟨hx.typeIs, nd_getItem (by omega) I2 hH hk hn hd hv fun w' s3 I3 rw' => ⟨v, H2, I3, rw', q2⟩⟩
theorem ps_dputN (hu : X.A.units + 64 < cLine) (ho : PE X o td) (hi : PE X i ty) (hv : PE X value tv) (hs : swapsWith value (some (.Subscript o i pos')) pos.line X.env = pure false) :
    PS X (.Assign [.Subscript o i pos'] value pos) (sDPutN X.prog X.w X.K td ty tv) := by
  refine ⟨fun pins s σ H D I h => ?_⟩
  refine wpAny_Assign_Subscript (thn (hv.run pins s σ H _ I h) fun r s1 ⟨v, H1, I1, rv, q1⟩ => thn (ho.run pins s1 σ H1 _ I1 q1) fun u s2 ⟨x, H2, I2, rx, q2⟩ => thn (hi.run pins s2 σ H2 _ I2 q2) fun iv s3 ⟨y, H3, I3, ry, p, a, b, ks, k, ex, ey, hH, hk, hn, hd, hz, q3⟩ => ?_) hs
  subst ex ey
  obtain rfl : u = Value.ref p := rx
  obtain rfl : iv = Value.ref b := ry
  have e := nd_addr (I3.hok p _ hH)
  subst e
  exact nd_setItem (by omega) I3 hH hk hn hd rv hz fun s4 I4 => ⟨σ, _, I4, q3⟩
theorem ps_ddelN (hu : X.A.units + 64 < cLine) (ho : PE X o td) (hi : PE X i ty) : PS X (.Delete [.Subscript o i tpos] pos) (sDDelN X.prog X.w X.K td ty) := by
  refine ⟨fun pins s σ H D I h => ?_⟩
  refine wpAny_Delete (wpAny_deleteEach_cons (wpAny_delete_Subscript (thn (ho.run pins s σ H _ I h) fun u s1 ⟨x, H1, I1, rx, q1⟩ => thn (hi.run pins s1 σ H1 _ I1 q1) fun iv s2 ⟨y, H2, I2, ry, p, a, b, ks, k, v, ex, ey, hH, hk, hn, hd, hv, hz, q2⟩ => ?_)))
  subst ex ey
  obtain rfl : u = Value.ref p := rx
  obtain rfl : iv = Value.ref b := ry
  have e := nd_addr (I2.hok p _ hH)
  subst e
  exact nd_delItem (by omega) I2 hH hk hn hd hv hz fun s3 I3 => wpAny_deleteEach_nil ⟨σ, _, I3, q2⟩
end
section
variable {K : PySem.W.Frag} {J : Jm} {M : Mm} {MV : Mh} {G H : Hp}
theorem Wf.dnM {P : Program} {w0 : World} (w : Wf (Jt K J MV M) G H) {p : Addr} {ds : List (NestedKey × Dt)} (h : M p = some (.dn P w0 ds)) : ∃ (a : Addr) (ks : List (NestedKey × Addr × V)), MV p = some (ndO P w0 a ks) ∧ H p = some (ndO P w0 a ks) ∧ NdD K G ks ds := by
  obtain ⟨ho, h1, h2, h3⟩ := w.at_ h
  generalize e : OB.dn P w0 ds = ob at h3
  cases h3 with
  | lst _ => cases e
  | dic _ => cases e
  | dit _ => cases e
  | ins _ => cases e
  | dn r => cases e; exact ⟨_, _, h1, h2, r⟩
  | rng => cases e
/-- k in d -/
theorem o2_inN {P : Program} {w0 : World} {neg : Bool} {R : Dt → Prop} {p : Addr} {ds : List (NestedKey × Dt)} {xs : List Dt} {k : NestedKey} (hM : M p = some (.dn P w0 ds)) (hx : nkD (.tup xs) = some k) (h8 : k.depth ≤ 8) (h : R (.bl (if neg then !(atQ ds k).isSome else (atQ ds k).isSome))) :
    O2 K (Jt K J MV M) (rInP P w0 K neg) (.tup xs) (.ptr p) R := fun G H vx vy w rx ry Q q => by
  cases ry
  obtain ⟨a, ks, _, hH, r⟩ := w.dnM hM
  have hk := nk_dr rx hx
  cases rx with
  | tup s t =>
    refine ⟨_, p, a, ks, k, rfl, rfl, hH, fun e he => ⟨NkV.mono w.gh (r.keys e he).1, (r.keys e he).2⟩, NkV.mono w.gh hk, h8, ?_⟩
    rw [r.has]
    exact q _ _ G H w.nx (.bl _) h
theorem nd_keysH {P : Program} {w0 : World} {ks : List (NestedKey × Addr × V)} {ds : List (NestedKey × Dt)} (r : NdD K G ks ds) (e : Same G H) : NdK K H ks := fun x hx => ⟨NkV.mono e (r.keys x hx).1, (r.keys x hx).2⟩
end
section
variable {K : PySem.W.Frag} {J : Jm} {M : Mm} {MV : Mh} {env : List Sl} {D : DM} {tk tv : TE} {P : Program} {w0 : World} {i : Nat} {p : Addr} {ds : List (NestedKey × Dt)}
/-- {} -/
theorem evm_dnewN {R : Dt → Mm → Prop} (h : ∀ p, M p = none → R (.ptr p) (updM M p (.dn P w0 []))) : EvM K J M env D (tDNewN P w0) R := fun MV0 MV GB B G H σ a x Q q p hp => by
  have hj : p ∉ J.ms := (not_jt.mp (a.wf.notin hp)).1
  have hM := a.wf.none_ hp
  have n1 := a.wf.newM hp (ndO P w0 p [])
  have n2 := nxm_put (ho := ndO P w0 p []) (.inr hp) (NxM.of n1)
  exact q (.ref p) (.ptr p) _ _ G _ n2 (a.thenM n2 ((n1.wf a.wf).put hj (a.wf.free hp) upd_same (.dn .nil))) (.ptr _) (h p hM.2)
/-- d[k] -/
theorem ev_dgetN {R : Dt → Prop} (hi : env[i]? = some (.d (.ptr p))) (hM : M p = some (.dn P w0 ds)) (h : Ev K (Jt K J MV M) env tk fun x => ∃ xs k d, x = .tup xs ∧ nkD x = some k ∧ k.depth ≤ 8 ∧ atQ ds k = some d ∧ R d) : Ev K (Jt K J MV M) env (tDGetN P w0 K (tVar i) tk) R := fun B G H σ w E Q q => by
  obtain ⟨v, h1, r⟩ := E.dat hi
  cases r
  refine ⟨.ref p, h1, h B G H σ w E _ fun y x G1 H1 n1 rx ⟨xs, k, d, ex, hx, h8, hd, kx⟩ => ?_⟩
  subst ex
  have w1 := n1.wf w
  obtain ⟨a', ks, _, hH, t⟩ := w1.dnM hM
  have hk := nk_dr rx hx
  cases rx with
  | tup s t' =>
    obtain ⟨v, hv, rv⟩ := (t.at k).1 d hd
    exact ⟨p, a', _, ks, k, v, rfl, rfl, hH, nd_keysH (P := P) (w0 := w0) t w1.gh, NkV.mono w1.gh hk, h8, hv, q v d G1 H1 n1 rv kx⟩
/-- d[k] = v -/
theorem sm_dputN (hi : env[i]? = some (.d (.ptr p))) (hM : M p = some (.dn P w0 ds)) (hz : ds.length ≤ 100000) (h : ∀ MV, Ev K (Jt K J MV M) env tv fun d => Ev K (Jt K J MV M) env tk fun x => ∃ xs k, x = .tup xs ∧ nkD x = some k ∧ k.depth ≤ 8 ∧ D.nx (updM M p (.dn P w0 (putQN ds k d))) env) :
    SvM K J M env (sDPutN P w0 K (tVar i) tk tv) D := fun MV0 MV GB B G H σ a E r =>
  h MV B G H σ a.wf a.en _ fun v d G1 H1 n1 rd k => by
    have a1 := a.then n1
    obtain ⟨v0, h1, r0⟩ := a1.en.dat hi
    cases r0
    refine ⟨.ref p, h1, k B G1 H1 σ a1.wf a1.en _ fun y x G2 H2 n2 rx ⟨xs, k, ex, hx, h8, kx⟩ => ?_⟩
    subst ex
    have a2 := a1.then n2
    obtain ⟨a', ks, e1, e2, t⟩ := a2.wf.dnM hM
    have hk := nk_dr rx hx
    cases rx with
    | @tup b us _ s t' =>
      have n5 := a2.wf.chgN (ho' := ndO P w0 p (putN ks k b v)) e1
      exact ⟨p, a', b, ks, k, rfl, rfl, e2, nd_keysH (P := P) (w0 := w0) t a2.wf.gh, NkV.mono a2.wf.gh hk, h8, sz_of (by rw [t.len]; exact hz), r.nx _ _ env _ _ σ (a2.thenM n5 (a2.wf.chg e1 (.dn (t.put hk h8 (rd.mono n2.gg))))) kx⟩
/-- del d[k] -/
theorem sm_ddelN (hi : env[i]? = some (.d (.ptr p))) (hM : M p = some (.dn P w0 ds)) (hz : ds.length ≤ 100000) (h : ∀ MV, Ev K (Jt K J MV M) env tk fun x => ∃ xs k, x = .tup xs ∧ nkD x = some k ∧ k.depth ≤ 8 ∧ (atQ ds k).isSome = true ∧ D.nx (updM M p (.dn P w0 (dropQ ds k))) env) :
    SvM K J M env (sDDelN P w0 K (tVar i) tk) D := fun MV0 MV GB B G H σ a E r => by
  obtain ⟨v0, h1, r0⟩ := a.en.dat hi
  cases r0
  refine ⟨.ref p, h1, h MV B G H σ a.wf a.en _ fun y x G2 H2 n2 rx ⟨xs, k, ex, hx, h8, hs, kx⟩ => ?_⟩
  subst ex
  have a2 := a.then n2
  obtain ⟨a', ks, e1, e2, t⟩ := a2.wf.dnM hM
  have hk := nk_dr rx hx
  obtain ⟨v, hv⟩ := Option.isSome_iff_exists.mp (t.has.trans hs)
  cases rx with
  | @tup b us _ s t' =>
    have n5 := a2.wf.chgN (ho' := ndO P w0 p (dropN ks k)) e1
    exact ⟨p, a', b, ks, k, v, rfl, rfl, e2, nd_keysH (P := P) (w0 := w0) t a2.wf.gh, NkV.mono a2.wf.gh hk, h8, hv, sz_of (by rw [t.len]; exact hz), r.nx _ _ env _ _ σ (a2.thenM n5 (a2.wf.chg e1 (.dn t.drop))) kx⟩
/-! the dict by any expression (a field of a told instance, say) -/
theorem ev_dgetNE {td : TE} {R : Dt → Prop} (h : Ev K (Jt K J MV M) env td fun z => ∃ p ds, z = .ptr p ∧ M p = some (.dn P w0 ds) ∧ Ev K (Jt K J MV M) env tk fun x => ∃ xs k d, x = .tup xs ∧ nkD x = some k ∧ k.depth ≤ 8 ∧ atQ ds k = some d ∧ R d) : Ev K (Jt K J MV M) env (tDGetN P w0 K td tk) R := fun B G H σ w E Q q =>
  h B G H σ w E _ fun z zd G0 H0 n0 rz ⟨p, ds, ez, hM, h⟩ => by
    subst ez
    cases rz
    refine h B G0 H0 σ (n0.wf w) (E.mono n0) _ fun y x G1 H1 n1 rx ⟨xs, k, d, ex, hx, h8, hd, kx⟩ => ?_
    subst ex
    have w1 := n1.wf (n0.wf w)
    obtain ⟨a', ks, _, hH, t⟩ := w1.dnM hM
    have hk := nk_dr rx hx
    cases rx with
    | tup s t' =>
      obtain ⟨v, hv, rv⟩ := (t.at k).1 d hd
      exact ⟨p, a', _, ks, k, v, rfl, rfl, hH, nd_keysH (P := P) (w0 := w0) t w1.gh, NkV.mono w1.gh hk, h8, hv, q v d G1 H1 (n0.trans n1) rv kx⟩
theorem sm_dputNE {td : TE} (h : ∀ MV, Ev K (Jt K J MV M) env tv fun d => Ev K (Jt K J MV M) env td fun z => ∃ p ds, z = .ptr p ∧ M p = some (.dn P w0 ds) ∧ ds.length ≤ 100000 ∧ Ev K (Jt K J MV M) env tk fun x => ∃ xs k, x = .tup xs ∧ nkD x = some k ∧ k.depth ≤ 8 ∧ D.nx (updM M p (.dn P w0 (putQN ds k d))) env) :
    SvM K J M env (sDPutN P w0 K td tk tv) D := fun MV0 MV GB B G H σ a E r =>
  h MV B G H σ a.wf a.en _ fun v d G1 H1 n1 rd k => by
    have a1 := a.then n1
    refine k B G1 H1 σ a1.wf a1.en _ fun z zd G0 H0 n0 rz ⟨p, ds, ez, hM, hz, k⟩ => ?_
    subst ez
    cases rz
    have a0 := a1.then n0
    refine k B G0 H0 σ a0.wf a0.en _ fun y x G2 H2 n2 rx ⟨xs, k, ex, hx, h8, kx⟩ => ?_
    subst ex
    have a2 := a0.then n2
    obtain ⟨a', ks, e1, e2, t⟩ := a2.wf.dnM hM
    have hk := nk_dr rx hx
    cases rx with
    | @tup b us _ s t' =>
      have n5 := a2.wf.chgN (ho' := ndO P w0 p (putN ks k b v)) e1
      exact ⟨p, a', b, ks, k, rfl, rfl, e2, nd_keysH (P := P) (w0 := w0) t a2.wf.gh, NkV.mono a2.wf.gh hk, h8, sz_of (by rw [t.len]; exact hz), r.nx _ _ env _ _ σ (a2.thenM n5 (a2.wf.chg e1 (.dn (t.put hk h8 (rd.mono (n0.gg.trans n2.gg)))))) kx⟩
theorem sm_ddelNE {td : TE} (h : ∀ MV, Ev K (Jt K J MV M) env td fun z => ∃ p ds, z = .ptr p ∧ M p = some (.dn P w0 ds) ∧ ds.length ≤ 100000 ∧ Ev K (Jt K J MV M) env tk fun x => ∃ xs k, x = .tup xs ∧ nkD x = some k ∧ k.depth ≤ 8 ∧ (atQ ds k).isSome = true ∧ D.nx (updM M p (.dn P w0 (dropQ ds k))) env) :
    SvM K J M env (sDDelN P w0 K td tk) D := fun MV0 MV GB B G H σ a E r =>
  h MV B G H σ a.wf a.en _ fun z zd G0 H0 n0 rz ⟨p, ds, ez, hM, hz, k⟩ => by
    subst ez
    cases rz
    have a0 := a.then n0
    refine k B G0 H0 σ a0.wf a0.en _ fun y x G2 H2 n2 rx ⟨xs, k, ex, hx, h8, hs, kx⟩ => ?_
    subst ex
    have a2 := a0.then n2
    obtain ⟨a', ks, e1, e2, t⟩ := a2.wf.dnM hM
    have hk := nk_dr rx hx
    obtain ⟨v, hv⟩ := Option.isSome_iff_exists.mp (t.has.trans hs)
    cases rx with
    | @tup b us _ s t' =>
      have n5 := a2.wf.chgN (ho' := ndO P w0 p (dropN ks k)) e1
      exact ⟨p, a', b, ks, k, v, rfl, rfl, e2, nd_keysH (P := P) (w0 := w0) t a2.wf.gh, NkV.mono a2.wf.gh hk, h8, hv, sz_of (by rw [t.len]; exact hz), r.nx _ _ env _ _ σ (a2.thenM n5 (a2.wf.chg e1 (.dn t.drop))) kx⟩
end
end Mv

set_option Elab.async false
set_option linter.all false
set_option maxRecDepth 100000
set_option maxHeartbeats 4000000
/-! any(xs), xs a list of whole numbers. -/
namespace Mv
open PySem PySem.Spec PyProof.Rows L2 PySem.W
def rAnyI (K : PySem.W.Frag) : List V → Hp → VK → Prop := fun vs H Q => ∃ (a : Addr) (r : List Int), vs = [.ref a] ∧ SqL K H a (r.map V.int) ∧ Q (.bl (r.any fun i => i != 0)) H
theorem plain_intsP : ∀ l : List Int, PyData.plainAll (l.map PyData.int) = true
  | [] => rfl
  | x :: r => by
    show PyData.plainAll (.int x :: r.map PyData.int) = true
    rw [PyData.plainAll, plain_intsP r]; rfl
theorem any_ints (l : List Int) : (l.map PyData.int).any PyData.truthy = l.any fun i => i != 0 := by
  rw [List.any_map]
  congr 1
section
variable {X : Cx}
theorem cr_anyI (hc : X.calm = true) : CallR X (.builtin "any") (rAnyI X.K) := by
  intro pins s σ H vs us Q I r h
  obtain ⟨a, l, rfl, hs, q⟩ := h
  obtain rfl := Vals.ref1 r
  have hh := I.ok.hd hc
  obtain ⟨its, rv, hl, _⟩ := I.list hs
  obtain ⟨as, hr⟩ := L2.Dp.readsAll I _ _ its (dpa_ints l) rv
  refine any_list_data hh hl.isList (by simpa using hr) (plain_intsP l) (fun x hx => ?_) fun h' tk hk => ?_
  · obtain ⟨i, _, rfl⟩ := List.mem_map.mp hx
    trivial
  · rw [any_ints]
    exact ⟨.bl _, H, I.kept (t' := tk) hk, rfl, q⟩
end
theorem c_anyIK (K : PySem.W.Frag) {X : Cx} (hc : X.calm = true := by rfl) (h : X.K = K := by rfl) : CallR X (.builtin "any") (rAnyI K) := h ▸ cr_anyI hc
theorem oc_anyI {K : PySem.W.Frag} {J : Jm} {R : Dt → Prop} {r : List Int} (h : R (.bl (r.any fun i => i != 0))) : Oc K J (rAnyI K) [.lst (r.map Dt.int)] R := fun G H vs w rs Q q => by
  cases rs with
  | cons r1 r2 =>
    cases r2
    cases r1 with
    | lst s t =>
      have e := t.ints_inv
      subst e
      exact ⟨_, r, rfl, same_l w.gh s, q _ _ G H w.nx (.bl _) h⟩
end Mv

set_option Elab.async false
set_option linter.all false
set_option maxRecDepth 100000
set_option maxHeartbeats 4000000
/-! sorted(xs), xs a list of pairs of whole numbers: the sorted pairs themselves. -/
namespace Mv
open PySem PySem.Spec PyProof.Rows L2 PySem.W
def leII (a b : Int × Int) : Bool := decide (a.1 < b.1) || (decide (a.1 = b.1) && decide (a.2 ≤ b.2))
theorem leII_trans (a b c : Int × Int) (h1 : leII a b = true) (h2 : leII b c = true) : leII a c = true := by
  unfold leII at *
  simp at *
  omega
theorem leII_total (a b : Int × Int) : (leII a b || leII b a) = true := by
  unfold leII
  simp
  omega
theorem sortII_up (l : List (Int × Int)) : (l.mergeSort leII).Pairwise fun a b => leII a b = true := List.pairwise_mergeSort leII_trans leII_total l
def rSortedII (K : PySem.W.Frag) : List V → Hp → VK → Prop := fun xs H Q => ∃ (a : Addr) (bs : List (V × (Int × Int))), xs = [.ref a] ∧ SqL K H a (bs.map Prod.fst) ∧ (∀ b ∈ bs, Dp K H b.1 (pyD (iiD b.2))) ∧
  ∀ (bs' : List (V × (Int × Int))) (p : Addr), bs' = bs.mergeSort (fun x y => leII x.2 y.2) → H p = none → Q (.ref p) (upd H p (.lst (bs'.map Prod.fst)))
theorem each_ofI {X : Cx} {pins : List (Addr × Obj)} {σ : L2.St} {H : Hp} {s : Shared} (I : Inv X pins σ H s) : ∀ {bs : List (V × (Int × Int))} {its : List Value}, Vals (bs.map Prod.fst) its → (∀ b ∈ bs, Dp X.K H b.1 (pyD (iiD b.2))) →
    PySem.W.EachIs (fun (u : Value) (b : V × (Int × Int)) => RelV b.1 u) its bs ∧ PySem.W.EachIs (fun (u : Value) (b : V × (Int × Int)) => ∃ as, Reads s.heap u (pyD (iiD b.2)) as) its bs
  | [], _, r, _ => by cases r; exact ⟨.nil, .nil⟩
  | b :: bs, _, r, h => by
    cases r with
    | cons r1 r2 =>
      obtain ⟨k1, k2⟩ := each_ofI I r2 fun x hx => h x (List.mem_cons_of_mem _ hx)
      exact ⟨.cons r1 k1, .cons (Dp.reads I _ _ _ (h b List.mem_cons_self) r1) k2⟩
theorem vals_eachI : ∀ {bs : List (V × (Int × Int))} {its : List Value}, PySem.W.EachIs (fun (u : Value) (b : V × (Int × Int)) => RelV b.1 u) its bs → Vals (bs.map Prod.fst) its
  | _, _, .nil => .nil
  | _, _, .cons h t => .cons h (vals_eachI t)
theorem le_same : PySem.W.dataLe false (fun b : V × (Int × Int) => pyD (iiD b.2)) = fun x y => leII x.2 y.2 := by
  have h := PySem.W.dataLe_ii (fun b : V × (Int × Int) => b.2.1) (fun b : V × (Int × Int) => b.2.2)
  refine Eq.trans h ?_
  funext x y
  unfold leII
  simp
theorem cr_sortedIIK (K : PySem.W.Frag) {X : Cx} (hu : X.A.units + 64 < cLine) (hk : X.K = K := by rfl) : CallR X (.builtin "sorted") (rSortedII K) := by
  subst hk
  intro pins s σ H vs us Q I r h
  obtain ⟨a, bs, rfl, hs, hd, q⟩ := h
  obtain ⟨its, rv, hl, hz⟩ := I.list hs
  rw [Vals.ref1 r]
  obtain ⟨e1, e2⟩ := each_ofI I rv hd
  have hdep : ∀ b : Int × Int, (pyD (iiD b)).depth ≤ 2 := fun b => by simp [iiD, pyD, pyDs, PyData.depth, PyData.depthAll]
  refine PySem.W.sorted_data (enc := fun b : V × (Int × Int) => pyD (iiD b.2)) hl.isList e1 e2 (.of fun b b' => by simp [iiD, pyD, pyDs, alike, alikeAll]) (.tuples fun b => ⟨_, _, rfl⟩) (by rw [← e1.length, ← rv.length]; exact hz) (fun b hb => by have := hdep b.2; omega) fun out hlen hout => ?_
  rw [le_same] at hout
  have hp : (bs.mergeSort fun x y => leII x.2 y.2).Perm bs := List.mergeSort_perm _ _
  obtain ⟨ep, he'⟩ := PyProof.Rows.sortedAll_at s.heap its out.toArray
  have hlen2 : ((bs.mergeSort fun x y => leII x.2 y.2).map Prod.fst).length ≤ sizeLine := by
    rw [List.length_map, hp.length_eq]
    rw [List.length_map] at hz
    exact hz
  exact ⟨.ref _, upd H (s.heap.objs.size + 1) (.lst ((bs.mergeSort fun x y => leII x.2 y.2).map Prod.fst)), I.laid (t' := s.toks) (fun _ _ => PyProof.Rows.sortedAll_old) (Nat.le_succ _) ⟨hlen2, out, ep, vals_eachI hout, he'⟩, rfl, q _ _ rfl (I.hok.fresh (Nat.le_succ _))⟩
theorem da_zipI {K : PySem.W.Frag} {G : Hp} : ∀ {vs : List V} {ns : List (Int × Int)}, Da K G vs (ns.map iiD) → (vs.zip ns).map Prod.fst = vs ∧ (vs.zip ns).map Prod.snd = ns ∧ ∀ b ∈ vs.zip ns, Dr K G b.1 (iiD b.2)
  | vs, [], h => by
    have h : Da K G vs [] := h
    cases h
    exact ⟨rfl, rfl, fun b h => (nomatch h)⟩
  | vs, n :: ns, h => by
    have h : Da K G vs (iiD n :: ns.map iiD) := h
    cases h with
    | cons r t =>
      obtain ⟨h1, h2, h3⟩ := da_zipI t
      refine ⟨by rw [List.zip_cons_cons, List.map_cons, h1], by rw [List.zip_cons_cons, List.map_cons, h2], fun b hb => ?_⟩
      rcases List.mem_cons.mp hb with rfl | hb
      · exact r
      · exact h3 b hb
theorem da_pairsI {K : PySem.W.Frag} {G : Hp} : ∀ {bs : List (V × (Int × Int))}, (∀ b ∈ bs, Dr K G b.1 (iiD b.2)) → Da K G (bs.map Prod.fst) ((bs.map Prod.snd).map iiD)
  | [], _ => .nil
  | b :: bs, h => .cons (h b List.mem_cons_self) (da_pairsI fun x hx => h x (List.mem_cons_of_mem _ hx))
theorem oc_sortedII {K : PySem.W.Frag} {J : Jm} {R : Dt → Prop} {ns : List (Int × Int)} (h : R (.lst ((ns.mergeSort leII).map iiD))) : Oc K J (rSortedII K) [.lst (ns.map iiD)] R := fun G H vs w rs Q q => by
  cases rs with
  | cons r1 r2 =>
    cases r2
    cases r1 with
    | @lst a us _ s t =>
      obtain ⟨h1, h2, h3⟩ := da_zipI t
      refine ⟨a, us.zip ns, rfl, by rw [h1]; exact same_l w.gh s, fun b hb => dp_of w.gh (h3 b hb) (by rfl), fun bs' p hbs hpn => ?_⟩
      have n2 := w.new hpn (.lst (bs'.map Prod.fst))
      have hda := da_pairsI (K := K) (G := G) (bs := bs') fun b hb => h3 b (by rw [hbs] at hb; exact List.mem_mergeSort.mp hb)
      have e : bs'.map Prod.snd = ns.mergeSort leII := by
        rw [hbs, List.map_mergeSort (s := leII) (fun a _ b _ => rfl), h2]
      rw [e] at hda
      exact q (.ref p) (.lst ((ns.mergeSort leII).map iiD)) _ _ n2 (.lst (.inl (.inl upd_same)) (hda.mono n2.gg)) h
end Mv

set_option Elab.async false
set_option linter.all false
set_option maxRecDepth 100000
set_option maxHeartbeats 4000000
/-! list(zip(a, b)) of two lists. -/
namespace Mv
open PySem PySem.Spec PyProof.Rows L2 PySem.Calls
theorem zip_no_len : typeLookup (.type "zip") "__len__" = pure none := am_miss_of_fast (by decide +kernel)
theorem zip_no_hint : typeLookup (.type "zip") "__length_hint__" = pure none := am_miss_of_fast (by decide +kernel)
/-- new pairs, each put behind the list D -/
def zlT : List (V × V) → List V → Addr → Hp → VK → Prop
  | [], _, D, H, Q => Q (.ref D) H
  | (x, y) :: r, acc, D, H, Q => ∀ T, H T = none → zlT r (acc ++ [.ref T]) D (upd (upd H T (.tup [x, y])) D (.lst (acc ++ [.ref T]))) Q
def zSt (N a b : Nat) (i : Nat) (h : Heap) : Prop := IsPair h (N + 2) (.ref N) (.ref (N + 1)) ∧ h.IsListIter N a i ∧ h.IsListIter (N + 1) b i ∧
  ((IsZip h (N + 4) (N + 2) (N + 3) .none ∧ ∃ x y, IsPair h (N + 3) x y) ∨ ∃ (T : Nat) (f : Bool) (oT : Obj), IsZipHeld h (N + 4) (N + 2) (N + 3) T f ∧ h.get? T = some oT ∧ N + 4 < T)
theorem ne_a {m n : Nat} (h : m ≠ n) : @Ne Addr m n := h
theorem zAp {N a b : Nat} (ha : a < N) (hb : b < N) : ZipApart (N + 4) (N + 2) (N + 3) N (N + 1) a b := by
  constructor <;> exact fun h => absurd (show @Eq Nat _ _ from h) (by omega)
section
variable {P : Program} {w : World} {A : Around} {E : Value → Shared → Prop} {s : Shared} {N a b : Nat} {us ws : Array Value} {i : Nat}
theorem z_item {x y : Value} {Q : Option Value → Shared → Prop} (ha : a < N) (hb : b < N) (st : zSt N a b i s.heap) (hl1 : s.heap.IsList a us) (hl2 : s.heap.IsList b ws) (hx : us[i]? = some x) (hy : ws[i]? = some y)
    (hQ : ∀ h', zSt N a b (i + 1) h' → IsPair h' s.heap.objs.size x y → h'.objs.size = s.heap.objs.size + 1 → (∀ (c : Nat) o, c ∉ [N + 4, N + 3, N, N + 1] → s.heap.get? c = some o → h'.get? c = some o) → Q (some (.ref s.heap.objs.size)) { s with heap := h' }) :
    wpAny (model P w) A (pyNext (.ref (N + 4))) Q E s := by
  obtain ⟨hTI, h1, h2, hz⟩ := st
  have D := zAp ha hb
  have nm : ∀ {c : Nat}, c ∉ [N + 4, N + 3, N, N + 1] → c ≠ N + 4 ∧ c ≠ N + 3 ∧ c ≠ N ∧ c ≠ N + 1 := fun {c} h => by
    simp at h; exact ⟨h.1, h.2.1, h.2.2.1, h.2.2.2⟩
  rcases hz with ⟨hz, p, q, hTO⟩ | ⟨T, f, oT, hz, hT, r1⟩
  · have lt : N + 4 < s.heap.objs.size := Heap.lt_size hz
    refine wpAny_pyNext_zip_item D hz hTI hTO h1 h2 hl1 hl2 hx hy fun h' a1 a2 a3 a4 a5 a6 hk => ?_
    exact hQ h' ⟨hk _ _ D.TIz D.TITO D.TIi1 D.TIi2 hTI, a3, a4, .inr ⟨s.heap.objs.size, false, _, a1, a5, lt⟩⟩ a5 a6 fun c o hc e => hk c o (nm hc).1 (nm hc).2.1 (nm hc).2.2.1 (nm hc).2.2.2 e
  · refine wpAny_pyNext_zip_item_held D hz hT hTI h1 h2 hl1 hl2 hx hy fun h' a1 a3 a4 a5 a6 hk => ?_
    exact hQ h' ⟨hk _ _ D.TIz D.TIi1 D.TIi2 hTI, a3, a4, .inr ⟨T, true, oT, a1, hk _ _ (ne_a (by omega)) (ne_a (by omega)) (ne_a (by omega)) hT, r1⟩⟩ a5 a6 fun c o hc e => hk c o (nm hc).1 (nm hc).2.2.1 (nm hc).2.2.2 e
theorem z_end {Q : Option Value → Shared → Prop} (hh : A.handled = none) (ha : a < N) (hb : b < N) (st : zSt N a b i s.heap) (hl1 : s.heap.IsList a us) (hl2 : s.heap.IsList b ws) (hx : us[i]? = none)
    (hQ : ∀ h', (∀ (c : Nat) o, c ∉ [N + 4, N + 3, N, N + 1] → s.heap.get? c = some o → h'.get? c = some o) → Q none { s with heap := h' }) :
    wpAny (model P w) A (pyNext (.ref (N + 4))) Q E s := by
  obtain ⟨hTI, h1, h2, hz⟩ := st
  have D := zAp ha hb
  have nm : ∀ {c : Nat}, c ∉ [N + 4, N + 3, N, N + 1] → c ≠ N + 4 ∧ c ≠ N + 3 ∧ c ≠ N ∧ c ≠ N + 1 := fun {c} h => by
    simp at h; exact ⟨h.1, h.2.1, h.2.2.1, h.2.2.2⟩
  rcases hz with ⟨hz, p, q, hTO⟩ | ⟨T, f, oT, hz, hT, r1⟩
  · exact wpAny_pyNext_zip_end hh D hz hTI hTO h1 h2 hl1 hl2 (.inl hx) fun h' hk => hQ h' fun c o hc e => hk c o (nm hc).1 (nm hc).2.1 (nm hc).2.2.1 (nm hc).2.2.2 e
  · exact wpAny_pyNext_zip_end_held hh D hz hT hTI h1 h2 hl1 hl2 (.inl hx) fun h' hk => hQ h' fun c o hc e => hk c o (nm hc).1 (nm hc).2.2.1 (nm hc).2.2.2 e
theorem zSt_keep {h h' : Heap} (st : zSt N a b i h) (hN : ∀ o, h.get? (N + 4) = some o → N + 4 < N + 5) (k : ∀ (c : Nat) o, (c ∈ [N + 4, N + 3, N + 2, N, N + 1] ∨ N + 4 < c ∧ False ∨ ∃ T f, IsZipHeld h (N + 4) (N + 2) (N + 3) T f ∧ c = T) → h.get? c = some o → ∃ o', h'.get? c = some o' ∧ (c ∈ [N + 4, N + 3, N + 2, N, N + 1] → o' = o)) : zSt N a b i h' := by
  obtain ⟨hTI, h1, h2, hz⟩ := st
  have kk : ∀ c o, c ∈ [N + 4, N + 3, N + 2, N, N + 1] → h.get? c = some o → h'.get? c = some o := fun c o hc e => by
    obtain ⟨o', e', q⟩ := k c o (.inl hc) e
    rw [e', q hc]
  refine ⟨kk _ _ (by simp) hTI, h1.at fun o e => kk _ o (by simp) e, h2.at fun o e => kk _ o (by simp) e, ?_⟩
  rcases hz with ⟨hz, p, q, hTO⟩ | ⟨T, f, oT, hz, hT, r1⟩
  · exact .inl ⟨kk _ _ (by simp) hz, p, q, kk _ _ (by simp) hTO⟩
  · obtain ⟨o', e', _⟩ := k T oT (.inr (.inr ⟨T, f, hz, rfl⟩)) hT
    exact .inr ⟨T, f, o', kk _ _ (by simp) hz, e', r1⟩
end
theorem zl_loop {X : Cx} {pins : List (Addr × Obj)} {A : Around} {R : Result → Shared → Prop} {N a b S : Nat} {σ : L2.St} (hh : A.in1.handled = none) (ha : a < N) (hb : b < N) (hS : N + 4 < S) {us ws : List Value} (hsz : us.length ≤ 100000) (res : Value) :
    ∀ (r : List (V × V)) (i : Nat) (s : Shared) (H : Hp) (acc : List V) (vs : Array Value) (c : Nat), i + r.length = us.length → (∀ j x y, r[j]? = some (x, y) → ∃ u v, us[i + j]? = some u ∧ ws[i + j]? = some v ∧ RelV x u ∧ RelV y v) →
      (∀ d ∈ [N + 4, N + 3, N, N + 1], FpOk X pins H d) → s.heap.IsList a us.toArray → s.heap.IsList b ws.toArray → zSt N a b i s.heap → Inv X pins σ H s → H S = some (.lst acc) → s.heap.get? S = some { cls := .type "list", dict := none, data := .seq vs c, slots := #[] } → Vals acc vs.toList → acc.length = i →
      zlT r acc S H (fun v H' => v = .ref S ∧ ∀ s', Inv X pins σ H' s' → R (.ok (.ret res)) s') → codeAny (model X.prog X.w) A (.builtin "list.extend.loop" ⟨[.ref S, .ref (N + 4), res], []⟩) R s := by
  intro r
  induction r with
  | nil =>
    intro i s H acc vs c hi hr hf hl1 hl2 st I hHS hgS hv hal hz
    refine codeAny_builtin F.entry_extend_loop ?_
    rw [Around.under_plainId F.plain_extend_loop _]
    show wpAny _ A.in1 (pyNext (.ref (N + 4)) >>= _) _ _ s
    have hi : i = us.length := hi
    refine wpAny_bind (z_end hh ha hb st hl1 hl2 (by simp [hi]) fun h' hk => ?_)
    exact wpAny_pure (hz.2 _ (I.turnedL (t' := s.toks) (ch := [N + 4, N + 3, N, N + 1]) hk hf))
  | cons q r ih =>
    intro i s H acc vs c hi hr hf hl1 hl2 st I hHS hgS hv hal hz
    obtain ⟨x, y⟩ := q
    obtain ⟨u, v, hu, hw, ru, rv⟩ := hr 0 x y rfl
    rw [Nat.add_zero] at hu hw
    refine codeAny_builtin F.entry_extend_loop ?_
    rw [Around.under_plainId F.plain_extend_loop _]
    show wpAny _ A.in1 (pyNext (.ref (N + 4)) >>= _) _ _ s
    refine wpAny_bind (z_item ha hb st hl1 hl2 (by simpa using hu) (by simpa using hw) fun h' st' hp hle hk => ?_)
    have ltS : S < s.heap.objs.size := Heap.lt_size hgS
    have hSn : S ∉ [N + 4, N + 3, N, N + 1] := by simp; omega
    have hTS : s.heap.objs.size ≠ S := Nat.ne_of_gt ltS
    have hgS' := hk S _ hSn hgS
    have hTn : H s.heap.objs.size = none := I.hok.fresh (Nat.le_refl _)
    have I2 : Inv X pins σ (upd H s.heap.objs.size (.tup [x, y])) { s with heap := h' } := I.turnedNew (t' := s.toks) (ch := [N + 4, N + 3, N, N + 1]) hk hf (Nat.le_refl _) ⟨by show 2 ≤ sizeLine; decide, [u, v], .cons ru (.cons rv .nil), ⟨_, hp, rfl, _, rfl⟩⟩
    have hvl : vs.size = i := by rw [← Array.length_toList, ← hv.length, hal]
    have hil : i < 100000 := by simp at hi; omega
    have hs1 : sizeLine = 16777216 := sizeLine_eq
    show wpAny _ A.in1 (updateSeq S (·.push (.ref s.heap.objs.size)) >>= _) _ _ _
    refine wpAny_bind ?_
    have hnew := Heap.get?_update_self (Obj.mapSeq (·.push (Value.ref s.heap.objs.size))) hgS' rfl
    refine wpAny_updateSeq hgS' rfl (wpAny_pure ⟨plainId_quiet F.plain_extend_loop _, ih (i + 1) _ (upd (upd H s.heap.objs.size (.tup [x, y])) S (.lst (acc ++ [.ref s.heap.objs.size]))) (acc ++ [.ref s.heap.objs.size]) (vs.push (.ref s.heap.objs.size)) _ ?_ ?_ ?_ ?_ ?_ ?_ ?_ upd_same hnew ?_ ?_ ?_⟩) (by rw [hvl]; omega) (by show (vs.push _).size ≤ sizeLine + 1; rw [Array.size_push, hvl]; omega)
    · simp at hi ⊢; omega
    · intro j x' y' hj
      have := hr (j + 1) x' y' (by simpa using hj)
      rw [show i + (j + 1) = i + 1 + j by omega] at this
      exact this
    · intro d hd
      have h1 := hf d hd
      have hdT : d ≠ s.heap.objs.size := by
        have hst := st.2.2.2
        have : N + 4 < s.heap.objs.size := by omega
        simp at hd; omega
      have hdS : d ≠ S := fun z => hSn (z ▸ hd)
      exact ⟨by rw [upd_ne hdS, upd_ne hdT]; exact h1.1, h1.2⟩
    · have : a ≠ S := by omega
      have han : a ∉ [N + 4, N + 3, N, N + 1] := by simp; omega
      exact (hl1.at fun o e => hk _ o han e).at fun o e => (Heap.get?_update_other _ _ (Ne.symm this)).trans e
    · have : b ≠ S := by omega
      have hbn : b ∉ [N + 4, N + 3, N, N + 1] := by simp; omega
      exact (hl2.at fun o e => hk _ o hbn e).at fun o e => (Heap.get?_update_other _ _ (Ne.symm this)).trans e
    · refine zSt_keep st' (fun _ _ => Nat.lt_succ_self _) fun c' o hc e => ?_
      by_cases hcS : c' = S
      · subst hcS
        refine ⟨_, hnew, fun hm => ?_⟩
        simp at hm; omega
      · exact ⟨o, (Heap.get?_update_other _ _ (Ne.symm hcS)).trans e, fun _ => rfl⟩
    · refine I2.write (t' := s.toks) (x := S) (e := S) ?_ (.inl rfl) (fun b' u' hb' e => (Heap.get?_update_other _ _ (Ne.symm hb')).trans e) ⟨_, hnew⟩ (show ObjOk X.prog X.w _ _ _ (.lst _) from ⟨?_, (vs.push (.ref s.heap.objs.size)).toList, _, ?_, by rw [Array.toArray_toList]; exact hnew⟩)
      · rw [upd_ne (Ne.symm hTS), hHS]; trivial
      · rw [List.length_append, hal]; simp; omega
      · rw [Array.toList_push]
        exact hv.append (.cons rfl .nil)
    · rw [Array.toList_push]
      exact hv.append (.cons rfl .nil)
    · rw [List.length_append, hal]; rfl
    · exact hz _ hTn
def z0 (N a b : Nat) (h : Heap) : Prop := IsPair h (N + 2) (.ref N) (.ref (N + 1)) ∧ h.IsListIter N a 0 ∧ h.IsListIter (N + 1) b 0 ∧ IsZip h (N + 4) (N + 2) (N + 3) .none ∧ ∃ x y, IsPair h (N + 3) x y
theorem z0.keep {N a b : Nat} {h h' : Heap} (z : z0 N a b h) (k : ∀ (c : Nat) o, c ≤ N + 4 → h.get? c = some o → h'.get? c = some o) : z0 N a b h' := by
  obtain ⟨z1, z2, z3, z4, x, y, z5⟩ := z
  exact ⟨k _ _ (by omega) z1, z2.at fun o e => k _ o (by omega) e, z3.at fun o e => k _ o (by omega) e, k _ _ (by omega) z4, x, y, k _ _ (by omega) z5⟩
theorem z0.st {N a b : Nat} {h : Heap} (z : z0 N a b h) : zSt N a b 0 h := ⟨z.1, z.2.1, z.2.2.1, .inl ⟨z.2.2.2.1, z.2.2.2.2⟩⟩
theorem upd_twice {H : Hp} {a : Addr} {o u : HO} : upd (upd H a o) a u = upd H a u := by
  funext b; unfold upd; split <;> rfl
theorem zl_list {X : Cx} {pins : List (Addr × Obj)} {A : Around} {N a b : Nat} {σ : L2.St} {H : Hp} {s : Shared} {E : Value → Shared → Prop} {Q : VK} (hh : A.handled = none) (ha : a < N) (hb : b < N) {xs ys : List V} {us ws : List Value} (hl : xs.length = ys.length) (hsz : xs.length ≤ 100000) (hu : Vals xs us) (hw : Vals ys ws)
    (hf : ∀ d ∈ [N + 4, N + 3, N, N + 1], FpOk X pins H d) (hl1 : s.heap.IsList a us.toArray) (hl2 : s.heap.IsList b ws.toArray) (st : z0 N a b s.heap) (hlt : N + 4 < s.heap.objs.size) (I : Inv X pins σ H s) (h : ∀ D, H D = none → zlT (xs.zip ys) [] D (upd H D (.lst [])) Q) :
    wpAny (model X.prog X.w) A (call (.type "list") [.ref (N + 4)]) (fun v s' => ∃ x H', Inv X pins σ H' s' ∧ RelV x v ∧ Q x H') E s := by
  generalize hSd : s.heap.objs.size = S at *
  have hS : (s.heap.push { cls := .type "list", data := .seq #[] }).get? S = some { cls := .type "list", dict := none, data := .seq #[] } := by rw [← hSd]; exact Heap.get?_push_size _ rfl
  refine callType_codes (Q₁ := fun obj s₁ => obj = .ref S ∧ s₁ = { s with heap := s.heap.push { cls := .type "list", data := .seq #[] } }) F.called_list (F.typeCall_list_1 _) F.entry_list_init
    (code_list_new _ ⟨by rw [← hSd], rfl⟩) fun obj s₁ h₁ => ?_
  obtain ⟨rfl, rfl⟩ := h₁
  refine ⟨⟨_, hS, rfl⟩, F.args_list_init_2 _ _, ?_⟩
  have hp0 : H S = none := I.hok.fresh (Nat.le_of_eq hSd)
  have hS0 : ∀ o, s.heap.get? S ≠ some o := fun o e => absurd (Heap.lt_size e) (by rw [hSd]; exact Nat.lt_irrefl _)
  have I1 : Inv X pins σ (upd H S (.lst [])) { s with heap := s.heap.push { cls := .type "list", data := .seq #[] } } := I.laid (t' := s.toks) (fun c o e => Heap.get?_push_of_some _ e) (Nat.le_of_eq hSd) (show ObjOk X.prog X.w _ _ _ (.lst []) from ⟨Nat.zero_le _, [], 0, .nil, hS⟩)
  show wpAny _ A.in1.in1 (do let old ← Builtin.List.listItems (.ref S); Builtin.List.listUpdate (.ref S) (fun _ => #[]); letGo old.toList.reverse; Builtin.List.listExtendWith (.ref S) (.ref (N + 4)) .none) _ _ _
  refine wpAny_bind ?_
  unfold Builtin.List.listItems
  refine wpAny_bind (wpAny_seqItems hS rfl (wpAny_pure ?_))
  show wpAny _ A.in1.in1 (updateSeq S (fun _ => #[]) >>= fun _ => letGo (#[] : Array Value).toList.reverse >>= fun _ => Builtin.List.listExtendWith (.ref S) (.ref (N + 4)) .none) _ _ _
  refine wpAny_bind (wpAny_updateSeq hS rfl ?_)
  have hS₂ := Heap.get?_update_self (Obj.mapSeq (fun _ => (#[] : Array Value))) hS rfl
  have k2 : ∀ c o, c ≠ S → s.heap.get? c = some o → ((s.heap.push { cls := .type "list", data := .seq #[] }).update S (Obj.mapSeq fun _ => (#[] : Array Value))).get? c = some o := fun c o hc e => (Heap.get?_update_other _ _ (Ne.symm hc)).trans (Heap.get?_push_of_some _ e)
  refine wpAny_bind (wpAny_letGo ?_)
  have hT : ∀ g : Heap, (∀ c o, c ≠ S → s.heap.get? c = some o → g.get? c = some o) → ∀ tk, (⟨g, s.gens, s.drawn, tk, s.os⟩ : Shared).TypeIs (.ref (N + 4)) "zip" := fun g k tk => ⟨_, k _ _ (ne_a (by omega)) st.2.2.2.1, rfl⟩
  unfold Builtin.List.listExtendWith
  refine wpAny_bind (wpAny_typeOf (hT _ k2 _) ?_)
  have h1 : Builtin.List.listSameRef (.ref S) (.ref (N + 4)) = false := by
    have : S ≠ N + 4 := by omega
    simp [Builtin.List.listSameRef, this]
  have h2 : (Value.type "zip" == Value.type "list") = false := by decide
  have h3 : (Value.type "zip" == Value.type "tuple") = false := by decide
  simp only [h1, h2, h3, Bool.or_false, Bool.false_eq_true, if_false]
  have zk2 := st.keep (h' := (s.heap.push { cls := .type "list", data := .seq #[] }).update S (Obj.mapSeq fun _ => (#[] : Array Value))) fun c o hc e => k2 c o (ne_a (by omega)) e
  refine wpAny_bind (wpAny_pyIter_zip zk2.2.2.2.1 ?_)
  refine wpAny_bind (wpAny_holding ?_)
  unfold Builtin.List.listLengthHint
  refine wpAny_bind (wpAny_specialOf (hT _ k2 _) zip_no_len ?_)
  show wpAny _ A.in1.in1 (specialOf (Value.ref (N + 4)) (Str.ofString "__length_hint__") >>= _) _ _ _
  refine wpAny_bind (wpAny_specialOf (hT _ k2 _) zip_no_hint ?_)
  refine wpAny_pure ?_
  show wpAny _ A.in1.in1 (rule "list.extend.makes-room" >>= fun _ => Builtin.List.listTouch (.ref S) >>= fun _ =>
    again (.builtin "list.extend.loop" ⟨[.ref S, .ref (N + 4), .none], []⟩)) _ _ _
  refine wpAny_bind (wpAny_rule ?_)
  refine wpAny_bind ?_
  show wpAny _ A.in1.in1 (updateSeq S (·.push .none) >>= fun _ => updateSeq S (·.pop)) _ _ _
  refine wpAny_bind (wpAny_updateSeq hS₂ rfl ?_)
  have hS₃ := Heap.get?_update_self (Obj.mapSeq (·.push Value.none)) hS₂ rfl
  refine wpAny_updateSeq (hz := by seq_fits) hS₃ rfl ?_
  have hS₄ := Heap.get?_update_self (Obj.mapSeq (·.pop)) hS₃ rfl
  have k4 : ∀ c o, c ≠ S → s.heap.get? c = some o → ((((s.heap.push { cls := .type "list", data := .seq #[] }).update S (Obj.mapSeq fun _ => (#[] : Array Value))).update S (Obj.mapSeq (·.push Value.none))).update S (Obj.mapSeq (·.pop))).get? c = some o := fun c o hc e =>
    (Heap.get?_update_other _ _ (Ne.symm hc)).trans ((Heap.get?_update_other _ _ (Ne.symm hc)).trans (k2 c o hc e))
  have zk4 := st.keep (h' := (((s.heap.push { cls := .type "list", data := .seq #[] }).update S (Obj.mapSeq fun _ => (#[] : Array Value))).update S (Obj.mapSeq (·.push Value.none))).update S (Obj.mapSeq (·.pop))) fun c o hc e => k4 c o (ne_a (by omega)) e
  generalize (((s.heap.push { cls := .type "list", data := .seq #[] }).update S (Obj.mapSeq fun _ => (#[] : Array Value))).update S (Obj.mapSeq (·.push Value.none))).update S (Obj.mapSeq (·.pop)) = g4 at hS₄ k4 zk4 ⊢
  have kall : ∀ c o, s.heap.get? c = some o → g4.get? c = some o := fun c o e => k4 c o (fun q => hS0 o (q ▸ e)) e
  have I4 : Inv X pins σ (upd H S (.lst [])) { s with heap := g4 } := I.laid (t' := s.toks) kall (Nat.le_of_eq hSd) (show ObjOk X.prog X.w _ _ _ (.lst []) from ⟨Nat.zero_le _, [], _, .nil, hS₄⟩)
  refine wpAny_pure ⟨plainId_quiet F.plain_extend_loop _, zl_loop (σ := σ) (pins := pins) (A := A.in1) hh ha hb hlt (us := us) (ws := ws) (by rw [← hu.length]; exact hsz) .none (xs.zip ys) 0 _ (upd H S (.lst [])) [] #[] _ ?_ ?_ ?_ ?_ ?_ zk4.st I4 upd_same hS₄ .nil rfl ?_⟩
  · rw [List.length_zip, ← hl, Nat.min_self, Nat.zero_add]; exact hu.length
  · intro j x y hj
    rw [List.getElem?_zip_eq_some] at hj
    obtain ⟨u, h5, h6⟩ := hu.get hj.1
    obtain ⟨v, h7, h8⟩ := hw.get hj.2
    rw [Nat.zero_add]
    exact ⟨u, v, h5, h7, h6, h8⟩
  · intro d hd
    have h5 := hf d hd
    have hdS : d ≠ S := by simp at hd; omega
    exact ⟨by rw [upd_ne hdS]; exact h5.1, h5.2⟩
  · exact hl1.at fun o e => kall _ o e
  · exact hl2.at fun o e => kall _ o e
  · have h5 := h S hp0
    have key : ∀ (r : List (V × V)) (acc : List V) (H' : Hp) (Q Q' : VK), (∀ v H2, v = .ref S → Q v H2 → Q' v H2) → zlT r acc S H' Q → zlT r acc S H' Q' := fun r => by
      induction r with
      | nil => exact fun acc H' Q Q' k z => k _ _ rfl z
      | cons q r ih =>
        obtain ⟨x, y⟩ := q
        exact fun acc H' Q Q' k z T hT => ih _ _ _ _ k (z T hT)
    exact key _ _ _ _ _ (fun v H2 e q => ⟨e, fun s' I' => ⟨rfl, v, H2, I', by rw [e]; rfl, q⟩⟩) h5
def tLstZip (K : PySem.W.Frag) (ta : TA) : TE := fun σ H Q => ta σ H fun vs H1 => ∃ (a b : Addr) (xs ys : List V), vs = [.ref a, .ref b] ∧ SqF K false H1 a xs ∧ SqF K false H1 b ys ∧ xs.length = ys.length ∧ xs.length ≤ 100000 ∧ ∀ D, H1 D = none → zlT (xs.zip ys) [] D (upd H1 D (.lst [])) Q
theorem pe_listZip {X : Cx} {K : PySem.W.Frag} {e e2 : Expr} {ta : TA} {p pos p2 pos2 : Pos} (hK : X.K = K) (hc : X.calm = true) (hgl : Gl X "list") (hml : X.mg "list" = none) (hg : Gl X "zip") (hm : X.mg "zip" = none) (ha : PA X [e, e2] ta)
    (hs : starEach [e, e2] X.env = (false, eval e X.env) :: starEach [e2] X.env := by rfl) (hp : (backTo pos2 (starEach [e2] X.env)).any (·.1) = false := by rfl)
    (na : starEach [.Call (.Name "zip" p2) [e, e2] [] pos2] X.env = (false, eval (.Call (.Name "zip" p2) [e, e2] [] pos2) X.env) :: starEach [] X.env := by rfl) :
    PE X (.Call (.Name "list" p) [.Call (.Name "zip" p2) [e, e2] [] pos2] [] pos) (tLstZip K ta) := by
  subst hK
  refine ⟨fun pins s σ H Q I h => ?_⟩
  refine Call_ (ld_blt I hgl hml PyProof.Rows.boot_list (PyProof.Rows.callWith_type1 (args_cons (Call_ (ld_blt I hg hm PyProof.Rows.boot_zip (PyProof.Rows.callWith_type1 (thn (ha.run pos2 pins s σ H _ I h) fun us s1 hv => ?_) hs hp))) na) na))
  obtain ⟨vs, H1, I1, r1, a, b, xs, ys, ex, q1, q2, hl, hz, q3⟩ := hv
  subst ex
  obtain ⟨u, v, rfl, ra, rb⟩ : ∃ u v, us = [u, v] ∧ RelV (.ref a) u ∧ RelV (.ref b) v := by
    cases r1 with
    | cons h1 h2 =>
      cases h2 with
      | cons h2 h3 =>
        cases h3
        exact ⟨_, _, rfl, h1, h2⟩
  cases ra
  cases rb
  obtain ⟨us, v1, p1, l1⟩ := seqF I1 q1
  obtain ⟨ws, v2, p2, l2⟩ := seqF I1 q2
  refine zip_begins2 (beginsF false a us.toArray) (beginsF false b ws.toArray) p1 p2 fun h' y1 y2 y3 y4 y5 y6 y7 => ?_
  refine args_nil ?_
  have I2 : Inv X pins σ H1 { s1 with heap := h' } := I1.kept (t' := s1.toks) y7
  refine zl_list (N := s1.heap.objs.size) (I1.ok.hd hc) l1 l2 hl hz v1 v2 (fun d hd => ?_) ((show s1.heap.IsList a us.toArray from p1).at fun o e => y7 _ o e) ((show s1.heap.IsList b ws.toArray from p2).at fun o e => y7 _ o e) ⟨y2, startF_at (f := false) y4, startF_at (f := false) y5, y1, _, _, y3⟩ (by show _ < h'.objs.size; omega) I2 q3
  have hle : s1.heap.objs.size ≤ d := by simp at hd; omega
  exact I1.fpOk hle (I1.hok.fresh hle)
end Mv

set_option Elab.async false
set_option linter.all false
set_option maxRecDepth 100000
set_option maxHeartbeats 4000000
/-! list(zip(a, b)) over data; dicts with pairs as keys by any expression. -/
namespace Mv
open PySem PySem.Spec PyProof.Rows L2
section
variable {K : PySem.W.Frag} {J : Jm} {M : Mm} {MV : Mh} {env : List Sl} {D : DM} {ta : TA}
theorem zl_data {J : Jm} {G0 H0 : Hp} (w0 : Wf J G0 H0) {p : Addr} (hp : H0 p = none) (hj : p ∉ J.ms) {Q : VK} : ∀ (xs ys : List V) (ds es : List Dt) (G H : Hp) (acc : List V) (ad : List Dt), xs.length = ys.length → Da K G xs ds → Da K G ys es → Nx J G0 H0 G H → G p = none → H p = some (.lst acc) → Da K G acc ad →
    (∀ G' H' vs, Nx J G0 H0 G' H' → G' p = none → H' p = some (.lst vs) → Da K G' vs (ad ++ zipD ds es) → Q (.ref p) H') → zlT (xs.zip ys) acc p H Q
  | [], ys, ds, es, G, H, acc, ad, hl, r1, r2, n, hG, hH, r, q => by
    cases r1
    have : zipD ([] : List Dt) es = [] := rfl
    rw [this, List.append_nil] at q
    exact q G H acc n hG hH r
  | x :: xs, [], ds, es, G, H, acc, ad, hl, _, _, _, _, _, _, _ => by simp at hl
  | x :: xs, y :: ys, ds, es, G, H, acc, ad, hl, r1, r2, n, hG, hH, r, q => by
    match ds, es, r1, r2, q with
    | d :: ds, e :: es, .cons rx r1, .cons ry r2, q =>
    intro T hT
    have w := n.wf w0
    have n2 := w.new hT (.tup [x, y])
    have hpT : p ≠ T := fun z => by rw [z, hT] at hH; cases hH
    have hG2 : upd G T (.tup [x, y]) p = none := by rw [upd_ne hpT]; exact hG
    have hH2 : upd H T (.tup [x, y]) p = some (.lst acc) := by rw [upd_ne hpT]; exact hH
    have n3 := (n.trans n2).mut (o' := .lst (acc ++ [.ref T])) hp hG2 hj hH2
    refine zl_data w0 hp hj xs ys ds es _ _ (acc ++ [.ref T]) (ad ++ [pairD d e]) (by simpa using hl) (r1.mono n2.gg) (r2.mono n2.gg) n3 hG2 upd_same ((r.mono n2.gg).append (.cons (.tup (.inl (.inl upd_same)) (.cons (rx.mono n2.gg) (.cons (ry.mono n2.gg) .nil))) .nil)) fun G' H' vs n4 h1 h2 h3 => q G' H' vs n4 h1 h2 ?_
    rw [List.append_assoc] at h3
    exact h3
theorem evm_listZip {R : Dt → Mm → Prop} (h : EdM K J M env D ta fun zs M' => ∃ a b ds es, zs = [.ptr a, .ptr b] ∧ M' a = some (.lst ds) ∧ M' b = some (.lst es) ∧ ds.length = es.length ∧ ds.length ≤ 100000 ∧ ∀ p, M' p = none → R (.ptr p) (updM M' p (.lst (zipD ds es)))) :
    EvM K J M env D (tLstZip K ta) R := fun MV0 MV GB B G H σ a0 x Q q =>
  h MV0 MV GB B G H σ a0 x _ fun vs zs M' MV' G1 H1 sg a1 rs ⟨a, b, ds, es, ez, ha, hb, hl, hz, hR⟩ => by
    subst ez
    cases rs with
    | cons r1 r2 =>
    cases r2 with
    | cons r2 r3 =>
    cases r3
    cases r1
    cases r2
    obtain ⟨us, e1, e2, t1⟩ := a1.wf.lstM ha
    obtain ⟨ws, e3, e4, t2⟩ := a1.wf.lstM hb
    refine ⟨a, b, us, ws, rfl, .inl (.inl e2), .inl (.inl e4), by rw [t1.length, t2.length, hl], by rw [t1.length]; exact hz, fun p hp => ?_⟩
    have hjD : p ∉ J.ms := (not_jt.mp (a1.wf.notin hp)).1
    have hn : p ∉ (Jt K J MV' M').ms := a1.wf.notin hp
    have n0 := a1.wf.newM hp (.lst [])
    refine zl_data a1.wf hp hn us ws ds es G1 _ [] [] (by rw [t1.length, t2.length, hl]) t1 t2 n0 (a1.wf.free hp) upd_same .nil fun G' H' vs n hG hH r => ?_
    have hH0 : H p = none := by
      cases z : H p with
      | none => rfl
      | some o => exact absurd hp (sg.th p (by rw [z]; simp))
    have nq := nxm_put (ho := .lst vs) (.inr hH0) (sg.trans (.of n))
    have w7 : Wf (Jt K J (upd MV' p (.lst vs)) (updM M' p (.lst (zipD ds es)))) G' H' := (n.wf a1.wf).put hjD hG hH (.lst r)
    exact q (.ref p) (.ptr p) _ _ G' H' nq (a0.thenM nq w7) (.ptr _) (hR p (a1.wf.none_ hp).2)
end
end Mv

set_option Elab.async false
set_option linter.all false
set_option maxRecDepth 100000
set_option maxHeartbeats 4000000
/-! list(range(i, j)). -/
namespace Mv
open PySem PySem.Spec PyProof.Rows L2
theorem em_listRg2 {K : PySem.W.Frag} {J : Jm} {env : List Sl} {ta tb : TE} {R : List Dt → Prop} (h : Ev K J env ta fun x => Ev K J env tb fun y => ∃ i n : Nat, x = .int (i : Int) ∧ y = .int ((i : Int) + (n : Int)) ∧ i ≤ 100000 ∧ n ≤ 100000 ∧ R ((List.range n).map fun k => Dt.int ((i : Int) + ((k : Nat) : Int)))) : Em K J env (tLstRg (tRg2 ta tb)) R := fun B G H σ w E Q q =>
  h B G H σ w E _ fun v x G1 H1 n1 r1 h2 => h2 B G1 H1 σ (n1.wf w) (E.mono n1) _ fun u y G2 H2 n2 r2 ⟨i, n, e1, e2, hi, hn, k⟩ => by
    subst e1 e2
    cases r1
    cases r2
    have n12 := n1.trans n2
    refine ⟨_, _, rfl, rfl, RgOk.of_le (by omega) (by omega) (by omega) (by omega), fun p hp => ?_⟩
    have n3 := (n12.wf w).newM hp (.lst (rgV (i : Int) ((i : Int) + (n : Int))))
    have e : rgV (i : Int) ((i : Int) + (n : Int)) = (List.range n).map fun k => V.int ((i : Int) + ((k : Nat) : Int)) := by
      unfold rgV
      rw [show ((i : Int) + (n : Int) - (i : Int)).toNat = n by omega]
    have hp0 : H p = none := by
      cases q : H p with
      | none => rfl
      | some o => exact absurd hp (n12.th p (by rw [q]; simp))
    refine q p _ _ G2 _ (n12.trans n3) ((n12.wf w).free hp) hp0 upd_same ?_ k
    rw [e]
    have : (List.range n).map (fun k => V.int ((i : Int) + ((k : Nat) : Int))) = ((List.range n).map fun k => (i : Int) + ((k : Nat) : Int)).map V.int := by rw [List.map_map]; rfl
    rw [this]
    have : (List.range n).map (fun k => Dt.int ((i : Int) + ((k : Nat) : Int))) = ((List.range n).map fun k => (i : Int) + ((k : Nat) : Int)).map Dt.int := by rw [List.map_map]; rfl
    rw [this]
    exact Da.ints
end Mv

set_option Elab.async false
set_option linter.all false
set_option maxRecDepth 100000
set_option maxHeartbeats 4000000
/-! for k, v in d.items(), d a dict whose keys are tuples within tuples: the hand layer's side. -/
namespace Mv
open PySem PySem.Spec PyProof.Rows L2
/-- the pairs of such a dict, each a new tuple; the dict is locked -/
def ItitN (P : Program) (w : World) (d a : Addr) (o : Obj) (ks : List (NestedKey × Addr × V)) : It :=
  ⟨fun i H => H d = some (.frz o (ndO P w a ks)) ∧ i < ks.length, fun i H x H' => ∃ (T : Addr) (k : NestedKey) (q : Addr) (v : V), ks[i]? = some (k, q, v) ∧ x = .ref T ∧ H T = none ∧ H' = upd H T (.tup [.ref q, v]), fun i H => H d = some (.frz o (ndO P w a ks)) ∧ ks.length ≤ i⟩
section
variable {X : Cx} {pins : List (Addr × Obj)} {σ : L2.St} {H : Hp} {s : Shared} {d a : Addr} {o : Obj}
theorem frzN {ks : List (NestedKey × Addr × V)} (I : Inv X pins σ H s) (h : H d = some (.frz o (ndO X.prog X.w a ks))) :
    (d == sysModules) = false ∧ s.heap.get? d = some o ∧ o.ExactDict ∧ ∃ (es : Array DictEntry) (ep : Nat), o.data = .dict es ep ∧ es.size = ks.length ∧
      ∀ (i : Nat) (k : NestedKey) (q : Addr) (v : V), ks[i]? = some (k, q, v) → ∃ en : DictEntry, es[i]? = some en ∧ en.key = .ref q ∧ RelV v en.val := by
  obtain ⟨hd, x⟩ := I.hok d _ h
  have e := nd_addr x
  subst e
  obtain ⟨⟨hm, o', es, ep, xs, ho, hx, hdt, he, _, pr⟩, _⟩ := x
  rw [hd] at ho
  cases ho
  refine ⟨hm, hd, hx, es, ep, hdt, ?_, fun i k q v e => ?_⟩
  · have l1 : es.size = xs.length := size_of_entries he
    have l2 : ks.length = xs.length := Paired.length pr
    omega
  · obtain ⟨b, hb, e1, e2, e3⟩ := L2.paired_get pr e
    have z := entry_at he i
    rw [hb] at z
    refine ⟨_, z, ?_, e3⟩
    have e2 : q = b.2.1 := e2
    rw [e2]
    rfl
end
section
variable {P : Program} {w : World} {K : PySem.W.Frag} {d a : Addr} {o : Obj} {es : Array DictEntry} {ep : Nat}
theorem turn_itemsN {ks : List (NestedKey × Addr × V)} {elts : List Expr} {kk : Nat} {tpos : Pos} (it : Addr) (hod : o.data = .dict es ep) :
    Turn P w K (.Tuple elts kk tpos) (ItitN P w d a o ks) [it] it (fun i h => ∃ ok ov, IsItemIter h it d i ks.length ep ok ov) where
  mem := by simp
  obj := fun i h st b hb => by
    have e : b = it := by simpa using hb
    subst e
    obtain ⟨ok, ov, e⟩ := st
    exact ⟨_, e, fun v z => nomatch z⟩
  keep := fun i h h' st k => let ⟨ok, ov, e⟩ := st; ⟨ok, ov, k it (by simp) _ e⟩
  item := by
    intro X hP hw hK hc i pins s σ H E I hf st hg
    subst hP hw hK
    obtain ⟨hd, hi⟩ := hg
    obtain ⟨hs, hgd, hx, es', ep', hdt, hsz, hent⟩ := frzN I hd
    obtain ⟨rfl, rfl⟩ := L2.dict_ep hod hdt
    obtain ⟨⟨k, q, v⟩, hkv⟩ : ∃ p, ks[i]? = some p := ⟨ks[i], List.getElem?_eq_getElem hi⟩
    obtain ⟨en, hen, hkey, ru⟩ := hent i k q v hkv
    obtain ⟨ok, ov, he⟩ := st
    rw [← hsz] at he
    have hies : i < es'.size := by rw [hsz]; exact hi
    have een : es'[i] = en := Option.some.inj ((Array.getElem?_eq_getElem hies).symm.trans hen)
    have hlt : it < s.heap.objs.size := Heap.lt_size he
    refine DT.nextI he ⟨o, hgd, hx, hdt⟩ hies fun h' ho hT hz hk => ?_
    rw [een, hkey] at ho hT
    refine ⟨_, rfl, wpAny_letOwnedTupleGo_items (s := { s with heap := h' }) ho fun h'' he' sb => ?_⟩
    have hT2 : h''.get? s.heap.objs.size = some { cls := .type "tuple", data := .seq #[.ref q, en.val] } := (sb.2 _ (Nat.ne_of_gt hlt)).trans hT
    have new : ObjOk X.prog X.w (upd H s.heap.objs.size (.tup [.ref q, v])) h'' s.heap.objs.size (.tup [.ref q, v]) :=
      ⟨by show 2 ≤ sizeLine; decide, [.ref q, en.val], .cons (show RelV (.ref q) (.ref q) from rfl) (.cons ru .nil), ⟨_, hT2, rfl, _, rfl⟩⟩
    have I1 : Inv X pins σ (upd H s.heap.objs.size (.tup [.ref q, v])) { s with heap := h'' } :=
      I.turnedNew (t' := s.toks) (ch := [it]) (fun b ob hb e => (sb.2 b (by simpa using hb)).trans (hk b ob (by simpa using hb) e)) hf (Nat.le_refl _) new
    refine ⟨.ref s.heap.objs.size, _, I1, rfl, ⟨_, k, q, v, hkv, rfl, I.hok.fresh (Nat.le_refl _), rfl⟩, ⟨.ref q, en.val, ?_⟩, fun b hb => ?_⟩
    · rw [← hsz]; exact he'
    · have e : b = it := by simpa using hb
      rw [e, upd_ne (Nat.ne_of_lt hlt)]
      exact (hf it (by simp)).1
  done := by
    intro X hP hw hK hc i pins s σ H E I hf st hg
    subst hP hw hK
    obtain ⟨hd, hi⟩ := hg
    obtain ⟨f0, f1, f2, f3, f4, f5⟩ := hf it (by simp)
    obtain ⟨hs, hgd, hx, es', ep', hdt, hsz, hent⟩ := frzN I hd
    obtain ⟨rfl, rfl⟩ := L2.dict_ep hod hdt
    obtain ⟨ok, ov, he⟩ := st
    rw [← hsz] at he
    exact DT.endI (I.ok.hd hc) he ⟨o, hgd, hx, hdt⟩ (by rw [hsz]; exact hi) fun h' eb => ⟨rfl, I.turned (t' := s.toks) (fun b ob hb e => eb b ob hb e) f0 f1 f3 f4 f5⟩
  self := fun A i s Q E st h => let ⟨_, _, e⟩ := st; PySem.W.kcp_self e h
end
/-- the dict is locked -/
def iItemsN (P : Program) (w : World) (td : TE) : TI := fun σ H R => td σ H fun x H1 => ∃ d a o ks, x = .ref d ∧ H1 d = some (.frz o (ndO P w a ks)) ∧ R (ItitN P w d a o ks) H1
section
variable {X : Cx} {e : Expr} {td : TE} {apos cpos : Pos}
theorem pi_itemsN {elts : List Expr} {kk : Nat} {tpos : Pos} (he : PE X e td) (hbase : attributeBase e "items" X.env (eval e X.env) = eval e X.env := by rfl) (hline : (apos.endLine == cpos.line) = true := by rfl) :
    PI X (.Tuple elts kk tpos) (.Call (.Attribute e "items" apos) [] [] cpos) (iItemsN X.prog X.w td) := by
  refine ⟨fun pins s σ H R I h => ?_⟩
  refine wpAny_Call_method (T := "dict") (id := "dict.items") hbase rfl hline F.plainAttrs_dict F.slot_dict_items F.type_dict_items (thn (he.run pins s σ H _ I h) fun u s1 ⟨x, H1, I1, rx, d, a, o, ks, ex, hd, q⟩ => ?_)
  subst ex
  obtain rfl : u = Value.ref d := rx
  obtain ⟨hs, hgd, hx, es, ep, hdt, hsz, hent⟩ := frzN I1 hd
  have raw : DT.Raw s1.heap d es ep := ⟨o, hgd, hx, hdt⟩
  refine ⟨raw.typeIs, fun b eb => ⟨o, by cases eb; exact hgd, hx.2.1⟩, ?_⟩
  have I2 : Inv X pins σ H1 { s1 with heap := s1.heap.push { cls := .type "dict_items", data := .fields #[.ref d] } } := I1.kept (t' := s1.toks) fun b ob q => Heap.get?_push_of_some _ q
  have fin : wpAny (model X.prog X.w) X.A (pyIter (.ref s1.heap.objs.size)) (PIE X pins σ (.Tuple elts kk tpos) R) X.xe { s1 with heap := s1.heap.push { cls := .type "dict_items", data := .fields #[.ref d] } } := by
    refine DT.iterI (d := d) ⟨_, Heap.get?_push_size _ rfl, rfl, rfl⟩ (raw.push _) (pi_one (tk := s1.toks) I2 _ (turn_itemsN _ hdt) ⟨.none, .none, ?_⟩ q)
    rw [← hsz]
    exact Heap.get?_push_size _ rfl
  show wpAny _ _ (callWith cpos (.builtin "dict.items") [.ref d] [] []) _ X.xe s1
  exact method_meetsIn F.slot_dict_items F.entry_dict_items rfl (PySem.evalArgs_none ⟨rfl, raw.typeIs, F.args_dict_items_1 _, _, DT.meetsItems (es := es) (ep := ep) hs, raw, fin⟩)
end
end Mv

set_option Elab.async false
set_option linter.all false
set_option maxRecDepth 100000
set_option maxHeartbeats 4000000
/-! for k, v in d.items(), d a told dict whose keys are tuples within tuples: the rules over data. -/
namespace Mv
open PySem PySem.Spec PyProof.Rows L2
mutual
/-- a key as data -/
def dtNk : NestedKey → Dt
  | .none => .non
  | .num i => .int i
  | .text x => .str x
  | .tup ks => .tup (dtNks ks)
def dtNks : List NestedKey → List Dt
  | [] => []
  | k :: ks => dtNk k :: dtNks ks
end
mutual
theorem NkV.dr {K : PySem.W.Frag} {G : Hp} : ∀ {k : NestedKey} {v : V}, NkV K G k v → Dr K G v (dtNk k)
  | _, _, .int i => by simp only [dtNk]; exact .int i
  | _, _, .text x => by simp only [dtNk]; exact .str x
  | _, _, .tup hs ha => by simp only [dtNk]; exact .tup hs (NkA.da ha)
theorem NkA.da {K : PySem.W.Frag} {G : Hp} : ∀ {ks : List NestedKey} {vs : List V}, NkA K G ks vs → Da K G vs (dtNks ks)
  | _, _, .nil => by simp only [dtNks]; exact .nil
  | _, _, .cons h t => by simp only [dtNks]; exact .cons (NkV.dr h) (NkA.da t)
end
theorem NdD.get {K : PySem.W.Frag} {G : Hp} : ∀ {ks : List (NestedKey × Addr × V)} {ds : List (NestedKey × Dt)}, NdD K G ks ds → ∀ {i : Nat} {k : NestedKey} {q : Addr} {v : V}, ks[i]? = some (k, q, v) → ∃ d, ds[i]? = some (k, d) ∧ NkV K G k (.ref q) ∧ Dr K G v d
  | _, _, .cons h _ r t, 0, k, q, v, e => by
    have e' := Option.some.inj (show some _ = some (k, q, v) from e)
    cases e'
    exact ⟨_, rfl, h, r⟩
  | _, _, .cons _ _ _ t, i + 1, k, q, v, e => by
    obtain ⟨d, a, b, c⟩ := NdD.get t (i := i) (by simpa using e)
    exact ⟨d, by simpa using a, b, c⟩
/-- J, and a dict at p that is locked -/
def JfN (K : PySem.W.Frag) (J : Jm) (P : Program) (w0 : World) (p a : Addr) (od : Obj) (ks : List (NestedKey × Addr × V)) (ds : List (NestedKey × Dt)) : Jm where
  ms := fun b => b ∈ J.ms ∨ b = p
  ok := fun H => J.ok H ∧ p ∉ J.ms ∧ H p = some (.frz od (ndO P w0 a ks))
  st := fun H H' ⟨a, b, c⟩ k => ⟨J.st H H' a fun x hx => k x (.inl hx), b, by rw [k p (.inr rfl)]; exact c⟩
  hd := J.hd
  hm := fun k e => .inl (J.hm k e)
  hg := fun k H e o => J.hg k H e o.1
  hp := fun k H H' e ⟨a, b, c⟩ o' q => ⟨J.hp k H H' e a o' fun x hx hn => q x (.inl hx) hn, b, by
    rw [q p (.inr rfl) fun z => b (by rw [z]; exact J.hm k e)]; exact c⟩
  tr := fun G => J.tr G ∧ NdD K G ks ds
  trm := fun G G' e ⟨a, b⟩ => ⟨J.trm G G' e a, b.mono e⟩
def cutH (MV : Mh) (p : Addr) : Mh := fun b => if b = p then none else MV b
def cutM (M : Mm) (p : Addr) : Mm := fun b => if b = p then none else M b
theorem cutH_ne {MV : Mh} {p b : Addr} (h : b ≠ p) : cutH MV p b = MV b := if_neg h
theorem cutM_ne {M : Mm} {p b : Addr} (h : b ≠ p) : cutM M p b = M b := if_neg h
theorem cutH_some {MV : Mh} {p b : Addr} (h : cutH MV p b ≠ none) : b ≠ p ∧ MV b ≠ none := by
  unfold cutH at h
  by_cases e : b = p
  · rw [if_pos e] at h; exact absurd rfl h
  · rw [if_neg e] at h; exact ⟨e, h⟩
section
variable {K : PySem.W.Frag} {J : Jm} {M : Mm} {env : List Sl} {D : DM} {ts : TS} {P : Program} {w0 : World} {p : Addr} {ds : List (NestedKey × Dt)}
/-- while the statement runs the dict at p is locked: told no more, its items to be walked -/
theorem sm_lockN (hpl : plainE env = true) (hM : M p = some (.dn P w0 ds))
    (h : ∀ a od ks, SvM K (JfN K J P w0 p a od ks ds) (cutM M p) env ts { nx := fun M' e => plainE e = true ∧ D.nx (updM M' p (.dn P w0 ds)) e, rt := fun _ _ => False, xw := D.xw }) : SvM K J M env (tLock ts) D := fun MV0 MV GB B G H σ a E r => by
  obtain ⟨ad, ks, hv, hH, rq⟩ := a.wf.dnM hM
  have hpJ : p ∉ J.ms := a.wf.ok.2.1 p (by rw [hv]; simp)
  have hG : G p = none := (a.wf.ms p (.inr (by rw [hv]; simp))).1
  refine ⟨p, _, hH, trivial, fun od => ?_⟩
  have jok : J.ok (upd H p (.frz od (ndO P w0 ad ks))) := J.st H _ a.wf.ok.1 fun b hb => upd_ne fun z => hpJ (z ▸ hb)
  have w1 : Wf (Jt K (JfN K J P w0 p ad od ks ds) (cutH MV p) (cutM M p)) G (upd H p (.frz od (ndO P w0 ad ks))) := by
    refine ⟨fun b u e => ?_, ⟨⟨jok, hpJ, upd_same⟩, fun b hb => ?_, fun b o e => ?_⟩, fun m hm => ?_, ⟨a.wf.tr.1, rq⟩, fun b => ?_⟩
    · rw [upd_ne (ne_of_none e hG)]; exact a.wf.gh b u e
    · obtain ⟨h1, h2⟩ := cutH_some hb
      exact fun z => z.elim (a.wf.ok.2.1 b h2) h1
    · obtain ⟨h1, _⟩ := cutH_some (by rw [e]; simp : cutH MV p b ≠ none)
      rw [cutH_ne h1] at e
      rw [upd_ne h1]
      exact a.wf.ok.2.2 b o e
    · by_cases z : m = p
      · subst z; exact ⟨hG, by rw [upd_same]; simp⟩
      · have hm2 : m ∈ (Jt K J MV M).ms := by
          rcases hm with (hm | hm) | hm
          · exact .inl hm
          · exact absurd hm z
          · exact .inr (cutH_some hm).2
        rw [upd_ne z]
        exact a.wf.ms m hm2
    · by_cases z : b = p
      · subst z
        exact ⟨fun ob e => (by unfold cutM at e; rw [if_pos rfl] at e; cases e), fun _ => (by unfold cutH; rw [if_pos rfl])⟩
      · rw [cutM_ne z, cutH_ne z]; exact a.wf.tr.2 b
  have n1 : NxM (JfN K J P w0 p ad od ks ds) (cutH MV0 p) GB B (cutH MV p) G (upd H p (.frz od (ndO P w0 ad ks))) := by
    refine ⟨a.nx.gg, a.nx.fr, fun b o e hb hm => ?_, fun b hb => ?_, fun b hb => ?_, fun b hb => ?_⟩
    · have hbp : b ≠ p := fun z => hb (.inr z)
      rw [upd_ne hbp]
      rw [cutH_ne hbp] at hm
      exact a.nx.kp b o e (fun z => hb (.inl z)) hm
    · by_cases z : b = p
      · rw [z, upd_same]; simp
      · rw [upd_ne z]; exact a.nx.th b hb
    · obtain ⟨h1, h2⟩ := cutH_some hb
      rw [cutH_ne h1]
      exact a.nx.dm b h2
    · obtain ⟨h1, h2⟩ := cutH_some hb
      rw [cutH_ne h1]
      exact a.nx.dk b h2
  refine h ad od ks (cutH MV0 p) (cutH MV p) GB B G _ σ ⟨w1, n1, a.en.plain hpl (Same.refl _)⟩ _ ⟨fun M' MV' e G' H' σ' a2 ⟨hpe, hn⟩ => ?_, fun _ _ _ _ _ _ _ z => z.elim, fun _ _ _ _ _ _ _ z => z.elim, fun _ _ _ _ _ _ _ _ _ z => z.elim, fun _ _ _ _ _ _ _ _ _ _ _ _ _ z => z.elim⟩
  have w2 := a2.wf
  have hH2 : H' p = some (.frz od (ndO P w0 ad ks)) := w2.ok.1.2.2
  have hG2 : G' p = none := (w2.ms p (.inl (.inr rfl))).1
  have jok2 : J.ok (upd H' p (ndO P w0 ad ks)) := J.st H' _ w2.ok.1.1 fun b hb => upd_ne fun z => hpJ (z ▸ hb)
  have hmp : MV' p = none := by
    cases z : MV' p with
    | none => rfl
    | some o => exact absurd (.inr rfl) (w2.ok.2.1 p (by rw [z]; simp))
  refine ⟨hH2, r.nx (updM M' p (.dn P w0 ds)) (upd MV' p (ndO P w0 ad ks)) e G' _ σ' ⟨?_, ?_, a2.en.plain hpe (Same.refl _)⟩ hn⟩
  · refine ⟨fun b u e => ?_, ⟨jok2, fun b hb => ?_, fun b o e => ?_⟩, fun m hm => ?_, w2.tr.1.1, fun b => ?_⟩
    · rw [upd_ne (ne_of_none e hG2)]; exact w2.gh b u e
    · by_cases z : b = p
      · rw [z]; exact hpJ
      · rw [upd_ne z] at hb
        exact fun y => w2.ok.2.1 b hb (.inl y)
    · by_cases z : b = p
      · subst z; rw [upd_same] at e ⊢; exact e
      · rw [upd_ne z] at e ⊢; exact w2.ok.2.2 b o e
    · by_cases z : m = p
      · subst z; exact ⟨hG2, by rw [upd_same]; simp⟩
      · rw [upd_ne z]
        refine w2.ms m ?_
        rcases hm with hm | hm
        · exact .inl (.inl hm)
        · rw [upd_ne z] at hm; exact .inr hm
    · by_cases z : b = p
      · subst z
        rw [updM_same, upd_same]
        exact ⟨fun ob e => (by cases e; exact ⟨_, rfl, .dn w2.tr.1.2⟩), fun e => (by cases e)⟩
      · rw [updM_ne z, upd_ne z]; exact w2.tr.2 b
  · refine ⟨a2.nx.gg, a2.nx.fr, fun b o e hb hm => ?_, fun b hb => ?_, fun b hb => ?_, fun b hb => ?_⟩
    · by_cases z : b = p
      · subst z
        rcases a.nx.dm b (by rw [hv]; simp) with y | y
        · exact absurd hm y
        · rw [y] at e; cases e
      · rw [upd_ne z]
        exact a2.nx.kp b o e (fun y => y.elim hb z) (by rw [cutH_ne z]; exact hm)
    · by_cases z : b = p
      · rw [z, upd_same]; simp
      · rw [upd_ne z]; exact a2.nx.th b hb
    · by_cases z : b = p
      · subst z; exact a.nx.dm b (by rw [hv]; simp)
      · rw [upd_ne z] at hb
        have := a2.nx.dm b hb
        rw [cutH_ne z] at this
        exact this
    · by_cases z : b = p
      · rw [z, upd_same]; simp
      · rw [upd_ne z]
        exact a2.nx.dk b (by rw [cutH_ne z]; exact hb)
/-- the items of a locked dict -/
theorem eim_itemsN {M : Mm} {i : Nat} {a : Addr} {od : Obj} {ks : List (NestedKey × Addr × V)} {R : Mm → List Dt → Mm → Prop} (hi : env[i]? = some (.d (.ptr p))) (h : R A0 (ds.map fun x => .tup [dtNk x.1, x.2]) M) :
    EiM K (JfN K J P w0 p a od ks ds) M env D (iItemsN P w0 (tVar i)) R := fun MV0 MV GB B G H σ at_ x Q q => by
  obtain ⟨v, h1, r⟩ := at_.en.dat hi
  cases r
  have hlen := at_.wf.tr.1.2.len
  refine ⟨.ref p, h1, p, a, od, ks, rfl, at_.wf.ok.1.2.2, q _ A0 _ M MV G H NxM.refl at_ ag0 ?_ h⟩
  refine ⟨fun i MV M G1 H1 s w _ hi => ⟨w.ok.1.2.2, ?_⟩, fun MV M G1 H1 s w _ => ⟨w.ok.1.2.2, ?_⟩, fun i MV M G1 H1 x H2 s w _ hi y => ?_⟩
  · rw [List.length_map] at hi; omega
  · rw [List.length_map]; omega
  · obtain ⟨T, k, q, v, hk, rfl, hT, rfl⟩ := y
    obtain ⟨d, hd, hn, rv⟩ := w.tr.1.2.get hk
    have n2 := w.new hT (.tup [.ref q, v])
    refine ⟨_, _, n2, by rw [List.getElem?_map, hd]; rfl, .tup (.inl (.inl upd_same)) (.cons ((hn.mono n2.gg).dr) (.cons (rv.mono n2.gg) .nil))⟩
end
end Mv

set_option Elab.async false
set_option linter.all false
set_option maxRecDepth 100000
set_option maxHeartbeats 4000000
/-! Told dicts whose keys are tuples within tuples: {k: v for ..}, for k in d, d[k] of a locked one. -/
namespace Mv
open PySem PySem.Spec PyProof.Rows L2
section
variable {X : Cx} {pins : List (Addr × Obj)} {σ : L2.St} {H : Hp} {s : Shared} {d a : Addr} {o : Obj}
theorem nd_atF {ks : List (NestedKey × Addr × V)} (I : Inv X pins σ H s) (hH : H d = some (.frz o (ndO X.prog X.w a ks))) (hk : NdK X.K H ks) : (d == sysModules) = false ∧ ∃ xs, s.heap.DictOfH (nestedKind X.prog X.w) d xs ∧ NdR ks xs := by
  obtain ⟨_, x⟩ := I.hok d _ hH
  have e := nd_addr x
  subst e
  obtain ⟨⟨hm, o, es, ep, xs, h1, h2, h3, h4, h5, r⟩, _⟩ := x
  refine ⟨hm, xs, ⟨o, es, ep, h1, h2, h3, h4, fun x hx => ?_, h5⟩, r⟩
  obtain ⟨j, hj, e⟩ := List.getElem_of_mem hx
  obtain ⟨p, hp, e1, e2, _⟩ := L2.DX.pget r (by rw [List.getElem?_eq_getElem hj, e])
  have hp2 := hk p (List.mem_of_getElem? hp)
  rw [← e1, ← e2]
  exact ⟨hp2.1.is I rfl, hp2.2⟩
theorem nd_getItemF {A : Around} {E : Value → Shared → Prop} {Q : Value → Shared → Prop} {b : Addr} (hu : A.units + 9 < cLine) (I : Inv X pins σ H s) {ks : List (NestedKey × Addr × V)} {k : NestedKey} {v : V} (hH : H d = some (.frz o (ndO X.prog X.w a ks))) (hk : NdK X.K H ks) (hn : NkV X.K H k (.ref b)) (hd : k.depth ≤ 8) (hv : atN ks k = some v)
    (h : ∀ u s', Inv X pins σ H s' → RelV v u → Q u s') : wpAny (model X.prog X.w) A (getItem (.ref d) (.ref b)) Q E s := by
  obtain ⟨hm, xs, hx, r⟩ := nd_atF I hH hk
  obtain ⟨p, hp, rp⟩ := (NdR.at k r).1 v hv
  exact wpAny_getItem_heap (knd := nestedKind X.prog X.w) (show A.units + 1 + 8 < cLine by omega) ⟨hn.is I rfl, hd⟩ hx hp (h _ _ (I.tok _) rp)
end
/-- d[k], d locked -/
def tDGetFN (P : Program) (w : World) (K : PySem.W.Frag) (td ty : TE) : TE := fun σ H Q => td σ H fun x H1 => ty σ H1 fun y H2 => ∃ (p a b : Addr) (o : Obj) (ks : List (NestedKey × Addr × V)) (k : NestedKey) (v : V), x = .ref p ∧ y = .ref b ∧ H2 p = some (.frz o (ndO P w a ks)) ∧ NdK K H2 ks ∧ NkV K H2 k (.ref b) ∧ k.depth ≤ 8 ∧ atN ks k = some v ∧ Q v H2
theorem pe_dgetFN {X : Cx} {o i : Expr} {pos : Pos} {td ty : TE} (hu : X.A.units + 64 < cLine) (ho : PE X o td) (hi : PE X i ty) (hs : NoSl i) : PE X (.Subscript o i pos) (tDGetFN X.prog X.w X.K td ty) := by
  refine ⟨fun pins s σ H Q I h => ?_⟩
  refine subD_of PySem.F.slot_dict_getitem.lookup hs (thn (ho.run pins s σ H _ I h) fun u s1 ⟨x, H1, I1, rx, q1⟩ => thn (hi.run pins s1 σ H1 _ I1 q1) fun iv s2 ⟨y, H2, I2, ry, p, a, b, od, ks, k, v, ex, ey, hH, hk, hn, hd, hv, q2⟩ => ?_)
  subst ex ey
  obtain rfl : u = Value.ref p := rx
  obtain rfl : iv = Value.ref b := ry
  obtain ⟨_, xs, hx, _⟩ := nd_atF I2 hH hk
  exact ⟨hx.typeIs, nd_getItemF (by omega) I2 hH hk hn hd hv fun w' s3 I3 rw' => ⟨v, H2, I3, rw', q2⟩⟩
/-- the keys of such a dict, locked -/
def ItkN (P : Program) (w : World) (d a : Addr) (o : Obj) (ks : List (NestedKey × Addr × V)) : It :=
  ⟨fun i H => H d = some (.frz o (ndO P w a ks)) ∧ i < ks.length, fun i H x H' => H' = H ∧ ∃ (k : NestedKey) (q : Addr) (v : V), ks[i]? = some (k, q, v) ∧ x = .ref q, fun i H => H d = some (.frz o (ndO P w a ks)) ∧ ks.length ≤ i⟩
section
variable {P : Program} {w : World} {K : PySem.W.Frag} {tg : Expr} {d a : Addr} {o : Obj} {es : Array DictEntry} {ep : Nat}
theorem turn_keysN {ks : List (NestedKey × Addr × V)} (it : Addr) (hod : o.data = .dict es ep) : Turn P w K tg (ItkN P w d a o ks) [it] it (fun i h => h.IsKeyIter it d i ks.length ep) where
  mem := by simp
  obj := fun i h st b hb => by
    have e : b = it := by simpa using hb
    subst e
    obtain ⟨oi, e, c, dd⟩ := st
    exact ⟨oi, e, fun v z => by rw [dd] at z; cases z⟩
  keep := fun i h h' st k => st.at fun oi e => k it (by simp) oi e
  item := by
    intro X hP hw hK hc i pins s σ H E I hf st hg
    subst hP hw hK
    obtain ⟨hd, hi⟩ := hg
    obtain ⟨f0, f1, f2, f3, f4, f5⟩ := hf it (by simp)
    obtain ⟨hs, hgd, hx, es', ep', hdt, hsz, ent⟩ := frzN I hd
    obtain ⟨rfl, rfl⟩ := L2.dict_ep hod hdt
    obtain ⟨⟨k, q, v⟩, hkv⟩ : ∃ p, ks[i]? = some p := ⟨ks[i], List.getElem?_eq_getElem hi⟩
    obtain ⟨en, hen, hkey, _⟩ := ent i k q v hkv
    refine next_key_item st hgd hdt hsz hen fun h' st' sb => ?_
    have I1 : Inv X pins σ H { s with heap := h' } := I.turned (t' := s.toks) (fun b ob hb e => (sb.2 b hb).trans e) f0 f1 f3 f4 f5
    obtain ⟨oi, e, c, dd⟩ := id st'
    exact ⟨en.key, rfl, go_of (s := { s with heap := h' }) e c dd (by decide) ⟨.ref q, H, I1, hkey, ⟨rfl, k, q, v, hkv, rfl⟩, st', fun b hb => (hf b hb).1⟩⟩
  done := by
    intro X hP hw hK hc i pins s σ H E I hf st hg
    subst hP hw hK
    obtain ⟨hd, hi⟩ := hg
    obtain ⟨f0, f1, f2, f3, f4, f5⟩ := hf it (by simp)
    obtain ⟨hs, hgd, hx, es', ep', hdt, hsz, ent⟩ := frzN I hd
    obtain ⟨rfl, rfl⟩ := L2.dict_ep hod hdt
    exact next_key_end (I.ok.hd hc) st hgd hdt hsz hi fun h' eb => ⟨rfl, I.turned (t' := s.toks) (fun b ob hb e => eb b ob hb e) f0 f1 f3 f4 f5⟩
  self := fun A i s Q E st h => by
    refine wpAny_pyIter_slot st.typeIs F.slot_dict_keyiterator_iter (wpAny_call_entry F.slot_dict_keyiterator_iter st.typeIs F.entry_dict_keyiterator_iter ?_ (F.args_dict_keyiterator_iter_1 _))
    show wpAny _ _ (ret (.ref it)) _ _ s
    exact wpAny_pure ⟨_, rfl, "dict_keyiterator", _, st.typeIs, F.slot_dict_keyiterator_next.lookup, h⟩
end
def iKeysN (P : Program) (w : World) (td : TE) : TI := fun σ H R => td σ H fun x H1 => ∃ d a o ks, x = .ref d ∧ H1 d = some (.frz o (ndO P w a ks)) ∧ R (ItkN P w d a o ks) H1
theorem pi_keysN {X : Cx} {tg e : Expr} {td : TE} (he : PE X e td) : PI X tg e (iKeysN X.prog X.w td) := by
  refine ⟨fun pins s σ H R I h => ?_⟩
  refine thn (he.run pins s σ H _ I h) fun u s1 ⟨x, H1, I1, rx, d, a, o, ks, ex, hd, q⟩ => ?_
  subst ex
  obtain rfl : u = Value.ref d := rx
  obtain ⟨hs, hgd, hx, es, ep, hdt, hsz, ent⟩ := frzN I1 hd
  refine iter_keys hs hgd hx hdt (pi_one (tk := s1.toks) I1 _ (turn_keysN _ hdt) ⟨_, Heap.get?_push_size _ rfl, rfl, ?_⟩ q)
  rw [hsz] <;> rfl
/-! ### {k: v for ..} -/
theorem d_dictSetN {X : Cx} {pins : List (Addr × Obj)} {σ : L2.St} {H : Hp} {s : Shared} {E : Value → Shared → Prop} {D b : Addr} {ks : List (NestedKey × Addr × V)} {k : NestedKey} {v : V} {u r : Value} {Q : Unit → Shared → Prop} (hu : X.A.units + 64 < cLine) (I : Inv X pins σ H s) (hH : H D = some (ndO X.prog X.w D ks)) (hk : NdK X.K H ks) (hn : NkV X.K H k (.ref b)) (hd : k.depth ≤ 8)
    (ru : RelV (.ref b) u) (rv : RelV v r) (hz : ks.length ≤ sizeLine) (h : ∀ s', Inv X pins σ (upd H D (ndO X.prog X.w D (putN ks k b v))) s' → Q () s') : wpAny (model X.prog X.w) X.A (dictSet D u r) Q E s := by
  obtain rfl : u = Value.ref b := ru
  obtain ⟨hm, xs, hx, rr⟩ := nd_at I hH hk
  refine wpAny_dictSet_heap (knd := nestedKind X.prog X.w) (show X.A.units + 8 < cLine by omega) ⟨hn.is I rfl, hd⟩ hx (fun h' hx' hs => h _ ?_) (by rw [← nd_len rr]; exact hz)
  have hex : ∃ o, h'.get? D = some o := let ⟨o, _, _, e, _⟩ := hx'; ⟨o, e⟩
  exact I.write (t' := s.toks + _) (by rw [hH]; trivial) (.inl rfl) (fun c o hc e => (hs.2 c hc).trans e) hex (ndO_ok hm hx' (NdR.put rr rv))
def tDcN (P : Program) (w : World) (K : PySem.W.Frag) (wi : TI) (g : TG) (tt : TT) (tk tv : TE) (vs : List Nat) : TE := fun σ H Q => wi σ H fun J H1 => ∀ D, H1 D = none → ∃ W : Nat → Nat → Hp → Prop, (∃ m, W 0 m (upd H1 D (ndO P w D []))) ∧ ∀ i m H, W i m H →
  (J.stop i H ∧ Q (.ref D) H) ∨ (J.go i H ∧ ∃ Nx : Hp → Prop, (∀ H', Nx H' → ∃ m', m' < m ∧ W (i + 1) m' H') ∧ ∀ x H', J.yld i H x H' → g x (wipe σ vs) H' fun σ2 H2 => wipe σ2 vs = wipe σ vs ∧ tt σ2 H2 fun b H3 =>
    if b = true then tk σ2 H3 fun y H4 => tv σ2 H4 fun z H5 => ∃ (ks : List (NestedKey × Addr × V)) (q : Addr) (k : NestedKey), y = .ref q ∧ H5 D = some (ndO P w D ks) ∧ NdK K H5 ks ∧ NkV K H5 k (.ref q) ∧ k.depth ≤ 8 ∧ ks.length ≤ sizeLine ∧ Nx (upd H5 D (ndO P w D (putN ks k q z))) else Nx H3)
section
variable {X : Cx}
theorem dc_coreN {pins : List (Addr × Obj)} {s : Shared} {σ : L2.St} {H : Hp} {Q : VK} {kx vx tg iter : Expr} {ifs : List Expr} {scope : Scope} {own : List (Str × Nat)} {pos pos' : Pos} {wi : TI} {g : TG} {tt : TT} {tk tv : TE} {use : Option (Value → Sem Unit)} {Qf : Value → Shared → Prop}
    (hu : X.A.units + 64 < cLine) (hc : X.calm = true) (hN : X.N.Nodup) (I : Inv X pins σ H s) (hi : PI X tg iter wi) (ok : BlkOk X.N X.env.scope scope own)
    (hg : ∀ (s : Shared) (H : Hp) (C : Addr) (cl : List (Str × Addr)) (fp : List Addr), PG (X.blk s H scope (compEnvC scope cl C X.env) fp) tg g) (ht : ∀ (s : Shared) (H : Hp) (C : Addr) (cl : List (Str × Addr)) (fp : List Addr), PTs (X.blk s H scope (compEnvC scope cl C X.env) fp) ifs tt)
    (hk : ∀ (s : Shared) (H : Hp) (C : Addr) (cl : List (Str × Addr)) (fp : List Addr), PE (X.blk s H scope (compEnvC scope cl C X.env) fp) kx tk)
    (he : ∀ (s : Shared) (H : Hp) (C : Addr) (cl : List (Str × Addr)) (fp : List Addr), PE (X.blk s H scope (compEnvC scope cl C X.env) fp) vx tv) (hs : ∀ x, foldedSetIterable iter X.env x = pure x)
    (h : tDcN X.prog X.w X.K wi g tt tk tv (own.map (·.2)) σ H Q)
    (hRR : ∀ D C s' m H', Inv X pins σ H' s' → Q (.ref D) H' → s'.heap.Ns C m → FpOk X pins H' C → compPost (model X.prog X.w) X.A X.xe use Qf (.ref D) C (.ok .next) s') :
    wpAny (model X.prog X.w) X.A (comprehension (.DictComp kx vx [⟨tg, iter, ifs, 0⟩] scope pos) scope X.env pos' newDict false (eval iter X.env) use) Qf X.xe s := by
  have hfree : ∀ y ∈ scope.names, y.2 = .free → ∃ c, X.env.cells.lookup y.1 = some c := fun y hy e => by
    rcases ok.free y hy e with k | k
    · exact I.ok.has _ (.inl k)
    · exact I.ok.has _ (.inr k)
  refine wpAny_comprehension_free (use := use) rfl hs (closure_ok hfree) ok.kind (fun y hy e => by rw [ok.uniq y hy, e])
    (thn (hi.run pins s σ H _ I h) fun xv s1 hx => thn hx fun itv s2 h2 => ?_)
  obtain ⟨it, fp, tn, J, H2, e, I2, T, st2, f2, q⟩ := h2
  subst e
  refine wpAny_newObj_type (newEnv_comp ?_)
  generalize hD : s2.heap.objs.size = D
  have hDn : H2 D = none := I2.hok.fresh (Nat.le_of_eq hD)
  obtain ⟨W, ⟨m0, w0⟩, turn⟩ := q D hDn
  generalize hs3 : ({ s2 with heap := s2.heap.push { cls := .type "dict", data := .dict #[] } } : Shared) = s3
  have I3 : Inv X pins σ (upd H2 D (ndO X.prog X.w D [])) s3 := by
    rw [← hs3]
    refine I2.laid (t' := s2.toks) (fun b o e => Heap.get?_push_of_some _ e) (Nat.le_of_eq hD) ?_
    rw [← hD]
    exact nd_empty s2.heap I2.big
  have h3 : s3.heap = s2.heap.push { cls := .type "dict", data := .dict #[] } := by rw [← hs3]
  have sz : ∀ b ∈ fp, b < s2.heap.objs.size := fun b hb => by
    obtain ⟨o, e, _⟩ := T.obj _ _ st2 b hb
    exact Heap.lt_size e
  have f3 : ∀ b ∈ fp, FpOk X pins (upd H2 D (ndO X.prog X.w D [])) b ∧ b < s3.heap.objs.size := fun b hb => by
    have hlt := sz b hb
    refine ⟨⟨?_, (f2 b hb).2⟩, by rw [h3, Heap.size_push]; exact Nat.lt_succ_of_lt hlt⟩
    rw [upd_ne (by rw [← hD]; exact Nat.ne_of_lt hlt)]
    exact (f2 b hb).1
  have st3 : tn 0 s3.heap := T.keep _ _ _ st2 fun b _ o e => by rw [h3]; exact Heap.get?_push_of_some _ e
  have I4 := block_start I3 ok hN f3
  have pg := hg s3 (upd H2 D (ndO X.prog X.w D [])) s3.heap.objs.size (cellsFrom (s3.heap.objs.size + 1) scope.names (cloFrom X.env.cells scope.names [])) fp
  have pt := ht s3 (upd H2 D (ndO X.prog X.w D [])) s3.heap.objs.size (cellsFrom (s3.heap.objs.size + 1) scope.names (cloFrom X.env.cells scope.names [])) fp
  have pk := hk s3 (upd H2 D (ndO X.prog X.w D [])) s3.heap.objs.size (cellsFrom (s3.heap.objs.size + 1) scope.names (cloFrom X.env.cells scope.names [])) fp
  have pe := he s3 (upd H2 D (ndO X.prog X.w D [])) s3.heap.objs.size (cellsFrom (s3.heap.objs.size + 1) scope.names (cloFrom X.env.cells scope.names [])) fp
  show codeAny _ _ (.compStart (.DictComp kx vx [⟨tg, iter, ifs, 0⟩] scope pos) 0 (.ref it) (.ref D) (compEnvC scope (cellsFrom (s3.heap.objs.size + 1) scope.names (cloFrom X.env.cells scope.names [])) s3.heap.objs.size X.env)) (compPost (model X.prog X.w) X.A X.xe use Qf (.ref D) s3.heap.objs.size) { s3 with heap := pushCells (s3.heap.push { cls := .type "dict", data := .dict #[] }) scope.names }
  have nfp : ∀ b ∈ fp, (upd H2 D (ndO X.prog X.w D [])) b = none := fun b hb => (f3 b hb).1.1
  generalize hce : compEnvC scope (cellsFrom (s3.heap.objs.size + 1) scope.names (cloFrom X.env.cells scope.names [])) s3.heap.objs.size X.env = ce at I4 pg pt pk pe ⊢
  have cL : ce.locals = s3.heap.objs.size := by subst hce; rfl
  generalize hH3 : upd H2 D (ndO X.prog X.w D []) = H3 at I3 I4 pg pt pk pe w0 nfp f3
  generalize hs4 : ({ s3 with heap := pushCells (s3.heap.push { cls := .type "dict", data := .dict #[] }) scope.names } : Shared) = s4 at I4 ⊢
  have st4 : tn 0 s4.heap := T.keep _ _ _ st3 fun b _ o e => by rw [← hs4]; exact pushCells_keeps _ _ _ _ (Heap.get?_push_of_some _ e)
  have stat : ∀ {σ' : L2.St} {H' : Hp} {s' : Shared}, Inv (X.blk s3 H3 scope ce fp) [] σ' H' s' → (∀ b ∈ fp, H' b = none) → ∀ b ∈ fp, FpOk (X.blk s3 H3 scope ce fp) [] H' b := fun {σ' H' s'} I' hn b hb =>
    ⟨hn b hb, (I'.ok.exf b hb).1, I'.ok.exfs b hb, .inl hb, fun x c e => (I'.ok.exf b hb).2 x c e, fun p hp => absurd (show p ∈ ([] : List (Addr × Obj)) ++ [] from hp) (by simp)⟩
  have loop : codeAny (model X.prog X.w) X.A (.compLoop (.DictComp kx vx [⟨tg, iter, ifs, 0⟩] scope pos) 0 (.ref it) (.ref D) ce) (compPost (model X.prog X.w) X.A X.xe use Qf (.ref D) s3.heap.objs.size) s4 := by
    refine compLoop_anyD (fun n s' => ∃ i H', Inv (X.blk s3 H3 scope ce fp) [] (wipe σ (own.map (·.2))) H' s' ∧ tn i s'.heap ∧ (∀ b ∈ fp, H' b = none) ∧ W i n H') ?_ m0 ⟨0, H3, I4, st4, nfp, w0⟩
    rintro n s5 ⟨i, H5, I5, st5, n5, w5⟩
    rcases turn i n H5 w5 with ⟨stop, qq⟩ | ⟨go, Nx, hNx, step⟩
    · have td := T.done (X.blk s3 H3 scope ce fp) rfl rfl rfl hc i [] s5 _ H5 (fun _ _ => False) I5 (stat I5 n5) st5 stop
      refine thnF td fun r s6 ⟨hr, I6⟩ => ?_
      subst hr
      have I7 : Inv X pins σ H5 s6 := I3.call' (ch := fp) I6.os I6.base I6.hok I6.bare fun b hb => ⟨(f3 b hb).1.2.2.2.1, (f3 b hb).1.2.1, (f3 b hb).1.2.2.2.2.1, (f3 b hb).1.2.2.2.2.2⟩
      have nC : H5 s3.heap.objs.size = none := by
        have z : H5 ce.locals = none := I6.free
        rw [cL] at z
        exact z
      obtain ⟨m, hn, _⟩ := I6.loc
      have hn : s6.heap.Ns ce.locals m := hn
      rw [cL] at hn
      exact hRR D s3.heap.objs.size s6 m H5 I7 qq hn (I3.fpOk (Nat.le_refl _) nC)
    · have ti := T.item (X.blk s3 H3 scope ce fp) rfl rfl rfl hc i [] s5 _ H5 (fun _ _ => False) I5 (stat I5 n5) st5 go
      refine thnF ti fun r s6 ⟨u, hr, h6⟩ => ?_
      subst hr
      refine thnF h6 fun _ s7 ⟨x, H7, I7, r7, y7, st7, n7⟩ => ?_
      have I7' := I7.pinned (stat I7 n7) (T.obj _ _ st7)
      refine thnF (pg.run _ s7 _ H7 x u _ I7' r7 (step x H7 y7)) fun _ s8 ⟨σ8, H8, I8, hw8, q8⟩ => ?_
      refine thnF (pt.run _ s8 σ8 H8 _ I8 q8) fun b s9 ⟨H9, I9, q9⟩ => ?_
      have fin : ∀ {s' : Shared} {H' : Hp}, Inv (X.blk s3 H3 scope ce fp) ([] ++ pinsAt fp s7.heap) σ8 H' s' → Nx H' → ∃ m, m < n ∧ ∃ i H', Inv (X.blk s3 H3 scope ce fp) [] (wipe σ (own.map (·.2))) H' s' ∧ tn i s'.heap ∧ (∀ b ∈ fp, H' b = none) ∧ W i m H' := fun {s' H'} I' nx => by
        obtain ⟨m', hm, w'⟩ := hNx H' nx
        have pin' : ∀ b ∈ fp, ∀ o, s7.heap.get? b = some o → s'.heap.get? b = some o ∧ H' b = none := fun b hb o e =>
          let z := I'.pin (b, o) (List.mem_append_right _ (List.mem_append_right _ (mem_pinsAt hb e)))
          ⟨z.1, z.2.1⟩
        have hl : (wipe σ (own.map (·.2))).length = σ8.length := by rw [← hw8, wipe_length]
        refine ⟨m', hm, i + 1, H', (I'.unpinned (pins := [])).weak hl (fun j v e => ?_), T.keep _ _ _ st7 fun b hb o e => (pin' b hb o e).1, fun b hb => ?_, w'⟩
        · rw [← hw8] at e
          exact (wipe_some e).1
        · obtain ⟨o, e, _⟩ := T.obj _ _ st7 b hb
          exact (pin' b hb o e).2
      cases b with
      | false =>
        simp only [Bool.false_eq_true, if_false] at q9 ⊢
        exact fin I9 q9
      | true =>
        simp only [if_true] at q9 ⊢
        refine thnF (pk.run _ s9 σ8 H9 _ I9 q9) fun z s10 ⟨yk, H10, I10, r10, q10⟩ => ?_
        refine thnF (pe.run _ s10 σ8 H10 _ I10 q10) fun z2 s11 ⟨yv, H11, I11, r11, ks, bq, k, ek, hD11, hk11, hn11, hd11, hz11, nx⟩ => ?_
        subst ek
        exact d_dictSetN (X := X.blk s3 H3 scope ce fp) hu I11 hD11 hk11 hn11 hd11 r10 r11 hz11 fun s12 I12 => fin I12 nx
  exact codeAny_compStart_dict loop (T.self X.A 0 _ _ _ st4 loop)
theorem pe_dcN {kx vx tg iter : Expr} {ifs : List Expr} {scope : Scope} {own : List (Str × Nat)} {pos : Pos} {wi : TI} {g : TG} {tt : TT} {tk tv : TE} (hu : X.A.units + 64 < cLine) (hc : X.calm = true) (hN : X.N.Nodup) (hi : PI X tg iter wi) (ok : BlkOk X.N X.env.scope scope own)
    (hg : ∀ (s : Shared) (H : Hp) (C : Addr) (cl : List (Str × Addr)) (fp : List Addr), PG (X.blk s H scope (compEnvC scope cl C X.env) fp) tg g) (ht : ∀ (s : Shared) (H : Hp) (C : Addr) (cl : List (Str × Addr)) (fp : List Addr), PTs (X.blk s H scope (compEnvC scope cl C X.env) fp) ifs tt)
    (hk : ∀ (s : Shared) (H : Hp) (C : Addr) (cl : List (Str × Addr)) (fp : List Addr), PE (X.blk s H scope (compEnvC scope cl C X.env) fp) kx tk)
    (he : ∀ (s : Shared) (H : Hp) (C : Addr) (cl : List (Str × Addr)) (fp : List Addr), PE (X.blk s H scope (compEnvC scope cl C X.env) fp) vx tv) (hs : ∀ x, foldedSetIterable iter X.env x = pure x := by intro _; rfl) :
    PE X (.DictComp kx vx [⟨tg, iter, ifs, 0⟩] scope pos) (tDcN X.prog X.w X.K wi g tt tk tv (own.map (·.2))) := by
  refine ⟨fun pins s σ H Q I h => ?_⟩
  rw [arm_eval_DictComp]
  refine dc_coreN hu hc hN I hi ok hg ht hk he hs h fun D C s' m H' I' q hn f => ⟨m, hn, fun h'' sb => ?_⟩
  obtain ⟨f0, f1, f2, f3, f4, f5⟩ := f
  exact ⟨.ref D, H', I'.turned (t' := s'.toks) (fun b o hb e => (sb.2 b hb).trans e) f0 f1 f3 f4 f5, rfl, q⟩
theorem ps_setDcN {i : Nat} {y : Str} {py : Pos} {kx vx tg iter : Expr} {ifs : List Expr} {scope : Scope} {own : List (Str × Nat)} {pos spos : Pos} {wi : TI} {g : TG} {tt : TT} {tk tv : TE} (hu : X.A.units + 64 < cLine) (hc : X.calm = true) (hN : X.N.Nodup) (hi : X.N[i]? = some y) (hl : List.lookup y X.env.scope.names = some .local)
    (hs : swapsWith (.DictComp kx vx [⟨tg, iter, ifs, 0⟩] scope pos) (some (.Name y py)) spos.line X.env = pure true) (hI : PI X tg iter wi) (hB : BlkOk X.N X.env.scope scope own)
    (hG : ∀ (s : Shared) (H : Hp) (C : Addr) (cl : List (Str × Addr)) (fp : List Addr), PG (X.blk s H scope (compEnvC scope cl C X.env) fp) tg g)
    (hT : ∀ (s : Shared) (H : Hp) (C : Addr) (cl : List (Str × Addr)) (fp : List Addr), PTs (X.blk s H scope (compEnvC scope cl C X.env) fp) ifs tt)
    (hK : ∀ (s : Shared) (H : Hp) (C : Addr) (cl : List (Str × Addr)) (fp : List Addr), PE (X.blk s H scope (compEnvC scope cl C X.env) fp) kx tk)
    (hV : ∀ (s : Shared) (H : Hp) (C : Addr) (cl : List (Str × Addr)) (fp : List Addr), PE (X.blk s H scope (compEnvC scope cl C X.env) fp) vx tv)
    (hf : ∀ x : Value, foldedSetIterable iter X.env x = pure x := by intro x; rfl) : PS X (.Assign [.Name y py] (.DictComp kx vx [⟨tg, iter, ifs, 0⟩] scope pos) spos) (tAsg (tDcN X.prog X.w X.K wi g tt tk tv (own.map fun x => x.2)) (gName i)) := by
  refine ⟨fun pins s σ H D I h => ?_⟩
  rw [PySem.exec_Assign_Name_used _ _ _ _ hs]
  refine wpAny_bind (wpAny_standAt ?_)
  refine wpAny_bind ?_
  unfold PySem.evalThenUse
  refine wpAny_bind (thn (dc_coreN (use := some (assign (.Name y py) X.env)) (Qf := fun _ s' => ∃ σ' H', L2.Inv X pins σ' H' s' ∧ D.nx σ' H') hu hc hN I hI hB hG hT hK hV hf h fun Dd C s' m H' I' q hns fC => ?_) fun _ s' hx => ?_)
  · refine wpAny_assign_Name (store_ok2 (v := .ref Dd) I' hN hi (.inl hl) rfl (fun s'' I'' ⟨a, sb, ha⟩ => ⟨m, hns.sameBut sb ?_, fun h' sb2 => ⟨_, H', I''.turned (it := C) (fun b o hb e => (sb2.2 b hb).trans e) fC.1 fC.2.1 fC.2.2.2.1 fC.2.2.2.2.1 fC.2.2.2.2.2, q⟩⟩) (.inr hl))
    rcases ha with rfl | ha
    · exact fC.2.1
    · exact fun z => fC.2.2.2.2.1 _ _ ha z.symm
  · exact wpAny_pure (wpAny_pure hx)
end
end Mv

set_option Elab.async false
set_option linter.all false
set_option maxRecDepth 100000
set_option maxHeartbeats 4000000
/-! Told dicts whose keys are tuples within tuples: {k: v for ..}, for k in d, d[k] of a locked one, over data; min of a told list of pairs; defaults. -/
namespace Mv
open PySem PySem.Spec PyProof.Rows L2
section
variable {K : PySem.W.Frag} {J : Jm} {M : Mm} {env : List Sl} {D : DM} {te tk tv tl : TE} {tt : TT} {wi : TI} {g : TG} {vs : List Nat} {P : Program} {w0 : World} {p : Addr} {ds : List (NestedKey × Dt)}
/-- the same for an expression -/
theorem evm_lockN {R : Dt → Mm → Prop} (hpl : plainE env = true) (hM : M p = some (.dn P w0 ds))
    (h : ∀ a od ks, EvM K (JfN K J P w0 p a od ks ds) (cutM M p) env DX te fun d M' => R d (updM M' p (.dn P w0 ds))) : EvM K J M env D (tLockE te) R := fun MV0 MV GB B G H σ a x Q q => by
  obtain ⟨ad, ks, hv, hH, rq⟩ := a.wf.dnM hM
  have hpJ : p ∉ J.ms := a.wf.ok.2.1 p (by rw [hv]; simp)
  have hG : G p = none := (a.wf.ms p (.inr (by rw [hv]; simp))).1
  refine ⟨p, _, hH, trivial, fun od => ?_⟩
  have jok : J.ok (upd H p (.frz od (ndO P w0 ad ks))) := J.st H _ a.wf.ok.1 fun b hb => upd_ne fun z => hpJ (z ▸ hb)
  have w1 : Wf (Jt K (JfN K J P w0 p ad od ks ds) (cutH MV p) (cutM M p)) G (upd H p (.frz od (ndO P w0 ad ks))) := by
    refine ⟨fun b u e => ?_, ⟨⟨jok, hpJ, upd_same⟩, fun b hb => ?_, fun b o e => ?_⟩, fun m hm => ?_, ⟨a.wf.tr.1, rq⟩, fun b => ?_⟩
    · rw [upd_ne (ne_of_none e hG)]; exact a.wf.gh b u e
    · obtain ⟨h1, h2⟩ := cutH_some hb
      exact fun z => z.elim (a.wf.ok.2.1 b h2) h1
    · obtain ⟨h1, _⟩ := cutH_some (by rw [e]; simp : cutH MV p b ≠ none)
      rw [cutH_ne h1] at e
      rw [upd_ne h1]
      exact a.wf.ok.2.2 b o e
    · by_cases z : m = p
      · subst z; exact ⟨hG, by rw [upd_same]; simp⟩
      · have hm2 : m ∈ (Jt K J MV M).ms := by
          rcases hm with (hm | hm) | hm
          · exact .inl hm
          · exact absurd hm z
          · exact .inr (cutH_some hm).2
        rw [upd_ne z]
        exact a.wf.ms m hm2
    · by_cases z : b = p
      · subst z
        exact ⟨fun ob e => (by unfold cutM at e; rw [if_pos rfl] at e; cases e), fun _ => (by unfold cutH; rw [if_pos rfl])⟩
      · rw [cutM_ne z, cutH_ne z]; exact a.wf.tr.2 b
  have n1 : NxM (JfN K J P w0 p ad od ks ds) (cutH MV0 p) GB B (cutH MV p) G (upd H p (.frz od (ndO P w0 ad ks))) := by
    refine ⟨a.nx.gg, a.nx.fr, fun b o e hb hm => ?_, fun b hb => ?_, fun b hb => ?_, fun b hb => ?_⟩
    · have hbp : b ≠ p := fun z => hb (.inr z)
      rw [upd_ne hbp]
      rw [cutH_ne hbp] at hm
      exact a.nx.kp b o e (fun z => hb (.inl z)) hm
    · by_cases z : b = p
      · rw [z, upd_same]; simp
      · rw [upd_ne z]; exact a.nx.th b hb
    · obtain ⟨h1, h2⟩ := cutH_some hb
      rw [cutH_ne h1]
      exact a.nx.dm b h2
    · obtain ⟨h1, h2⟩ := cutH_some hb
      rw [cutH_ne h1]
      exact a.nx.dk b h2
  refine h ad od ks (cutH MV0 p) (cutH MV p) GB B G _ σ ⟨w1, n1, a.en.plain hpl (Same.refl _)⟩ xok0 _ fun v d M' MV' G' H' n a2 r k => ?_
  have w2 := a2.wf
  have hH2 : H' p = some (.frz od (ndO P w0 ad ks)) := w2.ok.1.2.2
  have hG2 : G' p = none := (w2.ms p (.inl (.inr rfl))).1
  have jok2 : J.ok (upd H' p (ndO P w0 ad ks)) := J.st H' _ w2.ok.1.1 fun b hb => upd_ne fun z => hpJ (z ▸ hb)
  have hmp : MV' p = none := by
    cases z : MV' p with
    | none => rfl
    | some o => exact absurd (.inr rfl) (w2.ok.2.1 p (by rw [z]; simp))
  have wE : Wf (Jt K J (upd MV' p (ndO P w0 ad ks)) (updM M' p (.dn P w0 ds))) G' (upd H' p (ndO P w0 ad ks)) := by
    refine ⟨fun b u e => ?_, ⟨jok2, fun b hb => ?_, fun b o e => ?_⟩, fun m hm => ?_, w2.tr.1.1, fun b => ?_⟩
    · rw [upd_ne (ne_of_none e hG2)]; exact w2.gh b u e
    · by_cases z : b = p
      · rw [z]; exact hpJ
      · rw [upd_ne z] at hb
        exact fun y => w2.ok.2.1 b hb (.inl y)
    · by_cases z : b = p
      · subst z; rw [upd_same] at e ⊢; exact e
      · rw [upd_ne z] at e ⊢; exact w2.ok.2.2 b o e
    · by_cases z : m = p
      · subst z; exact ⟨hG2, by rw [upd_same]; simp⟩
      · rw [upd_ne z]
        refine w2.ms m ?_
        rcases hm with hm | hm
        · exact .inl (.inl hm)
        · rw [upd_ne z] at hm; exact .inr hm
    · by_cases z : b = p
      · subst z
        rw [updM_same, upd_same]
        exact ⟨fun ob e => (by cases e; exact ⟨_, rfl, .dn w2.tr.1.2⟩), fun e => (by cases e)⟩
      · rw [updM_ne z, upd_ne z]; exact w2.tr.2 b
  have nE : NxM J MV G H (upd MV' p (ndO P w0 ad ks)) G' (upd H' p (ndO P w0 ad ks)) := by
    refine ⟨n.gg, fun b h1 h2 => n.fr b h1 ?_, fun b o e hb hm => ?_, fun b hb => ?_, fun b hb => ?_, fun b hb => ?_⟩
    · by_cases z : b = p
      · subst z; rw [upd_same]; simp
      · rw [upd_ne z]; exact h2
    · have z : b ≠ p := fun z => by rw [z, hv] at hm; cases hm
      rw [upd_ne z]
      refine n.kp b o (by rw [upd_ne z]; exact e) (fun y => y.elim hb z) (by rw [cutH_ne z]; exact hm)
    · by_cases z : b = p
      · rw [z, upd_same]; simp
      · rw [upd_ne z]; exact n.th b (by rw [upd_ne z]; exact hb)
    · by_cases z : b = p
      · subst z; exact .inl (by rw [hv]; simp)
      · rw [upd_ne z] at hb
        have := n.dm b hb
        rw [cutH_ne z, upd_ne z] at this
        exact this
    · by_cases z : b = p
      · rw [z, upd_same]; simp
      · rw [upd_ne z]; exact n.dk b (by rw [cutH_ne z]; exact hb)
  exact ⟨hH2, q v d _ _ G' _ nE (a.thenM nE wE) r k⟩
/-- the keys of a locked dict -/
theorem eim_keysN {M : Mm} {i : Nat} {a : Addr} {od : Obj} {ks : List (NestedKey × Addr × V)} {R : Mm → List Dt → Mm → Prop} (hi : env[i]? = some (.d (.ptr p))) (h : R A0 (ds.map fun x => dtNk x.1) M) :
    EiM K (JfN K J P w0 p a od ks ds) M env D (iKeysN P w0 (tVar i)) R := fun MV0 MV GB B G H σ at_ x Q q => by
  obtain ⟨v, h1, r⟩ := at_.en.dat hi
  cases r
  have hlen := at_.wf.tr.1.2.len
  refine ⟨.ref p, h1, p, a, od, ks, rfl, at_.wf.ok.1.2.2, q _ A0 _ M MV G H NxM.refl at_ ag0 ?_ h⟩
  refine ⟨fun i MV M G1 H1 s w _ hi => ⟨w.ok.1.2.2, ?_⟩, fun MV M G1 H1 s w _ => ⟨w.ok.1.2.2, ?_⟩, fun i MV M G1 H1 x H2 s w _ hi y => ?_⟩
  · rw [List.length_map] at hi; omega
  · rw [List.length_map]; omega
  · obtain ⟨e, k, q, v, hk, rfl⟩ := y
    subst e
    obtain ⟨d, hd, hn, rv⟩ := w.tr.1.2.get hk
    exact ⟨G1, _, w.nx, by rw [List.getElem?_map, hd]; rfl, hn.dr⟩
/-- d[k], d locked -/
theorem ev_dgetFN {MV : Mh} {M : Mm} {i : Nat} {a : Addr} {od : Obj} {ks : List (NestedKey × Addr × V)} {R : Dt → Prop} (hi : env[i]? = some (.d (.ptr p))) (h : Ev K (Jt K (JfN K J P w0 p a od ks ds) MV M) env tk fun x => ∃ xs k d, x = .tup xs ∧ nkD x = some k ∧ k.depth ≤ 8 ∧ atQ ds k = some d ∧ R d) :
    Ev K (Jt K (JfN K J P w0 p a od ks ds) MV M) env (tDGetFN P w0 K (tVar i) tk) R := fun B G H σ w E Q q => by
  obtain ⟨v, h1, r⟩ := E.dat hi
  cases r
  refine ⟨.ref p, h1, h B G H σ w E _ fun y x G1 H1 n1 rx ⟨xs, k, d, ex, hx, h8, hd, kx⟩ => ?_⟩
  subst ex
  have w1 := n1.wf w
  have t := w1.tr.1.2
  have hk := nk_dr rx hx
  cases rx with
  | tup s t' =>
    obtain ⟨v, hv, rv⟩ := (t.at k).1 d hd
    exact ⟨p, a, _, od, ks, k, v, rfl, rfl, w1.ok.1.2.2, nd_keysH (P := P) (w0 := w0) t w1.gh, NkV.mono w1.gh hk, h8, hv, q v d G1 H1 n1 rv kx⟩
theorem putQN_len {acc : List (NestedKey × Dt)} {k : NestedKey} {d : Dt} : (putQN acc k d).length ≤ acc.length + 1 := by
  unfold putQN
  split
  · rw [List.length_map]; omega
  · rw [List.length_append]; simp
/-- {k: v for ..} -/
theorem evm_dcN {R : Dt → Mm → Prop} (h : EiM K J M env D wi fun A xs M0 => xs.length ≤ 100000 ∧ ∃ Iv : Nat → List (NestedKey × Dt) → Prop, Iv 0 [] ∧
    (∀ k d acc, xs[k]? = some d → acc.length ≤ k → Iv k acc → ∀ MV, Gt K (Jt K J MV M0) (wipeE env vs) g d vs fun e => Et K (Jt K J MV M0) e tt fun b => (b = true → Ev K (Jt K J MV M0) e tk fun y => ∃ zs kn, y = .tup zs ∧ nkD y = some kn ∧ kn.depth ≤ 8 ∧ Ev K (Jt K J MV M0) e tv fun z => Iv (k + 1) (putQN acc kn z)) ∧ (b = false → Iv (k + 1) acc)) ∧
    ∀ acc, acc.length ≤ xs.length → Iv xs.length acc → ∀ p, M0 p = none → p ∉ J.ms → R (.ptr p) (updM M0 p (.dn P w0 acc))) : EvM K J M env D (tDcN P w0 K wi g tt tk tv vs) R := fun MV0 MV GB B G H σ a x Q q => by
  refine h MV0 MV GB B G H σ a x _ fun I A xs M0 MV1 G1 H1 sg a1 ag wk0 ⟨hz, Iv, h0, hs, hd⟩ => ?_
  have wk := wk0.wk (MV := MV1) ag
  intro Dl hDl
  have w1 := a1.wf
  have E1 := a1.en
  have hn : Dl ∉ (Jt K J MV1 M0).ms := w1.notin hDl
  have hjD : Dl ∉ J.ms := (not_jt.mp hn).1
  have n0 := w1.newM hDl (ndO P w0 Dl [])
  refine ⟨fun i m H' => m = xs.length - i ∧ i ≤ xs.length ∧ ∃ G' us acc, Nx (Jt K J MV1 M0) G1 H1 G' H' ∧ G' Dl = none ∧ H' Dl = some (ndO P w0 Dl us) ∧ NdD K G' us acc ∧ acc.length ≤ i ∧ Iv i acc,
    ⟨xs.length, by simp, Nat.zero_le _, G1, [], [], n0, w1.free hDl, upd_same, .nil, Nat.le_refl _, h0⟩, ?_⟩
  rintro i m H' ⟨rfl, hi, G', us, acc, n, hG, hH, r, hl, p⟩
  have w' := n.wf w1
  by_cases hlt : i < xs.length
  · refine .inr ⟨wk.go i G' H' n.gg w' hlt, fun H2 => ∃ G2 us2 acc2, Nx (Jt K J MV1 M0) G1 H1 G2 H2 ∧ G2 Dl = none ∧ H2 Dl = some (ndO P w0 Dl us2) ∧ NdD K G2 us2 acc2 ∧ acc2.length ≤ i + 1 ∧ Iv (i + 1) acc2,
      fun H2 ⟨G2, us2, acc2, a, b, c, d, e, f⟩ => ⟨xs.length - (i + 1), by omega, rfl, hlt, G2, us2, acc2, a, b, c, d, e, f⟩, fun x H2 y => ?_⟩
    obtain ⟨G2, d, n2, hd', rd⟩ := wk.yld i G' H' x H2 n.gg w' hlt y
    have n02 := n.trans n2
    have w2 := n2.wf w'
    refine hs i d acc hd' hl p MV1 B G2 H2 (wipe σ vs) x w2 ((E1.mono n02).wipe vs) rd _ fun e3 σ3 E3 ks et => ⟨wipe_eq ks.1 ks.2, et B G2 H2 σ3 w2 E3 _ fun b G3 H3 n3 k => ?_⟩
    have hG2 := n2.fr Dl hG (by rw [hH]; simp)
    have hH2 := n2.kp Dl _ hH hn
    have hG3 := n3.fr Dl hG2 (by rw [hH2]; simp)
    have hH3 := n3.kp Dl _ hH2 hn
    have w3 := n3.wf w2
    cases b with
    | false => exact ⟨G3, us, acc, n02.trans n3, hG3, hH3, (r.mono n2.gg).mono n3.gg, by omega, k.2 rfl⟩
    | true =>
      refine k.1 rfl B G3 H3 σ3 w3 (E3.mono n3) _ fun yv yd G4 H4 n4 ry ⟨zs, kn, ek, hkn, h8, kz⟩ => kz B G4 H4 σ3 (n4.wf w3) ((E3.mono n3).mono n4) _ fun zv zd G5 H5 n5 rz kI => ?_
      subst ek
      have hG4 := n4.fr Dl hG3 (by rw [hH3]; simp)
      have hH4 := n4.kp Dl _ hH3 hn
      have hG5 := n5.fr Dl hG4 (by rw [hH4]; simp)
      have hH5 := n5.kp Dl _ hH4 hn
      have n05 := ((n02.trans n3).trans n4).trans n5
      have w5 := n05.wf w1
      have hk := NkV.mono n5.gg (nk_dr ry hkn)
      have r5 := (((r.mono n2.gg).mono n3.gg).mono n4.gg).mono n5.gg
      cases ry with
      | @tup qa ws _ s t =>
        have n6 := n05.mut (o' := ndO P w0 Dl (putN us kn qa zv)) hDl hG5 hn hH5
        exact ⟨us, qa, kn, rfl, hH5, nd_keysH (P := P) (w0 := w0) r5 w5.gh, NkV.mono w5.gh hk, h8, sz_of (by rw [r5.len]; omega), G5, _, putQN acc kn zd, n6, hG5, upd_same, r5.put hk h8 rz, Nat.le_trans putQN_len (by omega), kI⟩
  · have e' : i = xs.length := by omega
    subst e'
    have hH0 : H Dl = none := by
      cases z : H Dl with
      | none => rfl
      | some o => exact absurd hDl (sg.th Dl (by rw [z]; simp))
    have nq := nxm_put (ho := ndO P w0 Dl us) (.inr hH0) (sg.trans (.of n))
    have w7 : Wf (Jt K J (upd MV1 Dl (ndO P w0 Dl us)) (updM M0 Dl (.dn P w0 acc))) G' H' := w'.put hjD hG hH (.dn r)
    have hM0 : MV1 Dl = none := (not_jt.mp hn).2
    exact .inl ⟨wk.stop G' H' n.gg w', q (.ref Dl) (.ptr Dl) _ _ G' H' nq (a.thenM nq w7) (.ptr _) (hd acc hl p Dl (w'.noneM hM0) hjD)⟩
/-- [e for .. in .. if ..], the test too may call -/
theorem evm_lcJ {R : Dt → Mm → Prop} (h : EiM K J M env D wi fun A ds M0 => ds.length ≤ 100000 ∧ ∃ Iv : Nat → List Dt → Mm → Prop, Iv 0 [] M0 ∧
    (∀ k d acc M', ds[k]? = some d → acc.length ≤ k → Iv k acc M' → AgM A M' ∧ ∀ MV, Gt K (Jt K J MV M') (wipeE env vs) g d vs fun e => EtM K J M' e DX tt fun b M1 => (b = true → EvM K J M1 e DX te fun y M2 => Iv (k + 1) (acc ++ [y]) M2) ∧ (b = false → Iv (k + 1) acc M1)) ∧
    ∀ acc M', acc.length ≤ ds.length → Iv ds.length acc M' → AgM A M' ∧ ∀ p, M' p = none → p ∉ J.ms → R (.ptr p) (updM M' p (.lst acc))) : EvM K J M env D (tLc wi g tt te vs) R := fun MV0 MV GB B G H σ a x Q q => by
  refine h MV0 MV GB B G H σ a x _ fun I A ds M0 MV1 G1 H1 sg a1 ag wk ⟨hz, Iv, h0, hs, hd⟩ => ?_
  intro Dl hDl
  have hjD : Dl ∉ J.ms := (not_jt.mp (a1.wf.notin hDl)).1
  have n0 := a1.wf.newM hDl (.lst [])
  have a0 := a1.then n0
  refine ⟨fun i m H' => m = ds.length - i ∧ i ≤ ds.length ∧ ∃ M' MV' G' xs acc, NxM J MV1 G1 H1 MV' G' H' ∧ AtM K J MV0 GB B MV' M' G' H' σ env ∧ MV' Dl = none ∧ G' Dl = none ∧ H' Dl = some (.lst xs) ∧ Da K G' xs acc ∧ acc.length ≤ i ∧ Iv i acc M',
    ⟨ds.length, by simp, Nat.zero_le _, M0, MV1, G1, [], [], .of n0, a0, (a1.wf.none_ hDl).1, a1.wf.free hDl, upd_same, .nil, Nat.le_refl _, h0⟩, ?_⟩
  rintro i m H' ⟨rfl, hi, M', MV', G', xs, acc, s1, a', hMD, hG, hH, r, hl, p⟩
  by_cases hlt : i < ds.length
  · obtain ⟨d0, hd0⟩ : ∃ d, ds[i]? = some d := ⟨ds[i], by simp [hlt]⟩
    have ag' := (hs i d0 acc M' hd0 hl p).1
    refine .inr ⟨wk.go i MV' M' G' H' s1.gg a'.wf ag' hlt, fun H2 => ∃ M2 MV2 G2 xs2 acc2, NxM J MV1 G1 H1 MV2 G2 H2 ∧ AtM K J MV0 GB B MV2 M2 G2 H2 σ env ∧ MV2 Dl = none ∧ G2 Dl = none ∧ H2 Dl = some (.lst xs2) ∧ Da K G2 xs2 acc2 ∧ acc2.length ≤ i + 1 ∧ Iv (i + 1) acc2 M2,
      fun H2 ⟨M2, MV2, G2, xs2, acc2, a, b, c, d, e, f, g⟩ => ⟨ds.length - (i + 1), by omega, rfl, hlt, M2, MV2, G2, xs2, acc2, a, b, c, d, e, f, g⟩, fun x H2 y => ?_⟩
    obtain ⟨G2, d, n2, hd', rd⟩ := wk.yld i MV' M' G' H' x H2 s1.gg a'.wf ag' hlt y
    have a2 := a'.then n2
    have hn : Dl ∉ (Jt K J MV' M').ms := not_jt.mpr ⟨hjD, hMD⟩
    have hG2 := n2.fr Dl hG (by rw [hH]; simp)
    have hH2 := n2.kp Dl _ hH hn
    refine (hs i d acc M' hd' hl p).2 MV' B G2 H2 (wipe σ vs) x a2.wf (a2.en.wipe vs) rd _ fun e3 σ3 E3 ks et => ⟨wipe_eq ks.1 ks.2, et MV0 MV' GB B G2 H2 σ3 ⟨a2.wf, a2.nx, E3⟩ xok0 _ fun b M3 MV3 G3 H3 n3 aE k => ?_⟩
    have a3 := a2.thenM n3 aE.wf
    have hG3 := n3.fr Dl hG2 (by rw [hH2]; simp)
    have hH3 := n3.kp Dl _ hH2 hjD hMD
    have hM3 : MV3 Dl = none := n3.none hH2 hMD
    have s3 := (s1.trans (.of n2)).trans n3
    cases b with
    | false => exact ⟨M3, MV3, G3, xs, acc, s3, a3, hM3, hG3, hH3, (r.mono n2.gg).mono n3.gg, by omega, k.2 rfl⟩
    | true =>
      refine k.1 rfl MV0 MV3 GB B G3 H3 σ3 aE xok0 _ fun yv yd M4 MV4 G4 H4 n4 a4 ry ky => ?_
      have hG4 := n4.fr Dl hG3 (by rw [hH3]; simp)
      have hH4 := n4.kp Dl _ hH3 hjD hM3
      have hM4 : MV4 Dl = none := n4.none hH3 hM3
      have a5 := a3.thenM n4 a4.wf
      have same : ∀ b, b ∈ (Jt K J MV4 M4).ms → upd H4 Dl (.lst (xs ++ [yv])) b = H4 b := fun b hb => upd_ne fun z => by
        subst z
        exact hb.elim hjD fun z => z hM4
      have gh : Same G4 (upd H4 Dl (.lst (xs ++ [yv]))) := fun b o e => by rw [upd_ne (ne_of_none e hG4)]; exact a4.wf.gh b o e
      have w6 : Wf (Jt K J MV4 M4) G4 (upd H4 Dl (.lst (xs ++ [yv]))) := ⟨gh, (Jt K J MV4 M4).st _ _ a4.wf.ok same, fun m hm => ⟨(a4.wf.ms m hm).1, by rw [same m hm]; exact (a4.wf.ms m hm).2⟩, a4.wf.tr⟩
      have up : ∀ {MVx : Mh} {Gx Hx : Hp}, Hx Dl = none → NxM J MVx Gx Hx MV4 G4 H4 → NxM J MVx Gx Hx MV4 G4 (upd H4 Dl (.lst (xs ++ [yv]))) := fun {MVx Gx Hx} hx n => ⟨n.gg, n.fr, fun b o e h1 h2 => by rw [upd_ne (ne_of_none e hx)]; exact n.kp b o e h1 h2, fun b hb => by
        by_cases z : b = Dl
        · subst z; rw [upd_same]; simp
        · rw [upd_ne z]; exact n.th b hb, n.dm, n.dk⟩
      have n16 := s3.trans n4
      refine ⟨xs, hH4, sz_lt (by rw [r.length]; omega), M4, MV4, G4, xs ++ [yv], acc ++ [yd], up hDl n16, ⟨w6, up (a1.freshB hDl) a5.nx, ?_⟩, hM4, hG4, upd_same, (((r.mono n2.gg).mono n3.gg).mono n4.gg).append (.cons ry .nil), by simp; omega, ky⟩
      exact a1.en.monoM (up hDl n16) (M' := M4)
  · have e' : i = ds.length := by omega
    subst e'
    obtain ⟨ag', hR⟩ := hd acc M' hl p
    refine .inl ⟨wk.stop MV' M' G' H' s1.gg a'.wf ag', ?_⟩
    have hH0 : H Dl = none := by
      cases z : H Dl with
      | none => rfl
      | some o => exact absurd hDl (sg.th Dl (by rw [z]; simp))
    have nq := nxm_put (ho := .lst xs) (.inr hH0) (sg.trans s1)
    have w7 : Wf (Jt K J (upd MV' Dl (.lst xs)) (updM M' Dl (.lst acc))) G' H' := a'.wf.put hjD hG hH (.lst r)
    exact q (.ref Dl) (.ptr Dl) _ _ G' H' nq (a.thenM nq w7) (.ptr _) (hR Dl (a'.wf.noneM hMD) hjD)
theorem evm_lcX {R : Dt → Mm → Prop} (h : EiM K J M env D wi fun A ds M0 => ds.length ≤ 100000 ∧ ∃ Iv : Nat → List Dt → Mm → Prop, Iv 0 [] M0 ∧
    (∀ k d acc M', ds[k]? = some d → acc.length ≤ k → Iv k acc M' → AgM A M' ∧ ∀ MV, Gt K (Jt K J MV M') (wipeE env vs) g d vs fun e => EtM K J M' e DX tt fun b M1 => (b = true → EvM K J M1 e DX te fun y M2 => Iv (k + 1) (acc ++ [y]) M2) ∧ (b = false → Iv (k + 1) acc M1)) ∧
    ∀ acc M', acc.length ≤ ds.length → Iv ds.length acc M' → AgM A M' ∧ ∀ p, M' p = none → R (.ptr p) (updM M' p (.lst acc))) : EvM K J M env D (tLc wi g tt te vs) R :=
  evm_lcJ fun MV0 MV GB B G H σ a x Q q => h MV0 MV GB B G H σ a x Q fun I A ds M' MV' G' H' n at_ ag wk ⟨hz, Iv, h0, hs, hd⟩ => q I A ds M' MV' G' H' n at_ ag wk ⟨hz, Iv, h0, hs, fun acc M' hl hi => ⟨(hd acc M' hl hi).1, fun p hp _ => (hd acc M' hl hi).2 p hp⟩⟩
end
/-! ### min of a list of data -/
def rMinD (K : PySem.W.Frag) : List V → Hp → VK → Prop := fun vs H Q => ∃ (a : Addr) (xs : List V) (d0 : PyData) (dr : List PyData), vs = [.ref a] ∧ SqL K H a xs ∧ L2.DpAll K H xs (d0 :: dr) ∧ PySem.W.AlikeAll (d0 :: dr) ∧ PyData.depthAll (d0 :: dr) ≤ 50 ∧
  ∀ (i : Nat) (v : V), xs[i]? = some v → (d0 :: dr)[i]? = some (mmD false d0 dr) → Q v H
section
variable {X : Cx}
open PySem.W in
theorem cr_minD (hc : X.calm = true) (hu : X.A.units + 64 < cLine) : CallR X (.builtin "min") (rMinD X.K) := by
  intro pins s σ H vs us Q I r h
  obtain ⟨a, xs, y, ys, rfl, hs, hd, ha, hdp, h1⟩ := h
  obtain rfl := Vals.ref1 r
  have hh := I.ok.hd hc
  have hdep : X.A.units + 1 + PyData.depthAll (y :: ys) < cLine := by omega
  obtain ⟨its, rv, hl, _⟩ := I.list hs
  obtain ⟨as, hr⟩ := L2.Dp.readsAll I _ _ its hd rv
  refine min_list_data (x := y) (xs := ys) hh hl.isList (by simpa using hr) ha hdep fun i v h' tk bs hv hr2 hk => ?_
  have hv' : its[i]? = some v := by simpa using hv
  have hlx : i < xs.length := by rw [rv.length]; exact (List.getElem?_eq_some_iff.mp hv').1
  obtain ⟨u, hu', rx⟩ := rv.get (List.getElem?_eq_getElem hlx)
  have : u = v := Option.some.inj (hu'.symm.trans hv')
  subst this
  have hx : xs[i]? = some xs[i] := List.getElem?_eq_getElem hlx
  generalize xs[i] = x at hx rx
  obtain ⟨cs, r3, hlt, hmem, _⟩ := readsAll_at hr i u hv'
  have hgd : (y :: ys).getD i .none = (y :: ys)[i] := by rw [List.getD_eq_getElem?_getD, List.getElem?_eq_getElem hlt]; rfl
  have hal := ha.1 _ hmem _ (mm_mem false y ys)
  have eq : (y :: ys).getD i .none = mmD false y ys := alike_unique _ _ u _ _ hal (Reads.keeps hk r3) hr2
  refine ⟨x, H, I.kept (t' := tk) hk, rx, h1 i x hx ?_⟩
  rw [List.getElem?_eq_getElem hlt, ← hgd, eq]
end
theorem cr_minDK (K : PySem.W.Frag) {X : Cx} (hc : X.calm = true) (hu : X.A.units + 64 < cLine) (h : X.K = K := by rfl) : CallR X (.builtin "min") (rMinD K) := h ▸ cr_minD hc hu
theorem pyP_inj {a b : Int × Int} (h : pyP a = pyP b) : a = b := by
  unfold pyP at h
  injection h with e
  injection e with e1 e
  injection e with e2
  injection e1 with e1
  injection e2 with e2
  exact Prod.ext e1 e2
section
variable {K : PySem.W.Frag} {J : Jm} {M : Mm} {MV : Mh} {R : Dt → Prop}
theorem oc_minPP {a : Addr} {n : Int × Int} {r : List (Int × Int)} (hM : M a = some (.lst ((n :: r).map iiD))) (h : R (iiD (minP n r))) : Oc K (Jt K J MV M) (rMinD K) [.ptr a] R := fun G H vs w rs Q q => by
  cases rs with
  | cons r1 r2 =>
    cases r2
    cases r1
    obtain ⟨us, _, e2, t⟩ := w.lstM hM
    have hdp : L2.DpAll K H us (pyP n :: r.map pyP) := by
      have := dp_all w.gh t (plain_pairs (n :: r))
      rw [pyDs_pairs] at this
      exact this
    refine ⟨a, us, pyP n, r.map pyP, rfl, .inl (.inl e2), hdp, alike_pairs (n :: r), depth_pairs (n :: r), fun i v hv hm => ?_⟩
    obtain ⟨y, hy, ry⟩ := t.get' hv
    rw [mm_pairs] at hm
    have hm : ((n :: r).map pyP)[i]? = some (pyP (minP n r)) := hm
    rw [List.getElem?_map] at hm hy
    cases hz : (n :: r)[i]? with
    | none => rw [hz] at hm; cases hm
    | some z =>
      rw [hz] at hm hy
      have e : z = minP n r := pyP_inj (Option.some.inj hm)
      have e3 : y = iiD z := (Option.some.inj hy).symm
      rw [e] at e3
      rw [e3] at ry
      exact q v _ G H w.nx ry h
/-- sorted of a told list -/
theorem oc_sorted2P {a : Addr} {ns : List Int} (hM : M a = some (.lst (ns.map Dt.int))) (h : ∀ ns' : List Int, ns'.Perm ns → ns'.Pairwise (· ≤ ·) → R (.lst (ns'.map Dt.int))) : Oc K (Jt K J MV M) (rSorted2 K) [.ptr a] R := fun G H vs w rs Q q => by
  cases rs with
  | cons r1 r2 =>
    cases r2
    cases r1
    obtain ⟨us, _, e2, t⟩ := w.lstM hM
    have e := t.ints_inv
    subst e
    exact ⟨a, ns, rfl, .inl (.inl (.inl e2)), fun ns' p hp1 hp2 hp => by
      have n2 := w.new hp (.lst (ns'.map V.int))
      exact q (.ref p) _ _ _ n2 (.lst (.inl (.inl upd_same)) Da.ints) (h ns' hp1 hp2)⟩
end
section
variable {K : PySem.W.Frag} {J : Jm} {M : Mm} {env : List Sl} {D : DM} {ta : TA}
/-- list(t): a told list -/
theorem evm_lstT {R : Dt → Mm → Prop} (h : EdM K J M env D ta fun xs M' => ∃ ds, xs = [.tup ds] ∧ ∀ p, M' p = none → R (.ptr p) (updM M' p (.lst ds))) : EvM K J M env D (tCB (Mv.rLst K) ta) R := fun MV0 MV GB B G H σ a x Q q =>
  h MV0 MV GB B G H σ a x _ fun vs xs M' MV' G' H' n a' rs ⟨ds, e, k⟩ => by
    subst e
    cases rs with
    | cons r1 r2 =>
      cases r2
      cases r1 with
      | @tup b us _ s t =>
        refine ⟨b, us, rfl, .inr (same_t a'.wf.gh s), fun p hp => ?_⟩
        have hj : p ∉ J.ms := (not_jt.mp (a'.wf.notin hp)).1
        have hM := a'.wf.none_ hp
        have n1 := a'.wf.newM hp (.lst us)
        have hH0 : MV p ≠ none ∨ H p = none := by
          cases z : H p with
          | none => exact .inr rfl
          | some o => exact absurd hp (n.th p (by rw [z]; simp))
        have n2 := nxm_put (ho := .lst us) hH0 (n.trans (.of n1))
        exact q (.ref p) (.ptr p) _ _ G' _ n2 (a.thenM n2 ((n1.wf a'.wf).put hj (a'.wf.free hp) upd_same (.lst t))) (.ptr _) (k p hM.2)
end
/-! ### a def with a default that is called without it -/
theorem SvA.snoc {K : PySem.W.Frag} {J : Jm} {G : Hp} {v : V} {s : Sl} (h : Sv1 K J G v s) : ∀ {vs : List V} {ss : List Sl}, SvA K J G vs ss → SvA K J G (vs ++ [v]) (ss ++ [s])
  | _, _, .nil => .cons h .nil
  | _, _, .cons r t => .cons r (SvA.snoc h t)
structure CalD (P : Program) (w : World) (K : PySem.W.Frag) (mg : Str → Option Value) (base : Heap) (k : Nat) (x : Str) (ps : List Str) (sp : Sp) (dvs : List V) : Prop where
  ex : ∃ f fd ds, FnOk P w K mg base (L2.CX P w) k f fd ps sp ∧ mg x = some (.ref f) ∧ PySem.W.keepIn K (.ref f) = true ∧ Binds K fd ps ds ∧ Vals dvs ds
theorem CalD.mono {P : Program} {w : World} {K : PySem.W.Frag} {mg : Str → Option Value} {base : Heap} {j k : Nat} {x : Str} {ps : List Str} {sp : Sp} {dvs : List V} (C : CalD P w K mg base j x ps sp dvs) (h : j ≤ k) : CalD P w K mg base k x ps sp dvs := by
  obtain ⟨f, fd, ds, F, g, e, b, r⟩ := C.ex
  exact ⟨f, fd, ds, F.mono h, g, e, b, r⟩
theorem pe_callD {X : Cx} {k : Nat} {x : Str} {ps : List Str} {sp : Sp} {dvs : List V} {p pos : Pos} {e : Expr} {es : List Expr} {t : TA} (C : CalD X.prog X.w X.K X.mg X.base k x ps sp dvs) (hr : Room k X.A) (hg : Gl X x) (ha : PA X (e :: es) t) (hdb : (x == ("__debug__" : Str)) = false := by decide)
    (he : starEach (e :: es) X.env = (false, eval e X.env) :: starEach es X.env := by rfl) (hpl : (backTo pos (starEach es X.env)).any (·.1) = false := by rfl) : PE X (.Call (.Name x p) (e :: es) [] pos) (tCall sp dvs E0 t) := by
  obtain ⟨f, fd, ds, F, g, ke, b, r⟩ := C.ex
  exact pe_call F hr hg g ke b r passL ha hdb he hpl
theorem evm_callD0 {K : PySem.W.Frag} {J : Jm} {M : Mm} {env : List Sl} {D : DM} {tr : TA} {W : FwP} {R : Dt → Mm → Prop} (h : EaM K J M env D tr fun ss M' => W M' (ss ++ [.d .non]) R fun _ _ _ => False) : EvM K J M env D (tCall (CtP K W) [.non] E0 tr) R := fun MV0 MV GB B G H σ a x Q q =>
  h MV0 MV GB B G H σ a x _ fun vs ss M' MV' G' H' sg a' rs k => by
    show CtP K W (vs ++ [.non]) H' Q E0
    exact ⟨J, M', MV', G', ss ++ [.d .non], R, _, a'.wf, SvA.snoc (K := K) (J := Jt K J MV' M') (v := .non) (s := .d .non) (show Dr K G' .non .non from .non) rs, k, fun v d M2 MV2 G2 H2 n2 w2 rd y => q v d M2 MV2 G2 H2 (sg.trans n2) (a'.thenM n2 w2) rd y, fun C d vs fs M2 MV2 G2 H2 n2 w2 g rf y => y.elim⟩
theorem ok_ctpD {P : Program} {w : World} {K : PySem.W.Frag} {mg : Str → Option Value} {base : Heap} {x qual : Str} {params : Arguments} {body : List Stmt} {scope : Scope} {dvs : List V} {f : Addr} {fd : FuncData} {N ps : List Str} {k : Nat} {W : FwP} (F : L2.FunD K x qual params body scope dvs [] f fd) (S : FnScope N ps scope) (hn : ∀ M ss P PX, W M ss P PX → ss.length = ps.length)
    (hb : ∀ (cdv : Value) (A : Around) (outer : List PySem.Env) (s : Shared) (H : Hp) (E : XK), Room k (A.deeper (envOfC qual scope s.heap.objs.size f cdv)) →
      ∃ t, PSs (cxOf (L2.CX P w) P w K mg base N qual scope f cdv A outer s H E) body t ∧ ∀ J M ss P PX, W M ss P PX → SvM K J M (startE N ss) t { nx := fun m _ => Less M m (P .non), rt := fun d m => Less M m (P d), xw := fun cls d _ H => E cls d H, xc := fun C fs m _ => Less M m (PX C fs) }) :
    FnOk P w K mg base (L2.CX P w) (k + 1) f fd ps (CtP K W) := by
  refine F.ok S (fun vs H Q E h => ?_) (fun cdv A outer s H vs Q E hr h => ?_)
  · obtain ⟨J, M, MV, G, ss, P, PX, wf, sv, hW, _⟩ := h
    rw [sv.length, hn M ss P PX hW]
  · obtain ⟨J, M, MV, G, ss, P, PX, wf, sv, hW, q, qx⟩ := h
    obtain ⟨t, hp, ht⟩ := hb cdv A outer s H E hr
    refine ⟨t, hp, ?_⟩
    have key : ∀ {MV' : Mh} {M2 : Mm}, (∀ a, M a ≠ none → M2 a ≠ none) → ∀ a, MV a ≠ none → (M2 a).isSome = true := fun {MV' M2} hk a ha => by
      have : M a ≠ none := fun z => ha ((wf.tr.2 a).2 z)
      exact Option.isSome_iff_ne_none.mpr (hk a this)
    refine ht J M ss P PX hW MV MV G H G H (L2.start N vs) ⟨wf, .refl, en_start sv⟩ _ ⟨fun M' MV' e G' H' σ' a ⟨M2, h1, h2, p⟩ => ?_, fun _ _ _ _ _ _ _ x => x.elim, fun _ _ _ _ _ _ _ x => x.elim, fun v d M' MV' G' H' n w' r ⟨M2, h1, h2, p⟩ => ?_, fun C d vs fs e MV' M' G' H' σ' a g r ⟨M2, h1, h2, p⟩ => ?_⟩
    · exact q .non .non M2 _ G' H' (nxm_less (M0 := M) (M := M) a.nx (key (MV' := MV') h2)) (a.wf.less h1) .non p
    · exact q v d M2 _ G' H' (nxm_less (M0 := M) (M := M) n (key (MV' := MV') h2)) (w'.less h1) r p
    · exact qx C d vs fs M2 _ G' H' (nxm_less (M0 := M) (M := M) a.nx (key (MV' := MV') h2)) (a.wf.less h1) g r p
end Mv
namespace Mv
open PySem PySem.Spec PyProof.Rows L2
/-! within a comprehension: the terms hang on nothing of the block -/
theorem pe_dgetFNK (P : Program) (w : World) (K : PySem.W.Frag) {X : Cx} {o i : Expr} {pos : Pos} {td ty : TE} (hu : X.A.units + 64 < cLine) (ho : PE X o td) (hi : PE X i ty) (hs : NoSl i) (hk : X.K = K := by rfl) (hp : X.prog = P := by rfl) (hw : X.w = w := by rfl) : PE X (.Subscript o i pos) (tDGetFN P w K td ty) := by
  subst hk hp hw
  exact pe_dgetFN hu ho hi hs
theorem pe_dgetNK (P : Program) (w : World) (K : PySem.W.Frag) {X : Cx} {o i : Expr} {pos : Pos} {td ty : TE} (hu : X.A.units + 64 < cLine) (ho : PE X o td) (hi : PE X i ty) (hs : NoSl i) (hk : X.K = K := by rfl) (hp : X.prog = P := by rfl) (hw : X.w = w := by rfl) : PE X (.Subscript o i pos) (tDGetN P w K td ty) := by
  subst hk hp hw
  exact pe_dgetN hu ho hi hs
end Mv
namespace Mv
open PySem PySem.Spec PyProof.Rows L2
/-- d[k], the key by any expression that may call -/
theorem evm_dgetN {K : PySem.W.Frag} {J : Jm} {M : Mm} {env : List Sl} {D : DM} {td tk : TE} {P : Program} {w0 : World} {R : Dt → Mm → Prop} (h : EvM K J M env D td fun z M1 => ∃ p, z = .ptr p ∧ EvM K J M1 env D tk fun x M2 => ∃ ds xs k d, M2 p = some (.dn P w0 ds) ∧ x = .tup xs ∧ nkD x = some k ∧ k.depth ≤ 8 ∧ atQ ds k = some d ∧ R d M2) : EvM K J M env D (tDGetN P w0 K td tk) R := fun MV0 MV GB B G H σ a x Q q =>
  h MV0 MV GB B G H σ a x _ fun v d M1 MV1 G1 H1 n1 a1 rv ⟨p, ez, h2⟩ => by
    subst ez
    cases rv
    refine h2 MV0 MV1 GB B G1 H1 σ a1 x _ fun y yd M2 MV2 G2 H2 n2 a2 ry ⟨ds, xs, k, d, hM, ex, hx, h8, hd, kx⟩ => ?_
    subst ex
    obtain ⟨a', ks, _, hH, t⟩ := a2.wf.dnM hM
    have hk := nk_dr ry hx
    cases ry with
    | tup s t' =>
      obtain ⟨v, hv, rv⟩ := (t.at k).1 d hd
      exact ⟨p, a', _, ks, k, v, rfl, rfl, hH, nd_keysH (P := P) (w0 := w0) t a2.wf.gh, NkV.mono a2.wf.gh hk, h8, hv, q v d M2 MV2 G2 H2 (n1.trans n2) a2 rv kx⟩
end Mv
namespace Mv
open PySem PySem.Spec PyProof.Rows L2
/-- [.., ..] as data, whose parts may call -/
theorem evm_lstD {K : PySem.W.Frag} {J : Jm} {M : Mm} {env : List Sl} {D : DM} {tr : TA} {R : Dt → Mm → Prop} (h : EdM K J M env D tr fun ds M' => ds.length ≤ 100000 ∧ R (.lst ds) M') : EvM K J M env D (tLst tr) R := fun MV0 MV GB B G H σ a x Q q =>
  h MV0 MV GB B G H σ a x _ fun vs ds M' MV' G' H' sg a' rs ⟨hz, k⟩ => ⟨sz_of (by rw [rs.length]; exact hz), fun p hp => by
    have n2 := a'.wf.new hp (.lst vs)
    exact q (.ref p) (.lst ds) M' MV' _ _ (sg.trans (.of n2)) (a'.then n2) (.lst (.inl (.inl upd_same)) (rs.mono n2.gg)) k⟩
end Mv

set_option linter.all false
set_option maxRecDepth 100000
set_option maxHeartbeats 4000000
namespace Mv
open PySem PySem.Spec PyProof.Rows L2
theorem binds_all {K : PySem.W.Frag} {fd : FuncData} {ps : List Str} {dvs : List V} (h : ∃ ds, Vals (dvs.drop 1) ds ∧ Binds K fd ps ds) (hz : dvs.length = 1 := by rfl) : Binds K fd ps [] := by
  obtain ⟨ds, v, b⟩ := h
  match dvs, hz with
  | [_], _ =>
    cases v
    exact b
section
variable {K : PySem.W.Frag} {J : Jm} {MV : Mh} {M : Mm} {env : List Sl} {tl : TE} {ta : TA}
/-- a walk over a told list, in code that changes nothing told -/
theorem ei_seqP {R : List Dt → Prop} (h : Ev K (Jt K J MV M) env tl fun x => ∃ a ds, x = .ptr a ∧ M a = some (.lst ds) ∧ R ds) : Ei K (Jt K J MV M) env (iSeq K tl) R := fun B G H σ w E Q q =>
  h B G H σ w E _ fun v d G1 H1 n1 r ⟨p, ds, e, hM, k⟩ => by
    subst e
    cases r
    have w1 := n1.wf w
    obtain ⟨vs, h1, h2, t⟩ := w1.lstM hM
    exact ⟨p, rfl, .inl ⟨vs, .inl (.inl h2), q _ ds _ _ n1 (wk_listM.wk (MV := MV) (ag1.mpr hM)) k⟩⟩
end
/-! ### ranges as values: a told object -/
def rRng1 : List V → Hp → VK → Prop := fun vs H Q => ∃ j : Int, vs = [V.int j] ∧ ∀ p, H p = none → Q (.ref p) (upd H p (.rng 0 j))
theorem cr_range1 {X : Cx} : CallR X (.type "range") rRng1 := by
  intro pins s σ H vs us Q I r h
  obtain ⟨j, rfl, q⟩ := h
  cases r with
  | cons r rr =>
    cases rr
    obtain ⟨t, rfl⟩ := r
    refine call_range_1 ⟨.ref s.heap.objs.size, upd H s.heap.objs.size (.rng 0 j), I.laid (t' := s.toks + 1 + 1) (fun b o e => Heap.get?_push_of_some _ e) (Nat.le_refl _) ?_, rfl, q _ (I.hok.fresh (Nat.le_refl _))⟩
    exact ⟨s.toks, t, s.toks + 1, Heap.get?_push_size _ rfl⟩
def iRngV (tl : TE) : TI := fun σ H R => tl σ H fun x H1 => ∃ (a : Addr) (j : Int), x = .ref a ∧ H1 a = some (.rng 0 j) ∧ -(2 ^ 62) ≤ j ∧ j < 2 ^ 62 ∧ R (Itr 0 j.toNat) H1
theorem pi_rngV {X : Cx} {tg l : Expr} {tl : TE} (hl : PE X l tl) : PI X tg l (iRngV tl) := by
  refine ⟨fun pins s σ H R I h => ?_⟩
  refine thn (hl.run pins s σ H _ I h) fun v s1 ⟨x, H1, I1, r1, q1⟩ => ?_
  obtain ⟨a, j, e, ha, q2, q3, q⟩ := q1
  subst e
  cases r1
  obtain ⟨t1, t2, t3, ho⟩ := I1.hok a _ ha
  refine wpAny_pyIter_range (show IsRange s1.heap a 0 j 1 t1 t2 t3 from ho) (small_one (by omega) (by omega) q2 q3) ?_
  refine ⟨s1.heap.objs.size, [s1.heap.objs.size], _, _, H1, rfl, I1.kept (t' := s1.toks) fun b o e => Heap.get?_push_of_some _ e, turn_range _ 0 j.toNat, ?_, fun b hb => ?_, q⟩
  · have e1 : (0 : Int) + ((0 : Nat) : Int) * 1 = 0 := by simp
    have e2 : ((j.toNat : Nat) : Int) - ((0 : Nat) : Int) = Builtin.Range.rangeSize 0 j 1 := by rw [rangeSize_one]; split <;> omega
    show IsRangeIter _ _ ((0 : Int) + ((0 : Nat) : Int) * 1) (((j.toNat : Nat) : Int) - ((0 : Nat) : Int)) 1
    rw [e1, e2]
    exact Heap.get?_push_size _ rfl
  · have e : b = s1.heap.objs.size := by simpa using hb
    subst e
    exact I1.fpOk (Nat.le_refl _) (I1.hok.fresh (Nat.le_refl _))
section
variable {K : PySem.W.Frag} {J : Jm} {MV : Mh} {M : Mm} {env : List Sl} {D : DM} {tl : TE} {ta : TA} {G H : Hp}
theorem Wf.rngM (w : Wf (Jt K J MV M) G H) {a : Addr} {lo hi : Int} (h : M a = some (.rng lo hi)) : MV a = some (.rng lo hi) ∧ H a = some (.rng lo hi) := by
  obtain ⟨ho, h1, h2, h3⟩ := w.at_ h
  cases h3 with
  | rng => exact ⟨h1, h2⟩
/-- range(n), told -/
theorem evm_rng {R : Dt → Mm → Prop} (h : EdM K J M env D ta fun xs M' => ∃ n : Int, xs = [.int n] ∧ ∀ p, M' p = none → R (.ptr p) (updM M' p (.rng 0 n))) : EvM K J M env D (tCB rRng1 ta) R := fun MV0 MV GB B G H σ a x Q q =>
  h MV0 MV GB B G H σ a x _ fun vs xs M' MV' G' H' n a' rs ⟨j, e, k⟩ => by
    subst e
    cases rs with
    | cons r1 r2 =>
      cases r2
      cases r1
      refine ⟨j, rfl, fun p hp => ?_⟩
      have hj : p ∉ J.ms := (not_jt.mp (a'.wf.notin hp)).1
      have hM := a'.wf.none_ hp
      have n1 := a'.wf.newM hp (.rng 0 j)
      have hH0 : MV p ≠ none ∨ H p = none := by
        cases z : H p with
        | none => exact .inr rfl
        | some o => exact absurd hp (n.th p (by rw [z]; simp))
      have n2 := nxm_put (ho := .rng 0 j) hH0 (n.trans (.of n1))
      exact q (.ref p) (.ptr p) _ _ G' _ n2 (a.thenM n2 ((n1.wf a'.wf).put hj (a'.wf.free hp) upd_same .rng)) (.ptr _) (k p hM.2)
/-- a walk over it -/
theorem eim_rngV {R : Mm → List Dt → Mm → Prop} (h : EvM K J M env D tl fun x M' => ∃ (a : Addr) (n : Int), x = .ptr a ∧ M' a = some (.rng 0 n) ∧ -1000000 ≤ n ∧ n ≤ 1000000 ∧ R A0 ((List.range n.toNat).map fun i => Dt.int (i : Nat)) M') : EiM K J M env D (iRngV tl) R := fun MV0 MV GB B G H σ a x Q q =>
  h MV0 MV GB B G H σ a x _ fun v xs M' MV' G' H' sg a' r ⟨p, n, e, hM, h0, hn, k⟩ => by
    subst e
    cases r
    refine ⟨p, n, rfl, (a'.wf.rngM hM).2, by omega, by omega, q _ A0 _ M' MV' G' H' sg a' ag0 (.of fun _ => wk_range) ?_⟩
    have : (fun i : Nat => Dt.int (0 + (i : Int))) = fun i : Nat => Dt.int (i : Int) := by funext i; rw [Int.zero_add]
    rw [this]
    exact k
end
end Mv

set_option linter.all false
set_option maxRecDepth 100000
set_option maxHeartbeats 4000000
namespace Mv
open PySem PySem.Spec PyProof.Rows L2
/-! ### sorted(set(t)) of a tuple of ints -/
def rSortSet (K : PySem.W.Frag) : List V → Hp → VK → Prop := fun vs H Q => ∃ (p : Addr) (ns : List Int), vs = [V.ref p] ∧ SqT K H p (ns.map V.int) ∧ ns.length < 60 ∧
  ∀ (ns' : List Int) (q : Addr), ns'.Pairwise (· < ·) → (∀ k, k ∈ ns' ↔ k ∈ ns) → H q = none → Q (.ref q) (upd H q (.lst (ns'.map V.int)))
theorem pe_sortSet {X : Cx} {e : Expr} {ta : TA} {p1 p2 pos1 pos2 : Pos} (hc : X.calm = true) (hgs : Gl X "sorted") (hms : X.mg "sorted" = none) (hg : Gl X "set") (hm : X.mg "set" = none) (ha : PA X [e] ta) (hs : starEach [e] X.env = [(false, eval e X.env)] := by rfl) :
    PE X (.Call (.Name "sorted" p1) [.Call (.Name "set" p2) [e] [] pos2] [] pos1) (tCB (rSortSet X.K) ta) := by
  refine ⟨fun pins s σ H Q I h => ?_⟩
  refine wpAny_Call_Name_kw (ld_blt I hgs hms (by decide +kernel : bootBuiltins "sorted" = some (.builtin "sorted")) ?_ (by decide) (by decide))
  refine PyProof.Rows.callWith_builtin1 ?_ (by rfl) (by rfl)
  show wpAny _ _ (spliced ((false, eval (.Call (.Name "set" p2) [e] [] pos2) X.env) :: [])) _ _ s
  refine Calls.spliced_cons ?_
  refine wpAny_Call_Name_kw (ld_blt I hg hm PyProof.Rows.boot_set ?_ (by decide) (by decide))
  refine PyProof.Rows.callWith_type1 (thn (ha.run pos2 pins s σ H _ I h) fun us s1 ⟨vs, H1, I1, r1, q1⟩ => ?_) hs rfl
  obtain ⟨p0, ns, e1, hq, hl, q⟩ := q1
  subst e1
  cases r1 with
  | cons r rr =>
    cases rr
    cases r
    obtain ⟨its, rv, pt, hz⟩ := I1.tuple hq
    have hi : IntsAre its.toArray.toList ns := ints_of_vals rv
    have hd := I1.ok.hd hc
    refine call_set_tupI ns hd (show s1.heap.IsTuple p0 its.toArray from pt) hi (by unfold scanBound; omega) fun h' tk c R1 hcn k => ?_
    refine Calls.spliced_nil ?_
    have hlt : s1.heap.objs.size < h'.objs.size := by
      obtain ⟨o, _, _, _, ho, _⟩ := R1
      exact Heap.lt_size ho
    refine sorted_set (s := { s1 with heap := h', toks := tk }) R1 hd (by omega) fun s' p out c2 ns' kk gg oo hle hget hints hpw hmem hlen => ?_
    have kall : ∀ b u, s1.heap.get? b = some u → s'.heap.get? b = some u := fun b u e => kk b u (k b u e)
    have hle2 : s1.heap.objs.size ≤ p := Nat.le_trans (Nat.le_of_lt hlt) hle
    have hn : (ns'.map V.int).length ≤ sizeLine := by rw [List.length_map, hlen, sizeLine_eq]; omega
    refine ⟨.ref p, upd H1 p (.lst (ns'.map V.int)), I1.call' (ch := []) oo (Un.laid kall hle2 (I1.hok.fresh hle2)) (I1.hok.laid kall hle2 ⟨hn, out.toList, c2, vals_of_ints hints, hget⟩) (by rw [gg]; exact I1.bare) (fun _ z => nomatch z), rfl, q ns' p hpw (fun j => ?_) (I1.hok.fresh hle2)⟩
    rw [hmem, decide_eq_true_eq]
theorem pe_sortSetK (K : PySem.W.Frag) {X : Cx} {e : Expr} {ta : TA} {p1 p2 pos1 pos2 : Pos} (hc : X.calm = true) (hgs : Gl X "sorted") (hms : X.mg "sorted" = none) (hg : Gl X "set") (hm : X.mg "set" = none) (ha : PA X [e] ta) (hK : X.K = K := by rfl) (hs : starEach [e] X.env = [(false, eval e X.env)] := by rfl) :
    PE X (.Call (.Name "sorted" p1) [.Call (.Name "set" p2) [e] [] pos2] [] pos1) (tCB (rSortSet K) ta) := hK ▸ pe_sortSet hc hgs hms hg hm ha hs
section
variable {K : PySem.W.Frag} {J : Jm} {R : Dt → Prop}
theorem oc_sortSet {ns : List Int} (hz : ns.length < 60) (h : ∀ ns' : List Int, ns'.Pairwise (· < ·) → (∀ k, k ∈ ns' ↔ k ∈ ns) → R (.lst (ns'.map Dt.int))) : Oc K J (rSortSet K) [.tup (ns.map Dt.int)] R := fun G H vs w rs Q q => by
  cases rs with
  | cons r1 r2 =>
    cases r2
    cases r1 with
    | @tup b us _ s t =>
      have e := t.ints_inv
      subst e
      exact ⟨b, ns, rfl, same_t w.gh s, hz, fun ns' p h1 h2 hp => by
        have n2 := w.new hp (.lst (ns'.map V.int))
        exact q (.ref p) _ _ _ n2 (.lst (.inl (.inl upd_same)) Da.ints) (h ns' h1 h2)⟩
end
end Mv

set_option linter.all false
set_option maxRecDepth 100000
set_option maxHeartbeats 4000000
namespace Mv
open PySem PySem.Spec PyProof.Rows L2
/-! ### a comprehension among told objects whose items and tests call: its list is data -/
section
variable {K : PySem.W.Frag} {J : Jm} {M : Mm} {env : List Sl} {D : DM} {wi : TI} {g : TG} {tt : TT} {te : TE} {vs : List Nat}
theorem Wf.fixM {MV : Mh} {G H : Hp} (w : Wf (Jt K J MV M) G H) {p : Addr} {ho : HO} (hj : p ∉ J.ms) (hM : MV p = none) (hG : G p = none) (hH : H p = some ho) : Wf (Jt K J MV M) (upd G p ho) H := by
  have sg : Same G (upd G p ho) := fun b o e => by rw [upd_ne (ne_of_none e hG)]; exact e
  refine ⟨fun b o e => ?_, w.ok, fun m hm => ⟨?_, (w.ms m hm).2⟩, (Jt K J MV M).trm _ _ sg w.tr⟩
  · by_cases z : b = p
    · subst z; rw [upd_same] at e; cases e; exact hH
    · rw [upd_ne z] at e; exact w.gh b o e
  · rw [upd_ne fun z => ?_]
    · exact (w.ms m hm).1
    · subst z
      exact hm.elim hj fun h => h hM
/-- a new list of the caller's own -/
def EmM (K : PySem.W.Frag) (J : Jm) (M : Mm) (env : List Sl) (D : DM) (te : TE) (R : List Dt → Mm → Prop) : Prop := ∀ (MV0 MV : Mh) (GB B G H : Hp) (σ : L2.St), AtM K J MV0 GB B MV M G H σ env → XOkM K J MV0 GB B D → ∀ Q : VK,
  (∀ p vs ds M' MV' G' H', NxM J MV G H MV' G' H' → AtM K J MV0 GB B MV' M' G' H' σ env → H p = none → p ∉ J.ms → MV' p = none → G' p = none → H' p = some (.lst vs) → Da K G' vs ds → R ds M' → Q (.ref p) H') → te σ H Q
theorem EmM.ev {R : Dt → Mm → Prop} (h : EmM K J M env D te fun ds M' => R (.lst ds) M') : EvM K J M env D te R := fun MV0 MV GB B G H σ a x Q q =>
  h MV0 MV GB B G H σ a x Q fun p vs ds M' MV' G' H' n17 a' hH0 hjD hMD hG hH r hR => by
    have sgu : Same G' (upd G' p (.lst vs)) := fun b o e => by rw [upd_ne (ne_of_none e hG)]; exact e
    have nq : NxM J MV G H MV' (upd G' p (.lst vs)) H' := ⟨n17.gg.trans sgu, fun b hb hb2 => by
      by_cases z : b = p
      · subst z; exact absurd hH0 hb2
      · rw [upd_ne z]; exact n17.fr b hb hb2, n17.kp, n17.th, n17.dm, n17.dk⟩
    exact q (.ref p) (.lst ds) _ _ _ H' nq (a.thenM nq (a'.wf.fixM hjD hMD hG hH)) (.lst (.inl (.inl upd_same)) (r.mono sgu)) hR
theorem emm_of {R : List Dt → Mm → Prop} (h : ∀ MV, Em K (Jt K J MV M) env te fun ds => R ds M) : EmM K J M env D te R := fun MV0 MV GB B G H σ a x Q q =>
  h MV B G H σ a.wf a.en Q fun p vs ds G' H' n hG hp hH r k => by
    have hj := not_jt.mp (a.wf.notin hp)
    exact q p vs ds M MV G' H' (.of n) (a.then n) hp hj.1 hj.2 hG hH r k
theorem emm_cat {ta tb : TE} {R : List Dt → Mm → Prop} (h : EmM K J M env D ta fun xs M1 => EmM K J M1 env D tb fun ys M2 => xs.length + ys.length ≤ 100000 ∧ R (xs ++ ys) M2) : EmM K J M env D (tOp rCat ta tb) R := fun MV0 MV GB B G H σ a x Q q =>
  h MV0 MV GB B G H σ a x _ fun p1 v1 d1 M1 MV1 G1 H1 n1 a1 hp1 hj1 hM1 hG1 hH1 r1 k => k MV0 MV1 GB B G1 H1 σ a1 x _ fun p2 v2 d2 M2 MV2 G2 H2 n2 a2 hp2 hj2 hM2 hG2 hH2 r2 ⟨hz, k2⟩ => by
    refine ⟨p1, p2, v1, v2, rfl, rfl, n2.kp p1 _ hH1 hj1 hM1, hH2, sz_of (by rw [r1.length, r2.length]; exact hz), fun p hp => ?_⟩
    have nn := a2.wf.newM hp (.lst (v1 ++ v2))
    have a3 := a2.then nn
    have n13 := n1.trans n2
    have hp0 : H p = none := by
      cases z : H p with
      | none => rfl
      | some o => exact absurd hp (n13.th p (by rw [z]; simp))
    have hj := not_jt.mp (a2.wf.notin hp)
    exact q p (v1 ++ v2) (d1 ++ d2) M2 MV2 G2 _ (n13.trans (.of nn)) a3 hp0 hj.1 hj.2 (a2.wf.free hp) upd_same ((r1.mono n2.gg).append r2) k2
theorem emm_lc {R : List Dt → Mm → Prop} (h : EiM K J M env D wi fun A ds M0 => ds.length ≤ 100000 ∧ ∃ Iv : Nat → List Dt → Mm → Prop, Iv 0 [] M0 ∧
    (∀ k d acc M', ds[k]? = some d → acc.length ≤ k → Iv k acc M' → AgM A M' ∧ ∀ MV, Gt K (Jt K J MV M') (wipeE env vs) g d vs fun e => EtM K J M' e DX tt fun b M2 => (b = true → EvM K J M2 e DX te fun y M3 => Iv (k + 1) (acc ++ [y]) M3) ∧ (b = false → Iv (k + 1) acc M2)) ∧
    ∀ acc M', acc.length ≤ ds.length → Iv ds.length acc M' → AgM A M' ∧ R acc M') : EmM K J M env D (tLc wi g tt te vs) R := fun MV0 MV GB B G H σ a x Q q => by
  refine h MV0 MV GB B G H σ a x _ fun I A ds M0 MV1 G1 H1 sg a1 ag wk ⟨hz, Iv, h0, hs, hd⟩ => ?_
  intro Dl hDl
  have hjD : Dl ∉ J.ms := (not_jt.mp (a1.wf.notin hDl)).1
  have n0 := a1.wf.newM hDl (.lst [])
  have a0 := a1.then n0
  refine ⟨fun i m H' => m = ds.length - i ∧ i ≤ ds.length ∧ ∃ M' MV' G' xs acc, NxM J MV1 G1 H1 MV' G' H' ∧ AtM K J MV0 GB B MV' M' G' H' σ env ∧ MV' Dl = none ∧ G' Dl = none ∧ H' Dl = some (.lst xs) ∧ Da K G' xs acc ∧ acc.length ≤ i ∧ Iv i acc M',
    ⟨ds.length, by simp, Nat.zero_le _, M0, MV1, G1, [], [], .of n0, a0, (a1.wf.none_ hDl).1, a1.wf.free hDl, upd_same, .nil, Nat.le_refl _, h0⟩, ?_⟩
  rintro i m H' ⟨rfl, hi, M', MV', G', xs, acc, s1, a', hMD, hG, hH, r, hl, p⟩
  by_cases hlt : i < ds.length
  · obtain ⟨d0, hd0⟩ : ∃ d, ds[i]? = some d := ⟨ds[i], by simp [hlt]⟩
    have ag' := (hs i d0 acc M' hd0 hl p).1
    refine .inr ⟨wk.go i MV' M' G' H' s1.gg a'.wf ag' hlt, fun H2 => ∃ M2 MV2 G2 xs2 acc2, NxM J MV1 G1 H1 MV2 G2 H2 ∧ AtM K J MV0 GB B MV2 M2 G2 H2 σ env ∧ MV2 Dl = none ∧ G2 Dl = none ∧ H2 Dl = some (.lst xs2) ∧ Da K G2 xs2 acc2 ∧ acc2.length ≤ i + 1 ∧ Iv (i + 1) acc2 M2,
      fun H2 ⟨M2, MV2, G2, xs2, acc2, a, b, c, d, e, f, g⟩ => ⟨ds.length - (i + 1), by omega, rfl, hlt, M2, MV2, G2, xs2, acc2, a, b, c, d, e, f, g⟩, fun x H2 y => ?_⟩
    obtain ⟨G2, d, n2, hd', rd⟩ := wk.yld i MV' M' G' H' x H2 s1.gg a'.wf ag' hlt y
    have a2 := a'.then n2
    refine (hs i d acc M' hd' hl p).2 MV' B G2 H2 (wipe σ vs) x a2.wf (a2.en.wipe vs) rd _ fun e3 σ3 E3 ks et => ⟨wipe_eq ks.1 ks.2, ?_⟩
    have aE2 : AtM K J MV0 GB B MV' M' G2 H2 σ3 e3 := ⟨a2.wf, a2.nx, E3⟩
    refine et MV0 MV' GB B G2 H2 σ3 aE2 xok0 _ fun b M3 MV3 G3 H3 n3 aE3 k => ?_
    have a3 := a2.thenM n3 aE3.wf
    have hn : Dl ∉ (Jt K J MV' M').ms := not_jt.mpr ⟨hjD, hMD⟩
    have hG2 := n2.fr Dl hG (by rw [hH]; simp)
    have hH2 := n2.kp Dl _ hH hn
    have hG3 := n3.fr Dl hG2 (by rw [hH2]; simp)
    have hH3 := n3.kp Dl _ hH2 hjD hMD
    have hM3 : MV3 Dl = none := n3.none hH2 hMD
    have n13 := (s1.trans (.of n2)).trans n3
    have r3 := (r.mono n2.gg).mono n3.gg
    cases b with
    | false => exact ⟨M3, MV3, G3, xs, acc, n13, a3, hM3, hG3, hH3, r3, by omega, k.2 rfl⟩
    | true =>
      refine k.1 rfl MV0 MV3 GB B G3 H3 σ3 aE3 xok0 _ fun yv yd M4 MV4 G4 H4 n4 a4 ry ky => ?_
      have hG4 := n4.fr Dl hG3 (by rw [hH3]; simp)
      have hH4 := n4.kp Dl _ hH3 hjD hM3
      have hM4 : MV4 Dl = none := n4.none hH3 hM3
      have a5 := a3.thenM n4 a4.wf
      have same : ∀ b, b ∈ (Jt K J MV4 M4).ms → upd H4 Dl (.lst (xs ++ [yv])) b = H4 b := fun b hb => upd_ne fun z => by
        subst z
        exact hb.elim hjD fun z => z hM4
      have gh : Same G4 (upd H4 Dl (.lst (xs ++ [yv]))) := fun b o e => by rw [upd_ne (ne_of_none e hG4)]; exact a4.wf.gh b o e
      have w6 : Wf (Jt K J MV4 M4) G4 (upd H4 Dl (.lst (xs ++ [yv]))) := ⟨gh, (Jt K J MV4 M4).st _ _ a4.wf.ok same, fun m hm => ⟨(a4.wf.ms m hm).1, by rw [same m hm]; exact (a4.wf.ms m hm).2⟩, a4.wf.tr⟩
      have up : ∀ {MVx : Mh} {Gx Hx : Hp}, Hx Dl = none → NxM J MVx Gx Hx MV4 G4 H4 → NxM J MVx Gx Hx MV4 G4 (upd H4 Dl (.lst (xs ++ [yv]))) := fun {MVx Gx Hx} hx n => ⟨n.gg, n.fr, fun b o e h1 h2 => by rw [upd_ne (ne_of_none e hx)]; exact n.kp b o e h1 h2, fun b hb => by
        by_cases z : b = Dl
        · subst z; rw [upd_same]; simp
        · rw [upd_ne z]; exact n.th b hb, n.dm, n.dk⟩
      have n16 := n13.trans n4
      refine ⟨xs, hH4, sz_lt (by rw [r.length]; omega), M4, MV4, G4, xs ++ [yv], acc ++ [yd], up hDl n16, ⟨w6, up (a1.freshB hDl) a5.nx, ?_⟩, hM4, hG4, upd_same, (r3.mono n4.gg).append (.cons ry .nil), by simp; omega, ky⟩
      exact a1.en.monoM (up hDl n16) (M' := M4)
  · have e' : i = ds.length := by omega
    subst e'
    obtain ⟨ag', hR⟩ := hd acc M' hl p
    refine .inl ⟨wk.stop MV' M' G' H' s1.gg a'.wf ag', ?_⟩
    have hH0 : H Dl = none := by
      cases z : H Dl with
      | none => rfl
      | some o => exact absurd hDl (sg.th Dl (by rw [z]; simp))
    exact q Dl xs acc M' MV' G' H' (sg.trans s1) a' hH0 hjD hMD hG hH r hR
end
theorem pe_callE00 {X : Cx} {k : Nat} {x : Str} {ps : List Str} {sp : Sp} {p pos : Pos} (C : CalX X.prog X.w X.K X.mg X.base k x ps sp) (hr : Room k X.A) (hg : Gl X x) (hdb : (x == ("__debug__" : Str)) = false := by decide) : PE X (.Call (.Name x p) [] [] pos) (tCall sp [] E0 tNil) := by
  obtain ⟨f, fd, F, g, ke, b⟩ := C.ex
  exact pe_call0 F hr hg g ke b .nil passL hdb
end Mv

set_option Elab.async false
set_option linter.all false
set_option maxRecDepth 100000
set_option maxHeartbeats 4000000
/-! min of a tuple of whole numbers; {k: v} and d == {} where keys are tuples within tuples -/
namespace Mv
open PySem PySem.Spec PyProof.Rows L2 PySem.W
def rMin2 (K : PySem.W.Frag) : List V → Hp → VK → Prop := fun vs H Q => ∃ (a : Addr) (n : Int) (r : List Int), vs = [.ref a] ∧ (SqL K H a ((n :: r).map V.int) ∨ SqT K H a ((n :: r).map V.int)) ∧ Q (.int (mmI false n r)) H
section
variable {X : Cx}
theorem cr_min2 (hc : X.calm = true) (hu : X.A.units + 64 < cLine) : CallR X (.builtin "min") (rMin2 X.K) := by
  intro pins s σ H vs us Q I r h
  obtain ⟨a, n, l, rfl, hs, q⟩ := h
  obtain rfl := Vals.ref1 r
  have hh := I.ok.hd hc
  have ha := alike_ints (n :: l)
  have hd := depth_ints (n :: l)
  have hdep : X.A.units + 1 + PyData.depthAll ((n :: l).map PyData.int) < cLine := by omega
  have key : ∀ (its : List Value) (as : List Addr), Vals ((n :: l).map V.int) its → ReadsAll s.heap its ((n :: l).map PyData.int) as →
      (∀ (i : Nat) v h' tk bs, its.toArray[i]? = some v → Reads h' v (minD (.int n) (l.map PyData.int)) bs → (∀ b o, s.heap.get? b = some o → h'.get? b = some o) → EP X pins σ Q v { s with heap := h', toks := tk }) := by
    intro its as rv hr i v h' tk bs hv hr2 hk
    have hv' : its[i]? = some v := by simpa using hv
    have hlx : i < ((n :: l).map V.int).length := by rw [rv.length]; exact (List.getElem?_eq_some_iff.mp hv').1
    have hl2 : i < (n :: l).length := by rw [List.length_map] at hlx; exact hlx
    obtain ⟨u, hu', rx⟩ := rv.get (show ((n :: l).map V.int)[i]? = some (V.int (n :: l)[i]) by rw [List.getElem?_map, List.getElem?_eq_getElem hl2]; rfl)
    have : u = v := Option.some.inj (hu'.symm.trans hv')
    subst this
    obtain ⟨cs, r3, hlt, hmem, _⟩ := readsAll_at hr i u hv'
    have hgd : ((n :: l).map PyData.int).getD i .none = .int (n :: l)[i] := by rw [List.getD_eq_getElem?_getD, List.getElem?_map, List.getElem?_eq_getElem hl2]; rfl
    have hmx : minD (.int n) (l.map PyData.int) = .int (mmI false n l) := mm_ints false l n
    rw [hgd] at r3 hmem
    rw [hmx] at hr2
    have hal : alike (.int (n :: l)[i]) (.int (mmI false n l)) = true := by simp [alike]
    have eq := alike_unique _ _ u _ _ hal (Reads.keeps hk r3) hr2
    injection eq with eq
    rw [eq] at rx
    exact ⟨_, H, I.kept (t' := tk) hk, rx, q⟩
  rcases hs with hs | hs
  · obtain ⟨its, rv, hl, _⟩ := I.list hs
    obtain ⟨as, hr⟩ := L2.Dp.readsAll I _ _ its (dpa_ints (n :: l)) rv
    have k := key its as rv hr
    exact min_list_data (x := .int n) (xs := l.map PyData.int) hh hl.isList (by simpa using hr) ha hdep k
  · obtain ⟨its, rv, hl, _⟩ := I.tuple hs
    obtain ⟨as, hr⟩ := L2.Dp.readsAll I _ _ its (dpa_ints (n :: l)) rv
    have hlT : s.heap.IsTuple a its.toArray := hl
    have k := key its as rv hr
    exact min_tuple_data (x := .int n) (xs := l.map PyData.int) hh hlT (by simpa using hr) ha hdep k
end
theorem cr_min2K (K : PySem.W.Frag) {X : Cx} (hc : X.calm = true) (hu : X.A.units + 64 < cLine) (h : X.K = K := by rfl) : CallR X (.builtin "min") (rMin2 K) := h ▸ cr_min2 hc hu
section
variable {K : PySem.W.Frag} {J : Jm} {R : Dt → Prop}
theorem oc_min2 {n : Int} {r : List Int} {x : Dt} (hx : x = .lst ((n :: r).map Dt.int) ∨ x = .tup ((n :: r).map Dt.int)) (h : R (.int (mmI false n r))) : Oc K J (rMin2 K) [x] R := fun G H vs w rs Q q => by
  cases rs with
  | cons r1 r2 =>
    cases r2
    rcases hx with rfl | rfl
    · cases r1 with
      | lst s t =>
        have e := t.ints_inv
        subst e
        exact ⟨_, n, r, rfl, .inl (same_l w.gh s), q _ _ G H w.nx (.int _) h⟩
    · cases r1 with
      | tup s t =>
        have e := t.ints_inv
        subst e
        exact ⟨_, n, r, rfl, .inr (same_t w.gh s), q _ _ G H w.nx (.int _) h⟩
end

end Mv
namespace Mv
open PySem PySem.Spec PyProof.Rows L2
/-- {k: v} -/
def tDisp1N (P : Program) (w : World) (K : PySem.W.Frag) (tk tv : TE) : TE := fun σ H Q => ∀ p, H p = none → tk σ (upd H p (ndO P w p [])) fun y H1 => tv σ H1 fun v H2 => ∃ (b a : Addr) (k : NestedKey), y = .ref b ∧ H2 p = some (ndO P w a []) ∧ NkV K H2 k (.ref b) ∧ k.depth ≤ 8 ∧ Q (.ref p) (upd H2 p (ndO P w p [(k, b, v)]))
theorem pe_disp1N {X : Cx} {pos : Pos} {k v : Expr} {tk tv : TE} (hu : X.A.units + 64 < cLine) (hk : PE X k tk) (hv : PE X v tv) : PE X (.Dict [some k] [v] pos) (tDisp1N X.prog X.w X.K tk tv) := by
  refine ⟨fun pins s σ H Q I q => ?_⟩
  have hn := I.hok.fresh (Nat.le_refl s.heap.objs.size)
  have I1 := I.laid (a := s.heap.objs.size) (o := ndO X.prog X.w s.heap.objs.size []) (h' := s.heap.push { cls := .type "dict", data := .dict #[] }) (t' := s.toks) (fun _ _ q => Heap.get?_push_of_some _ q) (Nat.le_refl _) (nd_empty s.heap I.big)
  rw [arm_eval_Dict, zip_pairTrees [some k] [v] X.env pos rfl rfl, dictDisplay_pairs (pairTrees [some k] [v] X.env pos) (fun z => nomatch z) (by show 1 < 17; decide)]
  refine wpAny_bind (wpAny_standAt (wpAny_bind (wpAny_subDictH (knd := nestedKind X.prog X.w) (show X.A.units + 8 < cLine by omega) (by show 1 ≤ 15; omega) ?_)))
  refine pairTrees_cons_walk (thn (hk.run pins _ σ _ _ I1 (q _ hn)) fun u s1 ⟨y, H1, I2, ry, q1⟩ => thn (hv.run pins s1 σ H1 _ I2 q1) fun r s2 ⟨x, H2, I3, rx, b, a', kk, ey, hH, hkv, hd, q2⟩ => pairTrees_nil_walk ?_)
  subst ey
  obtain rfl : u = Value.ref b := ry
  have ea := nd_addr (I3.hok _ _ hH)
  subst ea
  obtain ⟨hm, xs, hx, rr⟩ := nd_at I3 hH (fun e he => nomatch he)
  cases rr
  refine ⟨[(kk, b, r)], ⟨rfl, rfl, ⟨hkv.is I3 rfl, hd⟩, trivial⟩, hx, fun h' tk hx' hs => wpAny_pure ⟨.ref s.heap.objs.size, upd H2 s.heap.objs.size (ndO X.prog X.w s.heap.objs.size [(kk, b, x)]), ?_, rfl, q2⟩⟩
  have hex : ∃ o, h'.get? s.heap.objs.size = some o := let ⟨o, _, _, e, _⟩ := hx'; ⟨o, e⟩
  have hx2 : h'.DictOfH (nestedKind X.prog X.w) s.heap.objs.size [(kk, b, r)] := hx'
  exact I3.write (t' := tk) (by rw [hH]; trivial) (.inl rfl) (fun c o hc e => (hs.2 c hc).trans e) hex (ndO_ok hm hx2 (.cons ⟨rfl, rfl, rx⟩ .nil))
/-- d == {} -/
theorem same_empty {prog : Program} {w : World} {A : Around} {E : Value → Shared → Prop} {s : Shared} {nm : String} {a b : Addr} {oa ob : Obj} {es es' : Array DictEntry} {ep ep' : Nat} {Q : Bool → Shared → Prop} (ha : (a == sysModules) = false) (hb : (b == sysModules) = false) (hoa : s.heap.get? a = some oa) (hda : oa.data = .dict es ep) (hob : s.heap.get? b = some ob) (hdb : ob.data = .dict es' ep') (hz : es'.size = 0) (h : Q (es.size == 0) s) :
    wpAny (model prog w) A (Builtin.Dict.samePairs nm a b) Q E s := by
  unfold Builtin.Dict.samePairs Builtin.Dict.showsAll
  rw [if_neg (show ¬ (a == sysModules) = true by rw [ha]; exact Bool.false_ne_true), if_neg (show ¬ (b == sysModules) = true by rw [hb]; exact Bool.false_ne_true)]
  refine wpAny_bind (wpAny_pure (wpAny_bind (wpAny_pure ?_)))
  refine wpAny_bind (wpAny_dictEntries hoa hda ?_)
  dsimp only
  refine wpAny_bind (wpAny_dictEntries hob hdb ?_)
  by_cases hsz : es.size = es'.size
  case neg =>
    rw [if_pos (by simpa using hsz)]
    have hbf : (es.size == 0) = false := by rw [hz] at hsz; simpa using hsz
    rw [hbf] at h
    exact wpAny_bind (wpAny_rule (wpAny_pure h))
  case pos =>
    have h0 : es.size = 0 := hsz.trans hz
    rw [h0] at h
    rw [if_neg (by rw [hsz]; simp)]
    refine wpAny_bind (wpAny_dictEpoch hoa hda ?_)
    rw [h0]
    simp only [Std.Legacy.Range.forIn_eq_forIn_range', Std.Legacy.Range.size, Nat.sub_zero, Nat.add_sub_cancel, Nat.div_one, Nat.zero_sub, Nat.zero_add]
    exact wpAny_bind (wpAny_pure (wpAny_pure h))
def rEqND (P : Program) (w : World) (K : PySem.W.Frag) : R2 := fun x y H Q => ∃ (p q a b : Addr) (ks : List (NestedKey × Addr × V)), x = .ref p ∧ y = .ref q ∧ H p = some (ndO P w a ks) ∧ NdK K H ks ∧ H q = some (ndO P w b []) ∧ Q (.bl ks.isEmpty) H
section
variable {X : Cx}
theorem op_eqND (hu : X.A.units + 64 < cLine) : OpR X (compareOp .Eq) (rEqND X.prog X.w X.K) := by
  intro pins s σ H x y v u Q I rx ry h
  obtain ⟨p, q, a, b, ks, rfl, rfl, ep, hk, eq, hq⟩ := h
  obtain rfl : v = Value.ref p := rx
  obtain rfl : u = Value.ref q := ry
  have e1 := nd_addr (I.hok p _ ep)
  subst e1
  have e2 := nd_addr (I.hok q _ eq)
  subst e2
  obtain ⟨hm1, xs, hx, r1⟩ := nd_at I ep hk
  obtain ⟨hm2, ys, hy, r2⟩ := nd_at I eq (fun e he => nomatch he)
  cases r2
  have tx := hx.typeIs
  have ty := hy.typeIs
  obtain ⟨oa, es, epa, hoa, _, hda, hea, _⟩ := hx
  obtain ⟨ob, es', epb, hob, _, hdb, heb, _⟩ := hy
  have hz : es'.size = 0 := by rw [← Array.length_toList, heb]; rfl
  have hl : es.size = ks.length := by rw [← Array.length_toList, hea, List.length_map, nd_len r1]
  refine wpAny_richCompare_same_room (op := .Eq) tx ty PySem.F.slot_dict_eq (wpAny_call_entry PySem.F.slot_dict_eq tx PySem.F.entry_dict_eq ?_ (PySem.F.args_dict_eq_2 _ _)) (by omega)
  show wpAny _ _ (Builtin.Dict.dictSlotArgs "__eq__" ⟨[.ref _, .ref _], []⟩ >>= _) _ _ s
  refine wpAny_bind ?_
  unfold Builtin.Dict.dictSlotArgs
  refine wpAny_bind (wpAny_notOrdered_dict tx ?_)
  show wpAny _ _ (pure (Value.ref _, Value.ref _)) _ _ s
  refine wpAny_pure ?_
  refine wpAny_bind (wpAny_isInstance (T := "dict") ty PySem.F.sub_dict_dict ?_)
  simp only [Bool.not_true, Bool.false_eq_true, if_false]
  refine wpAny_bind (wpAny_pure (wpAny_bind (wpAny_pure ?_)))
  refine wpAny_bind (same_empty hm1 hm2 hoa hda hob hdb hz ?_)
  refine wpAny_pure ⟨_, rfl, ?_, ?_⟩
  · exact fun x => nomatch x
  · have e : (es.size == 0) = ks.isEmpty := by rw [hl]; cases ks <;> rfl
    rw [e]
    refine ⟨.bl ks.isEmpty, H, I, ?_, hq⟩
    cases ks <;> rfl
end
theorem op_eqNDK {P : Program} {w : World} (K : PySem.W.Frag) {X : Cx} (hu : X.A.units + 64 < cLine) (hk : X.K = K := by rfl) (hp : X.prog = P := by rfl) (hw : X.w = w := by rfl) : OpR X (compareOp .Eq) (rEqND P w K) := by
  subst hk hp hw; exact op_eqND hu
section
variable {K : PySem.W.Frag} {J : Jm} {M : Mm} {MV : Mh} {env : List Sl} {D : DM} {tk tv : TE} {P : Program} {w0 : World}
theorem o2_eqND {R : Dt → Prop} {p q : Addr} {ds : List (NestedKey × Dt)} (hM : M p = some (.dn P w0 ds)) (hq : M q = some (.dn P w0 [])) (h : R (.bl ds.isEmpty)) : O2 K (Jt K J MV M) (rEqND P w0 K) (.ptr p) (.ptr q) R := fun G H vx vy w rx ry Q qq => by
  cases rx; cases ry
  obtain ⟨a, ks, _, hH, r⟩ := w.dnM hM
  obtain ⟨b, ls, _, hH2, r2⟩ := w.dnM hq
  have e2 : ls = [] := by have := r2.len; exact List.length_eq_zero_iff.mp this
  subst e2
  refine ⟨p, q, a, b, ks, rfl, rfl, hH, nd_keysH (P := P) (w0 := w0) r w.gh, hH2, ?_⟩
  have e : ks.isEmpty = ds.isEmpty := by
    have := r.len
    cases ks <;> cases ds <;> first | rfl | (simp at this)
  rw [e]
  exact qq _ _ G H w.nx (.bl _) h
theorem evm_disp1N {R : Dt → Mm → Prop} (h : ∀ p, M p = none → ∀ MV, Ev K (Jt K J MV (updM M p (.dn P w0 []))) env tk fun x => ∃ xs k, x = .tup xs ∧ nkD x = some k ∧ k.depth ≤ 8 ∧ Ev K (Jt K J MV (updM M p (.dn P w0 []))) env tv fun d => R (.ptr p) (updM M p (.dn P w0 [(k, d)]))) : EvM K J M env D (tDisp1N P w0 K tk tv) R := fun MV0 MV GB B G H σ a x Q q p hp => by
  have hj : p ∉ J.ms := (not_jt.mp (a.wf.notin hp)).1
  have hM := a.wf.none_ hp
  have n1 := a.wf.newM hp (ndO P w0 p [])
  have n2 := nxm_put (ho := ndO P w0 p []) (.inr hp) (NxM.of n1)
  have a2 := a.thenM n2 ((n1.wf a.wf).put hj (a.wf.free hp) upd_same (.dn .nil))
  refine h p hM.2 _ B G _ σ a2.wf a2.en _ fun y x G1 H1 m1 rx ⟨xs, k, ex, hx, h8, hv⟩ => ?_
  subst ex
  have a3 := a2.then m1
  refine hv B G1 H1 σ a3.wf a3.en _ fun v d G2 H2 m2 rd kx => ?_
  have a4 := a3.then m2
  have hk := (nk_dr rx hx).mono m2.gg
  obtain ⟨a', ks, e1, e2, t⟩ := a4.wf.dnM (updM_same (M := M) (a := p) (o := .dn P w0 []))
  have e0 : ks = [] := by have := t.len; exact List.length_eq_zero_iff.mp this
  subst e0
  cases rx with
  | @tup b us _ s t' =>
    have n5 := a4.wf.chgN (ho' := ndO P w0 p (putN [] k b v)) e1
    have a5 := a4.thenM n5 (a4.wf.chg (ob' := .dn P w0 (putQN [] k d)) e1 (.dn (t.put hk h8 rd)))
    rw [updM_updM] at a5
    exact ⟨b, a', k, rfl, e2, NkV.mono a4.wf.gh hk, h8, q (.ref p) (.ptr p) _ _ G2 _ (n2.trans ((NxM.of (m1.trans m2)).trans n5)) a5 (.ptr _) kx⟩
end
theorem pe_disp1NK (P : Program) (w : World) (K : PySem.W.Frag) {X : Cx} {pos : Pos} {k v : Expr} {tk tv : TE} (hu : X.A.units + 64 < cLine) (h1 : PE X k tk) (h2 : PE X v tv) (hk : X.K = K := by rfl) (hp : X.prog = P := by rfl) (hw : X.w = w := by rfl) : PE X (.Dict [some k] [v] pos) (tDisp1N P w K tk tv) := by
  subst hk hp hw; exact pe_disp1N hu h1 h2
end Mv

set_option Elab.async false
set_option linter.all false
set_option maxRecDepth 100000
set_option maxHeartbeats 4000000
namespace Mv
open PySem PySem.Spec PyProof.Rows L2
/-! ### a told list and a new one put together; xs[:-1] -/
section
variable {K : PySem.W.Frag} {J : Jm} {M : Mm} {env : List Sl} {D : DM} {tb : TE}
theorem emm_catV {i : Nat} {a : Addr} {xs : List Dt} {R : List Dt → Mm → Prop} (hi : env[i]? = some (.d (.ptr a))) (hM : M a = some (.lst xs)) (h : EmM K J M env D tb fun ys M2 => M2 a = some (.lst xs) ∧ xs.length + ys.length ≤ 100000 ∧ R (xs ++ ys) M2) : EmM K J M env D (tOp rCat (tVar i) tb) R := fun MV0 MV GB B G H σ at_ x Q q => by
  obtain ⟨v, h1, r⟩ := at_.en.dat hi
  cases r
  refine ⟨.ref a, h1, h MV0 MV GB B G H σ at_ x _ fun p2 v2 d2 M2 MV2 G2 H2 n2 a2 hp2 hj2 hM2 hG2 hH2 r2 ⟨ha2, hz, k2⟩ => ?_⟩
  obtain ⟨vs, _, hHa, rv⟩ := a2.wf.lstM ha2
  refine ⟨a, p2, vs, v2, rfl, rfl, hHa, hH2, sz_of (by rw [rv.length, r2.length]; exact hz), fun p hp => ?_⟩
  have nn := a2.wf.newM hp (.lst (vs ++ v2))
  have a3 := a2.then nn
  have hp0 : H p = none := by
    cases z : H p with
    | none => rfl
    | some o => exact absurd hp (n2.th p (by rw [z]; simp))
  have hj := not_jt.mp (a2.wf.notin hp)
  exact q p (vs ++ v2) (xs ++ d2) M2 MV2 G2 _ (n2.trans (.of nn)) a3 hp0 hj.1 hj.2 (a2.wf.free hp) upd_same (rv.append r2) k2
theorem eam_tap {i : Nat} {tr : TA} {R : List Sl → Mm → Prop} (hh : env[i]? = some .tap) (h : EaM K J M env D tr fun xs M2 => R (.tap :: xs) M2) : EaM K J M env D (tCons (tVar i) tr) R := fun MV0 MV GB B G H σ a x Q q => by
  obtain ⟨ov, h1, p, c, e, hd⟩ := a.en.ok i .tap hh
  subst e
  exact ⟨.ref p, h1, h MV0 MV GB B G H σ a x _ fun vs ss M' MV' G' H' n a' r k => q _ _ M' MV' G' H' n a' (.cons (show Sv1 K (Jt K J MV' M') G' (.ref p) .tap from ⟨p, c, rfl, hd⟩) r) k⟩
end
theorem cut_init {xs : List Dt} (h : xs ≠ []) : cutD xs none (some (-1)) = xs.dropLast := by
  have hl := List.length_pos_iff.mpr h
  unfold cutD
  have e1 : HT.sIx xs.length 0 none = 0 := rfl
  have e2 : HT.sIx xs.length xs.length (some (-1)) = xs.length - 1 := by
    have e3 : ((-1 : Int) + (xs.length : Int)).toNat = xs.length - 1 := by omega
    exact e3
  rw [e1, e2, List.drop_zero, Nat.sub_zero, List.dropLast_eq_take]
theorem cut_le {xs : List Dt} {lo hi : Option Int} : (cutD xs lo hi).length ≤ xs.length := by
  unfold cutD
  rw [List.length_take, List.length_drop]
  omega
end Mv

set_option Elab.async false
set_option linter.all false
set_option maxRecDepth 100000
set_option maxHeartbeats 4000000
namespace Mv
open PySem PySem.Spec PyProof.Rows L2
/-! ### a dict with nested keys locked amid the slots of a law (the tape among them); repr of greater ints -/
def plainT (env : List Sl) : Bool := env.all fun s => match s with
  | .d _ => true
  | .no => true
  | .tap => true
  | _ => false
theorem En.plainT {K : PySem.W.Frag} {J1 J2 : Jm} {B G H G' H' : Hp} {σ : L2.St} {env : List Sl} (E : En K J1 B G H σ env) (hj : J2.hd = J1.hd) (h : plainT env = true) (sg : Same G G') : En K J2 B G' H' σ env := by
  refine ⟨E.len, fun i s hs => ?_, fun i j q hne ⟨xs, hx⟩ => ?_⟩
  · obtain ⟨ov, h1, h2⟩ := E.ok i s hs
    refine ⟨ov, h1, ?_⟩
    have := List.all_eq_true.mp h s (List.mem_of_getElem? hs)
    cases s with
    | no => trivial
    | d x =>
      obtain ⟨v, e, r⟩ := h2
      exact ⟨v, e, r.mono sg⟩
    | tap =>
      obtain ⟨p, c, e, k⟩ := h2
      exact ⟨p, c, e, hj.trans k⟩
    | ml _ => cases this
    | hand => cases this
    | hnd => cases this
    | xv _ _ _ => cases this
    | mi _ _ _ => cases this
    | md _ => cases this
  · have := List.all_eq_true.mp h _ (List.mem_of_getElem? hx)
    cases this
section
variable {K : PySem.W.Frag} {J : Jm} {M : Mm} {env : List Sl} {D : DM} {te tk tv tl : TE} {tt : TT} {wi : TI} {g : TG} {vs : List Nat} {P : Program} {w0 : World} {p : Addr} {ds : List (NestedKey × Dt)}

theorem evm_lockNT {R : Dt → Mm → Prop} (hpl : plainT env = true) (hM : M p = some (.dn P w0 ds))
    (h : ∀ a od ks, EvM K (JfN K J P w0 p a od ks ds) (cutM M p) env DX te fun d M' => R d (updM M' p (.dn P w0 ds))) : EvM K J M env D (tLockE te) R := fun MV0 MV GB B G H σ a x Q q => by
  obtain ⟨ad, ks, hv, hH, rq⟩ := a.wf.dnM hM
  have hpJ : p ∉ J.ms := a.wf.ok.2.1 p (by rw [hv]; simp)
  have hG : G p = none := (a.wf.ms p (.inr (by rw [hv]; simp))).1
  refine ⟨p, _, hH, trivial, fun od => ?_⟩
  have jok : J.ok (upd H p (.frz od (ndO P w0 ad ks))) := J.st H _ a.wf.ok.1 fun b hb => upd_ne fun z => hpJ (z ▸ hb)
  have w1 : Wf (Jt K (JfN K J P w0 p ad od ks ds) (cutH MV p) (cutM M p)) G (upd H p (.frz od (ndO P w0 ad ks))) := by
    refine ⟨fun b u e => ?_, ⟨⟨jok, hpJ, upd_same⟩, fun b hb => ?_, fun b o e => ?_⟩, fun m hm => ?_, ⟨a.wf.tr.1, rq⟩, fun b => ?_⟩
    · rw [upd_ne (ne_of_none e hG)]; exact a.wf.gh b u e
    · obtain ⟨h1, h2⟩ := cutH_some hb
      exact fun z => z.elim (a.wf.ok.2.1 b h2) h1
    · obtain ⟨h1, _⟩ := cutH_some (by rw [e]; simp : cutH MV p b ≠ none)
      rw [cutH_ne h1] at e
      rw [upd_ne h1]
      exact a.wf.ok.2.2 b o e
    · by_cases z : m = p
      · subst z; exact ⟨hG, by rw [upd_same]; simp⟩
      · have hm2 : m ∈ (Jt K J MV M).ms := by
          rcases hm with (hm | hm) | hm
          · exact .inl hm
          · exact absurd hm z
          · exact .inr (cutH_some hm).2
        rw [upd_ne z]
        exact a.wf.ms m hm2
    · by_cases z : b = p
      · subst z
        exact ⟨fun ob e => (by unfold cutM at e; rw [if_pos rfl] at e; cases e), fun _ => (by unfold cutH; rw [if_pos rfl])⟩
      · rw [cutM_ne z, cutH_ne z]; exact a.wf.tr.2 b
  have n1 : NxM (JfN K J P w0 p ad od ks ds) (cutH MV0 p) GB B (cutH MV p) G (upd H p (.frz od (ndO P w0 ad ks))) := by
    refine ⟨a.nx.gg, a.nx.fr, fun b o e hb hm => ?_, fun b hb => ?_, fun b hb => ?_, fun b hb => ?_⟩
    · have hbp : b ≠ p := fun z => hb (.inr z)
      rw [upd_ne hbp]
      rw [cutH_ne hbp] at hm
      exact a.nx.kp b o e (fun z => hb (.inl z)) hm
    · by_cases z : b = p
      · rw [z, upd_same]; simp
      · rw [upd_ne z]; exact a.nx.th b hb
    · obtain ⟨h1, h2⟩ := cutH_some hb
      rw [cutH_ne h1]
      exact a.nx.dm b h2
    · obtain ⟨h1, h2⟩ := cutH_some hb
      rw [cutH_ne h1]
      exact a.nx.dk b h2
  refine h ad od ks (cutH MV0 p) (cutH MV p) GB B G _ σ ⟨w1, n1, a.en.plainT rfl hpl (Same.refl _)⟩ xok0 _ fun v d M' MV' G' H' n a2 r k => ?_
  have w2 := a2.wf
  have hH2 : H' p = some (.frz od (ndO P w0 ad ks)) := w2.ok.1.2.2
  have hG2 : G' p = none := (w2.ms p (.inl (.inr rfl))).1
  have jok2 : J.ok (upd H' p (ndO P w0 ad ks)) := J.st H' _ w2.ok.1.1 fun b hb => upd_ne fun z => hpJ (z ▸ hb)
  have hmp : MV' p = none := by
    cases z : MV' p with
    | none => rfl
    | some o => exact absurd (.inr rfl) (w2.ok.2.1 p (by rw [z]; simp))
  have wE : Wf (Jt K J (upd MV' p (ndO P w0 ad ks)) (updM M' p (.dn P w0 ds))) G' (upd H' p (ndO P w0 ad ks)) := by
    refine ⟨fun b u e => ?_, ⟨jok2, fun b hb => ?_, fun b o e => ?_⟩, fun m hm => ?_, w2.tr.1.1, fun b => ?_⟩
    · rw [upd_ne (ne_of_none e hG2)]; exact w2.gh b u e
    · by_cases z : b = p
      · rw [z]; exact hpJ
      · rw [upd_ne z] at hb
        exact fun y => w2.ok.2.1 b hb (.inl y)
    · by_cases z : b = p
      · subst z; rw [upd_same] at e ⊢; exact e
      · rw [upd_ne z] at e ⊢; exact w2.ok.2.2 b o e
    · by_cases z : m = p
      · subst z; exact ⟨hG2, by rw [upd_same]; simp⟩
      · rw [upd_ne z]
        refine w2.ms m ?_
        rcases hm with hm | hm
        · exact .inl (.inl hm)
        · rw [upd_ne z] at hm; exact .inr hm
    · by_cases z : b = p
      · subst z
        rw [updM_same, upd_same]
        exact ⟨fun ob e => (by cases e; exact ⟨_, rfl, .dn w2.tr.1.2⟩), fun e => (by cases e)⟩
      · rw [updM_ne z, upd_ne z]; exact w2.tr.2 b
  have nE : NxM J MV G H (upd MV' p (ndO P w0 ad ks)) G' (upd H' p (ndO P w0 ad ks)) := by
    refine ⟨n.gg, fun b h1 h2 => n.fr b h1 ?_, fun b o e hb hm => ?_, fun b hb => ?_, fun b hb => ?_, fun b hb => ?_⟩
    · by_cases z : b = p
      · subst z; rw [upd_same]; simp
      · rw [upd_ne z]; exact h2
    · have z : b ≠ p := fun z => by rw [z, hv] at hm; cases hm
      rw [upd_ne z]
      refine n.kp b o (by rw [upd_ne z]; exact e) (fun y => y.elim hb z) (by rw [cutH_ne z]; exact hm)
    · by_cases z : b = p
      · rw [z, upd_same]; simp
      · rw [upd_ne z]; exact n.th b (by rw [upd_ne z]; exact hb)
    · by_cases z : b = p
      · subst z; exact .inl (by rw [hv]; simp)
      · rw [upd_ne z] at hb
        have := n.dm b hb
        rw [cutH_ne z, upd_ne z] at this
        exact this
    · by_cases z : b = p
      · rw [z, upd_same]; simp
      · rw [upd_ne z]; exact n.dk b (by rw [cutH_ne z]; exact hb)
  exact ⟨hH2, q v d _ _ G' _ nE (a.thenM nE wE) r k⟩
end
theorem oc_reprI2 {K : PySem.W.Frag} {J : Jm} {R : Dt → Prop} {i : Int} (hz : i.natAbs ≤ 1000000000000) (h : R (.str (Str.ofString (toString i)))) : Oc K J rReprI [.int i] R := fun G H vs w rs Q q => by
  cases rs with
  | cons r1 r2 =>
    cases r2
    cases r1
    refine ⟨i, rfl, ?_, q _ _ G H w.nx (.str _) h⟩
    by_cases h0 : i.natAbs = 0
    · rw [h0]; decide
    · have := Nat.log2_self_le h0
      by_cases h4 : i.natAbs.log2 < 50
      · omega
      · have : 2 ^ 50 ≤ 2 ^ i.natAbs.log2 := Nat.pow_le_pow_right (by decide) (by omega)
        have e : (2 : Nat) ^ 50 = 1125899906842624 := by decide
        omega
end Mv

set_option Elab.async false
set_option linter.all false
set_option maxRecDepth 100000
set_option maxHeartbeats 4000000
/-! itertools.combinations(range(n), r) gone through -/
namespace Mv
open PySem PySem.Spec PyProof.Rows L2
/-- the combination behind this one -/
def nxC (n : Nat) (ks : List Nat) : Option (List Nat) :=
  match (List.range ks.length).reverse.find? fun j => ks.getD j 0 != j + n - ks.length with
  | none => none
  | some j => some (ks.take j ++ (List.range (ks.length - j)).map fun d => ks.getD j 0 + 1 + d)
def goC (n : Nat) : Nat → List Nat → List (List Nat)
  | 0, l => [l]
  | f + 1, l => l :: match nxC n l with
    | none => []
    | some k => goC n f k
def combC (n r : Nat) : List (List Nat) := if r ≤ n then goC n 80 (List.range r) else []
/-- all rising lists below n -/
def upsC : Nat → List (List Nat)
  | 0 => [[]]
  | n + 1 => upsC n ++ (upsC n).map fun l => l ++ [n]
theorem ups_mem : ∀ {n : Nat} {l : List Nat}, l ∈ upsC n ↔ l.Pairwise (· < ·) ∧ ∀ v ∈ l, v < n
  | 0, l => by
    unfold upsC
    rw [List.mem_singleton]
    constructor
    · rintro rfl; exact ⟨.nil, fun v h => nomatch h⟩
    · rintro ⟨_, h⟩
      cases l with
      | nil => rfl
      | cons a r => exact absurd (h a List.mem_cons_self) (Nat.not_lt_zero _)
  | n + 1, l => by
    have ih := fun l => ups_mem (n := n) (l := l)
    unfold upsC
    rw [List.mem_append, List.mem_map, ih]
    constructor
    · rintro (⟨h1, h2⟩ | ⟨k, hk, rfl⟩)
      · exact ⟨h1, fun v hv => Nat.lt_succ_of_lt (h2 v hv)⟩
      · obtain ⟨h1, h2⟩ := (ih k).mp hk
        refine ⟨List.pairwise_append.mpr ⟨h1, by simp, fun a ha b hb => ?_⟩, fun v hv => ?_⟩
        · rw [List.mem_singleton] at hb; subst hb; exact h2 a ha
        · rcases List.mem_append.mp hv with hv | hv
          · exact Nat.lt_succ_of_lt (h2 v hv)
          · rw [List.mem_singleton] at hv; omega
    · rintro ⟨h1, h2⟩
      by_cases z : n ∈ l
      · right
        have hne : l ≠ [] := fun e => by rw [e] at z; cases z
        have e := List.dropLast_concat_getLast hne
        rw [← e] at h1 h2 z
        obtain ⟨p1, _, p3⟩ := List.pairwise_append.mp h1
        have hn : l.getLast hne = n := by
          rcases List.mem_append.mp z with z | z
          · have h3 := p3 n z _ (List.mem_singleton.mpr rfl)
            have h4 := h2 (l.getLast hne) (by simp)
            omega
          · rw [List.mem_singleton] at z; exact z.symm
        refine ⟨l.dropLast, (ih _).mpr ⟨p1, fun v hv => ?_⟩, by rw [← hn]; exact e⟩
        have h3 := p3 v hv _ (List.mem_singleton.mpr rfl)
        omega
      · left
        exact ⟨h1, fun v hv => by
          have := h2 v hv
          by_cases q : v = n
          · subst q; exact absurd hv z
          · omega⟩
def chkC (n r : Nat) : Bool := decide ((combC n r).length ≤ 100) && ((List.range (combC n r).length).all fun i => decide (nxC n ((combC n r).getD i []) = (combC n r)[i + 1]?)) && ((combC n r).all fun l => decide (l ∈ upsC n ∧ l.length = r)) && ((upsC n).all fun l => decide (l.length = r → l ∈ combC n r)) && decide (r ≤ n → (combC n r)[0]? = some (List.range r))
theorem comb_chk : ((List.range 9).all fun n => (List.range 10).all fun r => chkC n r) = true := by decide +kernel
structure CombOk (n r : Nat) : Prop where
  z : (combC n r).length ≤ 100
  next : ∀ i l, (combC n r)[i]? = some l → nxC n l = (combC n r)[i + 1]?
  mem : ∀ l, l ∈ combC n r ↔ l.Pairwise (· < ·) ∧ (∀ v ∈ l, v < n) ∧ l.length = r
  head : r ≤ n → (combC n r)[0]? = some (List.range r)
  none : n < r → combC n r = []
theorem comb_ok {n r : Nat} (hn : n < 9) (hr : r < 10) : CombOk n r := by
  have h := List.all_eq_true.mp (List.all_eq_true.mp comb_chk n (List.mem_range.mpr hn)) r (List.mem_range.mpr hr)
  unfold chkC at h
  simp only [Bool.and_eq_true, decide_eq_true_eq] at h
  obtain ⟨⟨⟨⟨h1, h2⟩, h3⟩, h4⟩, h5⟩ := h
  refine ⟨h1, fun i l hl => ?_, fun l => ⟨fun hl => ?_, fun ⟨k1, k2, k3⟩ => ?_⟩, h5, fun z => by unfold combC; rw [if_neg (by omega)]⟩
  · have hi := (List.getElem?_eq_some_iff.mp hl).1
    have := of_decide_eq_true (List.all_eq_true.mp h2 i (List.mem_range.mpr hi))
    rw [List.getD_eq_getElem?_getD, hl] at this
    exact this
  · have := of_decide_eq_true (List.all_eq_true.mp h3 l hl)
    have h6 := ups_mem.mp this.1
    exact ⟨h6.1, h6.2, this.2⟩
  · exact of_decide_eq_true (List.all_eq_true.mp h4 l (ups_mem.mpr ⟨k1, k2⟩)) k3
namespace F
theorem mro_comb : mroOf (.type "itertools.combinations") = pure [.type "itertools.combinations", .type "object"] := by rw [mroOf_type]; kernel_rfl
theorem lookup_comb_new : typeLookup (.type "itertools.combinations") "__new__" = pure (some (.builtin "itertools.combinations.__new__")) := by rw [typeLookup_type, builtinLookup_eq_fast]; kernel_rfl
theorem slot_comb_init : Slot "itertools.combinations" "__init__" "object.__init__" :=
  .of (owner := "object") (n := "__init__") (by rw [typeLookup_type, builtinLookup_eq_fast]; kernel_rfl) (by decide +kernel) (by decide +kernel) (by decide +kernel)
    (by first | exact .inl (by decide +kernel) | exact .inr (by decide +kernel)) (by rw [isSubtype_type]; kernel_rfl)
theorem called_comb : TypeCalled "itertools.combinations" "itertools.combinations.__new__" "object.__init__" :=
  ⟨by decide +kernel, by decide +kernel, ⟨_, _, mro_comb⟩, madeBy_type mro_comb lookup_comb_new (by decide +kernel), by decide +kernel, by rw [isSubtype_type]; kernel_rfl, slot_comb_init⟩
theorem typeCall_comb (a b : Value) : checkTypeCall "itertools.combinations" ⟨[a, b], []⟩ = pure () := by kernel_rfl
theorem newCall_comb (a b : Value) : checkBuiltinCall "itertools.combinations.__new__" ⟨[.type "itertools.combinations", a, b], []⟩ = pure () := by kernel_rfl
theorem entry_comb_new : entryFor table "itertools.combinations.__new__" = some Builtin.«itertools.combinations.__new__» := entryFor_of_tree (by kernel_rfl)
theorem sub_comb : isSubtype (.type "itertools.combinations") (.type "itertools.combinations") = pure true := by rw [isSubtype_type]; kernel_rfl
theorem slot_comb_next : Slot "itertools.combinations" "__next__" "itertools.combinations.__next__" :=
  .of (owner := "itertools.combinations") (n := "__next__") (by rw [typeLookup_type, builtinLookup_eq_fast]; kernel_rfl) (by decide +kernel) (by decide +kernel) (by decide +kernel)
    (by first | exact .inl (by decide +kernel) | exact .inr (by decide +kernel)) (by rw [isSubtype_type]; kernel_rfl)
theorem entry_comb_next : entryFor table "itertools.combinations.__next__" = some Builtin.«itertools.combinations.__next__» := entryFor_of_tree (by kernel_rfl)
theorem slot_comb_iter : Slot "itertools.combinations" "__iter__" "itertools.combinations.__iter__" :=
  .of (owner := "itertools.combinations") (n := "__iter__") (by rw [typeLookup_type, builtinLookup_eq_fast]; kernel_rfl) (by decide +kernel) (by decide +kernel) (by decide +kernel)
    (by first | exact .inl (by decide +kernel) | exact .inr (by decide +kernel)) (by rw [isSubtype_type]; kernel_rfl)
end F
end Mv

set_option Elab.async false
set_option linter.all false
set_option maxRecDepth 100000
set_option maxHeartbeats 4000000
namespace Mv
open PySem PySem.Spec PyProof.Rows L2
namespace F
theorem args_comb_next_1 (a : Value) : argsOk "itertools.combinations.__next__" ⟨[a], []⟩ := by
  unfold argsOk; kernel_rfl
theorem args_comb_iter_1 (a : Value) : argsOk "itertools.combinations.__iter__" ⟨[a], []⟩ := by
  unfold argsOk; kernel_rfl
theorem entry_comb_iter : entryFor table "itertools.combinations.__iter__" = some Builtin.«dict_keyiterator.__iter__» :=
  entryFor_alias (id' := "dict_keyiterator.__iter__") (by kernel_rfl) (by first | rfl | decide +kernel | (unfold String.splitOn; simp +decide [String.splitOnAux])) (by decide +kernel) (by kernel_rfl)
theorem plain_comb_new : PySem.plainId "itertools.combinations.__new__" = true := by decide +kernel
theorem bind_comb (a b : Value) : Builtin.Itertools.itBindNamed "combinations" ["iterable", "r"] 2 2 [a, b] [] = pure [some a, some b] := by rfl
theorem size_comb (r : Int) (t : Tok) (h1 : -(2^62) ≤ r) (h2 : r < 2^62) : Builtin.Itertools.itSsizeArg (.int r t) = pure r := by
  unfold Builtin.Itertools.itSsizeArg
  show (if _ then _ else _) = _
  rw [if_neg (by simp; omega)]
end F
abbrev cObj (T : Addr) (st : Int) (l : Value) (ks : List Nat) : Obj := { cls := .type "itertools.combinations", dict := none, data := .fields ([.ref T, rawInt st, l] ++ ks.map fun (i : Nat) => rawInt i).toArray, slots := #[] }
section
variable {prog : Program} {w : World} {A : Around} {E : Value → Shared → Prop} {s : Shared} {rg : Addr} {t u v tr : Tok} {n r : Nat}
theorem code_comb_new {Q₁ : Value → Shared → Prop} (hh : A.handled = none) (hr : IsRange s.heap rg 0 n 1 t u v) (hn : n ≤ 1000) (hr2 : r ≤ 1000)
    (h : ∀ (h' : Heap) (tk : Nat) (acc : Array Value), (∀ b o, s.heap.get? b = some o → h'.get? b = some o) → ItemsOf (fun i v => ∃ t, v = .int (0 + i * 1) t) acc n →
      Q₁ (.ref (h'.push { cls := .type "tuple", data := .seq acc }).objs.size) { s with heap := (h'.push { cls := .type "tuple", data := .seq acc }).push (cObj h'.objs.size (if r > n then 2 else 0) .none (List.range r)), toks := tk }) :
    codeAny (model prog w) A (.call (.builtin "itertools.combinations.__new__") ⟨[.type "itertools.combinations", .ref rg, .int r tr], []⟩) (wants Q₁ E) s := by
  refine codeAny_of_tree ?_
  show wpAny _ A.in1 (do checkBuiltinCall "itertools.combinations.__new__" ⟨[.type "itertools.combinations", .ref rg, .int r tr], []⟩; again (.builtin "itertools.combinations.__new__" ⟨[.type "itertools.combinations", .ref rg, .int r tr], []⟩)) _ _ s
  refine wpAny_bind (wpAny_of_eq (F.newCall_comb _ _) (wpAny_pure ⟨plainId_quiet F.plain_comb_new _, codeAny_builtin F.entry_comb_new ?_⟩))
  rw [Around.under_plainId F.plain_comb_new _]
  have hh1 : A.in1.handled = none := hh
  have hsub := F.sub_comb
  show wpAny _ _ ((Builtin.Itertools.itClassAndRest "combinations" ⟨[.type "itertools.combinations", .ref rg, .int r tr], []⟩ >>= _) >>= _) _ _ _
  refine wpAny_bind (wpAny_bind ?_)
  unfold Builtin.Itertools.itClassAndRest
  have hsub2 : isSubtype (.type "itertools.combinations") (.type ("itertools." ++ "combinations")) = pure true := hsub
  wp_walk
  rw [if_neg (by simp; omega)]
  refine wpAny_pure (wpAny_bind (collect_range (A := A.in1) hh1 hr (small_one (by omega) (by omega) (by omega) (by omega)) (show Builtin.Range.rangeSize 0 n 1 = n by rw [rangeSize_one]; split <;> omega) (by omega) fun h' tk acc hk hacc => ?_))
  have ez : acc.size = n := hacc.1
  rw [if_neg (by omega)]
  have e2 : Builtin.Itertools.itTooMany (r : Int) = false := by unfold Builtin.Itertools.itTooMany; simp; omega
  try dsimp only
  rw [if_neg (by rw [e2]; decide)]
  refine wpAny_bind (wpAny_newTuple ?_ (by rw [Array.length_toList, ez, sizeLine_eq]; omega))
  refine wpAny_pure (wpAny_bind ?_)
  unfold Builtin.Itertools.itNewRecord
  try dsimp only
  rw [if_pos (by decide +kernel)]
  refine wpAny_newObj_type ?_ (by show Array.size _ ≤ _; simp only [List.cons_append, List.nil_append, List.size_toArray, List.length_cons, List.length_map, List.length_range]; rw [sizeLine_eq]; omega)
  refine wpAny_pure ?_
  have e : acc.toList.toArray = acc := by simp
  rw [e, Array.length_toList, ez, Int.toNat_natCast]
  exact h h' tk acc hk hacc
theorem call_comb {Q : Value → Shared → Prop} (hh : A.handled = none) (hr : IsRange s.heap rg 0 n 1 t u v) (hn : n ≤ 1000) (hr2 : r ≤ 1000)
    (hQ : ∀ (h' : Heap) (tk : Nat) (acc : Array Value), (∀ b o, s.heap.get? b = some o → h'.get? b = some o) → ItemsOf (fun i v => ∃ t, v = .int (0 + i * 1) t) acc n →
      Q (.ref (h'.push { cls := .type "tuple", data := .seq acc }).objs.size) { s with heap := (h'.push { cls := .type "tuple", data := .seq acc }).push (cObj h'.objs.size (if r > n then 2 else 0) .none (List.range r)), toks := tk }) :
    wpAny (model prog w) A (call (.type "itertools.combinations") [.ref rg, .int r tr]) Q E s := by
  refine callType_codes (Q₁ := fun obj s₁ => s₁.TypeIs obj "itertools.combinations" ∧ Q obj s₁) F.called_comb (F.typeCall_comb _ _) F.entry_object_init
    (code_comb_new (A := A.in1) hh hr hn hr2 fun h' tk acc hk hacc => ⟨⟨_, Heap.get?_push_size _ rfl, rfl⟩, hQ h' tk acc hk hacc⟩) fun obj s₁ h₁ => ?_
  exact ⟨h₁.1, F.args_object_init_3 obj _ _, object_init_meets F.called_comb.init.lookup F.called_comb.made (by decide) prog w A.in1 _ s₁ ⟨h₁.1, rfl, h₁.2⟩⟩
end
section
variable {prog : Program} {w : World} {A : Around} {E : Value → Shared → Prop} {s : Shared} {z T : Addr} {m : Nat} {its : Array Value}
theorem nums_c {st : Int} {l : Value} {ks : List Nat} (f : Value → Nat) (hf : ∀ i : Nat, f (rawInt i) = i) : (([.ref T, rawInt st, l] ++ ks.map fun (i : Nat) => rawInt i).toArray.toList.drop 3).map f = ks := by
  simp only [List.cons_append, List.nil_append, List.drop_succ_cons, List.drop_zero, List.map_map]
  conv => rhs; rw [← List.map_id ks]
  exact List.map_congr_left fun i _ => hf i
theorem comb_next_item {st : Int} {l : Value} {ks k' : List Nat} {Q : Value → Shared → Prop} (hz : s.heap.get? z = some (cObj T st l ks)) (hT : s.heap.get? T = some { cls := .type "tuple", data := .seq its m }) (hTz : T ≠ z)
    (hst : (st = 0 ∧ k' = ks) ∨ (st = 1 ∧ nxC its.size ks = some k')) (hk : k'.length ≤ 1000)
    (hQ : ∀ h', h'.get? z = some (cObj T 1 (.ref s.heap.objs.size) k') → h'.get? s.heap.objs.size = some { cls := .type "tuple", data := .seq (k'.map fun i => its.getD i .none).toArray } →
      (∀ c o, c ≠ z → s.heap.get? c = some o → h'.get? c = some o) → Q (.ref s.heap.objs.size) { s with heap := h' }) :
    wpAny (model prog w) A (Builtin.«itertools.combinations.__next__» ⟨[.ref z], []⟩) (fun fin s' => ∃ v, fin = .done (.ret v) ∧ Q v s') E s := by
  show wpAny _ _ (field (.ref z) 0 >>= _) _ _ _
  refine wpAny_bind (wpAny_field hz rfl (x := .ref T) (by simp) ?_)
  show wpAny _ _ (Builtin.Itertools.itNumbersFrom (.ref z) 3 >>= _) _ _ _
  refine wpAny_bind ?_
  unfold Builtin.Itertools.itNumbersFrom
  refine wpAny_bind (wpAny_load hz (wpAny_pure ?_))
  rw [nums_c _ fun i => rfl]
  show wpAny _ _ (Builtin.Itertools.itIntField (.ref z) 1 >>= _) _ _ _
  refine wpAny_bind ?_
  unfold Builtin.Itertools.itIntField
  refine wpAny_bind (wpAny_field hz rfl (x := rawInt st) (by simp) (wpAny_pure ?_))
  have out : ∀ (h1 : Heap) (l1 : Value), h1.get? z = some (cObj T 1 l1 k') → h1.objs.size = s.heap.objs.size → (∀ c o, c ≠ z → s.heap.get? c = some o → h1.get? c = some o) →
      wpAny (model prog w) A ((do let items ← Builtin.Itertools.itPoolItems (.ref T); newTuple (k'.map fun i => items.getD i .none)) >>= fun result => do
        let before ← field (.ref z) 2
        setField (.ref z) 2 result
        letGo [before] [result]
        ret result) (fun fin s' => ∃ v, fin = .done (.ret v) ∧ Q v s') E { s with heap := h1 } := by
    intro h1 l1 hz1 sz1 k1
    refine wpAny_bind (wpAny_bind ?_)
    unfold Builtin.Itertools.itPoolItems
    refine wpAny_bind (wpAny_seqItems (k1 _ _ hTz hT) rfl (wpAny_pure ?_))
    refine wpAny_newTuple ?_ (by rw [List.length_map, sizeLine_eq]; omega)
    have hz2 : (h1.push { cls := .type "tuple", data := .seq (k'.map fun i => its.getD i .none).toArray }).get? z = some (cObj T 1 l1 k') := Heap.get?_push_of_some _ hz1
    refine wpAny_bind (wpAny_field hz2 rfl (x := l1) (by simp) ?_)
    refine wpAny_bind (wpAny_setField_rec hz2 (by simp) fun h3 hz3 sb => ?_)
    refine wpAny_bind (wpAny_letGo (wpAny_pure ⟨_, rfl, ?_⟩))
    have hlt : z < h1.objs.size := Heap.lt_size hz1
    have e : ({ s with heap := h1 } : Shared).heap.objs.size = s.heap.objs.size := sz1
    have hz4 : h3.get? z = some (cObj T 1 (.ref s.heap.objs.size) k') := by
      rw [hz3, ← sz1]
      simp
    show Q (.ref h1.objs.size) _
    rw [sz1]
    refine hQ h3 hz4 ?_ fun c o c1 q => sb.extBut _ _ c1 (Heap.get?_push_of_some _ (k1 c o c1 q))
    rw [← sz1]
    exact sb.extBut _ _ (Nat.ne_of_gt hlt) (Heap.get?_push_size _ rfl)
  rcases hst with ⟨rfl, rfl⟩ | ⟨rfl, e⟩
  · show wpAny _ _ (setField (.ref z) 1 (rawInt 1) >>= _) _ _ _
    refine wpAny_bind (wpAny_setField_rec hz (by simp) fun h1 hz1 sb => ?_)
    exact out h1 l (by rw [hz1]; simp) sb.1 fun c o c1 q => sb.extBut _ _ c1 q
  · show wpAny _ _ (Builtin.Itertools.itPoolItems (.ref T) >>= _) _ _ _
    refine wpAny_bind ?_
    unfold Builtin.Itertools.itPoolItems
    refine wpAny_bind (wpAny_seqItems hT rfl (wpAny_pure ?_))
    split
    next kn heq =>
      have heq : nxC its.size ks = some kn := heq
      rw [e] at heq
      cases heq
      refine wpAny_bind ?_
      unfold Builtin.Itertools.itSetNumbersFrom
      refine wpAny_updateFields hz rfl ?_ (by simp; rw [sizeLine_eq]; omega)
      refine out _ l ?_ ?_ ?_
      · rw [Heap.get?_update_self _ hz rfl]
        simp [Obj.mapFields]
      · exact (Heap.SameBut.update ..).1
      · exact fun c o c1 q => (Heap.SameBut.update ..).extBut _ _ c1 q
    next heq =>
      have heq : nxC its.size ks = none := heq
      rw [e] at heq
      cases heq
theorem comb_next_end {st : Int} {l : Value} {ks : List Nat} {Q : Fin → Shared → Prop} (hh : A.handled = none) (hz : s.heap.get? z = some (cObj T st l ks)) (hT : s.heap.get? T = some { cls := .type "tuple", data := .seq its m }) 
    (hst : st = 2 ∨ (st = 1 ∧ nxC its.size ks = none))
    (hE : ∀ h' e, (∀ c o, c ≠ z → s.heap.get? c = some o → h'.get? c = some o) → (∃ o, h'.get? e = some o ∧ o.cls = .type "StopIteration") → E (.ref e) { s with heap := h' }) :
    wpAny (model prog w) A (Builtin.«itertools.combinations.__next__» ⟨[.ref z], []⟩) Q E s := by
  show wpAny _ _ (field (.ref z) 0 >>= _) _ _ _
  refine wpAny_bind (wpAny_field hz rfl (x := .ref T) (by simp) ?_)
  show wpAny _ _ (Builtin.Itertools.itNumbersFrom (.ref z) 3 >>= _) _ _ _
  refine wpAny_bind ?_
  unfold Builtin.Itertools.itNumbersFrom
  refine wpAny_bind (wpAny_load hz (wpAny_pure ?_))
  rw [nums_c _ fun i => rfl]
  show wpAny _ _ (Builtin.Itertools.itIntField (.ref z) 1 >>= _) _ _ _
  refine wpAny_bind ?_
  unfold Builtin.Itertools.itIntField
  refine wpAny_bind (wpAny_field hz rfl (x := rawInt st) (by simp) (wpAny_pure ?_))
  rcases hst with rfl | ⟨rfl, e⟩
  · show wpAny _ _ (rule _ >>= _) _ _ _
    refine wpAny_bind (wpAny_rule ?_)
    exact DVw.raise_stop hh fun h' e oe k1 k2 k3 => hE h' e (fun c o _ q => k1 c o q) ⟨oe, k2, k3⟩
  · show wpAny _ _ (Builtin.Itertools.itPoolItems (.ref T) >>= _) _ _ _
    refine wpAny_bind ?_
    unfold Builtin.Itertools.itPoolItems
    refine wpAny_bind (wpAny_seqItems hT rfl (wpAny_pure ?_))
    split
    next kn heq =>
      have heq : nxC its.size ks = some kn := heq
      rw [e] at heq
      cases heq
    next heq =>
      refine wpAny_bind (wpAny_setField_rec hz (by simp) fun h1 hz1 sb => ?_)
      exact DVw.raise_stop hh fun h' e oe k1 k2 k3 => hE h' e (fun c o c1 q => k1 c o (sb.extBut _ _ c1 q)) ⟨oe, k2, k3⟩
theorem pyNext_comb_item {st : Int} {l : Value} {ks k' : List Nat} {Q : Option Value → Shared → Prop} (hz : s.heap.get? z = some (cObj T st l ks)) (hT : s.heap.get? T = some { cls := .type "tuple", data := .seq its m }) (hTz : T ≠ z)
    (hst : (st = 0 ∧ k' = ks) ∨ (st = 1 ∧ nxC its.size ks = some k')) (hk : k'.length ≤ 1000)
    (hQ : ∀ h', h'.get? z = some (cObj T 1 (.ref s.heap.objs.size) k') → h'.get? s.heap.objs.size = some { cls := .type "tuple", data := .seq (k'.map fun i => its.getD i .none).toArray } →
      (∀ c o, c ≠ z → s.heap.get? c = some o → h'.get? c = some o) → Q (some (.ref s.heap.objs.size)) { s with heap := h' }) :
    wpAny (model prog w) A (pyNext (.ref z)) Q E s := by
  have hT' : s.TypeIs (.ref z) "itertools.combinations" := ⟨_, hz, rfl⟩
  unfold pyNext
  exact wpAny_bind (wpAny_attempt (wpAny_callSpecial?_slot (name := Str.ofString "__next__") hT' F.slot_comb_next
    (wpAny_call_entry F.slot_comb_next hT' F.entry_comb_next
      (comb_next_item hz hT hTz hst hk fun h' a1 a2 a3 => wpAny_pure (hQ h' a1 a2 a3)) (F.args_comb_next_1 _))))
theorem pyNext_comb_end {st : Int} {l : Value} {ks : List Nat} {Q : Option Value → Shared → Prop} (hh : A.handled = none) (hz : s.heap.get? z = some (cObj T st l ks)) (hT : s.heap.get? T = some { cls := .type "tuple", data := .seq its m })
    (hst : st = 2 ∨ (st = 1 ∧ nxC its.size ks = none))
    (hQ : ∀ h', (∀ c o, c ≠ z → s.heap.get? c = some o → h'.get? c = some o) → Q none { s with heap := h' }) : wpAny (model prog w) A (pyNext (.ref z)) Q E s := by
  have hT' : s.TypeIs (.ref z) "itertools.combinations" := ⟨_, hz, rfl⟩
  unfold pyNext
  refine wpAny_bind (wpAny_attempt (wpAny_callSpecial?_slot (name := Str.ofString "__next__") hT' F.slot_comb_next
    (wpAny_call_entry F.slot_comb_next hT' F.entry_comb_next (comb_next_end hh hz hT hst fun h' e hk he => ?_) (F.args_comb_next_1 _))))
  obtain ⟨o, ho, hc⟩ := he
  refine wpAny_bind (wpAny_isInstance (T := "StopIteration") (b := true) ⟨o, ho, hc⟩ isSubtype_stop ?_)
  exact wpAny_pure (hQ _ hk)
theorem pyIter_comb {st : Int} {l : Value} {ks : List Nat} {Q : Value → Shared → Prop} (hz : s.heap.get? z = some (cObj T st l ks)) (h : Q (.ref z) s) : wpAny (model prog w) A (pyIter (.ref z)) Q E s := by
  have hT' : s.TypeIs (.ref z) "itertools.combinations" := ⟨_, hz, rfl⟩
  refine wpAny_pyIter_slot hT' F.slot_comb_iter (wpAny_call_entry F.slot_comb_iter hT' F.entry_comb_iter ?_ (F.args_comb_iter_1 _))
  show wpAny _ _ (ret (.ref z)) _ _ s
  exact wpAny_pure ⟨_, rfl, "itertools.combinations", _, hT', F.slot_comb_next.lookup, h⟩
end
end Mv

set_option Elab.async false
set_option linter.all false
set_option maxRecDepth 100000
set_option maxHeartbeats 4000000
/-! for lot in combinations(range(n), r) -/
namespace Mv
open PySem PySem.Spec PyProof.Rows L2
/-- each turn a new tuple -/
def ItC (cs : List (List Nat)) : It :=
  ⟨fun i _ => i < cs.length, fun i H x H' => ∃ (T : Addr) (l : List Nat), cs[i]? = some l ∧ x = .ref T ∧ H T = none ∧ H' = upd H T (.tup (l.map fun (k : Nat) => V.int k)), fun i _ => cs.length ≤ i⟩
def TnC (it pool n r : Nat) (i : Nat) (h : Heap) : Prop :=
  ∃ (its : Array Value) (m : Nat), h.get? pool = some { cls := .type "tuple", data := .seq its m } ∧ its.size = n ∧ (∀ k v, its[k]? = some v → ∃ t, v = Value.int ((k : Nat) : Int) t) ∧
    ∃ (st : Int) (l : Value) (ks : List Nat), h.get? it = some (cObj pool st l ks) ∧ ((i = 0 ∧ st = (if r > n then 2 else 0) ∧ ks = List.range r) ∨ (st = 1 ∧ ∃ j, i = j + 1 ∧ (combC n r)[j]? = some ks))
section
variable {P : Program} {w : World} {K : PySem.W.Frag} {tg : Expr} {it pool n r : Nat}
theorem turn_comb (hp : pool ≠ it) (C : CombOk n r) (hn : n < 9) (hr : r < 10) : Turn P w K tg (ItC (combC n r)) [it, pool] it (TnC it pool n r) where
  mem := by simp
  obj := fun i h st b hb => by
    obtain ⟨its, m, h1, _, _, st, l, ks, h2, _⟩ := st
    rcases List.mem_cons.mp hb with e | e
    · subst e; exact ⟨_, h2, fun v z => nomatch z⟩
    · have e : b = pool := by simpa using e
      subst e; exact ⟨_, h1, fun v z => nomatch z⟩
  keep := fun i h h' st k => by
    obtain ⟨its, m, h1, z1, z2, st, l, ks, h2, h3⟩ := st
    exact ⟨its, m, k pool (by simp) _ h1, z1, z2, st, l, ks, k it (by simp) _ h2, h3⟩
  item := by
    intro X hP hw hK hc i pins s σ H E I hf st hg
    subst hP hw hK
    obtain ⟨its, m, h1, z1, z2, st, l, ks, h2, h3⟩ := st
    have hg : i < (combC n r).length := hg
    obtain ⟨k', hk'⟩ : ∃ k', (combC n r)[i]? = some k' := ⟨_, List.getElem?_eq_getElem hg⟩
    have hmem := (C.mem k').mp (List.mem_of_getElem? hk')
    have hst : (st = 0 ∧ k' = ks) ∨ (st = 1 ∧ nxC its.size ks = some k') := by
      rcases h3 with ⟨rfl, e1, e2⟩ | ⟨e1, j, rfl, e2⟩
      · left
        by_cases z : n < r
        · rw [C.none z] at hg; exact absurd hg (Nat.not_lt_zero _)
        · rw [if_neg z] at e1
          have := C.head (by omega)
          rw [hk'] at this
          exact ⟨e1, by rw [e2]; exact Option.some.inj this⟩
      · right
        refine ⟨e1, ?_⟩
        rw [z1, C.next j ks e2]
        exact hk'
    have hlt : it < s.heap.objs.size := Heap.lt_size h2
    have hltp : pool < s.heap.objs.size := Heap.lt_size h1
    refine pyNext_comb_item h2 h1 hp hst (by have := hmem.2.2; omega) fun h' a1 a2 a3 => ?_
    refine ⟨_, rfl, go_of (s := { s with heap := h' }) a1 rfl rfl (by decide) ?_⟩
    have vals : ∀ (q : List Nat), (∀ v ∈ q, v < n) → Vals (q.map fun (k : Nat) => V.int k) (q.map fun i => its.getD i .none) := by
      intro q hq
      induction q with
      | nil => exact .nil
      | cons a q ih =>
        refine .cons ?_ (ih fun v hv => hq v (List.mem_cons_of_mem _ hv))
        have ha : a < its.size := by rw [z1]; exact hq a List.mem_cons_self
        obtain ⟨t, e⟩ := z2 a its[a] (Array.getElem?_eq_getElem ha)
        exact ⟨t, by show its.getD a .none = _; rw [Array.getD_eq_getD_getElem?, Array.getElem?_eq_getElem ha]; exact e⟩
    have new : ObjOk X.prog X.w (upd H s.heap.objs.size (.tup (k'.map fun (k : Nat) => V.int k))) h' s.heap.objs.size (.tup (k'.map fun (k : Nat) => V.int k)) :=
      ⟨by rw [List.length_map, hmem.2.2, sizeLine_eq]; omega, _, vals k' hmem.2.1, ⟨_, a2, rfl, _, rfl⟩⟩
    have I1 : Inv X pins σ (upd H s.heap.objs.size (.tup (k'.map fun (k : Nat) => V.int k))) { s with heap := h' } :=
      I.turnedNew (t' := s.toks) (ch := [it]) (fun b ob hb e => a3 b ob (by simpa using hb) e) (fun b hb => hf b (by simp at hb; subst hb; simp)) (Nat.le_refl _) new
    refine ⟨.ref s.heap.objs.size, _, I1, rfl, ⟨_, k', hk', rfl, I.hok.fresh (Nat.le_refl _), rfl⟩, ⟨its, m, a3 _ _ hp h1, z1, z2, 1, _, k', a1, .inr ⟨rfl, i, rfl, hk'⟩⟩, fun b hb => ?_⟩
    have hb2 : b < s.heap.objs.size := by
      rcases List.mem_cons.mp hb with e | e
      · subst e; exact hlt
      · have e : b = pool := by simpa using e
        subst e; exact hltp
    rw [upd_ne (Nat.ne_of_lt hb2)]
    exact (hf b hb).1
  done := by
    intro X hP hw hK hc i pins s σ H E I hf st hg
    subst hP hw hK
    obtain ⟨f0, f1, f2, f3, f4, f5⟩ := hf it (by simp)
    obtain ⟨its, m, h1, z1, z2, st, l, ks, h2, h3⟩ := st
    have hg : (combC n r).length ≤ i := hg
    refine pyNext_comb_end (I.ok.hd hc) h2 h1 ?_ fun h' eb => ⟨rfl, I.turned (t' := s.toks) (fun b ob hb e => eb b ob hb e) f0 f1 f3 f4 f5⟩
    rcases h3 with ⟨rfl, e1, e2⟩ | ⟨e1, j, rfl, e2⟩
    · left
      rw [e1]
      by_cases z : n < r
      · exact if_pos z
      · have := C.head (by omega)
        have := (List.getElem?_eq_some_iff.mp this).1
        omega
    · right
      refine ⟨e1, ?_⟩
      rw [z1, C.next j ks e2]
      exact List.getElem?_eq_none hg
  self := fun A i s Q E st h => by
    obtain ⟨its, m, h1, z1, z2, st, l, ks, h2, h3⟩ := st
    exact pyIter_comb h2 h
end
def iComb (ta : TA) : TI := fun σ H R => ta σ H fun vs H1 => ∃ (a : Addr) (n r : Nat), vs = [.ref a, .int r] ∧ H1 a = some (.rng 0 n) ∧ n < 9 ∧ r < 10 ∧ R (ItC (combC n r)) H1
theorem pi_comb {X : Cx} {tg e : Expr} {es : List Expr} {x : Str} {p pos : Pos} {ta : TA} (hc : X.calm = true) (hg : Gl X x) (hm : X.mg x = some (.type "itertools.combinations")) (ha : PA X (e :: es) ta) (hdb : (x == ("__debug__" : Str)) = false := by decide)
    (he : starEach (e :: es) X.env = (false, eval e X.env) :: starEach es X.env := by rfl) (hpl : (backTo pos (starEach es X.env)).any (·.1) = false := by rfl) : PI X tg (.Call (.Name x p) (e :: es) [] pos) (iComb ta) := by
  refine ⟨fun pins s σ H R I h => ?_⟩
  refine wpAny_Call_Name_kw (ld_glob I hg hm ?_ hdb)
  refine PyProof.Rows.callWith_type1 (thn (ha.run pos pins s σ H _ I h) fun us s1 ⟨vs, H1, I1, r1, q1⟩ => ?_) he hpl
  obtain ⟨a, n, r, rfl, hH, hn, hr, q⟩ := q1
  cases r1 with
  | cons r1 r2 =>
    cases r2 with
    | cons r2 r3 =>
      cases r3
      cases r1
      obtain ⟨tr, rfl⟩ := r2
      obtain ⟨t1, t2, t3, ho⟩ := I1.hok a _ hH
      refine call_comb (n := n) (r := r) (I1.ok.hd hc) (show IsRange s1.heap a 0 n 1 t1 t2 t3 from ho) (by omega) (by omega) fun h' tk acc hk hacc => ?_
      have zp : (h'.push { cls := .type "tuple", data := .seq acc }).objs.size = h'.objs.size + 1 := Heap.size_push ..
      have Ih : Inv X pins σ H1 { s1 with heap := h', toks := tk } := I1.kept (t' := tk) hk
      have hit : ((h'.push { cls := .type "tuple", data := .seq acc }).push (cObj h'.objs.size (if r > n then 2 else 0) .none (List.range r))).get? (h'.push { cls := .type "tuple", data := .seq acc }).objs.size = some (cObj h'.objs.size (if r > n then 2 else 0) .none (List.range r)) := Heap.get?_push_size _ rfl
      have hpo : ((h'.push { cls := .type "tuple", data := .seq acc }).push (cObj h'.objs.size (if r > n then 2 else 0) .none (List.range r))).get? h'.objs.size = some { cls := .type "tuple", data := .seq acc } := Heap.get?_push_of_some _ (Heap.get?_push_size _ rfl)
      have I2 : Inv X pins σ H1 { s1 with heap := (h'.push { cls := .type "tuple", data := .seq acc }).push (cObj h'.objs.size (if r > n then 2 else 0) .none (List.range r)), toks := tk } :=
        I1.kept (t' := tk) fun b ob q => Heap.get?_push_of_some _ (Heap.get?_push_of_some _ (hk _ _ q))
      refine pyIter_comb hit ⟨_, [(h'.push { cls := .type "tuple", data := .seq acc }).objs.size, h'.objs.size], _, _, H1, rfl, I2, turn_comb (by rw [zp]; omega) (comb_ok hn hr) hn hr, ⟨acc, _, hpo, hacc.1, fun k v e => ?_, _, _, _, hit, .inl ⟨rfl, rfl, rfl⟩⟩, fun b hb => ?_, q⟩
      · obtain ⟨t, e⟩ := hacc.2 k v e
        exact ⟨t, by rw [e]; congr 1; omega⟩
      · have hb2 : h'.objs.size ≤ b := by
          rcases List.mem_cons.mp hb with e | e
          · rw [e, zp]; omega
          · have e : b = h'.objs.size := by simpa using e
            rw [e]; exact Nat.le_refl _
        exact Ih.fpOk hb2 (Ih.hok.fresh hb2)
def lotC (l : List Nat) : Dt := .tup (l.map fun (k : Nat) => Dt.int k)
section
variable {K : PySem.W.Frag} {J : Jm} {M : Mm} {env : List Sl} {D : DM} {ta : TA}
theorem wk_comb {J : Jm} {G : Hp} {cs : List (List Nat)} : Wk K J G (ItC cs) (cs.map lotC) := by
  refine ⟨fun i G1 H1 _ _ hi => by rw [List.length_map] at hi; exact hi, fun G1 H1 _ _ => by rw [List.length_map]; exact Nat.le_refl _, fun i G1 H1 x H2 sg w hi y => ?_⟩
  obtain ⟨T, l, hl, rfl, hT, rfl⟩ := y
  have n2 := w.new hT (.tup (l.map fun (k : Nat) => V.int k))
  have da : ∀ (G2 : Hp) (q : List Nat), Da K G2 (q.map fun (k : Nat) => V.int k) (q.map fun (k : Nat) => Dt.int k) := fun G2 q => by
    induction q with
    | nil => exact .nil
    | cons a q ih => exact .cons (.int _) ih
  exact ⟨_, lotC l, n2, by rw [List.getElem?_map, hl]; rfl, .tup (.inl (.inl upd_same)) (da _ l)⟩
theorem eim_comb {R : Mm → List Dt → Mm → Prop} (h : EdM K J M env D ta fun xs M' => ∃ (a : Addr) (n r : Nat), xs = [.ptr a, .int r] ∧ M' a = some (.rng 0 n) ∧ n < 9 ∧ r < 10 ∧ R A0 ((combC n r).map lotC) M') : EiM K J M env D (iComb ta) R := fun MV0 MV GB B G H σ a x Q q =>
  h MV0 MV GB B G H σ a x _ fun vs xs M' MV' G' H' sg a' r ⟨p, n, k, e, hM, hn, hk, z⟩ => by
    subst e
    cases r with
    | cons r1 r2 =>
      cases r2 with
      | cons r2 r3 =>
        cases r3
        cases r1
        cases r2
        exact ⟨p, n, k, rfl, (a'.wf.rngM hM).2, hn, hk, q _ A0 _ M' MV' G' H' sg a' ag0 (.of fun _ => wk_comb) z⟩
end
end Mv

set_option Elab.async false
set_option linter.all false
set_option maxRecDepth 100000
set_option maxHeartbeats 4000000
/-! len of a set of ints, by a comprehension with a test -/
namespace Mv
open PySem PySem.Spec PyProof.Rows L2
section
variable {K : PySem.W.Frag} {J : Jm} {env : List Sl} {R : Dt → Prop} {tt : TT} {te : TE} {wi : TI} {g : TG} {vs : List Nat}
theorem ev_lenSF (p : Dt → Bool) (f : Dt → Int) (h : Ei K J env wi fun ds => ds.length ≤ 4000 ∧ (∀ d, d ∈ ds → Gt K J (wipeE env vs) g d vs fun e => Et K J e tt fun b => b = p d ∧ (b = true → Ev K J e te fun y => y = .int (f d))) ∧ R (.int (dcount ((ds.filter p).map f) : Nat))) : Ev K J env (tCB rLenS (tCons (tScI wi g tt te vs) tNil)) R := fun B G H σ w E Q q => by
  refine h B G H σ w E _ fun I ds G1 H1 n1 wk ⟨hz, hs, hR⟩ => ?_
  intro D hD
  have w1 := n1.wf w
  have E1 := E.mono n1
  have hn : D ∉ J.ms := w1.notin hD
  have n0 := w1.newM hD (.set (fun _ => false) 0)
  let L : Nat → List Int := fun i => ((ds.take i).filter p).map f
  have hL : ∀ i, dcount (L i) ≤ i := fun i => by
    have h1 := dcount_le (L i)
    have h2 := List.length_filter_le p (ds.take i)
    have h3 := List.length_take_le i ds
    have h4 : (L i).length = ((ds.take i).filter p).length := List.length_map ..
    omega
  refine ⟨fun i m H' => m = ds.length - i ∧ i ≤ ds.length ∧ ∃ G', Nx J G1 H1 G' H' ∧ G' D = none ∧ H' D = some (.set (fun j => decide (j ∈ L i)) (dcount (L i))),
    ⟨ds.length, by simp, Nat.zero_le _, G1, n0, w1.free hD, by rw [upd_same]; simp [L, dcount, dgo]⟩, ?_⟩
  rintro i m H' ⟨rfl, hi, G', n, hG, hH⟩
  have w' := n.wf w1
  by_cases hlt : i < ds.length
  · refine .inr ⟨wk.go i G' H' n.gg w' hlt, fun H2 => ∃ G2, Nx J G1 H1 G2 H2 ∧ G2 D = none ∧ H2 D = some (.set (fun j => decide (j ∈ L (i + 1))) (dcount (L (i + 1)))),
      fun H2 ⟨G2, a, b, c⟩ => ⟨ds.length - (i + 1), by omega, rfl, hlt, G2, a, b, c⟩, fun x H2 y => ?_⟩
    obtain ⟨G2, d, n2, hd', rd⟩ := wk.yld i G' H' x H2 n.gg w' hlt y
    have n02 := n.trans n2
    have w2 := n2.wf w'
    have hG2 := n2.fr D hG (by rw [hH]; simp)
    have hH2 := n2.kp D _ hH hn
    refine hs d (List.mem_of_getElem? hd') B G2 H2 (wipe σ vs) x w2 ((E1.mono n02).wipe vs) rd _ fun e3 σ3 E3 ks et => ⟨wipe_eq ks.1 ks.2, ?_⟩
    refine et B G2 H2 σ3 w2 E3 _ fun b G3 H3 n3 ⟨hb, ev⟩ => ?_
    have w3 := n3.wf w2
    have hG3 := n3.fr D hG2 (by rw [hH2]; simp)
    have hH3 := n3.kp D _ hH2 hn
    have hL1 : L (i + 1) = if p d = true then L i ++ [f d] else L i := by
      show ((ds.take (i + 1)).filter p).map f = _
      rw [List.take_add_one, hd']
      show ((ds.take i ++ [d]).filter p).map f = _
      rw [List.filter_append, List.map_append]
      by_cases z : p d = true
      · rw [if_pos z, List.filter_cons, if_pos z]; rfl
      · rw [if_neg z, List.filter_cons, if_neg z]; simp [L]
    cases b with
    | false =>
      rw [if_neg (by decide)]
      rw [if_neg (by rw [← hb]; decide)] at hL1
      rw [hL1]
      exact ⟨G3, n02.trans n3, hG3, hH3⟩
    | true =>
      rw [if_pos rfl]
      rw [if_pos hb.symm] at hL1
      refine ev rfl B G3 H3 σ3 w3 (E3.mono n3) _ fun yv yd G4 H4 n4 ry ky => ?_
      subst ky
      cases ry
      have hG4 := n4.fr D hG3 (by rw [hH3]; simp)
      have hH4 := n4.kp D _ hH3 hn
      have n04 := (n02.trans n3).trans n4
      have hdc := hL i
      refine ⟨f d, _, _, rfl, hH4, by show _ < 4096; omega, G4, n04.mut hD hG4 hn hH4, hG4, ?_⟩
      rw [upd_same, hL1, dcount_snoc]
      congr 2
      · funext j
        simp
      · simp
  · have e' : i = ds.length := by omega
    subst e'
    refine .inl ⟨wk.stop G' H' n.gg w', D, _, _, rfl, hH, q _ _ G' H' (n1.trans n) (.int _) ?_⟩
    have e : L ds.length = (ds.filter p).map f := by show ((ds.take _).filter p).map f = _; rw [List.take_length]
    rw [e]
    exact hR
end
end Mv


set_option Elab.async false
set_option linter.all false
set_option maxRecDepth 100000
set_option maxHeartbeats 4000000
namespace Mv
open PySem PySem.Spec PyProof.Rows L2
def topS (i : Nat) : Stmt := PySem.Challenge.pw_movedwhole_k09_lots_that_lack_room.main.body.getD i (.Pass ⟨0, 0, 0, 0⟩)
abbrev s_is_integer : Stmt := topS 8
abbrev N_is_integer : List Str := ["value"]
abbrev P_is_integer : List Str := ["value"]
theorem sc_is_integer : FnScope N_is_integer P_is_integer (defScope s_is_integer) := ⟨rfl, rfl, rfl, by decide +kernel, rfl, by decide +kernel, by decide +kernel⟩
abbrev s_is_within : Stmt := topS 9
abbrev N_is_within : List Str := ["value", "bounds", "least", "most"]
abbrev P_is_within : List Str := ["value", "bounds"]
theorem sc_is_within : FnScope N_is_within P_is_within (defScope s_is_within) := ⟨rfl, rfl, rfl, by decide +kernel, rfl, by decide +kernel, by decide +kernel⟩
abbrev s_is_lot : Stmt := topS 10
abbrev N_is_lot : List Str := ["value", "stores", "least", "store"]
abbrev P_is_lot : List Str := ["value", "stores"]
theorem sc_is_lot : FnScope N_is_lot P_is_lot (defScope s_is_lot) := ⟨rfl, rfl, rfl, by decide +kernel, rfl, by decide +kernel, by decide +kernel⟩
abbrev s_is_wishes : Stmt := topS 13
abbrev N_is_wishes : List Str := ["value", "wish"]
abbrev P_is_wishes : List Str := ["value"]
theorem sc_is_wishes : FnScope N_is_wishes P_is_wishes (defScope s_is_wishes) := ⟨rfl, rfl, rfl, by decide +kernel, rfl, by decide +kernel, by decide +kernel⟩
abbrev s_check_wishes : Stmt := topS 14
abbrev N_check_wishes : List Str := ["wishes"]
abbrev P_check_wishes : List Str := ["wishes"]
theorem sc_check_wishes : FnScope N_check_wishes P_check_wishes (defScope s_check_wishes) := ⟨rfl, rfl, rfl, by decide +kernel, rfl, by decide +kernel, by decide +kernel⟩
abbrev s_lacks_room : Stmt := topS 16
abbrev N_lacks_room : List Str := ["cluster", "wishes", "lot"]
abbrev P_lacks_room : List Str := ["cluster", "wishes", "lot"]
theorem sc_lacks_room : FnScope N_lacks_room P_lacks_room (defScope s_lacks_room) := ⟨rfl, rfl, rfl, by decide +kernel, rfl, by decide +kernel, by decide +kernel⟩
abbrev s_lot_lacking : Stmt := topS 17
abbrev N_lot_lacking : List Str := ["cluster", "wishes", "size", "lot"]
abbrev P_lot_lacking : List Str := ["cluster", "wishes"]
theorem sc_lot_lacking : FnScope N_lot_lacking P_lot_lacking (defScope s_lot_lacking) := ⟨rfl, rfl, rfl, by decide +kernel, rfl, by decide +kernel, by decide +kernel⟩
abbrev s_falls_short : Stmt := topS 18
abbrev N_falls_short : List Str := ["cluster", "wishes", "lot", "outside", "coming", "store", "rack", "wish"]
abbrev P_falls_short : List Str := ["cluster", "wishes", "lot"]
theorem sc_falls_short : FnScope N_falls_short P_falls_short (defScope s_falls_short) := ⟨rfl, rfl, rfl, by decide +kernel, rfl, by decide +kernel, by decide +kernel⟩
abbrev s_check_part : Stmt := topS 25
abbrev N_check_part : List Str := ["part", "members", "count_bounds", "bounds", "place", "member"]
abbrev P_check_part : List Str := ["part", "members", "count_bounds", "bounds"]
theorem sc_check_part : FnScope N_check_part P_check_part (defScope s_check_part) := ⟨rfl, rfl, rfl, by decide +kernel, rfl, by decide +kernel, by decide +kernel⟩
abbrev s__law_draws : Stmt := topS 27
abbrev N__law_draws : List Str := ["script", "many", "rests", "draws", "k", "cell", "at", "mixed"]
abbrev P__law_draws : List Str := ["script", "many"]
theorem sc__law_draws : FnScope N__law_draws P__law_draws (defScope s__law_draws) := ⟨rfl, rfl, rfl, by decide +kernel, rfl, by decide +kernel, by decide +kernel⟩
abbrev s__law_take : Stmt := topS 28
abbrev N__law_take : List Str := ["hand", "many", "at", "draws"]
abbrev P__law_take : List Str := ["hand", "many"]
theorem sc__law_take : FnScope N__law_take P__law_take (defScope s__law_take) := ⟨rfl, rfl, rfl, by decide +kernel, rfl, by decide +kernel, by decide +kernel⟩
abbrev s__law_like : Stmt := topS 29
abbrev N__law_like : List Str := ["found", "due", "at"]
abbrev P__law_like : List Str := ["found", "due"]
theorem sc__law_like : FnScope N__law_like P__law_like (defScope s__law_like) := ⟨rfl, rfl, rfl, by decide +kernel, rfl, by decide +kernel, by decide +kernel⟩
abbrev s__law_within : Stmt := topS 30
abbrev N__law_within : List Str := ["value", "least", "most"]
abbrev P__law_within : List Str := ["value", "least", "most"]
theorem sc__law_within : FnScope N__law_within P__law_within (defScope s__law_within) := ⟨rfl, rfl, rfl, by decide +kernel, rfl, by decide +kernel, by decide +kernel⟩
abbrev s__law_cluster : Stmt := topS 31
abbrev N__law_cluster : List Str := ["hand", "most", "many", "racks", "rooms", "v"]
abbrev P__law_cluster : List Str := ["hand", "most"]
theorem sc__law_cluster : FnScope N__law_cluster P__law_cluster (defScope s__law_cluster) := ⟨rfl, rfl, rfl, by decide +kernel, rfl, by decide +kernel, by decide +kernel⟩
abbrev s__law_wishes : Stmt := topS 32
abbrev N__law_wishes : List Str := ["hand", "pieces", "p"]
abbrev P__law_wishes : List Str := ["hand", "pieces"]
theorem sc__law_wishes : FnScope N__law_wishes P__law_wishes (defScope s__law_wishes) := ⟨rfl, rfl, rfl, by decide +kernel, rfl, by decide +kernel, by decide +kernel⟩
abbrev s__law_lots : Stmt := topS 33
abbrev N__law_lots : List Str := ["many", "found", "v", "lot"]
abbrev P__law_lots : List Str := ["many"]
theorem sc__law_lots : FnScope N__law_lots P__law_lots (defScope s__law_lots) := ⟨rfl, rfl, rfl, by decide +kernel, rfl, by decide +kernel, by decide +kernel⟩
abbrev s__law_lacks : Stmt := topS 34
abbrev N__law_lacks : List Str := ["cluster", "wishes", "lot", "outside", "v", "needed", "wish"]
abbrev P__law_lacks : List Str := ["cluster", "wishes", "lot"]
theorem sc__law_lacks : FnScope N__law_lacks P__law_lacks (defScope s__law_lacks) := ⟨rfl, rfl, rfl, by decide +kernel, rfl, by decide +kernel, by decide +kernel⟩
abbrev s__law_any_lacks : Stmt := topS 35
abbrev N__law_any_lacks : List Str := ["cluster", "wishes", "lot"]
abbrev P__law_any_lacks : List Str := ["cluster", "wishes"]
theorem sc__law_any_lacks : FnScope N__law_any_lacks P__law_any_lacks (defScope s__law_any_lacks) := ⟨rfl, rfl, rfl, by decide +kernel, rfl, by decide +kernel, by decide +kernel⟩
abbrev s__law_is_lot : Stmt := topS 36
abbrev N__law_is_lot : List Str := ["value", "many", "k"]
abbrev P__law_is_lot : List Str := ["value", "many"]
theorem sc__law_is_lot : FnScope N__law_is_lot P__law_is_lot (defScope s__law_is_lot) := ⟨rfl, rfl, rfl, by decide +kernel, rfl, by decide +kernel, by decide +kernel⟩
abbrev s__law_wrong_wishes : Stmt := topS 37
abbrev N__law_wrong_wishes : List Str := ["hand", "wishes", "at", "part"]
abbrev P__law_wrong_wishes : List Str := ["hand", "wishes"]
theorem sc__law_wrong_wishes : FnScope N__law_wrong_wishes P__law_wrong_wishes (defScope s__law_wrong_wishes) := ⟨rfl, rfl, rfl, by decide +kernel, rfl, by decide +kernel, by decide +kernel⟩
abbrev s__law_told : Stmt := topS 38
abbrev N__law_told : List Str := ["which", "cluster", "wishes", "lot", "e"]
abbrev P__law_told : List Str := ["which", "cluster", "wishes", "lot"]
theorem sc__law_told : FnScope N__law_told P__law_told (defScope s__law_told) := ⟨rfl, rfl, rfl, by decide +kernel, rfl, by decide +kernel, by decide +kernel⟩
abbrev s_law : Stmt := topS 39
abbrev N_law : List Str := ["script", "hand", "cluster", "many", "made", "step", "wishes", "lot", "found", "none", "wrong"]
abbrev P_law : List Str := ["script"]
theorem sc_law : FnScope N_law P_law (defScope s_law) := ⟨rfl, rfl, rfl, by decide +kernel, rfl, by decide +kernel, by decide +kernel⟩
abbrev s_Cluster__init__ : Stmt := L2.inClass (topS 24) 0
abbrev N_Cluster__init__ : List Str := ["self", "racks", "rooms", "rates", "count"]
abbrev P_Cluster__init__ : List Str := ["self", "racks", "rooms", "rates"]
theorem sc_Cluster__init__ : FnScope N_Cluster__init__ P_Cluster__init__ (defScope s_Cluster__init__) := ⟨rfl, rfl, rfl, by decide +kernel, rfl, by decide +kernel, by decide +kernel⟩
abbrev s_InvalidCluster__init__ : Stmt := L2.inClass (topS 4) 0
theorem sc_InvalidCluster__init__ : FnScope ["self", "part", "place"] ["self", "part", "place"] (defScope s_InvalidCluster__init__) := ⟨rfl, rfl, rfl, by decide +kernel, rfl, by decide +kernel, by decide +kernel⟩
abbrev s_InvalidWishes__init__ : Stmt := L2.inClass (topS 5) 0
theorem sc_InvalidWishes__init__ : FnScope ["self", "value"] ["self", "value"] (defScope s_InvalidWishes__init__) := ⟨rfl, rfl, rfl, by decide +kernel, rfl, by decide +kernel, by decide +kernel⟩
abbrev s_InvalidLot__init__ : Stmt := L2.inClass (topS 6) 0
theorem sc_InvalidLot__init__ : FnScope ["self", "value"] ["self", "value"] (defScope s_InvalidLot__init__) := ⟨rfl, rfl, rfl, by decide +kernel, rfl, by decide +kernel, by decide +kernel⟩
local macro_rules | `(tactic| walk_at "S") => `(tactic| first
  | with_reducible refine sv_seq ?_
  | with_reducible refine sv_ret ?_
  | with_reducible refine sv_retN ?_
  | with_reducible refine sv_next ?_
  | with_reducible refine sv_cont ?_
  | with_reducible refine sv_break ?_
  | with_reducible refine sv_if ?_
  | with_reducible refine sv_asg ?_)
local macro_rules | `(tactic| walk_at "E") => `(tactic| first
  | refine ev_ixM rfl ?_
  | refine ev_lenM rfl ?_
  | refine ev_tupM rfl ?_
  | with_reducible refine ev_op ?_
  | with_reducible refine ev_un ?_
  | with_reducible refine ev_if ?_
  | with_reducible refine ev_andV ?_
  | with_reducible refine ev_orV ?_
  | with_reducible refine ev_notV ?_
  | with_reducible refine ev_chain ?_
  | with_reducible refine ev_slT ?_
  | with_reducible refine ev_revT ?_
  | with_reducible refine ep_none ?_
  | with_reducible refine ep_some ?_
  | with_reducible refine ev_fld ?_
  | refine ev_isiLT ?_
  | refine ev_isiTL ?_
  | with_reducible refine oc_all ?_
  | with_reducible refine ev_int ?_
  | with_reducible refine ev_bl ?_
  | with_reducible refine ev_str ?_
  | with_reducible refine ev_non ?_
  | refine ev_var rfl ?_
  | refine ev_isiB (by decide) ?_
  | with_reducible refine ev_cb ?_
  | with_reducible refine ev_call ?_
  | with_reducible refine ev_tup ?_
  | with_reducible refine ev_lst ?_
  | with_reducible refine et_test ?_
  | with_reducible refine et_B ?_
  | with_reducible refine et_and ?_
  | with_reducible refine et_or ?_
  | with_reducible refine et_not ?_
  | with_reducible refine et_yes ?_
  | with_reducible refine ed_nil ?_
  | with_reducible refine ed_cons ?_
  | with_reducible refine ea_nil ?_
  | refine ea_hand rfl ?_
  | refine ea_hnd rfl ?_
  | with_reducible refine ea_cons ?_
  | with_reducible refine ei_seq ?_
  | with_reducible refine ei_range ?_
  | with_reducible refine ei_enum ?_
  | with_reducible refine o2_I0 ?_
  | with_reducible refine o2_B0 ?_
  | with_reducible refine o1_I ?_
  | with_reducible refine o2_eqI ?_
  | with_reducible refine o2_neI ?_
  | with_reducible refine o2_eqB ?_
  | with_reducible refine o2_neB ?_
  | with_reducible refine o2_eqS ?_
  | with_reducible refine o2_isN ?_
  | with_reducible refine o2_notN ?_
  | with_reducible refine o2_I (C := CDiv) (cdiv_ok (by decide) (by decide)) ?_
  | with_reducible refine o2_I (C := CPow) (cpow_ok (by decide) (by decide) (by decide)) ?_
  | with_reducible refine o2_I (C := CMul) (by first | exact cmul_r (by decide) (by decide) | exact cmul_l (by decide) (by decide) | exact cmul_l (by omega) (by omega) | exact cmul_r (by omega) (by omega)) ?_
  | with_reducible refine o2_I (C := fun _ j => 0 < j) (by first | decide | (show (0 : Int) < _; omega)) ?_
  | with_reducible refine oc_lenT ?_
  | with_reducible refine oc_lenL ?_
  | with_reducible refine oc_int ?_
  | with_reducible refine oc_intB ?_
  | with_reducible refine oc_abs ?_
  | with_reducible refine oc_max ?_
  | with_reducible refine oc_min ?_
  | with_reducible refine oc_tupL ?_
  | with_reducible refine oc_tupT ?_
  | with_reducible refine oc_lstT ?_
  | with_reducible refine oc_lstL ?_
  | refine bc_t rfl ?_
  | refine bc_f rfl ?_
  | with_reducible refine ⟨_, rfl, ?_⟩
  | refine ⟨rfl, ?_⟩
  | with_reducible refine ⟨Nat.le_of_ble_eq_true rfl, ?_⟩)
local macro_rules | `(tactic| walk_at "M") => `(tactic| first
  | with_reducible refine sm_seq ?_
  | with_reducible refine sm_ret (evm fun MV => ?_)
  | with_reducible refine sm_retN ?_
  | with_reducible refine sm_next ?_
  | with_reducible refine sm_cont ?_
  | with_reducible refine sm_break ?_
  | with_reducible refine sm_if (etm fun MV => ?_)
  | with_reducible refine sm_asg (evm fun MV => ?_))
local macro_rules | `(tactic| walk_at "T") => `(tactic| first
  | with_reducible refine etm_or ?_
  | with_reducible refine etm_and ?_
  | with_reducible refine etm_not ?_
  | with_reducible refine etm_test ?_
  | with_reducible refine etm_B ?_)

/-- an integer, not True or False -/
def intD : Dt → Bool
  | .int _ => true
  | _ => false
theorem intD_of {d : Dt} (h : intD d = true) : ∃ i, d = .int i := by
  cases d <;> first | exact ⟨_, rfl⟩ | cases h
def W_f (ok : Dt → Bool) (f : Dt → Bool) : Fw := fun ss P => ∃ x, ss = [.d x] ∧ ok x = true ∧ P (.bl (f x))
def inB (d : Dt) (a b : Int) : Bool := match d with
  | .int i => decide (a ≤ i) && decide (i ≤ b)
  | _ => false
def W_within : Fw := fun ss P => ∃ x a b, ss = [.d x, .d (.tup [.int a, .int b])] ∧ noOb x = true ∧ P (.bl (inB x a b))
def natB (d : Dt) : Bool := match d with
  | .int i => decide (0 ≤ i)
  | _ => false
/-- a rising tuple of numbers below n, from a on -/
def risesB (n : Int) : Int → List Dt → Bool
  | _, [] => true
  | a, .int i :: r => decide (a ≤ i) && decide (i ≤ n - 1) && risesB n (i + 1) r
  | _, _ :: _ => false
def lotB (n : Int) : Dt → Bool
  | .tup ds => risesB n 0 ds
  | _ => false
/-- no instance within -/
def noObs (ds : List Dt) : Bool := ds.all noOb
/-- data of which no part is an instance, no part too long -/
def Pur (x : Dt) : Prop := ∃ n, Flat n x
theorem Pur.no {x : Dt} (h : Pur x) : noOb x = true := by
  obtain ⟨n, h⟩ := h
  cases h <;> rfl
theorem Pur.tup {ds : List Dt} (h : Pur (.tup ds)) : ds.length ≤ 100000 ∧ ∀ d ∈ ds, Pur d := by
  obtain ⟨n, h⟩ := h
  cases h with
  | tup n _ hz hs => exact ⟨hz, fun d hd => ⟨n, hs d hd⟩⟩
theorem Pur.lst {ds : List Dt} (h : Pur (.lst ds)) : ds.length ≤ 100000 ∧ ∀ d ∈ ds, Pur d := by
  obtain ⟨n, h⟩ := h
  cases h with
  | lst n _ hz hs => exact ⟨hz, fun d hd => ⟨n, hs d hd⟩⟩
def W_islot : Fw := fun ss P => ∃ x n, ss = [.d x, .d (.int n)] ∧ Pur x ∧ P (.bl (lotB n x))
def wishB : Dt → Bool
  | .tup ds => ds.all fun d => inB d 1 3
  | _ => false
def W_iswishes : Fw := fun ss P => ∃ x, ss = [.d x] ∧ Pur x ∧ P (.bl (wishB x))
def neB : Dt → Bool
  | .tup (_ :: _) => true
  | _ => false
def placB (n m : Int) : Dt → Bool
  | .tup ds => decide ((ds.length : Int) = m) && ds.all fun d => lotB n d && neB d
  | _ => false
def W_isplacing (C : Addr) : Fw := fun ss P => ∃ fs x n m, ss = [.d (.ob C fs), .d x, .d (.int m)] ∧ fs.lookup ("store_count" : Str) = some (.int n) ∧ Pur x ∧ P (.bl (placB n m x))
def W_ckwishes (CE : Addr) : FwX := fun ss P PX => ∃ x, ss = [.d x] ∧ Pur x ∧ (wishB x = true → P .non) ∧ (wishB x = false → PX CE [("value", x)])
def W_ckplacing (C CE : Addr) : FwX := fun ss P PX => ∃ fs ws x n, ss = [.d (.ob C fs), .d (.tup ws), .d x] ∧ fs.lookup ("store_count" : Str) = some (.int n) ∧ Pur x ∧ (placB n (ws.length : Int) x = true → P .non) ∧ (placB n (ws.length : Int) x = false → PX CE [("value", x)])
/-- the first place that is wrong -/
def wrongFrom (c d : Int) : Nat → List Dt → Option Nat
  | _, [] => none
  | k, x :: r => if inB x c d = true then wrongFrom c d (k + 1) r else some k
def seqD : Dt → Option (List Dt)
  | .lst ds => some ds
  | .tup ds => some ds
  | _ => none
def partE (a b c d : Int) (x : Dt) : Option Nat := match seqD x with
  | none => some 0
  | some ds => if inB (.int (ds.length : Int)) a b = true then wrongFrom c d 0 ds else some 0
def W_ckpart (CE : Addr) : FwX := fun ss P PX => ∃ p x a b c d, ss = [.d (.str p), .d x, .d (.tup [.int a, .int b]), .d (.tup [.int c, .int d])] ∧ Pur x ∧ (partE a b c d x = none → P .non) ∧ (∀ k : Nat, partE a b c d x = some k → PX CE [("place", .int (k : Int)), ("part", .str p)])
theorem partE_none {a b c d : Int} {x : Dt} (h : partE a b c d x = none) : ∃ ds, seqD x = some ds := by
  unfold partE at h
  cases e : seqD x with
  | none => rw [e] at h; cases h
  | some ds => exact ⟨ds, rfl⟩
theorem seq_of {x : Dt} {ds : List Dt} (h : seqD x = some ds) : x = .lst ds ∨ x = .tup ds := by
  cases x <;> first | (cases h; exact .inl rfl) | (cases h; exact .inr rfl) | cases h
def W_cluster (CE : Addr) : FwI := fun ss P PX => ∃ r o t, ss = [.d r, .d o, .d t] ∧ Pur r ∧ Pur o ∧ Pur t ∧ (∀ k : Nat, partE 1 8 0 99 r = some k → PX CE [("place", .int (k : Int)), ("part", .str "racks")]) ∧
  ∀ rs, seqD r = some rs → partE 1 8 0 99 r = none → (∀ k : Nat, partE rs.length rs.length 0 99 o = some k → PX CE [("place", .int (k : Int)), ("part", .str "rooms")]) ∧
    ∀ os, seqD o = some os → partE rs.length rs.length 0 99 o = none → (∀ k : Nat, partE rs.length rs.length 1 8 t = some k → PX CE [("place", .int (k : Int)), ("part", .str "rates")]) ∧
      ∀ ts, seqD t = some ts → partE rs.length rs.length 1 8 t = none → P [("racks", .tup rs), ("rooms", .tup os), ("rates", .tup ts), ("store_count", .int (rs.length : Int))]
theorem drop_at {ds : List Dt} {k : Nat} {d : Dt} (h : ds[k]? = some d) : ds.drop k = d :: ds.drop (k + 1) := by
  have hk := (List.getElem?_eq_some_iff.mp h).1
  rw [List.drop_eq_getElem_cons hk]
  congr 1
  exact (List.getElem?_eq_some_iff.mp h).2
theorem rises_no {n a : Int} {d : Dt} {r : List Dt} (h : inB d a (n - 1) = false) : risesB n a (d :: r) = false := by
  cases d <;> first | rfl | skip
  rename_i i
  show (decide (a ≤ i) && decide (i ≤ n - 1) && risesB n (i + 1) r) = false
  have h' : (decide (a ≤ i) && decide (i ≤ n - 1)) = false := h
  rw [h']; rfl
theorem rises_yes {n a : Int} {d : Dt} {r : List Dt} (h : inB d a (n - 1) = true) : ∃ i, d = .int i ∧ risesB n a (d :: r) = risesB n (i + 1) r := by
  cases d <;> first | exact absurd h Bool.false_ne_true | skip
  rename_i i
  refine ⟨i, rfl, ?_⟩
  show (decide (a ≤ i) && decide (i ≤ n - 1) && risesB n (i + 1) r) = _
  have h' : (decide (a ≤ i) && decide (i ≤ n - 1)) = true := h
  rw [h']; rfl
theorem noObs_at {ds : List Dt} {k : Nat} {d : Dt} (h : noObs ds = true) (hd : ds[k]? = some d) : noOb d = true := List.all_eq_true.mp h _ (List.mem_of_getElem? hd)
def W_lwithin : Fw := fun ss P => ∃ x a b, ss = [.d x, .d (.int a), .d (.int b)] ∧ noOb x = true ∧ P (.bl (inB x a b))
theorem pick {ds : List Dt} {Pd : Dt → Prop} (h : ∀ d ∈ ds, Pd d) {x : Int} (h0 : 0 ≤ x) (h1 : x < (ds.length : Int)) : ∃ d, atD ds x = some d ∧ Pd d := by
  obtain ⟨j, rfl⟩ : ∃ j : Nat, x = (j : Int) := ⟨x.toNat, by omega⟩
  have hj : j < ds.length := by omega
  exact ⟨ds[j], atD_nat (by simp [hj]), h _ (List.getElem_mem hj)⟩
def flatB : Nat → Dt → Bool
  | n + 1, .lst ds => decide (ds.length ≤ 100000) && ds.all (flatB n)
  | n + 1, .tup ds => decide (ds.length ≤ 100000) && ds.all (flatB n)
  | 0, .lst _ => false
  | 0, .tup _ => false
  | _, .ob _ _ => false
  | _, .ptr _ => false
  | _, _ => true
theorem flat_of_B : ∀ {n : Nat} {d : Dt}, flatB n d = true → Flat n d
  | n, .non, _ => .non n
  | n, .bl b, _ => .bl n b
  | n, .int b, _ => .int n b
  | n, .str b, _ => .str n b
  | 0, .lst _, h => by simp [flatB] at h
  | 0, .tup _, h => by simp [flatB] at h
  | n, .ob _ _, h => by cases n <;> simp [flatB] at h
  | n, .ptr _, h => by cases n <;> simp [flatB] at h
  | n + 1, .lst ds, h => by
    unfold flatB at h
    rw [Bool.and_eq_true] at h
    exact .lst n ds (of_decide_eq_true h.1) fun d hd => flat_of_B (List.all_eq_true.mp h.2 d hd)
  | n + 1, .tup ds, h => by
    unfold flatB at h
    rw [Bool.and_eq_true] at h
    exact .tup n ds (of_decide_eq_true h.1) fun d hd => flat_of_B (List.all_eq_true.mp h.2 d hd)
theorem Flat.up {n : Nat} {d : Dt} (h : Flat n d) : Flat (n + 1) d := by
  induction h with
  | non n => exact .non _
  | bl n b => exact .bl _ _
  | int n i => exact .int _ _
  | str n s => exact .str _ _
  | lst n ds hz h ih => exact .lst _ _ hz ih
  | tup n ds hz h ih => exact .tup _ _ hz ih
theorem Flat.mono {n m : Nat} {d : Dt} (h : Flat n d) (k : n ≤ m) : Flat m d := by
  induction k with
  | refl => exact h
  | step _ ih => exact ih.up
section
variable {K : PySem.W.Frag} {J : Jm} {env : List Sl} {te : TE}
theorem o2_pickB {R : Dt → Prop} {ds : List Dt} {x : Int} (f : Dt → Bool) (h : ds.all f = true) (h0 : 0 ≤ x) (h1 : x < (ds.length : Int)) (k : ∀ d, f d = true → R d) : O2 K J (rIx K) (.lst ds) (.int x) R := by
  obtain ⟨d, hd, fd⟩ := pick (Pd := fun d => f d = true) (List.all_eq_true.mp h) h0 h1
  exact o2_ixL hd (k d fd)
theorem o2_pickP {R : Dt → Prop} {ds : List Dt} {x : Int} (Pd : Dt → Prop) (h : ∀ d ∈ ds, Pd d) (h0 : 0 ≤ x) (h1 : x < (ds.length : Int)) (k : ∀ d, Pd d → R d) : O2 K J (rIx K) (.lst ds) (.int x) R := by
  obtain ⟨d, hd, fd⟩ := pick h h0 h1
  exact o2_ixL hd (k d fd)
/-- [e for ..]: each as Pd tells -/
theorem em_all {wi : TI} {g : TG} {vs : List Nat} {R : List Dt → Prop} (Pd : Dt → Prop) (h : Ei K J env wi fun ds => ds.length ≤ 100000 ∧ (∀ d, d ∈ ds → Gt K J (wipeE env vs) g d vs fun e => Ev K J e te Pd) ∧ ∀ ys, ys.length = ds.length → (∀ y ∈ ys, Pd y) → R ys) : Em K J env (tLc wi g tYes te vs) R := by
  refine em_lc fun B G H σ w E Q q => h B G H σ w E Q fun I ds G' H' n wk ⟨h1, h2, h3⟩ => q I ds G' H' n wk ⟨h1, fun k acc => acc.length = k ∧ ∀ y ∈ acc, Pd y, ⟨rfl, fun _ z => nomatch z⟩, fun k d acc hd _ ha => ?_, fun acc _ ha => h3 acc ha.1 ha.2⟩
  intro B G H σ v w E r Q q
  refine h2 d (List.mem_of_getElem? hd) B G H σ v w E r Q fun e σ' E' k' x => q e σ' E' k' (et_yes ⟨fun _ => x.imp fun y hy => ⟨by simp [ha.1], fun z hz => ?_⟩, fun z => nomatch z⟩)
  rcases List.mem_append.mp hz with z | z
  · exact ha.2 _ z
  · simp at z; subst z; exact hy
/-- [x for x in xs if ..] -/
theorem em_filt {wi : TI} {g : TG} {tt : TT} {vs : List Nat} {R : List Dt → Prop} (f : Dt → Bool) (h : Ei K J env wi fun ds => ds.length ≤ 100000 ∧ (∀ d, d ∈ ds → Gt K J (wipeE env vs) g d vs fun e => Et K J e tt fun b => b = f d ∧ (b = true → Ev K J e te fun y => y = d)) ∧ R (ds.filter f)) : Em K J env (tLc wi g tt te vs) R := by
  refine em_lc fun B G H σ w E Q q => h B G H σ w E Q fun I ds G' H' n wk ⟨h1, h2, h3⟩ => q I ds G' H' n wk ⟨h1, fun k acc => acc = (ds.take k).filter f, by simp, fun k d acc hd _ ha => ?_, fun acc _ ha => ?_⟩
  · intro B G H σ v w E r Q q
    refine h2 d (List.mem_of_getElem? hd) B G H σ v w E r Q fun e σ' E' k' x => q e σ' E' k' (x.imp fun b ⟨hb, hy⟩ => ⟨fun z => (hy z).imp fun y e => ?_, fun z => ?_⟩)
    · subst e ha
      rw [List.take_add_one, hd, List.filter_append]
      have : f y = true := hb.symm.trans z
      simp [this]
    · subst ha
      rw [List.take_add_one, hd, List.filter_append]
      have : f d = false := hb.symm.trans z
      simp [this]
  · subst ha
    rw [List.take_length]
    exact h3
end
theorem nats_of {Qv : Nat → Prop} : ∀ {ys : List Dt}, (∀ y ∈ ys, ∃ v : Nat, y = .int (v : Int) ∧ Qv v) → ∃ l, ys = natsD l ∧ ∀ v ∈ l, Qv v
  | [], _ => ⟨[], rfl, fun _ z => nomatch z⟩
  | y :: r, h => by
    obtain ⟨v, rfl, hv⟩ := h y (by simp)
    obtain ⟨l, rfl, hl⟩ := nats_of (ys := r) fun z hz => h z (by simp [hz])
    exact ⟨v :: l, rfl, fun z hz => by
      rcases List.mem_cons.mp hz with rfl | hz
      · exact hv
      · exact hl z hz⟩
theorem inB_nat {d : Dt} {b : Nat} (h : inB d 0 (b : Int) = true) : ∃ v : Nat, d = .int (v : Int) ∧ v ≤ b := by
  cases d <;> first | exact absurd h Bool.false_ne_true | skip
  rename_i i
  have h' : (decide (0 ≤ i) && decide (i ≤ (b : Int))) = true := h
  rw [Bool.and_eq_true, decide_eq_true_eq, decide_eq_true_eq] at h'
  exact ⟨i.toNat, by rw [show ((i.toNat : Nat) : Int) = i by omega], by omega⟩
theorem inB_le {d : Dt} {a b : Int} (h0 : 0 ≤ a) (h : inB d 0 b = false) : inB d a b = false := by
  cases d <;> first | rfl | skip
  rename_i i
  have h' : (decide (0 ≤ i) && decide (i ≤ b)) = false := h
  show (decide (a ≤ i) && decide (i ≤ b)) = false
  rw [Bool.and_eq_false_iff, decide_eq_false_iff_not, decide_eq_false_iff_not] at h' ⊢
  omega
theorem inB_int {i a b : Int} : inB (.int i) a b = true ↔ a ≤ i ∧ i ≤ b := by
  show (decide (a ≤ i) && decide (i ≤ b)) = true ↔ _
  rw [Bool.and_eq_true, decide_eq_true_eq, decide_eq_true_eq]
theorem inB_of {d : Dt} {a b : Int} (h : inB d a b = true) : ∃ i, d = .int i ∧ a ≤ i ∧ i ≤ b := by
  cases d <;> first | exact absurd h Bool.false_ne_true | skip
  exact ⟨_, rfl, inB_int.mp h⟩
theorem flat_int {n : Nat} {l : List Nat} : ∀ d ∈ natsD l, Flat n d := fun d hd => by
  unfold natsD at hd
  obtain ⟨v, _, rfl⟩ := List.mem_map.mp hd
  exact .int _ _
/-- one part put in the place of another -/
def bentD (xs : List Dt) (a : Nat) (p : Dt) : List Dt := xs.take a ++ [p] ++ xs.drop (a + 1)
theorem bent_len {xs : List Dt} {a : Nat} {p : Dt} : (bentD xs a p).length ≤ xs.length + 1 := by
  unfold bentD
  simp
  omega
theorem bent_mem {xs : List Dt} {a : Nat} {p d : Dt} (h : d ∈ bentD xs a p) : d ∈ xs ∨ d = p := by
  unfold bentD at h
  rcases List.mem_append.mp h with h | h
  · rcases List.mem_append.mp h with h | h
    · exact .inl (List.mem_of_mem_take h)
    · simp at h; exact .inr h
  · exact .inl (List.mem_of_mem_drop h)
theorem bent_all {xs : List Dt} {a : Nat} {p : Dt} {f : Dt → Bool} (h : f p = false) : (bentD xs a p).all f = false := by
  unfold bentD
  rw [List.all_append, List.all_append]
  simp [h]
theorem natsD_length (l : List Nat) : (natsD l).length = l.length := by unfold natsD; simp
def W_odd (n : Nat) : Fw := fun ss P => ∃ d : Nat, ss = [.hand, .d (.int (d : Int))] ∧ d ≤ n ∧ ∀ x, Flat (d + 3) x → P x
def W_lcluster : Fw := fun ss P => ∃ m : Nat, ss = [.hand, .d (.int (m : Int))] ∧ 0 < m ∧ m ≤ 1000 ∧ ∀ ra ro rt : List Nat, 0 < ra.length → ra.length ≤ m → ro.length = ra.length → rt.length = ra.length → (∀ x ∈ ra, x ≤ 99) → (∀ x ∈ ro, x ≤ 99) → (∀ x ∈ rt, 1 ≤ x ∧ x ≤ 8) → P (.tup [lotD ra, lotD ro, lotD rt])
def W_lwishes : Fw := fun ss P => ∃ m : Nat, ss = [.hand, .d (.int (m : Int))] ∧ m ≤ 1000 ∧ ∀ l : List Nat, l.length = m → (∀ x ∈ l, 1 ≤ x ∧ x ≤ 3) → P (lotD l)
def W_lislot : Fw := fun ss P => ∃ x n, ss = [.d x, .d (.int n)] ∧ Pur x ∧ P (.bl (lotB n x))
def W_lisplacing : Fw := fun ss P => ∃ x n m, ss = [.d x, .d (.int n), .d (.int m)] ∧ Pur x ∧ P (.bl (placB n m x))
def W_wrwishes : Fw := fun ss P => ∃ l : List Nat, ss = [.hand, .d (lotD l)] ∧ l.length ≤ 1000 ∧ (∀ x ∈ l, 1 ≤ x ∧ x ≤ 3) ∧ ∀ x, Flat 3 x → wishB x = false → P x
def W_wrplacing : Fw := fun ss P => ∃ (ls : List (List Nat)) (n : Nat), ss = [.hand, .d (placD ls), .d (.int (n : Int))] ∧ ls.length ≤ 1000 ∧ (∀ l ∈ ls, l.length ≤ 1000) ∧ ∀ x, Flat 4 x → P x
def rackOf (racks : List Nat) (v : Nat) : Nat := racks.getD v 0
def dupB (racks l : List Nat) : Bool := !decide ((l.map (rackOf racks)).Nodup)
def goP (racks : List Nat) : Nat → List Nat → List (List Nat) → Option Dt
  | p, w :: ws, l :: ls => if l.length ≠ w then some (.tup [.str "count", .int (p : Int)]) else if dupB racks l = true then some (.tup [.str "racks", .int (p : Int)]) else goP racks (p + 1) ws ls
  | _, _, _ => none
def goR (ls : List (List Nat)) : Nat → List Nat → Option Dt
  | _, [] => none
  | v, r :: rs => if r < (ls.filter fun l => decide (v ∈ l)).length then some (.tup [.str "room", .int (v : Int)]) else goR ls (v + 1) rs
def breachD (ra ro ws : List Nat) (ls : List (List Nat)) : Dt := (goP ra 0 ws ls).getD ((goR ls 0 ro).getD .non)
def W_lbreach : Fw := fun ss P => ∃ (ra ro rt ws : List Nat) (ls : List (List Nat)), ss = [.d (.tup [lotD ra, lotD ro, lotD rt]), .d (lotD ws), .d (placD ls)] ∧ ws.length = ls.length ∧ ro.length = ra.length ∧ ra.length ≤ 1000 ∧ ls.length ≤ 1000 ∧ PlacOk ra.length ls ∧ P (breachD ra ro ws ls)
theorem dup_no {racks l : List Nat} (hu : l.Pairwise (· < ·)) (h : ∀ v ∈ l, ∀ w ∈ l, ¬ (v < w ∧ rackOf racks v = rackOf racks w)) : dupB racks l = false := by
  unfold dupB
  rw [Bool.not_eq_false', decide_eq_true_eq]
  unfold List.Nodup
  rw [List.pairwise_map]
  induction l with
  | nil => exact .nil
  | cons x r ih =>
    have hu' := List.pairwise_cons.mp hu
    exact .cons (fun y hy e => h x (by simp) y (by simp [hy]) ⟨hu'.1 y hy, e⟩) (ih hu'.2 fun v hv w hw => h v (by simp [hv]) w (by simp [hw]))
theorem dup_yes {racks l : List Nat} {v w : Nat} (hv : v ∈ l) (hw : w ∈ l) (hlt : v < w) (e : rackOf racks v = rackOf racks w) : dupB racks l = true := by
  unfold dupB
  rw [Bool.not_eq_true', decide_eq_false_iff_not]
  intro h
  induction l with
  | nil => cases hv
  | cons x r ih =>
    rw [List.map_cons, List.nodup_cons] at h
    rcases List.mem_cons.mp hv with z | hv'
    · rcases List.mem_cons.mp hw with z2 | hw'
      · omega
      · subst z
        exact h.1 (List.mem_map.mpr ⟨w, hw', e.symm⟩)
    · rcases List.mem_cons.mp hw with z2 | hw'
      · subst z2
        exact h.1 (List.mem_map.mpr ⟨v, hv', e⟩)
      · exact ih hv' hw' h.2
theorem rack_at {racks : List Nat} {v : Nat} (h : v < racks.length) : atD (natsD racks) (v : Int) = some (.int (rackOf racks v : Nat)) := by
  refine atD_nat ?_
  unfold natsD rackOf List.getD
  rw [List.getElem?_map]
  simp [h]
def hasD (v : Nat) : Dt → Bool
  | .tup ds => inD (.int (v : Int)) ds
  | _ => false
theorem has_len {v : Nat} (ls : List (List Nat)) : ((ls.map lotD).filter (hasD v)).length = (ls.filter fun l => decide (v ∈ l)).length := by
  rw [List.filter_map, List.length_map]
  congr 1
  refine List.filter_congr fun l _ => ?_
  show inD (.int (v : Int)) (natsD l) = _
  exact in_nats v l
theorem goP_at {ra : List Nat} {ws : List Nat} {ls : List (List Nat)} {p : Nat} {w : Nat} {l : List Nat} (hw : ws[p]? = some w) (hl : ls[p]? = some l) :
    goP ra p (ws.drop p) (ls.drop p) = if l.length ≠ w then some (.tup [.str "count", .int (p : Int)]) else if dupB ra l = true then some (.tup [.str "racks", .int (p : Int)]) else goP ra (p + 1) (ws.drop (p + 1)) (ls.drop (p + 1)) := by
  have h1 := List.getElem?_eq_some_iff.mp hw
  have h2 := List.getElem?_eq_some_iff.mp hl
  rw [List.drop_eq_getElem_cons h1.1, List.drop_eq_getElem_cons h2.1, h1.2, h2.2]
  rfl
theorem goR_at {ls : List (List Nat)} {ro : List Nat} {v r : Nat} (h : ro[v]? = some r) : goR ls v (ro.drop v) = if r < (ls.filter fun l => decide (v ∈ l)).length then some (.tup [.str "room", .int (v : Int)]) else goR ls (v + 1) (ro.drop (v + 1)) := by
  have h1 := List.getElem?_eq_some_iff.mp h
  rw [List.drop_eq_getElem_cons h1.1, h1.2]
  rfl
theorem rises_nats {n : Nat} : ∀ {ds : List Dt} {a : Nat}, risesB (n : Int) (a : Int) ds = true → ∃ l : List Nat, ds = natsD l ∧ l.Pairwise (· < ·) ∧ ∀ v ∈ l, a ≤ v ∧ v < n
  | [], _, _ => ⟨[], rfl, .nil, fun _ z => nomatch z⟩
  | d :: r, a, h => by
    have hy : inB d (a : Int) ((n : Int) - 1) = true := by
      cases z : inB d (a : Int) ((n : Int) - 1) with
      | true => rfl
      | false => rw [rises_no z] at h; cases h
    obtain ⟨i, rfl, h2⟩ := rises_yes (r := r) hy
    have hi := inB_int.mp hy
    obtain ⟨v, rfl⟩ : ∃ v : Nat, i = (v : Int) := ⟨i.toNat, by omega⟩
    rw [h2, show ((v : Int) + 1) = ((v + 1 : Nat) : Int) by omega] at h
    obtain ⟨l, rfl, hp, hl⟩ := rises_nats h
    refine ⟨v :: l, rfl, .cons (fun w hw => (hl w hw).1) hp, fun w hw => ?_⟩
    rcases List.mem_cons.mp hw with rfl | hw
    · omega
    · have := hl w hw; omega
theorem lot_nats {n : Nat} {d : Dt} (h : (lotB (n : Int) d && neB d) = true) : ∃ l : List Nat, d = lotD l ∧ LotOk n l := by
  rw [Bool.and_eq_true] at h
  cases d <;> first | exact absurd h.1 Bool.false_ne_true | skip
  rename_i ds
  obtain ⟨l, rfl, hp, hl⟩ := rises_nats (a := 0) h.1
  refine ⟨l, rfl, fun z => ?_, hp, fun v hv => (hl v hv).2⟩
  subst z
  exact absurd h.2 Bool.false_ne_true
theorem all_lots {n : Nat} : ∀ {ds : List Dt}, (ds.all fun d => lotB (n : Int) d && neB d) = true → ∃ ls : List (List Nat), ds = ls.map lotD ∧ PlacOk n ls
  | [], _ => ⟨[], rfl, fun _ z => nomatch z⟩
  | d :: r, h => by
    rw [List.all_cons, Bool.and_eq_true] at h
    obtain ⟨l, rfl, hl⟩ := lot_nats h.1
    obtain ⟨ls, rfl, hls⟩ := all_lots h.2
    refine ⟨l :: ls, rfl, fun x hx => ?_⟩
    rcases List.mem_cons.mp hx with rfl | hx
    · exact hl
    · exact hls x hx
theorem plac_nats {n m : Nat} {p : Dt} (h : placB (n : Int) (m : Int) p = true) : ∃ ls : List (List Nat), p = placD ls ∧ ls.length = m ∧ PlacOk n ls := by
  cases p <;> first | exact absurd h Bool.false_ne_true | skip
  rename_i ds
  have h' : (decide ((ds.length : Int) = (m : Int)) && ds.all fun d => lotB (n : Int) d && neB d) = true := h
  rw [Bool.and_eq_true, decide_eq_true_eq] at h'
  obtain ⟨ls, rfl, hls⟩ := all_lots h'.2
  refine ⟨ls, rfl, ?_, hls⟩
  have := h'.1
  rw [List.length_map] at this
  omega
theorem wish_nats {w : Dt} (h : wishB w = true) : ∃ ws : List Nat, w = lotD ws ∧ ∀ x ∈ ws, 1 ≤ x ∧ x ≤ 3 := by
  cases w <;> first | exact absurd h Bool.false_ne_true | skip
  rename_i ds
  obtain ⟨l, rfl, hl⟩ := nats_of (Qv := fun x => 1 ≤ x ∧ x ≤ 3) (ys := ds) fun y hy => by
    obtain ⟨i, rfl, h1, h2⟩ := inB_of (List.all_eq_true.mp h y hy)
    exact ⟨i.toNat, by rw [show ((i.toNat : Nat) : Int) = i by omega], by omega, by omega⟩
  exact ⟨l, rfl, hl⟩
theorem wrong_no {c d : Int} : ∀ {l : List Nat} {k : Nat}, (∀ v ∈ l, c ≤ (v : Int) ∧ (v : Int) ≤ d) → wrongFrom c d k (natsD l) = none
  | [], _, _ => rfl
  | v :: r, k, h => by
    have h1 := h v (by simp)
    show (if inB (.int (v : Int)) c d = true then wrongFrom c d (k + 1) (natsD r) else some k) = none
    rw [if_pos (inB_int.mpr h1)]
    exact wrong_no fun x hx => h x (by simp [hx])
theorem part_no {a b c d : Int} {l : List Nat} (h1 : a ≤ (l.length : Int)) (h2 : (l.length : Int) ≤ b) (h : ∀ v ∈ l, c ≤ (v : Int) ∧ (v : Int) ≤ d) : partE a b c d (lotD l) = none := by
  show (if inB (.int ((natsD l).length : Int)) a b = true then wrongFrom c d 0 (natsD l) else some 0) = none
  rw [natsD_length, if_pos (inB_int.mpr ⟨h1, h2⟩)]
  exact wrong_no h
theorem pur_lot {l : List Nat} (h : l.length ≤ 100000) : Pur (lotD l) := ⟨2, .tup 1 _ (by rw [natsD_length]; exact h) flat_int⟩
theorem flat_plac {n : Nat} {ls : List (List Nat)} (h : ls.length ≤ 100000) (h2 : ∀ l ∈ ls, l.length ≤ 100000) : Flat (n + 3) (placD ls) := .tup (n + 2) _ (by rw [List.length_map]; exact h) fun d hd => by
  obtain ⟨l, hl, rfl⟩ := List.mem_map.mp hd
  exact .tup (n + 1) _ (by rw [natsD_length]; exact h2 l hl) flat_int
theorem pur_plac {ls : List (List Nat)} (h : ls.length ≤ 100000) (h2 : ∀ l ∈ ls, l.length ≤ 100000) : Pur (placD ls) := ⟨3, flat_plac h h2⟩
theorem natsD_inj : ∀ {a b : List Nat}, natsD a = natsD b → a = b
  | [], [], _ => rfl
  | [], _ :: _, h => by cases h
  | _ :: _, [], h => by cases h
  | x :: r, y :: s, h => by
    have h1 : Dt.int (x : Int) = .int (y : Int) ∧ natsD r = natsD s := List.cons.inj h
    have h2 : (x : Int) = (y : Int) := by injection h1.1
    rw [show x = y by omega, natsD_inj h1.2]
theorem lotD_inj {a b : List Nat} (h : lotD a = lotD b) : a = b := natsD_inj (by injection h)
theorem lots_inj : ∀ {a b : List (List Nat)}, a.map lotD = b.map lotD → a = b
  | [], [], _ => rfl
  | [], _ :: _, h => by cases h
  | _ :: _, [], h => by cases h
  | x :: r, y :: s, h => by
    have h1 := List.cons.inj h
    rw [lotD_inj h1.1, lots_inj h1.2]
theorem placD_inj {a b : List (List Nat)} (h : placD a = placD b) : a = b := lots_inj (by injection h)
theorem wish_yes {ws : List Nat} (h : ∀ x ∈ ws, 1 ≤ x ∧ x ≤ 3) : wishB (lotD ws) = true := List.all_eq_true.mpr fun d hd => by
  obtain ⟨v, hv, rfl⟩ := List.mem_map.mp hd
  have := h v hv
  exact inB_int.mpr ⟨by omega, by omega⟩
theorem rises_yes2 {n : Nat} : ∀ {l : List Nat} {a : Nat}, l.Pairwise (· < ·) → (∀ v ∈ l, a ≤ v ∧ v < n) → risesB (n : Int) (a : Int) (natsD l) = true
  | [], _, _, _ => rfl
  | v :: r, a, hp, h => by
    have h1 := h v (by simp)
    have hp' := List.pairwise_cons.mp hp
    show (decide ((a : Int) ≤ (v : Int)) && decide ((v : Int) ≤ (n : Int) - 1) && risesB (n : Int) ((v : Int) + 1) (natsD r)) = true
    rw [decide_eq_true (by omega), decide_eq_true (by omega), show ((v : Int) + 1) = ((v + 1 : Nat) : Int) by omega]
    exact rises_yes2 hp'.2 fun w hw => ⟨hp'.1 w hw, (h w (by simp [hw])).2⟩
theorem plac_yes {n : Nat} {ls : List (List Nat)} (hok : PlacOk n ls) : placB (n : Int) (ls.length : Int) (placD ls) = true := by
  show (decide (((ls.map lotD).length : Int) = (ls.length : Int)) && (ls.map lotD).all fun d => lotB (n : Int) d && neB d) = true
  rw [List.length_map, decide_eq_true rfl, Bool.true_and]
  refine List.all_eq_true.mpr fun d hd => ?_
  obtain ⟨l, hl, rfl⟩ := List.mem_map.mp hd
  have h := hok l hl
  have e1 : lotB (n : Int) (lotD l) = true := rises_yes2 (a := 0) h.up fun v hv => ⟨Nat.zero_le _, h.lt v hv⟩
  have e2 : neB (lotD l) = true := by
    cases l with
    | nil => exact absurd rfl h.ne
    | cons x r => rfl
  rw [e1, e2]
  rfl
theorem Pur.of {n : Nat} {x : Dt} (h : Flat n x) : Pur x := ⟨n, h⟩
abbrev clD (C : Addr) (ra ro rt : List Nat) : Dt := .ob C [("racks", lotD ra), ("rooms", lotD ro), ("rates", lotD rt), ("store_count", .int (ra.length : Int))]
theorem cluster_ok {CE : Addr} {ra ro rt : List Nat} {P : List (Str × Dt) → Prop} {PX : Addr → List (Str × Dt) → Prop} (h0 : 0 < ra.length) (h8 : ra.length ≤ 8) (ho : ro.length = ra.length) (ht : rt.length = ra.length) (h1 : ∀ x ∈ ra, x ≤ 99) (h2 : ∀ x ∈ ro, x ≤ 99) (h3 : ∀ x ∈ rt, 1 ≤ x ∧ x ≤ 8)
    (h : P [("racks", lotD ra), ("rooms", lotD ro), ("rates", lotD rt), ("store_count", .int (ra.length : Int))]) : W_cluster CE [.d (lotD ra), .d (lotD ro), .d (lotD rt)] P PX := by
  have e1 : partE 1 8 0 99 (lotD ra) = none := part_no (by omega) (by omega) fun v hv => by have := h1 v hv; omega
  have e2 : partE ((natsD ra).length : Nat) ((natsD ra).length : Nat) 0 99 (lotD ro) = none := by
    rw [natsD_length]
    exact part_no (by omega) (by omega) fun v hv => by have := h2 v hv; omega
  have e3 : partE ((natsD ra).length : Nat) ((natsD ra).length : Nat) 1 8 (lotD rt) = none := by
    rw [natsD_length]
    exact part_no (by omega) (by omega) fun v hv => by have := h3 v hv; omega
  refine ⟨lotD ra, lotD ro, lotD rt, rfl, pur_lot (by omega), pur_lot (by omega), pur_lot (by omega), fun k h => (by rw [e1] at h; cases h), fun rs hrs _ => ?_⟩
  cases hrs
  refine ⟨fun k h => (by rw [e2] at h; cases h), fun os hos _ => ?_⟩
  cases hos
  refine ⟨fun k h => (by rw [e3] at h; cases h), fun ts hts _ => ?_⟩
  cases hts
  rw [natsD_length]
  exact h
theorem nodup_subA {α : Type} [DecidableEq α] : ∀ {l1 l2 : List α}, l1.Nodup → (∀ x ∈ l1, x ∈ l2) → l1.length ≤ l2.length
  | [], _, _, _ => Nat.zero_le _
  | a :: r, l2, hn, h => by
    have hn2 := List.nodup_cons.mp hn
    have ha := h a List.mem_cons_self
    have ih := nodup_subA (l2 := l2.erase a) hn2.2 fun x hx => (List.mem_erase_of_ne (show x ≠ a from fun e => hn2.1 (e ▸ hx))).mpr (h x (List.mem_cons_of_mem _ hx))
    rw [List.length_erase_of_mem ha] at ih
    have := List.length_pos_of_mem ha
    rw [List.length_cons]
    omega
theorem nats_at {l : List Nat} {k : Nat} {d : Dt} (h : (natsD l)[k]? = some d) : ∃ v, l[k]? = some v ∧ d = .int (v : Nat) := by
  unfold natsD at h
  rw [List.getElem?_map] at h
  cases e : l[k]? with
  | none => rw [e] at h; cases h
  | some v => rw [e] at h; cases h; exact ⟨v, rfl, rfl⟩
theorem nats_len {l : List Nat} : (natsD l).length = l.length := by unfold natsD; rw [List.length_map]
theorem nats_app {l : List Nat} {v : Nat} : natsD l ++ [Dt.int (v : Nat)] = natsD (l ++ [v]) := by unfold natsD; rw [List.map_append]; rfl
theorem fold_takeF {α β : Type} {f : β → α → β} {b : β} {l : List α} {k : Nat} {a : α} (h : l[k]? = some a) : (l.take (k + 1)).foldl f b = f ((l.take k).foldl f b) a := by
  rw [List.take_add_one, h, List.foldl_append]; rfl
theorem map_takeF {α β : Type} {g : α → β} {l : List α} {k : Nat} {a : α} (h : l[k]? = some a) : (l.take (k + 1)).map g = (l.take k).map g ++ [g a] := by
  rw [List.take_add_one, h, List.map_append]; rfl
theorem inD_nats {l : List Nat} {v : Nat} : inD (.int (v : Nat)) (natsD l) = decide (v ∈ l) := by
  induction l with
  | nil => rfl
  | cons a r ih =>
    unfold inD natsD at ih ⊢
    rw [List.map_cons, List.any_cons, ih]
    have e : eqD (.int (a : Nat)) (.int (v : Nat)) = decide (a = v) := by
      show decide ((a : Int) = (v : Int)) = _
      by_cases z : a = v
      · subst z; simp
      · rw [decide_eq_false z, decide_eq_false (by omega)]
    rw [e]
    by_cases z : a = v
    · subst z; simp
    · by_cases y : v ∈ r
      · simp [z, y]
      · rw [decide_eq_false z, decide_eq_false y, decide_eq_false (by rw [List.mem_cons]; exact fun q => q.elim (fun q => z q.symm) y)]; rfl
theorem flat_natsF {l : List Nat} : (natsD l).all flatD = true := by
  unfold natsD
  rw [List.all_map, List.all_eq_true]
  exact fun _ _ => rfl
theorem nats_getF {l : List Nat} {p : Nat} (hp : p < l.length) : (natsD l)[p]? = some (.int (l.getD p 0 : Nat)) := by
  unfold natsD
  rw [List.getElem?_map, List.getD_eq_getElem?_getD, List.getElem?_eq_getElem hp]; rfl
def ClG (fs : List (Str × Dt)) (ra ro : List Nat) : Prop := fs.lookup ("racks" : Str) = some (lotD ra) ∧ fs.lookup ("rooms" : Str) = some (lotD ro) ∧ fs.lookup ("store_count" : Str) = some (.int (ra.length : Int)) ∧ ro.length = ra.length ∧ ra.length ≤ 1000
def out11 (ra l : List Nat) : List Nat := (List.range ra.length).foldl (fun o v => if v ∉ l ∧ rackOf ra v ∉ o then o ++ [rackOf ra v] else o) []
def needI (ws : List Nat) (o : Nat) : Int := (ws.map fun x : Nat => if (0 : Int) < (x : Int) - (o : Int) then (x : Int) - (o : Int) else 0).sum
def roomI (ro l : List Nat) : Int := (l.map fun v => ((ro.getD v 0 : Nat) : Int)).sum
def lackB (ra ro ws l : List Nat) : Bool := decide (roomI ro l < needI ws (out11 ra l).length)
def W_lacks11 : Fw := fun ss P => ∃ (ra ro rt ws l : List Nat), ss = [.d (.tup [lotD ra, lotD ro, lotD rt]), .d (lotD ws), .d (lotD l)] ∧ ro.length = ra.length ∧ ra.length ≤ 100 ∧ ws.length ≤ 1000 ∧ l.length ≤ 1000 ∧ (∀ v ∈ l, v < ra.length) ∧ P (.bl (lackB ra ro ws l))
theorem out_go {ra l : List Nat} : ∀ (xs o : List Nat), o.Nodup → (xs.foldl (fun o v => if v ∉ l ∧ rackOf ra v ∉ o then o ++ [rackOf ra v] else o) o).Nodup ∧ ∀ r, r ∈ xs.foldl (fun o v => if v ∉ l ∧ rackOf ra v ∉ o then o ++ [rackOf ra v] else o) o ↔ r ∈ o ∨ ∃ v ∈ xs, v ∉ l ∧ rackOf ra v = r
  | [], o, h => ⟨h, fun r => by simp⟩
  | x :: xs, o, h => by
    rw [List.foldl_cons]
    by_cases c : x ∉ l ∧ rackOf ra x ∉ o
    · rw [if_pos c]
      obtain ⟨h1, h2⟩ := out_go xs (o ++ [rackOf ra x]) (List.nodup_append.mpr ⟨h, by simp, fun a ha b hb e => by rw [List.mem_singleton] at hb; exact c.2 (by rw [← hb, ← e]; exact ha)⟩)
      refine ⟨h1, fun r => (h2 r).trans ?_⟩
      rw [List.mem_append, List.mem_singleton]
      constructor
      · rintro ((h | h) | ⟨v, hv, h⟩)
        · exact .inl h
        · exact .inr ⟨x, List.mem_cons_self, c.1, h.symm⟩
        · exact .inr ⟨v, List.mem_cons_of_mem _ hv, h⟩
      · rintro (h | ⟨v, hv, h3, h4⟩)
        · exact .inl (.inl h)
        · rcases List.mem_cons.mp hv with rfl | hv
          · exact .inl (.inr h4.symm)
          · exact .inr ⟨v, hv, h3, h4⟩
    · rw [if_neg c]
      obtain ⟨h1, h2⟩ := out_go xs o h
      refine ⟨h1, fun r => (h2 r).trans ?_⟩
      constructor
      · rintro (h | ⟨v, hv, h⟩)
        · exact .inl h
        · exact .inr ⟨v, List.mem_cons_of_mem _ hv, h⟩
      · rintro (h | ⟨v, hv, h3, h4⟩)
        · exact .inl h
        · rcases List.mem_cons.mp hv with rfl | hv
          · left
            by_cases z : rackOf ra v ∈ o
            · rw [← h4]; exact z
            · exact absurd ⟨h3, z⟩ c
          · exact .inr ⟨v, hv, h3, h4⟩
/-- all lots of the first so many numbers, as they come -/
def lotsTo : Nat → List (List Nat)
  | 0 => [[]]
  | n + 1 => lotsTo n ++ (lotsTo n).map fun l => l ++ [n]
theorem lotsTo_len : ∀ n, (lotsTo n).length = 2 ^ n
  | 0 => rfl
  | n + 1 => by rw [lotsTo, List.length_append, List.length_map, lotsTo_len n]; omega
theorem lotsTo_ok : ∀ {n : Nat} {l : List Nat}, l ∈ lotsTo n → l.Pairwise (· < ·) ∧ ∀ v ∈ l, v < n
  | 0, l, h => by
    have : l = [] := by simpa [lotsTo] using h
    subst this
    exact ⟨.nil, fun v hv => (nomatch hv)⟩
  | n + 1, l, h => by
    rcases List.mem_append.mp h with h | h
    · have := lotsTo_ok h
      exact ⟨this.1, fun v hv => Nat.lt_succ_of_lt (this.2 v hv)⟩
    · obtain ⟨k, hk, rfl⟩ := List.mem_map.mp h
      have := lotsTo_ok hk
      refine ⟨List.pairwise_append.mpr ⟨this.1, List.pairwise_singleton _ _, fun a ha b hb => ?_⟩, fun v hv => ?_⟩
      · rw [List.mem_singleton] at hb; subst hb; exact this.2 a ha
      · rcases List.mem_append.mp hv with hv | hv
        · exact Nat.lt_succ_of_lt (this.2 v hv)
        · rw [List.mem_singleton] at hv; subst hv; exact Nat.lt_succ_self _
theorem lotsTo_all : ∀ {n : Nat} {l : List Nat}, l.Pairwise (· < ·) → (∀ v ∈ l, v < n) → l ∈ lotsTo n
  | 0, l, _, h => by
    cases l with
    | nil => simp [lotsTo]
    | cons a r => exact absurd (h a List.mem_cons_self) (Nat.not_lt_zero _)
  | n + 1, l, hp, h => by
    rcases List.eq_nil_or_concat l with rfl | ⟨r, y, rfl⟩
    · exact List.mem_append_left _ (lotsTo_all .nil fun v hv => (nomatch hv))
    · rw [List.concat_eq_append] at hp h ⊢
      have hp2 := List.pairwise_append.mp hp
      have hy := h y (by simp)
      by_cases z : y = n
      · subst z
        exact List.mem_append_right _ (List.mem_map.mpr ⟨r, lotsTo_all hp2.1 fun v hv => hp2.2.2 v hv y (List.mem_singleton.mpr rfl), rfl⟩)
      · refine List.mem_append_left _ (lotsTo_all hp fun v hv => ?_)
        rcases List.mem_append.mp hv with hv2 | hv2
        · have := hp2.2.2 v hv2 y (List.mem_singleton.mpr rfl); omega
        · rw [List.mem_singleton] at hv2; omega
theorem lot_snoc {l : List Nat} {v : Nat} : Dt.tup (natsD l ++ [.int (v : Int)]) = lotD (l ++ [v]) := by
  show _ = Dt.tup (natsD (l ++ [v])); rw [← nats_app]
def W_lots : FwM := fun ss P => ∃ n : Nat, ss = [.d (.int (n : Int))] ∧ n ≤ 10 ∧ P ((lotsTo n).map lotD)
def W_anyl11 : Fw := fun ss P => ∃ (ra ro rt ws : List Nat), ss = [.d (.tup [lotD ra, lotD ro, lotD rt]), .d (lotD ws)] ∧ ro.length = ra.length ∧ ra.length ≤ 8 ∧ ws.length ≤ 1000 ∧ P (.bl ((lotsTo ra.length).any (lackB ra ro ws)))
def W_falls (C : Addr) : Fw := fun ss P => ∃ (fs : List (Str × Dt)) (ra ro ws l : List Nat), ss = [.d (.ob C fs), .d (lotD ws), .d (lotD l)] ∧ ClG fs ra ro ∧ ws.length ≤ 1000 ∧ l.length ≤ 1000 ∧ (∀ v ∈ l, v < ra.length) ∧ P (.bl (lackB ra ro ws l))
def W_lackr (C CW CL : Addr) : FwX := fun ss P QX => ∃ (fs : List (Str × Dt)) (ra ro : List Nat) (w x : Dt), ss = [.d (.ob C fs), .d w, .d x] ∧ ClG fs ra ro ∧ ra.length ≤ 8 ∧ Pur w ∧ Pur x ∧ (∀ ws : List Nat, w = lotD ws → wishB w = true → ws.length ≤ 1000) ∧ (wishB w = false → QX CW [("value", w)]) ∧
  ∀ ws : List Nat, w = lotD ws → (∀ x ∈ ws, 1 ≤ x ∧ x ≤ 3) → (lotB (ra.length : Int) x = false → QX CL [("value", x)]) ∧ (lotB (ra.length : Int) x = true → ∀ l : List Nat, x = lotD l → l.Pairwise (· < ·) → (∀ v ∈ l, v < ra.length) → P (.bl (lackB ra ro ws l)))
def W_lotl (C CW : Addr) : FwP := fun M ss Q QX => ∃ (fs : List (Str × Dt)) (ra ro : List Nat) (w : Dt), ss = [.d (.ob C fs), .d w] ∧ ClG fs ra ro ∧ ra.length ≤ 8 ∧ Pur w ∧ (∀ ws : List Nat, w = lotD ws → wishB w = true → ws.length ≤ 1000) ∧ (wishB w = false → QX CW [("value", w)] M) ∧
  ∀ ws : List Nat, w = lotD ws → (∀ x ∈ ws, 1 ≤ x ∧ x ≤ 3) → ((∀ l ∈ lotsTo ra.length, lackB ra ro ws l = false) → Q .non M) ∧ ∀ l ∈ lotsTo ra.length, lackB ra ro ws l = true → Q (lotD l) M
theorem lot_any {n : Nat} {d : Dt} (h : lotB (n : Int) d = true) : ∃ l : List Nat, d = lotD l ∧ l.Pairwise (· < ·) ∧ ∀ v ∈ l, v < n := by
  cases d <;> first | exact absurd h Bool.false_ne_true | skip
  rename_i ds
  obtain ⟨l, rfl, hp, hl⟩ := rises_nats (a := 0) h
  exact ⟨l, rfl, hp, fun v hv => (hl v hv).2⟩
theorem up_le {l : List Nat} {n : Nat} (h : l.Pairwise (· < ·)) (h2 : ∀ v ∈ l, v < n) : l.length ≤ n := by
  have := nodup_subA (h.imp fun h => (by omega : _ ≠ _)) (l2 := List.range n) fun x hx => List.mem_range.mpr (h2 x hx)
  rw [List.length_range] at this; exact this
def pOut (l : List Nat) : Dt → Bool := fun d => match d with
  | .tup [.int v, _] => !decide (v.toNat ∈ l)
  | _ => false
def fOut : Dt → Int := fun d => match d with
  | .tup [_, .int r] => r
  | _ => 0
theorem enum_nats {ra : List Nat} : enumD (natsD ra) = (List.range ra.length).map fun v => pairD (.int (v : Nat)) (.int ((rackOf ra v : Nat) : Int)) := by
  refine List.ext_getElem? fun i => ?_
  rw [List.getElem?_map]
  by_cases hi : i < ra.length
  · rw [List.getElem?_range hi]
    have : (natsD ra)[i]? = some (.int ((ra.getD i 0 : Nat) : Int)) := nats_getF hi
    exact enumD_get this
  · rw [List.getElem?_eq_none (by rw [enumD_len, nats_len]; omega), List.getElem?_eq_none (by rw [List.length_range]; omega)]
    rfl
theorem out_list {ra l : List Nat} : ((enumD (natsD ra)).filter (pOut l)).map fOut = ((List.range ra.length).filter fun v => !decide (v ∈ l)).map fun v => ((rackOf ra v : Nat) : Int) := by
  rw [enum_nats, List.filter_map, List.map_map]
  rfl
theorem out_cnt {ra l : List Nat} : ∀ (xs : List Nat) (o : List Nat) (L : List Int), dcount L = o.length → (∀ c : Nat, (c : Int) ∈ L ↔ c ∈ o) →
    dcount (L ++ (xs.filter fun v => !decide (v ∈ l)).map fun v => ((rackOf ra v : Nat) : Int)) = (xs.foldl (fun o v => if v ∉ l ∧ rackOf ra v ∉ o then o ++ [rackOf ra v] else o) o).length
  | [], o, L, h1, _ => by simp [h1]
  | x :: xs, o, L, h1, h2 => by
    rw [List.foldl_cons, List.filter_cons]
    by_cases z : x ∈ l
    · rw [if_neg (by simp [z]), if_neg (by simp [z])]
      exact out_cnt xs o L h1 h2
    · rw [if_pos (by simp [z]), List.map_cons]
      rw [show ∀ (a : Int) (r : List Int), L ++ a :: r = (L ++ [a]) ++ r from fun a r => by simp]
      by_cases y : rackOf ra x ∈ o
      · rw [if_neg (by simp [y])]
        refine out_cnt xs o _ ?_ fun c => ?_
        · rw [dcount_snoc, if_pos ((h2 _).mpr y), h1]
        · rw [List.mem_append, h2, List.mem_singleton]
          exact ⟨fun h => h.elim id fun e => (by rw [show c = rackOf ra x by omega]; exact y), .inl⟩
      · rw [if_pos ⟨z, y⟩]
        refine out_cnt xs _ _ ?_ fun c => ?_
        · rw [dcount_snoc, if_neg fun h => y ((h2 _).mp h), h1, List.length_append]; rfl
        · rw [List.mem_append, List.mem_append, h2, List.mem_singleton, List.mem_singleton]
          exact or_congr Iff.rfl (by omega)
theorem out_dc {ra l : List Nat} : dcount (((enumD (natsD ra)).filter (pOut l)).map fOut) = (out11 ra l).length := by
  rw [out_list]
  exact out_cnt (List.range ra.length) [] [] rfl fun c => by simp
def W_told09 (C : Addr) : Fw := fun ss P => ∃ (i : Int) (fs : List (Str × Dt)) (ra ro : List Nat) (w x : Dt), ss = [.d (.int i), .d (.ob C fs), .d w, .d x] ∧ ClG fs ra ro ∧ ra.length ≤ 8 ∧ Pur w ∧ (i = 0 → Pur x) ∧ (∀ ws : List Nat, w = lotD ws → wishB w = true → ws.length ≤ 1000) ∧ (wishB w = false → P (.lst [.str "wishes", w])) ∧
  ∀ ws : List Nat, w = lotD ws → (∀ x ∈ ws, 1 ≤ x ∧ x ≤ 3) → i = 0 ∧ lotB (ra.length : Int) x = false ∧ P (.lst [.str "lot", x])
theorem ok_is_integer {P : Program} {w : World} {K : PySem.W.Frag} {mg : Str → Option Value} {base : Heap} {f : Addr} {fd : FuncData} (F : L2.Fun K "is_integer" "is_integer" s_is_integer f fd)
    {C_InvalidCluster fI_InvalidCluster : Addr} {fd_InvalidCluster : FuncData} (e_InvalidCluster : Exk P w K mg base "InvalidCluster" ["self", "part", "place"] ["part", "place"] C_InvalidCluster fI_InvalidCluster fd_InvalidCluster)
    {C_InvalidWishes fI_InvalidWishes : Addr} {fd_InvalidWishes : FuncData} (e_InvalidWishes : Exk P w K mg base "InvalidWishes" ["self", "value"] ["value"] C_InvalidWishes fI_InvalidWishes fd_InvalidWishes)
    {C_InvalidLot fI_InvalidLot : Addr} {fd_InvalidLot : FuncData} (e_InvalidLot : Exk P w K mg base "InvalidLot" ["self", "value"] ["value"] C_InvalidLot fI_InvalidLot fd_InvalidLot)
    {C_Cluster : Addr} (i_Cluster : Ins K C_Cluster ["racks", "rooms", "rates", "store_count"])
    (m_isinstance : mg "isinstance" = none)
    (m_bool : mg "bool" = none)
    (m_int : mg "int" = none) :
    FnOk P w K mg base CX0 (1) f fd P_is_integer (Ct K (W_f noOb intD)) := by
  refine ok_ct F sc_is_integer (fun ss P h => ?_) (fun cdv A outer s H E hr => ⟨_, (pss_one (ps_ret (pe_and (pe_callB (c_isiK K) (by rfl) m_isinstance (by decide +kernel) (pa_cons (pv 0) (pa_cons (pe_bltn (v := .ty "int") (by rfl) m_int (by decide +kernel) rfl) pa_nil))) (pe_one (pe_not (pe_callB (c_isiK K) (by rfl) m_isinstance (by decide +kernel) (pa_cons (pv 0) (pa_cons (pe_bltn (v := .ty "bool") (by rfl) m_bool (by decide +kernel) rfl) pa_nil)))))))), fun J ss P h => ?_⟩)
  · obtain ⟨x, rfl, _⟩ := h
    rfl
  · obtain ⟨x, rfl, hx, hP⟩ := h
    show Sv K J [.d x] _ _
    walk_at "S"
    cases x <;> first | exact absurd hx Bool.false_ne_true | skip
    all_goals
      repeat walk_at "E"
      exact hP
theorem ok_is_within {P : Program} {w : World} {K : PySem.W.Frag} {mg : Str → Option Value} {base : Heap} {f : Addr} {fd : FuncData} (F : L2.Fun K "is_within" "is_within" s_is_within f fd)
    {C_InvalidCluster fI_InvalidCluster : Addr} {fd_InvalidCluster : FuncData} (e_InvalidCluster : Exk P w K mg base "InvalidCluster" ["self", "part", "place"] ["part", "place"] C_InvalidCluster fI_InvalidCluster fd_InvalidCluster)
    {C_InvalidWishes fI_InvalidWishes : Addr} {fd_InvalidWishes : FuncData} (e_InvalidWishes : Exk P w K mg base "InvalidWishes" ["self", "value"] ["value"] C_InvalidWishes fI_InvalidWishes fd_InvalidWishes)
    {C_InvalidLot fI_InvalidLot : Addr} {fd_InvalidLot : FuncData} (e_InvalidLot : Exk P w K mg base "InvalidLot" ["self", "value"] ["value"] C_InvalidLot fI_InvalidLot fd_InvalidLot)
    {C_Cluster : Addr} (i_Cluster : Ins K C_Cluster ["racks", "rooms", "rates", "store_count"])
    (c_is_integer : Cal P w K mg base 1 "is_integer" P_is_integer (Ct K (W_f noOb intD))) :
    FnOk P w K mg base CX0 (2) f fd P_is_within (Ct K W_within) := by
  refine ok_ct F sc_is_within (fun ss P h => ?_) (fun cdv A outer s H E hr => ⟨_, (pss_cons (ps_asg (pv 1) (pg_tupK K 2 (by rfl) (pgs_cons (pg_name (i := 2) sc_is_within.nd rfl (by first | exact Or.inl rfl | exact Or.inr rfl)) (pgs_cons (pg_name (i := 3) sc_is_within.nd rfl (by first | exact Or.inl rfl | exact Or.inr rfl)) pgs_nil))))
      (pss_one (ps_ret (pe_and (pe_callC c_is_integer hr (by rfl) (pa_cons (pv 0) pa_nil)) (pe_one (pe_chain op_le op_le (pv 2) (pv 0) (pv 3))))))), fun J ss P h => ?_⟩)
  · obtain ⟨x, a, b, rfl, _⟩ := h
    rfl
  · obtain ⟨x, a, b, rfl, hx, hP⟩ := h
    show Sv K J [.d x, .d (.tup [.int a, .int b]), .no, .no] _ _
    walk_at "S"
    refine sv_asgG [2, 3] (ev_var rfl (gt_tup rfl (gs_cons (gt_name (by decide) (gs_cons (gt_name (by decide) (gs_nil ?_)))))))
    walk_at "S"
    cases x <;> first | exact absurd hx Bool.false_ne_true | skip
    case int i =>
      repeat walk_at "E"
      refine ⟨_, rfl, rfl, ?_⟩
      repeat walk_at "E"
      refine ⟨fun hb => ?_, fun hb => ?_⟩
      · repeat walk_at "E"
        have : inB (.int i) a b = decide (i ≤ b) := by
          show (decide (a ≤ i) && decide (i ≤ b)) = _
          rw [hb]; rfl
        rw [this] at hP
        exact hP
      · have : inB (.int i) a b = false := by
          show (decide (a ≤ i) && decide (i ≤ b)) = _
          rw [hb]; rfl
        rw [this] at hP
        exact hP
    all_goals
      repeat walk_at "E"
      refine ⟨_, rfl, rfl, ?_⟩
      repeat walk_at "E"
      exact hP
theorem ok_is_lot {P : Program} {w : World} {K : PySem.W.Frag} {mg : Str → Option Value} {base : Heap} {f : Addr} {fd : FuncData} (F : L2.Fun K "is_lot" "is_lot" s_is_lot f fd)
    {C_InvalidCluster fI_InvalidCluster : Addr} {fd_InvalidCluster : FuncData} (e_InvalidCluster : Exk P w K mg base "InvalidCluster" ["self", "part", "place"] ["part", "place"] C_InvalidCluster fI_InvalidCluster fd_InvalidCluster)
    {C_InvalidWishes fI_InvalidWishes : Addr} {fd_InvalidWishes : FuncData} (e_InvalidWishes : Exk P w K mg base "InvalidWishes" ["self", "value"] ["value"] C_InvalidWishes fI_InvalidWishes fd_InvalidWishes)
    {C_InvalidLot fI_InvalidLot : Addr} {fd_InvalidLot : FuncData} (e_InvalidLot : Exk P w K mg base "InvalidLot" ["self", "value"] ["value"] C_InvalidLot fI_InvalidLot fd_InvalidLot)
    {C_Cluster : Addr} (i_Cluster : Ins K C_Cluster ["racks", "rooms", "rates", "store_count"])
    (m_isinstance : mg "isinstance" = none)
    (m_tuple : mg "tuple" = none)
    (c_is_within : Cal P w K mg base 2 "is_within" P_is_within (Ct K W_within)) :
    FnOk P w K mg base CX0 (3) f fd P_is_lot (Ct K W_islot) := by
  refine ok_ct F sc_is_lot (fun ss P h => ?_) (fun cdv A outer s H E hr => ⟨_, (pss_cons (ps_if (pt_not (pt_val (pe_callB (c_isiK K) (by rfl) m_isinstance (by decide +kernel) (pa_cons (pv 0) (pa_cons (pe_bltn (v := .ty "tuple") (by rfl) m_tuple (by decide +kernel) rfl) pa_nil)))))
        (pss_one (ps_ret pe_bl))
        pss_nil)
      (pss_cons (ps_set (i := 2) sc_is_lot.nd rfl (by first | exact Or.inl rfl | exact Or.inr rfl) pe_int)
      (pss_cons (ps_for PassesOwn.never rfl (pi_seqK K (pv 0)) (pg_name (i := 3) sc_is_lot.nd rfl (by first | exact Or.inl rfl | exact Or.inr rfl))
        (pss_cons (ps_if (pt_not (pt_val (pe_callC c_is_within hr (by rfl) (pa_cons (pv 3) (pa_cons (pe_tup (pa_cons (pv 2) (pa_cons (pe_op op_sub (pv 1) pe_int) pa_nil))) pa_nil)))))
        (pss_one (ps_ret pe_bl))
        pss_nil)
      (pss_one (ps_set (i := 2) sc_is_lot.nd rfl (by first | exact Or.inl rfl | exact Or.inr rfl) (pe_op op_add (pv 3) pe_int)))))
      (pss_one (ps_ret pe_bl))))), fun J ss P h => ?_⟩)
  · obtain ⟨x, n, rfl, _⟩ := h
    rfl
  · obtain ⟨x, n, rfl, hpx, hP⟩ := h
    have hx := hpx.no
    show Sv K J [.d x, .d (.int n), .no, .no] _ _
    walk_at "S"
    walk_at "S"
    repeat walk_at "E"
    refine ⟨hx, ?_⟩
    repeat walk_at "E"
    cases x
    case tup ds =>
      refine bc_f rfl ?_
      walk_at "S"
      repeat walk_at "S"
      repeat walk_at "E"
      show Sv K J [.d (.tup ds), .d (.int n), .d (.int 0), .no] _ _
      refine sv_seq (sv_for [3] (ei_seq (ev_var rfl ⟨_, .inr rfl, fun k e => ∃ a s3, e = [.d (.tup ds), .d (.int n), .d (.int a), s3] ∧ risesB n 0 ds = risesB n a (ds.drop k), ⟨0, .no, rfl, rfl⟩, ?_, ?_⟩)))
      · rintro k d e hd ⟨a, s3, rfl, ha⟩
        rw [drop_at hd] at ha
        refine gt_name (by decide) (sv_seq (sv_if ?_))
        repeat walk_at "E"
        refine ⟨_, _, _, rfl, (hpx.tup.2 d (List.mem_of_getElem? hd)).no, _, rfl, fun hb => ?_, fun hb => ?_⟩
        · walk_at "S"
          repeat walk_at "E"
          rw [rises_no (by simpa using hb)] at ha
          have : lotB n (.tup ds) = false := ha
          rw [this] at hP
          exact hP
        · obtain ⟨i, rfl, hi⟩ := rises_yes (r := ds.drop (k + 1)) (by simpa using hb)
          refine sv_next (sv_asg ?_)
          repeat walk_at "E"
          exact ⟨_, _, rfl, ha.trans hi⟩
      · rintro e ⟨a, s3, rfl, ha⟩
        walk_at "S"
        repeat walk_at "E"
        rw [List.drop_length] at ha
        have : lotB n (.tup ds) = true := ha
        rw [this] at hP
        exact hP
    all_goals first | exact absurd hx Bool.false_ne_true | skip
    all_goals
      refine bc_t rfl ?_
      walk_at "S"
      repeat walk_at "E"
      exact hP
theorem ok_is_wishes {P : Program} {w : World} {K : PySem.W.Frag} {mg : Str → Option Value} {base : Heap} {f : Addr} {fd : FuncData} (F : L2.Fun K "is_wishes" "is_wishes" s_is_wishes f fd)
    {C_InvalidCluster fI_InvalidCluster : Addr} {fd_InvalidCluster : FuncData} (e_InvalidCluster : Exk P w K mg base "InvalidCluster" ["self", "part", "place"] ["part", "place"] C_InvalidCluster fI_InvalidCluster fd_InvalidCluster)
    {C_InvalidWishes fI_InvalidWishes : Addr} {fd_InvalidWishes : FuncData} (e_InvalidWishes : Exk P w K mg base "InvalidWishes" ["self", "value"] ["value"] C_InvalidWishes fI_InvalidWishes fd_InvalidWishes)
    {C_InvalidLot fI_InvalidLot : Addr} {fd_InvalidLot : FuncData} (e_InvalidLot : Exk P w K mg base "InvalidLot" ["self", "value"] ["value"] C_InvalidLot fI_InvalidLot fd_InvalidLot)
    {C_Cluster : Addr} (i_Cluster : Ins K C_Cluster ["racks", "rooms", "rates", "store_count"])
    (m_all : mg "all" = none)
    (m_isinstance : mg "isinstance" = none)
    (m_tuple : mg "tuple" = none)
    {a_WISH_BOUNDS : Addr} (k_WISH_BOUNDS : mg "WISH_BOUNDS" = some (.ref a_WISH_BOUNDS)) (q_WISH_BOUNDS : ∀ G, Dr K G (.ref a_WISH_BOUNDS) (.tup [.int (1), .int (3)]))
    (c_is_within : Cal P w K mg base 2 "is_within" P_is_within (Ct K W_within)) :
    FnOk P w K mg base CX0 (3) f fd P_is_wishes (Ct K W_iswishes) := by
  refine ok_ct F sc_is_wishes (fun ss P h => ?_) (fun cdv A outer s H E hr => ⟨_, (pss_one (ps_ret (pe_and (pe_callB (c_isiK K) (by rfl) m_isinstance (by decide +kernel) (pa_cons (pv 0) (pa_cons (pe_bltn (v := .ty "tuple") (by rfl) m_tuple (by decide +kernel) rfl) pa_nil))) (pe_one (pe_callB (c_allK K) (by rfl) m_all (by decide +kernel) (pa_cons (pe_lc (own := [("wish", 1)]) rfl sc_is_wishes.nd (pi_seqK K (pv 0)) (blkOk_by (N := N_is_wishes) (sc := defScope s_is_wishes) (by decide +kernel)) (fun _ _ _ _ _ => (pg_name (i := 1) sc_is_wishes.nd rfl (by first | exact Or.inl rfl | exact Or.inr rfl))) (fun _ _ _ _ _ => pts_nil) (fun _ _ _ _ _ => (pe_callC c_is_within hr (by rfl) (pa_cons (pv 1) (pa_cons (pe_glob (v := .ref a_WISH_BOUNDS) rfl k_WISH_BOUNDS rfl) pa_nil))))) pa_nil)))))), fun J ss P h => ?_⟩)
  · obtain ⟨x, rfl, _⟩ := h
    rfl
  · obtain ⟨x, rfl, hpx, hP⟩ := h
    have hx := hpx.no
    show Sv K J [.d x, .no] _ _
    walk_at "S"
    repeat walk_at "E"
    refine ⟨hx, _, rfl, ?_⟩
    cases x
    case tup ds =>
      refine bc_t rfl ?_
      repeat walk_at "E"
      refine Em.ev (em_map (fun d => .bl (inB d 1 3)) (ei_seq (ev_var rfl ⟨_, .inr rfl, hpx.tup.1, fun d hd => gt_name (by decide) ?_, ?_⟩)))
      · refine ev_call (ea_cons (ev_var rfl (ea_cons (ev_ref q_WISH_BOUNDS (ea_nil ⟨_, _, _, rfl, (hpx.tup.2 d hd).no, rfl⟩)))))
      · refine ed_nil ?_
        rw [show (ds.map fun d => Dt.bl (inB d 1 3)) = (ds.map fun d => inB d 1 3).map Dt.bl by rw [List.map_map]; rfl]
        refine oc_all ?_
        rw [List.all_map]
        exact hP
    all_goals first | exact absurd hx Bool.false_ne_true | exact bc_f rfl hP
theorem ok_check_wishes {P : Program} {w : World} {K : PySem.W.Frag} {mg : Str → Option Value} {base : Heap} {f : Addr} {fd : FuncData} (F : L2.Fun K "check_wishes" "check_wishes" s_check_wishes f fd)
    {C_InvalidCluster fI_InvalidCluster : Addr} {fd_InvalidCluster : FuncData} (e_InvalidCluster : Exk P w K mg base "InvalidCluster" ["self", "part", "place"] ["part", "place"] C_InvalidCluster fI_InvalidCluster fd_InvalidCluster)
    {C_InvalidWishes fI_InvalidWishes : Addr} {fd_InvalidWishes : FuncData} (e_InvalidWishes : Exk P w K mg base "InvalidWishes" ["self", "value"] ["value"] C_InvalidWishes fI_InvalidWishes fd_InvalidWishes)
    {C_InvalidLot fI_InvalidLot : Addr} {fd_InvalidLot : FuncData} (e_InvalidLot : Exk P w K mg base "InvalidLot" ["self", "value"] ["value"] C_InvalidLot fI_InvalidLot fd_InvalidLot)
    {C_Cluster : Addr} (i_Cluster : Ins K C_Cluster ["racks", "rooms", "rates", "store_count"])
    (c_is_wishes : Cal P w K mg base 3 "is_wishes" P_is_wishes (Ct K W_iswishes)) :
    FnOk P w K mg base (L2.CX P w) (4) f fd P_check_wishes (CtX K (W_ckwishes C_InvalidWishes)) := by
  refine ok_ctx F sc_check_wishes (fun ss P PX h => ?_) (fun cdv A outer s H E hr => ⟨_, (pss_one (ps_if (pt_not (pt_val (pe_callC c_is_wishes hr (by rfl) (pa_cons (pv 0) pa_nil))))
        (pss_one (ps_raiseK rfl (takes_of rfl rfl rfl rfl) (pmk_oex e_InvalidWishes.ex e_InvalidWishes.iC e_InvalidWishes.tI e_InvalidWishes.fn (hr.mono (by decide)) e_InvalidWishes.b .nil pass0 rfl e_InvalidWishes.g (pa_cons (pv 0) pa_nil))))
        pss_nil)), fun J ss P PX h => ?_⟩)
  · obtain ⟨x, rfl, _⟩ := h
    rfl
  · obtain ⟨x, rfl, hpx, hP, hX⟩ := h
    show Sv K J [.d x] _ _
    walk_at "S"
    repeat walk_at "E"
    refine ⟨_, rfl, hpx, _, rfl, fun hb => ?_, fun hb => sv_next (hP (by simpa using hb))⟩
    exact sv_raise e_InvalidWishes.ex e_InvalidWishes.nf rfl (ed_cons (ev_var rfl (ed_nil ⟨rfl, by decide, hX (by simpa using hb)⟩)))
theorem ok_check_part {P : Program} {w : World} {K : PySem.W.Frag} {mg : Str → Option Value} {base : Heap} {f : Addr} {fd : FuncData} (F : L2.Fun K "check_part" "check_part" s_check_part f fd)
    {C_InvalidCluster fI_InvalidCluster : Addr} {fd_InvalidCluster : FuncData} (e_InvalidCluster : Exk P w K mg base "InvalidCluster" ["self", "part", "place"] ["part", "place"] C_InvalidCluster fI_InvalidCluster fd_InvalidCluster)
    {C_InvalidWishes fI_InvalidWishes : Addr} {fd_InvalidWishes : FuncData} (e_InvalidWishes : Exk P w K mg base "InvalidWishes" ["self", "value"] ["value"] C_InvalidWishes fI_InvalidWishes fd_InvalidWishes)
    {C_InvalidLot fI_InvalidLot : Addr} {fd_InvalidLot : FuncData} (e_InvalidLot : Exk P w K mg base "InvalidLot" ["self", "value"] ["value"] C_InvalidLot fI_InvalidLot fd_InvalidLot)
    {C_Cluster : Addr} (i_Cluster : Ins K C_Cluster ["racks", "rooms", "rates", "store_count"])
    (m_len : mg "len" = none)
    (m_isinstance : mg "isinstance" = none)
    (m_tuple : mg "tuple" = none)
    (m_list : mg "list" = none)
    (m_enumerate : mg "enumerate" = none)
    (c_is_within : Cal P w K mg base 3 "is_within" P_is_within (Ct K W_within)) :
    FnOk P w K mg base (L2.CX P w) (4) f fd P_check_part (CtX K (W_ckpart C_InvalidCluster)) := by
  refine ok_ctx F sc_check_part (fun ss P PX h => ?_) (fun cdv A outer s H E hr => ⟨_, (pss_cons (ps_if (PW.pt (pw_or (pt_not (pt_val (pe_callB (c_isiTK K) (by rfl) m_isinstance (by decide +kernel) (pa_cons (pv 1) (pa_cons (pe_tup (pa_cons (pe_bltn (v := .ty "list") (by rfl) m_list (by decide +kernel) rfl) (pa_cons (pe_bltn (v := .ty "tuple") (by rfl) m_tuple (by decide +kernel) rfl) pa_nil))) pa_nil))))) (pw_or1 (pt_not (pt_val (pe_callC c_is_within hr (by rfl) (pa_cons (pe_callB (c_lenK K) (by rfl) m_len PySem.boot_len (pa_cons (pv 1) pa_nil)) (pa_cons (pv 2) pa_nil))))))))
        (pss_one (ps_raiseK rfl (takes_of rfl rfl rfl rfl) (pmk_oex e_InvalidCluster.ex e_InvalidCluster.iC e_InvalidCluster.tI e_InvalidCluster.fn (hr.mono (by decide)) e_InvalidCluster.b .nil pass0 rfl e_InvalidCluster.g (pa_cons (pv 0) (pa_cons pe_int pa_nil)))))
        pss_nil)
      (pss_one (ps_for (passes_of rfl) rfl (pi_enumK K (by rfl) m_enumerate (pa_cons (pv 1) pa_nil)) (pg_tupK K 2 (by rfl) (pgs_cons (pg_name (i := 4) sc_check_part.nd rfl (by first | exact Or.inl rfl | exact Or.inr rfl)) (pgs_cons (pg_name (i := 5) sc_check_part.nd rfl (by first | exact Or.inl rfl | exact Or.inr rfl)) pgs_nil)))
        (pss_one (ps_if (pt_not (pt_val (pe_callC c_is_within hr (by rfl) (pa_cons (pv 5) (pa_cons (pv 3) pa_nil)))))
        (pss_one (ps_raiseK rfl (takes_of rfl rfl rfl rfl) (pmk_oex e_InvalidCluster.ex e_InvalidCluster.iC e_InvalidCluster.tI e_InvalidCluster.fn (hr.mono (by decide)) e_InvalidCluster.b .nil pass0 rfl e_InvalidCluster.g (pa_cons (pv 0) (pa_cons (pv 4) pa_nil)))))
        pss_nil))))), fun J ss P PX h => ?_⟩)
  · obtain ⟨p, x, a, b, c, d, rfl, _⟩ := h
    rfl
  · obtain ⟨p, x, a, b, c, d, rfl, hpx, hP, hX⟩ := h
    show Sv K J [.d (.str p), .d x, .d (.tup [.int a, .int b]), .d (.tup [.int c, .int d]), .no, .no] _ _
    walk_at "S"
    walk_at "S"
    repeat walk_at "E"
    refine ⟨hpx.no, _, rfl, ?_⟩
    cases x
    case lst ds | tup ds =>
      have hno : ∀ d ∈ ds, Pur d := by first | exact hpx.tup.2 | exact hpx.lst.2
      refine bc_f rfl ?_
      repeat walk_at "E"
      refine ⟨_, _, _, rfl, rfl, _, rfl, fun hb => ?_, fun hb => sv_next ?_⟩
      · refine sv_raise e_InvalidCluster.ex e_InvalidCluster.nf rfl (ed_cons (ev_var rfl (ed_cons (ev_int (ed_nil ⟨rfl, by decide, hX 0 ?_⟩)))))
        show (if inB (.int (ds.length : Int)) a b = true then _ else some 0) = some 0
        rw [if_neg (by simpa using hb)]
      · have hp : ∀ y, seqD y = some ds → partE a b c d y = wrongFrom c d 0 ds := fun y hy => by
          unfold partE
          rw [hy]
          exact if_pos (by simpa using hb)
        refine sv_for [4, 5] (ei_enum (ev_var rfl ⟨ds, by first | exact .inl rfl | exact .inr rfl, fun k e => ∃ s4 s5, e = [_, _, _, _, s4, s5] ∧ wrongFrom c d 0 ds = wrongFrom c d k (ds.drop k), ⟨.no, .no, rfl, rfl⟩, ?_, ?_⟩))
        · rintro k e0 e he ⟨s4, s5, rfl, hw⟩
          have hk : k < ds.length := by
            have := (List.getElem?_eq_some_iff.mp he).1
            rw [enumD_len] at this
            exact this
          have hy : ds[k]? = some ds[k] := by simp [hk]
          generalize ds[k] = y at hy
          rw [enumD_get hy] at he
          cases he
          rw [drop_at hy] at hw
          refine gt_tup rfl (gs_cons (gt_name (by decide) (gs_cons (gt_name (by decide) (gs_nil (sv_if ?_))))))
          repeat walk_at "E"
          refine ⟨_, _, _, rfl, (hno y (List.mem_of_getElem? hy)).no, _, rfl, fun hb => ?_, fun hb => sv_next ⟨_, _, rfl, ?_⟩⟩
          · refine sv_raise e_InvalidCluster.ex e_InvalidCluster.nf rfl (ed_cons (ev_var rfl (ed_cons (ev_var rfl (ed_nil ⟨rfl, by decide, hX k ?_⟩)))))
            rw [hp _ rfl, hw]
            exact if_neg (by simpa using hb)
          · rw [hw]
            exact if_pos (by simpa using hb)
        · rintro e ⟨s4, s5, rfl, hw⟩
          rw [enumD_len, List.drop_length] at hw
          exact hP ((hp _ rfl).trans hw)
    all_goals first | exact absurd hpx.no Bool.false_ne_true | skip
    all_goals
      repeat walk_at "E"
      exact sv_raise e_InvalidCluster.ex e_InvalidCluster.nf rfl (ed_cons (ev_var rfl (ed_cons (ev_int (ed_nil ⟨rfl, by decide, hX 0 rfl⟩)))))
theorem ok_Cluster__init__ {P : Program} {w : World} {K : PySem.W.Frag} {mg : Str → Option Value} {base : Heap} {f : Addr} {fd : FuncData} (F : L2.Fun K "__init__" "Cluster.__init__" s_Cluster__init__ f fd)
    {C_InvalidCluster fI_InvalidCluster : Addr} {fd_InvalidCluster : FuncData} (e_InvalidCluster : Exk P w K mg base "InvalidCluster" ["self", "part", "place"] ["part", "place"] C_InvalidCluster fI_InvalidCluster fd_InvalidCluster)
    {C_InvalidWishes fI_InvalidWishes : Addr} {fd_InvalidWishes : FuncData} (e_InvalidWishes : Exk P w K mg base "InvalidWishes" ["self", "value"] ["value"] C_InvalidWishes fI_InvalidWishes fd_InvalidWishes)
    {C_InvalidLot fI_InvalidLot : Addr} {fd_InvalidLot : FuncData} (e_InvalidLot : Exk P w K mg base "InvalidLot" ["self", "value"] ["value"] C_InvalidLot fI_InvalidLot fd_InvalidLot)
    {C_Cluster : Addr} (i_Cluster : Ins K C_Cluster ["racks", "rooms", "rates", "store_count"])
    (m_len : mg "len" = none)
    (m_tuple : mg "tuple" = none)
    {a_RACK_BOUNDS : Addr} (k_RACK_BOUNDS : mg "RACK_BOUNDS" = some (.ref a_RACK_BOUNDS)) (q_RACK_BOUNDS : ∀ G, Dr K G (.ref a_RACK_BOUNDS) (.tup [.int (0), .int (99)]))
    {t_MOST_STORES : Tok} (k_MOST_STORES : mg "MOST_STORES" = some (.int 8 t_MOST_STORES))
    {a_ROOM_BOUNDS : Addr} (k_ROOM_BOUNDS : mg "ROOM_BOUNDS" = some (.ref a_ROOM_BOUNDS)) (q_ROOM_BOUNDS : ∀ G, Dr K G (.ref a_ROOM_BOUNDS) (.tup [.int (0), .int (99)]))
    {a_RATE_BOUNDS : Addr} (k_RATE_BOUNDS : mg "RATE_BOUNDS" = some (.ref a_RATE_BOUNDS)) (q_RATE_BOUNDS : ∀ G, Dr K G (.ref a_RATE_BOUNDS) (.tup [.int (1), .int (8)]))
    (c_check_part : CalX P w K mg base 4 "check_part" P_check_part (CtX K (W_ckpart C_InvalidCluster))) :
    FnOk P w K mg base (L2.CX P w) (5) f fd P_Cluster__init__ (CtI K C_Cluster (W_cluster C_InvalidCluster)) := by
  refine ok_cti F sc_Cluster__init__ (fun ss P PX h => ?_) (fun cdv A outer s H E hr => ⟨_, (pss_cons (ps_expr (pe_callW (fun cls d _ H => E cls d H) (takes_of rfl rfl rfl rfl) c_check_part hr rfl (pa_cons pe_str (pa_cons (pv 1) (pa_cons (pe_tup (pa_cons pe_int (pa_cons (pe_glob (v := .int (8)) rfl k_MOST_STORES ⟨_, rfl⟩) pa_nil))) (pa_cons (pe_glob (v := .ref a_RACK_BOUNDS) rfl k_RACK_BOUNDS rfl) pa_nil))))))
      (pss_cons (ps_set (i := 4) sc_Cluster__init__.nd rfl (by first | exact Or.inl rfl | exact Or.inr rfl) (pe_callB (c_lenK K) (by rfl) m_len PySem.boot_len (pa_cons (pv 1) pa_nil)))
      (pss_cons (ps_expr (pe_callW (fun cls d _ H => E cls d H) (takes_of rfl rfl rfl rfl) c_check_part hr rfl (pa_cons pe_str (pa_cons (pv 2) (pa_cons (pe_tup (pa_cons (pv 4) (pa_cons (pv 4) pa_nil))) (pa_cons (pe_glob (v := .ref a_ROOM_BOUNDS) rfl k_ROOM_BOUNDS rfl) pa_nil))))))
      (pss_cons (ps_expr (pe_callW (fun cls d _ H => E cls d H) (takes_of rfl rfl rfl rfl) c_check_part hr rfl (pa_cons pe_str (pa_cons (pv 3) (pa_cons (pe_tup (pa_cons (pv 4) (pa_cons (pv 4) pa_nil))) (pa_cons (pe_glob (v := .ref a_RATE_BOUNDS) rfl k_RATE_BOUNDS rfl) pa_nil))))))
      (pss_cons (ps_fldK K (pv 0) (pe_callTy (c_tupK K) (by rfl) m_tuple (by decide +kernel) (pa_cons (pv 1) pa_nil)))
      (pss_cons (ps_fldK K (pv 0) (pe_callTy (c_tupK K) (by rfl) m_tuple (by decide +kernel) (pa_cons (pv 2) pa_nil)))
      (pss_cons (ps_fldK K (pv 0) (pe_callTy (c_tupK K) (by rfl) m_tuple (by decide +kernel) (pa_cons (pv 3) pa_nil)))
      (pss_one (ps_fldK K (pv 0) (pv 4)))))))))), fun J p ss P PX h => ?_⟩)
  · obtain ⟨r, o, t, rfl, _⟩ := h
    rfl
  · obtain ⟨r, o, t, rfl, hr', ho', ht', h1, h2⟩ := h
    show Sv K J [.mi p C_Cluster [], .d r, .d o, .d t, .no] _ _
    refine sv_seq (sv_dropS (ea_cons (ev_str (ea_cons (ev_var rfl ?_)))))
    repeat walk_at "E"
    refine ev_ref q_RACK_BOUNDS (ea_nil ⟨_, _, _, _, _, _, rfl, hr', fun hn1 => ?_, h1⟩)
    obtain ⟨rs, hrs⟩ := partE_none hn1
    obtain ⟨g1, k1⟩ := h2 rs hrs hn1
    have cl := i_Cluster.cls
    rcases seq_of hrs with rfl | rfl
    all_goals
      refine sv_seq (sv_asg ?_)
      repeat walk_at "E"
      refine sv_seq (sv_dropS (ea_cons (ev_str (ea_cons (ev_var rfl ?_)))))
      repeat walk_at "E"
      refine ev_ref q_ROOM_BOUNDS (ea_nil ⟨_, _, _, _, _, _, rfl, ho', fun hn2 => ?_, g1⟩)
      obtain ⟨os, hos⟩ := partE_none hn2
      obtain ⟨g2, k2⟩ := k1 os hos hn2
      refine sv_seq (sv_dropS (ea_cons (ev_str (ea_cons (ev_var rfl ?_)))))
      repeat walk_at "E"
      refine ev_ref q_RATE_BOUNDS (ea_nil ⟨_, _, _, _, _, _, rfl, ht', fun hn3 => ?_, g2⟩)
      obtain ⟨ts, hts⟩ := partE_none hn3
      have h3 := k2 ts hts hn3
      refine sv_seq (sv_fldM rfl ?_)
      repeat walk_at "E"
      refine ⟨cl, i_Cluster.nf "racks" (by decide), Nat.le_of_ble_eq_true rfl, ?_⟩
      rcases seq_of hos with rfl | rfl
      all_goals
        refine sv_seq (sv_fldM rfl ?_)
        repeat walk_at "E"
        refine ⟨cl, i_Cluster.nf "rooms" (by decide), Nat.le_of_ble_eq_true rfl, ?_⟩
        rcases seq_of hts with rfl | rfl
        all_goals
          refine sv_seq (sv_fldM rfl ?_)
          repeat walk_at "E"
          refine ⟨cl, i_Cluster.nf "rates" (by decide), Nat.le_of_ble_eq_true rfl, sv_fldM rfl ?_⟩
          repeat walk_at "E"
          exact ⟨cl, i_Cluster.nf "store_count" (by decide), Nat.le_of_ble_eq_true rfl, _, rfl, h3⟩
theorem ok__law_draws {P : Program} {w : World} {K : PySem.W.Frag} {mg : Str → Option Value} {base : Heap} {f : Addr} {fd : FuncData} (F : L2.Fun K "_law_draws" "_law_draws" s__law_draws f fd)
    {C_InvalidCluster fI_InvalidCluster : Addr} {fd_InvalidCluster : FuncData} (e_InvalidCluster : Exk P w K mg base "InvalidCluster" ["self", "part", "place"] ["part", "place"] C_InvalidCluster fI_InvalidCluster fd_InvalidCluster)
    {C_InvalidWishes fI_InvalidWishes : Addr} {fd_InvalidWishes : FuncData} (e_InvalidWishes : Exk P w K mg base "InvalidWishes" ["self", "value"] ["value"] C_InvalidWishes fI_InvalidWishes fd_InvalidWishes)
    {C_InvalidLot fI_InvalidLot : Addr} {fd_InvalidLot : FuncData} (e_InvalidLot : Exk P w K mg base "InvalidLot" ["self", "value"] ["value"] C_InvalidLot fI_InvalidLot fd_InvalidLot)
    {C_Cluster : Addr} (i_Cluster : Ins K C_Cluster ["racks", "rooms", "rates", "store_count"])
    (m_abs : mg "abs" = none)
    (m_int : mg "int" = none)
    (m_range : mg "range" = none)
    (m_len : mg "len" = none) :
    FnOk P w K mg base CX0 (1) f fd P__law_draws (CtM K W_draws) := by
  refine ok_ctm F sc__law_draws (fun ss P h => ?_) (fun cdv A outer s H E hr => ⟨_, (pss_cons (ps_setLc (own := [("cell", 5)]) (i := 2) rfl sc__law_draws.nd rfl rfl (sw_true rfl rfl rfl (by decide +kernel)) (pi_seqK K (pv 0)) (blkOk_by (N := N__law_draws) (sc := defScope s__law_draws) (by decide +kernel)) (fun _ _ _ _ _ => (pg_name (i := 5) sc__law_draws.nd rfl (by first | exact Or.inl rfl | exact Or.inr rfl))) (fun _ _ _ _ _ => pts_nil) (fun _ _ _ _ _ => (pe_callB c_abs (by rfl) m_abs (by decide +kernel) (pa_cons (pe_callTy c_int (by rfl) m_int (by decide +kernel) (pa_cons (pv 5) pa_nil)) pa_nil))))
      (pss_cons (ps_set (i := 3) sc__law_draws.nd rfl (by first | exact Or.inl rfl | exact Or.inr rfl) (pe_lst pa_nil))
      (pss_cons (ps_for PassesOwn.never rfl (pi_range1 (by rfl) m_range (pa_cons (pv 1) pa_nil)) (pg_name (i := 4) sc__law_draws.nd rfl (by first | exact Or.inl rfl | exact Or.inr rfl))
        (pss_cons (ps_set (i := 5) sc__law_draws.nd rfl (by first | exact Or.inl rfl | exact Or.inr rfl) (pv 4))
      (pss_cons (ps_if (pt_cmpR op_gt (pe_callB (c_lenK K) (by rfl) m_len PySem.boot_len (pa_cons (pv 0) pa_nil)) pe_int (nomark _))
        (pss_cons (ps_set (i := 6) sc__law_draws.nd rfl (by first | exact Or.inl rfl | exact Or.inr rfl) (pe_op op_mod (pv 4) (pe_callB (c_lenK K) (by rfl) m_len PySem.boot_len (pa_cons (pv 0) pa_nil))))
      (pss_cons (ps_set (i := 5) sc__law_draws.nd rfl (by first | exact Or.inl rfl | exact Or.inr rfl) (pe_callTy c_int (by rfl) m_int (by decide +kernel) (pa_cons (pe_ix (ix_seqK K) (pv 0) (pv 6) (fun _ _ => rfl)) pa_nil)))
      (pss_one (ps_if (PW.pt (pw_and (pt_cmpR op_ge (pv 5) (pe_op op_pow pe_int pe_int) (nomark _)) (pw_and1 (pt_cmpR op_gt (pe_ix (ix_seqK K) (pv 2) (pv 6) (fun _ _ => rfl)) pe_int (nomark _)))))
        (pss_cons (ps_expr (pe_bm PySem.F.plainAttrs_list PySem.F.slot_list_append PySem.F.type_list_append mt_append (pv 3) (pa_cons (pe_op op_mod (pe_callTy c_int (by rfl) m_int (by decide +kernel) (pa_cons (pe_ix (ix_seqK K) (pv 2) (pv 6) (fun _ _ => rfl)) pa_nil)) pe_int) pa_nil)))
      (pss_cons (ps_asg (pe_op op_fdiv (pe_callTy c_int (by rfl) m_int (by decide +kernel) (pa_cons (pe_ix (ix_seqK K) (pv 2) (pv 6) (fun _ _ => rfl)) pa_nil)) pe_int) (pg_sub (pv 2) (pv 6) set_list))
      (pss_one ps_continue)))
        pss_nil))))
        pss_nil)
      (pss_cons (ps_set (i := 7) sc__law_draws.nd rfl (by first | exact Or.inl rfl | exact Or.inr rfl) (pe_op op_mod (pe_callTy c_int (by rfl) m_int (by decide +kernel) (pa_cons (pe_op op_add (pe_op op_add (pe_op op_mul (pv 5) pe_int) (pe_op op_mul (pv 4) pe_int)) pe_int) pa_nil)) pe_int))
      (pss_cons (ps_set (i := 7) sc__law_draws.nd rfl (by first | exact Or.inl rfl | exact Or.inr rfl) (pe_op op_mod (pe_callTy c_int (by rfl) m_int (by decide +kernel) (pa_cons (pe_op op_add (pe_op op_fdiv (pe_op op_mul (pv 7) (pv 7)) pe_int) (pv 7)) pa_nil)) pe_int))
      (pss_one (ps_expr (pe_bm PySem.F.plainAttrs_list PySem.F.slot_list_append PySem.F.type_list_append mt_append (pv 3) (pa_cons (pe_op op_mod (pe_callTy c_int (by rfl) m_int (by decide +kernel) (pa_cons (pe_op op_add (pe_op op_fdiv (pe_op op_mul (pv 7) (pv 7)) pe_int) (pe_op op_mul (pv 4) pe_int)) pa_nil)) pe_int) pa_nil)))))))))
      (pss_one (ps_ret (pv 3)))))), fun J ss P h => ?_⟩)
  · obtain ⟨ns, m, rfl, _⟩ := h
    rfl
  · obtain ⟨ns, m, rfl, hm, hl, hP⟩ := h
    show Sv K J [.d (.lst (ns.map Dt.int)), .d (.int (m : Int)), .no, .no, .no, .no, .no, .no] _ _
    refine sv_seq (sv_asgM (em_lc (ei_seq (ev_var rfl ⟨_, .inl rfl, by simp; omega, fun k acc => ∃ rs : List Int, rs.length = k ∧ acc = rs.map Dt.int, ⟨[], rfl, rfl⟩, ?_, ?_⟩))))
    · rintro k d acc hd _ ⟨rs, hk, rfl⟩
      rw [List.getElem?_map] at hd
      obtain ⟨n, hn, rfl⟩ := Option.map_eq_some_iff.mp hd
      refine gt_name (by decide) (et_yes ⟨fun _ => ?_, fun z => (nomatch z)⟩)
      repeat walk_at "E"
      exact ⟨rs ++ [_], by simp [hk], by rw [List.map_append]; rfl⟩
    · rintro acc _ ⟨rs, hk, rfl⟩
      rw [List.length_map] at hk
      refine sv_seq (sv_asgM (em_lst (ed_nil ⟨by decide, ?_⟩)))
      refine sv_seq (sv_for [4] (ei_range (ed_cons (ev_var rfl (ed_nil ⟨_, rfl, by omega, by omega, fun k e => ∃ (rl dl : List Dt) (s4 s5 s6 s7 : Sl),
        e = [.d (.lst (ns.map Dt.int)), .d (.int (m : Int)), .ml rl, .ml dl, s4, s5, s6, s7] ∧ (∃ rs : List Int, rl = rs.map Dt.int ∧ rs.length = ns.length) ∧ ∃ dr : List Int, dl = dr.map Dt.int ∧ dr.length ≤ k,
        ⟨_, _, _, _, _, _, rfl, ⟨rs, rfl, hk⟩, [], rfl, Nat.le_refl _⟩, ?_, ?_⟩)))))
      · rintro k d e hd ⟨_, _, s4, s5, s6, s7, rfl, ⟨rs, rfl, hr⟩, dr, rfl, hdr⟩
        have hkm : k < m := by
          have := (List.getElem?_eq_some_iff.mp hd).1
          simpa using this
        have hdk : d = .int (k : Int) := by
          rw [List.getElem?_map, List.getElem?_range (by simpa using hkm)] at hd
          exact (Option.some.inj hd).symm
        subst hdk
        refine gt_name (by decide) ?_
        show Sv K J [.d (.lst (ns.map Dt.int)), .d (.int (m : Int)), .ml (rs.map Dt.int), .ml (dr.map Dt.int), .d (.int (k : Int)), s5, s6, s7] _ _
        refine sv_seq (sv_asg (ev_var rfl ?_))
        refine sv_mid (fun e => ∃ (cell : Int) (s6 s7 : Sl), e = [.d (.lst (ns.map Dt.int)), .d (.int (m : Int)), .ml (rs.map Dt.int), .ml (dr.map Dt.int), .d (.int (k : Int)), .d (.int cell), s6, s7]) (sv_if ?_) ?_
        · repeat walk_at "E"
          refine ⟨fun hb => ?_, fun hb => sv_next ⟨_, _, _, rfl⟩⟩
          have h0 : 0 < ns.length := by
            have := of_decide_eq_true hb
            simp at this
            omega
          refine sv_seq (sv_asg ?_)
          repeat walk_at "E"
          refine o2_I (C := fun _ j => 0 < j) (by simp; omega) ?_
          have hj : k % ns.length < ns.length := Nat.mod_lt _ h0
          have ej : (k : Int) % (((ns.map Dt.int).length : Nat) : Int) = ((k % ns.length : Nat) : Int) := by
            rw [List.length_map]
            omega
          rw [ej]
          refine sv_seq (sv_asg ?_)
          repeat walk_at "E"
          refine o2_ixL (atD_nat (d := .int ns[k % ns.length]) (by simp [hj])) ?_
          repeat walk_at "E"
          refine sv_if ?_
          repeat walk_at "E"
          have hjr : k % ns.length < rs.length := by omega
          have hat : atD (rs.map Dt.int) ((k % ns.length : Nat) : Int) = some (.int rs[k % ns.length]) := atD_nat (by simp [hjr])
          refine ⟨fun _ => ?_, fun _ => ⟨fun z => (nomatch z), fun _ => sv_next ⟨_, _, _, rfl⟩⟩⟩
          repeat walk_at "E"
          refine ⟨_, _, rfl, hat, ?_⟩
          repeat walk_at "E"
          refine ⟨fun _ => ?_, fun _ => sv_next ⟨_, _, _, rfl⟩⟩
          refine sv_seq (sv_app rfl (by simp; omega) ?_)
          repeat walk_at "E"
          refine ⟨_, _, rfl, hat, ?_⟩
          repeat walk_at "E"
          refine sv_seq (sv_setM rfl ?_)
          repeat walk_at "E"
          refine ⟨_, _, rfl, hat, ?_⟩
          repeat walk_at "E"
          refine ⟨by simpa using hjr, ?_⟩
          exact sv_cont ⟨_, _, _, _, _, _, rfl, ⟨_, ints_set, by simpa using hr⟩, _, ints_snoc, by simp; omega⟩
        · rintro e ⟨cell, s6, s7, rfl⟩
          refine sv_seq (sv_asg ?_)
          repeat walk_at "E"
          refine sv_seq (sv_asg ?_)
          repeat walk_at "E"
          refine sv_app rfl (by simp; omega) ?_
          repeat walk_at "E"
          exact ⟨_, _, _, _, _, _, rfl, ⟨rs, rfl, hr⟩, _, ints_snoc, by simp; omega⟩
      · rintro e ⟨_, _, s4, s5, s6, s7, rfl, ⟨rs, rfl, hr⟩, dr, rfl, hdr⟩
        exact sv_retM rfl (hP dr)
theorem ok__law_take {P : Program} {w : World} {K : PySem.W.Frag} {mg : Str → Option Value} {base : Heap} {f : Addr} {fd : FuncData} (F : L2.Fun K "_law_take" "_law_take" s__law_take f fd)
    {C_InvalidCluster fI_InvalidCluster : Addr} {fd_InvalidCluster : FuncData} (e_InvalidCluster : Exk P w K mg base "InvalidCluster" ["self", "part", "place"] ["part", "place"] C_InvalidCluster fI_InvalidCluster fd_InvalidCluster)
    {C_InvalidWishes fI_InvalidWishes : Addr} {fd_InvalidWishes : FuncData} (e_InvalidWishes : Exk P w K mg base "InvalidWishes" ["self", "value"] ["value"] C_InvalidWishes fI_InvalidWishes fd_InvalidWishes)
    {C_InvalidLot fI_InvalidLot : Addr} {fd_InvalidLot : FuncData} (e_InvalidLot : Exk P w K mg base "InvalidLot" ["self", "value"] ["value"] C_InvalidLot fI_InvalidLot fd_InvalidLot)
    {C_Cluster : Addr} (i_Cluster : Ins K C_Cluster ["racks", "rooms", "rates", "store_count"])
    (m_len : mg "len" = none)
    (m_int : mg "int" = none) :
    FnOk P w K mg base CX0 (1) f fd P__law_take (Ct K W_take) := by
  refine take_ok F sc__law_take rfl (fun cdv A outer s H E hr => ⟨_, (pss_cons (ps_set (i := 2) sc__law_take.nd rfl (by first | exact Or.inl rfl | exact Or.inr rfl) (pe_ix (ix_seqK K) (pv 0) pe_int (fun _ _ => rfl)))
      (pss_cons (ps_asg (pe_op op_add (pv 2) pe_int) (pg_sub (pv 0) pe_int set_list))
      (pss_cons (ps_set (i := 3) sc__law_take.nd rfl (by first | exact Or.inl rfl | exact Or.inr rfl) (pe_ix (ix_seqK K) (pv 0) pe_int (fun _ _ => rfl)))
      (pss_cons (ps_if (pt_cmpR op_ge (pv 2) (pe_callB (c_lenK K) (by rfl) m_len PySem.boot_len (pa_cons (pv 3) pa_nil)) (nomark _))
        (pss_one (ps_ret pe_int))
        pss_nil)
      (pss_one (ps_ret (pe_op op_mod (pe_op op_fdiv (pe_callTy c_int (by rfl) m_int (by decide +kernel) (pa_cons (pe_ix (ix_seqK K) (pv 3) (pv 2) (fun _ _ => rfl)) pa_nil)) pe_int) (pv 1)))))))), fun h d ns i m Q hhd a b c hm q => ?_⟩)
  have b2 : (upd H h (.lst [.ref d, .int (i + 1)])) d = some (.lst (ns.map V.int)) := by
    rw [upd_ne hhd.symm]
    exact b
  refine ⟨.ref h, rfl, .inl ⟨h, _, 1, .int i, rfl, rfl, .inl (.inl a), rfl, ?_⟩⟩
  refine ⟨.int i, rfl, i, 1, rfl, rfl, .ref h, rfl, h, _, 1, 1, rfl, rfl, a, rfl, ?_⟩
  refine ⟨.ref h, rfl, .inl ⟨h, _, 0, .ref d, rfl, rfl, .inl (.inl upd_same), rfl, ?_⟩⟩
  refine ⟨.int i, rfl, .ref d, rfl, .ref d, ns.length, rfl, .inl ⟨_, .inl (.inl b2), by simp⟩, i, _, rfl, rfl, _, rfl, ite2 (fun e => ?_) (fun e => ?_)⟩
  · exact q 0 (Int.le_refl _) hm
  · obtain ⟨j, rfl⟩ : ∃ j : Nat, i = (j : Int) := ⟨i.toNat, by omega⟩
    have hi : j < ns.length := by
      have : ¬ ((ns.length : Int) ≤ (j : Int)) := fun z => e (decide_eq_true z)
      omega
    have ha : atI (ns.map V.int) (j : Int) = some (.int ns[j]) := atI_nat (by simp [hi])
    refine ⟨.ref d, rfl, .int j, rfl, .inl ⟨d, _, j, .int ns[j], rfl, rfl, .inl (.inl b2), ha, ?_⟩⟩
    refine .inl ⟨_, rfl, _, _, rfl, rfl, ⟨by decide, by decide⟩, .int m, rfl, _, _, rfl, rfl, hm, ?_⟩
    exact q _ (Int.emod_nonneg _ (by omega)) (Int.emod_lt_of_pos _ hm)
theorem ok__law_like {P : Program} {w : World} {K : PySem.W.Frag} {mg : Str → Option Value} {base : Heap} {f : Addr} {fd : FuncData} (F : L2.Fun K "_law_like" "_law_like" s__law_like f fd)
    (n : Nat)
    {C_InvalidCluster fI_InvalidCluster : Addr} {fd_InvalidCluster : FuncData} (e_InvalidCluster : Exk P w K mg base "InvalidCluster" ["self", "part", "place"] ["part", "place"] C_InvalidCluster fI_InvalidCluster fd_InvalidCluster)
    {C_InvalidWishes fI_InvalidWishes : Addr} {fd_InvalidWishes : FuncData} (e_InvalidWishes : Exk P w K mg base "InvalidWishes" ["self", "value"] ["value"] C_InvalidWishes fI_InvalidWishes fd_InvalidWishes)
    {C_InvalidLot fI_InvalidLot : Addr} {fd_InvalidLot : FuncData} (e_InvalidLot : Exk P w K mg base "InvalidLot" ["self", "value"] ["value"] C_InvalidLot fI_InvalidLot fd_InvalidLot)
    {C_Cluster : Addr} (i_Cluster : Ins K C_Cluster ["racks", "rooms", "rates", "store_count"])
    (m_isinstance : mg "isinstance" = none)
    (m_list : mg "list" = none)
    (m_tuple : mg "tuple" = none)
    (m_len : mg "len" = none)
    (m_range : mg "range" = none)
    (m_bool : mg "bool" = none)
    (m_str : mg "str" = none)
    (m_int : mg "int" = none)
    (c__law_like : Cal P w K mg base n "_law_like" P__law_like (Ct K (predW W_like n))) :
    FnOk P w K mg base CX0 (n + 1) f fd P__law_like (Ct K (W_like n)) := by
  refine ok_ct F sc__law_like (fun ss P h => ?_) (fun cdv A outer s H E hr => ⟨_, (pss_cons (ps_if (PW.pt (pw_or (pt_val (pe_callB (c_isiK K) (by rfl) m_isinstance (by decide +kernel) (pa_cons (pv 1) (pa_cons (pe_bltn (v := .ty "tuple") (by rfl) m_tuple (by decide +kernel) rfl) pa_nil)))) (pw_or1 (pt_val (pe_callB (c_isiK K) (by rfl) m_isinstance (by decide +kernel) (pa_cons (pv 1) (pa_cons (pe_bltn (v := .ty "list") (by rfl) m_list (by decide +kernel) rfl) pa_nil)))))))
        (pss_cons (ps_if (PW.pt (pw_or (pt_cmpR op_ne (pe_callB (c_isiK K) (by rfl) m_isinstance (by decide +kernel) (pa_cons (pv 0) (pa_cons (pe_bltn (v := .ty "tuple") (by rfl) m_tuple (by decide +kernel) rfl) pa_nil))) (pe_callB (c_isiK K) (by rfl) m_isinstance (by decide +kernel) (pa_cons (pv 1) (pa_cons (pe_bltn (v := .ty "tuple") (by rfl) m_tuple (by decide +kernel) rfl) pa_nil))) (nomark _)) (pw_or1 (pt_cmpR op_ne (pe_callB (c_isiK K) (by rfl) m_isinstance (by decide +kernel) (pa_cons (pv 0) (pa_cons (pe_bltn (v := .ty "list") (by rfl) m_list (by decide +kernel) rfl) pa_nil))) (pe_callB (c_isiK K) (by rfl) m_isinstance (by decide +kernel) (pa_cons (pv 1) (pa_cons (pe_bltn (v := .ty "list") (by rfl) m_list (by decide +kernel) rfl) pa_nil))) (nomark _)))))
        (pss_one (ps_ret pe_bl))
        pss_nil)
      (pss_cons (ps_if (pt_cmpR op_ne (pe_callB (c_lenK K) (by rfl) m_len PySem.boot_len (pa_cons (pv 0) pa_nil)) (pe_callB (c_lenK K) (by rfl) m_len PySem.boot_len (pa_cons (pv 1) pa_nil)) (nomark _))
        (pss_one (ps_ret pe_bl))
        pss_nil)
      (pss_cons (ps_for PassesOwn.never rfl (pi_range1 (by rfl) m_range (pa_cons (pe_callB (c_lenK K) (by rfl) m_len PySem.boot_len (pa_cons (pv 1) pa_nil)) pa_nil)) (pg_name (i := 2) sc__law_like.nd rfl (by first | exact Or.inl rfl | exact Or.inr rfl))
        (pss_one (ps_if (pt_not (pt_val (pe_callC c__law_like hr (by rfl) (pa_cons (pe_ix (ix_seqK K) (pv 0) (pv 2) (fun _ _ => rfl)) (pa_cons (pe_ix (ix_seqK K) (pv 1) (pv 2) (fun _ _ => rfl)) pa_nil)))))
        (pss_one (ps_ret pe_bl))
        pss_nil)))
      (pss_one (ps_ret pe_bl)))))
        pss_nil)
      (pss_cons (ps_if (pt_cmpR op_is_none (pv 1) pe_non (nomark _))
        (pss_one (ps_ret (pe_cmpR op_is_none (pv 0) pe_non (nomark _))))
        pss_nil)
      (pss_cons (ps_if (PW.pt (pw_or (pt_val (pe_callB (c_isiK K) (by rfl) m_isinstance (by decide +kernel) (pa_cons (pv 1) (pa_cons (pe_bltn (v := .ty "bool") (by rfl) m_bool (by decide +kernel) rfl) pa_nil)))) (pw_or1 (pt_val (pe_callB (c_isiK K) (by rfl) m_isinstance (by decide +kernel) (pa_cons (pv 0) (pa_cons (pe_bltn (v := .ty "bool") (by rfl) m_bool (by decide +kernel) rfl) pa_nil)))))))
        (pss_one (ps_ret (pe_and (pe_callB (c_isiK K) (by rfl) m_isinstance (by decide +kernel) (pa_cons (pv 1) (pa_cons (pe_bltn (v := .ty "bool") (by rfl) m_bool (by decide +kernel) rfl) pa_nil))) (pe_and (pe_callB (c_isiK K) (by rfl) m_isinstance (by decide +kernel) (pa_cons (pv 0) (pa_cons (pe_bltn (v := .ty "bool") (by rfl) m_bool (by decide +kernel) rfl) pa_nil))) (pe_one (pe_cmpR op_eq (pv 0) (pv 1) (nomark _)))))))
        pss_nil)
      (pss_cons (ps_if (pt_val (pe_callB (c_isiK K) (by rfl) m_isinstance (by decide +kernel) (pa_cons (pv 1) (pa_cons (pe_bltn (v := .ty "str") (by rfl) m_str (by decide +kernel) rfl) pa_nil))))
        (pss_one (ps_ret (pe_and (pe_callB (c_isiK K) (by rfl) m_isinstance (by decide +kernel) (pa_cons (pv 0) (pa_cons (pe_bltn (v := .ty "str") (by rfl) m_str (by decide +kernel) rfl) pa_nil))) (pe_one (pe_cmpR op_eq (pv 0) (pv 1) (nomark _))))))
        pss_nil)
      (pss_one (ps_ret (pe_and (pe_callB (c_isiK K) (by rfl) m_isinstance (by decide +kernel) (pa_cons (pv 0) (pa_cons (pe_bltn (v := .ty "int") (by rfl) m_int (by decide +kernel) rfl) pa_nil))) (pe_one (pe_cmpR op_eq (pv 0) (pv 1) (nomark _)))))))))), fun J ss P h => ?_⟩)
  · obtain ⟨x, rfl, _⟩ := h
    rfl
  · obtain ⟨x, rfl, hx, hP⟩ := h
    show Sv K J [.d x, .d x, .no] _ _
    have seq : ∀ (y : Dt) (ds : List Dt) (m : Nat), (y = .lst ds ∨ y = .tup ds) → ds.length ≤ 100000 → n = m + 1 → (∀ d, d ∈ ds → Flat m d) → P (.bl true) → ∀ (k : Nat) (d : Dt) (e : List Sl),
        ((List.range ((ds.length : Int)).toNat).map fun i => Dt.int ((i : Nat) : Int))[k]? = some d → (∃ s, e = [.d y, .d y, s]) →
        ∃ q, d = .int (k : Int) ∧ ds[k]? = some q ∧ Flat m q := fun y ds m _ _ _ hf _ k d e hd _ => by
      obtain ⟨rfl, hk⟩ := range_at hd
      exact ⟨ds[k], rfl, by simp [hk], hf _ (List.getElem_mem hk)⟩
    walk_at "S"
    walk_at "S"
    cases hx with
    | non n =>
      repeat walk_at "E"
      repeat (first | walk_at "S" | walk_at "E")
      exact hP
    | bl n b =>
      repeat walk_at "E"
      repeat (first | walk_at "S" | walk_at "E")
      rw [decide_eq_true rfl]
      exact hP
    | int n b =>
      repeat walk_at "E"
      repeat (first | walk_at "S" | walk_at "E")
      rw [decide_eq_true rfl]
      exact hP
    | str n b =>
      repeat walk_at "E"
      repeat (first | walk_at "S" | walk_at "E")
      rw [decide_eq_true rfl]
      exact hP
    | lst m ds hz hf =>
      repeat (first | walk_at "S" | walk_at "E")
      refine bc_f (by simp) ?_
      repeat (first | walk_at "S" | walk_at "E")
      refine sv_for [2] (ei_range (ed_cons (ev_cb (ed_cons (ev_var rfl (ed_nil (oc_lenL (ed_nil ⟨_, rfl, by omega, by omega, fun k e => ∃ s, e = [.d (.lst ds), .d (.lst ds), s], ⟨_, rfl⟩, ?_, ?_⟩))))))))
      · rintro k d e hd ⟨s, rfl⟩
        obtain ⟨q, rfl, hq, hfq⟩ := seq (.lst ds) ds m (.inl rfl) hz rfl hf hP k d _ hd ⟨s, rfl⟩
        refine gt_name (by decide) ?_
        repeat (first | walk_at "S" | walk_at "E")
        refine o2_ixL (atD_nat hq) ?_
        repeat (first | walk_at "S" | walk_at "E")
        refine o2_ixL (atD_nat hq) ?_
        repeat (first | walk_at "S" | walk_at "E")
        refine ⟨q, rfl, hfq, _, rfl, ?_⟩
        repeat (first | walk_at "S" | walk_at "E")
        exact ⟨_, rfl⟩
      · rintro e ⟨s, rfl⟩
        repeat (first | walk_at "S" | walk_at "E")
        exact hP
    | tup m ds hz hf =>
      repeat (first | walk_at "S" | walk_at "E")
      refine bc_f (by simp) ?_
      repeat (first | walk_at "S" | walk_at "E")
      refine sv_for [2] (ei_range (ed_cons (ev_cb (ed_cons (ev_var rfl (ed_nil (oc_lenT (ed_nil ⟨_, rfl, by omega, by omega, fun k e => ∃ s, e = [.d (.tup ds), .d (.tup ds), s], ⟨_, rfl⟩, ?_, ?_⟩))))))))
      · rintro k d e hd ⟨s, rfl⟩
        obtain ⟨q, rfl, hq, hfq⟩ := seq (.tup ds) ds m (.inr rfl) hz rfl hf hP k d _ hd ⟨s, rfl⟩
        refine gt_name (by decide) ?_
        repeat (first | walk_at "S" | walk_at "E")
        refine o2_ixT (atD_nat hq) ?_
        repeat (first | walk_at "S" | walk_at "E")
        refine o2_ixT (atD_nat hq) ?_
        repeat (first | walk_at "S" | walk_at "E")
        refine ⟨q, rfl, hfq, _, rfl, ?_⟩
        repeat (first | walk_at "S" | walk_at "E")
        exact ⟨_, rfl⟩
      · rintro e ⟨s, rfl⟩
        repeat (first | walk_at "S" | walk_at "E")
        exact hP
theorem ok__law_within {P : Program} {w : World} {K : PySem.W.Frag} {mg : Str → Option Value} {base : Heap} {f : Addr} {fd : FuncData} (F : L2.Fun K "_law_within" "_law_within" s__law_within f fd)
    {C_InvalidCluster fI_InvalidCluster : Addr} {fd_InvalidCluster : FuncData} (e_InvalidCluster : Exk P w K mg base "InvalidCluster" ["self", "part", "place"] ["part", "place"] C_InvalidCluster fI_InvalidCluster fd_InvalidCluster)
    {C_InvalidWishes fI_InvalidWishes : Addr} {fd_InvalidWishes : FuncData} (e_InvalidWishes : Exk P w K mg base "InvalidWishes" ["self", "value"] ["value"] C_InvalidWishes fI_InvalidWishes fd_InvalidWishes)
    {C_InvalidLot fI_InvalidLot : Addr} {fd_InvalidLot : FuncData} (e_InvalidLot : Exk P w K mg base "InvalidLot" ["self", "value"] ["value"] C_InvalidLot fI_InvalidLot fd_InvalidLot)
    {C_Cluster : Addr} (i_Cluster : Ins K C_Cluster ["racks", "rooms", "rates", "store_count"])
    (m_isinstance : mg "isinstance" = none)
    (m_bool : mg "bool" = none)
    (m_int : mg "int" = none) :
    FnOk P w K mg base CX0 (1) f fd P__law_within (Ct K W_lwithin) := by
  refine ok_ct F sc__law_within (fun ss P h => ?_) (fun cdv A outer s H E hr => ⟨_, (pss_one (ps_ret (pe_and (pe_callB (c_isiK K) (by rfl) m_isinstance (by decide +kernel) (pa_cons (pv 0) (pa_cons (pe_bltn (v := .ty "int") (by rfl) m_int (by decide +kernel) rfl) pa_nil))) (pe_and (pe_not (pe_callB (c_isiK K) (by rfl) m_isinstance (by decide +kernel) (pa_cons (pv 0) (pa_cons (pe_bltn (v := .ty "bool") (by rfl) m_bool (by decide +kernel) rfl) pa_nil)))) (pe_and (pe_cmpR op_ge (pv 0) (pv 1) (nomark _)) (pe_one (pe_cmpR op_le (pv 0) (pv 2) (nomark _)))))))), fun J ss P h => ?_⟩)
  · obtain ⟨x, a, b, rfl, _⟩ := h
    rfl
  · obtain ⟨x, a, b, rfl, hx, hP⟩ := h
    show Sv K J [.d x, .d (.int a), .d (.int b)] _ _
    walk_at "S"
    cases x <;> first | exact absurd hx Bool.false_ne_true | skip
    case int i =>
      repeat walk_at "E"
      refine ⟨fun hb => ?_, fun hb => ?_⟩
      · repeat walk_at "E"
        have : inB (.int i) a b = decide (i ≤ b) := by
          show (decide (a ≤ i) && decide (i ≤ b)) = _
          rw [hb]; rfl
        rw [this] at hP
        exact hP
      · have : inB (.int i) a b = false := by
          show (decide (a ≤ i) && decide (i ≤ b)) = _
          rw [hb]; rfl
        rw [this] at hP
        exact hP
    all_goals
      repeat walk_at "E"
      exact hP
theorem ok__law_cluster {P : Program} {w : World} {K : PySem.W.Frag} {mg : Str → Option Value} {base : Heap} {f : Addr} {fd : FuncData} (F : L2.Fun K "_law_cluster" "_law_cluster" s__law_cluster f fd)
    {C_InvalidCluster fI_InvalidCluster : Addr} {fd_InvalidCluster : FuncData} (e_InvalidCluster : Exk P w K mg base "InvalidCluster" ["self", "part", "place"] ["part", "place"] C_InvalidCluster fI_InvalidCluster fd_InvalidCluster)
    {C_InvalidWishes fI_InvalidWishes : Addr} {fd_InvalidWishes : FuncData} (e_InvalidWishes : Exk P w K mg base "InvalidWishes" ["self", "value"] ["value"] C_InvalidWishes fI_InvalidWishes fd_InvalidWishes)
    {C_InvalidLot fI_InvalidLot : Addr} {fd_InvalidLot : FuncData} (e_InvalidLot : Exk P w K mg base "InvalidLot" ["self", "value"] ["value"] C_InvalidLot fI_InvalidLot fd_InvalidLot)
    {C_Cluster : Addr} (i_Cluster : Ins K C_Cluster ["racks", "rooms", "rates", "store_count"])
    (m_tuple : mg "tuple" = none)
    (m_range : mg "range" = none)
    (c__law_take : Cal P w K mg base 2 "_law_take" P__law_take (Ct K W_take)) :
    FnOk P w K mg base CX0 (3) f fd P__law_cluster (Ct K W_lcluster) := by
  refine ok_ct F sc__law_cluster (fun ss P h => ?_) (fun cdv A outer s H E hr => ⟨_, (pss_cons (ps_set (i := 2) sc__law_cluster.nd rfl (by first | exact Or.inl rfl | exact Or.inr rfl) (pe_op op_add pe_int (pe_callC c__law_take hr (by rfl) (pa_cons (pv 0) (pa_cons (pv 1) pa_nil)))))
      (pss_cons (ps_set (i := 3) sc__law_cluster.nd rfl (by first | exact Or.inl rfl | exact Or.inr rfl) (pe_callTy (c_tupK K) (by rfl) m_tuple (by decide +kernel) (pa_cons (pe_lc (own := [("v", 5)]) rfl sc__law_cluster.nd (pi_range1 (by rfl) m_range (pa_cons (pv 2) pa_nil)) (blkOk_by (N := N__law_cluster) (sc := defScope s__law_cluster) (by decide +kernel)) (fun _ _ _ _ _ => (pg_name (i := 5) sc__law_cluster.nd rfl (by first | exact Or.inl rfl | exact Or.inr rfl))) (fun _ _ _ _ _ => pts_nil) (fun _ _ _ _ _ => (pe_ix (ix_seqK K) (pe_lst (pa_cons pe_int (pa_cons pe_int (pa_cons pe_int (pa_cons pe_int (pa_cons pe_int (pa_cons pe_int pa_nil))))))) (pe_callC c__law_take hr (by rfl) (pa_cons (pv 0) (pa_cons pe_int pa_nil))) (fun _ _ => rfl)))) pa_nil)))
      (pss_cons (ps_set (i := 4) sc__law_cluster.nd rfl (by first | exact Or.inl rfl | exact Or.inr rfl) (pe_callTy (c_tupK K) (by rfl) m_tuple (by decide +kernel) (pa_cons (pe_lc (own := [("v", 5)]) rfl sc__law_cluster.nd (pi_range1 (by rfl) m_range (pa_cons (pv 2) pa_nil)) (blkOk_by (N := N__law_cluster) (sc := defScope s__law_cluster) (by decide +kernel)) (fun _ _ _ _ _ => (pg_name (i := 5) sc__law_cluster.nd rfl (by first | exact Or.inl rfl | exact Or.inr rfl))) (fun _ _ _ _ _ => pts_nil) (fun _ _ _ _ _ => (pe_ix (ix_seqK K) (pe_lst (pa_cons pe_int (pa_cons pe_int (pa_cons pe_int (pa_cons pe_int (pa_cons pe_int (pa_cons pe_int (pa_cons pe_int (pa_cons pe_int pa_nil))))))))) (pe_callC c__law_take hr (by rfl) (pa_cons (pv 0) (pa_cons pe_int pa_nil))) (fun _ _ => rfl)))) pa_nil)))
      (pss_one (ps_ret (pe_tup (pa_cons (pv 3) (pa_cons (pv 4) (pa_cons (pe_callTy (c_tupK K) (by rfl) m_tuple (by decide +kernel) (pa_cons (pe_lc (own := [("v", 5)]) rfl sc__law_cluster.nd (pi_range1 (by rfl) m_range (pa_cons (pv 2) pa_nil)) (blkOk_by (N := N__law_cluster) (sc := defScope s__law_cluster) (by decide +kernel)) (fun _ _ _ _ _ => (pg_name (i := 5) sc__law_cluster.nd rfl (by first | exact Or.inl rfl | exact Or.inr rfl))) (fun _ _ _ _ _ => pts_nil) (fun _ _ _ _ _ => (pe_op op_add pe_int (pe_callC c__law_take hr (by rfl) (pa_cons (pv 0) (pa_cons pe_int pa_nil)))))) pa_nil)) pa_nil))))))))), fun J ss P h => ?_⟩)
  · obtain ⟨m, rfl, _⟩ := h
    rfl
  · obtain ⟨m, rfl, h0, hm, hP⟩ := h
    show Sv K J [.hand, .d (.int (m : Int)), .no, .no, .no, .no] _ _
    walk_at "S"
    walk_at "S"
    repeat walk_at "E"
    refine ⟨_, rfl, by omega, fun x hx0 hx => ?_⟩
    obtain ⟨n, rfl⟩ : ∃ n : Nat, x = (n : Int) := ⟨x.toNat, by omega⟩
    repeat walk_at "E"
    rw [show (1 + (n : Int)) = ((n + 1 : Nat) : Int) by omega]
    have nat : ∀ (ks : List Dt), (∀ y ∈ ks, ∃ v : Nat, y = .int (v : Int) ∧ v ≤ 99) → ∀ k : Int, 0 ≤ k → k < (ks.length : Int) → ∃ d, atD ks k = some d ∧ ∃ v : Nat, d = .int (v : Int) ∧ v ≤ 99 := fun ks h k h0 h1 => pick h h0 h1
    walk_at "S"
    refine sv_asg (ev_cb (ed_cons (Em.ev (em_all (fun y => ∃ v : Nat, y = .int (v : Int) ∧ v ≤ 99) (ei_range (ed_cons (ev_var rfl (ed_nil ⟨_, rfl, by omega, by omega, by simp; omega, fun d _ => gt_name (by decide) ?_, ?_⟩))))))))
    · repeat walk_at "E"
      refine ⟨6, rfl, by decide, fun k hk0 hk => ?_⟩
      exact o2_pickB (inB · 0 99) rfl hk0 hk fun y hy => inB_nat hy
    · intro ys hl hy
      obtain ⟨ra, rfl, hra⟩ := nats_of hy
      rw [List.length_map, List.length_range, Int.toNat_natCast, natsD_length] at hl
      refine ed_nil (oc_tupL ?_)
      walk_at "S"
      refine sv_asg (ev_cb (ed_cons (Em.ev (em_all (fun y => ∃ v : Nat, y = .int (v : Int) ∧ v ≤ 99) (ei_range (ed_cons (ev_var rfl (ed_nil ⟨_, rfl, by omega, by omega, by simp; omega, fun d _ => gt_name (by decide) ?_, ?_⟩))))))))
      · repeat walk_at "E"
        refine ⟨8, rfl, by decide, fun k hk0 hk => ?_⟩
        exact o2_pickB (inB · 0 99) rfl hk0 hk fun y hy => inB_nat hy
      · intro ys hl2 hy2
        obtain ⟨ro, rfl, hro⟩ := nats_of hy2
        rw [List.length_map, List.length_range, Int.toNat_natCast, natsD_length] at hl2
        refine ed_nil (oc_tupL ?_)
        refine sv_ret (ev_tup (ed_cons (ev_var rfl (ed_cons (ev_var rfl (ed_cons (ev_cb (ed_cons (Em.ev (em_all (fun y => ∃ v : Nat, y = .int (v : Int) ∧ 1 ≤ v ∧ v ≤ 8) (ei_range (ed_cons (ev_var rfl (ed_nil ⟨_, rfl, by omega, by omega, by simp; omega, fun d _ => gt_name (by decide) ?_, ?_⟩))))))))))))))
        · repeat walk_at "E"
          refine ⟨8, rfl, by decide, fun k hk0 hk => ?_⟩
          repeat walk_at "E"
          exact ⟨(1 + k).toNat, by rw [show (((1 + k).toNat : Nat) : Int) = 1 + k by omega], by omega, by omega⟩
        · intro ys hl3 hy3
          obtain ⟨rt, rfl, hrt⟩ := nats_of hy3
          rw [List.length_map, List.length_range, Int.toNat_natCast, natsD_length] at hl3
          exact ed_nil (oc_tupL (ed_nil ⟨Nat.le_of_ble_eq_true rfl, hP ra ro rt (by omega) (by omega) (by omega) (by omega) hra hro hrt⟩))
theorem ok__law_wishes {P : Program} {w : World} {K : PySem.W.Frag} {mg : Str → Option Value} {base : Heap} {f : Addr} {fd : FuncData} (F : L2.Fun K "_law_wishes" "_law_wishes" s__law_wishes f fd)
    {C_InvalidCluster fI_InvalidCluster : Addr} {fd_InvalidCluster : FuncData} (e_InvalidCluster : Exk P w K mg base "InvalidCluster" ["self", "part", "place"] ["part", "place"] C_InvalidCluster fI_InvalidCluster fd_InvalidCluster)
    {C_InvalidWishes fI_InvalidWishes : Addr} {fd_InvalidWishes : FuncData} (e_InvalidWishes : Exk P w K mg base "InvalidWishes" ["self", "value"] ["value"] C_InvalidWishes fI_InvalidWishes fd_InvalidWishes)
    {C_InvalidLot fI_InvalidLot : Addr} {fd_InvalidLot : FuncData} (e_InvalidLot : Exk P w K mg base "InvalidLot" ["self", "value"] ["value"] C_InvalidLot fI_InvalidLot fd_InvalidLot)
    {C_Cluster : Addr} (i_Cluster : Ins K C_Cluster ["racks", "rooms", "rates", "store_count"])
    (m_tuple : mg "tuple" = none)
    (m_range : mg "range" = none)
    (c__law_take : Cal P w K mg base 2 "_law_take" P__law_take (Ct K W_take)) :
    FnOk P w K mg base CX0 (3) f fd P__law_wishes (Ct K W_lwishes) := by
  refine ok_ct F sc__law_wishes (fun ss P h => ?_) (fun cdv A outer s H E hr => ⟨_, (pss_one (ps_ret (pe_callTy (c_tupK K) (by rfl) m_tuple (by decide +kernel) (pa_cons (pe_lc (own := [("p", 2)]) rfl sc__law_wishes.nd (pi_range1 (by rfl) m_range (pa_cons (pv 1) pa_nil)) (blkOk_by (N := N__law_wishes) (sc := defScope s__law_wishes) (by decide +kernel)) (fun _ _ _ _ _ => (pg_name (i := 2) sc__law_wishes.nd rfl (by first | exact Or.inl rfl | exact Or.inr rfl))) (fun _ _ _ _ _ => pts_nil) (fun _ _ _ _ _ => (pe_op op_add pe_int (pe_callC c__law_take hr (by rfl) (pa_cons (pv 0) (pa_cons (pe_ix (ix_seqK K) (pe_lst (pa_cons pe_int (pa_cons pe_int pa_nil))) (pe_callC c__law_take hr (by rfl) (pa_cons (pv 0) (pa_cons pe_int pa_nil))) (fun _ _ => rfl)) pa_nil)))))) pa_nil)))), fun J ss P h => ?_⟩)
  · obtain ⟨m, rfl, _⟩ := h
    rfl
  · obtain ⟨m, rfl, hm, hP⟩ := h
    show Sv K J [.hand, .d (.int (m : Int)), .no] _ _
    refine sv_ret (ev_cb (ed_cons (Em.ev (em_all (fun y => ∃ v : Nat, y = .int (v : Int) ∧ 1 ≤ v ∧ v ≤ 3) (ei_range (ed_cons (ev_var rfl (ed_nil ⟨_, rfl, by omega, by omega, by simp; omega, fun d _ => gt_name (by decide) ?_, ?_⟩))))))))
    · repeat walk_at "E"
      refine ⟨2, rfl, by decide, fun k hk0 hk => ?_⟩
      refine o2_pickB (inB · 2 3) rfl hk0 hk fun y hy => ?_
      obtain ⟨v, rfl, hv⟩ := intD_of (d := y) (by cases y <;> first | rfl | exact absurd hy Bool.false_ne_true)
      have hv' : (decide (2 ≤ v) && decide (v ≤ 3)) = true := hy
      rw [Bool.and_eq_true, decide_eq_true_eq, decide_eq_true_eq] at hv'
      repeat walk_at "E"
      refine ⟨v, rfl, by omega, fun z hz0 hz => ?_⟩
      repeat walk_at "E"
      exact ⟨(1 + z).toNat, by rw [show (((1 + z).toNat : Nat) : Int) = 1 + z by omega], by omega, by omega⟩
    · intro ys hl hy
      obtain ⟨l, rfl, hra⟩ := nats_of hy
      rw [List.length_map, List.length_range, Int.toNat_natCast, natsD_length] at hl
      exact ed_nil (oc_tupL (hP l hl hra))
theorem ok__law_is_lot {P : Program} {w : World} {K : PySem.W.Frag} {mg : Str → Option Value} {base : Heap} {f : Addr} {fd : FuncData} (F : L2.Fun K "_law_is_lot" "_law_is_lot" s__law_is_lot f fd)
    {C_InvalidCluster fI_InvalidCluster : Addr} {fd_InvalidCluster : FuncData} (e_InvalidCluster : Exk P w K mg base "InvalidCluster" ["self", "part", "place"] ["part", "place"] C_InvalidCluster fI_InvalidCluster fd_InvalidCluster)
    {C_InvalidWishes fI_InvalidWishes : Addr} {fd_InvalidWishes : FuncData} (e_InvalidWishes : Exk P w K mg base "InvalidWishes" ["self", "value"] ["value"] C_InvalidWishes fI_InvalidWishes fd_InvalidWishes)
    {C_InvalidLot fI_InvalidLot : Addr} {fd_InvalidLot : FuncData} (e_InvalidLot : Exk P w K mg base "InvalidLot" ["self", "value"] ["value"] C_InvalidLot fI_InvalidLot fd_InvalidLot)
    {C_Cluster : Addr} (i_Cluster : Ins K C_Cluster ["racks", "rooms", "rates", "store_count"])
    (m_isinstance : mg "isinstance" = none)
    (m_tuple : mg "tuple" = none)
    (m_range : mg "range" = none)
    (m_len : mg "len" = none)
    (c__law_within : Cal P w K mg base 1 "_law_within" P__law_within (Ct K W_lwithin)) :
    FnOk P w K mg base CX0 (2) f fd P__law_is_lot (Ct K W_lislot) := by
  refine ok_ct F sc__law_is_lot (fun ss P h => ?_) (fun cdv A outer s H E hr => ⟨_, (pss_cons (ps_if (pt_not (pt_val (pe_callB (c_isiK K) (by rfl) m_isinstance (by decide +kernel) (pa_cons (pv 0) (pa_cons (pe_bltn (v := .ty "tuple") (by rfl) m_tuple (by decide +kernel) rfl) pa_nil)))))
        (pss_one (ps_ret pe_bl))
        pss_nil)
      (pss_cons (ps_for PassesOwn.never rfl (pi_range1 (by rfl) m_range (pa_cons (pe_callB (c_lenK K) (by rfl) m_len PySem.boot_len (pa_cons (pv 0) pa_nil)) pa_nil)) (pg_name (i := 2) sc__law_is_lot.nd rfl (by first | exact Or.inl rfl | exact Or.inr rfl))
        (pss_one (ps_if (PW.pt (pw_or (pt_not (pt_val (pe_callC c__law_within hr (by rfl) (pa_cons (pe_ix (ix_seqK K) (pv 0) (pv 2) (fun _ _ => rfl)) (pa_cons pe_int (pa_cons (pe_op op_sub (pv 1) pe_int) pa_nil)))))) (pw_or1 (PW.pt (pw_and (pt_cmpR op_gt (pv 2) pe_int (nomark _)) (pw_and1 (pt_cmpR op_ge (pe_ix (ix_seqK K) (pv 0) (pe_op op_sub (pv 2) pe_int) (fun _ _ => rfl)) (pe_ix (ix_seqK K) (pv 0) (pv 2) (fun _ _ => rfl)) (nomark _))))))))
        (pss_one (ps_ret pe_bl))
        pss_nil)))
      (pss_one (ps_ret pe_bl)))), fun J ss P h => ?_⟩)
  · obtain ⟨x, n, rfl, _⟩ := h
    rfl
  · obtain ⟨x, n, rfl, hpx, hP⟩ := h
    have hx := hpx.no
    show Sv K J [.d x, .d (.int n), .no] _ _
    walk_at "S"
    walk_at "S"
    repeat walk_at "E"
    refine ⟨hx, ?_⟩
    repeat walk_at "E"
    cases x
    case tup ds =>
      refine bc_f rfl ?_
      repeat walk_at "S"
      refine sv_for [2] (ei_range (ed_cons (ev_cb (ed_cons (ev_var rfl (ed_nil (oc_lenT (ed_nil ⟨_, rfl, by omega, by have := hpx.tup.1; omega,
        fun k e => ∃ s2 a, e = [.d (.tup ds), .d (.int n), s2] ∧ risesB n 0 ds = risesB n a (ds.drop k) ∧ (k = 0 ∧ a = 0 ∨ ∃ j i, k = j + 1 ∧ ds[j]? = some (.int i) ∧ a = i + 1 ∧ 0 ≤ i), ⟨.no, 0, rfl, rfl, .inl ⟨rfl, rfl⟩⟩, ?_, ?_⟩))))))))
      · rintro k d e hd ⟨s2, a, rfl, ha, hk⟩
        obtain ⟨rfl, hkl⟩ := range_at hd
        have hy : ds[k]? = some ds[k] := by simp [hkl]
        generalize ds[k] = y at hy
        rw [drop_at hy] at ha
        have ha0 : 0 ≤ a := by rcases hk with ⟨_, h⟩ | ⟨j, i, _, _, h, h2⟩ <;> omega
        have no : inB y a (n - 1) = false → lotB n (.tup ds) = false := fun h => by
          rw [rises_no h] at ha
          exact ha
        refine gt_name (by decide) (sv_if ?_)
        repeat walk_at "E"
        refine o2_ixT (atD_nat hy) ?_
        repeat walk_at "E"
        refine ⟨_, _, _, rfl, (hpx.tup.2 y (List.mem_of_getElem? hy)).no, _, rfl, fun hb => ?_, fun hb => ?_⟩
        · refine bc_t rfl ?_
          walk_at "S"
          repeat walk_at "E"
          rw [no (inB_le ha0 (by simpa using hb))] at hP
          exact hP
        · obtain ⟨i, rfl, hi0, hi1⟩ := inB_of (by simpa using hb)
          have yes : a ≤ i → ∃ a', risesB n 0 ds = risesB n a' (ds.drop (k + 1)) ∧ (k + 1 = 0 ∧ a' = 0 ∨ ∃ j i, k + 1 = j + 1 ∧ ds[j]? = some (.int i) ∧ a' = i + 1 ∧ 0 ≤ i) := fun hai => by
            obtain ⟨i', e, h2⟩ := rises_yes (r := ds.drop (k + 1)) (inB_int.mpr ⟨hai, hi1⟩)
            cases e
            exact ⟨i + 1, ha.trans h2, .inr ⟨k, i, rfl, hy, rfl, hi0⟩⟩
          repeat walk_at "E"
          refine ⟨fun hk0 => ?_, fun hk0 => ?_⟩
          · have hk0 := of_decide_eq_true hk0
            rcases hk with ⟨h, _⟩ | ⟨j, i', rfl, hj, rfl, hi'⟩
            · omega
            · repeat walk_at "E"
              rw [show (((j + 1 : Nat) : Int) - 1) = (j : Int) by omega]
              refine o2_ixT (atD_nat hj) ?_
              repeat walk_at "E"
              refine o2_ixT (atD_nat hy) ?_
              repeat walk_at "E"
              refine ⟨fun hc => ?_, fun hc => ?_⟩
              · have hc := of_decide_eq_true hc
                walk_at "S"
                repeat walk_at "E"
                rw [no (by
                  cases z : inB (.int i) (i' + 1) (n - 1) with
                  | false => rfl
                  | true => have := inB_int.mp z; omega)] at hP
                exact hP
              · have hc := of_decide_eq_false hc
                obtain ⟨a', h2, h3⟩ := yes (by omega)
                exact sv_next ⟨_, a', rfl, h2, h3⟩
          · have hk0 := of_decide_eq_false hk0
            refine bc_f rfl ?_
            rcases hk with ⟨_, rfl⟩ | ⟨j, i', rfl, hj, rfl, hi'⟩
            · obtain ⟨a', h2, h3⟩ := yes hi0
              exact sv_next ⟨_, a', rfl, h2, h3⟩
            · omega
      · rintro e ⟨s2, a, rfl, ha, _⟩
        walk_at "S"
        repeat walk_at "E"
        rw [List.length_map, List.length_range, Int.toNat_natCast, List.drop_length] at ha
        have : lotB n (.tup ds) = true := ha
        rw [this] at hP
        exact hP
    all_goals first | exact absurd hx Bool.false_ne_true | skip
    all_goals
      repeat walk_at "E"
      walk_at "S"
      repeat walk_at "E"
      exact hP
theorem ok__law_wrong_wishes {P : Program} {w : World} {K : PySem.W.Frag} {mg : Str → Option Value} {base : Heap} {f : Addr} {fd : FuncData} (F : L2.Fun K "_law_wrong_wishes" "_law_wrong_wishes" s__law_wrong_wishes f fd)
    {C_InvalidCluster fI_InvalidCluster : Addr} {fd_InvalidCluster : FuncData} (e_InvalidCluster : Exk P w K mg base "InvalidCluster" ["self", "part", "place"] ["part", "place"] C_InvalidCluster fI_InvalidCluster fd_InvalidCluster)
    {C_InvalidWishes fI_InvalidWishes : Addr} {fd_InvalidWishes : FuncData} (e_InvalidWishes : Exk P w K mg base "InvalidWishes" ["self", "value"] ["value"] C_InvalidWishes fI_InvalidWishes fd_InvalidWishes)
    {C_InvalidLot fI_InvalidLot : Addr} {fd_InvalidLot : FuncData} (e_InvalidLot : Exk P w K mg base "InvalidLot" ["self", "value"] ["value"] C_InvalidLot fI_InvalidLot fd_InvalidLot)
    {C_Cluster : Addr} (i_Cluster : Ins K C_Cluster ["racks", "rooms", "rates", "store_count"])
    (m_len : mg "len" = none)
    (m_list : mg "list" = none)
    (c__law_take : Cal P w K mg base 1 "_law_take" P__law_take (Ct K W_take)) :
    FnOk P w K mg base CX0 (2) f fd P__law_wrong_wishes (Ct K W_wrwishes) := by
  refine ok_ct F sc__law_wrong_wishes (fun ss P h => ?_) (fun cdv A outer s H E hr => ⟨_, (pss_cons (ps_set (i := 1) sc__law_wrong_wishes.nd rfl (by first | exact Or.inl rfl | exact Or.inr rfl) (pe_op (op_catAK K) (pv 1) (pe_tup (pa_cons pe_int pa_nil))))
      (pss_cons (ps_set (i := 2) sc__law_wrong_wishes.nd rfl (by first | exact Or.inl rfl | exact Or.inr rfl) (pe_callC c__law_take hr (by rfl) (pa_cons (pv 0) (pa_cons (pe_callB (c_lenK K) (by rfl) m_len PySem.boot_len (pa_cons (pv 1) pa_nil)) pa_nil))))
      (pss_cons (ps_set (i := 3) sc__law_wrong_wishes.nd rfl (by first | exact Or.inl rfl | exact Or.inr rfl) (pe_ix (ix_seqK K) (pe_lst (pa_cons pe_int (pa_cons pe_int (pa_cons (pe_un un_neg pe_int) (pa_cons pe_bl (pa_cons pe_non (pa_cons pe_str (pa_cons (pe_tup (pa_cons pe_int pa_nil)) pa_nil)))))))) (pe_callC c__law_take hr (by rfl) (pa_cons (pv 0) (pa_cons pe_int pa_nil))) (fun _ _ => rfl)))
      (pss_one (ps_ret (pe_ix (ix_seqK K) (pe_lst (pa_cons (pe_op (op_catAK K) (pe_op (op_catAK K) (pe_slice (sl_tupAK K) (pv 1) po_none (po_some (pv 2))) (pe_tup (pa_cons (pv 3) pa_nil))) (pe_slice (sl_tupAK K) (pv 1) (po_some (pe_op op_add (pv 2) pe_int)) po_none)) (pa_cons (pe_callTy (c_lstK K) (by rfl) m_list (by decide +kernel) (pa_cons (pv 1) pa_nil)) (pa_cons pe_non (pa_cons pe_int (pa_cons pe_str (pa_cons (pe_tup (pa_cons pe_bl pa_nil)) pa_nil))))))) (pe_callC c__law_take hr (by rfl) (pa_cons (pv 0) (pa_cons pe_int pa_nil))) (fun _ _ => rfl))))))), fun J ss P h => ?_⟩)
  · obtain ⟨l, rfl, _⟩ := h
    rfl
  · obtain ⟨l, rfl, hl, hw, hP⟩ := h
    show Sv K J [.hand, .d (lotD l), .no, .no] _ _
    walk_at "S"
    walk_at "S"
    repeat walk_at "E"
    refine o2_cat (by rw [natsD_length]; simp; omega) ?_
    have e1 : natsD l ++ [.int 1] = natsD (l ++ [1]) := by unfold natsD; rw [List.map_append]; rfl
    rw [e1]
    have hl1 : (l ++ [1]).length = l.length + 1 := by simp
    generalize l ++ [1] = nl at hl1
    walk_at "S"
    walk_at "S"
    repeat walk_at "E"
    refine ⟨_, rfl, by rw [natsD_length]; omega, fun x hx0 hx => ?_⟩
    rw [natsD_length] at hx
    obtain ⟨a, rfl⟩ : ∃ a : Nat, x = (a : Int) := ⟨x.toNat, by omega⟩
    walk_at "S"
    walk_at "S"
    repeat walk_at "E"
    refine ⟨7, rfl, by decide, fun x hx0 hx => ?_⟩
    refine o2_pickB (fun d => flatB 1 d && !inB d 1 3) rfl hx0 hx fun part hpart => ?_
    rw [Bool.and_eq_true, Bool.not_eq_true'] at hpart
    walk_at "S"
    repeat walk_at "E"
    rw [cut_to]
    refine o2_cat (by rw [List.length_take, natsD_length]; simp; omega) ?_
    repeat walk_at "E"
    rw [show ((a : Int) + 1) = ((a + 1 : Nat) : Int) by omega, cut_from]
    refine o2_cat (by have := @bent_len (natsD nl) a part; unfold bentD at this; rw [List.length_append, natsD_length] at this; omega) ?_
    refine ed_cons (Em.ev (em_list (ev_var rfl ⟨_, .inr rfl, ?_⟩)))
    repeat walk_at "E"
    refine ⟨6, rfl, by decide, fun x hx0 hx => ?_⟩
    have hpart1 : Flat 1 part := flat_of_B hpart.1
    refine o2_pickP (fun y => Flat 3 y ∧ wishB y = false) ?_ hx0 hx fun y hy => hP y hy.1 hy.2
    intro y hy
    simp only [List.mem_cons, List.not_mem_nil, or_false] at hy
    rcases hy with rfl | rfl | rfl | rfl | rfl | rfl
    · refine ⟨.tup 2 _ (by have := @bent_len (natsD nl) a part; rw [natsD_length] at this; exact Nat.le_trans this (by omega)) fun d hd => ?_, bent_all (xs := natsD nl) (a := a) (f := fun d => inB d 1 3) hpart.2⟩
      rcases bent_mem hd with h | rfl
      · exact flat_int d h
      · exact hpart1.up
    · exact ⟨.lst 2 _ (by rw [natsD_length]; omega) flat_int, rfl⟩
    · exact ⟨.non _, rfl⟩
    · exact ⟨.int _ _, rfl⟩
    · exact ⟨.str _ _, rfl⟩
    · exact ⟨flat_of_B rfl, rfl⟩
theorem ok__law_lots {P : Program} {w : World} {K : PySem.W.Frag} {mg : Str → Option Value} {base : Heap} {f : Addr} {fd : FuncData} (F : L2.Fun K "_law_lots" "_law_lots" s__law_lots f fd)
    {C_InvalidCluster fI_InvalidCluster : Addr} {fd_InvalidCluster : FuncData} (e_InvalidCluster : Exk P w K mg base "InvalidCluster" ["self", "part", "place"] ["part", "place"] C_InvalidCluster fI_InvalidCluster fd_InvalidCluster)
    {C_InvalidWishes fI_InvalidWishes : Addr} {fd_InvalidWishes : FuncData} (e_InvalidWishes : Exk P w K mg base "InvalidWishes" ["self", "value"] ["value"] C_InvalidWishes fI_InvalidWishes fd_InvalidWishes)
    {C_InvalidLot fI_InvalidLot : Addr} {fd_InvalidLot : FuncData} (e_InvalidLot : Exk P w K mg base "InvalidLot" ["self", "value"] ["value"] C_InvalidLot fI_InvalidLot fd_InvalidLot)
    {C_Cluster : Addr} (i_Cluster : Ins K C_Cluster ["racks", "rooms", "rates", "store_count"])
    (m_range : mg "range" = none)
    (m_int : mg "int" = none) :
    FnOk P w K mg base CX0 (1) f fd P__law_lots (CtM K W_lots) := by
  refine ok_ctm F sc__law_lots (fun ss P h => ?_) (fun cdv A outer s H E hr => ⟨_, (pss_cons (ps_set (i := 1) sc__law_lots.nd rfl (by first | exact Or.inl rfl | exact Or.inr rfl) (pe_lst (pa_cons (pe_tup pa_nil) pa_nil)))
      (pss_cons (ps_for PassesOwn.never rfl (pi_range1 (by rfl) m_range (pa_cons (pv 0) pa_nil)) (pg_name (i := 2) sc__law_lots.nd rfl (by first | exact Or.inl rfl | exact Or.inr rfl))
        (pss_one (ps_set (i := 1) sc__law_lots.nd rfl (by first | exact Or.inl rfl | exact Or.inr rfl) (pe_op op_cat (pv 1) (pe_lc (own := [("lot", 3)]) rfl sc__law_lots.nd (pi_seqK K (pv 1)) (blkOk_by (N := N__law_lots) (sc := defScope s__law_lots) (by decide +kernel)) (fun _ _ _ _ _ => (pg_name (i := 3) sc__law_lots.nd rfl (by first | exact Or.inl rfl | exact Or.inr rfl))) (fun _ _ _ _ _ => pts_nil) (fun _ _ _ _ _ => (pe_op (op_catAK K) (pv 3) (pe_tup (pa_cons (pe_callTy c_int (by rfl) m_int (by decide +kernel) (pa_cons (pv 2) pa_nil)) pa_nil)))))))))
      (pss_one (ps_ret (pv 1))))), fun J ss P h => ?_⟩)
  · obtain ⟨n, rfl, _⟩ := h
    rfl
  · obtain ⟨n, rfl, hn, hP⟩ := h
    show Sv K J [.d (.int (n : Int)), .no, .no, .no] _ _
    refine sv_seq (sv_asgM (em_lst ?_))
    repeat walk_at "E"
    refine sv_seq (sv_for [2] (ei_range (ed_cons (ev_var rfl (ed_nil ⟨_, rfl, by omega, by omega, fun k e => ∃ s2 s3, e = [.d (.int (n : Int)), .ml ((lotsTo k).map lotD), s2, s3], ⟨_, _, rfl⟩, ?_, ?_⟩)))))
    · rintro k d e hd ⟨s2, s3, rfl⟩
      obtain ⟨rfl, hk⟩ := range_at hd
      have h10 : (lotsTo k).length ≤ 1024 := by rw [lotsTo_len]; exact Nat.le_trans (Nat.pow_le_pow_right (by decide) (show k ≤ 10 by omega)) (by decide)
      refine gt_name (by decide) (sv_asgM (em_cat (el_var rfl (Em.el (em_mapM (fun x => match x with | .tup xs => .tup (xs ++ [.int (k : Int)]) | _ => .non) rfl (by rw [List.length_map]; omega) (fun d hd => gt_name (by decide) ?_) ?_)))))
      · obtain ⟨l, hl, rfl⟩ := List.mem_map.mp hd
        repeat walk_at "E"
        refine o2_cat ?_ rfl
        rw [natsD_len]
        have := up_len l 0 k (lotsTo_ok hl).1 fun v hv => ⟨Nat.zero_le _, (lotsTo_ok hl).2 v hv⟩
        simp; omega
      · have e : ((lotsTo k).map lotD).map (fun x => match x with | .tup xs => .tup (xs ++ [.int (k : Int)]) | _ => .non) = ((lotsTo k).map fun l => l ++ [k]).map lotD := by
          rw [List.map_map, List.map_map]
          refine congrArg (fun f => List.map f (lotsTo k)) ?_
          funext l
          exact lot_snoc
        rw [e, ← List.map_append]
        refine ⟨by rw [List.length_map, List.length_map, List.length_map]; omega, _, _, rfl⟩
    · rintro e ⟨s2, s3, rfl⟩
      refine sv_retM rfl ?_
      rw [List.length_map, List.length_range, Int.toNat_natCast]
      exact hP
theorem ok__law_lacks {P : Program} {w : World} {K : PySem.W.Frag} {mg : Str → Option Value} {base : Heap} {f : Addr} {fd : FuncData} (F : L2.Fun K "_law_lacks" "_law_lacks" s__law_lacks f fd)
    {C_InvalidCluster fI_InvalidCluster : Addr} {fd_InvalidCluster : FuncData} (e_InvalidCluster : Exk P w K mg base "InvalidCluster" ["self", "part", "place"] ["part", "place"] C_InvalidCluster fI_InvalidCluster fd_InvalidCluster)
    {C_InvalidWishes fI_InvalidWishes : Addr} {fd_InvalidWishes : FuncData} (e_InvalidWishes : Exk P w K mg base "InvalidWishes" ["self", "value"] ["value"] C_InvalidWishes fI_InvalidWishes fd_InvalidWishes)
    {C_InvalidLot fI_InvalidLot : Addr} {fd_InvalidLot : FuncData} (e_InvalidLot : Exk P w K mg base "InvalidLot" ["self", "value"] ["value"] C_InvalidLot fI_InvalidLot fd_InvalidLot)
    {C_Cluster : Addr} (i_Cluster : Ins K C_Cluster ["racks", "rooms", "rates", "store_count"])
    (m_range : mg "range" = none)
    (m_len : mg "len" = none)
    (m_sum : mg "sum" = none)
    (m_max : mg "max" = none)
    (m_int : mg "int" = none) :
    FnOk P w K mg base CX0 (2) f fd P__law_lacks (Ct K W_lacks11) := by
  refine ok_ct F sc__law_lacks (fun ss P h => ?_) (fun cdv A outer s H E hr => ⟨_, (pss_cons (ps_set (i := 3) sc__law_lacks.nd rfl (by first | exact Or.inl rfl | exact Or.inr rfl) (pe_lst pa_nil))
      (pss_cons (ps_for PassesOwn.never rfl (pi_range1 (by rfl) m_range (pa_cons (pe_callB (c_lenK K) (by rfl) m_len PySem.boot_len (pa_cons (pe_ix (ix_seqK K) (pv 0) pe_int (fun _ _ => rfl)) pa_nil)) pa_nil)) (pg_name (i := 4) sc__law_lacks.nd rfl (by first | exact Or.inl rfl | exact Or.inr rfl))
        (pss_one (ps_if (PW.pt (pw_and (pt_cmpR (op_notInK K) (pv 4) (pv 2) (by rfl)) (pw_and1 (pt_cmpR (op_notInK K) (pe_ix (ix_seqK K) (pe_ix (ix_seqK K) (pv 0) pe_int (fun _ _ => rfl)) (pv 4) (fun _ _ => rfl)) (pv 3) (by rfl)))))
        (pss_one (ps_expr (pe_bm PySem.F.plainAttrs_list PySem.F.slot_list_append PySem.F.type_list_append mt_append (pv 3) (pa_cons (pe_ix (ix_seqK K) (pe_ix (ix_seqK K) (pv 0) pe_int (fun _ _ => rfl)) (pv 4) (fun _ _ => rfl)) pa_nil))))
        pss_nil)))
      (pss_cons (ps_set (i := 5) sc__law_lacks.nd rfl (by first | exact Or.inl rfl | exact Or.inr rfl) (pe_callB (c_sumK K) (by rfl) m_sum (by decide +kernel) (pa_cons (pe_lc (own := [("wish", 6)]) rfl sc__law_lacks.nd (pi_seqK K (pv 1)) (blkOk_by (N := N__law_lacks) (sc := defScope s__law_lacks) (by decide +kernel)) (fun _ _ _ _ _ => (pg_name (i := 6) sc__law_lacks.nd rfl (by first | exact Or.inl rfl | exact Or.inr rfl))) (fun _ _ _ _ _ => pts_nil) (fun _ _ _ _ _ => (pe_callB c_max (by rfl) m_max (by decide +kernel) (pa_cons pe_int (pa_cons (pe_op op_sub (pe_callTy c_int (by rfl) m_int (by decide +kernel) (pa_cons (pv 6) pa_nil)) (pe_callB (c_lenK K) (by rfl) m_len PySem.boot_len (pa_cons (pv 3) pa_nil))) pa_nil))))) pa_nil)))
      (pss_one (ps_ret (pe_cmpR op_gt (pv 5) (pe_callB (c_sumK K) (by rfl) m_sum (by decide +kernel) (pa_cons (pe_lc (own := [("v", 4)]) rfl sc__law_lacks.nd (pi_seqK K (pv 2)) (blkOk_by (N := N__law_lacks) (sc := defScope s__law_lacks) (by decide +kernel)) (fun _ _ _ _ _ => (pg_name (i := 4) sc__law_lacks.nd rfl (by first | exact Or.inl rfl | exact Or.inr rfl))) (fun _ _ _ _ _ => pts_nil) (fun _ _ _ _ _ => (pe_ix (ix_seqK K) (pe_ix (ix_seqK K) (pv 0) pe_int (fun _ _ => rfl)) (pv 4) (fun _ _ => rfl)))) pa_nil)) (nomark _))))))), fun J ss P h => ?_⟩)
  · obtain ⟨ra, ro, rt, ws, l, rfl, _⟩ := h
    rfl
  · obtain ⟨ra, ro, rt, ws, l, rfl, hro, hra, hwl, hll, hlt, hP⟩ := h
    show Sv K J [.d (.tup [lotD ra, lotD ro, lotD rt]), .d (lotD ws), .d (lotD l), .no, .no, .no, .no] _ _
    refine sv_toM ?_
    refine sm_seq (sm_asg (evm_lst (edm fun MV => ed_nil ⟨Nat.le_of_ble_eq_true rfl, fun q hq => ?_⟩)))
    show SvM K J (updM Mn q (.lst [])) [.d (.tup [lotD ra, lotD ro, lotD rt]), .d (lotD ws), .d (lotD l), .d (.ptr q), .no, .no, .no] _ _
    have hstep : ∀ k, k < ra.length → ((List.range ra.length).take (k + 1)).foldl (fun o v => if v ∉ l ∧ rackOf ra v ∉ o then o ++ [rackOf ra v] else o) [] = (fun o => if k ∉ l ∧ rackOf ra k ∉ o then o ++ [rackOf ra k] else o) (((List.range ra.length).take k).foldl (fun o v => if v ∉ l ∧ rackOf ra v ∉ o then o ++ [rackOf ra v] else o) []) := fun k hk => fold_takeF (List.getElem?_range hk)
    refine sm_seq (sm_for [4] (eim_range (edm fun MV => ed_cons (ev_cb (ed_cons (ev_op (ev_var rfl (ev_int (o2_ixT (d := lotD ra) rfl (ed_nil (oc_lenT (ed_nil ⟨_, rfl, by omega, by rw [nats_len]; omega, fun k M' e => ∃ (s4 s5 s6 : Sl) (o : List Nat), e = [.d (.tup [lotD ra, lotD ro, lotD rt]), .d (lotD ws), .d (lotD l), .d (.ptr q), s4, s5, s6] ∧ M' q = some (.lst (natsD o)) ∧ o = ((List.range ra.length).take k).foldl (fun o v => if v ∉ l ∧ rackOf ra v ∉ o then o ++ [rackOf ra v] else o) [] ∧ o.length ≤ k, ⟨_, _, _, [], rfl, updM_same, rfl, Nat.le_refl _⟩, ?_, ?_⟩))))))))))))
    · rintro k d M' e hd ⟨s4, s5, s6, o, rfl, hq1, ho, hol⟩
      obtain ⟨rfl, hk⟩ := range_at hd
      rw [nats_len] at hk
      have hkn : k < ra.length := by omega
      have hs := hstep k hkn
      rw [← ho] at hs
      refine ⟨ag0, fun MV => gt_name (by decide) (sm_if (etm fun MV => et_and (et_B (ev_op (ev_var rfl (ev_var rfl (o2_inT rfl flat_natsF ⟨_, rfl, fun hb => ?_, fun hb => ?_⟩)))))))⟩
      · have hb : (!inD (.int (k : Nat)) (natsD l)) = true := hb
        rw [inD_nats] at hb
        have hb : k ∉ l := by simpa using hb
        refine et_B (ev_op (ev_op (ev_op (ev_var rfl (ev_int (o2_ixT (d := lotD ra) rfl (ev_var rfl (o2_ixT (rack_at hkn) (ev_var rfl (o2_inP hq1 rfl flat_natsF ⟨_, rfl, fun hb2 => ?_, fun hb2 => ?_⟩))))))))))
        · have hb2 : (!inD (.int (rackOf ra k : Nat)) (natsD o)) = true := hb2
          rw [inD_nats] at hb2
          have hb2 : rackOf ra k ∉ o := by simpa using hb2
          refine sm_drop (evm_app (evm fun MV => ev_var rfl ⟨q, _, rfl, hq1, evm fun MV => ev_op (ev_op (ev_var rfl (ev_int (o2_ixT (d := lotD ra) rfl (ev_var rfl (o2_ixT (rack_at hkn) ⟨_, hq1, by rw [nats_len]; omega, ?_⟩))))))⟩))
          rw [nats_app]
          refine ⟨_, _, _, o ++ [rackOf ra k], rfl, updM_same, ?_, by rw [List.length_append]; simp; omega⟩
          rw [hs]
          show _ = if k ∉ l ∧ rackOf ra k ∉ o then o ++ [rackOf ra k] else o
          rw [if_pos ⟨hb, hb2⟩]
        · have hb2 : (!inD (.int (rackOf ra k : Nat)) (natsD o)) = false := hb2
          rw [inD_nats] at hb2
          have hb2 : rackOf ra k ∈ o := by simpa using hb2
          refine sm_next ⟨_, _, _, o, rfl, hq1, ?_, by omega⟩
          rw [hs]
          show _ = if k ∉ l ∧ rackOf ra k ∉ o then o ++ [rackOf ra k] else o
          rw [if_neg fun z => z.2 hb2]
      · have hb : (!inD (.int (k : Nat)) (natsD l)) = false := hb
        rw [inD_nats] at hb
        have hb : k ∈ l := by simpa using hb
        refine ⟨fun z => (nomatch z), fun _ => sm_next ⟨_, _, _, o, rfl, hq1, ?_, by omega⟩⟩
        rw [hs]
        show _ = if k ∉ l ∧ rackOf ra k ∉ o then o ++ [rackOf ra k] else o
        rw [if_neg fun z => z.1 hb]
    · rintro M' e ⟨s4, s5, s6, o, rfl, hq1, ho, hol⟩
      have hl2 : ((List.range ((natsD ra).length : Int).toNat).map fun i : Nat => Dt.int (i : Int)).length = ra.length := by rw [List.length_map, List.length_range, Int.toNat_natCast, nats_len]
      rw [hl2, List.take_of_length_le (by rw [List.length_range]; exact Nat.le_refl _)] at ho
      rw [hl2] at hol
      have ho : o = out11 ra l := ho
      refine ⟨ag0, ?_⟩
      refine sm_seq (sm_asg (evm fun MV => ev_cb (ed_cons (Em.ev (em_lc (ei_seq (ev_var rfl ⟨natsD ws, .inr rfl, by rw [nats_len]; omega, fun k acc => acc = ((ws.take k).map fun x : Nat => if (0 : Int) < (x : Int) - (o.length : Int) then (x : Int) - (o.length : Int) else 0).map Dt.int, rfl, ?_, ?_⟩)))))))
      · rintro k d acc hd hk rfl
        obtain ⟨v, hv, rfl⟩ := nats_at hd
        refine gt_name (by decide) (et_yes ⟨fun _ => ?_, fun z => (nomatch z)⟩)
        refine ev_cb (ed_cons (ev_int (ed_cons (ev_op (ev_cb (ed_cons (ev_var rfl (ed_nil (oc_int (ev_cb (ed_cons (ev_var rfl (ed_nil (oc_lenP hq1 (o2_I0 (ed_nil (oc_max ?_)))))))))))))))))
        rw [nats_len]
        show _ = ((ws.take (k + 1)).map _).map Dt.int
        rw [map_takeF hv, List.map_append]
        rfl
      rintro acc _ rfl
      rw [nats_len, List.take_length]
      refine ed_nil (oc_sum ?_)
      refine sm_ret (evm fun MV => ev_op (ev_var rfl (ev_cb (ed_cons (Em.ev (em_lc (ei_seq (ev_var rfl ⟨natsD l, .inr rfl, by rw [nats_len]; omega, fun k acc => acc = ((l.take k).map fun v => ((ro.getD v 0 : Nat) : Int)).map Dt.int, rfl, ?_, ?_⟩))))))))
      · rintro k d acc hd hk rfl
        obtain ⟨v, hv, rfl⟩ := nats_at hd
        have hvn := hlt v (List.mem_of_getElem? hv)
        refine gt_name (by decide) (et_yes ⟨fun _ => ?_, fun z => (nomatch z)⟩)
        refine ev_op (ev_op (ev_var rfl (ev_int (o2_ixT (d := lotD ro) rfl (ev_var rfl (o2_ixT (atD_nat (nats_getF (by omega : v < ro.length))) ?_))))))
        show _ = ((l.take (k + 1)).map _).map Dt.int
        rw [map_takeF hv, List.map_append]
        rfl
      rintro acc _ rfl
      rw [nats_len, List.take_length]
      refine ed_nil (oc_sum (o2_B0 ?_))
      unfold lackB at hP
      rw [← ho] at hP
      exact hP
theorem ok__law_any_lacks {P : Program} {w : World} {K : PySem.W.Frag} {mg : Str → Option Value} {base : Heap} {f : Addr} {fd : FuncData} (F : L2.Fun K "_law_any_lacks" "_law_any_lacks" s__law_any_lacks f fd)
    {C_InvalidCluster fI_InvalidCluster : Addr} {fd_InvalidCluster : FuncData} (e_InvalidCluster : Exk P w K mg base "InvalidCluster" ["self", "part", "place"] ["part", "place"] C_InvalidCluster fI_InvalidCluster fd_InvalidCluster)
    {C_InvalidWishes fI_InvalidWishes : Addr} {fd_InvalidWishes : FuncData} (e_InvalidWishes : Exk P w K mg base "InvalidWishes" ["self", "value"] ["value"] C_InvalidWishes fI_InvalidWishes fd_InvalidWishes)
    {C_InvalidLot fI_InvalidLot : Addr} {fd_InvalidLot : FuncData} (e_InvalidLot : Exk P w K mg base "InvalidLot" ["self", "value"] ["value"] C_InvalidLot fI_InvalidLot fd_InvalidLot)
    {C_Cluster : Addr} (i_Cluster : Ins K C_Cluster ["racks", "rooms", "rates", "store_count"])
    (m_len : mg "len" = none)
    (c__law_lots : Cal P w K mg base 2 "_law_lots" P__law_lots (CtM K W_lots))
    (c__law_lacks : Cal P w K mg base 2 "_law_lacks" P__law_lacks (Ct K W_lacks11)) :
    FnOk P w K mg base CX0 (3) f fd P__law_any_lacks (Ct K W_anyl11) := by
  refine ok_ct F sc__law_any_lacks (fun ss P h => ?_) (fun cdv A outer s H E hr => ⟨_, (pss_cons (ps_for PassesOwn.never rfl (pi_seqK K (pe_callC c__law_lots hr (by rfl) (pa_cons (pe_callB (c_lenK K) (by rfl) m_len PySem.boot_len (pa_cons (pe_ix (ix_seqK K) (pv 0) pe_int (fun _ _ => rfl)) pa_nil)) pa_nil))) (pg_name (i := 2) sc__law_any_lacks.nd rfl (by first | exact Or.inl rfl | exact Or.inr rfl))
        (pss_one (ps_if (pt_val (pe_callC c__law_lacks hr (by rfl) (pa_cons (pv 0) (pa_cons (pv 1) (pa_cons (pv 2) pa_nil)))))
        (pss_one (ps_ret pe_bl))
        pss_nil)))
      (pss_one (ps_ret pe_bl))), fun J ss P h => ?_⟩)
  · obtain ⟨ra, ro, rt, ws, rfl, _⟩ := h
    rfl
  · obtain ⟨ra, ro, rt, ws, rfl, hro, hra, hwl, hP⟩ := h
    show Sv K J [.d (.tup [lotD ra, lotD ro, lotD rt]), .d (lotD ws), .no] _ _
    refine sv_seq (sv_for [2] (ei_seq (Em.ev (em_call (ea_cons (ev_cb (ed_cons (ev_op (ev_var rfl (ev_int (o2_ixT (d := lotD ra) rfl (ed_nil (oc_lenT (ea_nil ⟨_, rfl, by rw [nats_len]; omega, ?_⟩))))))))))))))
    rw [nats_len]
    refine ⟨_, .inl rfl, fun k e => (∃ s2, e = [.d (.tup [lotD ra, lotD ro, lotD rt]), .d (lotD ws), s2]) ∧ ((lotsTo ra.length).take k).any (lackB ra ro ws) = false, ⟨⟨_, rfl⟩, rfl⟩, ?_, ?_⟩
    · rintro k d e hd ⟨⟨s2, rfl⟩, hany⟩
      rw [List.getElem?_map] at hd
      cases hl : (lotsTo ra.length)[k]? with
      | none => rw [hl] at hd; cases hd
      | some l =>
      rw [hl] at hd
      cases hd
      have hlm := List.mem_of_getElem? hl
      have hlo := lotsTo_ok hlm
      have hlen : l.length ≤ ra.length := by
        have := nodup_subA (hlo.1.imp fun h => (by omega : _ ≠ _)) (l2 := List.range ra.length) fun x hx => List.mem_range.mpr (hlo.2 x hx)
        rw [List.length_range] at this; exact this
      have hnx : ((lotsTo ra.length).take (k + 1)).any (lackB ra ro ws) = lackB ra ro ws l := by
        rw [List.take_add_one, hl, List.any_append, hany]
        show (false || ([l].any (lackB ra ro ws))) = _
        simp
      refine gt_name (by decide) (sv_if (et_B (ev_call (ea_cons (ev_var rfl (ea_cons (ev_var rfl (ea_cons (ev_var rfl (ea_nil ⟨ra, ro, rt, ws, l, rfl, hro, by omega, hwl, by omega, hlo.2, _, rfl, fun hb => ?_, fun hb => ?_⟩))))))))))
      · refine sv_ret (ev_bl ?_)
        have : (lotsTo ra.length).any (lackB ra ro ws) = true := List.any_eq_true.mpr ⟨l, hlm, hb⟩
        rw [this] at hP
        exact hP
      · exact sv_next ⟨⟨_, rfl⟩, by rw [hnx]; exact hb⟩
    · rintro e ⟨⟨s2, rfl⟩, hany⟩
      rw [List.length_map, List.take_length] at hany
      rw [hany] at hP
      exact sv_ret (ev_bl hP)
theorem ok_falls_short {P : Program} {w : World} {K : PySem.W.Frag} {mg : Str → Option Value} {base : Heap} {f : Addr} {fd : FuncData} (F : L2.Fun K "falls_short" "falls_short" s_falls_short f fd)
    {C_InvalidCluster fI_InvalidCluster : Addr} {fd_InvalidCluster : FuncData} (e_InvalidCluster : Exk P w K mg base "InvalidCluster" ["self", "part", "place"] ["part", "place"] C_InvalidCluster fI_InvalidCluster fd_InvalidCluster)
    {C_InvalidWishes fI_InvalidWishes : Addr} {fd_InvalidWishes : FuncData} (e_InvalidWishes : Exk P w K mg base "InvalidWishes" ["self", "value"] ["value"] C_InvalidWishes fI_InvalidWishes fd_InvalidWishes)
    {C_InvalidLot fI_InvalidLot : Addr} {fd_InvalidLot : FuncData} (e_InvalidLot : Exk P w K mg base "InvalidLot" ["self", "value"] ["value"] C_InvalidLot fI_InvalidLot fd_InvalidLot)
    {C_Cluster : Addr} (i_Cluster : Ins K C_Cluster ["racks", "rooms", "rates", "store_count"])
    (m_len : mg "len" = none)
    (m_enumerate : mg "enumerate" = none)
    (m_sum : mg "sum" = none)
    (m_max : mg "max" = none) :
    FnOk P w K mg base CX0 (2) f fd P_falls_short (Ct K (W_falls C_Cluster)) := by
  refine ok_ct F sc_falls_short (fun ss P h => ?_) (fun cdv A outer s H E hr => ⟨_, (pss_cons (ps_set (i := 3) sc_falls_short.nd rfl (by first | exact Or.inl rfl | exact Or.inr rfl) (pe_callB c_lenS (by rfl) m_len PySem.boot_len (pa_cons (pe_scI (own := [("store", 5), ("rack", 6)]) rfl sc_falls_short.nd (pi_enumK K (by rfl) m_enumerate (pa_cons (pe_fldK K (pv 0)) pa_nil)) (blkOk_by (N := N_falls_short) (sc := defScope s_falls_short) (by decide +kernel)) (fun _ _ _ _ _ => (pg_tupK K 2 (by rfl) (pgs_cons (pg_name (i := 5) sc_falls_short.nd rfl (by first | exact Or.inl rfl | exact Or.inr rfl)) (pgs_cons (pg_name (i := 6) sc_falls_short.nd rfl (by first | exact Or.inl rfl | exact Or.inr rfl)) pgs_nil)))) (fun _ _ _ _ _ => (pts_one (pt_cmpR (op_notInK K) (pv 5) (pv 2) (by rfl)))) (fun _ _ _ _ _ => (pv 6))) pa_nil)))
      (pss_cons (ps_set (i := 4) sc_falls_short.nd rfl (by first | exact Or.inl rfl | exact Or.inr rfl) (pe_callB (c_sumK K) (by rfl) m_sum (by decide +kernel) (pa_cons (pe_lc (own := [("wish", 7)]) rfl sc_falls_short.nd (pi_seqK K (pv 1)) (blkOk_by (N := N_falls_short) (sc := defScope s_falls_short) (by decide +kernel)) (fun _ _ _ _ _ => (pg_name (i := 7) sc_falls_short.nd rfl (by first | exact Or.inl rfl | exact Or.inr rfl))) (fun _ _ _ _ _ => pts_nil) (fun _ _ _ _ _ => (pe_callB c_max (by rfl) m_max (by decide +kernel) (pa_cons pe_int (pa_cons (pe_op op_sub (pv 7) (pv 3)) pa_nil))))) pa_nil)))
      (pss_one (ps_ret (pe_cmpR op_gt (pv 4) (pe_callB (c_sumK K) (by rfl) m_sum (by decide +kernel) (pa_cons (pe_lc (own := [("store", 5)]) rfl sc_falls_short.nd (pi_seqK K (pv 2)) (blkOk_by (N := N_falls_short) (sc := defScope s_falls_short) (by decide +kernel)) (fun _ _ _ _ _ => (pg_name (i := 5) sc_falls_short.nd rfl (by first | exact Or.inl rfl | exact Or.inr rfl))) (fun _ _ _ _ _ => pts_nil) (fun _ _ _ _ _ => (pe_ix (ix_seqK K) (pe_fldK K (pv 0)) (pv 5) (fun _ _ => rfl)))) pa_nil)) (nomark _)))))), fun J ss P h => ?_⟩)
  · obtain ⟨fs, ra, ro, ws, l, rfl, _⟩ := h
    rfl
  · obtain ⟨fs, ra, ro, ws, l, rfl, ⟨f1, f2, f3, hro, hra⟩, hwl, hll, hlt, hP⟩ := h
    have cl := i_Cluster.cls
    show Sv K J [.d (.ob C_Cluster fs), .d (lotD ws), .d (lotD l), .no, .no, .no, .no, .no] _ _
    refine sv_seq (sv_asg (ev_lenSF (pOut l) fOut (ei_enum (ev_fld (ev_var rfl ⟨_, _, _, rfl, cl, i_Cluster.nf "racks" (by decide), f1, natsD ra, .inr rfl, by rw [enumD_len, nats_len]; omega, fun d hd => ?_, ?_⟩)))))
    · rw [enum_nats] at hd
      obtain ⟨v, hv, rfl⟩ := List.mem_map.mp hd
      refine gt_tup rfl (gs_cons (gt_name (by decide) (gs_cons (gt_name (by decide) (gs_nil ?_)))))
      refine et_test (ev_op (ev_var rfl (ev_var rfl (o2_inT rfl flat_natsF ⟨_, rfl, ?_, fun _ => ev_var rfl rfl⟩))))
      show (!inD (.int (v : Nat)) (natsD l)) = _
      rw [inD_nats]
      rfl
    rw [out_dc]
    refine sv_seq (sv_asg (ev_cb (ed_cons (Em.ev (em_lc (ei_seq (ev_var rfl ⟨natsD ws, .inr rfl, by rw [nats_len]; omega, fun k acc => acc = ((ws.take k).map fun x : Nat => if (0 : Int) < (x : Int) - ((out11 ra l).length : Int) then (x : Int) - ((out11 ra l).length : Int) else 0).map Dt.int, rfl, ?_, ?_⟩)))))))
    · rintro k d acc hd hk rfl
      obtain ⟨v, hv, rfl⟩ := nats_at hd
      refine gt_name (by decide) (et_yes ⟨fun _ => ?_, fun z => (nomatch z)⟩)
      refine ev_cb (ed_cons (ev_int (ed_cons (ev_op (ev_var rfl (ev_var rfl (o2_I0 (ed_nil (oc_max ?_)))))))))
      show _ = ((ws.take (k + 1)).map _).map Dt.int
      rw [map_takeF hv, List.map_append]
      rfl
    rintro acc _ rfl
    rw [nats_len, List.take_length]
    refine ed_nil (oc_sum ?_)
    refine sv_ret (ev_op (ev_var rfl (ev_cb (ed_cons (Em.ev (em_lc (ei_seq (ev_var rfl ⟨natsD l, .inr rfl, by rw [nats_len]; omega, fun k acc => acc = ((l.take k).map fun v => ((ro.getD v 0 : Nat) : Int)).map Dt.int, rfl, ?_, ?_⟩))))))))
    · rintro k d acc hd hk rfl
      obtain ⟨v, hv, rfl⟩ := nats_at hd
      have hvn := hlt v (List.mem_of_getElem? hv)
      refine gt_name (by decide) (et_yes ⟨fun _ => ?_, fun z => (nomatch z)⟩)
      refine ev_op (ev_fld (ev_var rfl ⟨_, _, _, rfl, cl, i_Cluster.nf "rooms" (by decide), f2, ev_var rfl (o2_ixT (atD_nat (nats_getF (by omega : v < ro.length))) ?_)⟩))
      show _ = ((l.take (k + 1)).map _).map Dt.int
      rw [map_takeF hv, List.map_append]
      rfl
    rintro acc _ rfl
    rw [nats_len, List.take_length]
    refine ed_nil (oc_sum (o2_B0 ?_))
    exact hP
theorem ok_lacks_room {P : Program} {w : World} {K : PySem.W.Frag} {mg : Str → Option Value} {base : Heap} {f : Addr} {fd : FuncData} (F : L2.Fun K "lacks_room" "lacks_room" s_lacks_room f fd)
    {C_InvalidCluster fI_InvalidCluster : Addr} {fd_InvalidCluster : FuncData} (e_InvalidCluster : Exk P w K mg base "InvalidCluster" ["self", "part", "place"] ["part", "place"] C_InvalidCluster fI_InvalidCluster fd_InvalidCluster)
    {C_InvalidWishes fI_InvalidWishes : Addr} {fd_InvalidWishes : FuncData} (e_InvalidWishes : Exk P w K mg base "InvalidWishes" ["self", "value"] ["value"] C_InvalidWishes fI_InvalidWishes fd_InvalidWishes)
    {C_InvalidLot fI_InvalidLot : Addr} {fd_InvalidLot : FuncData} (e_InvalidLot : Exk P w K mg base "InvalidLot" ["self", "value"] ["value"] C_InvalidLot fI_InvalidLot fd_InvalidLot)
    {C_Cluster : Addr} (i_Cluster : Ins K C_Cluster ["racks", "rooms", "rates", "store_count"])
    (c_check_wishes : CalX P w K mg base 4 "check_wishes" P_check_wishes (CtX K (W_ckwishes C_InvalidWishes)))
    (c_is_lot : Cal P w K mg base 4 "is_lot" P_is_lot (Ct K W_islot))
    (c_falls_short : Cal P w K mg base 4 "falls_short" P_falls_short (Ct K (W_falls C_Cluster))) :
    FnOk P w K mg base (L2.CX P w) (5) f fd P_lacks_room (CtX K (W_lackr C_Cluster C_InvalidWishes C_InvalidLot)) := by
  refine ok_ctx F sc_lacks_room (fun ss P PX h => ?_) (fun cdv A outer s H E hr => ⟨_, (pss_cons (ps_expr (pe_callW (fun cls d _ H => E cls d H) (takes_of rfl rfl rfl rfl) c_check_wishes hr rfl (pa_cons (pv 1) pa_nil)))
      (pss_cons (ps_if (pt_not (pt_val (pe_callC c_is_lot hr (by rfl) (pa_cons (pv 2) (pa_cons (pe_fldK K (pv 0)) pa_nil)))))
        (pss_one (ps_raiseK rfl (takes_of rfl rfl rfl rfl) (pmk_oex e_InvalidLot.ex e_InvalidLot.iC e_InvalidLot.tI e_InvalidLot.fn (hr.mono (by decide)) e_InvalidLot.b .nil pass0 rfl e_InvalidLot.g (pa_cons (pv 2) pa_nil))))
        pss_nil)
      (pss_one (ps_ret (pe_callC c_falls_short hr (by rfl) (pa_cons (pv 0) (pa_cons (pv 1) (pa_cons (pv 2) pa_nil)))))))), fun J ss P PX h => ?_⟩)
  · obtain ⟨fs, ra, ro, w, x, rfl, _⟩ := h
    rfl
  · obtain ⟨fs, ra, ro, w, x, rfl, ⟨f1, f2, f3, hro, hra⟩, h8, hpw, hpx, hwz, hX, hrest⟩ := h
    have cl := i_Cluster.cls
    show Sv K J [.d (.ob C_Cluster fs), .d w, .d x] _ _
    refine sv_seq (sv_dropS (ea_cons (ev_var rfl (ea_nil ⟨w, rfl, hpw, fun hw => ?_, fun hw => hX hw⟩))))
    obtain ⟨ws, rfl, hws⟩ := wish_nats hw
    have hwz := hwz ws rfl hw
    obtain ⟨hL, hP⟩ := hrest ws rfl hws
    refine sv_seq (sv_if (et_not (et_B (ev_call (ea_cons (ev_var rfl (ea_cons (ev_fld (ev_var rfl ⟨_, _, _, rfl, cl, i_Cluster.nf "store_count" (by decide), f3, ea_nil ⟨x, _, rfl, hpx, _, rfl, fun hb => ?_, fun hb => ?_⟩⟩)))))))))
    · exact sv_raise e_InvalidLot.ex e_InvalidLot.nf rfl (ed_cons (ev_var rfl (ed_nil ⟨rfl, by decide, hL (by simpa using hb)⟩)))
    · have hb : lotB (ra.length : Int) x = true := by simpa using hb
      refine sv_next ?_
      obtain ⟨l, rfl, hl1, hl2⟩ := lot_any hb
      have hl8 := up_le hl1 hl2
      refine sv_ret (ev_call (ea_cons (ev_var rfl (ea_cons (ev_var rfl (ea_cons (ev_var rfl (ea_nil ⟨fs, ra, ro, ws, l, rfl, ⟨f1, f2, f3, hro, hra⟩, hwz, by omega, hl2, hP hb l rfl hl1 hl2⟩))))))))
theorem ok_lot_lacking {P : Program} {w : World} {K : PySem.W.Frag} {mg : Str → Option Value} {base : Heap} {f : Addr} {fd : FuncData} (F : L2.Fun K "lot_lacking" "lot_lacking" s_lot_lacking f fd)
    {C_InvalidCluster fI_InvalidCluster : Addr} {fd_InvalidCluster : FuncData} (e_InvalidCluster : Exk P w K mg base "InvalidCluster" ["self", "part", "place"] ["part", "place"] C_InvalidCluster fI_InvalidCluster fd_InvalidCluster)
    {C_InvalidWishes fI_InvalidWishes : Addr} {fd_InvalidWishes : FuncData} (e_InvalidWishes : Exk P w K mg base "InvalidWishes" ["self", "value"] ["value"] C_InvalidWishes fI_InvalidWishes fd_InvalidWishes)
    {C_InvalidLot fI_InvalidLot : Addr} {fd_InvalidLot : FuncData} (e_InvalidLot : Exk P w K mg base "InvalidLot" ["self", "value"] ["value"] C_InvalidLot fI_InvalidLot fd_InvalidLot)
    {C_Cluster : Addr} (i_Cluster : Ins K C_Cluster ["racks", "rooms", "rates", "store_count"])
    (m_range : mg "range" = none)
    (m_combinations : mg "combinations" = some (.type "itertools.combinations"))
    (c_check_wishes : CalX P w K mg base 4 "check_wishes" P_check_wishes (CtX K (W_ckwishes C_InvalidWishes)))
    (c_falls_short : Cal P w K mg base 4 "falls_short" P_falls_short (Ct K (W_falls C_Cluster))) :
    FnOk P w K mg base (L2.CX P w) (5) f fd P_lot_lacking (CtP K (W_lotl C_Cluster C_InvalidWishes)) := by
  refine ok_ctp F sc_lot_lacking (fun M ss P PX h => ?_) (fun cdv A outer s H E hr => ⟨_, (pss_cons (ps_expr (pe_callW (fun cls d _ H => E cls d H) (takes_of rfl rfl rfl rfl) c_check_wishes hr rfl (pa_cons (pv 1) pa_nil)))
      (pss_cons (ps_for (passes_of rfl) rfl (pi_range1 (by rfl) m_range (pa_cons (pe_op op_add (pe_fldK K (pv 0)) pe_int) pa_nil)) (pg_name (i := 2) sc_lot_lacking.nd rfl (by first | exact Or.inl rfl | exact Or.inr rfl))
        (pss_one (ps_for (passes_of rfl) rfl (pi_comb (by rfl) (by rfl) m_combinations (pa_cons (pe_callTy cr_range1 (by rfl) m_range (by decide +kernel) (pa_cons (pe_fldK K (pv 0)) pa_nil)) (pa_cons (pv 2) pa_nil))) (pg_name (i := 3) sc_lot_lacking.nd rfl (by first | exact Or.inl rfl | exact Or.inr rfl))
        (pss_one (ps_if (pt_val (pe_callC c_falls_short hr (by rfl) (pa_cons (pv 0) (pa_cons (pv 1) (pa_cons (pv 3) pa_nil)))))
        (pss_one (ps_ret (pv 3)))
        pss_nil)))))
      (pss_one (ps_ret pe_non)))), fun J M ss P PX h => ?_⟩)
  · obtain ⟨fs, ra, ro, w, rfl, _⟩ := h
    rfl
  · obtain ⟨fs, ra, ro, w, rfl, ⟨f1, f2, f3, hro, hra⟩, h8, hpw, hwz, hX, hrest⟩ := h
    have cl := i_Cluster.cls
    show SvM K J M [.d (.ob C_Cluster fs), .d w, .no, .no] _ _
    refine sm_seq (sm_drop (evm_callX (eam fun MV => ea_cons (ev_var rfl (ea_nil ⟨w, rfl, hpw, fun hw => ?_, fun hw => less_refl (hX hw)⟩)))))
    obtain ⟨ws, rfl, hws⟩ := wish_nats hw
    have hwz := hwz ws rfl hw
    obtain ⟨hN, hP⟩ := hrest ws rfl hws
    refine sm_seq (sm_for [2] (eim_range (edm fun MV => ed_cons (ev_op (ev_fld (ev_var rfl ⟨_, _, _, rfl, cl, i_Cluster.nf "store_count" (by decide), f3, ev_int (o2_I0 (ed_nil ⟨_, rfl, by omega, by omega, fun k M' e => ∃ s2 s3, e = [.d (.ob C_Cluster fs), .d (lotD ws), s2, s3] ∧ (∀ x o, M x = some o → M' x = some o) ∧ ∀ r, r < k → ∀ l ∈ combC ra.length r, lackB ra ro ws l = false, ⟨_, _, rfl, fun _ _ h => h, fun r hr => absurd hr (Nat.not_lt_zero _)⟩, ?_, ?_⟩))⟩))))))
    · rintro k d M' e hd ⟨s2, s3, rfl, hM, hno⟩
      obtain ⟨rfl, hk⟩ := range_at hd
      have hk : k < ((ra.length : Int) + 1).toNat := hk
      have hk : k ≤ ra.length := by omega
      have C := comb_ok (n := ra.length) (r := k) (by omega) (by omega)
      refine ⟨ag0, fun MV => gt_name (by decide) (sm_for [3] (eim_comb (edm_cons (evm_rng (edm fun MV => ed_cons (ev_fld (ev_var rfl ⟨_, _, _, rfl, cl, i_Cluster.nf "store_count" (by decide), f3, ed_nil ⟨(ra.length : Int), rfl, fun sr hsr => ?_⟩⟩)))))))⟩
      have hM2 : ∀ x o, M x = some o → updM M' sr (.rng 0 (ra.length : Int)) x = some o := fun x o h => by
        have h1 := hM x o h
        by_cases z : x = sr
        · subst z; rw [hsr] at h1; cases h1
        · exact (updM_ne z).trans h1
      refine edm fun MV => ed_cons (ev_var rfl (ed_nil ⟨sr, ra.length, k, rfl, updM_same, by omega, by omega, fun j M3 e => ∃ s3, e = [.d (.ob C_Cluster fs), .d (lotD ws), .d (.int (k : Nat)), s3] ∧ (∀ x o, M x = some o → M3 x = some o) ∧ ∀ l ∈ (combC ra.length k).take j, lackB ra ro ws l = false, ⟨_, rfl, hM2, fun l hl => (by cases hl)⟩, ?_, ?_⟩))
      · rintro j d M3 e hd ⟨s3, rfl, hM3, hno3⟩
        rw [List.getElem?_map] at hd
        cases hl : (combC ra.length k)[j]? with
        | none => rw [hl] at hd; cases hd
        | some l =>
        rw [hl] at hd
        cases hd
        have hlm := List.mem_of_getElem? hl
        have hlo := (C.mem l).mp hlm
        refine ⟨ag0, fun MV => gt_name (by decide) (sm_if (etm fun MV => et_B (ev_call (ea_cons (ev_var rfl (ea_cons (ev_var rfl (ea_cons (ev_var rfl (ea_nil ⟨fs, ra, ro, ws, l, rfl, ⟨f1, f2, f3, hro, hra⟩, hwz, by omega, hlo.2.1, _, rfl, fun hb => ?_, fun hb => ?_⟩))))))))))⟩
        · exact sm_ret (evm fun MV => ev_var rfl ⟨M, hM3, fun _ h => h, hP l (lotsTo_all hlo.1 hlo.2.1) hb⟩)
        · refine sm_next ⟨_, rfl, hM3, fun l2 hl2 => ?_⟩
          rw [List.take_add_one, hl, List.mem_append] at hl2
          rcases hl2 with h | h
          · exact hno3 l2 h
          · have : l2 = l := by simpa using h
            rw [this]; exact hb
      · rintro M3 e ⟨s3, rfl, hM3, hno3⟩
        refine ⟨ag0, ⟨_, _, rfl, hM3, fun r hr l hl => ?_⟩⟩
        rw [List.length_map, List.take_length] at hno3
        by_cases z : r < k
        · exact hno r z l hl
        · have : r = k := by omega
          subst this
          exact hno3 l hl
    · rintro M' e ⟨s2, s3, rfl, hM, hno⟩
      rw [List.length_map, List.length_range] at hno
      refine ⟨ag0, sm_ret (evm fun MV => ev_non ⟨M, hM, fun _ h => h, hN fun l hl => ?_⟩)⟩
      have hlo := lotsTo_ok hl
      have hlen : l.length ≤ ra.length := by
        have := nodup_subA (hlo.1.imp fun h => (by omega : _ ≠ _)) (l2 := List.range ra.length) fun x hx => List.mem_range.mpr (hlo.2 x hx)
        rw [List.length_range] at this; exact this
      exact hno l.length (by omega) l (((comb_ok (n := ra.length) (r := l.length) (by omega) (by omega)).mem l).mpr ⟨hlo.1, hlo.2, rfl⟩)
theorem ok__law_told {P : Program} {w : World} {K : PySem.W.Frag} {mg : Str → Option Value} {base : Heap} {f : Addr} {fd : FuncData} (F : L2.Fun K "_law_told" "_law_told" s__law_told f fd)
    {C_InvalidCluster fI_InvalidCluster : Addr} {fd_InvalidCluster : FuncData} (e_InvalidCluster : Exk P w K mg base "InvalidCluster" ["self", "part", "place"] ["part", "place"] C_InvalidCluster fI_InvalidCluster fd_InvalidCluster)
    {C_InvalidWishes fI_InvalidWishes : Addr} {fd_InvalidWishes : FuncData} (e_InvalidWishes : Exk P w K mg base "InvalidWishes" ["self", "value"] ["value"] C_InvalidWishes fI_InvalidWishes fd_InvalidWishes)
    {C_InvalidLot fI_InvalidLot : Addr} {fd_InvalidLot : FuncData} (e_InvalidLot : Exk P w K mg base "InvalidLot" ["self", "value"] ["value"] C_InvalidLot fI_InvalidLot fd_InvalidLot)
    {C_Cluster : Addr} (i_Cluster : Ins K C_Cluster ["racks", "rooms", "rates", "store_count"])
    (c_lacks_room : CalX P w K mg base 7 "lacks_room" P_lacks_room (CtX K (W_lackr C_Cluster C_InvalidWishes C_InvalidLot)))
    (c_lot_lacking : CalX P w K mg base 7 "lot_lacking" P_lot_lacking (CtP K (W_lotl C_Cluster C_InvalidWishes)))
    (x_InvalidWishes_InvalidWishes : PySem.W.exmOne K (.ref C_InvalidWishes) (.ref C_InvalidWishes) = some true)
    (x_InvalidLot_InvalidWishes : PySem.W.exmOne K (.ref C_InvalidLot) (.ref C_InvalidWishes) = some false)
    (x_InvalidLot_InvalidLot : PySem.W.exmOne K (.ref C_InvalidLot) (.ref C_InvalidLot) = some true) :
    FnOk P w K mg base CX0 (8) f fd P__law_told (Ct K (W_told09 C_Cluster)) := by
  refine ok_ct F sc__law_told (fun ss P h => ?_) (fun cdv A outer s H E hr => ⟨_, (pss_cons (ps_tryK K rfl rfl (fun W pn xe tk po => (pss_one (ps_if (pt_cmpR op_eq (pv 0) pe_int (nomark _))
        (pss_one (ps_expr (pe_callW W tk c_lacks_room hr rfl (pa_cons (pv 1) (pa_cons (pv 2) (pa_cons (pv 3) pa_nil))))))
        (pss_one (ps_expr (pe_callW W tk c_lot_lacking hr rfl (pa_cons (pv 1) (pa_cons (pv 2) pa_nil))))))))
      (HdsN.cons (i := 4) ⟨rfl, by decide, Or.inl e_InvalidWishes.g⟩ sc__law_told.nd rfl rfl (fun a oe cls d pn hz hf => (pss_one (ps_ret (pe_lst (pa_cons pe_str (pa_cons (pe_xf e_InvalidWishes.xf (e_InvalidWishes.nf "value" (by decide)) hz hf (pv 4)) pa_nil)))))) (HdsN.cons (i := 4) ⟨rfl, by decide, Or.inl e_InvalidLot.g⟩ sc__law_told.nd rfl rfl (fun a oe cls d pn hz hf => (pss_one (ps_ret (pe_lst (pa_cons pe_str (pa_cons (pe_xf e_InvalidLot.xf (e_InvalidLot.nf "value" (by decide)) hz hf (pv 4)) pa_nil)))))) HdsN.nil)))
      (pss_one (ps_ret (pe_lst (pa_cons pe_str (pa_cons pe_int pa_nil)))))), fun J ss P h => ?_⟩)
  · obtain ⟨i, fs, ra, ro, w, x, rfl, _⟩ := h
    rfl
  · obtain ⟨i, fs, ra, ro, w, x, rfl, hcl, h8, hpw, hpx, hwz, hW, hL⟩ := h
    show Sv K J [.d (.int i), .d (.ob C_Cluster fs), .d w, .d x, .no] _ _
    refine sv_toM (sm_seq (sm_try fun W => ?_))
    refine sm_if (etm fun MV => ?_)
    refine et_test (ev_op (ev_var rfl (ev_int ?_)))
    refine o2_eqI ⟨_, rfl, fun hb => ?_, fun hb => ?_⟩
    · have hi : i = 0 := by simpa using hb
      refine sm_drop (evm_callX (eam fun MV => ea_cons (ev_var rfl (ea_cons (ev_var rfl (ea_cons (ev_var rfl (ea_nil ⟨fs, ra, ro, w, x, rfl, hcl, h8, hpw, hpx hi, hwz, fun hw => ?_, fun ws hws hws2 => ⟨fun hl => ?_, fun hl => ?_⟩⟩))))))))
      · exact ⟨true, x_InvalidWishes_InvalidWishes, fun _ a d => sm_ret (evm fun MV => ev_lst (ed_cons (ev_str (ed_cons (ev_xf rfl rfl (ed_nil ⟨Nat.le_of_ble_eq_true rfl, hW hw⟩)))))), (fun z => (nomatch z))⟩
      · exact ⟨false, x_InvalidLot_InvalidWishes, (fun z => (nomatch z)), fun _ => ⟨true, x_InvalidLot_InvalidLot, fun _ a d => sm_ret (evm fun MV => ev_lst (ed_cons (ev_str (ed_cons (ev_xf rfl rfl (ed_nil ⟨Nat.le_of_ble_eq_true rfl, (hL ws hws hws2).2.2⟩)))))), (fun z => (nomatch z))⟩⟩
      · have := (hL ws hws hws2).2.1
        rw [hl] at this; cases this
    · have hi : i ≠ 0 := by simpa using hb
      refine sm_drop (evm_call (eam fun MV => ea_cons (ev_var rfl (ea_cons (ev_var rfl (ea_nil ⟨fs, ra, ro, w, rfl, hcl, h8, hpw, hwz, fun hw => ?_, fun ws hws hws2 => absurd (hL ws hws hws2).1 hi⟩))))))
      exact ⟨true, x_InvalidWishes_InvalidWishes, fun _ a d => sm_ret (evm fun MV => ev_lst (ed_cons (ev_str (ed_cons (ev_xf rfl rfl (ed_nil ⟨Nat.le_of_ble_eq_true rfl, hW hw⟩)))))), (fun z => (nomatch z))⟩
theorem ok_law {P : Program} {w : World} {K : PySem.W.Frag} {mg : Str → Option Value} {base : Heap} {f : Addr} {fd : FuncData} (F : L2.Fun K "law" "law" s_law f fd)
    {C_InvalidCluster fI_InvalidCluster : Addr} {fd_InvalidCluster : FuncData} (e_InvalidCluster : Exk P w K mg base "InvalidCluster" ["self", "part", "place"] ["part", "place"] C_InvalidCluster fI_InvalidCluster fd_InvalidCluster)
    {C_InvalidWishes fI_InvalidWishes : Addr} {fd_InvalidWishes : FuncData} (e_InvalidWishes : Exk P w K mg base "InvalidWishes" ["self", "value"] ["value"] C_InvalidWishes fI_InvalidWishes fd_InvalidWishes)
    {C_InvalidLot fI_InvalidLot : Addr} {fd_InvalidLot : FuncData} (e_InvalidLot : Exk P w K mg base "InvalidLot" ["self", "value"] ["value"] C_InvalidLot fI_InvalidLot fd_InvalidLot)
    {C_Cluster : Addr} (i_Cluster : Ins K C_Cluster ["racks", "rooms", "rates", "store_count"])
    (m_len : mg "len" = none)
    (m_range : mg "range" = none)
    (mk_Cluster : MkI P w K mg base 28 "Cluster" P_Cluster__init__ C_Cluster (CtI K C_Cluster (W_cluster C_InvalidCluster)))
    (c__law_draws : Cal P w K mg base 29 "_law_draws" P__law_draws (CtM K W_draws))
    (c__law_cluster : Cal P w K mg base 29 "_law_cluster" P__law_cluster (Ct K W_lcluster))
    (c__law_wishes : Cal P w K mg base 29 "_law_wishes" P__law_wishes (Ct K W_lwishes))
    (c__law_take : Cal P w K mg base 29 "_law_take" P__law_take (Ct K W_take))
    (c__law_lots : Cal P w K mg base 29 "_law_lots" P__law_lots (CtM K W_lots))
    (c__law_like : Cal P w K mg base 29 "_law_like" P__law_like (Ct K (W_like 8)))
    (c__law_lacks : Cal P w K mg base 29 "_law_lacks" P__law_lacks (Ct K W_lacks11))
    (c_lacks_room : CalX P w K mg base 29 "lacks_room" P_lacks_room (CtX K (W_lackr C_Cluster C_InvalidWishes C_InvalidLot)))
    (c_lot_lacking : CalX P w K mg base 29 "lot_lacking" P_lot_lacking (CtP K (W_lotl C_Cluster C_InvalidWishes)))
    (c__law_any_lacks : Cal P w K mg base 29 "_law_any_lacks" P__law_any_lacks (Ct K W_anyl11))
    (c__law_is_lot : Cal P w K mg base 29 "_law_is_lot" P__law_is_lot (Ct K W_lislot))
    (c__law_wrong_wishes : Cal P w K mg base 29 "_law_wrong_wishes" P__law_wrong_wishes (Ct K W_wrwishes))
    (c__law_told : Cal P w K mg base 29 "_law_told" P__law_told (Ct K (W_told09 C_Cluster))) :
    FnOk P w K mg base CX0 (30) f fd P_law (spLaw K) := by
  refine ok_lw F sc_law (fun cdv A outer s H E hr => ⟨_, (pss_cons (ps_set (i := 1) sc_law.nd rfl (by first | exact Or.inl rfl | exact Or.inr rfl) (pe_lst (pa_cons (pe_callC c__law_draws hr (by rfl) (pa_cons (pv 0) (pa_cons pe_int pa_nil))) (pa_cons pe_int pa_nil))))
      (pss_cons (ps_set (i := 2) sc_law.nd rfl (by first | exact Or.inl rfl | exact Or.inr rfl) (pe_callC c__law_cluster hr (by rfl) (pa_cons (pv 1) (pa_cons pe_int pa_nil))))
      (pss_cons (ps_set (i := 3) sc_law.nd rfl (by first | exact Or.inl rfl | exact Or.inr rfl) (pe_callB (c_lenK K) (by rfl) m_len PySem.boot_len (pa_cons (pe_ix (ix_seqK K) (pv 2) pe_int (fun _ _ => rfl)) pa_nil)))
      (pss_cons (ps_set (i := 4) sc_law.nd rfl (by first | exact Or.inl rfl | exact Or.inr rfl) (pe_makeC mk_Cluster hr rfl (pa_cons (pe_ix (ix_seqK K) (pv 2) pe_int (fun _ _ => rfl)) (pa_cons (pe_ix (ix_seqK K) (pv 2) pe_int (fun _ _ => rfl)) (pa_cons (pe_ix (ix_seqK K) (pv 2) pe_int (fun _ _ => rfl)) pa_nil)))))
      (pss_cons (ps_for PassesOwn.never rfl (pi_range1 (by rfl) m_range (pa_cons pe_int pa_nil)) (pg_name (i := 5) sc_law.nd rfl (by first | exact Or.inl rfl | exact Or.inr rfl))
        (pss_cons (ps_set (i := 6) sc_law.nd rfl (by first | exact Or.inl rfl | exact Or.inr rfl) (pe_callC c__law_wishes hr (by rfl) (pa_cons (pv 1) (pa_cons (pe_callC c__law_take hr (by rfl) (pa_cons (pv 1) (pa_cons pe_int pa_nil))) pa_nil))))
      (pss_cons (ps_for PassesOwn.never rfl (pi_seqK K (pe_callC c__law_lots hr (by rfl) (pa_cons (pv 3) pa_nil))) (pg_name (i := 7) sc_law.nd rfl (by first | exact Or.inl rfl | exact Or.inr rfl))
        (pss_one (ps_if (pt_not (pt_val (pe_callC c__law_like hr (by rfl) (pa_cons (pe_callE0 c_lacks_room hr rfl (pa_cons (pv 4) (pa_cons (pv 6) (pa_cons (pv 7) pa_nil)))) (pa_cons (pe_callC c__law_lacks hr (by rfl) (pa_cons (pv 2) (pa_cons (pv 6) (pa_cons (pv 7) pa_nil)))) pa_nil)))))
        (pss_one (ps_ret pe_bl))
        pss_nil)))
      (pss_cons (ps_set (i := 8) sc_law.nd rfl (by first | exact Or.inl rfl | exact Or.inr rfl) (pe_callE0 c_lot_lacking hr rfl (pa_cons (pv 4) (pa_cons (pv 6) pa_nil))))
      (pss_one (ps_if (pt_cmpR op_is_none (pv 8) pe_non (nomark _))
        (pss_one (ps_if (pt_val (pe_callC c__law_any_lacks hr (by rfl) (pa_cons (pv 2) (pa_cons (pv 6) pa_nil))))
        (pss_one (ps_ret pe_bl))
        pss_nil))
        (pss_one (ps_if (PW.pt (pw_or (pt_not (pt_val (pe_callC c__law_is_lot hr (by rfl) (pa_cons (pv 8) (pa_cons (pv 3) pa_nil))))) (pw_or1 (pt_not (pt_val (pe_callC c__law_lacks hr (by rfl) (pa_cons (pv 2) (pa_cons (pv 6) (pa_cons (pv 8) pa_nil)))))))))
        (pss_one (ps_ret pe_bl))
        pss_nil))))))))
      (pss_cons (ps_set (i := 9) sc_law.nd rfl (by first | exact Or.inl rfl | exact Or.inr rfl) (pe_callC c__law_wrong_wishes hr (by rfl) (pa_cons (pv 1) (pa_cons (pv 6) pa_nil))))
      (pss_cons (ps_set (i := 10) sc_law.nd rfl (by first | exact Or.inl rfl | exact Or.inr rfl) (pe_ix (ix_seqK K) (pe_lst (pa_cons (pe_tup (pa_cons (pv 3) pa_nil)) (pa_cons (pe_tup (pa_cons pe_int (pa_cons pe_int pa_nil))) (pa_cons (pe_tup (pa_cons (pe_un un_neg pe_int) pa_nil)) (pa_cons (pe_tup (pa_cons pe_bl pa_nil)) (pa_cons pe_non (pa_cons (pe_lst (pa_cons pe_int pa_nil)) (pa_cons (pe_tup (pa_cons pe_int (pa_cons pe_int pa_nil))) (pa_cons pe_str (pa_cons pe_int (pa_cons (pe_tup (pa_cons (pe_tup (pa_cons pe_int pa_nil)) pa_nil)) pa_nil))))))))))) (pe_callC c__law_take hr (by rfl) (pa_cons (pv 1) (pa_cons pe_int pa_nil))) (fun _ _ => rfl)))
      (pss_cons (ps_if (PW.pt (pw_or (pt_not (pt_val (pe_callC c__law_like hr (by rfl) (pa_cons (pe_callC c__law_told hr (by rfl) (pa_cons pe_int (pa_cons (pv 4) (pa_cons (pv 9) (pa_cons (pv 10) pa_nil))))) (pa_cons (pe_lst (pa_cons pe_str (pa_cons (pv 9) pa_nil))) pa_nil))))) (pw_or1 (pt_not (pt_val (pe_callC c__law_like hr (by rfl) (pa_cons (pe_callC c__law_told hr (by rfl) (pa_cons pe_int (pa_cons (pv 4) (pa_cons (pv 6) (pa_cons (pv 10) pa_nil))))) (pa_cons (pe_lst (pa_cons pe_str (pa_cons (pv 10) pa_nil))) pa_nil))))))))
        (pss_one (ps_ret pe_bl))
        pss_nil)
      (pss_one (ps_ret (pe_callC c__law_like hr (by rfl) (pa_cons (pe_callC c__law_told hr (by rfl) (pa_cons pe_int (pa_cons (pv 4) (pa_cons (pv 9) (pa_cons pe_non pa_nil))))) (pa_cons (pe_lst (pa_cons pe_str (pa_cons (pv 9) pa_nil))) pa_nil))))))))))))), fun ns hns => ?_⟩)
  show Sv K J0 [.d (.lst (ns.map Dt.int)), .no, .no, .no, .no, .no, .no, .no, .no, .no, .no] _ _
  refine sv_hand (he_start _ 10) (em_call (ea_cons (ev_var rfl (ea_cons (ev_int (ea_nil ⟨ns, 300, rfl, by decide, hns, fun ds => ⟨ds, rfl, fun h d => ?_⟩⟩))))))
  show Sv K (Jh h d) [.d (.lst (ns.map Dt.int)), .hand, .no, .no, .no, .no, .no, .no, .no, .no, .no] _ _
  refine sv_seq (sv_asg (ev_call (ea_hand rfl (ea_cons (ev_int (ea_nil ⟨5, rfl, by decide, by decide, fun ra ro rt h0 hrm ho ht h1 h2 h3 => ?_⟩))))))
  have h8 : ra.length ≤ 8 := by omega
  refine sv_seq (sv_asg (ev_cb (ed_cons (ev_op (ev_var rfl (ev_int (o2_ixT (d := lotD ra) rfl (ed_nil (oc_lenT ?_)))))))))
  rw [nats_len]
  refine sv_seq (sv_asg (ev_make (ea_cons (ev_op (ev_var rfl (ev_int (o2_ixT (d := lotD ra) rfl (ea_cons (ev_op (ev_var rfl (ev_int (o2_ixT (d := lotD ro) rfl (ea_cons (ev_op (ev_var rfl (ev_int (o2_ixT (d := lotD rt) rfl (ea_nil (cluster_ok h0 h8 ho ht h1 h2 h3 ?_)))))))))))))))))))
  have hcl : ClG [("racks", lotD ra), ("rooms", lotD ro), ("rates", lotD rt), ("store_count", .int (ra.length : Int))] ra ro := ⟨rfl, rfl, rfl, ho, by omega⟩
  have lotT : ∀ l : List Nat, l.Pairwise (· < ·) → (∀ v ∈ l, v < ra.length) → lotB (ra.length : Int) (lotD l) = true := fun l h1 h2 => rises_yes2 (a := 0) h1 fun v hv => ⟨Nat.zero_le _, h2 v hv⟩
  refine sv_toM (sm_seq (sm_for [5] (eim_range (edm fun MV => ed_cons (ev_int (ed_nil ⟨2, rfl, by decide, by decide, fun k M' e => ∃ s5 s6 s7 s8, e = [.d (.lst (ns.map Dt.int)), .hand, .d (.tup [lotD ra, lotD ro, lotD rt]), .d (.int (ra.length : Int)), .d (clD C_Cluster ra ro rt), s5, s6, s7, s8, .no, .no] ∧ (k = 0 ∨ ∃ ws : List Nat, s6 = .d (lotD ws) ∧ ws.length ≤ 5 ∧ ∀ x ∈ ws, 1 ≤ x ∧ x ≤ 3), ⟨_, _, _, _, rfl, .inl rfl⟩, ?_, ?_⟩))))))
  · rintro k dd M' e hd ⟨s5, s6, s7, s8, rfl, _⟩
    obtain ⟨rfl, hk⟩ := range_at hd
    refine ⟨ag0, fun MV => gt_name (by decide) (sm_seq (sm_asg (evm fun MV => ev_call (ea_hand rfl (ea_cons (ev_call (ea_hand rfl (ea_cons (ev_int (ea_nil ⟨6, rfl, by decide, fun y hy0 hy => ?_⟩))))))))))⟩
    obtain ⟨m, rfl⟩ : ∃ m : Nat, y = (m : Int) := ⟨y.toNat, by omega⟩
    refine ea_nil ⟨m, rfl, by omega, fun ws hwl hws => ?_⟩
    have hwz : ws.length ≤ 1000 := by omega
    have pws : Pur (lotD ws) := pur_lot (by omega)
    have hwz2 : ∀ ws' : List Nat, lotD ws = lotD ws' → wishB (lotD ws) = true → ws'.length ≤ 1000 := fun ws' e _ => by cases lotD_inj e; exact hwz
    have hwn : ∀ {q : Prop}, wishB (lotD ws) = false → q := fun z => by rw [wish_yes hws] at z; cases z
    show SvM K (Jh h d) M' [.d (.lst (ns.map Dt.int)), .hand, .d (.tup [lotD ra, lotD ro, lotD rt]), .d (.int (ra.length : Int)), .d (clD C_Cluster ra ro rt), .d (.int (k : Nat)), .d (lotD ws), s7, s8, .no, .no] _ _
    refine sm_seq (sm_for [7] (eim_seq (evm fun MV => Em.ev (em_call (ea_cons (ev_var rfl (ea_nil ⟨ra.length, rfl, by omega, _, .inl rfl, fun j M2 e => ∃ s7, e = [.d (.lst (ns.map Dt.int)), .hand, .d (.tup [lotD ra, lotD ro, lotD rt]), .d (.int (ra.length : Int)), .d (clD C_Cluster ra ro rt), .d (.int (k : Nat)), .d (lotD ws), s7, s8, .no, .no], ⟨_, rfl⟩, ?_, ?_⟩)))))))
    · rintro j dd M2 e hd ⟨s7, rfl⟩
      rw [List.getElem?_map] at hd
      cases hl : (lotsTo ra.length)[j]? with
      | none => rw [hl] at hd; cases hd
      | some l =>
      rw [hl] at hd
      cases hd
      have hlo := lotsTo_ok (List.mem_of_getElem? hl)
      have hl8 := up_le hlo.1 hlo.2
      refine ⟨ag0, fun MV => gt_name (by decide) (sm_if (etm fun MV => et_not (et_B (ev_call (ea_cons (ev_callX (ea_cons (ev_var rfl (ea_cons (ev_var rfl (ea_cons (ev_var rfl (ea_nil ⟨_, ra, ro, _, _, rfl, hcl, h8, pws, pur_lot (by omega), hwz2, fun z => hwn z, fun ws' e hws' => ⟨fun z => (by rw [lotT l hlo.1 hlo.2] at z; cases z), fun _ l' e' hl1 hl2 => ?_⟩⟩)))))))))))))⟩
      cases lotD_inj e
      cases lotD_inj e'
      refine ea_cons (ev_call (ea_cons (ev_var rfl (ea_cons (ev_var rfl (ea_cons (ev_var rfl (ea_nil ⟨ra, ro, rt, ws, l, rfl, ho, by omega, hwz, by omega, hlo.2, ea_nil ⟨_, rfl, .bl _ _, true, rfl, fun z => (nomatch z), fun _ => sm_next ⟨_, rfl⟩⟩⟩))))))))
    rintro M2 e ⟨s7, rfl⟩
    refine ⟨ag0, ?_⟩
    refine sm_seq (sm_asg (evm_call0 (eam fun MV => ea_cons (ev_var rfl (ea_cons (ev_var rfl (ea_nil ⟨_, ra, ro, _, rfl, hcl, h8, pws, hwz2, fun z => hwn z, fun ws' e hws' => ?_⟩)))))))
    cases lotD_inj e
    refine ⟨fun hno => ?_, fun l hl hb => ?_⟩
    · refine sm_if (etm fun MV => et_test (ev_op (ev_var rfl (ev_non (o2_isN (x := .non) ⟨true, rfl, fun _ => ?_, fun z => (nomatch z)⟩)))))
      refine sm_if (etm fun MV => et_B (ev_call (ea_cons (ev_var rfl (ea_cons (ev_var rfl (ea_nil ⟨ra, ro, rt, ws, rfl, ho, h8, hwz, _, rfl, fun hb => ?_, fun hb => sm_next ⟨_, _, _, _, rfl, .inr ⟨ws, rfl, by omega, hws⟩⟩⟩)))))))
      obtain ⟨l, hl, hb⟩ := List.any_eq_true.mp hb
      rw [hno l hl] at hb
      cases hb
    · have hlo := lotsTo_ok hl
      have hl8 := up_le hlo.1 hlo.2
      refine sm_if (etm fun MV => et_test (ev_op (ev_var rfl (ev_non (o2_isN (x := lotD l) ⟨false, rfl, fun z => (nomatch z), fun _ => ?_⟩)))))
      refine sm_if (etm fun MV => et_or (et_not (et_B (ev_call (ea_cons (ev_var rfl (ea_cons (ev_var rfl (ea_nil ⟨lotD l, _, rfl, pur_lot (by omega), _, rfl, fun hb2 => ?_, fun hb2 => ?_⟩)))))))))
      · rw [lotT l hlo.1 hlo.2] at hb2; cases hb2
      · refine et_not (et_B (ev_call (ea_cons (ev_var rfl (ea_cons (ev_var rfl (ea_cons (ev_var rfl (ea_nil ⟨ra, ro, rt, ws, l, rfl, ho, by omega, hwz, by omega, hlo.2, _, rfl, fun hb3 => ?_, fun hb3 => sm_next ⟨_, _, _, _, rfl, .inr ⟨ws, rfl, by omega, hws⟩⟩⟩)))))))))
        rw [hb] at hb3; cases hb3
  rintro M' e ⟨s5, s6, s7, s8, rfl, hor⟩
  refine ⟨ag0, ?_⟩
  obtain ⟨ws, rfl, hwl, hws⟩ := hor.resolve_left (by decide)
  have pws : Pur (lotD ws) := pur_lot (by omega)
  refine sm_seq (sm_asg (evm fun MV => ev_call (ea_hand rfl (ea_cons (ev_var rfl (ea_nil ⟨ws, rfl, by omega, hws, fun nn fnone wnone => ?_⟩))))))
  show SvM K (Jh h d) M' [.d (.lst (ns.map Dt.int)), .hand, .d (.tup [lotD ra, lotD ro, lotD rt]), .d (.int (ra.length : Int)), .d (clD C_Cluster ra ro rt), s5, .d (lotD ws), s7, s8, .d nn, .no] _ _
  refine sm_seq (sm_asg (evm fun MV => ?_))
  repeat walk_at "E"
  refine ⟨10, rfl, by decide, fun y hy0 hy => ?_⟩
  refine o2_pickP (fun d => Flat 3 d ∧ lotB (ra.length : Int) d = false) ?_ hy0 hy fun wr hwr => ?_
  · intro z hz
    simp only [List.mem_cons, List.not_mem_nil, or_false] at hz
    rcases hz with rfl | rfl | rfl | rfl | rfl | rfl | rfl | rfl | rfl | rfl
    · exact ⟨flat_of_B rfl, by simp [lotB, risesB]; omega⟩
    · exact ⟨flat_of_B rfl, by simp [lotB, risesB]⟩
    · exact ⟨flat_of_B rfl, rfl⟩
    · exact ⟨flat_of_B rfl, rfl⟩
    · exact ⟨flat_of_B rfl, rfl⟩
    · exact ⟨flat_of_B rfl, rfl⟩
    · exact ⟨flat_of_B rfl, by simp [lotB, risesB]⟩
    · exact ⟨flat_of_B rfl, rfl⟩
    · exact ⟨flat_of_B rfl, rfl⟩
    · exact ⟨flat_of_B rfl, rfl⟩
  obtain ⟨fwr, hwr⟩ := hwr
  have fl2 : ∀ {t : Str} {z : Dt}, Flat 3 z → Flat 8 (.lst [.str t, z]) := fun {t z} hz => .lst 7 _ (Nat.le_of_ble_eq_true rfl) fun d hd => (by
    simp only [List.mem_cons, List.not_mem_nil, or_false] at hd
    rcases hd with rfl | rfl
    · exact .str _ _
    · exact hz.mono (by decide))
  have nno : ∀ ws' : List Nat, nn = lotD ws' → wishB nn = true → ws'.length ≤ 1000 := fun ws' e z => by rw [wnone] at z; cases z
  have nno2 : ∀ {q : Prop} (ws' : List Nat), nn = lotD ws' → (∀ x ∈ ws', 1 ≤ x ∧ x ≤ 3) → q := fun ws' e h => by subst e; rw [wish_yes h] at wnone; cases wnone
  refine sm_seq (sm_if (etm fun MV => et_or (et_not (et_B (ev_call (ea_cons (ev_call (ea_cons (ev_int (ea_cons (ev_var rfl (ea_cons (ev_var rfl (ea_cons (ev_var rfl (ea_nil ⟨0, _, ra, ro, nn, wr, rfl, hcl, h8, .of fnone, fun _ => .of fwr, nno, fun _ => ?_, fun ws' e h => nno2 ws' e h⟩))))))))))))))))
  refine ea_cons (ev_lst (ed_cons (ev_str (ed_cons (ev_var rfl (ed_nil ⟨Nat.le_of_ble_eq_true rfl, ea_nil ⟨_, rfl, fl2 fnone, true, rfl, fun z => (nomatch z), fun _ => ?_⟩⟩))))))
  refine et_not (et_B (ev_call (ea_cons (ev_call (ea_cons (ev_int (ea_cons (ev_var rfl (ea_cons (ev_var rfl (ea_cons (ev_var rfl (ea_nil ⟨0, _, ra, ro, lotD ws, wr, rfl, hcl, h8, pws, fun _ => .of fwr, fun ws' e _ => (by cases lotD_inj e; omega), fun z => (by rw [wish_yes hws] at z; cases z), fun ws' e h => ⟨rfl, hwr, ?_⟩⟩)))))))))))))
  refine ea_cons (ev_lst (ed_cons (ev_str (ed_cons (ev_var rfl (ed_nil ⟨Nat.le_of_ble_eq_true rfl, ea_nil ⟨_, rfl, fl2 fwr, true, rfl, fun z => (nomatch z), fun _ => sm_next ?_⟩⟩))))))
  refine sm_ret (evm fun MV => ev_call (ea_cons (ev_call (ea_cons (ev_int (ea_cons (ev_var rfl (ea_cons (ev_var rfl (ea_cons (ev_non (ea_nil ⟨1, _, ra, ro, nn, .non, rfl, hcl, h8, .of fnone, fun z => (nomatch z), nno, fun _ => ?_, fun ws' e h => nno2 ws' e h⟩))))))))))))
  exact ea_cons (ev_lst (ed_cons (ev_str (ed_cons (ev_var rfl (ed_nil ⟨Nat.le_of_ble_eq_true rfl, ea_nil ⟨_, rfl, fl2 fnone, rfl⟩⟩))))))
theorem all_mk {l : PySem.W.OpenLaw} {w : World} {K : PySem.W.Frag} {h : Heap} {mg : Str → Option Value} {fa C_InvalidCluster f_InvalidCluster__init__ C_InvalidWishes f_InvalidWishes__init__ C_InvalidLot f_InvalidLot__init__ C_Cluster f_Cluster__init__ f_is_integer f_is_within f_is_lot f_is_wishes f_check_wishes f_check_part f__law_draws f__law_take f__law_like f__law_within f__law_cluster f__law_wishes f__law_is_lot f__law_wrong_wishes f__law_lots f__law_lacks f__law_any_lacks f_falls_short f_lacks_room f_lot_lacking f__law_told f_law A_WISH_BOUNDS A_RACK_BOUNDS A_ROOM_BOUNDS A_RATE_BOUNDS M0 : Addr} (X : K.In h) (G : h.Ns mainGlobals mg) (hfa : mg "law" = some (.ref fa))
    {od_InvalidCluster__init__ an_InvalidCluster__init__ od_InvalidWishes__init__ an_InvalidWishes__init__ od_InvalidLot__init__ an_InvalidLot__init__ od_Cluster__init__ an_Cluster__init__ od_is_integer an_is_integer od_is_within an_is_within od_is_lot an_is_lot od_is_wishes an_is_wishes od_check_wishes an_check_wishes od_check_part an_check_part od__law_draws an__law_draws od__law_take an__law_take od__law_like an__law_like od__law_within an__law_within od__law_cluster an__law_cluster od__law_wishes an__law_wishes od__law_is_lot an__law_is_lot od__law_wrong_wishes an__law_wrong_wishes od__law_lots an__law_lots od__law_lacks an__law_lacks od__law_any_lacks an__law_any_lacks od_falls_short an_falls_short od_lacks_room an_lacks_room od_lot_lacking an_lot_lacking od__law_told an__law_told od_law an_law : Option Addr} {sl_InvalidCluster__init__ sl_InvalidWishes__init__ sl_InvalidLot__init__ sl_Cluster__init__ sl_is_integer sl_is_within sl_is_lot sl_is_wishes sl_check_wishes sl_check_part sl__law_draws sl__law_take sl__law_like sl__law_within sl__law_cluster sl__law_wishes sl__law_is_lot sl__law_wrong_wishes sl__law_lots sl__law_lacks sl__law_any_lacks sl_falls_short sl_lacks_room sl_lot_lacking sl__law_told sl_law : Array (Option Value)} {oc_InvalidCluster__init__ kV_InvalidCluster__init__ dc_InvalidCluster__init__ pm_InvalidCluster__init__ cd_InvalidCluster__init__ ct_InvalidCluster__init__ oc_InvalidWishes__init__ kV_InvalidWishes__init__ dc_InvalidWishes__init__ pm_InvalidWishes__init__ cd_InvalidWishes__init__ ct_InvalidWishes__init__ oc_InvalidLot__init__ kV_InvalidLot__init__ dc_InvalidLot__init__ pm_InvalidLot__init__ cd_InvalidLot__init__ ct_InvalidLot__init__ oc_Cluster__init__ kV_Cluster__init__ dc_Cluster__init__ pm_Cluster__init__ cd_Cluster__init__ ct_Cluster__init__ oc_is_integer kV_is_integer dc_is_integer pm_is_integer cd_is_integer ct_is_integer oc_is_within kV_is_within dc_is_within pm_is_within cd_is_within ct_is_within oc_is_lot kV_is_lot dc_is_lot pm_is_lot cd_is_lot ct_is_lot oc_is_wishes kV_is_wishes dc_is_wishes pm_is_wishes cd_is_wishes ct_is_wishes oc_check_wishes kV_check_wishes dc_check_wishes pm_check_wishes cd_check_wishes ct_check_wishes oc_check_part kV_check_part dc_check_part pm_check_part cd_check_part ct_check_part oc__law_draws kV__law_draws dc__law_draws pm__law_draws cd__law_draws ct__law_draws oc__law_take kV__law_take dc__law_take pm__law_take cd__law_take ct__law_take oc__law_like kV__law_like dc__law_like pm__law_like cd__law_like ct__law_like oc__law_within kV__law_within dc__law_within pm__law_within cd__law_within ct__law_within oc__law_cluster kV__law_cluster dc__law_cluster pm__law_cluster cd__law_cluster ct__law_cluster oc__law_wishes kV__law_wishes dc__law_wishes pm__law_wishes cd__law_wishes ct__law_wishes oc__law_is_lot kV__law_is_lot dc__law_is_lot pm__law_is_lot cd__law_is_lot ct__law_is_lot oc__law_wrong_wishes kV__law_wrong_wishes dc__law_wrong_wishes pm__law_wrong_wishes cd__law_wrong_wishes ct__law_wrong_wishes oc__law_lots kV__law_lots dc__law_lots pm__law_lots cd__law_lots ct__law_lots oc__law_lacks kV__law_lacks dc__law_lacks pm__law_lacks cd__law_lacks ct__law_lacks oc__law_any_lacks kV__law_any_lacks dc__law_any_lacks pm__law_any_lacks cd__law_any_lacks ct__law_any_lacks oc_falls_short kV_falls_short dc_falls_short pm_falls_short cd_falls_short ct_falls_short oc_lacks_room kV_lacks_room dc_lacks_room pm_lacks_room cd_lacks_room ct_lacks_room oc_lot_lacking kV_lot_lacking dc_lot_lacking pm_lot_lacking cd_lot_lacking ct_lot_lacking oc__law_told kV__law_told dc__law_told pm__law_told cd__law_told ct__law_told oc_law kV_law dc_law pm_law cd_law ct_law : Value}
    {nm_InvalidCluster q_InvalidCluster : Str} {N_InvalidCluster : Addr} {bs_InvalidCluster : List Value} {sn_InvalidCluster : List Str} {sub_InvalidCluster : List Value} {ab_InvalidCluster : Bool} {col_InvalidCluster : Option Bool} {dd_InvalidCluster : Option Addr} {m0_InvalidCluster m1_InvalidCluster m2_InvalidCluster m3_InvalidCluster m5_InvalidCluster : Option Value}
    {nm_InvalidWishes q_InvalidWishes : Str} {N_InvalidWishes : Addr} {bs_InvalidWishes : List Value} {sn_InvalidWishes : List Str} {sub_InvalidWishes : List Value} {ab_InvalidWishes : Bool} {col_InvalidWishes : Option Bool} {dd_InvalidWishes : Option Addr} {m0_InvalidWishes m1_InvalidWishes m2_InvalidWishes m3_InvalidWishes m5_InvalidWishes : Option Value}
    {nm_InvalidLot q_InvalidLot : Str} {N_InvalidLot : Addr} {bs_InvalidLot : List Value} {sn_InvalidLot : List Str} {sub_InvalidLot : List Value} {ab_InvalidLot : Bool} {col_InvalidLot : Option Bool} {dd_InvalidLot : Option Addr} {m0_InvalidLot m1_InvalidLot m2_InvalidLot m3_InvalidLot m5_InvalidLot : Option Value}
    {od_WISH_BOUNDS : Option Addr} {n_WISH_BOUNDS : Nat} {sl_WISH_BOUNDS : Array (Option Value)} {t0_WISH_BOUNDS t1_WISH_BOUNDS : Tok}
    {od_RACK_BOUNDS : Option Addr} {n_RACK_BOUNDS : Nat} {sl_RACK_BOUNDS : Array (Option Value)} {t0_RACK_BOUNDS t1_RACK_BOUNDS : Tok}
    {t_MOST_STORES : Tok}
    {od_ROOM_BOUNDS : Option Addr} {n_ROOM_BOUNDS : Nat} {sl_ROOM_BOUNDS : Array (Option Value)} {t0_ROOM_BOUNDS t1_ROOM_BOUNDS : Tok}
    {od_RATE_BOUNDS : Option Addr} {n_RATE_BOUNDS : Nat} {sl_RATE_BOUNDS : Array (Option Value)} {t0_RATE_BOUNDS t1_RATE_BOUNDS : Tok}
    (a_InvalidCluster : PySem.W.nsIn K mainGlobals "InvalidCluster" = some (some (.ref C_InvalidCluster)))
    (xl_InvalidCluster : K.lookup C_InvalidCluster = some (excClassObj nm_InvalidCluster q_InvalidCluster C_InvalidCluster N_InvalidCluster bs_InvalidCluster [.ref M0, .type "ValueError", .type "Exception", .type "BaseException", .type "object"] true sn_InvalidCluster sub_InvalidCluster ab_InvalidCluster col_InvalidCluster dd_InvalidCluster m0_InvalidCluster m1_InvalidCluster m2_InvalidCluster m3_InvalidCluster m5_InvalidCluster "ValueError.__new__"))
    (sa_InvalidCluster : PySem.W.findIn K (.ref C_InvalidCluster) "__setattr__" = some (some (.builtin "object.__setattr__")))
    (ga_InvalidCluster : PySem.W.findIn K (.ref C_InvalidCluster) "__getattribute__" = some (some (.builtin "BaseException.__getattribute__")))
    (gg_InvalidCluster : PySem.W.findIn K (.ref C_InvalidCluster) "__getattr__" = some none)
    (nf_InvalidCluster_part : PySem.W.findIn K (.ref C_InvalidCluster) "part" = some none)
    (nf_InvalidCluster_place : PySem.W.findIn K (.ref C_InvalidCluster) "place" = some none)
    (iC_InvalidCluster : PySem.W.findIn K (.ref C_InvalidCluster) "__init__" = some (some (.ref f_InvalidCluster__init__)))
    (tI_InvalidCluster : PySem.W.typeIn K (.ref f_InvalidCluster__init__) = some (.type "function"))
    (kC_InvalidCluster : PySem.W.keepIn K (.ref C_InvalidCluster) = true)
    (eC_InvalidCluster : PySem.W.subIn K (.ref C_InvalidCluster) (.type "BaseException") = some true)
    (tC_InvalidCluster : PySem.W.typeIn K (.ref C_InvalidCluster) = some (.type "type"))
    (hC_InvalidCluster : PySem.W.hasDictIn K C_InvalidCluster = true)
    (iK_InvalidCluster : PySem.W.isClsIn K C_InvalidCluster = true)
    (l_InvalidCluster__init__ : K.lookup f_InvalidCluster__init__ = some ⟨oc_InvalidCluster__init__, od_InvalidCluster__init__, .func (PySem.W.fnOf "__init__" "InvalidCluster.__init__" (defArgs s_InvalidCluster__init__) (defBody s_InvalidCluster__init__) (defScope s_InvalidCluster__init__) .none kV_InvalidCluster__init__ dc_InvalidCluster__init__ pm_InvalidCluster__init__ an_InvalidCluster__init__ cd_InvalidCluster__init__ ct_InvalidCluster__init__), sl_InvalidCluster__init__⟩)
    (d_InvalidCluster__init__ : PySem.W.codeIn K cd_InvalidCluster__init__ "InvalidCluster.__init__" = true)
    (k_InvalidCluster__init__ : PySem.W.keepIn K (.ref f_InvalidCluster__init__) = true)
    (a_InvalidWishes : PySem.W.nsIn K mainGlobals "InvalidWishes" = some (some (.ref C_InvalidWishes)))
    (xl_InvalidWishes : K.lookup C_InvalidWishes = some (excClassObj nm_InvalidWishes q_InvalidWishes C_InvalidWishes N_InvalidWishes bs_InvalidWishes [.ref M0, .type "ValueError", .type "Exception", .type "BaseException", .type "object"] true sn_InvalidWishes sub_InvalidWishes ab_InvalidWishes col_InvalidWishes dd_InvalidWishes m0_InvalidWishes m1_InvalidWishes m2_InvalidWishes m3_InvalidWishes m5_InvalidWishes "ValueError.__new__"))
    (sa_InvalidWishes : PySem.W.findIn K (.ref C_InvalidWishes) "__setattr__" = some (some (.builtin "object.__setattr__")))
    (ga_InvalidWishes : PySem.W.findIn K (.ref C_InvalidWishes) "__getattribute__" = some (some (.builtin "BaseException.__getattribute__")))
    (gg_InvalidWishes : PySem.W.findIn K (.ref C_InvalidWishes) "__getattr__" = some none)
    (nf_InvalidWishes_value : PySem.W.findIn K (.ref C_InvalidWishes) "value" = some none)
    (iC_InvalidWishes : PySem.W.findIn K (.ref C_InvalidWishes) "__init__" = some (some (.ref f_InvalidWishes__init__)))
    (tI_InvalidWishes : PySem.W.typeIn K (.ref f_InvalidWishes__init__) = some (.type "function"))
    (kC_InvalidWishes : PySem.W.keepIn K (.ref C_InvalidWishes) = true)
    (eC_InvalidWishes : PySem.W.subIn K (.ref C_InvalidWishes) (.type "BaseException") = some true)
    (tC_InvalidWishes : PySem.W.typeIn K (.ref C_InvalidWishes) = some (.type "type"))
    (hC_InvalidWishes : PySem.W.hasDictIn K C_InvalidWishes = true)
    (iK_InvalidWishes : PySem.W.isClsIn K C_InvalidWishes = true)
    (l_InvalidWishes__init__ : K.lookup f_InvalidWishes__init__ = some ⟨oc_InvalidWishes__init__, od_InvalidWishes__init__, .func (PySem.W.fnOf "__init__" "InvalidWishes.__init__" (defArgs s_InvalidWishes__init__) (defBody s_InvalidWishes__init__) (defScope s_InvalidWishes__init__) .none kV_InvalidWishes__init__ dc_InvalidWishes__init__ pm_InvalidWishes__init__ an_InvalidWishes__init__ cd_InvalidWishes__init__ ct_InvalidWishes__init__), sl_InvalidWishes__init__⟩)
    (d_InvalidWishes__init__ : PySem.W.codeIn K cd_InvalidWishes__init__ "InvalidWishes.__init__" = true)
    (k_InvalidWishes__init__ : PySem.W.keepIn K (.ref f_InvalidWishes__init__) = true)
    (a_InvalidLot : PySem.W.nsIn K mainGlobals "InvalidLot" = some (some (.ref C_InvalidLot)))
    (xl_InvalidLot : K.lookup C_InvalidLot = some (excClassObj nm_InvalidLot q_InvalidLot C_InvalidLot N_InvalidLot bs_InvalidLot [.ref M0, .type "ValueError", .type "Exception", .type "BaseException", .type "object"] true sn_InvalidLot sub_InvalidLot ab_InvalidLot col_InvalidLot dd_InvalidLot m0_InvalidLot m1_InvalidLot m2_InvalidLot m3_InvalidLot m5_InvalidLot "ValueError.__new__"))
    (sa_InvalidLot : PySem.W.findIn K (.ref C_InvalidLot) "__setattr__" = some (some (.builtin "object.__setattr__")))
    (ga_InvalidLot : PySem.W.findIn K (.ref C_InvalidLot) "__getattribute__" = some (some (.builtin "BaseException.__getattribute__")))
    (gg_InvalidLot : PySem.W.findIn K (.ref C_InvalidLot) "__getattr__" = some none)
    (nf_InvalidLot_value : PySem.W.findIn K (.ref C_InvalidLot) "value" = some none)
    (iC_InvalidLot : PySem.W.findIn K (.ref C_InvalidLot) "__init__" = some (some (.ref f_InvalidLot__init__)))
    (tI_InvalidLot : PySem.W.typeIn K (.ref f_InvalidLot__init__) = some (.type "function"))
    (kC_InvalidLot : PySem.W.keepIn K (.ref C_InvalidLot) = true)
    (eC_InvalidLot : PySem.W.subIn K (.ref C_InvalidLot) (.type "BaseException") = some true)
    (tC_InvalidLot : PySem.W.typeIn K (.ref C_InvalidLot) = some (.type "type"))
    (hC_InvalidLot : PySem.W.hasDictIn K C_InvalidLot = true)
    (iK_InvalidLot : PySem.W.isClsIn K C_InvalidLot = true)
    (l_InvalidLot__init__ : K.lookup f_InvalidLot__init__ = some ⟨oc_InvalidLot__init__, od_InvalidLot__init__, .func (PySem.W.fnOf "__init__" "InvalidLot.__init__" (defArgs s_InvalidLot__init__) (defBody s_InvalidLot__init__) (defScope s_InvalidLot__init__) .none kV_InvalidLot__init__ dc_InvalidLot__init__ pm_InvalidLot__init__ an_InvalidLot__init__ cd_InvalidLot__init__ ct_InvalidLot__init__), sl_InvalidLot__init__⟩)
    (d_InvalidLot__init__ : PySem.W.codeIn K cd_InvalidLot__init__ "InvalidLot.__init__" = true)
    (k_InvalidLot__init__ : PySem.W.keepIn K (.ref f_InvalidLot__init__) = true)
    (a_Cluster : PySem.W.nsIn K mainGlobals "Cluster" = some (some (.ref C_Cluster)))
    (iC_Cluster : PySem.W.findIn K (.ref C_Cluster) "__init__" = some (some (.ref f_Cluster__init__)))
    (fI_Cluster : PySem.W.isFn K (.ref f_Cluster__init__) = true)
    (pg_Cluster : PySem.W.plainGet K C_Cluster Str.empty = true)
    (hd_Cluster : PySem.W.hasDictIn K C_Cluster = true)
    (po_Cluster : PySem.W.plainOver K C_Cluster = true)
    (sa_Cluster : PySem.W.findIn K (.ref C_Cluster) "__setattr__" = some (some (.builtin "object.__setattr__")))
    (mk0_Cluster : PySem.W.makesIn K C_Cluster = true)
    (kC_Cluster : PySem.W.keepIn K (.ref C_Cluster) = true)
    (nf_Cluster_racks : PySem.W.findIn K (.ref C_Cluster) "racks" = some none)
    (nf_Cluster_rooms : PySem.W.findIn K (.ref C_Cluster) "rooms" = some none)
    (nf_Cluster_rates : PySem.W.findIn K (.ref C_Cluster) "rates" = some none)
    (nf_Cluster_store_count : PySem.W.findIn K (.ref C_Cluster) "store_count" = some none)
    (l_Cluster__init__ : K.lookup f_Cluster__init__ = some ⟨oc_Cluster__init__, od_Cluster__init__, .func (PySem.W.fnOf "__init__" "Cluster.__init__" (defArgs s_Cluster__init__) (defBody s_Cluster__init__) (defScope s_Cluster__init__) .none kV_Cluster__init__ dc_Cluster__init__ pm_Cluster__init__ an_Cluster__init__ cd_Cluster__init__ ct_Cluster__init__), sl_Cluster__init__⟩)
    (d_Cluster__init__ : PySem.W.codeIn K cd_Cluster__init__ "Cluster.__init__" = true)
    (k_Cluster__init__ : PySem.W.keepIn K (.ref f_Cluster__init__) = true)
    (a_is_integer : PySem.W.nsIn K mainGlobals "is_integer" = some (some (.ref f_is_integer)))
    (l_is_integer : K.lookup f_is_integer = some ⟨oc_is_integer, od_is_integer, .func (PySem.W.fnOf "is_integer" "is_integer" (defArgs s_is_integer) (defBody s_is_integer) (defScope s_is_integer) .none kV_is_integer dc_is_integer pm_is_integer an_is_integer cd_is_integer ct_is_integer), sl_is_integer⟩)
    (d_is_integer : PySem.W.codeIn K cd_is_integer "is_integer" = true)
    (k_is_integer : PySem.W.keepIn K (.ref f_is_integer) = true)
    (a_is_within : PySem.W.nsIn K mainGlobals "is_within" = some (some (.ref f_is_within)))
    (l_is_within : K.lookup f_is_within = some ⟨oc_is_within, od_is_within, .func (PySem.W.fnOf "is_within" "is_within" (defArgs s_is_within) (defBody s_is_within) (defScope s_is_within) .none kV_is_within dc_is_within pm_is_within an_is_within cd_is_within ct_is_within), sl_is_within⟩)
    (d_is_within : PySem.W.codeIn K cd_is_within "is_within" = true)
    (k_is_within : PySem.W.keepIn K (.ref f_is_within) = true)
    (a_is_lot : PySem.W.nsIn K mainGlobals "is_lot" = some (some (.ref f_is_lot)))
    (l_is_lot : K.lookup f_is_lot = some ⟨oc_is_lot, od_is_lot, .func (PySem.W.fnOf "is_lot" "is_lot" (defArgs s_is_lot) (defBody s_is_lot) (defScope s_is_lot) .none kV_is_lot dc_is_lot pm_is_lot an_is_lot cd_is_lot ct_is_lot), sl_is_lot⟩)
    (d_is_lot : PySem.W.codeIn K cd_is_lot "is_lot" = true)
    (k_is_lot : PySem.W.keepIn K (.ref f_is_lot) = true)
    (a_is_wishes : PySem.W.nsIn K mainGlobals "is_wishes" = some (some (.ref f_is_wishes)))
    (l_is_wishes : K.lookup f_is_wishes = some ⟨oc_is_wishes, od_is_wishes, .func (PySem.W.fnOf "is_wishes" "is_wishes" (defArgs s_is_wishes) (defBody s_is_wishes) (defScope s_is_wishes) .none kV_is_wishes dc_is_wishes pm_is_wishes an_is_wishes cd_is_wishes ct_is_wishes), sl_is_wishes⟩)
    (d_is_wishes : PySem.W.codeIn K cd_is_wishes "is_wishes" = true)
    (k_is_wishes : PySem.W.keepIn K (.ref f_is_wishes) = true)
    (a_check_wishes : PySem.W.nsIn K mainGlobals "check_wishes" = some (some (.ref f_check_wishes)))
    (l_check_wishes : K.lookup f_check_wishes = some ⟨oc_check_wishes, od_check_wishes, .func (PySem.W.fnOf "check_wishes" "check_wishes" (defArgs s_check_wishes) (defBody s_check_wishes) (defScope s_check_wishes) .none kV_check_wishes dc_check_wishes pm_check_wishes an_check_wishes cd_check_wishes ct_check_wishes), sl_check_wishes⟩)
    (d_check_wishes : PySem.W.codeIn K cd_check_wishes "check_wishes" = true)
    (k_check_wishes : PySem.W.keepIn K (.ref f_check_wishes) = true)
    (a_check_part : PySem.W.nsIn K mainGlobals "check_part" = some (some (.ref f_check_part)))
    (l_check_part : K.lookup f_check_part = some ⟨oc_check_part, od_check_part, .func (PySem.W.fnOf "check_part" "check_part" (defArgs s_check_part) (defBody s_check_part) (defScope s_check_part) .none kV_check_part dc_check_part pm_check_part an_check_part cd_check_part ct_check_part), sl_check_part⟩)
    (d_check_part : PySem.W.codeIn K cd_check_part "check_part" = true)
    (k_check_part : PySem.W.keepIn K (.ref f_check_part) = true)
    (a__law_draws : PySem.W.nsIn K mainGlobals "_law_draws" = some (some (.ref f__law_draws)))
    (l__law_draws : K.lookup f__law_draws = some ⟨oc__law_draws, od__law_draws, .func (PySem.W.fnOf "_law_draws" "_law_draws" (defArgs s__law_draws) (defBody s__law_draws) (defScope s__law_draws) .none kV__law_draws dc__law_draws pm__law_draws an__law_draws cd__law_draws ct__law_draws), sl__law_draws⟩)
    (d__law_draws : PySem.W.codeIn K cd__law_draws "_law_draws" = true)
    (k__law_draws : PySem.W.keepIn K (.ref f__law_draws) = true)
    (a__law_take : PySem.W.nsIn K mainGlobals "_law_take" = some (some (.ref f__law_take)))
    (l__law_take : K.lookup f__law_take = some ⟨oc__law_take, od__law_take, .func (PySem.W.fnOf "_law_take" "_law_take" (defArgs s__law_take) (defBody s__law_take) (defScope s__law_take) .none kV__law_take dc__law_take pm__law_take an__law_take cd__law_take ct__law_take), sl__law_take⟩)
    (d__law_take : PySem.W.codeIn K cd__law_take "_law_take" = true)
    (k__law_take : PySem.W.keepIn K (.ref f__law_take) = true)
    (a__law_like : PySem.W.nsIn K mainGlobals "_law_like" = some (some (.ref f__law_like)))
    (l__law_like : K.lookup f__law_like = some ⟨oc__law_like, od__law_like, .func (PySem.W.fnOf "_law_like" "_law_like" (defArgs s__law_like) (defBody s__law_like) (defScope s__law_like) .none kV__law_like dc__law_like pm__law_like an__law_like cd__law_like ct__law_like), sl__law_like⟩)
    (d__law_like : PySem.W.codeIn K cd__law_like "_law_like" = true)
    (k__law_like : PySem.W.keepIn K (.ref f__law_like) = true)
    (a__law_within : PySem.W.nsIn K mainGlobals "_law_within" = some (some (.ref f__law_within)))
    (l__law_within : K.lookup f__law_within = some ⟨oc__law_within, od__law_within, .func (PySem.W.fnOf "_law_within" "_law_within" (defArgs s__law_within) (defBody s__law_within) (defScope s__law_within) .none kV__law_within dc__law_within pm__law_within an__law_within cd__law_within ct__law_within), sl__law_within⟩)
    (d__law_within : PySem.W.codeIn K cd__law_within "_law_within" = true)
    (k__law_within : PySem.W.keepIn K (.ref f__law_within) = true)
    (a__law_cluster : PySem.W.nsIn K mainGlobals "_law_cluster" = some (some (.ref f__law_cluster)))
    (l__law_cluster : K.lookup f__law_cluster = some ⟨oc__law_cluster, od__law_cluster, .func (PySem.W.fnOf "_law_cluster" "_law_cluster" (defArgs s__law_cluster) (defBody s__law_cluster) (defScope s__law_cluster) .none kV__law_cluster dc__law_cluster pm__law_cluster an__law_cluster cd__law_cluster ct__law_cluster), sl__law_cluster⟩)
    (d__law_cluster : PySem.W.codeIn K cd__law_cluster "_law_cluster" = true)
    (k__law_cluster : PySem.W.keepIn K (.ref f__law_cluster) = true)
    (a__law_wishes : PySem.W.nsIn K mainGlobals "_law_wishes" = some (some (.ref f__law_wishes)))
    (l__law_wishes : K.lookup f__law_wishes = some ⟨oc__law_wishes, od__law_wishes, .func (PySem.W.fnOf "_law_wishes" "_law_wishes" (defArgs s__law_wishes) (defBody s__law_wishes) (defScope s__law_wishes) .none kV__law_wishes dc__law_wishes pm__law_wishes an__law_wishes cd__law_wishes ct__law_wishes), sl__law_wishes⟩)
    (d__law_wishes : PySem.W.codeIn K cd__law_wishes "_law_wishes" = true)
    (k__law_wishes : PySem.W.keepIn K (.ref f__law_wishes) = true)
    (a__law_is_lot : PySem.W.nsIn K mainGlobals "_law_is_lot" = some (some (.ref f__law_is_lot)))
    (l__law_is_lot : K.lookup f__law_is_lot = some ⟨oc__law_is_lot, od__law_is_lot, .func (PySem.W.fnOf "_law_is_lot" "_law_is_lot" (defArgs s__law_is_lot) (defBody s__law_is_lot) (defScope s__law_is_lot) .none kV__law_is_lot dc__law_is_lot pm__law_is_lot an__law_is_lot cd__law_is_lot ct__law_is_lot), sl__law_is_lot⟩)
    (d__law_is_lot : PySem.W.codeIn K cd__law_is_lot "_law_is_lot" = true)
    (k__law_is_lot : PySem.W.keepIn K (.ref f__law_is_lot) = true)
    (a__law_wrong_wishes : PySem.W.nsIn K mainGlobals "_law_wrong_wishes" = some (some (.ref f__law_wrong_wishes)))
    (l__law_wrong_wishes : K.lookup f__law_wrong_wishes = some ⟨oc__law_wrong_wishes, od__law_wrong_wishes, .func (PySem.W.fnOf "_law_wrong_wishes" "_law_wrong_wishes" (defArgs s__law_wrong_wishes) (defBody s__law_wrong_wishes) (defScope s__law_wrong_wishes) .none kV__law_wrong_wishes dc__law_wrong_wishes pm__law_wrong_wishes an__law_wrong_wishes cd__law_wrong_wishes ct__law_wrong_wishes), sl__law_wrong_wishes⟩)
    (d__law_wrong_wishes : PySem.W.codeIn K cd__law_wrong_wishes "_law_wrong_wishes" = true)
    (k__law_wrong_wishes : PySem.W.keepIn K (.ref f__law_wrong_wishes) = true)
    (a__law_lots : PySem.W.nsIn K mainGlobals "_law_lots" = some (some (.ref f__law_lots)))
    (l__law_lots : K.lookup f__law_lots = some ⟨oc__law_lots, od__law_lots, .func (PySem.W.fnOf "_law_lots" "_law_lots" (defArgs s__law_lots) (defBody s__law_lots) (defScope s__law_lots) .none kV__law_lots dc__law_lots pm__law_lots an__law_lots cd__law_lots ct__law_lots), sl__law_lots⟩)
    (d__law_lots : PySem.W.codeIn K cd__law_lots "_law_lots" = true)
    (k__law_lots : PySem.W.keepIn K (.ref f__law_lots) = true)
    (a__law_lacks : PySem.W.nsIn K mainGlobals "_law_lacks" = some (some (.ref f__law_lacks)))
    (l__law_lacks : K.lookup f__law_lacks = some ⟨oc__law_lacks, od__law_lacks, .func (PySem.W.fnOf "_law_lacks" "_law_lacks" (defArgs s__law_lacks) (defBody s__law_lacks) (defScope s__law_lacks) .none kV__law_lacks dc__law_lacks pm__law_lacks an__law_lacks cd__law_lacks ct__law_lacks), sl__law_lacks⟩)
    (d__law_lacks : PySem.W.codeIn K cd__law_lacks "_law_lacks" = true)
    (k__law_lacks : PySem.W.keepIn K (.ref f__law_lacks) = true)
    (a__law_any_lacks : PySem.W.nsIn K mainGlobals "_law_any_lacks" = some (some (.ref f__law_any_lacks)))
    (l__law_any_lacks : K.lookup f__law_any_lacks = some ⟨oc__law_any_lacks, od__law_any_lacks, .func (PySem.W.fnOf "_law_any_lacks" "_law_any_lacks" (defArgs s__law_any_lacks) (defBody s__law_any_lacks) (defScope s__law_any_lacks) .none kV__law_any_lacks dc__law_any_lacks pm__law_any_lacks an__law_any_lacks cd__law_any_lacks ct__law_any_lacks), sl__law_any_lacks⟩)
    (d__law_any_lacks : PySem.W.codeIn K cd__law_any_lacks "_law_any_lacks" = true)
    (k__law_any_lacks : PySem.W.keepIn K (.ref f__law_any_lacks) = true)
    (a_falls_short : PySem.W.nsIn K mainGlobals "falls_short" = some (some (.ref f_falls_short)))
    (l_falls_short : K.lookup f_falls_short = some ⟨oc_falls_short, od_falls_short, .func (PySem.W.fnOf "falls_short" "falls_short" (defArgs s_falls_short) (defBody s_falls_short) (defScope s_falls_short) .none kV_falls_short dc_falls_short pm_falls_short an_falls_short cd_falls_short ct_falls_short), sl_falls_short⟩)
    (d_falls_short : PySem.W.codeIn K cd_falls_short "falls_short" = true)
    (k_falls_short : PySem.W.keepIn K (.ref f_falls_short) = true)
    (a_lacks_room : PySem.W.nsIn K mainGlobals "lacks_room" = some (some (.ref f_lacks_room)))
    (l_lacks_room : K.lookup f_lacks_room = some ⟨oc_lacks_room, od_lacks_room, .func (PySem.W.fnOf "lacks_room" "lacks_room" (defArgs s_lacks_room) (defBody s_lacks_room) (defScope s_lacks_room) .none kV_lacks_room dc_lacks_room pm_lacks_room an_lacks_room cd_lacks_room ct_lacks_room), sl_lacks_room⟩)
    (d_lacks_room : PySem.W.codeIn K cd_lacks_room "lacks_room" = true)
    (k_lacks_room : PySem.W.keepIn K (.ref f_lacks_room) = true)
    (a_lot_lacking : PySem.W.nsIn K mainGlobals "lot_lacking" = some (some (.ref f_lot_lacking)))
    (l_lot_lacking : K.lookup f_lot_lacking = some ⟨oc_lot_lacking, od_lot_lacking, .func (PySem.W.fnOf "lot_lacking" "lot_lacking" (defArgs s_lot_lacking) (defBody s_lot_lacking) (defScope s_lot_lacking) .none kV_lot_lacking dc_lot_lacking pm_lot_lacking an_lot_lacking cd_lot_lacking ct_lot_lacking), sl_lot_lacking⟩)
    (d_lot_lacking : PySem.W.codeIn K cd_lot_lacking "lot_lacking" = true)
    (k_lot_lacking : PySem.W.keepIn K (.ref f_lot_lacking) = true)
    (a__law_told : PySem.W.nsIn K mainGlobals "_law_told" = some (some (.ref f__law_told)))
    (l__law_told : K.lookup f__law_told = some ⟨oc__law_told, od__law_told, .func (PySem.W.fnOf "_law_told" "_law_told" (defArgs s__law_told) (defBody s__law_told) (defScope s__law_told) .none kV__law_told dc__law_told pm__law_told an__law_told cd__law_told ct__law_told), sl__law_told⟩)
    (d__law_told : PySem.W.codeIn K cd__law_told "_law_told" = true)
    (k__law_told : PySem.W.keepIn K (.ref f__law_told) = true)
    (a_law : PySem.W.nsIn K mainGlobals "law" = some (some (.ref f_law)))
    (l_law : K.lookup f_law = some ⟨oc_law, od_law, .func (PySem.W.fnOf "law" "law" (defArgs s_law) (defBody s_law) (defScope s_law) .none kV_law dc_law pm_law an_law cd_law ct_law), sl_law⟩)
    (d_law : PySem.W.codeIn K cd_law "law" = true)
    (k_law : PySem.W.keepIn K (.ref f_law) = true)
    (a_WISH_BOUNDS : PySem.W.nsIn K mainGlobals "WISH_BOUNDS" = some (some (.ref A_WISH_BOUNDS)))
    (l_WISH_BOUNDS : K.lookup A_WISH_BOUNDS = some ⟨.type "tuple", od_WISH_BOUNDS, .seq #[.int 1 t0_WISH_BOUNDS, .int 3 t1_WISH_BOUNDS] n_WISH_BOUNDS, sl_WISH_BOUNDS⟩)
    (a_RACK_BOUNDS : PySem.W.nsIn K mainGlobals "RACK_BOUNDS" = some (some (.ref A_RACK_BOUNDS)))
    (l_RACK_BOUNDS : K.lookup A_RACK_BOUNDS = some ⟨.type "tuple", od_RACK_BOUNDS, .seq #[.int 0 t0_RACK_BOUNDS, .int 99 t1_RACK_BOUNDS] n_RACK_BOUNDS, sl_RACK_BOUNDS⟩)
    (a_MOST_STORES : PySem.W.nsIn K mainGlobals "MOST_STORES" = some (some (.int 8 t_MOST_STORES)))
    (a_ROOM_BOUNDS : PySem.W.nsIn K mainGlobals "ROOM_BOUNDS" = some (some (.ref A_ROOM_BOUNDS)))
    (l_ROOM_BOUNDS : K.lookup A_ROOM_BOUNDS = some ⟨.type "tuple", od_ROOM_BOUNDS, .seq #[.int 0 t0_ROOM_BOUNDS, .int 99 t1_ROOM_BOUNDS] n_ROOM_BOUNDS, sl_ROOM_BOUNDS⟩)
    (a_RATE_BOUNDS : PySem.W.nsIn K mainGlobals "RATE_BOUNDS" = some (some (.ref A_RATE_BOUNDS)))
    (l_RATE_BOUNDS : K.lookup A_RATE_BOUNDS = some ⟨.type "tuple", od_RATE_BOUNDS, .seq #[.int 1 t0_RATE_BOUNDS, .int 8 t1_RATE_BOUNDS] n_RATE_BOUNDS, sl_RATE_BOUNDS⟩)
    (s_InvalidWishes_InvalidWishes : PySem.W.subIn K (.ref C_InvalidWishes) (.ref C_InvalidWishes) = some true)
    (s_InvalidLot_InvalidWishes : PySem.W.subIn K (.ref C_InvalidLot) (.ref C_InvalidWishes) = some false)
    (s_InvalidLot_InvalidLot : PySem.W.subIn K (.ref C_InvalidLot) (.ref C_InvalidLot) = some true)
    (z_isinstance : PySem.W.nsIn K mainGlobals "isinstance" = some none)
    (z_bool : PySem.W.nsIn K mainGlobals "bool" = some none)
    (z_int : PySem.W.nsIn K mainGlobals "int" = some none)
    (z_tuple : PySem.W.nsIn K mainGlobals "tuple" = some none)
    (z_all : PySem.W.nsIn K mainGlobals "all" = some none)
    (z_len : PySem.W.nsIn K mainGlobals "len" = some none)
    (z_list : PySem.W.nsIn K mainGlobals "list" = some none)
    (z_enumerate : PySem.W.nsIn K mainGlobals "enumerate" = some none)
    (z_abs : PySem.W.nsIn K mainGlobals "abs" = some none)
    (z_range : PySem.W.nsIn K mainGlobals "range" = some none)
    (z_str : PySem.W.nsIn K mainGlobals "str" = some none)
    (z_sum : PySem.W.nsIn K mainGlobals "sum" = some none)
    (z_max : PySem.W.nsIn K mainGlobals "max" = some none)
    (z_combinations : PySem.W.nsIn K mainGlobals "combinations" = some (some (.type "itertools.combinations")))
    : ∃ fd : FuncData, (∀ (s : Shared) (v : Value), BindsTo s fd ⟨[v], []⟩ [("script", v)]) ∧ ∀ base : Heap, K.In base → base.Ns mainGlobals mg → FnOk l.prog w K mg base CX0 30 fa fd ["script"] (spLaw K) := by
  have e := hfa.symm.trans (PySem.W.mg_of X G a_law)
  cases e
  have m_isinstance := PySem.W.mg_none_of X G z_isinstance
  have m_bool := PySem.W.mg_none_of X G z_bool
  have m_int := PySem.W.mg_none_of X G z_int
  have m_tuple := PySem.W.mg_none_of X G z_tuple
  have m_all := PySem.W.mg_none_of X G z_all
  have m_len := PySem.W.mg_none_of X G z_len
  have m_list := PySem.W.mg_none_of X G z_list
  have m_enumerate := PySem.W.mg_none_of X G z_enumerate
  have m_abs := PySem.W.mg_none_of X G z_abs
  have m_range := PySem.W.mg_none_of X G z_range
  have m_str := PySem.W.mg_none_of X G z_str
  have m_sum := PySem.W.mg_none_of X G z_sum
  have m_max := PySem.W.mg_none_of X G z_max
  have m_combinations := PySem.W.mg_of X G z_combinations
  have kc_WISH_BOUNDS := PySem.W.mg_of X G a_WISH_BOUNDS
  have qc_WISH_BOUNDS : ∀ G, Dr K G (.ref A_WISH_BOUNDS) (.tup [.int (1), .int (3)]) := fun G => dr_K l_WISH_BOUNDS rfl rfl (by show 2 ≤ sizeLine; decide) (show Vals [V.int 1, V.int 3] [Value.int 1 t0_WISH_BOUNDS, Value.int 3 t1_WISH_BOUNDS] from .cons ⟨_, rfl⟩ (.cons ⟨_, rfl⟩ (.nil))) G (.cons (.int _) (.cons (.int _) (.nil)))
  have kc_RACK_BOUNDS := PySem.W.mg_of X G a_RACK_BOUNDS
  have qc_RACK_BOUNDS : ∀ G, Dr K G (.ref A_RACK_BOUNDS) (.tup [.int (0), .int (99)]) := fun G => dr_K l_RACK_BOUNDS rfl rfl (by show 2 ≤ sizeLine; decide) (show Vals [V.int 0, V.int 99] [Value.int 0 t0_RACK_BOUNDS, Value.int 99 t1_RACK_BOUNDS] from .cons ⟨_, rfl⟩ (.cons ⟨_, rfl⟩ (.nil))) G (.cons (.int _) (.cons (.int _) (.nil)))
  have kc_MOST_STORES := PySem.W.mg_of X G a_MOST_STORES
  have kc_ROOM_BOUNDS := PySem.W.mg_of X G a_ROOM_BOUNDS
  have qc_ROOM_BOUNDS : ∀ G, Dr K G (.ref A_ROOM_BOUNDS) (.tup [.int (0), .int (99)]) := fun G => dr_K l_ROOM_BOUNDS rfl rfl (by show 2 ≤ sizeLine; decide) (show Vals [V.int 0, V.int 99] [Value.int 0 t0_ROOM_BOUNDS, Value.int 99 t1_ROOM_BOUNDS] from .cons ⟨_, rfl⟩ (.cons ⟨_, rfl⟩ (.nil))) G (.cons (.int _) (.cons (.int _) (.nil)))
  have kc_RATE_BOUNDS := PySem.W.mg_of X G a_RATE_BOUNDS
  have qc_RATE_BOUNDS : ∀ G, Dr K G (.ref A_RATE_BOUNDS) (.tup [.int (1), .int (8)]) := fun G => dr_K l_RATE_BOUNDS rfl rfl (by show 2 ≤ sizeLine; decide) (show Vals [V.int 1, V.int 8] [Value.int 1 t0_RATE_BOUNDS, Value.int 8 t1_RATE_BOUNDS] from .cons ⟨_, rfl⟩ (.cons ⟨_, rfl⟩ (.nil))) G (.cons (.int _) (.cons (.int _) (.nil)))
  have F_InvalidCluster__init__ := fun_mk (st := s_InvalidCluster__init__) l_InvalidCluster__init__ d_InvalidCluster__init__ k_InvalidCluster__init__
  have b_InvalidCluster__init__ := F_InvalidCluster__init__.binds (ps := ["self", "part", "place"]) fun _ _ _ _ _ _ us hl => match us, hl with | [_, _, _], _ => rfl
  have nfs_InvalidCluster : ∀ f ∈ (["part", "place"] : List Str), PySem.W.findIn K (.ref C_InvalidCluster) f = some none := by
    intro f hf
    simp only [List.mem_cons, List.not_mem_nil, or_false] at hf
    rcases hf with rfl | rfl
    · exact nf_InvalidCluster_part
    · exact nf_InvalidCluster_place
  have e_InvalidCluster : ∀ base : Heap, Exk l.prog w K mg base "InvalidCluster" ["self", "part", "place"] ["part", "place"] C_InvalidCluster f_InvalidCluster__init__ _ := fun base => { ex := ⟨⟨_, _, _, _, _, _, _, _, _, _, _, _, _, _, _, xl_InvalidCluster, by first | rfl | decide +kernel⟩, sa_InvalidCluster, eC_InvalidCluster, tC_InvalidCluster, kC_InvalidCluster⟩, xf := ⟨ga_InvalidCluster, gg_InvalidCluster, eC_InvalidCluster, hC_InvalidCluster⟩, g := PySem.W.mg_of X G a_InvalidCluster, nf := nfs_InvalidCluster, iC := iC_InvalidCluster, tI := tI_InvalidCluster, fn := ok_init2 F_InvalidCluster__init__ sc_InvalidCluster__init__ rfl (fun _ _ _ _ _ _ => pss_cons (ps_ost (pv 0) (pv 1)) (pss_one (ps_ost (pv 0) (pv 2)))), b := b_InvalidCluster__init__, iK := iK_InvalidCluster }
  have F_InvalidWishes__init__ := fun_mk (st := s_InvalidWishes__init__) l_InvalidWishes__init__ d_InvalidWishes__init__ k_InvalidWishes__init__
  have b_InvalidWishes__init__ := F_InvalidWishes__init__.binds (ps := ["self", "value"]) fun _ _ _ _ _ _ us hl => match us, hl with | [_, _], _ => rfl
  have nfs_InvalidWishes : ∀ f ∈ (["value"] : List Str), PySem.W.findIn K (.ref C_InvalidWishes) f = some none := by
    intro f hf
    simp only [List.mem_cons, List.not_mem_nil, or_false] at hf
    subst hf
    · exact nf_InvalidWishes_value
  have e_InvalidWishes : ∀ base : Heap, Exk l.prog w K mg base "InvalidWishes" ["self", "value"] ["value"] C_InvalidWishes f_InvalidWishes__init__ _ := fun base => { ex := ⟨⟨_, _, _, _, _, _, _, _, _, _, _, _, _, _, _, xl_InvalidWishes, by first | rfl | decide +kernel⟩, sa_InvalidWishes, eC_InvalidWishes, tC_InvalidWishes, kC_InvalidWishes⟩, xf := ⟨ga_InvalidWishes, gg_InvalidWishes, eC_InvalidWishes, hC_InvalidWishes⟩, g := PySem.W.mg_of X G a_InvalidWishes, nf := nfs_InvalidWishes, iC := iC_InvalidWishes, tI := tI_InvalidWishes, fn := ok_init1 F_InvalidWishes__init__ sc_InvalidWishes__init__ rfl (fun _ _ _ _ _ _ => pss_one (ps_ost (pv 0) (pv 1))), b := b_InvalidWishes__init__, iK := iK_InvalidWishes }
  have F_InvalidLot__init__ := fun_mk (st := s_InvalidLot__init__) l_InvalidLot__init__ d_InvalidLot__init__ k_InvalidLot__init__
  have b_InvalidLot__init__ := F_InvalidLot__init__.binds (ps := ["self", "value"]) fun _ _ _ _ _ _ us hl => match us, hl with | [_, _], _ => rfl
  have nfs_InvalidLot : ∀ f ∈ (["value"] : List Str), PySem.W.findIn K (.ref C_InvalidLot) f = some none := by
    intro f hf
    simp only [List.mem_cons, List.not_mem_nil, or_false] at hf
    subst hf
    · exact nf_InvalidLot_value
  have e_InvalidLot : ∀ base : Heap, Exk l.prog w K mg base "InvalidLot" ["self", "value"] ["value"] C_InvalidLot f_InvalidLot__init__ _ := fun base => { ex := ⟨⟨_, _, _, _, _, _, _, _, _, _, _, _, _, _, _, xl_InvalidLot, by first | rfl | decide +kernel⟩, sa_InvalidLot, eC_InvalidLot, tC_InvalidLot, kC_InvalidLot⟩, xf := ⟨ga_InvalidLot, gg_InvalidLot, eC_InvalidLot, hC_InvalidLot⟩, g := PySem.W.mg_of X G a_InvalidLot, nf := nfs_InvalidLot, iC := iC_InvalidLot, tI := tI_InvalidLot, fn := ok_init1 F_InvalidLot__init__ sc_InvalidLot__init__ rfl (fun _ _ _ _ _ _ => pss_one (ps_ost (pv 0) (pv 1))), b := b_InvalidLot__init__, iK := iK_InvalidLot }
  have x_InvalidWishes_InvalidWishes := exm_of eC_InvalidWishes iK_InvalidWishes tC_InvalidWishes s_InvalidWishes_InvalidWishes
  have x_InvalidLot_InvalidWishes := exm_of eC_InvalidWishes iK_InvalidWishes tC_InvalidWishes s_InvalidLot_InvalidWishes
  have x_InvalidLot_InvalidLot := exm_of eC_InvalidLot iK_InvalidLot tC_InvalidLot s_InvalidLot_InvalidLot
  have nfs_Cluster : ∀ f ∈ (["racks", "rooms", "rates", "store_count"] : List Str), NoAttr K C_Cluster f := by
    intro f hf
    simp only [List.mem_cons, List.not_mem_nil, or_false] at hf
    rcases hf with rfl | rfl | rfl | rfl
    · exact nf_Cluster_racks
    · exact nf_Cluster_rooms
    · exact nf_Cluster_rates
    · exact nf_Cluster_store_count
  have i_Cluster : Ins K C_Cluster ["racks", "rooms", "rates", "store_count"] := ⟨⟨pg_Cluster, hd_Cluster, po_Cluster, sa_Cluster⟩, nfs_Cluster⟩
  have F_is_integer := fun_mk (st := s_is_integer) l_is_integer d_is_integer k_is_integer
  have b_is_integer := F_is_integer.binds (ps := ["value"]) fun _ _ _ _ _ _ us hl => match us, hl with | [_], _ => rfl
  have F_is_within := fun_mk (st := s_is_within) l_is_within d_is_within k_is_within
  have b_is_within := F_is_within.binds (ps := ["value", "bounds"]) fun _ _ _ _ _ _ us hl => match us, hl with | [_, _], _ => rfl
  have F_is_lot := fun_mk (st := s_is_lot) l_is_lot d_is_lot k_is_lot
  have b_is_lot := F_is_lot.binds (ps := ["value", "stores"]) fun _ _ _ _ _ _ us hl => match us, hl with | [_, _], _ => rfl
  have F_is_wishes := fun_mk (st := s_is_wishes) l_is_wishes d_is_wishes k_is_wishes
  have b_is_wishes := F_is_wishes.binds (ps := ["value"]) fun _ _ _ _ _ _ us hl => match us, hl with | [_], _ => rfl
  have F_check_wishes := fun_mk (st := s_check_wishes) l_check_wishes d_check_wishes k_check_wishes
  have b_check_wishes := F_check_wishes.binds (ps := ["wishes"]) fun _ _ _ _ _ _ us hl => match us, hl with | [_], _ => rfl
  have F_check_part := fun_mk (st := s_check_part) l_check_part d_check_part k_check_part
  have b_check_part := F_check_part.binds (ps := ["part", "members", "count_bounds", "bounds"]) fun _ _ _ _ _ _ us hl => match us, hl with | [_, _, _, _], _ => rfl
  have F_Cluster__init__ := fun_mk (st := s_Cluster__init__) l_Cluster__init__ d_Cluster__init__ k_Cluster__init__
  have b_Cluster__init__ := F_Cluster__init__.binds (ps := ["self", "racks", "rooms", "rates"]) fun _ _ _ _ _ _ us hl => match us, hl with | [_, _, _, _], _ => rfl
  have F__law_draws := fun_mk (st := s__law_draws) l__law_draws d__law_draws k__law_draws
  have b__law_draws := F__law_draws.binds (ps := ["script", "many"]) fun _ _ _ _ _ _ us hl => match us, hl with | [_, _], _ => rfl
  have F__law_take := fun_mk (st := s__law_take) l__law_take d__law_take k__law_take
  have b__law_take := F__law_take.binds (ps := ["hand", "many"]) fun _ _ _ _ _ _ us hl => match us, hl with | [_, _], _ => rfl
  have F__law_like := fun_mk (st := s__law_like) l__law_like d__law_like k__law_like
  have b__law_like := F__law_like.binds (ps := ["found", "due"]) fun _ _ _ _ _ _ us hl => match us, hl with | [_, _], _ => rfl
  have F__law_within := fun_mk (st := s__law_within) l__law_within d__law_within k__law_within
  have b__law_within := F__law_within.binds (ps := ["value", "least", "most"]) fun _ _ _ _ _ _ us hl => match us, hl with | [_, _, _], _ => rfl
  have F__law_cluster := fun_mk (st := s__law_cluster) l__law_cluster d__law_cluster k__law_cluster
  have b__law_cluster := F__law_cluster.binds (ps := ["hand", "most"]) fun _ _ _ _ _ _ us hl => match us, hl with | [_, _], _ => rfl
  have F__law_wishes := fun_mk (st := s__law_wishes) l__law_wishes d__law_wishes k__law_wishes
  have b__law_wishes := F__law_wishes.binds (ps := ["hand", "pieces"]) fun _ _ _ _ _ _ us hl => match us, hl with | [_, _], _ => rfl
  have F__law_is_lot := fun_mk (st := s__law_is_lot) l__law_is_lot d__law_is_lot k__law_is_lot
  have b__law_is_lot := F__law_is_lot.binds (ps := ["value", "many"]) fun _ _ _ _ _ _ us hl => match us, hl with | [_, _], _ => rfl
  have F__law_wrong_wishes := fun_mk (st := s__law_wrong_wishes) l__law_wrong_wishes d__law_wrong_wishes k__law_wrong_wishes
  have b__law_wrong_wishes := F__law_wrong_wishes.binds (ps := ["hand", "wishes"]) fun _ _ _ _ _ _ us hl => match us, hl with | [_, _], _ => rfl
  have F__law_lots := fun_mk (st := s__law_lots) l__law_lots d__law_lots k__law_lots
  have b__law_lots := F__law_lots.binds (ps := ["many"]) fun _ _ _ _ _ _ us hl => match us, hl with | [_], _ => rfl
  have F__law_lacks := fun_mk (st := s__law_lacks) l__law_lacks d__law_lacks k__law_lacks
  have b__law_lacks := F__law_lacks.binds (ps := ["cluster", "wishes", "lot"]) fun _ _ _ _ _ _ us hl => match us, hl with | [_, _, _], _ => rfl
  have F__law_any_lacks := fun_mk (st := s__law_any_lacks) l__law_any_lacks d__law_any_lacks k__law_any_lacks
  have b__law_any_lacks := F__law_any_lacks.binds (ps := ["cluster", "wishes"]) fun _ _ _ _ _ _ us hl => match us, hl with | [_, _], _ => rfl
  have F_falls_short := fun_mk (st := s_falls_short) l_falls_short d_falls_short k_falls_short
  have b_falls_short := F_falls_short.binds (ps := ["cluster", "wishes", "lot"]) fun _ _ _ _ _ _ us hl => match us, hl with | [_, _, _], _ => rfl
  have F_lacks_room := fun_mk (st := s_lacks_room) l_lacks_room d_lacks_room k_lacks_room
  have b_lacks_room := F_lacks_room.binds (ps := ["cluster", "wishes", "lot"]) fun _ _ _ _ _ _ us hl => match us, hl with | [_, _, _], _ => rfl
  have F_lot_lacking := fun_mk (st := s_lot_lacking) l_lot_lacking d_lot_lacking k_lot_lacking
  have b_lot_lacking := F_lot_lacking.binds (ps := ["cluster", "wishes"]) fun _ _ _ _ _ _ us hl => match us, hl with | [_, _], _ => rfl
  have F__law_told := fun_mk (st := s__law_told) l__law_told d__law_told k__law_told
  have b__law_told := F__law_told.binds (ps := ["which", "cluster", "wishes", "lot"]) fun _ _ _ _ _ _ us hl => match us, hl with | [_, _, _, _], _ => rfl
  have F_law := fun_mk (st := s_law) l_law d_law k_law
  refine ⟨PySem.W.fnOf "law" "law" (defArgs s_law) (defBody s_law) (defScope s_law) .none kV_law dc_law pm_law an_law cd_law ct_law, fun s v => .of_eq rfl, fun base _ _ => ?_⟩
  have c_is_integer : ∀ base : Heap, Cal l.prog w K mg base 1 "is_integer" P_is_integer (Ct K (W_f noOb intD)) := fun base => ⟨_, _, ok_is_integer F_is_integer (e_InvalidCluster base) (e_InvalidWishes base) (e_InvalidLot base) i_Cluster m_isinstance m_bool m_int, PySem.W.mg_of X G a_is_integer, k_is_integer, b_is_integer⟩
  have c_is_within : ∀ base : Heap, Cal l.prog w K mg base 2 "is_within" P_is_within (Ct K W_within) := fun base => ⟨_, _, ok_is_within F_is_within (e_InvalidCluster base) (e_InvalidWishes base) (e_InvalidLot base) i_Cluster ((c_is_integer base).mono (by decide)), PySem.W.mg_of X G a_is_within, k_is_within, b_is_within⟩
  have c_is_lot : ∀ base : Heap, Cal l.prog w K mg base 3 "is_lot" P_is_lot (Ct K W_islot) := fun base => ⟨_, _, ok_is_lot F_is_lot (e_InvalidCluster base) (e_InvalidWishes base) (e_InvalidLot base) i_Cluster m_isinstance m_tuple ((c_is_within base).mono (by decide)), PySem.W.mg_of X G a_is_lot, k_is_lot, b_is_lot⟩
  have c_is_wishes : ∀ base : Heap, Cal l.prog w K mg base 3 "is_wishes" P_is_wishes (Ct K W_iswishes) := fun base => ⟨_, _, ok_is_wishes F_is_wishes (e_InvalidCluster base) (e_InvalidWishes base) (e_InvalidLot base) i_Cluster m_all m_isinstance m_tuple kc_WISH_BOUNDS qc_WISH_BOUNDS ((c_is_within base).mono (by decide)), PySem.W.mg_of X G a_is_wishes, k_is_wishes, b_is_wishes⟩
  have c_check_wishes : ∀ base : Heap, CalX l.prog w K mg base 4 "check_wishes" P_check_wishes (CtX K (W_ckwishes C_InvalidWishes)) := fun base => ⟨_, _, ok_check_wishes F_check_wishes (e_InvalidCluster base) (e_InvalidWishes base) (e_InvalidLot base) i_Cluster ((c_is_wishes base).mono (by decide)), PySem.W.mg_of X G a_check_wishes, k_check_wishes, b_check_wishes⟩
  have c_check_part : ∀ base : Heap, CalX l.prog w K mg base 4 "check_part" P_check_part (CtX K (W_ckpart C_InvalidCluster)) := fun base => ⟨_, _, ok_check_part F_check_part (e_InvalidCluster base) (e_InvalidWishes base) (e_InvalidLot base) i_Cluster m_len m_isinstance m_tuple m_list m_enumerate ((c_is_within base).mono (by decide)), PySem.W.mg_of X G a_check_part, k_check_part, b_check_part⟩
  have mk_Cluster : ∀ base : Heap, MkI l.prog w K mg base 5 "Cluster" P_Cluster__init__ C_Cluster (CtI K C_Cluster (W_cluster C_InvalidCluster)) := fun base => ⟨_, _, ⟨mk0_Cluster, iC_Cluster, fI_Cluster, kC_Cluster⟩, ok_Cluster__init__ F_Cluster__init__ (e_InvalidCluster base) (e_InvalidWishes base) (e_InvalidLot base) i_Cluster m_len m_tuple kc_RACK_BOUNDS qc_RACK_BOUNDS kc_MOST_STORES kc_ROOM_BOUNDS qc_ROOM_BOUNDS kc_RATE_BOUNDS qc_RATE_BOUNDS ((c_check_part base).mono (by decide)), PySem.W.mg_of X G a_Cluster, b_Cluster__init__⟩
  have c__law_draws : ∀ base : Heap, Cal l.prog w K mg base 1 "_law_draws" P__law_draws (CtM K W_draws) := fun base => ⟨_, _, ok__law_draws F__law_draws (e_InvalidCluster base) (e_InvalidWishes base) (e_InvalidLot base) i_Cluster m_abs m_int m_range m_len, PySem.W.mg_of X G a__law_draws, k__law_draws, b__law_draws⟩
  have c__law_take : ∀ base : Heap, Cal l.prog w K mg base 1 "_law_take" P__law_take (Ct K W_take) := fun base => ⟨_, _, ok__law_take F__law_take (e_InvalidCluster base) (e_InvalidWishes base) (e_InvalidLot base) i_Cluster m_len m_int, PySem.W.mg_of X G a__law_take, k__law_take, b__law_take⟩
  have c__law_like : ∀ base : Heap, Cal l.prog w K mg base 9 "_law_like" P__law_like (Ct K (W_like 8)) := fun base => ⟨_, _, rec_all W_like (PySem.W.mg_of X G a__law_like) k__law_like b__law_like (fun n c => ok__law_like F__law_like n (e_InvalidCluster base) (e_InvalidWishes base) (e_InvalidLot base) i_Cluster m_isinstance m_list m_tuple m_len m_range m_bool m_str m_int c) 8, PySem.W.mg_of X G a__law_like, k__law_like, b__law_like⟩
  have c__law_within : ∀ base : Heap, Cal l.prog w K mg base 1 "_law_within" P__law_within (Ct K W_lwithin) := fun base => ⟨_, _, ok__law_within F__law_within (e_InvalidCluster base) (e_InvalidWishes base) (e_InvalidLot base) i_Cluster m_isinstance m_bool m_int, PySem.W.mg_of X G a__law_within, k__law_within, b__law_within⟩
  have c__law_cluster : ∀ base : Heap, Cal l.prog w K mg base 3 "_law_cluster" P__law_cluster (Ct K W_lcluster) := fun base => ⟨_, _, ok__law_cluster F__law_cluster (e_InvalidCluster base) (e_InvalidWishes base) (e_InvalidLot base) i_Cluster m_tuple m_range ((c__law_take base).mono (by decide)), PySem.W.mg_of X G a__law_cluster, k__law_cluster, b__law_cluster⟩
  have c__law_wishes : ∀ base : Heap, Cal l.prog w K mg base 3 "_law_wishes" P__law_wishes (Ct K W_lwishes) := fun base => ⟨_, _, ok__law_wishes F__law_wishes (e_InvalidCluster base) (e_InvalidWishes base) (e_InvalidLot base) i_Cluster m_tuple m_range ((c__law_take base).mono (by decide)), PySem.W.mg_of X G a__law_wishes, k__law_wishes, b__law_wishes⟩
  have c__law_is_lot : ∀ base : Heap, Cal l.prog w K mg base 2 "_law_is_lot" P__law_is_lot (Ct K W_lislot) := fun base => ⟨_, _, ok__law_is_lot F__law_is_lot (e_InvalidCluster base) (e_InvalidWishes base) (e_InvalidLot base) i_Cluster m_isinstance m_tuple m_range m_len ((c__law_within base).mono (by decide)), PySem.W.mg_of X G a__law_is_lot, k__law_is_lot, b__law_is_lot⟩
  have c__law_wrong_wishes : ∀ base : Heap, Cal l.prog w K mg base 2 "_law_wrong_wishes" P__law_wrong_wishes (Ct K W_wrwishes) := fun base => ⟨_, _, ok__law_wrong_wishes F__law_wrong_wishes (e_InvalidCluster base) (e_InvalidWishes base) (e_InvalidLot base) i_Cluster m_len m_list ((c__law_take base).mono (by decide)), PySem.W.mg_of X G a__law_wrong_wishes, k__law_wrong_wishes, b__law_wrong_wishes⟩
  have c__law_lots : ∀ base : Heap, Cal l.prog w K mg base 1 "_law_lots" P__law_lots (CtM K W_lots) := fun base => ⟨_, _, ok__law_lots F__law_lots (e_InvalidCluster base) (e_InvalidWishes base) (e_InvalidLot base) i_Cluster m_range m_int, PySem.W.mg_of X G a__law_lots, k__law_lots, b__law_lots⟩
  have c__law_lacks : ∀ base : Heap, Cal l.prog w K mg base 2 "_law_lacks" P__law_lacks (Ct K W_lacks11) := fun base => ⟨_, _, ok__law_lacks F__law_lacks (e_InvalidCluster base) (e_InvalidWishes base) (e_InvalidLot base) i_Cluster m_range m_len m_sum m_max m_int, PySem.W.mg_of X G a__law_lacks, k__law_lacks, b__law_lacks⟩
  have c__law_any_lacks : ∀ base : Heap, Cal l.prog w K mg base 3 "_law_any_lacks" P__law_any_lacks (Ct K W_anyl11) := fun base => ⟨_, _, ok__law_any_lacks F__law_any_lacks (e_InvalidCluster base) (e_InvalidWishes base) (e_InvalidLot base) i_Cluster m_len ((c__law_lots base).mono (by decide)) ((c__law_lacks base).mono (by decide)), PySem.W.mg_of X G a__law_any_lacks, k__law_any_lacks, b__law_any_lacks⟩
  have c_falls_short : ∀ base : Heap, Cal l.prog w K mg base 2 "falls_short" P_falls_short (Ct K (W_falls C_Cluster)) := fun base => ⟨_, _, ok_falls_short F_falls_short (e_InvalidCluster base) (e_InvalidWishes base) (e_InvalidLot base) i_Cluster m_len m_enumerate m_sum m_max, PySem.W.mg_of X G a_falls_short, k_falls_short, b_falls_short⟩
  have c_lacks_room : ∀ base : Heap, CalX l.prog w K mg base 5 "lacks_room" P_lacks_room (CtX K (W_lackr C_Cluster C_InvalidWishes C_InvalidLot)) := fun base => ⟨_, _, ok_lacks_room F_lacks_room (e_InvalidCluster base) (e_InvalidWishes base) (e_InvalidLot base) i_Cluster ((c_check_wishes base).mono (by decide)) ((c_is_lot base).mono (by decide)) ((c_falls_short base).mono (by decide)), PySem.W.mg_of X G a_lacks_room, k_lacks_room, b_lacks_room⟩
  have c_lot_lacking : ∀ base : Heap, CalX l.prog w K mg base 5 "lot_lacking" P_lot_lacking (CtP K (W_lotl C_Cluster C_InvalidWishes)) := fun base => ⟨_, _, ok_lot_lacking F_lot_lacking (e_InvalidCluster base) (e_InvalidWishes base) (e_InvalidLot base) i_Cluster m_range m_combinations ((c_check_wishes base).mono (by decide)) ((c_falls_short base).mono (by decide)), PySem.W.mg_of X G a_lot_lacking, k_lot_lacking, b_lot_lacking⟩
  have c__law_told : ∀ base : Heap, Cal l.prog w K mg base 8 "_law_told" P__law_told (Ct K (W_told09 C_Cluster)) := fun base => ⟨_, _, ok__law_told F__law_told (e_InvalidCluster base) (e_InvalidWishes base) (e_InvalidLot base) i_Cluster ((c_lacks_room base).mono (by decide)) ((c_lot_lacking base).mono (by decide)) x_InvalidWishes_InvalidWishes x_InvalidLot_InvalidWishes x_InvalidLot_InvalidLot, PySem.W.mg_of X G a__law_told, k__law_told, b__law_told⟩
  exact ok_law F_law (e_InvalidCluster base) (e_InvalidWishes base) (e_InvalidLot base) i_Cluster m_len m_range ((mk_Cluster base).mono (by decide)) ((c__law_draws base).mono (by decide)) ((c__law_cluster base).mono (by decide)) ((c__law_wishes base).mono (by decide)) ((c__law_take base).mono (by decide)) ((c__law_lots base).mono (by decide)) ((c__law_like base).mono (by decide)) ((c__law_lacks base).mono (by decide)) ((c_lacks_room base).mono (by decide)) ((c_lot_lacking base).mono (by decide)) ((c__law_any_lacks base).mono (by decide)) ((c__law_is_lot base).mono (by decide)) ((c__law_wrong_wishes base).mono (by decide)) ((c__law_told base).mono (by decide))
end Mv
open PySem PySem.W PyProof.Rows
set_option maxRecDepth 100000 in
set_option maxHeartbeats 0 in
theorem PySem.Challenge.cw_movedwhole_k09_lots_that_lack_room_holds : PySem.Challenge.rw_movedwhole_k09_lots_that_lack_room.Holds := by
  w_on; o_law; k_head; (case hw => w_witness2)
  k_fill
  refine L2.walk_of (l := PySem.Challenge.rw_movedwhole_k09_lots_that_lack_room) (n := 63) (k := 30) (x := "script") (CX := fun _ => L2.CX0) (sp := fun w => Mv.spLaw _) rfl (by decide) rfl ⟨rfl, by decide, by decide⟩ (fun w h Y => PySem.W.kIn_of Y) ?F (fun _ _ a ns hl _ hS => Mv.spLaw_start hS hl) (fun _ _ _ _ _ h => h)
  case F =>
    intro w mg fa h KX G hmg
    refine' Mv.all_mk KX G hmg ?a_InvalidCluster ?xl_InvalidCluster ?sa_InvalidCluster ?ga_InvalidCluster ?gg_InvalidCluster ?nf_InvalidCluster_part ?nf_InvalidCluster_place ?iC_InvalidCluster ?tI_InvalidCluster ?kC_InvalidCluster ?eC_InvalidCluster ?tC_InvalidCluster ?hC_InvalidCluster ?iK_InvalidCluster ?l_InvalidCluster__init__ ?d_InvalidCluster__init__ ?k_InvalidCluster__init__ ?a_InvalidWishes ?xl_InvalidWishes ?sa_InvalidWishes ?ga_InvalidWishes ?gg_InvalidWishes ?nf_InvalidWishes_value ?iC_InvalidWishes ?tI_InvalidWishes ?kC_InvalidWishes ?eC_InvalidWishes ?tC_InvalidWishes ?hC_InvalidWishes ?iK_InvalidWishes ?l_InvalidWishes__init__ ?d_InvalidWishes__init__ ?k_InvalidWishes__init__ ?a_InvalidLot ?xl_InvalidLot ?sa_InvalidLot ?ga_InvalidLot ?gg_InvalidLot ?nf_InvalidLot_value ?iC_InvalidLot ?tI_InvalidLot ?kC_InvalidLot ?eC_InvalidLot ?tC_InvalidLot ?hC_InvalidLot ?iK_InvalidLot ?l_InvalidLot__init__ ?d_InvalidLot__init__ ?k_InvalidLot__init__ ?a_Cluster ?iC_Cluster ?fI_Cluster ?pg_Cluster ?hd_Cluster ?po_Cluster ?sa_Cluster ?mk0_Cluster ?kC_Cluster ?nf_Cluster_racks ?nf_Cluster_rooms ?nf_Cluster_rates ?nf_Cluster_store_count ?l_Cluster__init__ ?d_Cluster__init__ ?k_Cluster__init__ ?a_is_integer ?l_is_integer ?d_is_integer ?k_is_integer ?a_is_within ?l_is_within ?d_is_within ?k_is_within ?a_is_lot ?l_is_lot ?d_is_lot ?k_is_lot ?a_is_wishes ?l_is_wishes ?d_is_wishes ?k_is_wishes ?a_check_wishes ?l_check_wishes ?d_check_wishes ?k_check_wishes ?a_check_part ?l_check_part ?d_check_part ?k_check_part ?a__law_draws ?l__law_draws ?d__law_draws ?k__law_draws ?a__law_take ?l__law_take ?d__law_take ?k__law_take ?a__law_like ?l__law_like ?d__law_like ?k__law_like ?a__law_within ?l__law_within ?d__law_within ?k__law_within ?a__law_cluster ?l__law_cluster ?d__law_cluster ?k__law_cluster ?a__law_wishes ?l__law_wishes ?d__law_wishes ?k__law_wishes ?a__law_is_lot ?l__law_is_lot ?d__law_is_lot ?k__law_is_lot ?a__law_wrong_wishes ?l__law_wrong_wishes ?d__law_wrong_wishes ?k__law_wrong_wishes ?a__law_lots ?l__law_lots ?d__law_lots ?k__law_lots ?a__law_lacks ?l__law_lacks ?d__law_lacks ?k__law_lacks ?a__law_any_lacks ?l__law_any_lacks ?d__law_any_lacks ?k__law_any_lacks ?a_falls_short ?l_falls_short ?d_falls_short ?k_falls_short ?a_lacks_room ?l_lacks_room ?d_lacks_room ?k_lacks_room ?a_lot_lacking ?l_lot_lacking ?d_lot_lacking ?k_lot_lacking ?a__law_told ?l__law_told ?d__law_told ?k__law_told ?a_law ?l_law ?d_law ?k_law ?a_WISH_BOUNDS ?l_WISH_BOUNDS ?a_RACK_BOUNDS ?l_RACK_BOUNDS ?a_MOST_STORES ?a_ROOM_BOUNDS ?l_ROOM_BOUNDS ?a_RATE_BOUNDS ?l_RATE_BOUNDS ?s_InvalidWishes_InvalidWishes ?s_InvalidLot_InvalidWishes ?s_InvalidLot_InvalidLot ?z_isinstance ?z_bool ?z_int ?z_tuple ?z_all ?z_len ?z_list ?z_enumerate ?z_abs ?z_range ?z_str ?z_sum ?z_max ?z_combinations
    (case a_InvalidCluster => k_is)
    (case xl_InvalidCluster => k_is)
    (case sa_InvalidCluster => k_is)
    (case ga_InvalidCluster => k_is)
    (case gg_InvalidCluster => k_is)
    (case nf_InvalidCluster_part => k_is)
    (case nf_InvalidCluster_place => k_is)
    (case iC_InvalidCluster => k_is)
    (case tI_InvalidCluster => k_is)
    (case kC_InvalidCluster => k_is)
    (case eC_InvalidCluster => k_is)
    (case tC_InvalidCluster => k_is)
    (case hC_InvalidCluster => k_is)
    (case iK_InvalidCluster => k_is)
    (case l_InvalidCluster__init__ => k_is)
    (case d_InvalidCluster__init__ => k_is)
    (case k_InvalidCluster__init__ => k_is)
    (case a_InvalidWishes => k_is)
    (case xl_InvalidWishes => k_is)
    (case sa_InvalidWishes => k_is)
    (case ga_InvalidWishes => k_is)
    (case gg_InvalidWishes => k_is)
    (case nf_InvalidWishes_value => k_is)
    (case iC_InvalidWishes => k_is)
    (case tI_InvalidWishes => k_is)
    (case kC_InvalidWishes => k_is)
    (case eC_InvalidWishes => k_is)
    (case tC_InvalidWishes => k_is)
    (case hC_InvalidWishes => k_is)
    (case iK_InvalidWishes => k_is)
    (case l_InvalidWishes__init__ => k_is)
    (case d_InvalidWishes__init__ => k_is)
    (case k_InvalidWishes__init__ => k_is)
    (case a_InvalidLot => k_is)
    (case xl_InvalidLot => k_is)
    (case sa_InvalidLot => k_is)
    (case ga_InvalidLot => k_is)
    (case gg_InvalidLot => k_is)
    (case nf_InvalidLot_value => k_is)
    (case iC_InvalidLot => k_is)
    (case tI_InvalidLot => k_is)
    (case kC_InvalidLot => k_is)
    (case eC_InvalidLot => k_is)
    (case tC_InvalidLot => k_is)
    (case hC_InvalidLot => k_is)
    (case iK_InvalidLot => k_is)
    (case l_InvalidLot__init__ => k_is)
    (case d_InvalidLot__init__ => k_is)
    (case k_InvalidLot__init__ => k_is)
    (case a_Cluster => k_is)
    (case iC_Cluster => k_is)
    (case fI_Cluster => k_is)
    (case pg_Cluster => k_is)
    (case hd_Cluster => k_is)
    (case po_Cluster => k_is)
    (case sa_Cluster => k_is)
    (case mk0_Cluster => k_is)
    (case kC_Cluster => k_is)
    (case nf_Cluster_racks => k_is)
    (case nf_Cluster_rooms => k_is)
    (case nf_Cluster_rates => k_is)
    (case nf_Cluster_store_count => k_is)
    (case l_Cluster__init__ => k_is)
    (case d_Cluster__init__ => k_is)
    (case k_Cluster__init__ => k_is)
    (case a_is_integer => k_is)
    (case l_is_integer => k_is)
    (case d_is_integer => k_is)
    (case k_is_integer => k_is)
    (case a_is_within => k_is)
    (case l_is_within => k_is)
    (case d_is_within => k_is)
    (case k_is_within => k_is)
    (case a_is_lot => k_is)
    (case l_is_lot => k_is)
    (case d_is_lot => k_is)
    (case k_is_lot => k_is)
    (case a_is_wishes => k_is)
    (case l_is_wishes => k_is)
    (case d_is_wishes => k_is)
    (case k_is_wishes => k_is)
    (case a_check_wishes => k_is)
    (case l_check_wishes => k_is)
    (case d_check_wishes => k_is)
    (case k_check_wishes => k_is)
    (case a_check_part => k_is)
    (case l_check_part => k_is)
    (case d_check_part => k_is)
    (case k_check_part => k_is)
    (case a__law_draws => k_is)
    (case l__law_draws => k_is)
    (case d__law_draws => k_is)
    (case k__law_draws => k_is)
    (case a__law_take => k_is)
    (case l__law_take => k_is)
    (case d__law_take => k_is)
    (case k__law_take => k_is)
    (case a__law_like => k_is)
    (case l__law_like => k_is)
    (case d__law_like => k_is)
    (case k__law_like => k_is)
    (case a__law_within => k_is)
    (case l__law_within => k_is)
    (case d__law_within => k_is)
    (case k__law_within => k_is)
    (case a__law_cluster => k_is)
    (case l__law_cluster => k_is)
    (case d__law_cluster => k_is)
    (case k__law_cluster => k_is)
    (case a__law_wishes => k_is)
    (case l__law_wishes => k_is)
    (case d__law_wishes => k_is)
    (case k__law_wishes => k_is)
    (case a__law_is_lot => k_is)
    (case l__law_is_lot => k_is)
    (case d__law_is_lot => k_is)
    (case k__law_is_lot => k_is)
    (case a__law_wrong_wishes => k_is)
    (case l__law_wrong_wishes => k_is)
    (case d__law_wrong_wishes => k_is)
    (case k__law_wrong_wishes => k_is)
    (case a__law_lots => k_is)
    (case l__law_lots => k_is)
    (case d__law_lots => k_is)
    (case k__law_lots => k_is)
    (case a__law_lacks => k_is)
    (case l__law_lacks => k_is)
    (case d__law_lacks => k_is)
    (case k__law_lacks => k_is)
    (case a__law_any_lacks => k_is)
    (case l__law_any_lacks => k_is)
    (case d__law_any_lacks => k_is)
    (case k__law_any_lacks => k_is)
    (case a_falls_short => k_is)
    (case l_falls_short => k_is)
    (case d_falls_short => k_is)
    (case k_falls_short => k_is)
    (case a_lacks_room => k_is)
    (case l_lacks_room => k_is)
    (case d_lacks_room => k_is)
    (case k_lacks_room => k_is)
    (case a_lot_lacking => k_is)
    (case l_lot_lacking => k_is)
    (case d_lot_lacking => k_is)
    (case k_lot_lacking => k_is)
    (case a__law_told => k_is)
    (case l__law_told => k_is)
    (case d__law_told => k_is)
    (case k__law_told => k_is)
    (case a_law => k_is)
    (case l_law => k_is)
    (case d_law => k_is)
    (case k_law => k_is)
    (case a_WISH_BOUNDS => k_is)
    (case l_WISH_BOUNDS => k_is)
    (case a_RACK_BOUNDS => k_is)
    (case l_RACK_BOUNDS => k_is)
    (case a_MOST_STORES => k_is)
    (case a_ROOM_BOUNDS => k_is)
    (case l_ROOM_BOUNDS => k_is)
    (case a_RATE_BOUNDS => k_is)
    (case l_RATE_BOUNDS => k_is)
    (case s_InvalidWishes_InvalidWishes => first | rfl | k_is)
    (case s_InvalidLot_InvalidWishes => first | rfl | k_is)
    (case s_InvalidLot_InvalidLot => first | rfl | k_is)
    (case z_isinstance => k_is)
    (case z_bool => k_is)
    (case z_int => k_is)
    (case z_tuple => k_is)
    (case z_all => k_is)
    (case z_len => k_is)
    (case z_list => k_is)
    (case z_enumerate => k_is)
    (case z_abs => k_is)
    (case z_range => k_is)
    (case z_str => k_is)
    (case z_sum => k_is)
    (case z_max => k_is)
    (case z_combinations => k_is)
