import PyProof.Rows.All
import Wide.All
import OpenK.AllK
import Wide.FinOn
import HandS.ForMost
import HandS.Zip
import HandS.IsInst
import HandS.Walk
import PySem.Challenge.RW_movedwhole_k04_new_copies
set_option Elab.async false
set_option linter.all false
set_option maxRecDepth 100000
set_option maxHeartbeats 4000000
/-! enumerate over a tuple -/
namespace Mv
open PySem PySem.Spec PyProof.Rows L2
open PySem.Sem (wp)
open AutoSeq1 (wpAny_loadPart')
theorem meets_enum_newT (l : Addr) (items : Array Value) (n : Nat) (dct : Option Addr) (sl : Array (Option Value)) :
    Meets (Builtin.«enumerate.__new__» ⟨[.type "enumerate", .ref l], []⟩) (fun _ R s =>
      s.heap.get? l = some { cls := .type "tuple", dict := dct, data := .seq items n, slots := sl } ∧
      R (.ok (.ret (.ref (s.heap.push { cls := .type "tuple_iterator", data := .fields #[.ref l, .int 0 0] }).objs.size)))
        { s with heap := ((s.heap.push { cls := .type "tuple_iterator", data := .fields #[.ref l, .int 0 0] }).push { cls := .type "enumerate", data := .fields #[.none, .bool false, .ref s.heap.objs.size, rawInt 0, .none, .none] }) }) :=
  .of_wp fun prog w A R s h => by
    obtain ⟨hp, g, d, tk, os⟩ := s
    obtain ⟨hl, h⟩ := h
    have hsub := sub_enumerate
    have hT : Heap.IsTuple (Shared.heap ⟨hp, g, d, tk, os⟩) l items := ⟨_, hl, rfl, n, rfl⟩
    wp_walk using wpAny_loadPart' hl
    refine wpAny_stack_any fun st => wpAny_pure ?_
    split
    · rename_i c _ _ _ _ _
      cases (c == Value.type "enumerate")
      · wp_walk using wpAny_loadPart' hl, wpAny_pyIter_tuple hT
        exact ⟨_, rfl, h⟩
      · wp_walk using wpAny_loadPart' hl, wpAny_pyIter_tuple hT
        exact ⟨_, rfl, h⟩
    · wp_walk using wpAny_loadPart' hl, wpAny_pyIter_tuple hT
      exact ⟨_, rfl, h⟩
section
variable {prog : Program} {w : World} {A : Around} {E : Value → Shared → Prop} {s : Shared}
theorem call_enum_tuple {l : Addr} {items : Array Value} {Q : Value → Shared → Prop} (hL : s.heap.IsTuple l items)
    (h : ∀ h', IsEnum h' (s.heap.objs.size + 1) s.heap.objs.size 0 .none → h'.IsTupleIter s.heap.objs.size l 0 →
      (∀ b o, s.heap.get? b = some o → h'.get? b = some o) → Q (.ref (s.heap.objs.size + 1)) { s with heap := h' }) :
    wpAny (model prog w) A (call (.type "enumerate") [.ref l]) Q E s := by
  obtain ⟨⟨c, dct, dt, sl⟩, hl, hc, n, hd⟩ := hL
  replace hc : c = .type "tuple" := hc
  replace hd : dt = .seq items n := hd
  subst hc hd
  refine callType_new F.called_enumerate (by decide) (F.typeCall_enumerate_1 _) (F.newCall_enumerate_1 _)
    (fun obj => F.args_object_init_2 obj _) F.entry_enumerate_new (meets_enum_newT l items n dct sl) ⟨hl, ?_⟩
  have hz : (s.heap.push { cls := .type "tuple_iterator", data := .fields #[.ref l, .int 0 0] }).objs.size = s.heap.objs.size + 1 := Heap.size_push ..
  show _ ∧ _
  rw [hz]
  have he : IsEnum ((s.heap.push { cls := .type "tuple_iterator", data := .fields #[.ref l, .int 0 0] }).push
      { cls := .type "enumerate", data := .fields #[.none, .bool false, .ref s.heap.objs.size, rawInt 0, .none, .none] })
      (s.heap.objs.size + 1) s.heap.objs.size 0 .none := by
    have this := Heap.get?_push_size (s.heap.push { cls := .type "tuple_iterator", data := .fields #[.ref l, .int 0 0] })
      (o := { cls := .type "enumerate", data := .fields #[.none, .bool false, .ref s.heap.objs.size, rawInt 0, .none, .none] }) rfl
    rw [hz] at this
    exact this
  refine ⟨⟨_, he, rfl⟩, h _ he ⟨_, Heap.get?_push_of_some _ (Heap.get?_push_size _ rfl), rfl, rfl⟩ fun b o x =>
    Heap.get?_push_of_some _ (Heap.get?_push_of_some _ x)⟩
end
theorem drawsT {prog : Program} {w : World} {A : Around} (hh : A.handled = none) (it l : Addr) (hne : l ≠ it) (items : Array Value) :
    Draws prog w A it [it, l] items.size (fun i v => items[i]? = some v) (fun i h => h.IsTupleIter it l i ∧ h.IsTuple l items) where
  live := fun _ _ st => let ⟨o, ho, _⟩ := st.1; ⟨o, ho⟩
  frame := fun _ _ _ st hk => ⟨st.1.at fun o e => hk it (by simp) o e, by
    obtain ⟨o, ho, r⟩ := st.2
    exact ⟨o, hk l (by simp) o ho, r⟩⟩
  item := fun i s Q E hi st hQ => by
    refine RZ.nextOf_tuple_item st.1 st.2 (x := items[i]) (by simp [hi]) fun h' hit' hs' => ?_
    refine hQ _ h' s.toks (by simp [hi]) ⟨hit', ?_⟩ hs'
    obtain ⟨o, ho, r⟩ := st.2
    exact ⟨o, hs'.extBut l o hne ho, r⟩
  done := fun s Q E st hE => RZ.nextOf_tuple_end hh st.1 st.2 (by simp) hE

theorem drawsE {prog : Program} {w : World} {A : Around} (hh : A.handled = none) (it l : Addr) (items : Array Value) (i : Nat) (hx : items[i]? = none) :
    Draws prog w A it [it, l] 0 (fun _ _ => False) (fun _ h => h.IsTupleIter it l i ∧ h.IsTuple l items) where
  live := fun _ _ st => let ⟨o, ho, _⟩ := st.1; ⟨o, ho⟩
  frame := fun _ _ _ st hk => ⟨st.1.at fun o e => hk it (by simp) o e, by
    obtain ⟨o, ho, r⟩ := st.2
    exact ⟨o, hk l (by simp) o ho, r⟩⟩
  item := fun i s Q E hi st hQ => absurd hi (Nat.not_lt_zero _)
  done := fun s Q E st hE => RZ.nextOf_tuple_end hh st.1 st.2 hx hE

/-- the tuple at a, each item in a new pair -/
def IteT (K : PySem.W.Frag) (a : Addr) : It :=
  ⟨fun i H => ∃ (xs : List V) (x : V), SqT K H a xs ∧ xs[i]? = some x,
    fun i H v H' => ∃ T x, v = .ref T ∧ H T = none ∧ H' = upd H T (.tup [.int (i : Nat), x]) ∧ ∀ xs, SqT K H a xs → xs[i]? = some x,
    fun i H => ∃ xs : List V, SqT K H a xs ∧ xs.length ≤ i⟩
theorem turn_enumT {P : Program} {w : World} {K : PySem.W.Frag} {elts : List Expr} {kk : Nat} {tpos : Pos} (a e it : Addr) (hai : a ≠ it) (hea : e ≠ a) :
    Turn P w K (.Tuple elts kk tpos) (IteT K a) [e, it] e (fun i h => (∃ old, IsEnum h e it ((i : Nat) : Int) old) ∧ h.IsTupleIter it a i ∧ e ≠ it) where
  mem := by simp
  obj := fun i h st b hb => by
    obtain ⟨⟨old, he⟩, ⟨o, ho, hc, hd⟩, _⟩ := st
    have e' : b = e ∨ b = it := by simpa using hb
    rcases e' with z | z
    · subst z
      exact ⟨_, he, fun v q => nomatch q⟩
    · subst z
      exact ⟨o, ho, fun v q => by rw [hd] at q; cases q⟩
  keep := fun i h h' st k => by
    obtain ⟨⟨old, he⟩, hi, hne⟩ := st
    exact ⟨⟨old, k e (by simp) _ he⟩, hi.at fun o q => k it (by simp) o q, hne⟩
  item := by
    intro X hP hw hK hc i pins s σ H E I hf st hg
    subst hP hw hK
    obtain ⟨⟨old, he⟩, hit, hne⟩ := st
    obtain ⟨xs, x, hq, hx⟩ := hg
    obtain ⟨its, rv, p, hz⟩ := I.tuple hq
    obtain ⟨u, hu, ru⟩ := rv.get hx
    have hel : e < s.heap.objs.size := Heap.lt_size he
    have hil : it < s.heap.objs.size := by
      obtain ⟨_, q, _⟩ := hit
      exact Heap.lt_size q
    have hsz : i < its.toArray.size := by
      have := (List.getElem?_eq_some_iff.mp hu).1
      simpa using this
    have hp : s.heap.IsTuple a its.toArray := p
    refine wpAny_pyNext_enum_itemD (drawsT (A := X.A.in1) (I.ok.hd hc) it a hai its.toArray) he ⟨hit, hp⟩ hsz hne (by simp [hne, hea]) fun y h' tk hy ho hit' hT hsz hk => ?_
    have hyu : y = u := by
      have h1 : its[i]? = some y := by simpa using hy
      exact Option.some.inj (h1.symm.trans hu)
    subst hyu
    refine ⟨_, rfl, wpAny_letOwnedTupleGo_enum (s := { s with heap := h', toks := tk + 1 }) ho fun h'' he' sb => ?_⟩
    have hT2 : h''.get? s.heap.objs.size = some { cls := .type "tuple", data := .seq #[.int i tk, y] } :=
      (sb.2 _ (Nat.ne_of_gt hel)).trans hT
    have new : ObjOk X.prog X.w (upd H s.heap.objs.size (.tup [.int (i : Nat), x])) h'' s.heap.objs.size (.tup [.int (i : Nat), x]) :=
      ⟨by show 2 ≤ sizeLine; decide, [.int i tk, y], .cons ⟨_, rfl⟩ (.cons ru .nil), ⟨_, hT2, rfl, _, rfl⟩⟩
    have I1 : Inv X pins σ (upd H s.heap.objs.size (.tup [.int (i : Nat), x])) { s with heap := h'', toks := tk + 1 } :=
      I.turnedNew (ch := [e, it]) (fun b ob hb q => (sb.2 b (fun z => hb (by simp [z]))).trans
        (hk b ob (fun z => hb (by simp [z])) (fun z => hb (by simp [z])) q)) hf (Nat.le_refl _) new
    refine ⟨.ref s.heap.objs.size, _, I1, rfl, ⟨_, x, rfl, I.hok.fresh (Nat.le_refl _), rfl, fun ys hy => by rw [I.tuple_inj hy hq]; exact hx⟩,
      ⟨⟨y, ?_⟩, hit'.1.at fun o q => (sb.2 it (Ne.symm hne)).trans q, hne⟩, fun b hb => ?_⟩
    · have e1 : ((i + 1 : Nat) : Int) = (i : Int) + 1 := by omega
      rw [e1]
      exact he'
    · have hb' : b < s.heap.objs.size := by
        have e' : b = e ∨ b = it := by simpa using hb
        rcases e' with z | z
        · subst z; exact hel
        · subst z; exact hil
      rw [upd_ne (Nat.ne_of_lt hb')]
      exact (hf b hb).1
  done := by
    intro X hP hw hK hc i pins s σ H E I hf st hg
    subst hP hw hK
    obtain ⟨⟨old, he⟩, hit, hne⟩ := st
    obtain ⟨xs, hq, hx⟩ := hg
    obtain ⟨its, rv, p, hz⟩ := I.tuple hq
    obtain ⟨f0, f1, f2, f3, f4, f5⟩ := hf it (by simp)
    have hl := rv.length
    have hp : s.heap.IsTuple a its.toArray := p
    refine wpAny_pyNext_enum_endD (drawsE (A := X.A.in1) (I.ok.hd hc) it a its.toArray i (by simp; omega)) he ⟨hit, hp⟩ fun h' eb => ?_
    exact ⟨rfl, I.turned (t' := s.toks) (fun b o hb q => eb b o hb q) f0 f1 f3 f4 f5⟩
  self := fun A i s Q E st h => by
    obtain ⟨⟨_, he⟩, _⟩ := st
    exact wpAny_pyIter_enum he h
def iEnumA (K : PySem.W.Frag) (ta : TA) : TI := fun σ H R => ta σ H fun vs H1 => ∃ a xs, vs = [.ref a] ∧ ((SqL K H1 a xs ∧ R (Ite K a) H1) ∨ (SqT K H1 a xs ∧ R (IteT K a) H1))
theorem pi_enumA {X : Cx} {e : Expr} {ta : TA} {p pos tpos : Pos} {elts : List Expr} {kk : Nat} (hg : Gl X "enumerate") (hm : X.mg "enumerate" = none) (ha : PA X [e] ta)
    (hs : starEach [e] X.env = [(false, eval e X.env)] := by rfl) : PI X (.Tuple elts kk tpos) (.Call (.Name "enumerate" p) [e] [] pos) (iEnumA X.K ta) := by
  refine ⟨fun pins s σ H R I h => ?_⟩
  refine Call_ (ld_blt I hg hm boot_enumerate (PyProof.Rows.callWith_type1 (thn (ha.run pos pins s σ H _ I h) fun us s1 ⟨vs, H1, I1, r1, q1⟩ => ?_) hs rfl))
  obtain ⟨a, xs, ex, q1⟩ := q1
  subst ex
  cases r1 with
  | cons r rr =>
    cases rr
    cases r
    have fr : ∀ b, b ∈ [s1.heap.objs.size + 1, s1.heap.objs.size] → FpOk X pins H1 b := fun b hb => by
      have e' : b = s1.heap.objs.size + 1 ∨ b = s1.heap.objs.size := by simpa using hb
      have hle : s1.heap.objs.size ≤ b := by omega
      exact I1.fpOk hle (I1.hok.fresh hle)
    rcases q1 with ⟨hq, q⟩ | ⟨hq, q⟩
    · obtain ⟨its, rv, p', hz⟩ := I1.list hq
      refine call_enumerate_list p'.isList fun h' he hit hsz hk => wpAny_pyIter_enum he ?_
      have I2 : Inv X pins σ H1 { s1 with heap := h' } := I1.kept (t' := s1.toks) hk
      exact ⟨s1.heap.objs.size + 1, [s1.heap.objs.size + 1, s1.heap.objs.size], _, _, H1, rfl, I2, turn_enum a (s1.heap.objs.size + 1) s1.heap.objs.size, ⟨⟨.none, he⟩, hit, Nat.succ_ne_self _⟩, fr, q⟩
    · obtain ⟨its, rv, p', hz⟩ := I1.tuple hq
      have hp : s1.heap.IsTuple a its.toArray := p'
      have hl : a < s1.heap.objs.size := p'.lt
      refine call_enum_tuple hp fun h' he hit hk => wpAny_pyIter_enum he ?_
      have I2 : Inv X pins σ H1 { s1 with heap := h' } := I1.kept (t' := s1.toks) hk
      exact ⟨s1.heap.objs.size + 1, [s1.heap.objs.size + 1, s1.heap.objs.size], _, _, H1, rfl, I2,
        turn_enumT a (s1.heap.objs.size + 1) s1.heap.objs.size (Nat.ne_of_lt hl) (Nat.ne_of_gt (Nat.lt_succ_of_lt hl)), ⟨⟨.none, he⟩, hit, Nat.succ_ne_self _⟩, fr, q⟩
end Mv

set_option Elab.async false
set_option linter.all false
set_option maxRecDepth 100000
set_option maxHeartbeats 4000000
/-! What a piece of code yields, told over data alone: no heap, no addresses; lists that a def changes by place of its slots. -/
namespace Mv
open PySem PySem.Spec PyProof.Rows L2

/-! ### data -/
inductive Dt where
  | non | bl (b : Bool) | int (i : Int) | str (s : Str) | lst (ds : List Dt) | tup (ds : List Dt) | ob (C : Addr) (fs : List (Str × Dt))

mutual
inductive Dr (K : PySem.W.Frag) (G : Hp) : V → Dt → Prop
  | non : Dr K G .non .non
  | bl (b : Bool) : Dr K G (.bl b) (.bl b)
  | int (i : Int) : Dr K G (.int i) (.int i)
  | str (x : Str) : Dr K G (.str x) (.str x)
  | lst {a : Addr} {xs : List V} {ds : List Dt} : SqL K G a xs → Da K G xs ds → Dr K G (.ref a) (.lst ds)
  | tup {a : Addr} {xs : List V} {ds : List Dt} : SqT K G a xs → Da K G xs ds → Dr K G (.ref a) (.tup ds)
  | ob {a C dx : Addr} {fs : List (Str × V)} {ds : List (Str × Dt)} : G a = some (.ins C dx fs) → Df K G fs ds → Dr K G (.ref a) (.ob C ds)
inductive Da (K : PySem.W.Frag) (G : Hp) : List V → List Dt → Prop
  | nil : Da K G [] []
  | cons {v : V} {vs : List V} {d : Dt} {ds : List Dt} : Dr K G v d → Da K G vs ds → Da K G (v :: vs) (d :: ds)
inductive Df (K : PySem.W.Frag) (G : Hp) : List (Str × V) → List (Str × Dt) → Prop
  | nil : Df K G [] []
  | cons {f : Str} {v : V} {vs : List (Str × V)} {d : Dt} {ds : List (Str × Dt)} : Dr K G v d → Df K G vs ds → Df K G ((f, v) :: vs) ((f, d) :: ds)
end
theorem same_rd {H H' : Hp} {a : Addr} {u : HO} (e : Same H H') (h : Rd H a u) : Rd H' a u := by
  rcases h with h | ⟨o, h⟩
  · exact .inl (e _ _ h)
  · exact .inr ⟨o, e _ _ h⟩
theorem same_l {K : PySem.W.Frag} {H H' : Hp} {a : Addr} {xs : List V} (e : Same H H') (h : SqL K H a xs) : SqL K H' a xs := by
  rcases h with h | h
  · exact .inl (same_rd e h)
  · exact .inr h
theorem same_t {K : PySem.W.Frag} {H H' : Hp} {a : Addr} {xs : List V} (e : Same H H') (h : SqT K H a xs) : SqT K H' a xs := by
  rcases h with h | h
  · exact .inl (same_rd e h)
  · exact .inr h
section
variable {K : PySem.W.Frag} {G G' : Hp} (e : Same G G')
include e
theorem Dr.mono {v : V} {d : Dt} (h : Dr K G v d) : Dr K G' v d :=
  Dr.rec (motive_1 := fun v d _ => Dr K G' v d) (motive_2 := fun v d _ => Da K G' v d) (motive_3 := fun v d _ => Df K G' v d)
    .non .bl .int .str (fun s _ q => .lst (same_l e s) q) (fun s _ q => .tup (same_t e s) q) (fun s _ q => .ob (e _ _ s) q) .nil (fun _ _ p q => .cons p q) .nil (fun _ _ p q => .cons p q) h
theorem Da.mono {v : List V} {d : List Dt} (h : Da K G v d) : Da K G' v d :=
  Da.rec (motive_1 := fun v d _ => Dr K G' v d) (motive_2 := fun v d _ => Da K G' v d) (motive_3 := fun v d _ => Df K G' v d)
    .non .bl .int .str (fun s _ q => .lst (same_l e s) q) (fun s _ q => .tup (same_t e s) q) (fun s _ q => .ob (e _ _ s) q) .nil (fun _ _ p q => .cons p q) .nil (fun _ _ p q => .cons p q) h
end
section
variable {K : PySem.W.Frag} {G : Hp}
theorem Da.length : ∀ {vs : List V} {ds : List Dt}, Da K G vs ds → vs.length = ds.length
  | _, _, .nil => rfl
  | _, _, .cons _ t => by rw [List.length_cons, List.length_cons, Da.length t]
theorem Da.get : ∀ {vs : List V} {ds : List Dt} {i : Nat} {d : Dt}, Da K G vs ds → ds[i]? = some d → ∃ v, vs[i]? = some v ∧ Dr K G v d
  | _, _, _, _, .nil, h => by simp at h
  | _, _, 0, _, .cons r _, h => by simp at h; subst h; exact ⟨_, rfl, r⟩
  | _, _, i + 1, _, .cons _ t, h => by
    obtain ⟨v, h1, h2⟩ := Da.get (i := i) t (by simpa using h)
    exact ⟨v, by simpa using h1, h2⟩
theorem Da.get' : ∀ {vs : List V} {ds : List Dt} {i : Nat} {v : V}, Da K G vs ds → vs[i]? = some v → ∃ d, ds[i]? = some d ∧ Dr K G v d
  | _, _, _, _, .nil, h => by simp at h
  | _, _, 0, _, .cons r _, h => by simp at h; subst h; exact ⟨_, rfl, r⟩
  | _, _, i + 1, _, .cons _ t, h => by
    obtain ⟨v, h1, h2⟩ := Da.get' (i := i) t (by simpa using h)
    exact ⟨v, by simpa using h1, h2⟩
theorem Da.append : ∀ {vs ws : List V} {ds es : List Dt}, Da K G vs ds → Da K G ws es → Da K G (vs ++ ws) (ds ++ es)
  | _, _, _, _, .nil, q => q
  | _, _, _, _, .cons r t, q => .cons r (Da.append t q)
theorem Da.set : ∀ {vs : List V} {ds : List Dt} {v : V} {d : Dt} (i : Nat), Da K G vs ds → Dr K G v d → Da K G (vs.set i v) (ds.set i d)
  | _, _, _, _, _, .nil, _ => .nil
  | _, _, _, _, 0, .cons _ t, q => .cons q t
  | _, _, _, _, i + 1, .cons r t, q => .cons r (Da.set i t q)
theorem Da.drop : ∀ {vs : List V} {ds : List Dt} (i : Nat), Da K G vs ds → Da K G (vs.drop i) (ds.drop i)
  | _, _, 0, q => q
  | _, _, _ + 1, .nil => .nil
  | _, _, i + 1, .cons _ t => Da.drop i t
theorem Da.take : ∀ {vs : List V} {ds : List Dt} (i : Nat), Da K G vs ds → Da K G (vs.take i) (ds.take i)
  | _, _, 0, _ => .nil
  | _, _, _ + 1, .nil => .nil
  | _, _, i + 1, .cons r t => .cons r (Da.take i t)
theorem Da.ints : ∀ {ns : List Int}, Da K G (ns.map V.int) (ns.map Dt.int)
  | [] => .nil
  | _ :: _ => .cons (.int _) Da.ints
theorem Da.ints_inv : ∀ {vs : List V} {ns : List Int}, Da K G vs (ns.map Dt.int) → vs = ns.map V.int
  | _, [], h => by cases h; rfl
  | _, n :: r, h => by
    cases h with
    | cons h1 h2 =>
      cases h1
      rw [Da.ints_inv h2]
      rfl
end

/-! ### what may change, and what holds of it -/
structure Jm where
  ms : List Addr
  ok : Hp → Prop
  st : ∀ H H', ok H → (∀ b, b ∈ ms → H' b = H b) → ok H'
/-- behind a piece of code: G what is known for good, H the heap -/
structure Nx (J : Jm) (G H G' H' : Hp) : Prop where
  gg : Same G G'
  gh : Same G' H'
  fr : ∀ b, G b = none → H b ≠ none → G' b = none
  kp : ∀ b o, H b = some o → b ∉ J.ms → H' b = some o
  th : ∀ b, H b ≠ none → H' b ≠ none
  ok : J.ok H'
structure Wf (J : Jm) (G H : Hp) : Prop where
  gh : Same G H
  ok : J.ok H
  ms : ∀ m, m ∈ J.ms → G m = none ∧ H m ≠ none
section
variable {J : Jm} {G H G' H' G2 H2 : Hp}
theorem Wf.nx (w : Wf J G H) : Nx J G H G H := ⟨Same.refl _, w.gh, fun _ h _ => h, fun _ _ h _ => h, fun _ h => h, w.ok⟩
theorem Nx.wf (n : Nx J G H G' H') (w : Wf J G H) : Wf J G' H' := ⟨n.gh, n.ok, fun m hm => ⟨n.fr m (w.ms m hm).1 (w.ms m hm).2, n.th m (w.ms m hm).2⟩⟩
theorem Nx.trans (a : Nx J G H G' H') (b : Nx J G' H' G2 H2) : Nx J G H G2 H2 :=
  ⟨a.gg.trans b.gg, b.gh, fun x h1 h2 => b.fr x (a.fr x h1 h2) (a.th x h2), fun x o h1 h2 => b.kp x o (a.kp x o h1 h2) h2, fun x h => b.th x (a.th x h), b.ok⟩
theorem Wf.free (w : Wf J G H) {p : Addr} (h : H p = none) : G p = none := by
  cases q : G p with
  | none => rfl
  | some o => rw [w.gh p o q] at h; cases h
theorem Wf.notin (w : Wf J G H) {p : Addr} (h : H p = none) : p ∉ J.ms := fun hm => (w.ms p hm).2 h
/-- a new object that is data from now on -/
theorem Wf.new (w : Wf J G H) {p : Addr} (h : H p = none) (o : HO) : Nx J G H (upd G p o) (upd H p o) := by
  refine ⟨fun b u e => ?_, fun b u e => ?_, fun b h1 h2 => ?_, fun b u e _ => ?_, fun b hb => ?_, J.st H _ w.ok fun b hb => ?_⟩
  · rw [upd_ne (ne_of_none e (w.free h))]; exact e
  · by_cases hb : b = p
    · subst hb; rw [upd_same] at e ⊢; exact e
    · rw [upd_ne hb] at e ⊢; exact w.gh b u e
  · have hb : b ≠ p := fun z => h2 (z ▸ h)
    rw [upd_ne hb]; exact h1
  · rw [upd_ne (ne_of_none e h)]; exact e
  · have hn : b ≠ p := fun z => hb (z ▸ h)
    rw [upd_ne hn]; exact hb
  · have hn : b ≠ p := fun z => w.notin h (z ▸ hb)
    rw [upd_ne hn]
/-- a new object of its own -/
theorem Wf.newM (w : Wf J G H) {p : Addr} (h : H p = none) (o : HO) : Nx J G H G (upd H p o) := by
  refine ⟨Same.refl _, fun b u e => ?_, fun b h1 _ => h1, fun b u e _ => ?_, fun b hb => ?_, J.st H _ w.ok fun b hb => ?_⟩
  · rw [upd_ne (ne_of_none (w.gh b u e) h)]; exact w.gh b u e
  · rw [upd_ne (ne_of_none e h)]; exact e
  · have hn : b ≠ p := fun z => hb (z ▸ h)
    rw [upd_ne hn]; exact hb
  · have hn : b ≠ p := fun z => w.notin h (z ▸ hb)
    rw [upd_ne hn]
/-- a list of the def's own changes -/
theorem Nx.mut {B GB : Hp} (n : Nx J GB B G H) {p : Addr} {o o' : HO} (hB : B p = none) (hG : G p = none) (hm : p ∉ J.ms) (hH : H p = some o) : Nx J GB B G (upd H p o') := by
  refine ⟨n.gg, fun b u e => ?_, n.fr, fun b u e hb => ?_, fun b hb => ?_, J.st H _ n.ok fun b hb => ?_⟩
  · rw [upd_ne (ne_of_none e hG)]; exact n.gh b u e
  · rw [upd_ne (ne_of_none e hB)]; exact n.kp b u e hb
  · by_cases z : b = p
    · subst z; rw [upd_same]; simp
    · rw [upd_ne z]; exact n.th b hb
  · have hn : b ≠ p := fun z => hm (z ▸ hb)
    rw [upd_ne hn]
/-- it is data from now on -/
theorem Nx.fix {B GB : Hp} (n : Nx J GB B G H) {p : Addr} {o : HO} (hB : B p = none) (hG : G p = none) (hH : H p = some o) : Nx J GB B (upd G p o) H := by
  refine ⟨fun b u e => ?_, fun b u e => ?_, fun b h1 h2 => ?_, n.kp, n.th, n.ok⟩
  · have e2 := n.gg b u e
    rw [upd_ne (ne_of_none e2 hG)]; exact e2
  · by_cases hb : b = p
    · subst hb; rw [upd_same] at e; rw [hH]; exact e
    · rw [upd_ne hb] at e; exact n.gh b u e
  · have hn : b ≠ p := fun z => h2 (z ▸ hB)
    rw [upd_ne hn]; exact n.fr b h1 h2
end
/-- the draws: a list at h of the list at d and a place in it -/
def HandAt (h d : Addr) (H : Hp) : Prop := ∃ (ns : List Int) (i : Int), H h = some (.lst [.ref d, .int i]) ∧ H d = some (.lst (ns.map V.int)) ∧ 0 ≤ i
def Jh (h d : Addr) : Jm := ⟨[h, d], HandAt h d, fun H H' ⟨ns, i, a, b, c⟩ k => ⟨ns, i, by rw [k h (by simp)]; exact a, by rw [k d (by simp)]; exact b, c⟩⟩
def J0 : Jm := ⟨[], fun _ => True, fun _ _ _ _ => trivial⟩
theorem wf0 (H : Hp) : Wf J0 H H := ⟨Same.refl _, trivial, fun m hm => nomatch hm⟩

/-! ### the slots -/
inductive Sl where
  | no | d (x : Dt) | ml (xs : List Dt) | hand
def Sv1 (K : PySem.W.Frag) (J : Jm) (G : Hp) (v : V) : Sl → Prop
  | .d x => Dr K G v x
  | .hand => ∃ h d, v = .ref h ∧ J = Jh h d
  | _ => False
def SlOk (K : PySem.W.Frag) (J : Jm) (B G H : Hp) (ov : Option V) : Sl → Prop
  | .no => True
  | .d x => ∃ v, ov = some v ∧ Dr K G v x
  | .ml xs => ∃ p vs, ov = some (.ref p) ∧ B p = none ∧ G p = none ∧ p ∉ J.ms ∧ H p = some (.lst vs) ∧ Da K G vs xs
  | .hand => ∃ h d, ov = some (.ref h) ∧ J = Jh h d
structure En (K : PySem.W.Frag) (J : Jm) (B G H : Hp) (σ : L2.St) (env : List Sl) : Prop where
  len : σ.length = env.length
  ok : ∀ (i : Nat) (s : Sl), env[i]? = some s → ∃ ov : Option V, σ[i]? = some ov ∧ SlOk K J B G H ov s
  ap : ∀ (i j : Nat) (p : Addr), i ≠ j → (∃ xs, env[i]? = some (.ml xs)) → (∃ ys, env[j]? = some (.ml ys)) → σ[i]? = some (some (.ref p)) → σ[j]? = some (some (.ref p)) → False
section
variable {K : PySem.W.Frag} {J : Jm} {B G H G' H' : Hp} {σ : L2.St} {env : List Sl}
theorem SlOk.mono {ov : Option V} {s : Sl} (n : Nx J G H G' H') (h : SlOk K J B G H ov s) : SlOk K J B G' H' ov s := by
  cases s with
  | no => trivial
  | d x => obtain ⟨v, e, r⟩ := h; exact ⟨v, e, r.mono n.gg⟩
  | ml xs => obtain ⟨p, vs, e, hB, hG, hm, hH, r⟩ := h; exact ⟨p, vs, e, hB, n.fr p hG (by rw [hH]; simp), hm, n.kp p _ hH hm, r.mono n.gg⟩
  | hand => exact h
theorem En.mono (E : En K J B G H σ env) (n : Nx J G H G' H') : En K J B G' H' σ env :=
  ⟨E.len, fun i s h => let ⟨ov, a, b⟩ := E.ok i s h; ⟨ov, a, b.mono n⟩, E.ap⟩
theorem En.dat (E : En K J B G H σ env) {i : Nat} {x : Dt} (h : env[i]? = some (.d x)) : ∃ v, σ[i]? = some (some v) ∧ Dr K G v x := by
  obtain ⟨ov, a, v, b, c⟩ := E.ok i _ h
  exact ⟨v, by rw [a, b], c⟩
theorem En.setD (E : En K J B G H σ env) {i : Nat} {v : V} {x : Dt} (r : Dr K G v x) : En K J B G H (σ.set i (some v)) (env.set i (.d x)) := by
  refine ⟨by simp [E.len], fun k s h => ?_, fun k j p hne hk hj h1 h2 => ?_⟩
  · by_cases e : i = k
    · subst e
      by_cases hi : i < env.length
      · rw [List.getElem?_set_self hi] at h
        cases h
        exact ⟨some v, by rw [List.getElem?_set_self (by rw [E.len]; exact hi)], v, rfl, r⟩
      · rw [List.getElem?_eq_none (by simpa using hi)] at h; cases h
    · rw [List.getElem?_set_ne e] at h
      rw [List.getElem?_set_ne e]
      exact E.ok k s h
  · obtain ⟨xs, hk⟩ := hk
    obtain ⟨ys, hj⟩ := hj
    have ek : i ≠ k := fun e => by
      subst e
      by_cases hi : i < env.length
      · rw [List.getElem?_set_self hi] at hk; cases hk
      · rw [List.getElem?_eq_none (by simpa using hi)] at hk; cases hk
    have ej : i ≠ j := fun e => by
      subst e
      by_cases hi : i < env.length
      · rw [List.getElem?_set_self hi] at hj; cases hj
      · rw [List.getElem?_eq_none (by simpa using hi)] at hj; cases hj
    rw [List.getElem?_set_ne ek] at hk h1
    rw [List.getElem?_set_ne ej] at hj h2
    exact E.ap k j p hne ⟨xs, hk⟩ ⟨ys, hj⟩ h1 h2
theorem En.setM (E : En K J B G H σ env) {i : Nat} {p : Addr} {vs : List V} {xs : List Dt} (hB : B p = none) (hG : G p = none) (hm : p ∉ J.ms) (hH : H p = some (.lst vs)) (r : Da K G vs xs)
    (hd : ∀ j, j ≠ i → (∃ ys, env[j]? = some (.ml ys)) → σ[j]? ≠ some (some (.ref p))) : En K J B G H (σ.set i (some (.ref p))) (env.set i (.ml xs)) := by
  refine ⟨by simp [E.len], fun k s h => ?_, fun k j q hne hk hj h1 h2 => ?_⟩
  · by_cases e : i = k
    · subst e
      by_cases hi : i < env.length
      · rw [List.getElem?_set_self hi] at h
        cases h
        exact ⟨_, by rw [List.getElem?_set_self (by rw [E.len]; exact hi)], p, vs, rfl, hB, hG, hm, hH, r⟩
      · rw [List.getElem?_eq_none (by simpa using hi)] at h; cases h
    · rw [List.getElem?_set_ne e] at h
      rw [List.getElem?_set_ne e]
      exact E.ok k s h
  · have hp : ∀ j, i = j → σ.set i (some (.ref p)) = σ.set i (some (.ref p)) → (σ.set i (some (V.ref p)))[j]? = some (some (.ref q)) → q = p := fun j e _ h => by
      subst e
      by_cases hi : i < σ.length
      · rw [List.getElem?_set_self hi] at h; cases h; rfl
      · rw [List.getElem?_eq_none (by simpa using hi)] at h; cases h
    obtain ⟨xk, hk⟩ := hk
    obtain ⟨xj, hj⟩ := hj
    by_cases ek : i = k
    · have ej : i ≠ j := fun e => hne (ek.symm.trans e)
      have := hp k ek rfl h1
      subst this
      rw [List.getElem?_set_ne ej] at hj h2
      exact hd j ej.symm ⟨xj, hj⟩ h2
    · by_cases ej : i = j
      · have := hp j ej rfl h2
        subst this
        rw [List.getElem?_set_ne ek] at hk h1
        exact hd k (fun z => ek z.symm) ⟨xk, hk⟩ h1
      · rw [List.getElem?_set_ne ek] at hk h1
        rw [List.getElem?_set_ne ej] at hj h2
        exact E.ap k j q hne ⟨xk, hk⟩ ⟨xj, hj⟩ h1 h2
/-- a slot forgotten -/
theorem En.setN (E : En K J B G H σ env) {i : Nat} {ov : Option V} : En K J B G H (σ.set i ov) (env.set i .no) := by
  refine ⟨by simp [E.len], fun k s h => ?_, fun k j p hne hk hj h1 h2 => ?_⟩
  · by_cases e : i = k
    · subst e
      by_cases hi : i < env.length
      · rw [List.getElem?_set_self hi] at h
        cases h
        exact ⟨ov, by rw [List.getElem?_set_self (by rw [E.len]; exact hi)], trivial⟩
      · rw [List.getElem?_eq_none (by simpa using hi)] at h; cases h
    · rw [List.getElem?_set_ne e] at h
      rw [List.getElem?_set_ne e]
      exact E.ok k s h
  · obtain ⟨xs, hk⟩ := hk
    obtain ⟨ys, hj⟩ := hj
    have ek : i ≠ k := fun e => by
      subst e
      by_cases hi : i < env.length
      · rw [List.getElem?_set_self hi] at hk; cases hk
      · rw [List.getElem?_eq_none (by simpa using hi)] at hk; cases hk
    have ej : i ≠ j := fun e => by
      subst e
      by_cases hi : i < env.length
      · rw [List.getElem?_set_self hi] at hj; cases hj
      · rw [List.getElem?_eq_none (by simpa using hi)] at hj; cases hj
    rw [List.getElem?_set_ne ek] at hk h1
    rw [List.getElem?_set_ne ej] at hj h2
    exact E.ap k j p hne ⟨xs, hk⟩ ⟨ys, hj⟩ h1 h2
/-- the heap changes at a list of a slot -/
theorem En.upd1 (E : En K J B G H σ env) {i : Nat} {p : Addr} {ys zs : List Dt} {vs : List V} (hl : env[i]? = some (.ml ys)) (hs : σ[i]? = some (some (.ref p))) (r : Da K G vs zs) : En K J B G (upd H p (.lst vs)) σ (env.set i (.ml zs)) := by
  have hi : i < env.length := (List.getElem?_eq_some_iff.mp hl).1
  refine ⟨by simp [E.len], fun k s h => ?_, fun k j q hne hk hj h1 h2 => ?_⟩
  · by_cases e : i = k
    · subst e
      rw [List.getElem?_set_self hi] at h
      cases h
      obtain ⟨ov, h1, p', vs', h2, hB, hG, hm, hH, _⟩ := E.ok i _ hl
      rw [h1, h2] at hs
      cases hs
      exact ⟨_, by rw [h1, h2], p, vs, rfl, hB, hG, hm, upd_same, r⟩
    · rw [List.getElem?_set_ne e] at h
      obtain ⟨ov, h1, h2⟩ := E.ok k s h
      refine ⟨ov, h1, ?_⟩
      cases s with
      | no => trivial
      | d x => exact h2
      | hand => exact h2
      | ml xs =>
        obtain ⟨q, us, h3, hB, hG, hm, hH, rr⟩ := h2
        refine ⟨q, us, h3, hB, hG, hm, ?_, rr⟩
        have : q ≠ p := fun z => by
          subst z
          exact E.ap i k q e ⟨_, hl⟩ ⟨_, h⟩ hs (by rw [h1, h3])
        rw [upd_ne this]
        exact hH
  · have back : ∀ m : Nat, (∃ xs, (env.set i (.ml zs))[m]? = some (Sl.ml xs)) → ∃ xs, env[m]? = some (Sl.ml xs) := fun m ⟨xs, h⟩ => by
      by_cases e : i = m
      · subst e; exact ⟨_, hl⟩
      · rw [List.getElem?_set_ne e] at h; exact ⟨xs, h⟩
    exact E.ap k j q hne (back k hk) (back j hj) h1 h2
end
end Mv

set_option Elab.async false
set_option linter.all false
set_option maxRecDepth 100000
set_option maxHeartbeats 4000000
namespace Mv
open PySem PySem.Spec PyProof.Rows L2

/-! ### judgements: a term of the layer, told over data -/
section
variable (K : PySem.W.Frag) (J : Jm) (env : List Sl)
/-- an expression gives data of which R holds -/
def Ev (te : TE) (R : Dt → Prop) : Prop := ∀ (B G H : Hp) (σ : L2.St), Wf J G H → En K J B G H σ env → ∀ Q : VK, (∀ v d G' H', Nx J G H G' H' → Dr K G' v d → R d → Q v H') → te σ H Q
/-- it gives a new list of which R holds -/
def Em (te : TE) (R : List Dt → Prop) : Prop := ∀ (B G H : Hp) (σ : L2.St), Wf J G H → En K J B G H σ env → ∀ Q : VK,
  (∀ p vs ds G' H', Nx J G H G' H' → G' p = none → H p = none → H' p = some (.lst vs) → Da K G' vs ds → R ds → Q (.ref p) H') → te σ H Q
def Et (tt : TT) (R : Bool → Prop) : Prop := ∀ (B G H : Hp) (σ : L2.St), Wf J G H → En K J B G H σ env → ∀ Q : Bool → Hp → Prop, (∀ b G' H', Nx J G H G' H' → R b → Q b H') → tt σ H Q
/-- arguments that are data -/
def Ed (ta : TA) (R : List Dt → Prop) : Prop := ∀ (B G H : Hp) (σ : L2.St), Wf J G H → En K J B G H σ env → ∀ Q : List V → Hp → Prop, (∀ vs ds G' H', Nx J G H G' H' → Da K G' vs ds → R ds → Q vs H') → ta σ H Q
/-- the one argument is the draws, or data -/
inductive SvA : Hp → List V → List Sl → Prop
  | nil {G : Hp} : SvA G [] []
  | cons {G : Hp} {v : V} {vs : List V} {s : Sl} {ss : List Sl} : Sv1 K J G v s → SvA G vs ss → SvA G (v :: vs) (s :: ss)
def Ea (ta : TA) (R : List Sl → Prop) : Prop := ∀ (B G H : Hp) (σ : L2.St), Wf J G H → En K J B G H σ env → ∀ Q : List V → Hp → Prop, (∀ vs ss G' H', Nx J G H G' H' → SvA K J G' vs ss → R ss → Q vs H') → ta σ H Q
/-- an operation on data -/
def O2 (r : R2) (x y : Dt) (R : Dt → Prop) : Prop := ∀ (G H : Hp) (vx vy : V), Wf J G H → Dr K G vx x → Dr K G vy y → ∀ Q : VK, (∀ v d G' H', Nx J G H G' H' → Dr K G' v d → R d → Q v H') → r vx vy H Q
def O1 (r : V → Hp → VK → Prop) (x : Dt) (R : Dt → Prop) : Prop := ∀ (G H : Hp) (vx : V), Wf J G H → Dr K G vx x → ∀ Q : VK, (∀ v d G' H', Nx J G H G' H' → Dr K G' v d → R d → Q v H') → r vx H Q
def Oc (r : List V → Hp → VK → Prop) (xs : List Dt) (R : Dt → Prop) : Prop := ∀ (G H : Hp) (vs : List V), Wf J G H → Da K G vs xs → ∀ Q : VK, (∀ v d G' H', Nx J G H G' H' → Dr K G' v d → R d → Q v H') → r vs H Q
/-- a target takes data: which slots it stores -/
def Gt (g : TG) (d : Dt) (S : List Nat) (R : List Sl → Prop) : Prop := ∀ (B G H : Hp) (σ : L2.St) (v : V), Wf J G H → En K J B G H σ env → Dr K G v d → ∀ Q : L2.St → Hp → Prop,
  (∀ env' σ', En K J B G H σ' env' → (σ'.length = σ.length ∧ ∀ i : Nat, i ∉ S → σ'[i]? = σ[i]?) → R env' → Q σ' H) → g v σ H Q
def Gs (g : TGs) (ds : List Dt) (S : List Nat) (R : List Sl → Prop) : Prop := ∀ (B G H : Hp) (σ : L2.St) (vs : List V), Wf J G H → En K J B G H σ env → Da K G vs ds → ∀ Q : L2.St → Hp → Prop,
  (∀ env' σ', En K J B G H σ' env' → (σ'.length = σ.length ∧ ∀ i : Nat, i ∉ S → σ'[i]? = σ[i]?) → R env' → Q σ' H) → g vs σ H Q
end
/-- what a walk gives, turn by turn -/
structure Wk (K : PySem.W.Frag) (J : Jm) (G : Hp) (I : It) (ds : List Dt) : Prop where
  go : ∀ i G1 H1, Same G G1 → Wf J G1 H1 → i < ds.length → I.go i H1
  stop : ∀ G1 H1, Same G G1 → Wf J G1 H1 → I.stop ds.length H1
  yld : ∀ i G1 H1 x H2, Same G G1 → Wf J G1 H1 → i < ds.length → I.yld i H1 x H2 → ∃ G2 d, Nx J G1 H1 G2 H2 ∧ ds[i]? = some d ∧ Dr K G2 x d
def Ei (K : PySem.W.Frag) (J : Jm) (env : List Sl) (wi : TI) (R : List Dt → Prop) : Prop := ∀ (B G H : Hp) (σ : L2.St), Wf J G H → En K J B G H σ env → ∀ Q : It → Hp → Prop,
  (∀ I ds G' H', Nx J G H G' H' → Wk K J G' I ds → R ds → Q I H') → wi σ H Q

section
variable {K : PySem.W.Frag} {J : Jm} {env : List Sl} {ta tb te : TE} {tt tu : TT} {R : Dt → Prop} {r : R2}
theorem Ev.imp {R' : Dt → Prop} (h : Ev K J env te R) (k : ∀ d, R d → R' d) : Ev K J env te R' := fun B G H σ w E Q q => h B G H σ w E Q fun v d G' H' n r x => q v d G' H' n r (k d x)
theorem Em.imp {R R' : List Dt → Prop} (h : Em K J env te R) (k : ∀ d, R d → R' d) : Em K J env te R' := fun B G H σ w E Q q => h B G H σ w E Q fun p vs d G' H' n a b c r x => q p vs d G' H' n a b c r (k d x)
theorem Et.imp {R R' : Bool → Prop} (h : Et K J env tt R) (k : ∀ d, R d → R' d) : Et K J env tt R' := fun B G H σ w E Q q => h B G H σ w E Q fun b G' H' n x => q b G' H' n (k b x)

theorem ev_var {i : Nat} {x : Dt} (h : env[i]? = some (.d x)) (k : R x) : Ev K J env (tVar i) R := fun B G H σ w E Q q => by
  obtain ⟨v, e, r⟩ := E.dat h
  exact ⟨v, e, q v x G H w.nx r k⟩
theorem ev_int {i : Int} (k : R (.int i)) : Ev K J env (tC (.int i)) R := fun B G H σ w E Q q => q _ _ G H w.nx (.int i) k
theorem ev_bl {i : Bool} (k : R (.bl i)) : Ev K J env (tC (.bl i)) R := fun B G H σ w E Q q => q _ _ G H w.nx (.bl i) k
theorem ev_str {i : Str} (k : R (.str i)) : Ev K J env (tC (.str i)) R := fun B G H σ w E Q q => q _ _ G H w.nx (.str i) k
theorem ev_non (k : R .non) : Ev K J env (tC .non) R := fun B G H σ w E Q q => q _ _ G H w.nx .non k
theorem ev_ref {a : Addr} {d : Dt} (hd : ∀ G, Dr K G (.ref a) d) (k : R d) : Ev K J env (tC (.ref a)) R := fun B G H σ w E Q q => q _ _ G H w.nx (hd G) k
theorem ev_op (h : Ev K J env ta fun x => Ev K J env tb fun y => O2 K J r x y R) : Ev K J env (tOp r ta tb) R := fun B G H σ w E Q q =>
  h B G H σ w E _ fun vx x G1 H1 n1 rx hb => hb B G1 H1 σ (n1.wf w) (E.mono n1) _ fun vy y G2 H2 n2 ry o =>
    o G2 H2 vx vy (n2.wf (n1.wf w)) (rx.mono n2.gg) ry Q fun v d G3 H3 n3 rd k => q v d G3 H3 ((n1.trans n2).trans n3) rd k
theorem ev_un {r : V → Hp → VK → Prop} (h : Ev K J env ta fun x => O1 K J r x R) : Ev K J env (tUn r ta) R := fun B G H σ w E Q q =>
  h B G H σ w E _ fun vx x G1 H1 n1 rx o => o G1 H1 vx (n1.wf w) rx Q fun v d G3 H3 n3 rd k => q v d G3 H3 (n1.trans n3) rd k
theorem ev_if (h : Et K J env tt fun b => (b = true → Ev K J env ta R) ∧ (b = false → Ev K J env tb R)) : Ev K J env (tIf tt ta tb) R := fun B G H σ w E Q q =>
  h B G H σ w E _ fun b G1 H1 n1 k => by
    cases b with
    | true => exact k.1 rfl B G1 H1 σ (n1.wf w) (E.mono n1) Q fun v d G2 H2 n2 r x => q v d G2 H2 (n1.trans n2) r x
    | false => exact k.2 rfl B G1 H1 σ (n1.wf w) (E.mono n1) Q fun v d G2 H2 n2 r x => q v d G2 H2 (n1.trans n2) r x
theorem ev_andV (h : Ev K J env ta fun x => ∃ b, x = .bl b ∧ (b = true → Ev K J env tb R) ∧ (b = false → R (.bl false))) : Ev K J env (tAndV ta tb) R := fun B G H σ w E Q q =>
  h B G H σ w E _ fun v d G1 H1 n1 rd ⟨b, e, k1, k2⟩ => by
    subst e
    cases rd
    refine ⟨b, rfl, ?_⟩
    cases b with
    | true => exact k1 rfl B G1 H1 σ (n1.wf w) (E.mono n1) Q fun v d G2 H2 n2 r x => q v d G2 H2 (n1.trans n2) r x
    | false => exact q _ _ G1 H1 n1 (.bl false) (k2 rfl)
theorem ev_orV (h : Ev K J env ta fun x => ∃ b, x = .bl b ∧ (b = true → R (.bl true)) ∧ (b = false → Ev K J env tb R)) : Ev K J env (tOrV ta tb) R := fun B G H σ w E Q q =>
  h B G H σ w E _ fun v d G1 H1 n1 rd ⟨b, e, k1, k2⟩ => by
    subst e
    cases rd
    refine ⟨b, rfl, ?_⟩
    cases b with
    | true => exact q _ _ G1 H1 n1 (.bl true) (k1 rfl)
    | false => exact k2 rfl B G1 H1 σ (n1.wf w) (E.mono n1) Q fun v d G2 H2 n2 r x => q v d G2 H2 (n1.trans n2) r x
theorem ev_notV (h : Ev K J env ta fun x => ∃ b, x = .bl b ∧ R (.bl (!b))) : Ev K J env (tNotV ta) R := fun B G H σ w E Q q =>
  h B G H σ w E _ fun v d G1 H1 n1 rd ⟨b, e, k1⟩ => by
    subst e
    cases rd
    exact ⟨b, rfl, q _ _ G1 H1 n1 (.bl _) k1⟩
/-! tests -/
theorem et_test {R : Bool → Prop} (h : Ev K J env te fun x => ∃ b, x = .bl b ∧ R b) : Et K J env (tTest te) R := fun B G H σ w E Q q =>
  h B G H σ w E _ fun v d G1 H1 n1 rd ⟨b, e, k⟩ => by
    subst e
    cases rd
    exact ⟨b, rfl, q b G1 H1 n1 k⟩
theorem et_B {R : Bool → Prop} (h : Ev K J env te fun x => ∃ b, x = .bl b ∧ R b) : Et K J env (tB te) R := fun B G H σ w E Q q =>
  h B G H σ w E _ fun v d G1 H1 n1 rd ⟨b, e, k⟩ => by
    subst e
    cases rd
    exact ⟨b, rfl, q b G1 H1 n1 k⟩
theorem et_and {R : Bool → Prop} (h : Et K J env tt fun b => (b = true → Et K J env tu R) ∧ (b = false → R false)) : Et K J env (tAnd tt tu) R := fun B G H σ w E Q q =>
  h B G H σ w E _ fun b G1 H1 n1 k => by
    cases b with
    | true => exact k.1 rfl B G1 H1 σ (n1.wf w) (E.mono n1) Q fun b G2 H2 n2 x => q b G2 H2 (n1.trans n2) x
    | false => exact q false G1 H1 n1 (k.2 rfl)
theorem et_or {R : Bool → Prop} (h : Et K J env tt fun b => (b = true → R true) ∧ (b = false → Et K J env tu R)) : Et K J env (tOr tt tu) R := fun B G H σ w E Q q =>
  h B G H σ w E _ fun b G1 H1 n1 k => by
    cases b with
    | true => exact q true G1 H1 n1 (k.1 rfl)
    | false => exact k.2 rfl B G1 H1 σ (n1.wf w) (E.mono n1) Q fun b G2 H2 n2 x => q b G2 H2 (n1.trans n2) x
theorem et_not {R : Bool → Prop} (h : Et K J env tt fun b => R (!b)) : Et K J env (tNot tt) R := fun B G H σ w E Q q =>
  h B G H σ w E _ fun b G1 H1 n1 k => q (!b) G1 H1 n1 k
theorem et_yes {R : Bool → Prop} (h : R true) : Et K J env tYes R := fun B G H σ w E Q q => q true G H w.nx h
/-! arguments -/
theorem ed_nil {R : List Dt → Prop} (h : R []) : Ed K J env tNil R := fun B G H σ w E Q q => q [] [] G H w.nx .nil h
theorem ed_cons {tr : TA} {R : List Dt → Prop} (h : Ev K J env ta fun x => Ed K J env tr fun xs => R (x :: xs)) : Ed K J env (tCons ta tr) R := fun B G H σ w E Q q =>
  h B G H σ w E _ fun v d G1 H1 n1 rd k => k B G1 H1 σ (n1.wf w) (E.mono n1) _ fun vs ds G2 H2 n2 rs x => q _ _ G2 H2 (n1.trans n2) (.cons (rd.mono n2.gg) rs) x
theorem Sv1.mono {G G' : Hp} {v : V} {s : Sl} (e : Same G G') (h : Sv1 K J G v s) : Sv1 K J G' v s := by
  cases s with
  | d x => exact Dr.mono e h
  | hand => exact h
  | no => exact h
  | ml xs => exact h
theorem ea_nil {R : List Sl → Prop} (h : R []) : Ea K J env tNil R := fun B G H σ w E Q q => q [] [] G H w.nx .nil h
theorem ea_cons {tr : TA} {R : List Sl → Prop} (h : Ev K J env ta fun x => Ea K J env tr fun xs => R (.d x :: xs)) : Ea K J env (tCons ta tr) R := fun B G H σ w E Q q =>
  h B G H σ w E _ fun v d G1 H1 n1 rd k => k B G1 H1 σ (n1.wf w) (E.mono n1) _ fun vs ds G2 H2 n2 rs x => q _ _ G2 H2 (n1.trans n2) (.cons (show Sv1 K J G2 v (.d d) from rd.mono n2.gg) rs) x
theorem ea_hand {i : Nat} {tr : TA} {R : List Sl → Prop} (hh : env[i]? = some .hand) (h : Ea K J env tr fun xs => R (.hand :: xs)) : Ea K J env (tCons (tVar i) tr) R := fun B G H σ w E Q q => by
  obtain ⟨ov, a, hh, d, b, c⟩ := E.ok i _ hh
  exact ⟨.ref hh, by rw [a, b], h B G H σ w E _ fun vs ds G2 H2 n2 rs x => q _ _ G2 H2 n2 (.cons (show Sv1 K J G2 (.ref hh) .hand from ⟨hh, d, rfl, c⟩) rs) x⟩
/-! displays -/
theorem Em.ev {R : Dt → Prop} (h : Em K J env te fun ds => R (.lst ds)) : Ev K J env te R := fun B G H σ w E Q q =>
  h B G H σ w E _ fun p vs ds G1 H1 n1 hG hH hp r k => q (.ref p) (.lst ds) (upd G1 p (.lst vs)) H1 (n1.fix hH hG hp) (.lst (.inl (.inl upd_same)) (r.mono fun b o e => by rw [upd_ne (ne_of_none e hG)]; exact e)) k
theorem sz_of {n : Nat} (h : n ≤ 100000) : n ≤ sizeLine := Nat.le_trans h (by decide)
theorem sz_lt {n : Nat} (h : n < 100000) : n < sizeLine := Nat.lt_of_lt_of_le h (by decide)
theorem ev_tup {ta : TA} (h : Ed K J env ta fun ds => ds.length ≤ 100000 ∧ R (.tup ds)) : Ev K J env (tTup ta) R := fun B G H σ w E Q q =>
  h B G H σ w E _ fun vs ds G1 H1 n1 r ⟨hz, k⟩ => ⟨sz_of (by rw [r.length]; exact hz), fun p hp => by
    have w1 := n1.wf w
    have n2 := w1.new hp (.tup vs)
    exact q (.ref p) (.tup ds) _ _ (n1.trans n2) (.tup (.inl (.inl upd_same)) (r.mono n2.gg)) k⟩
theorem em_lst {ta : TA} {R : List Dt → Prop} (h : Ed K J env ta fun ds => ds.length ≤ 100000 ∧ R ds) : Em K J env (tLst ta) R := fun B G H σ w E Q q =>
  h B G H σ w E _ fun vs ds G1 H1 n1 r ⟨hz, k⟩ => ⟨sz_of (by rw [r.length]; exact hz), fun p hp => by
    have w1 := n1.wf w
    refine q p vs ds G1 _ (n1.trans (w1.newM hp _)) (w1.free hp) ?_ upd_same r k
    cases z : H p with
    | none => rfl
    | some o => exact absurd hp (n1.th p (by rw [z]; simp))⟩
theorem ev_lst {ta : TA} (h : Ed K J env ta fun ds => ds.length ≤ 100000 ∧ R (.lst ds)) : Ev K J env (tLst ta) R := Em.ev (em_lst h)
/-! calls of built-ins -/
theorem ev_cb {rc : List V → Hp → VK → Prop} {ta : TA} (h : Ed K J env ta fun ds => Oc K J rc ds R) : Ev K J env (tCB rc ta) R := fun B G H σ w E Q q =>
  h B G H σ w E _ fun vs ds G1 H1 n1 r o => o G1 H1 vs (n1.wf w) r Q fun v d G2 H2 n2 rd k => q v d G2 H2 (n1.trans n2) rd k
end
/-! ### calls of defs: a def is told by what must hold so that it yields what is wanted -/
abbrev Fw := List Sl → (Dt → Prop) → Prop
def Ct (K : PySem.W.Frag) (W : Fw) : Sp := fun vs H Q _ => ∃ (J : Jm) (G : Hp) (ss : List Sl) (P : Dt → Prop), Wf J G H ∧ SvA K J G vs ss ∧ W ss P ∧ ∀ v d G' H', Nx J G H G' H' → Dr K G' v d → P d → Q v H'
section
variable {K : PySem.W.Frag} {J : Jm} {env : List Sl} {R : Dt → Prop} {W : Fw} {E0 : XK}
theorem ev_call {ta : TA} (h : Ea K J env ta fun ss => W ss R) : Ev K J env (tCall (Ct K W) [] E0 ta) R := fun B G H σ w E Q q =>
  h B G H σ w E _ fun vs ss G1 H1 n1 r k => by
    show Ct K W (vs ++ []) H1 Q E0
    rw [List.append_nil]
    exact ⟨J, G1, ss, R, n1.wf w, r, k, fun v d G2 H2 n2 rd x => q v d G2 H2 (n1.trans n2) rd x⟩
end

/-- a def that gives a new list of its caller's own -/
abbrev FwM := List Sl → (List Dt → Prop) → Prop
def CtM (K : PySem.W.Frag) (W : FwM) : Sp := fun vs H Q _ => ∃ (J : Jm) (G : Hp) (ss : List Sl) (P : List Dt → Prop), Wf J G H ∧ SvA K J G vs ss ∧ W ss P ∧
  ∀ p ws ds G' H', Nx J G H G' H' → G' p = none → H p = none → H' p = some (.lst ws) → Da K G' ws ds → P ds → Q (.ref p) H'
section
variable {K : PySem.W.Frag} {J : Jm} {env : List Sl} {R : List Dt → Prop} {W : FwM} {E0 : XK}
theorem em_call {ta : TA} (h : Ea K J env ta fun ss => W ss R) : Em K J env (tCall (CtM K W) [] E0 ta) R := fun B G H σ w E Q q =>
  h B G H σ w E _ fun vs ss G1 H1 n1 r k => by
    show CtM K W (vs ++ []) H1 Q E0
    rw [List.append_nil]
    refine ⟨J, G1, ss, R, n1.wf w, r, k, fun p ws ds G2 H2 n2 a b c rd x => q p ws ds G2 H2 (n1.trans n2) a ?_ c rd x⟩
    cases z : H p with
    | none => rfl
    | some o => exact absurd b (n1.th p (by rw [z]; simp))
end
/-! ### statements -/
theorem ne_mem {α : Type} {p m : α} {l : List α} (hm : p ∉ l) (h : m ∈ l) : m ≠ p := fun z => hm (z ▸ h)
structure DE where
  nx : List Sl → Prop
  rt : Dt → Prop
  bk : List Sl → Prop := fun _ => False
  ct : List Sl → Prop := fun _ => False
  rm : List Dt → Prop := fun _ => False
/-- the state: since the entry (GB, B) only so much has changed -/
structure At (K : PySem.W.Frag) (J : Jm) (GB B G H : Hp) (σ : L2.St) (env : List Sl) : Prop where
  wf : Wf J G H
  nx : Nx J GB B G H
  en : En K J B G H σ env
def Sv (K : PySem.W.Frag) (J : Jm) (env : List Sl) (ts : TS) (D : DE) : Prop := ∀ (GB B G H : Hp) (σ : L2.St), At K J GB B G H σ env → ∀ E : Ends,
  (∀ env' G' H' σ', At K J GB B G' H' σ' env' → D.nx env' → E.nx σ' H') → (∀ env' G' H' σ', At K J GB B G' H' σ' env' → D.bk env' → E.bk σ' H') → (∀ env' G' H' σ', At K J GB B G' H' σ' env' → D.ct env' → E.ct σ' H') →
  (∀ v d G' H', Nx J GB B G' H' → Dr K G' v d → D.rt d → E.rt v H') →
  (∀ p vs ds G' H', Nx J GB B G' H' → G' p = none → B p = none → H' p = some (.lst vs) → Da K G' vs ds → D.rm ds → E.rt (.ref p) H') → ts E σ H
section
variable {K : PySem.W.Frag} {J : Jm} {env : List Sl} {ts tu : TS} {te ti : TE} {tt : TT} {D : DE}
theorem At.then {GB B G H G' H' : Hp} {σ : L2.St} (a : At K J GB B G H σ env) (n : Nx J G H G' H') : At K J GB B G' H' σ env := ⟨n.wf a.wf, a.nx.trans n, a.en.mono n⟩
theorem Sv.imp {D' : DE} (h : Sv K J env ts D) (k1 : ∀ e, D.nx e → D'.nx e) (k2 : ∀ e, D.bk e → D'.bk e) (k3 : ∀ e, D.ct e → D'.ct e) (k4 : ∀ d, D.rt d → D'.rt d) (k5 : ∀ d, D.rm d → D'.rm d) : Sv K J env ts D' := fun GB B G H σ a E q1 q2 q3 q4 q5 =>
  h GB B G H σ a E (fun e G' H' σ' a' x => q1 e G' H' σ' a' (k1 e x)) (fun e G' H' σ' a' x => q2 e G' H' σ' a' (k2 e x)) (fun e G' H' σ' a' x => q3 e G' H' σ' a' (k3 e x)) (fun v d G' H' n r x => q4 v d G' H' n r (k4 d x)) fun p vs ds G' H' n a b c r x => q5 p vs ds G' H' n a b c r (k5 ds x)
theorem sv_seq (h : Sv K J env ts { D with nx := fun e => Sv K J e tu D }) : Sv K J env (tSeq ts tu) D := fun GB B G H σ a E q1 q2 q3 q4 q5 =>
  h GB B G H σ a { E with nx := tu E } (fun e G' H' σ' a' x => x GB B G' H' σ' a' E q1 q2 q3 q4 q5) q2 q3 q4 q5
/-- a word between a statement and the rest -/
theorem sv_mid (M : List Sl → Prop) (h : Sv K J env ts { D with nx := M }) (k : ∀ e, M e → Sv K J e tu D) : Sv K J env (tSeq ts tu) D :=
  sv_seq (h.imp k (fun _ x => x) (fun _ x => x) (fun _ x => x) fun _ x => x)
theorem sv_next (h : D.nx env) : Sv K J env tNext D := fun GB B G H σ a E q1 _ _ _ _ => q1 env G H σ a h
theorem sv_break (h : D.bk env) : Sv K J env tBreak D := fun GB B G H σ a E _ q2 _ _ _ => q2 env G H σ a h
theorem sv_cont (h : D.ct env) : Sv K J env tCont D := fun GB B G H σ a E _ _ q3 _ _ => q3 env G H σ a h
theorem sv_asg {i : Nat} (h : Ev K J env te fun d => D.nx (env.set i (.d d))) : Sv K J env (tAsg te (gName i)) D := fun GB B G H σ a E q1 _ _ _ _ =>
  h B G H σ a.wf a.en _ fun v d G1 H1 n1 r k => q1 _ G1 H1 _ ⟨n1.wf a.wf, a.nx.trans n1, (a.en.mono n1).setD r⟩ k
theorem sv_asgG {g : TG} (S : List Nat) (h : Ev K J env te fun d => Gt K J env g d S D.nx) : Sv K J env (tAsg te g) D := fun GB B G H σ a E q1 _ _ _ _ =>
  h B G H σ a.wf a.en _ fun v d G1 H1 n1 r k => k B G1 H1 σ v (n1.wf a.wf) (a.en.mono n1) r _ fun e σ' E' _ x => q1 e G1 H1 σ' ⟨n1.wf a.wf, a.nx.trans n1, E'⟩ x
theorem sv_drop (h : Ev K J env te fun _ => D.nx env) : Sv K J env (tDrop te) D := fun GB B G H σ a E q1 _ _ _ _ =>
  h B G H σ a.wf a.en _ fun v d G1 H1 n1 r k => q1 _ G1 H1 _ (a.then n1) k
theorem sv_ret (h : Ev K J env te D.rt) : Sv K J env (tRet te) D := fun GB B G H σ a E _ _ _ q4 _ =>
  h B G H σ a.wf a.en _ fun v d G1 H1 n1 r k => q4 v d G1 H1 (a.nx.trans n1) r k
theorem sv_retN (h : D.rt .non) : Sv K J env tRetN D := fun GB B G H σ a E _ _ _ q4 _ => q4 .non .non G H a.nx .non h
theorem sv_if (h : Et K J env tt fun b => (b = true → Sv K J env ts D) ∧ (b = false → Sv K J env tu D)) : Sv K J env (tIfS tt ts tu) D := fun GB B G H σ a E q1 q2 q3 q4 q5 =>
  h B G H σ a.wf a.en _ fun b G1 H1 n1 k => by
    cases b with
    | true => exact k.1 rfl GB B G1 H1 σ (a.then n1) E q1 q2 q3 q4 q5
    | false => exact k.2 rfl GB B G1 H1 σ (a.then n1) E q1 q2 q3 q4 q5
/-- a new list that the slot holds alone -/
theorem sv_asgM {i : Nat} (h : Em K J env te fun ds => D.nx (env.set i (.ml ds))) : Sv K J env (tAsg te (gName i)) D := fun GB B G H σ a E q1 _ _ _ _ =>
  h B G H σ a.wf a.en _ fun p vs ds G1 H1 n1 hG hH hp r k => by
    have hB : B p = none := by
      cases z : B p with
      | none => rfl
      | some o => exact absurd hH (a.nx.th p (by rw [z]; simp))
    refine q1 _ G1 H1 _ ⟨n1.wf a.wf, a.nx.trans n1, (a.en.mono n1).setM hB hG (a.wf.notin hH) hp r fun j hj ⟨ys, hy⟩ e => ?_⟩ k
    obtain ⟨ov, h1, p', vs', h2, _, _, _, h3, _⟩ := a.en.ok j _ hy
    rw [h1, h2] at e
    cases e
    rw [hH] at h3
    cases h3
/-- the slot's list is data from now on -/
theorem sv_fix {i : Nat} {xs : List Dt} (hi : env[i]? = some (.ml xs)) (h : Sv K J (env.set i (.d (.lst xs))) ts D) : Sv K J env ts D := fun GB B G H σ a E q1 q2 q3 q4 q5 => by
  obtain ⟨ov, h1, p, vs, h2, hB, hG, hm, hH, r⟩ := a.en.ok i _ hi
  have n := a.nx.fix hB hG hH
  have w : Wf J (upd G p (.lst vs)) H := ⟨n.gh, n.ok, fun m hmm => ⟨by rw [upd_ne (ne_mem hm hmm)]; exact (a.wf.ms m hmm).1, (a.wf.ms m hmm).2⟩⟩
  have sg : Same G (upd G p (.lst vs)) := fun b o e => by rw [upd_ne (ne_of_none e hG)]; exact e
  have hs : σ.set i (some (.ref p)) = σ := by
    refine List.ext_getElem? fun k => ?_
    by_cases e : i = k
    · subst e
      rw [List.getElem?_set_self (List.getElem?_eq_some_iff.mp h1).1, h1, h2]
    · rw [List.getElem?_set_ne e]
  have e2 : En K J B (upd G p (.lst vs)) H σ (env.set i (.d (.lst xs))) := by
    have e0 : En K J B G H σ (env.set i .no) := by
      have := a.en.setN (i := i) (ov := some (.ref p))
      rw [hs] at this
      exact this
    have e1 : En K J B (upd G p (.lst vs)) H σ (env.set i .no) := by
      refine ⟨e0.len, fun k s hk => ?_, e0.ap⟩
      obtain ⟨ov', h1', h2'⟩ := e0.ok k s hk
      refine ⟨ov', h1', ?_⟩
      cases s with
      | no => trivial
      | d x => obtain ⟨v, e, r'⟩ := h2'; exact ⟨v, e, r'.mono sg⟩
      | hand => exact h2'
      | ml ys =>
        obtain ⟨p', vs', e3, hB', hG', hm', hH', r'⟩ := h2'
        refine ⟨p', vs', e3, hB', ?_, hm', hH', r'.mono sg⟩
        have : p' ≠ p := fun z => by
          subst z
          have hne : i ≠ k := fun z => by
            subst z
            rw [List.getElem?_set_self (List.getElem?_eq_some_iff.mp hi).1] at hk
            cases hk
          rw [List.getElem?_set_ne hne] at hk
          exact a.en.ap i k p' hne ⟨_, hi⟩ ⟨_, hk⟩ (by rw [h1, h2]) (by rw [h1', e3])
        rw [upd_ne this]
        exact hG'
    have := e1.setD (i := i) (v := .ref p) (x := .lst xs) (.lst (.inl (.inl upd_same)) (r.mono sg))
    rw [hs, List.set_set] at this
    exact this
  exact h GB B _ H σ ⟨w, n, e2⟩ E q1 q2 q3 q4 q5
/-- xs.append(e) -/
theorem sv_app {i : Nat} {xs : List Dt} (hi : env[i]? = some (.ml xs)) (hz : xs.length < 100000) (h : Ev K J env te fun d => D.nx (env.set i (.ml (xs ++ [d])))) :
    Sv K J env (tDrop (tBM K "list" rAppend (tVar i) (tCons te tNil))) D := fun GB B G H σ a E q1 _ _ _ _ => by
  obtain ⟨ov, h1, p, vs, h2, hB, hG, hm, hH, r⟩ := a.en.ok i _ hi
  have hs : σ[i]? = some (some (.ref p)) := by rw [h1, h2]
  refine ⟨.ref p, hs, .inl ⟨rfl, vs, .inl (.inl hH)⟩, h B G H σ a.wf a.en _ fun v d G1 H1 n1 rd k => ?_⟩
  have hH1 := n1.kp p _ hH hm
  have hG1 := n1.fr p hG (by rw [hH]; simp)
  have a1 := a.then n1
  refine ⟨p, vs, v, rfl, rfl, hH1, sz_lt (by rw [r.length]; exact hz), q1 _ G1 _ σ ?_ k⟩
  have n2 := a1.nx.mut (o' := .lst (vs ++ [v])) hB hG1 hm hH1
  refine ⟨⟨n2.gh, n2.ok, fun m hmm => ⟨(a1.wf.ms m hmm).1, ?_⟩⟩, n2, a1.en.upd1 hi hs ((r.mono n1.gg).append (.cons rd .nil))⟩
  rw [upd_ne (ne_mem hm hmm)]
  exact (a1.wf.ms m hmm).2
theorem ixN_nat {n j : Nat} (hj : j < n) : ixN n (j : Int) = some j := by
  unfold ixN
  rw [if_pos (by omega), if_pos (by omega)]
  simp
/-- xs[k] = e -/
theorem sv_setM {i : Nat} {xs : List Dt} (hi : env[i]? = some (.ml xs)) (h : Ev K J env te fun d => Ev K J env ti fun k => ∃ j : Nat, k = .int (j : Int) ∧ j < xs.length ∧ D.nx (env.set i (.ml (xs.set j d)))) :
    Sv K J env (tAsg te (gSub (tVar i) ti rSetL)) D := fun GB B G H σ a E q1 _ _ _ _ => by
  obtain ⟨ov, h1, p, vs, h2, hB, hG, hm, hH, r⟩ := a.en.ok i _ hi
  have hs : σ[i]? = some (some (.ref p)) := by rw [h1, h2]
  refine h B G H σ a.wf a.en _ fun v d G1 H1 n1 rd k => ?_
  have a1 := a.then n1
  refine ⟨.ref p, hs, k B G1 H1 σ a1.wf a1.en _ fun w x G2 H2 n2 rx ⟨j, ex, hj, k2⟩ => ?_⟩
  subst ex
  cases rx
  have n12 := n1.trans n2
  have hH2 := n12.kp p _ hH hm
  have hG2 := n12.fr p hG (by rw [hH]; simp)
  have a2 := a.then n12
  refine ⟨p, vs, (j : Int), j, rfl, rfl, hH2, ixN_nat (by rw [r.length]; exact hj), q1 _ G2 _ σ ?_ k2⟩
  have n3 := a2.nx.mut (o' := .lst (vs.set j v)) hB hG2 hm hH2
  refine ⟨⟨n3.gh, n3.ok, fun m hmm => ⟨(a2.wf.ms m hmm).1, ?_⟩⟩, n3, a2.en.upd1 hi hs ((r.mono n12.gg).set j (rd.mono n2.gg))⟩
  rw [upd_ne (ne_mem hm hmm)]
  exact (a2.wf.ms m hmm).2
/-- return of the slot's own list -/
theorem sv_retM {i : Nat} {xs : List Dt} (hi : env[i]? = some (.ml xs)) (h : D.rm xs) : Sv K J env (tRet (tVar i)) D := fun GB B G H σ a E _ _ _ _ q5 => by
  obtain ⟨ov, h1, p, vs, h2, hB, hG, hm, hH, r⟩ := a.en.ok i _ hi
  exact ⟨.ref p, by rw [h1, h2], q5 p vs xs G H a.nx hG hB hH r h⟩
/-- hand = [draws, 0]: from here on the draws are at hand -/
theorem sv_hand {i : Nat} {rt : Dt → Prop} (he : ∀ (k : Nat) (s : Sl), env[k]? = some s → s = .no ∨ ∃ x, s = .d x) (h : Em K J0 env te fun ds => ∃ ns : List Int, ds = ns.map Dt.int ∧ ∀ l p, Sv K (Jh l p) (env.set i .hand) tu { nx := fun _ => False, rt := rt }) :
    Sv K J0 env (tSeq (tAsg (tLst (tCons te (tCons (tC (.int 0)) tNil))) (gName i)) tu) { nx := fun _ => False, rt := rt } := fun GB B G H σ a E q1 q2 q3 q4 q5 => by
  refine h B G H σ a.wf a.en _ fun p vs ds G1 H1 n1 hG hH hp r ⟨ns, e, sv⟩ => ⟨by show 2 ≤ sizeLine; decide, fun l hl => ?_⟩
  subst e
  have hvs := r.ints_inv
  subst hvs
  have a1 := a.then n1
  have n2 := a1.wf.newM hl (.lst [.ref p, .int 0])
  have n12 := a1.nx.trans n2
  have hlp : p ≠ l := ne_of_none hp hl
  have hBl : B l = none := by
    cases z : B l with
    | none => rfl
    | some o => exact absurd hl (a1.nx.th l (by rw [z]; simp))
  have hBp : B p = none := by
    cases z : B p with
    | none => rfl
    | some o => exact absurd hH (a.nx.th p (by rw [z]; simp))
  have hGl : G1 l = none := a1.wf.free hl
  have hok : HandAt l p (upd H1 l (.lst [.ref p, .int 0])) := ⟨ns, 0, upd_same, by rw [upd_ne hlp]; exact hp, Int.le_refl _⟩
  have wf : Wf (Jh l p) G1 (upd H1 l (.lst [.ref p, .int 0])) := ⟨n12.gh, hok, fun m hm => by
    rcases List.mem_cons.mp hm with rfl | hm
    · exact ⟨hGl, by rw [upd_same]; simp⟩
    · rcases List.mem_cons.mp hm with rfl | hm
      · exact ⟨hG, by rw [upd_ne hlp, hp]; simp⟩
      · cases hm⟩
  have nx : Nx (Jh l p) GB B G1 (upd H1 l (.lst [.ref p, .int 0])) := ⟨n12.gg, n12.gh, n12.fr, fun b o e _ => n12.kp b o e (by show b ∉ ([] : List Addr); simp), n12.th, hok⟩
  have en : En K (Jh l p) B G1 (upd H1 l (.lst [.ref p, .int 0])) (σ.set i (some (.ref l))) (env.set i .hand) := by
    have E1 := a1.en
    refine ⟨by simp [E1.len], fun k s hk => ?_, fun k j q hne hk hj h1 h2 => ?_⟩
    · by_cases z : i = k
      · subst z
        have hi : i < env.length := by
          have := (List.getElem?_eq_some_iff.mp hk).1
          simpa using this
        rw [List.getElem?_set_self hi] at hk
        cases hk
        exact ⟨_, by rw [List.getElem?_set_self (by rw [E1.len]; exact hi)], l, p, rfl, rfl⟩
      · rw [List.getElem?_set_ne z] at hk
        rw [List.getElem?_set_ne z]
        obtain ⟨ov, h1, h2⟩ := E1.ok k s hk
        rcases he k s hk with rfl | ⟨x, rfl⟩
        · exact ⟨ov, h1, trivial⟩
        · exact ⟨ov, h1, h2⟩
    · obtain ⟨xk, hk⟩ := hk
      by_cases z : i = k
      · subst z
        have hi : i < env.length := by
          have := (List.getElem?_eq_some_iff.mp hk).1
          simpa using this
        rw [List.getElem?_set_self hi] at hk
        cases hk
      · rw [List.getElem?_set_ne z] at hk
        rcases he k _ hk with z | ⟨x, z⟩ <;> cases z
  refine sv l p GB B G1 _ _ ⟨wf, nx, en⟩ E (fun _ _ _ _ _ x => x.elim) (fun _ _ _ _ _ x => x.elim) (fun _ _ _ _ _ x => x.elim) (fun v d G' H' n r x => q4 v d G' H' ⟨n.gg, n.gh, n.fr, fun b o e _ => n.kp b o e ?_, n.th, trivial⟩ r x) (fun _ _ _ _ _ _ _ _ _ _ x => x.elim)
  intro hm
  rcases List.mem_cons.mp hm with rfl | hm
  · rw [hBl] at e; cases e
  · rcases List.mem_cons.mp hm with rfl | hm
    · rw [hBp] at e; cases e
    · cases hm
/-! loops -/
theorem gt_name {i : Nat} {d : Dt} {S : List Nat} {R : List Sl → Prop} (hS : i ∈ S) (h : R (env.set i (.d d))) : Gt K J env (gName i) d S R := fun B G H σ v w E r Q q =>
  q _ _ (E.setD r) ⟨List.length_set, fun k hk => List.getElem?_set_ne (ne_mem hk hS)⟩ h
theorem gs_nil {S : List Nat} {R : List Sl → Prop} (h : R env) : Gs K J env gNil [] S R := fun B G H σ vs w E r Q q => by
  cases r
  exact ⟨rfl, q env σ E ⟨rfl, fun _ _ => rfl⟩ h⟩
theorem gs_cons {g : TG} {u : TGs} {d : Dt} {ds : List Dt} {S : List Nat} {R : List Sl → Prop} (h : Gt K J env g d S fun e => Gs K J e u ds S R) : Gs K J env (gCons g u) (d :: ds) S R := fun B G H σ vs w E r Q q => by
  cases r with
  | cons r1 r2 => exact ⟨_, _, rfl, h B G H σ _ w E r1 _ fun e σ' E' k x => x B G H σ' _ w E' r2 Q fun e2 σ2 E2 k2 y => q e2 σ2 E2 ⟨k2.1.trans k.1, fun i hi => (k2.2 i hi).trans (k.2 i hi)⟩ y⟩
theorem gt_tup {u : TGs} {n : Nat} {ds : List Dt} {S : List Nat} {R : List Sl → Prop} (hn : ds.length = n) (h : Gs K J env u ds S R) : Gt K J env (gTup K n u) (.tup ds) S R := fun B G H σ v w E r Q q => by
  cases r with
  | tup s t => exact ⟨_, _, rfl, same_t w.gh s, by rw [t.length]; exact hn, h B G H σ _ w E t Q q⟩
/-- the same state, known since a later place -/
theorem At.rebase {GB B G H : Hp} {σ : L2.St} (a : At K J GB B G H σ env) : At K J G B G H σ env :=
  ⟨a.wf, ⟨Same.refl _, a.nx.gh, fun b h _ => h, a.nx.kp, a.nx.th, a.nx.ok⟩, a.en⟩
theorem nx_back {GB B G H G1 H1 : Hp} (n : Nx J GB B G H) (m : Nx J G B G1 H1) : Nx J GB B G1 H1 :=
  ⟨n.gg.trans m.gg, m.gh, fun b h1 h2 => m.fr b (n.fr b h1 h2) h2, m.kp, m.th, m.ok⟩
theorem At.back {GB B G H G1 H1 : Hp} {σ : L2.St} (n : Nx J GB B G H) (a : At K J G B G1 H1 σ env) : At K J GB B G1 H1 σ env := ⟨a.wf, nx_back n a.nx, a.en⟩
/-- for g in wi: body -/
theorem sv_for {wi : TI} {g : TG} (S : List Nat) (h : Ei K J env wi fun ds => ∃ P : Nat → List Sl → Prop, P 0 env ∧
    (∀ k d e, ds[k]? = some d → P k e → Gt K J e g d S fun e1 => Sv K J e1 ts { D with nx := P (k + 1), ct := P (k + 1), bk := D.nx }) ∧ ∀ e, P ds.length e → D.nx e) : Sv K J env (tFor wi g ts) D := fun GB B G H σ a E q1 q2 q3 q4 q5 => by
  refine h B G H σ a.wf a.en _ fun I ds G1 H1 n1 wk ⟨P, h0, hs, hd⟩ => ?_
  have a1 := a.then n1
  refine ⟨fun i m σ' H' => m = ds.length - i ∧ i ≤ ds.length ∧ ∃ e G', At K J G1 B G' H' σ' e ∧ P i e, ⟨ds.length, by simp, Nat.zero_le _, env, G1, a1.rebase, h0⟩, ?_⟩
  rintro i m σ' H' ⟨rfl, hi, e, G', a', p⟩
  by_cases hlt : i < ds.length
  · refine .inr ⟨wk.go i G' H' a'.nx.gg a'.wf hlt, fun σ2 H2 => ∃ e2 G2, At K J G1 B G2 H2 σ2 e2 ∧ P (i + 1) e2, fun σ2 H2 ⟨e2, G2, a2, p2⟩ => ⟨ds.length - (i + 1), by omega, rfl, hlt, e2, G2, a2, p2⟩, fun x H2 y => ?_⟩
    obtain ⟨G2, d, n2, hd', rd⟩ := wk.yld i G' H' x H2 a'.nx.gg a'.wf hlt y
    have a2 := a'.then n2
    refine hs i d e hd' p B G2 H2 σ' x a2.wf a2.en rd _ fun e3 σ3 E3 _ sv => ?_
    exact sv G1 B G2 H2 σ3 ⟨a2.wf, a2.nx, E3⟩ _ (fun e4 G4 H4 σ4 a4 x => ⟨e4, G4, a4, x⟩) (fun e4 G4 H4 σ4 a4 x => q1 e4 G4 H4 σ4 (At.back a1.nx a4) x) (fun e4 G4 H4 σ4 a4 x => ⟨e4, G4, a4, x⟩)
      (fun v d4 G4 H4 n4 r4 x => q4 v d4 G4 H4 (nx_back a1.nx n4) r4 x) fun p4 vs4 ds4 G4 H4 n4 a4 b4 c4 r4 x => q5 p4 vs4 ds4 G4 H4 (nx_back a1.nx n4) a4 b4 c4 r4 x
  · have e' : i = ds.length := by omega
    subst e'
    exact .inl ⟨wk.stop G' H' a'.nx.gg a'.wf, q1 e G' H' σ' (At.back a1.nx a') (hd e p)⟩
end
/-! what is walked -/
section
variable {K : PySem.W.Frag} {J : Jm} {env : List Sl} {tl : TE} {ta : TA}
theorem wk_list {G : Hp} {a : Addr} {vs : List V} {ds : List Dt} (s : SqL K G a vs) (r : Da K G vs ds) : Wk K J G (Itl K a) ds := by
  have wl := walk_list (K := K) (a := a) (xs := vs)
  have hl := r.length
  refine ⟨fun i G1 H1 sg w hi => wl.goes i H1 (by omega) (same_l (sg.trans w.gh) s), fun G1 H1 sg w => hl ▸ wl.stops H1 (same_l (sg.trans w.gh) s), fun i G1 H1 x H2 sg w hi y => ?_⟩
  obtain ⟨e1, e2⟩ := wl.yields i H1 x H2 (by omega) (same_l (sg.trans w.gh) s) y
  subst e1
  obtain ⟨d, h1, h2⟩ := r.get' e2
  exact ⟨G1, d, w.nx, h1, h2.mono sg⟩
theorem wk_tup {G : Hp} {a : Addr} {vs : List V} {ds : List Dt} (s : SqT K G a vs) (r : Da K G vs ds) : Wk K J G (Itt K a) ds := by
  have wl := walk_tup (K := K) (a := a) (xs := vs)
  have hl := r.length
  refine ⟨fun i G1 H1 sg w hi => wl.goes i H1 (by omega) (same_t (sg.trans w.gh) s), fun G1 H1 sg w => hl ▸ wl.stops H1 (same_t (sg.trans w.gh) s), fun i G1 H1 x H2 sg w hi y => ?_⟩
  obtain ⟨e1, e2⟩ := wl.yields i H1 x H2 (by omega) (same_t (sg.trans w.gh) s) y
  subst e1
  obtain ⟨d, h1, h2⟩ := r.get' e2
  exact ⟨G1, d, w.nx, h1, h2.mono sg⟩
theorem wk_range {G : Hp} {lo : Int} {n : Nat} : Wk K J G (Itr lo n) ((List.range n).map fun i => Dt.int (lo + (i : Nat))) := by
  have hl : ((List.range n).map fun i => Dt.int (lo + (i : Nat))).length = n := by simp
  refine ⟨fun i G1 H1 sg w hi => by rw [hl] at hi; exact hi, fun G1 H1 sg w => by rw [hl]; exact Nat.le_refl n, fun i G1 H1 x H2 sg w hi y => ?_⟩
  obtain ⟨e1, e2⟩ := (show H2 = H1 ∧ x = .int (lo + i) from y)
  subst e1 e2
  rw [hl] at hi
  exact ⟨G1, .int (lo + (i : Nat)), w.nx, by simp [hi], .int _⟩
theorem ei_list {R : List Dt → Prop} (h : Ev K J env tl fun x => ∃ ds, x = .lst ds ∧ R ds) : Ei K J env (iList K tl) R := fun B G H σ w E Q q =>
  h B G H σ w E _ fun v x G1 H1 n1 r ⟨ds, e, k⟩ => by
    subst e
    cases r with
    | lst s t => exact ⟨_, rfl, ⟨_, same_l n1.gh s⟩, q _ ds G1 H1 n1 (wk_list s t) k⟩
theorem ei_tup {R : List Dt → Prop} (h : Ev K J env tl fun x => ∃ ds, x = .tup ds ∧ R ds) : Ei K J env (iTup K tl) R := fun B G H σ w E Q q =>
  h B G H σ w E _ fun v x G1 H1 n1 r ⟨ds, e, k⟩ => by
    subst e
    cases r with
    | tup s t => exact ⟨_, rfl, ⟨_, same_t n1.gh s⟩, q _ ds G1 H1 n1 (wk_tup s t) k⟩
theorem ei_range {R : List Dt → Prop} (h : Ed K J env ta fun xs => ∃ n : Int, xs = [.int n] ∧ -1000000 ≤ n ∧ n ≤ 1000000 ∧ R ((List.range n.toNat).map fun i => Dt.int (i : Nat))) : Ei K J env (iRng1 ta) R := fun B G H σ w E Q q =>
  h B G H σ w E _ fun vs xs G1 H1 n1 r ⟨n, e, h0, hn, k⟩ => by
    subst e
    cases r with
    | cons r1 r2 =>
      cases r1
      cases r2
      refine ⟨n, rfl, by omega, by omega, q _ _ G1 H1 n1 wk_range ?_⟩
      have : (fun i : Nat => Dt.int (0 + (i : Int))) = fun i : Nat => Dt.int (i : Int) := by funext i; rw [Int.zero_add]
      rw [this]
      exact k
end
end Mv

set_option Elab.async false
set_option linter.all false
set_option maxRecDepth 100000
set_option maxHeartbeats 4000000
namespace Mv
open PySem PySem.Spec PyProof.Rows L2
/-! ### list comprehensions -/
def wipeE (env : List Sl) : List Nat → List Sl
  | [] => env
  | v :: vs => (wipeE env vs).set v .no
theorem wipe_get : ∀ (vs : List Nat) (σ : L2.St) (i : Nat), (wipe σ vs)[i]? = if i ∈ vs ∧ i < σ.length then some none else σ[i]?
  | [], σ, i => by
    have : wipe σ [] = σ := rfl
    rw [this, if_neg (by simp)]
  | v :: vs, σ, i => by
    have e : wipe σ (v :: vs) = (wipe σ vs).set v none := rfl
    rw [e]
    by_cases h : v = i
    · subst h
      by_cases hl : v < σ.length
      · rw [List.getElem?_set_self (by rw [wipe_length]; exact hl), if_pos ⟨by simp, hl⟩]
      · rw [List.getElem?_eq_none (by simp [wipe_length]; omega), if_neg (by omega), List.getElem?_eq_none (by omega)]
    · rw [List.getElem?_set_ne h, wipe_get vs σ i]
      by_cases hv : i ∈ vs ∧ i < σ.length
      · rw [if_pos hv, if_pos ⟨by simp [hv.1], hv.2⟩]
      · rw [if_neg hv, if_neg (by simp; intro z; rcases z with z | z; exact absurd z.symm h; exact Nat.le_of_not_lt fun q => hv ⟨z, q⟩)]
theorem wipe_eq {σ τ : L2.St} {vs : List Nat} (hl : τ.length = (wipe σ vs).length) (h : ∀ i : Nat, i ∉ vs → τ[i]? = (wipe σ vs)[i]?) : wipe τ vs = wipe σ vs := by
  rw [wipe_length] at hl
  refine List.ext_getElem? fun i => ?_
  rw [wipe_get, wipe_get]
  by_cases hv : i ∈ vs
  · by_cases hi : i < σ.length
    · rw [if_pos ⟨hv, by omega⟩, if_pos ⟨hv, hi⟩]
    · rw [if_neg (by omega), if_neg (by omega), List.getElem?_eq_none (by omega), List.getElem?_eq_none (by omega)]
  · have := h i hv
    rw [wipe_get, if_neg (fun z => hv z.1)] at this
    rw [if_neg (fun z => hv z.1), if_neg (fun z => hv z.1), this]
section
variable {K : PySem.W.Frag} {J : Jm} {env : List Sl} {te : TE} {tt : TT}
theorem En.wipe {B G H : Hp} {σ : L2.St} (E : En K J B G H σ env) : ∀ vs : List Nat, En K J B G H (wipe σ vs) (wipeE env vs)
  | [] => E
  | v :: vs => (En.wipe E vs).setN
theorem em_lc {wi : TI} {g : TG} {vs : List Nat} {R : List Dt → Prop} (h : Ei K J env wi fun ds => ds.length ≤ 100000 ∧ ∃ Iv : Nat → List Dt → Prop, Iv 0 [] ∧
    (∀ k d acc, ds[k]? = some d → acc.length ≤ k → Iv k acc → Gt K J (wipeE env vs) g d vs fun e => Et K J e tt fun b => (b = true → Ev K J e te fun y => Iv (k + 1) (acc ++ [y])) ∧ (b = false → Iv (k + 1) acc)) ∧
    ∀ acc, acc.length ≤ ds.length → Iv ds.length acc → R acc) : Em K J env (tLc wi g tt te vs) R := fun B G H σ w E Q q => by
  refine h B G H σ w E _ fun I ds G1 H1 n1 wk ⟨hz, Iv, h0, hs, hd⟩ => ?_
  intro Dl hDl
  have w1 := n1.wf w
  have E1 := E.mono n1
  have hn : Dl ∉ J.ms := w1.notin hDl
  have n0 := w1.newM hDl (.lst [])
  refine ⟨fun i m H' => m = ds.length - i ∧ i ≤ ds.length ∧ ∃ G' xs acc, Nx J G1 H1 G' H' ∧ G' Dl = none ∧ H' Dl = some (.lst xs) ∧ Da K G' xs acc ∧ acc.length ≤ i ∧ Iv i acc,
    ⟨ds.length, by simp, Nat.zero_le _, G1, [], [], n0, w1.free hDl, upd_same, .nil, Nat.le_refl _, h0⟩, ?_⟩
  rintro i m H' ⟨rfl, hi, G', xs, acc, n, hG, hH, r, hl, p⟩
  have w' := n.wf w1
  by_cases hlt : i < ds.length
  · refine .inr ⟨wk.go i G' H' n.gg w' hlt, fun H2 => ∃ G2 xs2 acc2, Nx J G1 H1 G2 H2 ∧ G2 Dl = none ∧ H2 Dl = some (.lst xs2) ∧ Da K G2 xs2 acc2 ∧ acc2.length ≤ i + 1 ∧ Iv (i + 1) acc2,
      fun H2 ⟨G2, xs2, acc2, a, b, c, d, e, f⟩ => ⟨ds.length - (i + 1), by omega, rfl, hlt, G2, xs2, acc2, a, b, c, d, e, f⟩, fun x H2 y => ?_⟩
    obtain ⟨G2, d, n2, hd', rd⟩ := wk.yld i G' H' x H2 n.gg w' hlt y
    have n02 := n.trans n2
    have w2 := n2.wf w'
    refine hs i d acc hd' hl p B G2 H2 (wipe σ vs) x w2 ((E1.mono n02).wipe vs) rd _ fun e3 σ3 E3 ks et => ⟨wipe_eq ks.1 ks.2, et B G2 H2 σ3 w2 E3 _ fun b G3 H3 n3 k => ?_⟩
    have hG2 := n2.fr Dl hG (by rw [hH]; simp)
    have hH2 := n2.kp Dl _ hH hn
    have hG3 := n3.fr Dl hG2 (by rw [hH2]; simp)
    have hH3 := n3.kp Dl _ hH2 hn
    have w3 := n3.wf w2
    cases b with
    | false => exact ⟨G3, xs, acc, n02.trans n3, hG3, hH3, (r.mono n2.gg).mono n3.gg, by omega, k.2 rfl⟩
    | true =>
      refine k.1 rfl B G3 H3 σ3 w3 (E3.mono n3) _ fun yv yd G4 H4 n4 ry ky => ?_
      have hG4 := n4.fr Dl hG3 (by rw [hH3]; simp)
      have hH4 := n4.kp Dl _ hH3 hn
      have n04 := (n02.trans n3).trans n4
      have n5 := n04.mut (o' := .lst (xs ++ [yv])) hDl hG4 hn hH4
      refine ⟨xs, hH4, sz_lt (by rw [r.length]; omega), G4, xs ++ [yv], acc ++ [yd], n5, hG4, upd_same, (((r.mono n2.gg).mono n3.gg).mono n4.gg).append (.cons ry .nil), by simp; omega, ky⟩
  · have e' : i = ds.length := by omega
    subst e'
    exact .inl ⟨wk.stop G' H' n.gg w', q Dl xs acc G' H' (n1.trans n) hG (by
      cases z : H Dl with
      | none => rfl
      | some o => exact absurd hDl (n1.th Dl (by rw [z]; simp))) hH r (hd acc hl p)⟩
/-! ### reading a slot's own list -/
section
variable {R : Dt → Prop} {i : Nat} {xs : List Dt}
/-- what a rule asks of a list at p -/
theorem En.lst {B G H : Hp} {σ : L2.St} (E : En K J B G H σ env) (hi : env[i]? = some (.ml xs)) : ∃ p vs, σ[i]? = some (some (.ref p)) ∧ H p = some (.lst vs) ∧ Da K G vs xs ∧ p ∉ J.ms ∧ G p = none := by
  obtain ⟨ov, h1, p, vs, h2, hB, hG, hm, hH, r⟩ := E.ok i _ hi
  exact ⟨p, vs, by rw [h1, h2], hH, r, hm, hG⟩
end
end

/-! ### named readings -/
def rLen (K : PySem.W.Frag) : List V → Hp → VK → Prop := fun xs H Q => ∃ x n, xs = [x] ∧ LenV K x H n ∧ Q (.int n) H
theorem c_len {X : Cx} : CallR X (.builtin "len") (rLen X.K) := call_len
def rInt : List V → Hp → VK → Prop := fun xs H Q => (∃ i, xs = [.int i] ∧ Q (.int i) H) ∨ ∃ k, xs = [.bl k] ∧ Q (.int (if k then 1 else 0)) H
theorem c_int {X : Cx} : CallR X (.type "int") rInt := call_int1
def rAbs : List V → Hp → VK → Prop := fun xs H Q => ∃ i, xs = [.int i] ∧ Q (.int (if i < 0 then -i else i)) H
theorem c_abs {X : Cx} : CallR X (.builtin "abs") rAbs := call_abs
def rMax : List V → Hp → VK → Prop := fun xs H Q => ∃ i j, xs = [.int i, .int j] ∧ Q (.int (if j > i then j else i)) H
theorem c_max {X : Cx} (hc : X.calm = true := by rfl) : CallR X (.builtin "max") rMax := call_max2 hc
def rMin : List V → Hp → VK → Prop := fun xs H Q => ∃ i j, xs = [.int i, .int j] ∧ Q (.int (if j < i then j else i)) H
theorem c_min {X : Cx} (hc : X.calm = true := by rfl) : CallR X (.builtin "min") rMin := call_min2 hc
def rTup (K : PySem.W.Frag) : List V → Hp → VK → Prop := fun xs H Q => ∃ p ys, xs = [.ref p] ∧ ((SqL K H p ys ∧ ∀ l, H l = none → Q (.ref l) (upd H l (.tup ys))) ∨ (SqT K H p ys ∧ Q (.ref p) H))
theorem c_tup {X : Cx} : CallR X (.type "tuple") (rTup X.K) := call_tuple_of
def rLst (K : PySem.W.Frag) : List V → Hp → VK → Prop := fun xs H Q => ∃ p ys, xs = [.ref p] ∧ (SqL K H p ys ∨ SqT K H p ys) ∧ ∀ l, H l = none → Q (.ref l) (upd H l (.lst ys))
theorem c_lst {X : Cx} : CallR X (.type "list") (rLst X.K) := call_list_of
def rIsi' (K : PySem.W.Frag) : List V → Hp → VK → Prop := rIsi K
theorem c_isi {X : Cx} : CallR X (.builtin "isinstance") (rIsi X.K) := call_isi

/-! ### what they come to over data -/
def atD (ds : List Dt) (i : Int) : Option Dt := (ixN ds.length i).bind fun j => ds[j]?
theorem atD_nat {ds : List Dt} {j : Nat} {d : Dt} (h : ds[j]? = some d) : atD ds (j : Int) = some d := by
  unfold atD
  rw [ixN_nat (List.getElem?_eq_some_iff.mp h).1]
  exact h
theorem Da.at {K : PySem.W.Frag} {G : Hp} {vs : List V} {ds : List Dt} {i : Int} {d : Dt} (r : Da K G vs ds) (h : atD ds i = some d) : ∃ v, atI vs i = some v ∧ Dr K G v d := by
  unfold atD at h
  unfold atI
  rw [r.length]
  cases e : ixN ds.length i with
  | none => rw [e] at h; cases h
  | some j => rw [e] at h; exact r.get h
section
variable {K : PySem.W.Frag} {J : Jm} {env : List Sl} {R : Dt → Prop} {te ti : TE}
/-- an int operation with a condition, an int answer -/
theorem o2_I {C : Int → Int → Prop} {f : Int → Int → Int} {i j : Int} (hc : C i j) (h : R (.int (f i j))) : O2 K J (rI C fun i j => .int (f i j)) (.int i) (.int j) R := fun G H vx vy w rx ry Q q => by
  cases rx; cases ry
  exact ⟨i, j, rfl, rfl, hc, q _ _ G H w.nx (.int _) h⟩
theorem cdiv_ok {i j : Int} (h : 0 < j) (h2 : j < 1073741824) : CDiv i j := ⟨h, h2⟩
theorem cpow_ok {i j : Int} (h : 0 ≤ j) (h2 : j ≤ 1000000) (h3 : i.natAbs < 2 ^ 64) : CPow i j := ⟨h, h2, h3⟩
theorem cmul_l {i j : Int} (h : -(2 ^ 64) < i) (h2 : i < 2 ^ 64) : CMul i j := .inl ⟨h, h2⟩
theorem cmul_r {i j : Int} (h : -(2 ^ 64) < j) (h2 : j < 2 ^ 64) : CMul i j := .inr ⟨h, h2⟩
theorem o2_I0 {f : Int → Int → Int} {i j : Int} (h : R (.int (f i j))) : O2 K J (rI0 fun i j => .int (f i j)) (.int i) (.int j) R := fun G H vx vy w rx ry Q q => by
  cases rx; cases ry
  exact ⟨i, j, rfl, rfl, q _ _ G H w.nx (.int _) h⟩
theorem o2_B0 {f : Int → Int → Bool} {i j : Int} (h : R (.bl (f i j))) : O2 K J (rI0 fun i j => .bl (f i j)) (.int i) (.int j) R := fun G H vx vy w rx ry Q q => by
  cases rx; cases ry
  exact ⟨i, j, rfl, rfl, q _ _ G H w.nx (.bl _) h⟩
theorem o1_I {f : Int → Int} {i : Int} (h : R (.int (f i))) : O1 K J (rU fun i => .int (f i)) (.int i) R := fun G H vx w rx Q q => by
  cases rx
  exact ⟨i, rfl, q _ _ G H w.nx (.int _) h⟩
theorem o2_eqI {i j : Int} (h : R (.bl (decide (i = j)))) : O2 K J rEq (.int i) (.int j) R := fun G H vx vy w rx ry Q q => by
  cases rx; cases ry
  refine ⟨rfl, q _ _ G H w.nx (.bl _) ?_⟩
  rw [show decide (V.int i = V.int j) = decide (i = j) by simp]
  exact h
theorem o2_neI {i j : Int} (h : R (.bl (!decide (i = j)))) : O2 K J rNe (.int i) (.int j) R := fun G H vx vy w rx ry Q q => by
  cases rx; cases ry
  refine ⟨rfl, q _ _ G H w.nx (.bl _) ?_⟩
  rw [show decide (V.int i = V.int j) = decide (i = j) by simp]
  exact h
theorem o2_eqB {i j : Bool} (h : R (.bl (decide (i = j)))) : O2 K J rEq (.bl i) (.bl j) R := fun G H vx vy w rx ry Q q => by
  cases rx; cases ry
  refine ⟨rfl, q _ _ G H w.nx (.bl _) ?_⟩
  rw [show decide (V.bl i = V.bl j) = decide (i = j) by simp]
  exact h
theorem o2_neB {i j : Bool} (h : R (.bl (!decide (i = j)))) : O2 K J rNe (.bl i) (.bl j) R := fun G H vx vy w rx ry Q q => by
  cases rx; cases ry
  refine ⟨rfl, q _ _ G H w.nx (.bl _) ?_⟩
  rw [show decide (V.bl i = V.bl j) = decide (i = j) by simp]
  exact h
theorem o2_eqS {i j : Str} (h : R (.bl (decide (i = j)))) : O2 K J rEq (.str i) (.str j) R := fun G H vx vy w rx ry Q q => by
  cases rx; cases ry
  refine ⟨rfl, q _ _ G H w.nx (.bl _) ?_⟩
  rw [show decide (V.str i = V.str j) = decide (i = j) by simp]
  exact h
theorem o2_ixL {ds : List Dt} {i : Int} {d : Dt} (h : atD ds i = some d) (k : R d) : O2 K J (rIx K) (.lst ds) (.int i) R := fun G H vx vy w rx ry Q q => by
  cases ry
  cases rx with
  | lst s t =>
    obtain ⟨v, h1, h2⟩ := t.at h
    exact .inl ⟨_, _, i, v, rfl, rfl, same_l w.gh s, h1, q v d G H w.nx h2 k⟩
theorem o2_ixT {ds : List Dt} {i : Int} {d : Dt} (h : atD ds i = some d) (k : R d) : O2 K J (rIx K) (.tup ds) (.int i) R := fun G H vx vy w rx ry Q q => by
  cases ry
  cases rx with
  | tup s t =>
    obtain ⟨v, h1, h2⟩ := t.at h
    exact .inr (.inl ⟨_, _, i, v, rfl, rfl, same_t w.gh s, h1, q v d G H w.nx h2 k⟩)
theorem ev_ixM {i : Nat} {xs : List Dt} (hi : env[i]? = some (.ml xs)) (h : Ev K J env ti fun k => ∃ (j : Int) (d : Dt), k = .int j ∧ atD xs j = some d ∧ R d) : Ev K J env (tOp (rIx K) (tVar i) ti) R := fun B G H σ w E Q q => by
  obtain ⟨p, vs, h1, hH, r, hm, hG⟩ := E.lst hi
  refine ⟨.ref p, h1, h B G H σ w E _ fun v k G1 H1 n1 rk ⟨j, d, e, hj, x⟩ => ?_⟩
  subst e
  cases rk
  obtain ⟨u, h3, h4⟩ := (r.mono n1.gg).at hj
  exact .inl ⟨p, vs, j, u, rfl, rfl, .inl (.inl (n1.kp p _ hH hm)), h3, q u d G1 H1 n1 h4 x⟩
theorem oc_lenL {ds : List Dt} (h : R (.int (ds.length : Int))) : Oc K J (rLen K) [.lst ds] R := fun G H vs w rs Q q => by
  cases rs with
  | cons r1 r2 =>
    cases r2
    cases r1 with
    | lst s t =>
      refine ⟨_, ds.length, rfl, .inl ⟨_, same_l w.gh s, t.length.symm⟩, q _ _ G H w.nx (.int _) h⟩
theorem oc_lenT {ds : List Dt} (h : R (.int (ds.length : Int))) : Oc K J (rLen K) [.tup ds] R := fun G H vs w rs Q q => by
  cases rs with
  | cons r1 r2 =>
    cases r2
    cases r1 with
    | tup s t =>
      refine ⟨_, ds.length, rfl, .inr ⟨_, same_t w.gh s, t.length.symm⟩, q _ _ G H w.nx (.int _) h⟩
theorem ev_lenM {i : Nat} {xs : List Dt} (hi : env[i]? = some (.ml xs)) (h : R (.int (xs.length : Int))) : Ev K J env (tCB (rLen K) (tCons (tVar i) tNil)) R := fun B G H σ w E Q q => by
  obtain ⟨p, vs, h1, hH, r, hm, hG⟩ := E.lst hi
  exact ⟨.ref p, h1, _, xs.length, rfl, .inl ⟨_, .inl (.inl hH), r.length.symm⟩, q _ _ G H w.nx (.int _) h⟩
theorem oc_int {i : Int} (h : R (.int i)) : Oc K J rInt [.int i] R := fun G H vs w rs Q q => by
  cases rs with
  | cons r1 r2 =>
    cases r2
    cases r1
    exact .inl ⟨i, rfl, q _ _ G H w.nx (.int _) h⟩
theorem oc_intB {b : Bool} (h : R (.int (if b then 1 else 0))) : Oc K J rInt [.bl b] R := fun G H vs w rs Q q => by
  cases rs with
  | cons r1 r2 =>
    cases r2
    cases r1
    exact .inr ⟨b, rfl, q _ _ G H w.nx (.int _) h⟩
theorem oc_abs {i : Int} (h : R (.int (if i < 0 then -i else i))) : Oc K J rAbs [.int i] R := fun G H vs w rs Q q => by
  cases rs with
  | cons r1 r2 =>
    cases r2
    cases r1
    exact ⟨i, rfl, q _ _ G H w.nx (.int _) h⟩
theorem oc_max {i j : Int} (h : R (.int (if j > i then j else i))) : Oc K J rMax [.int i, .int j] R := fun G H vs w rs Q q => by
  cases rs with
  | cons r1 r2 =>
    cases r2 with
    | cons r2 r3 =>
      cases r3
      cases r1; cases r2
      exact ⟨i, j, rfl, q _ _ G H w.nx (.int _) h⟩
theorem oc_min {i j : Int} (h : R (.int (if j < i then j else i))) : Oc K J rMin [.int i, .int j] R := fun G H vs w rs Q q => by
  cases rs with
  | cons r1 r2 =>
    cases r2 with
    | cons r2 r3 =>
      cases r3
      cases r1; cases r2
      exact ⟨i, j, rfl, q _ _ G H w.nx (.int _) h⟩
theorem oc_tupL {ds : List Dt} (h : R (.tup ds)) : Oc K J (rTup K) [.lst ds] R := fun G H vs w rs Q q => by
  cases rs with
  | cons r1 r2 =>
    cases r2
    cases r1 with
    | @lst a xs ds s t =>
      refine ⟨_, _, rfl, .inl ⟨same_l w.gh s, fun l hl => ?_⟩⟩
      have n := w.new hl (.tup xs)
      exact q _ _ _ _ n (.tup (.inl (.inl upd_same)) (t.mono n.gg)) h
theorem oc_tupT {ds : List Dt} (h : R (.tup ds)) : Oc K J (rTup K) [.tup ds] R := fun G H vs w rs Q q => by
  cases rs with
  | cons r1 r2 =>
    cases r2
    cases r1 with
    | tup s t => exact ⟨_, _, rfl, .inr ⟨same_t w.gh s, q _ _ G H w.nx (.tup s t) h⟩⟩
theorem ev_tupM {i : Nat} {xs : List Dt} (hi : env[i]? = some (.ml xs)) (h : R (.tup xs)) : Ev K J env (tCB (rTup K) (tCons (tVar i) tNil)) R := fun B G H σ w E Q q => by
  obtain ⟨p, vs, h1, hH, r, hm, hG⟩ := E.lst hi
  refine ⟨.ref p, h1, _, _, rfl, .inl ⟨.inl (.inl hH), fun l hl => ?_⟩⟩
  have n := w.new hl (.tup vs)
  exact q _ _ _ _ n (.tup (.inl (.inl upd_same)) (r.mono n.gg)) h
/-- list(x), a new list -/
theorem em_list {R : List Dt → Prop} (h : Ev K J env te fun x => ∃ ds, (x = .lst ds ∨ x = .tup ds) ∧ R ds) : Em K J env (tCB (rLst K) (tCons te tNil)) R := fun B G H σ w E Q q =>
  h B G H σ w E _ fun v x G1 H1 n1 r ⟨ds, e, k⟩ => by
    have w1 := n1.wf w
    have fin : ∀ (a : Addr) (vs : List V), v = .ref a → (SqL K G1 a vs ∨ SqT K G1 a vs) → Da K G1 vs ds → tNil σ H1 fun xs H2 => rLst K (v :: xs) H2 Q := fun a vs ev hs t => by
      subst ev
      refine ⟨a, vs, rfl, hs.imp (same_l w1.gh) (same_t w1.gh), fun l hl => q l vs ds G1 _ (n1.trans (w1.newM hl _)) (w1.free hl) ?_ upd_same t k⟩
      cases z : H l with
      | none => rfl
      | some o => exact absurd hl (n1.th l (by rw [z]; simp))
    rcases e with e | e
    · subst e
      cases r with
      | lst s t => exact fin _ _ rfl (.inl s) t
    · subst e
      cases r with
      | tup s t => exact fin _ _ rfl (.inr s) t
/-! in -/
def flatD : Dt → Bool
  | .non => true | .bl _ => true | .int _ => true | .str _ => true | _ => false
def eqD : Dt → Dt → Bool
  | .non, .non => true
  | .bl a, .bl b => a == b
  | .bl a, .int b => (if a then 1 else 0) == b
  | .int a, .bl b => a == (if b then 1 else 0)
  | .int a, .int b => a == b
  | .str a, .str b => a == b
  | _, _ => false
theorem flat_of {G : Hp} {v : V} {d : Dt} (r : Dr K G v d) (h : flatD d = true) : flatV v = true := by
  cases r <;> first | rfl | cases h
theorem eq_of {G G' : Hp} {v u : V} {d e : Dt} (r : Dr K G v d) (s : Dr K G' u e) : eqV v u = eqD d e := by
  cases r <;> cases s <;> rfl
def inD (x : Dt) (ds : List Dt) : Bool := ds.any fun y => eqD y x
theorem in_of {G G' : Hp} {v : V} {x : Dt} (s : Dr K G' v x) : ∀ {vs : List V} {ds : List Dt}, Da K G vs ds → inV v vs = inD x ds
  | _, _, .nil => rfl
  | _, _, .cons r t => by
    have := in_of s t
    unfold inV inD at this ⊢
    rw [List.any_cons, List.any_cons, this, eq_of r s]
theorem all_of {G : Hp} : ∀ {vs : List V} {ds : List Dt}, Da K G vs ds → ds.all flatD = true → vs.all flatV = true
  | _, _, .nil, _ => rfl
  | _, _, .cons r t, h => by
    rw [List.all_cons, Bool.and_eq_true] at h ⊢
    exact ⟨flat_of r h.1, all_of t h.2⟩
theorem o2_inT {x : Dt} {ds : List Dt} {neg : Bool} (hx : flatD x = true) (hs : ds.all flatD = true) (h : R (.bl (if neg then !inD x ds else inD x ds))) : O2 K J (rIn K neg) x (.tup ds) R := fun G H vx vy w rx ry Q q => by
  cases ry with
  | tup s t =>
    refine ⟨_, _, rfl, .inr (same_t w.gh s), flat_of rx hx, all_of t hs, q _ _ G H w.nx (.bl _) ?_⟩
    rw [in_of rx t]
    exact h
theorem o2_inL {x : Dt} {ds : List Dt} {neg : Bool} (hx : flatD x = true) (hs : ds.all flatD = true) (h : R (.bl (if neg then !inD x ds else inD x ds))) : O2 K J (rIn K neg) x (.lst ds) R := fun G H vx vy w rx ry Q q => by
  cases ry with
  | lst s t =>
    refine ⟨_, _, rfl, .inl (same_l w.gh s), flat_of rx hx, all_of t hs, q _ _ G H w.nx (.bl _) ?_⟩
    rw [in_of rx t]
    exact h
theorem ev_inM {i : Nat} {xs : List Dt} {neg : Bool} (hi : env[i]? = some (.ml xs)) (hs : xs.all flatD = true) (h : Ev K J env te fun x => flatD x = true ∧ R (.bl (if neg then !inD x xs else inD x xs))) : Ev K J env (tOp (rIn K neg) te (tVar i)) R := fun B G H σ w E Q q =>
  h B G H σ w E _ fun v x G1 H1 n1 r ⟨hx, k⟩ => by
    obtain ⟨p, vs, h1, hH, t, hm, hG⟩ := (E.mono n1).lst hi
    refine ⟨.ref p, h1, p, vs, rfl, .inl (.inl (.inl hH)), flat_of r hx, all_of t hs, q _ _ G1 H1 n1 (.bl _) ?_⟩
    rw [in_of r t]
    exact k
/-! None, truth -/
def rIsN : R2 := fun x y H Q => y = .non ∧ Q (.bl (decide (x = .non))) H
theorem op_is_none {X : Cx} : OpR X (compareOp .Is) rIsN := op_isN
def rNotN : R2 := fun x y H Q => y = .non ∧ Q (.bl (!decide (x = .non))) H
theorem op_not_none {X : Cx} : OpR X (compareOp .IsNot) rNotN := op_notN
def isNo : Dt → Bool | .non => true | _ => false
theorem no_of {G : Hp} {v : V} {d : Dt} (r : Dr K G v d) : decide (v = .non) = isNo d := by
  cases r <;> simp [isNo]
theorem o2_isN {x : Dt} (h : R (.bl (isNo x))) : O2 K J rIsN x .non R := fun G H vx vy w rx ry Q q => by
  cases ry
  refine ⟨rfl, q _ _ G H w.nx (.bl _) ?_⟩
  rw [no_of rx]; exact h
theorem o2_notN {x : Dt} (h : R (.bl (!isNo x))) : O2 K J rNotN x .non R := fun G H vx vy w rx ry Q q => by
  cases ry
  refine ⟨rfl, q _ _ G H w.nx (.bl _) ?_⟩
  rw [no_of rx]; exact h
/-! isinstance of a built-in class -/
def tyD : Dt → Option String
  | .non => some "NoneType" | .bl _ => some "bool" | .int _ => some "int" | .str _ => some "str" | .lst _ => some "list" | .tup _ => some "tuple" | .ob _ _ => none
theorem ty_of {G H : Hp} {v : V} {d : Dt} {t : String} (r : Dr K G v d) (sg : Same G H) (h : tyD d = some t) : TyX K H v (.type t) := by
  cases r with
  | non => cases h; exact .base .non
  | bl b => cases h; exact .base (.bl b)
  | int b => cases h; exact .base (.int b)
  | str b => cases h; exact .base (.str b)
  | lst s t =>
    cases h
    rcases s with (s | ⟨o, s⟩) | ⟨o, its, n, h1, h2, _⟩
    · exact .base (.lst (sg _ _ s))
    · exact .base (.frz (sg _ _ s))
    · exact .kList h1 h2
  | tup s t =>
    cases h
    rcases s with (s | ⟨o, s⟩) | ⟨o, its, n, h1, h2, _⟩
    · exact .base (.tup (sg _ _ s))
    · exact .fTuple (sg _ _ s)
    · exact .kTuple h1 h2
  | ob s t => cases h
/-- isinstance's answer for data and a built-in class -/
def isiD (d : Dt) (c : String) : Bool := match d with
  | .non => c == "NoneType" | .bl _ => c == "bool" || c == "int" | .int _ => c == "int" | .str _ => c == "str" | .lst _ => c == "list" | .tup _ => c == "tuple" | .ob _ _ => false
theorem ev_isi {c : String} (h : Ev K J env te fun x => (∃ t, tyD x = some t ∧ PySem.W.kitOne K (.type t) (.type c) = some (isiD x c)) ∧ R (.bl (isiD x c))) : Ev K J env (tCB (rIsi K) (tCons te (tCons (tC (.ty c)) tNil))) R := fun B G H σ w E Q q =>
  h B G H σ w E _ fun v x G1 H1 n1 r ⟨⟨t, ht, hk⟩, k⟩ => ⟨v, .ty c, .type t, .type c, _, rfl, .ty c, ty_of r n1.gh ht, hk, q _ _ G1 H1 n1 (.bl _) k⟩
def noOb : Dt → Bool | .ob _ _ => false | _ => true
theorem ev_isiB {c : String} (hc : c = "tuple" ∨ c = "list" ∨ c = "int" ∨ c = "bool" ∨ c = "str") (h : Ev K J env te fun x => noOb x = true ∧ R (.bl (isiD x c))) : Ev K J env (tCB (rIsi K) (tCons te (tCons (tC (.ty c)) tNil))) R :=
  ev_isi (h.imp fun x ⟨hn, k⟩ => ⟨(by
    rcases hc with rfl | rfl | rfl | rfl | rfl <;> (cases x <;> first | exact ⟨_, rfl, rfl⟩ | (cases hn))), k⟩)
end
end Mv

set_option Elab.async false
set_option linter.all false
set_option maxRecDepth 100000
set_option maxHeartbeats 4000000
namespace Mv
open PySem PySem.Spec PyProof.Rows L2
/-! ### enumerate, zip -/
def pairD (a b : Dt) : Dt := .tup [a, b]
def enumD (ds : List Dt) : List Dt := ds.mapIdx fun i d => pairD (.int (i : Int)) d
theorem enumD_get {ds : List Dt} {i : Nat} {d : Dt} (h : ds[i]? = some d) : (enumD ds)[i]? = some (pairD (.int (i : Int)) d) := by
  unfold enumD
  rw [List.getElem?_mapIdx, h]
  rfl
theorem enumD_len (ds : List Dt) : (enumD ds).length = ds.length := by unfold enumD; simp
section
variable {K : PySem.W.Frag} {J : Jm} {env : List Sl} {ta : TA} {te : TE}
/-- a walk of new pairs -/
theorem wk_pairs {G : Hp} {I : It} {n : Nat} {Gd : Hp → Prop} {f g : Nat → Option V} {es : List Dt} (wl : Walk I n Gd (YPair f g)) (hl : es.length = n) (hG : ∀ G1 H1, Same G G1 → Same G1 H1 → Gd H1)
    (hv : ∀ i x y, f i = some x → g i = some y → ∃ a b, es[i]? = some (pairD a b) ∧ Dr K G x a ∧ Dr K G y b) : Wk K J G I es := by
  refine ⟨fun i G1 H1 sg w hi => wl.goes i H1 (by omega) (hG G1 H1 sg w.gh), fun G1 H1 sg w => hl ▸ wl.stops H1 (hG G1 H1 sg w.gh), fun i G1 H1 x H2 sg w hi y => ?_⟩
  obtain ⟨T, u, v, rfl, hT, rfl, h1, h2⟩ := wl.yields i H1 x H2 (by omega) (hG G1 H1 sg w.gh) y
  obtain ⟨a, b, h3, ra, rb⟩ := hv i u v h1 h2
  have n2 := w.new hT (.tup [u, v])
  exact ⟨_, _, n2, h3, .tup (.inl (.inl upd_same)) (.cons ((ra.mono sg).mono n2.gg) (.cons ((rb.mono sg).mono n2.gg) .nil))⟩
theorem walk_enumT {a : Addr} {xs : List V} : Walk (IteT K a) xs.length (fun H => SqT K H a xs) (YPair (fun i => some (.int (i : Nat))) (fun i => xs[i]?)) := by
  refine ⟨fun i _ hi q => ⟨xs, xs[i], q, by simp [hi]⟩, fun _ q => ⟨xs, q, Nat.le_refl _⟩, fun i H v H' _ q y => ?_⟩
  obtain ⟨T, x, h1, h2, h3, h4⟩ := y
  exact ⟨T, .int (i : Nat), x, h1, h2, h3, rfl, h4 xs q⟩
theorem ei_enum {R : List Dt → Prop} (h : Ev K J env te fun x => ∃ ds, (x = .lst ds ∨ x = .tup ds) ∧ R (enumD ds)) : Ei K J env (iEnumA K (tCons te tNil)) R := fun B G H σ w E Q q =>
  h B G H σ w E _ fun v x G1 H1 n1 r ⟨ds, e, k⟩ => by
    have fin : ∀ {vs : List V}, Da K G1 vs ds → ∀ (i : Nat) (x y : V), (some (V.int (i : Nat)) = some x) → vs[i]? = some y → ∃ a b, (enumD ds)[i]? = some (pairD a b) ∧ Dr K G1 x a ∧ Dr K G1 y b := fun t i x y h1 h2 => by
      cases h1
      obtain ⟨d, h3, h4⟩ := t.get' h2
      exact ⟨_, _, enumD_get h3, .int _, h4⟩
    rcases e with e | e
    · subst e
      cases r with
      | @lst a vs ds s t => exact ⟨a, vs, rfl, .inl ⟨same_l n1.gh s, q _ _ G1 H1 n1 (wk_pairs walk_enum (by rw [enumD_len, t.length]) (fun G2 H2 s1 s2 => same_l (s1.trans s2) s) (fin t)) k⟩⟩
    · subst e
      cases r with
      | @tup a vs ds s t => exact ⟨a, vs, rfl, .inr ⟨same_t n1.gh s, q _ _ G1 H1 n1 (wk_pairs walk_enumT (by rw [enumD_len, t.length]) (fun G2 H2 s1 s2 => same_t (s1.trans s2) s) (fin t)) k⟩⟩
end
/-! ### a def by its body -/
def startE (N : List Str) (ss : List Sl) : List Sl := ss ++ List.replicate (N.length - ss.length) .no
theorem SvA.length {K : PySem.W.Frag} {J : Jm} {G : Hp} : ∀ {vs : List V} {ss : List Sl}, SvA K J G vs ss → vs.length = ss.length
  | _, _, .nil => rfl
  | _, _, .cons _ t => by rw [List.length_cons, List.length_cons, SvA.length t]
theorem SvA.get {K : PySem.W.Frag} {J : Jm} {G : Hp} : ∀ {vs : List V} {ss : List Sl} {i : Nat} {s : Sl}, SvA K J G vs ss → ss[i]? = some s → ∃ v, vs[i]? = some v ∧ Sv1 K J G v s
  | _, _, _, _, .nil, h => by simp at h
  | _, _, 0, _, .cons r _, h => by simp at h; subst h; exact ⟨_, rfl, r⟩
  | _, _, i + 1, _, .cons _ t, h => by
    obtain ⟨v, h1, h2⟩ := SvA.get (i := i) t (by simpa using h)
    exact ⟨v, by simpa using h1, h2⟩
theorem en_start {K : PySem.W.Frag} {J : Jm} {G H : Hp} {N : List Str} {vs : List V} {ss : List Sl} (r : SvA K J G vs ss) : En K J H G H (L2.start N vs) (startE N ss) := by
  have hl := r.length
  have ns : ∀ (i : Nat) (xs : List Dt), (startE N ss)[i]? ≠ some (.ml xs) := fun i xs h => by
    unfold startE at h
    by_cases hi : i < ss.length
    · rw [List.getElem?_append_left hi] at h
      obtain ⟨v, _, z⟩ := r.get h
      exact z
    · rw [List.getElem?_append_right (by omega), List.getElem?_replicate] at h
      split at h <;> cases h
  refine ⟨by simp [L2.start, startE, hl], fun i s h => ?_, fun i j p _ ⟨xs, h⟩ _ _ _ => ns i xs h⟩
  unfold startE at h
  unfold L2.start
  by_cases hi : i < ss.length
  · rw [List.getElem?_append_left hi] at h
    obtain ⟨v, h1, h2⟩ := r.get h
    refine ⟨some v, by rw [List.getElem?_append_left (by simp; omega), List.getElem?_map, h1]; rfl, ?_⟩
    cases s with
    | no => trivial
    | d x => exact ⟨v, rfl, h2⟩
    | ml xs => cases h2
    | hand => obtain ⟨hh, d, e1, e2⟩ := h2; exact ⟨hh, d, by rw [e1], e2⟩
  · rw [List.getElem?_append_right (by omega), List.getElem?_replicate] at h
    split at h
    · rename_i hlt
      cases h
      exact ⟨none, by rw [List.getElem?_append_right (by simp; omega), List.getElem?_replicate, if_pos (by simp; omega)], trivial⟩
    · cases h
section
variable {P : Program} {w : World} {K : PySem.W.Frag} {mg : Str → Option Value} {base : Heap}
theorem ok_ct {x qual : Str} {st : Stmt} {f : Addr} {fd : FuncData} {N ps : List Str} {k : Nat} {W : Fw} (F : L2.Fun K x qual st f fd) (S : FnScope N ps (defScope st)) (hn : ∀ ss P, W ss P → ss.length = ps.length)
    (hb : ∀ (cdv : Value) (A : Around) (outer : List PySem.Env) (s : Shared) (H : Hp) (E : XK), Room k (A.deeper (envOfC qual (defScope st) s.heap.objs.size f cdv)) →
      ∃ t, PSs (cxOf CX0 P w K mg base N qual (defScope st) f cdv A outer s H E).nox (defBody st) t ∧ ∀ J ss P, W ss P → Sv K J (startE N ss) t { nx := fun _ => P .non, rt := P }) : FnOk P w K mg base CX0 (k + 1) f fd ps (Ct K W) := by
  refine F.ok S (fun vs H Q E h => ?_) (fun cdv A outer s H vs Q E hr h => ?_)
  · obtain ⟨J, G, ss, P, wf, sv, hW, _⟩ := h
    rw [sv.length, hn ss P hW]
  · obtain ⟨J, G, ss, P, wf, sv, hW, q⟩ := h
    obtain ⟨t, hp, ht⟩ := hb cdv A outer s H E hr
    refine ⟨t, hp, ?_⟩
    exact ht J ss P hW G H G H (L2.start N vs) ⟨wf, wf.nx, en_start sv⟩ _ (fun e G' H' σ' a x => q .non .non G' H' a.nx .non x) (fun _ _ _ _ _ x => x.elim) (fun _ _ _ _ _ x => x.elim) (fun v d G' H' n r x => q v d G' H' n r x) (fun _ _ _ _ _ _ _ _ _ _ x => x.elim)
theorem ok_ctm {x qual : Str} {st : Stmt} {f : Addr} {fd : FuncData} {N ps : List Str} {k : Nat} {W : FwM} (F : L2.Fun K x qual st f fd) (S : FnScope N ps (defScope st)) (hn : ∀ ss P, W ss P → ss.length = ps.length)
    (hb : ∀ (cdv : Value) (A : Around) (outer : List PySem.Env) (s : Shared) (H : Hp) (E : XK), Room k (A.deeper (envOfC qual (defScope st) s.heap.objs.size f cdv)) →
      ∃ t, PSs (cxOf CX0 P w K mg base N qual (defScope st) f cdv A outer s H E).nox (defBody st) t ∧ ∀ J ss P, W ss P → Sv K J (startE N ss) t { nx := fun _ => False, rt := fun _ => False, rm := P }) : FnOk P w K mg base CX0 (k + 1) f fd ps (CtM K W) := by
  refine F.ok S (fun vs H Q E h => ?_) (fun cdv A outer s H vs Q E hr h => ?_)
  · obtain ⟨J, G, ss, P, wf, sv, hW, _⟩ := h
    rw [sv.length, hn ss P hW]
  · obtain ⟨J, G, ss, P, wf, sv, hW, q⟩ := h
    obtain ⟨t, hp, ht⟩ := hb cdv A outer s H E hr
    refine ⟨t, hp, ?_⟩
    exact ht J ss P hW G H G H (L2.start N vs) ⟨wf, wf.nx, en_start sv⟩ _ (fun e G' H' σ' a x => x.elim) (fun _ _ _ _ _ x => x.elim) (fun _ _ _ _ _ x => x.elim) (fun _ _ _ _ _ _ x => x.elim) (fun p ws ds G' H' n a b c r x => q p ws ds G' H' n a b c r x)
end
end Mv
namespace Mv
open PySem PySem.Spec PyProof.Rows L2
/-! ### walking a list or a tuple -/
def iSeq (K : PySem.W.Frag) (tl : TE) : TI := fun σ H R => tl σ H fun x H1 => ∃ a, x = .ref a ∧ ((∃ xs, SqL K H1 a xs ∧ R (Itl K a) H1) ∨ ∃ xs, SqT K H1 a xs ∧ R (Itt K a) H1)
theorem pi_seq {X : Cx} {tg l : Expr} {tl : TE} (hl : PE X l tl) : PI X tg l (iSeq X.K tl) := by
  refine ⟨fun pins s σ H R I h => thn (hl.run pins s σ H _ I h) fun v s1 ⟨x, H1, I1, r1, a, e, q1⟩ => ?_⟩
  subst e
  cases r1
  have fr : ∀ b, b ∈ [s1.heap.objs.size] → FpOk X pins H1 b := fun b hb => by
    have e : b = s1.heap.objs.size := by simpa using hb
    exact e ▸ I1.fpOk (Nat.le_refl _) (I1.hok.fresh (Nat.le_refl _))
  rcases q1 with ⟨xs, hq, q⟩ | ⟨xs, hq, q⟩
  · obtain ⟨its, rv, p, hz⟩ := I1.list hq
    exact wpAny_pyIter_list p.isList ⟨_, [s1.heap.objs.size], _, _, H1, rfl, I1.kept (t' := s1.toks) fun b o e => Heap.get?_push_of_some _ e, turn_list a _, ⟨_, Heap.get?_push_size _ rfl, rfl, rfl⟩, fr, q⟩
  · obtain ⟨its, rv, p, hz⟩ := I1.tuple hq
    have hp : s1.heap.IsTuple a its.toArray := p
    exact wpAny_pyIter_tuple hp ⟨_, [s1.heap.objs.size], _, _, H1, rfl, I1.kept (t' := s1.toks) fun b o e => Heap.get?_push_of_some _ e, turn_tuple a _, ⟨_, Heap.get?_push_size _ rfl, rfl, rfl⟩, fr, q⟩
theorem ei_seq {K : PySem.W.Frag} {J : Jm} {env : List Sl} {tl : TE} {R : List Dt → Prop} (h : Ev K J env tl fun x => ∃ ds, (x = .lst ds ∨ x = .tup ds) ∧ R ds) : Ei K J env (iSeq K tl) R := fun B G H σ w E Q q =>
  h B G H σ w E _ fun v x G1 H1 n1 r ⟨ds, e, k⟩ => by
    rcases e with e | e
    · subst e
      cases r with
      | lst s t => exact ⟨_, rfl, .inl ⟨_, same_l n1.gh s, q _ ds G1 H1 n1 (wk_list s t) k⟩⟩
    · subst e
      cases r with
      | tup s t => exact ⟨_, rfl, .inr ⟨_, same_t n1.gh s, q _ ds G1 H1 n1 (wk_tup s t) k⟩⟩
/-! ### a def that may be called -/
structure Cal (P : Program) (w : World) (K : PySem.W.Frag) (mg : Str → Option Value) (base : Heap) (k : Nat) (x : Str) (ps : List Str) (sp : Sp) : Prop where
  ex : ∃ f fd, FnOk P w K mg base CX0 k f fd ps sp ∧ mg x = some (.ref f) ∧ PySem.W.keepIn K (.ref f) = true ∧ Binds K fd ps []
theorem Cal.mono {P : Program} {w : World} {K : PySem.W.Frag} {mg : Str → Option Value} {base : Heap} {j k : Nat} {x : Str} {ps : List Str} {sp : Sp} (C : Cal P w K mg base j x ps sp) (h : j ≤ k) : Cal P w K mg base k x ps sp := by
  obtain ⟨f, fd, F, g, e, b⟩ := C.ex
  exact ⟨f, fd, F.mono h, g, e, b⟩
theorem pe_callC {X : Cx} {k : Nat} {x : Str} {ps : List Str} {sp : Sp} {p pos : Pos} {e : Expr} {es : List Expr} {t : TA} (C : Cal X.prog X.w X.K X.mg X.base k x ps sp) (hr : Room k X.A) (hg : Gl X x)
    (ha : PA X (e :: es) t) (hdb : (x == ("__debug__" : Str)) = false := by decide) (he : starEach (e :: es) X.env = (false, eval e X.env) :: starEach es X.env := by rfl) (hpl : (backTo pos (starEach es X.env)).any (·.1) = false := by rfl) :
    PE X (.Call (.Name x p) (e :: es) [] pos) (tCall sp [] E0 t) := by
  obtain ⟨f, fd, F, g, ke, b⟩ := C.ex
  exact pe_call F hr hg g ke b .nil pass0 ha hdb he hpl
/-! ### the rules with the written part named, so that a block's term hangs on nothing of the block -/
section
variable (K : PySem.W.Frag) {X : Cx}
theorem ix_seqK (h : X.K = K := by rfl) : IxR X (rIx K) := h ▸ ix_seq
theorem c_lenK (h : X.K = K := by rfl) : CallR X (.builtin "len") (rLen K) := h ▸ c_len
theorem c_tupK (h : X.K = K := by rfl) : CallR X (.type "tuple") (rTup K) := h ▸ c_tup
theorem c_lstK (h : X.K = K := by rfl) : CallR X (.type "list") (rLst K) := h ▸ c_lst
theorem c_isiK (h : X.K = K := by rfl) : CallR X (.builtin "isinstance") (rIsi K) := h ▸ c_isi
theorem op_inK (h : X.K = K := by rfl) : OpR X (compareOp .In) (rIn K false) := h ▸ op_in_seq
theorem op_notInK (h : X.K = K := by rfl) : OpR X (compareOp .NotIn) (rIn K true) := h ▸ op_notIn_seq
theorem pi_seqK {tg l : Expr} {tl : TE} (hl : PE X l tl) (h : X.K = K := by rfl) : PI X tg l (iSeq K tl) := h ▸ pi_seq hl
theorem pi_enumK {e : Expr} {ta : TA} {p pos tpos : Pos} {elts : List Expr} {kk : Nat} (hg : Gl X "enumerate") (hm : X.mg "enumerate" = none) (ha : PA X [e] ta) (h : X.K = K := by rfl)
    (hs : starEach [e] X.env = [(false, eval e X.env)] := by rfl) : PI X (.Tuple elts kk tpos) (.Call (.Name "enumerate" p) [e] [] pos) (iEnumA K ta) := h ▸ pi_enumA hg hm ha hs
theorem pg_tupK (n : Nat) {es : List Expr} {k : Nat} {t : TGs} {pos : Pos} (hc : X.calm = true) (h : PGs X es t) (hk : X.K = K := by rfl)
    (hn : (assignEach es X.env).length = n := by rfl) (hst : (assignEach es X.env).findIdx? (·.1) = none := by rfl) : PG X (.Tuple es k pos) (gTup K n t) := hk ▸ pg_tup hc h hn hst
theorem pi_zipK {e e2 : Expr} {ta : TA} {p pos tpos : Pos} {elts : List Expr} {kk : Nat} (hg : Gl X "zip") (hm : X.mg "zip" = none) (ha : PA X [e, e2] ta) (hk : X.K = K := by rfl)
    (hs : starEach [e, e2] X.env = (false, eval e X.env) :: starEach [e2] X.env := by rfl) (hpl : (backTo pos (starEach [e2] X.env)).any (·.1) = false := by rfl) :
    PI X (.Tuple elts kk tpos) (.Call (.Name "zip" p) [e, e2] [] pos) (RZ.iZipA K ta) := hk ▸ RZ.pi_zipA hg hm ha hs hpl
end
end Mv

set_option Elab.async false
set_option linter.all false
set_option maxRecDepth 100000
set_option maxHeartbeats 4000000
namespace Mv
open PySem PySem.Spec PyProof.Rows L2
/-! ### what the laws' own helpers promise -/
def natsD (l : List Nat) : List Dt := l.map fun (v : Nat) => Dt.int (v : Int)
abbrev lotD (l : List Nat) : Dt := .tup (natsD l)
abbrev placD (ls : List (List Nat)) : Dt := .tup (ls.map lotD)
theorem bc_t {b : Bool} {A B : Prop} (hb : b = true) (h : A) : (b = true → A) ∧ (b = false → B) := ⟨fun _ => h, fun z => absurd (hb.symm.trans z) (by decide)⟩
theorem bc_f {b : Bool} {A B : Prop} (hb : b = false) (h : B) : (b = true → A) ∧ (b = false → B) := ⟨fun z => absurd (hb.symm.trans z) (by decide), fun _ => h⟩
structure LotOk (n : Nat) (l : List Nat) : Prop where
  ne : l ≠ []
  up : l.Pairwise (· < ·)
  lt : ∀ v ∈ l, v < n
def PlacOk (n : Nat) (ls : List (List Nat)) : Prop := ∀ l ∈ ls, LotOk n l
theorem natsD_len (l : List Nat) : (natsD l).length = l.length := by unfold natsD; simp
theorem flat_nats (l : List Nat) : (natsD l).all flatD = true := by
  unfold natsD
  rw [List.all_map]
  exact List.all_eq_true.mpr fun _ _ => rfl
theorem in_nats (v : Nat) (l : List Nat) : inD (.int (v : Int)) (natsD l) = decide (v ∈ l) := by
  unfold inD natsD
  rw [List.any_map]
  induction l with
  | nil => rfl
  | cons a r ih =>
    rw [List.any_cons, ih]
    show (((a : Int) == (v : Int)) || decide (v ∈ r)) = decide (v ∈ a :: r)
    rw [Bool.eq_iff_iff]
    have e : ((a : Int) = (v : Int)) ↔ (v = a) := by omega
    simp only [Bool.or_eq_true, beq_iff_eq, decide_eq_true_eq, List.mem_cons, e]
theorem ints_snoc {l : List Int} {x : Int} : l.map Dt.int ++ [Dt.int x] = (l ++ [x]).map Dt.int := by simp
theorem ints_set {l : List Int} {j : Nat} {x : Int} : (l.map Dt.int).set j (.int x) = (l.set j x).map Dt.int := by rw [List.map_set]
theorem range_at {n k : Nat} {d : Dt} (h : ((List.range ((n : Int)).toNat).map fun i => Dt.int ((i : Nat) : Int))[k]? = some d) : d = .int (k : Int) ∧ k < n := by
  have hk : k < n := by
    have := (List.getElem?_eq_some_iff.mp h).1
    simpa using this
  rw [List.getElem?_map, List.getElem?_range (by simpa using hk)] at h
  exact ⟨(Option.some.inj h).symm, hk⟩
def W_lot : Fw := fun ss P => ∃ n : Nat, ss = [.hand, .d (.int (n : Int))] ∧ 0 < n ∧ n ≤ 1000 ∧ ∀ l, LotOk n l → P (lotD l)
def W_draws : FwM := fun ss P => ∃ (ns : List Int) (m : Nat), ss = [.d (.lst (ns.map Dt.int)), .d (.int (m : Int))] ∧ m ≤ 1000 ∧ ns.length ≤ 63 ∧ ∀ ds : List Int, P (ds.map Dt.int)
def W_take : Fw := fun ss P => ∃ m : Int, ss = [.hand, .d (.int m)] ∧ 0 < m ∧ ∀ x : Int, 0 ≤ x → x < m → P (.int x)
/-- how deep data is; objects within are not compared -/
inductive Flat : Nat → Dt → Prop
  | non (n : Nat) : Flat n .non
  | bl (n : Nat) (b : Bool) : Flat n (.bl b)
  | int (n : Nat) (i : Int) : Flat n (.int i)
  | str (n : Nat) (s : Str) : Flat n (.str s)
  | lst (n : Nat) (ds : List Dt) (hz : ds.length ≤ 100000) (h : ∀ d, d ∈ ds → Flat n d) : Flat (n + 1) (.lst ds)
  | tup (n : Nat) (ds : List Dt) (hz : ds.length ≤ 100000) (h : ∀ d, d ∈ ds → Flat n d) : Flat (n + 1) (.tup ds)
/-- the same value, asked of two that are alike -/
def W_like (n : Nat) : Fw := fun ss P => ∃ x : Dt, ss = [.d x, .d x] ∧ Flat n x ∧ P (.bl true)
/-- the law: True, whatever the script -/
def spLaw (K : PySem.W.Frag) : Sp := fun vs H Q _ => ∃ (a : Addr) (ns : List Int), vs = [.ref a] ∧ SqL K H a (ns.map V.int) ∧ ns.length ≤ 63 ∧ ∀ H', Q (.bl true) H'
theorem spLaw_start {K : PySem.W.Frag} {H : Hp} {a : Addr} {ns : List Int} {E : XK} (hS : SqL K H a (ns.map V.int)) (hl : ns.length ≤ 63) : spLaw K [.ref a] H (fun v _ => v = .bl true) E := ⟨a, ns, rfl, hS, hl, fun _ => rfl⟩
section
variable {P : Program} {w : World} {K : PySem.W.Frag} {mg : Str → Option Value} {base : Heap}
/-- the law's own def -/
theorem ok_lw {x qual : Str} {st : Stmt} {f : Addr} {fd : FuncData} {N : List Str} {k : Nat} (F : L2.Fun K x qual st f fd) (S : FnScope N ["script"] (defScope st))
    (hb : ∀ (cdv : Value) (A : Around) (outer : List PySem.Env) (s : Shared) (H : Hp) (E : XK), Room k (A.deeper (envOfC qual (defScope st) s.heap.objs.size f cdv)) →
      ∃ t, PSs (cxOf CX0 P w K mg base N qual (defScope st) f cdv A outer s H E).nox (defBody st) t ∧ ∀ ns : List Int, ns.length ≤ 63 → Sv K J0 (startE N [.d (.lst (ns.map Dt.int))]) t { nx := fun _ => False, rt := fun d => d = .bl true }) :
    FnOk P w K mg base CX0 (k + 1) f fd ["script"] (spLaw K) := by
  refine F.ok S (fun vs H Q E h => ?_) (fun cdv A outer s H vs Q E hr h => ?_)
  · obtain ⟨a, ns, rfl, _⟩ := h
    rfl
  · obtain ⟨a, ns, rfl, hS, hl, q⟩ := h
    obtain ⟨t, hp, ht⟩ := hb cdv A outer s H E hr
    refine ⟨t, hp, ?_⟩
    have wf := wf0 H
    have sv : SvA K J0 H [.ref a] [.d (.lst (ns.map Dt.int))] := .cons (show Dr K H (.ref a) (.lst (ns.map Dt.int)) from .lst hS Da.ints) .nil
    exact ht ns hl H H H H (L2.start N [.ref a]) ⟨wf, wf.nx, en_start sv⟩ _ (fun _ _ _ _ _ x => x.elim) (fun _ _ _ _ _ x => x.elim) (fun _ _ _ _ _ x => x.elim)
      (fun v d G' H' n r x => by subst x; cases r; exact q H') (fun _ _ _ _ _ _ _ _ _ _ x => x.elim)
/-- take: the draws' next, by their number -/
theorem take_ok {f : Addr} {fd : FuncData} {qual : Str} {st : Stmt} {N ps : List Str} {k : Nat} (F : L2.Fun K qual qual st f fd) (S : FnScope N ps (defScope st)) (h2 : ps.length = 2)
    (hb : ∀ (cdv : Value) (A : Around) (outer : List PySem.Env) (s : Shared) (H : Hp) (E : XK), Room k (A.deeper (envOfC qual (defScope st) s.heap.objs.size f cdv)) →
      ∃ t, PSs (cxOf CX0 P w K mg base N qual (defScope st) f cdv A outer s H E).nox (defBody st) t ∧
        ∀ (h d : Addr) (ns : List Int) (i m : Int) (Q : VK), h ≠ d → H h = some (.lst [.ref d, .int i]) → H d = some (.lst (ns.map V.int)) → 0 ≤ i → 0 < m →
          (∀ x : Int, 0 ≤ x → x < m → Q (.int x) (upd H h (.lst [.ref d, .int (i + 1)]))) → t { nx := fun _ H' => Q .non H', rt := Q } (L2.start N [.ref h, .int m]) H) :
    FnOk P w K mg base CX0 (k + 1) f fd ps (Ct K W_take) := by
  refine F.ok S (fun vs H Q E h => ?_) (fun cdv A outer s H vs Q E hr h => ?_)
  · obtain ⟨J, G, ss, P, wf, sv, ⟨m, e, _⟩, _⟩ := h
    rw [sv.length, e, h2]
    rfl
  · obtain ⟨J, G, ss, P, wf, sv, ⟨m, e, hm, hP⟩, q⟩ := h
    obtain ⟨t, hp, ht⟩ := hb cdv A outer s H E hr
    subst e
    cases sv with
    | cons s1 s2 =>
      cases s2 with
      | cons s2 s3 =>
        cases s3
        obtain ⟨h, d, e1, e2⟩ := s1
        have r2 : Dr K G _ (.int m) := s2
        cases r2
        subst e1 e2
        obtain ⟨ns, i, a, b, c⟩ := wf.ok
        have hhd : h ≠ d := fun z => by
          subst z
          rw [a] at b
          cases ns with
          | nil => cases b
          | cons x r => cases b
        refine ⟨t, hp, ht h d ns i m Q hhd a b c hm fun x h0 h1 => q (.int x) (.int x) G _ ?_ (.int x) (hP x h0 h1)⟩
        have hG := (wf.ms h (by simp [Jh])).1
        refine ⟨Same.refl _, fun b o e => ?_, fun b e _ => e, fun b o e hb => ?_, fun b e => ?_, ⟨ns, i + 1, upd_same, by rw [upd_ne hhd.symm]; assumption, by omega⟩⟩
        · rw [upd_ne (ne_of_none e hG)]; exact wf.gh b o e
        · rw [upd_ne (fun z => hb (by simp [Jh, z]))]; exact e
        · by_cases z : b = h
          · subst z; rw [upd_same]; simp
          · rw [upd_ne z]; exact e
/-- a def that calls itself, by the depth of what it is asked -/
def predW (W : Nat → Fw) : Nat → Fw
  | 0 => fun _ _ => False
  | n + 1 => W n
theorem rec_all {f : Addr} {fd : FuncData} {x : Str} {ps : List Str} (W : Nat → Fw) (g : mg x = some (.ref f)) (kp : PySem.W.keepIn K (.ref f) = true) (b : Binds K fd ps [])
    (step : ∀ n, Cal P w K mg base n x ps (Ct K (predW W n)) → FnOk P w K mg base CX0 (n + 1) f fd ps (Ct K (W n))) : ∀ n, FnOk P w K mg base CX0 (n + 1) f fd ps (Ct K (W n))
  | 0 => step 0 ⟨f, fd, ⟨fun vs H Q E h => by obtain ⟨_, _, _, _, _, _, z, _⟩ := h; exact z.elim, fun A outer s H args us vs Q E _ _ _ _ h => by obtain ⟨_, _, _, _, _, _, z, _⟩ := h; exact z.elim⟩, g, kp, b⟩
  | n + 1 => step (n + 1) ⟨f, fd, rec_all W g kp b step n, g, kp, b⟩
end
end Mv

set_option Elab.async false
set_option linter.all false
set_option maxRecDepth 100000
set_option maxHeartbeats 4000000
namespace Mv
open PySem PySem.Spec PyProof.Rows L2
section
variable {K : PySem.W.Frag} {J : Jm} {env : List Sl} {te : TE} {tt tt1 : TT}
/-- what is there already at the entry is no slot's own list -/
theorem En.base {B G H : Hp} {σ : L2.St} {p : Addr} (E : En K J B G H σ env) (h : H p = none) (o : HO) : En K J (upd B p o) G H σ env :=
  ⟨E.len, fun i s hs => by
    obtain ⟨ov, a, b⟩ := E.ok i s hs
    refine ⟨ov, a, ?_⟩
    cases s with
    | no => trivial
    | d x => exact b
    | hand => exact b
    | ml xs =>
      obtain ⟨q, us, e, hB, hG, hm, hH, r⟩ := b
      exact ⟨q, us, e, by rw [upd_ne (ne_of_none hH h)]; exact hB, hG, hm, hH, r⟩, E.ap⟩
theorem En.updB {B G H : Hp} {σ : L2.St} {p : Addr} {o o' : HO} (E : En K J B G H σ env) (h : B p = some o') : En K J B G (upd H p o) σ env :=
  ⟨E.len, fun i s hs => by
    obtain ⟨ov, a, b⟩ := E.ok i s hs
    refine ⟨ov, a, ?_⟩
    cases s with
    | no => trivial
    | d x => exact b
    | hand => exact b
    | ml xs =>
      obtain ⟨q, us, e, hB, hG, hm, hH, r⟩ := b
      exact ⟨q, us, e, hB, hG, hm, by rw [upd_ne (ne_of_none h hB).symm]; exact hH, r⟩, E.ap⟩
/-- [e for .. in .. if .. for .. in .. if ..] -/
theorem em_lc2 {wi wi1 : TI} {g g1 : TG} {vs vs1 : List Nat} {R : List Dt → Prop} (h : Ei K J env wi fun ds => ∃ Iv : Nat → List Dt → Prop, Iv 0 [] ∧
    (∀ k d acc, ds[k]? = some d → Iv k acc → Gt K J (wipeE env vs) g d vs fun e => Et K J e tt fun b => (b = true → Ei K J e wi1 fun es => ∃ Iw : Nat → List Dt → Prop, Iw 0 acc ∧
        (∀ j x ac, es[j]? = some x → Iw j ac → Gt K J (wipeE e vs1) g1 x vs1 fun e1 => Et K J e1 tt1 fun b1 => (b1 = true → ac.length < 100000 ∧ Ev K J e1 te fun y => Iw (j + 1) (ac ++ [y])) ∧ (b1 = false → Iw (j + 1) ac)) ∧
        ∀ ac, Iw es.length ac → Iv (k + 1) ac) ∧ (b = false → Iv (k + 1) acc)) ∧
    ∀ acc, Iv ds.length acc → R acc) : Em K J env (tLc2 wi g tt wi1 g1 tt1 te vs vs1) R := fun B G H σ w E Q q => by
  refine h B G H σ w E _ fun I ds G1 H1 n1 wk ⟨Iv, h0, hs, hd⟩ => ?_
  intro Dl hDl
  have w1 := n1.wf w
  have E1 := (E.mono n1).base hDl (.lst [])
  have hn : Dl ∉ J.ms := w1.notin hDl
  have n0 := w1.newM hDl (.lst [])
  refine ⟨fun i m H' => m = ds.length - i ∧ i ≤ ds.length ∧ ∃ G' xs acc, Nx J G1 H1 G' H' ∧ G' Dl = none ∧ H' Dl = some (.lst xs) ∧ Da K G' xs acc ∧ Iv i acc,
    ⟨ds.length, by simp, Nat.zero_le _, G1, [], [], n0, w1.free hDl, upd_same, .nil, h0⟩, ?_⟩
  rintro i m H' ⟨rfl, hi, G', xs, acc, n, hG, hH, r, p⟩
  have w' := n.wf w1
  by_cases hlt : i < ds.length
  · refine .inr ⟨wk.go i G' H' n.gg w' hlt, fun H2 => ∃ G2 xs2 acc2, Nx J G1 H1 G2 H2 ∧ G2 Dl = none ∧ H2 Dl = some (.lst xs2) ∧ Da K G2 xs2 acc2 ∧ Iv (i + 1) acc2,
      fun H2 ⟨G2, xs2, acc2, a, b, c, d, f⟩ => ⟨ds.length - (i + 1), by omega, rfl, hlt, G2, xs2, acc2, a, b, c, d, f⟩, fun x H2 y => ?_⟩
    obtain ⟨G2, d, n2, hd', rd⟩ := wk.yld i G' H' x H2 n.gg w' hlt y
    have n02 := n.trans n2
    have w2 := n2.wf w'
    refine hs i d acc hd' p (upd B Dl (.lst [])) G2 H2 (wipe σ vs) x w2 ((E1.mono n02).wipe vs) rd _ fun e3 σ3 E3 ks et => ⟨wipe_eq ks.1 ks.2, et (upd B Dl (.lst [])) G2 H2 σ3 w2 E3 _ fun b G3 H3 n3 k => ?_⟩
    have hG2 := n2.fr Dl hG (by rw [hH]; simp)
    have hH2 := n2.kp Dl _ hH hn
    have hG3 := n3.fr Dl hG2 (by rw [hH2]; simp)
    have hH3 := n3.kp Dl _ hH2 hn
    have w3 := n3.wf w2
    have E3' := E3.mono n3
    have r3 : Da K G3 xs acc := (r.mono n2.gg).mono n3.gg
    have n03 := n02.trans n3
    cases b with
    | false => exact ⟨G3, xs, acc, n03, hG3, hH3, r3, k.2 rfl⟩
    | true =>
      refine k.1 rfl (upd B Dl (.lst [])) G3 H3 σ3 w3 E3' _ fun I1 es G4 H4 n4 wk1 ⟨Iw, k0, ks1, kd⟩ => ?_
      have hG4 := n4.fr Dl hG3 (by rw [hH3]; simp)
      have hH4 := n4.kp Dl _ hH3 hn
      have w4 := n4.wf w3
      have E4 := E3'.mono n4
      have n04 := n03.trans n4
      refine ⟨fun j m H' => m = es.length - j ∧ j ≤ es.length ∧ ∃ G5 xs5 ac, (Same G4 G5 ∧ En K J (upd B Dl (.lst [])) G5 H' σ3 e3) ∧ Nx J G1 H1 G5 H' ∧ G5 Dl = none ∧ H' Dl = some (.lst xs5) ∧ Da K G5 xs5 ac ∧ Iw j ac,
        ⟨es.length, by simp, Nat.zero_le _, G4, xs, acc, ⟨Same.refl _, E4⟩, n04, hG4, hH4, r3.mono n4.gg, k0⟩, ?_⟩
      rintro j m H5 ⟨rfl, hj, G5, xs5, ac, ⟨s45, E5⟩, n05, hG5, hH5, r5, p5⟩
      have w5 := n05.wf w1
      by_cases hjl : j < es.length
      · refine .inr ⟨wk1.go j G5 H5 s45 w5 hjl, fun H' => ∃ G6 xs6 ac6, (Same G4 G6 ∧ En K J (upd B Dl (.lst [])) G6 H' σ3 e3) ∧ Nx J G1 H1 G6 H' ∧ G6 Dl = none ∧ H' Dl = some (.lst xs6) ∧ Da K G6 xs6 ac6 ∧ Iw (j + 1) ac6,
          fun H' ⟨G6, xs6, ac6, a, b, c, d, e, f⟩ => ⟨es.length - (j + 1), by omega, rfl, hjl, G6, xs6, ac6, a, b, c, d, e, f⟩, fun x5 H6 y5 => ?_⟩
        obtain ⟨G6, d6, n6, hd6, rd6⟩ := wk1.yld j G5 H5 x5 H6 s45 w5 hjl y5
        have w6 := n6.wf w5
        refine ks1 j d6 ac hd6 p5 (upd B Dl (.lst [])) G6 H6 (wipe σ3 vs1) x5 w6 ((E5.mono n6).wipe vs1) rd6 _ fun e7 σ7 E7 kk et7 => ⟨wipe_eq kk.1 kk.2, et7 (upd B Dl (.lst [])) G6 H6 σ7 w6 E7 _ fun b7 G7 H7 n7 k7 => ?_⟩
        have hG6 := n6.fr Dl hG5 (by rw [hH5]; simp)
        have hH6 := n6.kp Dl _ hH5 hn
        have hG7 := n7.fr Dl hG6 (by rw [hH6]; simp)
        have hH7 := n7.kp Dl _ hH6 hn
        have w7 := n7.wf w6
        have n67 := n6.trans n7
        cases b7 with
        | false => exact ⟨G7, xs5, ac, ⟨s45.trans n67.gg, E5.mono n67⟩, n05.trans n67, hG7, hH7, r5.mono n67.gg, k7.2 rfl⟩
        | true =>
          obtain ⟨hz, ev⟩ := k7.1 rfl
          refine ev (upd B Dl (.lst [])) G7 H7 σ7 w7 (E7.mono n7) _ fun yv yd G8 H8 n8 ry ky => ?_
          have hG8 := n8.fr Dl hG7 (by rw [hH7]; simp)
          have hH8 := n8.kp Dl _ hH7 hn
          have n68 := n67.trans n8
          have n08 := n05.trans n68
          have n9 := n08.mut (o' := .lst (xs5 ++ [yv])) hDl hG8 hn hH8
          have r8 := r5.mono n68.gg
          exact ⟨xs5, hH8, sz_lt (by rw [r5.length]; exact hz), G8, xs5 ++ [yv], ac ++ [yd], ⟨s45.trans n68.gg, (E5.mono n68).updB upd_same⟩, n9, hG8, upd_same, r8.append (.cons ry .nil), ky⟩
      · have e' : j = es.length := by omega
        subst e'
        exact .inl ⟨wk1.stop G5 H5 s45 w5, G5, xs5, ac, n05, hG5, hH5, r5, kd ac p5⟩
  · have e' : i = ds.length := by omega
    subst e'
    exact .inl ⟨wk.stop G' H' n.gg w', q Dl xs acc G' H' (n1.trans n) hG (by
      cases z : H Dl with
      | none => rfl
      | some o => exact absurd hDl (n1.th Dl (by rw [z]; simp))) hH r (hd acc p)⟩
end
end Mv

set_option Elab.async false
set_option linter.all false
set_option maxRecDepth 100000
set_option maxHeartbeats 4000000
namespace Mv
open PySem PySem.Spec PyProof.Rows L2
/-! ### placings, and what is new between two -/
theorem up_len : ∀ (l : List Nat) (a n : Nat), l.Pairwise (· < ·) → (∀ v ∈ l, a ≤ v ∧ v < n) → l.length ≤ n - a
  | [], _, _, _, _ => Nat.zero_le _
  | x :: r, a, n, h, hb => by
    have h1 := List.pairwise_cons.mp h
    have hx := hb x (by simp)
    have := up_len r (x + 1) n h1.2 fun v hv => ⟨h1.1 v hv, (hb v (by simp [hv])).2⟩
    rw [List.length_cons]
    omega
theorem LotOk.len {n : Nat} {l : List Nat} (h : LotOk n l) : l.length ≤ n := by
  have := up_len l 0 n h.up fun v hv => ⟨Nat.zero_le _, h.lt v hv⟩
  omega
def rowN (p : Nat) (b a : List Nat) : List (Nat × Nat) := (a.filter fun v => !decide (v ∈ b)).map fun v => (p, v)
def newTo (k : Nat) (b a : List (List Nat)) : List (Nat × Nat) := (List.range k).flatMap fun p => rowN p (b.getD p []) (a.getD p [])
def newN (b a : List (List Nat)) : List (Nat × Nat) := newTo a.length b a
def pairsD (l : List (Nat × Nat)) : List Dt := l.map fun q => pairD (.int (q.1 : Int)) (.int (q.2 : Int))
abbrev newD (b a : List (List Nat)) : Dt := .tup (pairsD (newN b a))
theorem newTo_succ {k : Nat} {b a : List (List Nat)} {bl al : List Nat} (hb : b[k]? = some bl) (ha : a[k]? = some al) : newTo (k + 1) b a = newTo k b a ++ rowN k bl al := by
  unfold newTo
  rw [List.range_succ, List.flatMap_append]
  simp [List.getD, hb, ha]
theorem rowN_len (p : Nat) (b a : List Nat) : (rowN p b a).length ≤ a.length := by
  unfold rowN
  rw [List.length_map]
  exact List.length_filter_le _ _
theorem newTo_len {m : Nat} {b a : List (List Nat)} (h : ∀ l ∈ a, l.length ≤ m) : ∀ k, (newTo k b a).length ≤ k * m
  | 0 => by simp [newTo]
  | k + 1 => by
    have ih := newTo_len (b := b) h k
    unfold newTo at ih ⊢
    rw [List.range_succ, List.flatMap_append, List.length_append]
    have h2 : (rowN k (b.getD k []) (a.getD k [])).length ≤ m := by
      refine Nat.le_trans (rowN_len _ _ _) ?_
      unfold List.getD
      cases e : a[k]? with
      | none => exact Nat.zero_le _
      | some l => exact h l (List.mem_of_getElem? e)
    simp only [List.flatMap_cons, List.flatMap_nil, List.append_nil]
    rw [Nat.succ_mul]
    omega
theorem rowN_snoc_in {p v : Nat} {b a : List Nat} (h : v ∈ b) : rowN p b (a ++ [v]) = rowN p b a := by
  unfold rowN
  rw [List.filter_append]
  simp [h]
theorem rowN_snoc_out {p v : Nat} {b a : List Nat} (h : v ∉ b) : rowN p b (a ++ [v]) = rowN p b a ++ [(p, v)] := by
  unfold rowN
  rw [List.filter_append]
  simp [h]
theorem pairsD_snoc {l : List (Nat × Nat)} {p v : Nat} : pairsD l ++ [.tup [.int (p : Int), .int (v : Int)]] = pairsD (l ++ [(p, v)]) := by
  unfold pairsD
  rw [List.map_append]
  rfl
theorem pairsD_len (l : List (Nat × Nat)) : (pairsD l).length = l.length := by simp [pairsD]
theorem plac_at {ls : List (List Nat)} {k : Nat} {l : List Nat} (h : ls[k]? = some l) : atD (ls.map lotD) (k : Int) = some (lotD l) := atD_nat (by rw [List.getElem?_map, h]; rfl)
theorem nats_get {l : List Nat} {j : Nat} {d : Dt} (h : (natsD l)[j]? = some d) : ∃ v, l[j]? = some v ∧ d = .int (v : Int) ∧ l.take (j + 1) = l.take j ++ [v] := by
  unfold natsD at h
  rw [List.getElem?_map] at h
  obtain ⟨v, hv, e⟩ := Option.map_eq_some_iff.mp h
  exact ⟨v, hv, e.symm, by rw [List.take_add_one, hv]; rfl⟩
theorem flat_nats8 {n : Nat} (l : List Nat) (h : l.length ≤ 100000) : Flat (n + 1) (lotD l) := .tup n _ (by rw [natsD_len]; exact h) fun d hd => by
  unfold natsD at hd
  obtain ⟨v, _, rfl⟩ := List.mem_map.mp hd
  exact .int n _
theorem flat_new {n : Nat} (l : List (Nat × Nat)) (h : l.length ≤ 100000) : Flat (n + 2) (.tup (pairsD l)) := .tup (n + 1) _ (by rw [pairsD_len]; exact h) fun d hd => by
  unfold pairsD at hd
  obtain ⟨q, _, rfl⟩ := List.mem_map.mp hd
  exact .tup n _ (by simp) fun d hd => by
    simp at hd
    rcases hd with rfl | rfl <;> exact .int n _
def W_placing : Fw := fun ss P => ∃ n m : Nat, ss = [.hand, .d (.int (n : Int)), .d (.int (m : Int))] ∧ 0 < n ∧ n ≤ 1000 ∧ m ≤ 1000 ∧ ∀ ls, ls.length = m → PlacOk n ls → P (placD ls)
def W_new : Fw := fun ss P => ∃ (b a : List (List Nat)), ss = [.d (placD b), .d (placD a)] ∧ a.length = b.length ∧ a.length ≤ 90 ∧ (∀ l ∈ a, l.length ≤ 1000) ∧ P (newD b a)
def W_near : Fw := fun ss P => ∃ (ls : List (List Nat)) (n : Nat), ss = [.hand, .d (placD ls), .d (.int (n : Int))] ∧ 0 < n ∧ n ≤ 1000 ∧ ls.length ≤ 1000 ∧ PlacOk n ls ∧ ∀ ls', ls'.length = ls.length → PlacOk n ls' → P (placD ls')
end Mv
namespace Mv
open PySem PySem.Spec PyProof.Rows L2
/-! ### a call by keywords alone -/
def kwP {α : Type} (pi : List Nat) (us ws : List α) : List α := match us with
  | [] => pi.filterMap fun i => ws[i]?
  | _ :: _ => []
theorem kw_rel {pi : List Nat} {zs : List V} {ws : List Value} (rz : Vals zs ws) : Vals (pi.filterMap fun i => zs[i]?) (pi.filterMap fun i => ws[i]?) := by
  induction pi with
  | nil => exact .nil
  | cons i r ih =>
    rw [List.filterMap_cons, List.filterMap_cons]
    cases e : zs[i]? with
    | none =>
      rw [rz.none_of e]
      exact ih
    | some v =>
      obtain ⟨u, h1, h2⟩ := rz.get e
      rw [h1]
      exact .cons h2 ih
theorem kw_rel2 {pi : List Nat} {vs zs : List V} {us ws : List Value} (r : Vals vs us) (rz : Vals zs ws) : Vals (kwP pi vs zs) (kwP pi us ws) := by
  cases r with
  | nil => exact kw_rel rz
  | cons _ _ => exact .nil
structure CalKw (P : Program) (w : World) (K : PySem.W.Frag) (mg : Str → Option Value) (base : Heap) (k : Nat) (x : Str) (ps ks : List Str) (pi : List Nat) (sp : Sp) : Prop where
  ex : ∃ f fd, FnOk P w K mg base CX0 k f fd ps sp ∧ mg x = some (.ref f) ∧ PySem.W.keepIn K (.ref f) = true ∧ KBinds K fd ps ks (kwP pi) (kwP pi)
theorem pe_callKw {X : Cx} {k : Nat} {x : Str} {ps ks : List Str} {pi : List Nat} {sp : Sp} {p pos : Pos} {kws : List Keyword} {tk : TA} (C : CalKw X.prog X.w X.K X.mg X.base k x ps ks pi sp) (hr : Room k X.A) (hg : Gl X x)
    (hkw : PK X kws tk) (hall : (backToKw pos (keywordEach kws X.env)).all (·.1.isSome) = true := by rfl) (hks : (backToKw pos (keywordEach kws X.env)).filterMap (·.1) = ks := by rfl) (hdb : (x == ("__debug__" : Str)) = false := by decide)
    (hpl : ((backTo pos (starEach [] X.env)).any (·.1) || (backToKw pos (keywordEach kws X.env)).any (·.1.isNone)) = false := by rfl) : PE X (.Call (.Name x p) [] kws pos) (tCallK sp (kwP pi) E0 tNil tk) := by
  obtain ⟨f, fd, F, hm, hk, hb⟩ := C.ex
  refine ⟨fun pins s σ H Q I h => ?_⟩
  refine wpAny_Call_Name_kw (ld_glob I hg hm ?_ hdb)
  refine PySem.W.callWith_KW0 (h₀ := X.base) I.ok.mod.kin hk hall (thn (hkw.run pos pins s σ H _ I h) fun ws s2 ⟨zs, H2, I2, rz, q2⟩ => ⟨I2.kIn, ?_⟩) hpl
  rw [hks]
  exact run_fnk (us := []) F hr hb pass0 I2 .nil rz q2
theorem kb2 {K : PySem.W.Frag} {fd : FuncData} {ps : List Str} {k1 k2 : Str} {pi : List Nat} (hp : ps.length = 2) (hpi : pi = [0, 1] ∨ pi = [1, 0]) (h : ∀ a b : Value, bindArgs fd ⟨[], [(k1, a), (k2, b)]⟩ = pure (ps.zip (kwP pi [] [a, b]))) :
    KBinds K fd ps [k1, k2] (kwP pi) (kwP pi) := by
  refine ⟨fun s us ws _ hl => ?_, fun r rz => kw_rel2 r rz⟩
  rw [hp] at hl
  match us, ws, hl with
  | [], a :: b :: r, _ =>
    refine .of_eq ?_
    have e : kwP pi [] (a :: b :: r) = kwP pi [] [a, b] := by rcases hpi with rfl | rfl <;> rfl
    rw [e]
    exact h a b
  | [], [], hl => rcases hpi with rfl | rfl <;> simp [kwP] at hl
  | [], [a], hl => rcases hpi with rfl | rfl <;> simp [kwP] at hl
  | _ :: _, _, hl => simp [kwP] at hl
section
variable {K : PySem.W.Frag} {J : Jm} {env : List Sl} {R : Dt → Prop} {W : Fw} {E0 : XK}
/-- arguments given by keywords: in the parameters' order -/
theorem sva_kw {G : Hp} {pi : List Nat} {vs : List V} {ss : List Sl} (r : SvA K J G vs ss) : SvA K J G (pi.filterMap fun i => vs[i]?) (pi.filterMap fun i => ss[i]?) := by
  have hl := r.length
  induction pi with
  | nil => exact .nil
  | cons i l ih =>
    rw [List.filterMap_cons, List.filterMap_cons]
    cases e : ss[i]? with
    | none =>
      have : vs[i]? = none := List.getElem?_eq_none (by rw [hl]; exact List.getElem?_eq_none_iff.mp e)
      rw [this]
      exact ih
    | some s =>
      obtain ⟨v, h1, h2⟩ := r.get e
      rw [h1]
      exact .cons h2 ih
theorem ev_callKw {pi : List Nat} {tk : TA} (h : Ea K J env tk fun ss => W (pi.filterMap fun i => ss[i]?) R) : Ev K J env (tCallK (Ct K W) (kwP pi) E0 tNil tk) R := fun B G H σ w E Q q =>
  h B G H σ w E _ fun vs ss G1 H1 n1 r k => ⟨J, G1, _, R, n1.wf w, sva_kw r, k, fun v d G2 H2 n2 rd x => q v d G2 H2 (n1.trans n2) rd x⟩
end
end Mv
namespace Mv
theorem he_start (d : Dt) : ∀ (n k : Nat) (s : Sl), (Sl.d d :: List.replicate n Sl.no)[k]? = some s → s = .no ∨ ∃ x, s = .d x := fun n k s h => by
  cases k with
  | zero => exact .inr ⟨d, (Option.some.inj h).symm⟩
  | succ k =>
    have h2 : (List.replicate n Sl.no)[k]? = some s := h
    exact .inl (List.mem_replicate.mp (List.mem_of_getElem? h2)).2
end Mv


set_option Elab.async false
set_option linter.all false
set_option maxRecDepth 100000
set_option maxHeartbeats 4000000
namespace Mv
open PySem PySem.Spec PyProof.Rows L2
def topS (i : Nat) : Stmt := PySem.Challenge.pw_movedwhole_k04_new_copies.main.body.getD i (.Pass ⟨0, 0, 0, 0⟩)
abbrev s_new_copies : Stmt := topS 1
abbrev N_new_copies : List Str := ["before", "after", "piece", "lot", "store"]
abbrev P_new_copies : List Str := ["before", "after"]
theorem sc_new_copies : FnScope N_new_copies P_new_copies (defScope s_new_copies) := ⟨rfl, rfl, rfl, by decide +kernel, rfl, by decide +kernel, by decide +kernel⟩
abbrev s__law_draws : Stmt := topS 3
abbrev N__law_draws : List Str := ["script", "many", "rests", "draws", "k", "cell", "at", "mixed"]
abbrev P__law_draws : List Str := ["script", "many"]
theorem sc__law_draws : FnScope N__law_draws P__law_draws (defScope s__law_draws) := ⟨rfl, rfl, rfl, by decide +kernel, rfl, by decide +kernel, by decide +kernel⟩
abbrev s__law_take : Stmt := topS 4
abbrev N__law_take : List Str := ["hand", "many", "at", "draws"]
abbrev P__law_take : List Str := ["hand", "many"]
theorem sc__law_take : FnScope N__law_take P__law_take (defScope s__law_take) := ⟨rfl, rfl, rfl, by decide +kernel, rfl, by decide +kernel, by decide +kernel⟩
abbrev s__law_like : Stmt := topS 5
abbrev N__law_like : List Str := ["found", "due", "at"]
abbrev P__law_like : List Str := ["found", "due"]
theorem sc__law_like : FnScope N__law_like P__law_like (defScope s__law_like) := ⟨rfl, rfl, rfl, by decide +kernel, rfl, by decide +kernel, by decide +kernel⟩
abbrev s__law_lot : Stmt := topS 6
abbrev N__law_lot : List Str := ["hand", "many", "found", "v"]
abbrev P__law_lot : List Str := ["hand", "many"]
theorem sc__law_lot : FnScope N__law_lot P__law_lot (defScope s__law_lot) := ⟨rfl, rfl, rfl, by decide +kernel, rfl, by decide +kernel, by decide +kernel⟩
abbrev s__law_placing : Stmt := topS 7
abbrev N__law_placing : List Str := ["hand", "many", "pieces", "p"]
abbrev P__law_placing : List Str := ["hand", "many", "pieces"]
theorem sc__law_placing : FnScope N__law_placing P__law_placing (defScope s__law_placing) := ⟨rfl, rfl, rfl, by decide +kernel, rfl, by decide +kernel, by decide +kernel⟩
abbrev s__law_new : Stmt := topS 8
abbrev N__law_new : List Str := ["before", "after", "found", "p", "v"]
abbrev P__law_new : List Str := ["before", "after"]
theorem sc__law_new : FnScope N__law_new P__law_new (defScope s__law_new) := ⟨rfl, rfl, rfl, by decide +kernel, rfl, by decide +kernel, by decide +kernel⟩
abbrev s__law_near : Stmt := topS 9
abbrev N__law_near : List Str := ["hand", "placing", "many", "found", "step"]
abbrev P__law_near : List Str := ["hand", "placing", "many"]
theorem sc__law_near : FnScope N__law_near P__law_near (defScope s__law_near) := ⟨rfl, rfl, rfl, by decide +kernel, rfl, by decide +kernel, by decide +kernel⟩
abbrev s_law : Stmt := topS 10
abbrev N_law : List Str := ["script", "hand", "many", "pieces", "one", "other", "before", "after"]
abbrev P_law : List Str := ["script"]
theorem sc_law : FnScope N_law P_law (defScope s_law) := ⟨rfl, rfl, rfl, by decide +kernel, rfl, by decide +kernel, by decide +kernel⟩
local macro_rules | `(tactic| walk_at "S") => `(tactic| first
  | with_reducible refine sv_seq ?_
  | with_reducible refine sv_ret ?_
  | with_reducible refine sv_retN ?_
  | with_reducible refine sv_next ?_
  | with_reducible refine sv_cont ?_
  | with_reducible refine sv_break ?_
  | with_reducible refine sv_if ?_
  | with_reducible refine sv_asg ?_)
local macro_rules | `(tactic| walk_at "E") => `(tactic| first
  | refine ev_ixM rfl ?_
  | refine ev_lenM rfl ?_
  | refine ev_tupM rfl ?_
  | with_reducible refine ev_op ?_
  | with_reducible refine ev_un ?_
  | with_reducible refine ev_if ?_
  | with_reducible refine ev_andV ?_
  | with_reducible refine ev_orV ?_
  | with_reducible refine ev_notV ?_
  | with_reducible refine ev_int ?_
  | with_reducible refine ev_bl ?_
  | with_reducible refine ev_str ?_
  | with_reducible refine ev_non ?_
  | refine ev_var rfl ?_
  | refine ev_isiB (by decide) ?_
  | with_reducible refine ev_cb ?_
  | with_reducible refine ev_call ?_
  | with_reducible refine ev_tup ?_
  | with_reducible refine ev_lst ?_
  | with_reducible refine et_test ?_
  | with_reducible refine et_B ?_
  | with_reducible refine et_and ?_
  | with_reducible refine et_or ?_
  | with_reducible refine et_not ?_
  | with_reducible refine et_yes ?_
  | with_reducible refine ed_nil ?_
  | with_reducible refine ed_cons ?_
  | with_reducible refine ea_nil ?_
  | refine ea_hand rfl ?_
  | with_reducible refine ea_cons ?_
  | with_reducible refine ei_seq ?_
  | with_reducible refine ei_range ?_
  | with_reducible refine ei_enum ?_
  | with_reducible refine o2_I0 ?_
  | with_reducible refine o2_B0 ?_
  | with_reducible refine o1_I ?_
  | with_reducible refine o2_eqI ?_
  | with_reducible refine o2_neI ?_
  | with_reducible refine o2_eqB ?_
  | with_reducible refine o2_neB ?_
  | with_reducible refine o2_eqS ?_
  | with_reducible refine o2_isN ?_
  | with_reducible refine o2_notN ?_
  | with_reducible refine o2_I (C := CDiv) (cdiv_ok (by decide) (by decide)) ?_
  | with_reducible refine o2_I (C := CPow) (cpow_ok (by decide) (by decide) (by decide)) ?_
  | with_reducible refine o2_I (C := CMul) (by first | exact cmul_r (by decide) (by decide) | exact cmul_l (by decide) (by decide) | exact cmul_l (by omega) (by omega) | exact cmul_r (by omega) (by omega)) ?_
  | with_reducible refine o2_I (C := fun _ j => 0 < j) (by first | decide | (show (0 : Int) < _; omega)) ?_
  | with_reducible refine oc_lenT ?_
  | with_reducible refine oc_lenL ?_
  | with_reducible refine oc_int ?_
  | with_reducible refine oc_intB ?_
  | with_reducible refine oc_abs ?_
  | with_reducible refine oc_max ?_
  | with_reducible refine oc_min ?_
  | with_reducible refine oc_tupL ?_
  | with_reducible refine oc_tupT ?_
  | refine bc_t rfl ?_
  | refine bc_f rfl ?_
  | with_reducible refine ⟨_, rfl, ?_⟩
  | refine ⟨rfl, ?_⟩
  | with_reducible refine ⟨Nat.le_of_ble_eq_true rfl, ?_⟩)

theorem ok_new_copies {P : Program} {w : World} {K : PySem.W.Frag} {mg : Str → Option Value} {base : Heap} {f : Addr} {fd : FuncData} (F : L2.Fun K "new_copies" "new_copies" s_new_copies f fd)
    (m_tuple : mg "tuple" = none)
    (m_enumerate : mg "enumerate" = none) :
    FnOk P w K mg base CX0 (1) f fd P_new_copies (Ct K W_new) := by
  refine ok_ct F sc_new_copies (fun ss P h => ?_) (fun cdv A outer s H E hr => ⟨_, (pss_one (ps_ret (pe_callTy (c_tupK K) (by rfl) m_tuple (by decide +kernel) (pa_cons (pe_lc2 (own := [("piece", 2), ("lot", 3), ("store", 4)]) (vs1 := [4]) rfl sc_new_copies.nd (pi_enumK K (by rfl) m_enumerate (pa_cons (pv 1) pa_nil)) (blkOk_by (N := N_new_copies) (sc := defScope s_new_copies) (by decide +kernel)) (by decide) (fun _ _ _ _ _ => (pg_tupK K 2 (by rfl) (pgs_cons (pg_name (i := 2) sc_new_copies.nd rfl (by first | exact Or.inl rfl | exact Or.inr rfl)) (pgs_cons (pg_name (i := 3) sc_new_copies.nd rfl (by first | exact Or.inl rfl | exact Or.inr rfl)) pgs_nil)))) (fun _ _ _ _ _ => pts_nil) (fun _ _ _ _ _ => (pi_seqK K (pv 3))) (fun _ _ _ _ _ => (pg_name (i := 4) sc_new_copies.nd rfl (by first | exact Or.inl rfl | exact Or.inr rfl))) (fun _ _ _ _ _ => (pts_one (pt_cmpR (op_notInK K) (pv 4) (pe_ix (ix_seqK K) (pv 0) (pv 2) (fun _ _ => rfl)) (by rfl)))) (fun _ _ _ _ _ => (pe_tup (pa_cons (pv 2) (pa_cons (pv 4) pa_nil))))) pa_nil)))), fun J ss P h => ?_⟩)
  · obtain ⟨b, a, rfl, _⟩ := h
    rfl
  · obtain ⟨b, a, rfl, hl, hz, hm, hP⟩ := h
    show Sv K J [.d (placD b), .d (placD a), .no, .no, .no] _ _
    refine sv_ret (ev_cb (ed_cons (Em.ev (em_lc2 (ei_enum (ev_var rfl ⟨_, .inr rfl, fun k acc => acc = pairsD (newTo k b a), rfl, ?_, ?_⟩))))))
    · rintro k d acc hd rfl
      have hk : k < a.length := by
        have := (List.getElem?_eq_some_iff.mp hd).1
        rw [enumD_len, List.length_map] at this
        exact this
      have hkb : b[k]? = some b[k] := by simp [show k < b.length by omega]
      have hka : a[k]? = some a[k] := by simp [hk]
      generalize b[k] = bl at hkb
      generalize a[k] = al at hka
      rw [enumD_get (d := lotD al) (by rw [List.getElem?_map, hka]; rfl)] at hd
      cases hd
      have hlen := newTo_len (b := b) hm k
      have hal : al.length ≤ 1000 := hm al (List.mem_of_getElem? hka)
      refine gt_tup rfl (gs_cons (gt_name (by decide) (gs_cons (gt_name (by decide) (gs_nil ?_)))))
      refine et_yes ⟨fun _ => ?_, fun z => (nomatch z)⟩
      repeat walk_at "E"
      refine ⟨_, .inr rfl, fun j ac => ac = pairsD (newTo k b a ++ rowN k bl (al.take j)), by simp [rowN], ?_, ?_⟩
      · rintro j d ac hd rfl
        obtain ⟨v, hv, rfl, ht⟩ := nats_get hd
        refine gt_name (by decide) ?_
        repeat walk_at "E"
        refine o2_ixT (plac_at hkb) (o2_inT rfl (flat_nats _) ?_)
        rw [in_nats]
        repeat walk_at "E"
        refine ⟨fun hb => ⟨?_, ?_⟩, fun hb => ?_⟩
        · rw [pairsD_len, List.length_append]
          have := rowN_len k bl (al.take j)
          have : (al.take j).length ≤ al.length := by rw [List.length_take]; omega
          have : k * 1000 ≤ 90 * 1000 := Nat.mul_le_mul_right _ (by omega)
          omega
        · repeat walk_at "E"
          have hvb : v ∉ bl := by simpa using hb
          rw [pairsD_snoc, List.append_assoc, ← rowN_snoc_out hvb, ← ht]
        · have hvb : v ∈ bl := by simpa using hb
          show _ = pairsD (newTo k b a ++ rowN k bl (al.take (j + 1)))
          rw [ht, rowN_snoc_in hvb]
      · rintro ac rfl
        rw [natsD_len, List.take_length, newTo_succ hkb hka]
    · rintro acc rfl
      repeat walk_at "E"
      rw [enumD_len, List.length_map]
      exact hP
theorem ok__law_draws {P : Program} {w : World} {K : PySem.W.Frag} {mg : Str → Option Value} {base : Heap} {f : Addr} {fd : FuncData} (F : L2.Fun K "_law_draws" "_law_draws" s__law_draws f fd)
    (m_abs : mg "abs" = none)
    (m_int : mg "int" = none)
    (m_range : mg "range" = none)
    (m_len : mg "len" = none) :
    FnOk P w K mg base CX0 (1) f fd P__law_draws (CtM K W_draws) := by
  refine ok_ctm F sc__law_draws (fun ss P h => ?_) (fun cdv A outer s H E hr => ⟨_, (pss_cons (ps_setLc (own := [("cell", 5)]) (i := 2) rfl sc__law_draws.nd rfl rfl (sw_true rfl rfl rfl (by decide +kernel)) (pi_seqK K (pv 0)) (blkOk_by (N := N__law_draws) (sc := defScope s__law_draws) (by decide +kernel)) (fun _ _ _ _ _ => (pg_name (i := 5) sc__law_draws.nd rfl (by first | exact Or.inl rfl | exact Or.inr rfl))) (fun _ _ _ _ _ => pts_nil) (fun _ _ _ _ _ => (pe_callB c_abs (by rfl) m_abs (by decide +kernel) (pa_cons (pe_callTy c_int (by rfl) m_int (by decide +kernel) (pa_cons (pv 5) pa_nil)) pa_nil))))
      (pss_cons (ps_set (i := 3) sc__law_draws.nd rfl (by first | exact Or.inl rfl | exact Or.inr rfl) (pe_lst pa_nil))
      (pss_cons (ps_for PassesOwn.never rfl (pi_range1 (by rfl) m_range (pa_cons (pv 1) pa_nil)) (pg_name (i := 4) sc__law_draws.nd rfl (by first | exact Or.inl rfl | exact Or.inr rfl))
        (pss_cons (ps_set (i := 5) sc__law_draws.nd rfl (by first | exact Or.inl rfl | exact Or.inr rfl) (pv 4))
      (pss_cons (ps_if (pt_cmpR op_gt (pe_callB (c_lenK K) (by rfl) m_len PySem.boot_len (pa_cons (pv 0) pa_nil)) pe_int (nomark _))
        (pss_cons (ps_set (i := 6) sc__law_draws.nd rfl (by first | exact Or.inl rfl | exact Or.inr rfl) (pe_op op_mod (pv 4) (pe_callB (c_lenK K) (by rfl) m_len PySem.boot_len (pa_cons (pv 0) pa_nil))))
      (pss_cons (ps_set (i := 5) sc__law_draws.nd rfl (by first | exact Or.inl rfl | exact Or.inr rfl) (pe_callTy c_int (by rfl) m_int (by decide +kernel) (pa_cons (pe_ix (ix_seqK K) (pv 0) (pv 6) (fun _ _ => rfl)) pa_nil)))
      (pss_one (ps_if (PW.pt (pw_and (pt_cmpR op_ge (pv 5) (pe_op op_pow pe_int pe_int) (nomark _)) (pw_and1 (pt_cmpR op_gt (pe_ix (ix_seqK K) (pv 2) (pv 6) (fun _ _ => rfl)) pe_int (nomark _)))))
        (pss_cons (ps_expr (pe_bm PySem.F.plainAttrs_list PySem.F.slot_list_append PySem.F.type_list_append mt_append (pv 3) (pa_cons (pe_op op_mod (pe_callTy c_int (by rfl) m_int (by decide +kernel) (pa_cons (pe_ix (ix_seqK K) (pv 2) (pv 6) (fun _ _ => rfl)) pa_nil)) pe_int) pa_nil)))
      (pss_cons (ps_asg (pe_op op_fdiv (pe_callTy c_int (by rfl) m_int (by decide +kernel) (pa_cons (pe_ix (ix_seqK K) (pv 2) (pv 6) (fun _ _ => rfl)) pa_nil)) pe_int) (pg_sub (pv 2) (pv 6) set_list))
      (pss_one ps_continue)))
        pss_nil))))
        pss_nil)
      (pss_cons (ps_set (i := 7) sc__law_draws.nd rfl (by first | exact Or.inl rfl | exact Or.inr rfl) (pe_op op_mod (pe_callTy c_int (by rfl) m_int (by decide +kernel) (pa_cons (pe_op op_add (pe_op op_add (pe_op op_mul (pv 5) pe_int) (pe_op op_mul (pv 4) pe_int)) pe_int) pa_nil)) pe_int))
      (pss_cons (ps_set (i := 7) sc__law_draws.nd rfl (by first | exact Or.inl rfl | exact Or.inr rfl) (pe_op op_mod (pe_callTy c_int (by rfl) m_int (by decide +kernel) (pa_cons (pe_op op_add (pe_op op_fdiv (pe_op op_mul (pv 7) (pv 7)) pe_int) (pv 7)) pa_nil)) pe_int))
      (pss_one (ps_expr (pe_bm PySem.F.plainAttrs_list PySem.F.slot_list_append PySem.F.type_list_append mt_append (pv 3) (pa_cons (pe_op op_mod (pe_callTy c_int (by rfl) m_int (by decide +kernel) (pa_cons (pe_op op_add (pe_op op_fdiv (pe_op op_mul (pv 7) (pv 7)) pe_int) (pe_op op_mul (pv 4) pe_int)) pa_nil)) pe_int) pa_nil)))))))))
      (pss_one (ps_ret (pv 3)))))), fun J ss P h => ?_⟩)
  · obtain ⟨ns, m, rfl, _⟩ := h
    rfl
  · obtain ⟨ns, m, rfl, hm, hl, hP⟩ := h
    show Sv K J [.d (.lst (ns.map Dt.int)), .d (.int (m : Int)), .no, .no, .no, .no, .no, .no] _ _
    refine sv_seq (sv_asgM (em_lc (ei_seq (ev_var rfl ⟨_, .inl rfl, by simp; omega, fun k acc => ∃ rs : List Int, rs.length = k ∧ acc = rs.map Dt.int, ⟨[], rfl, rfl⟩, ?_, ?_⟩))))
    · rintro k d acc hd _ ⟨rs, hk, rfl⟩
      rw [List.getElem?_map] at hd
      obtain ⟨n, hn, rfl⟩ := Option.map_eq_some_iff.mp hd
      refine gt_name (by decide) (et_yes ⟨fun _ => ?_, fun z => (nomatch z)⟩)
      repeat walk_at "E"
      exact ⟨rs ++ [_], by simp [hk], by rw [List.map_append]; rfl⟩
    · rintro acc _ ⟨rs, hk, rfl⟩
      rw [List.length_map] at hk
      refine sv_seq (sv_asgM (em_lst (ed_nil ⟨by decide, ?_⟩)))
      refine sv_seq (sv_for [4] (ei_range (ed_cons (ev_var rfl (ed_nil ⟨_, rfl, by omega, by omega, fun k e => ∃ (rl dl : List Dt) (s4 s5 s6 s7 : Sl),
        e = [.d (.lst (ns.map Dt.int)), .d (.int (m : Int)), .ml rl, .ml dl, s4, s5, s6, s7] ∧ (∃ rs : List Int, rl = rs.map Dt.int ∧ rs.length = ns.length) ∧ ∃ dr : List Int, dl = dr.map Dt.int ∧ dr.length ≤ k,
        ⟨_, _, _, _, _, _, rfl, ⟨rs, rfl, hk⟩, [], rfl, Nat.le_refl _⟩, ?_, ?_⟩)))))
      · rintro k d e hd ⟨_, _, s4, s5, s6, s7, rfl, ⟨rs, rfl, hr⟩, dr, rfl, hdr⟩
        have hkm : k < m := by
          have := (List.getElem?_eq_some_iff.mp hd).1
          simpa using this
        have hdk : d = .int (k : Int) := by
          rw [List.getElem?_map, List.getElem?_range (by simpa using hkm)] at hd
          exact (Option.some.inj hd).symm
        subst hdk
        refine gt_name (by decide) ?_
        show Sv K J [.d (.lst (ns.map Dt.int)), .d (.int (m : Int)), .ml (rs.map Dt.int), .ml (dr.map Dt.int), .d (.int (k : Int)), s5, s6, s7] _ _
        refine sv_seq (sv_asg (ev_var rfl ?_))
        refine sv_mid (fun e => ∃ (cell : Int) (s6 s7 : Sl), e = [.d (.lst (ns.map Dt.int)), .d (.int (m : Int)), .ml (rs.map Dt.int), .ml (dr.map Dt.int), .d (.int (k : Int)), .d (.int cell), s6, s7]) (sv_if ?_) ?_
        · repeat walk_at "E"
          refine ⟨fun hb => ?_, fun hb => sv_next ⟨_, _, _, rfl⟩⟩
          have h0 : 0 < ns.length := by
            have := of_decide_eq_true hb
            simp at this
            omega
          refine sv_seq (sv_asg ?_)
          repeat walk_at "E"
          refine o2_I (C := fun _ j => 0 < j) (by simp; omega) ?_
          have hj : k % ns.length < ns.length := Nat.mod_lt _ h0
          have ej : (k : Int) % (((ns.map Dt.int).length : Nat) : Int) = ((k % ns.length : Nat) : Int) := by
            rw [List.length_map]
            omega
          rw [ej]
          refine sv_seq (sv_asg ?_)
          repeat walk_at "E"
          refine o2_ixL (atD_nat (d := .int ns[k % ns.length]) (by simp [hj])) ?_
          repeat walk_at "E"
          refine sv_if ?_
          repeat walk_at "E"
          have hjr : k % ns.length < rs.length := by omega
          have hat : atD (rs.map Dt.int) ((k % ns.length : Nat) : Int) = some (.int rs[k % ns.length]) := atD_nat (by simp [hjr])
          refine ⟨fun _ => ?_, fun _ => ⟨fun z => (nomatch z), fun _ => sv_next ⟨_, _, _, rfl⟩⟩⟩
          repeat walk_at "E"
          refine ⟨_, _, rfl, hat, ?_⟩
          repeat walk_at "E"
          refine ⟨fun _ => ?_, fun _ => sv_next ⟨_, _, _, rfl⟩⟩
          refine sv_seq (sv_app rfl (by simp; omega) ?_)
          repeat walk_at "E"
          refine ⟨_, _, rfl, hat, ?_⟩
          repeat walk_at "E"
          refine sv_seq (sv_setM rfl ?_)
          repeat walk_at "E"
          refine ⟨_, _, rfl, hat, ?_⟩
          repeat walk_at "E"
          refine ⟨by simpa using hjr, ?_⟩
          exact sv_cont ⟨_, _, _, _, _, _, rfl, ⟨_, ints_set, by simpa using hr⟩, _, ints_snoc, by simp; omega⟩
        · rintro e ⟨cell, s6, s7, rfl⟩
          refine sv_seq (sv_asg ?_)
          repeat walk_at "E"
          refine sv_seq (sv_asg ?_)
          repeat walk_at "E"
          refine sv_app rfl (by simp; omega) ?_
          repeat walk_at "E"
          exact ⟨_, _, _, _, _, _, rfl, ⟨rs, rfl, hr⟩, _, ints_snoc, by simp; omega⟩
      · rintro e ⟨_, _, s4, s5, s6, s7, rfl, ⟨rs, rfl, hr⟩, dr, rfl, hdr⟩
        exact sv_retM rfl (hP dr)
theorem ok__law_take {P : Program} {w : World} {K : PySem.W.Frag} {mg : Str → Option Value} {base : Heap} {f : Addr} {fd : FuncData} (F : L2.Fun K "_law_take" "_law_take" s__law_take f fd)
    (m_len : mg "len" = none)
    (m_int : mg "int" = none) :
    FnOk P w K mg base CX0 (1) f fd P__law_take (Ct K W_take) := by
  refine take_ok F sc__law_take rfl (fun cdv A outer s H E hr => ⟨_, (pss_cons (ps_set (i := 2) sc__law_take.nd rfl (by first | exact Or.inl rfl | exact Or.inr rfl) (pe_ix (ix_seqK K) (pv 0) pe_int (fun _ _ => rfl)))
      (pss_cons (ps_asg (pe_op op_add (pv 2) pe_int) (pg_sub (pv 0) pe_int set_list))
      (pss_cons (ps_set (i := 3) sc__law_take.nd rfl (by first | exact Or.inl rfl | exact Or.inr rfl) (pe_ix (ix_seqK K) (pv 0) pe_int (fun _ _ => rfl)))
      (pss_cons (ps_if (pt_cmpR op_ge (pv 2) (pe_callB (c_lenK K) (by rfl) m_len PySem.boot_len (pa_cons (pv 3) pa_nil)) (nomark _))
        (pss_one (ps_ret pe_int))
        pss_nil)
      (pss_one (ps_ret (pe_op op_mod (pe_op op_fdiv (pe_callTy c_int (by rfl) m_int (by decide +kernel) (pa_cons (pe_ix (ix_seqK K) (pv 3) (pv 2) (fun _ _ => rfl)) pa_nil)) pe_int) (pv 1)))))))), fun h d ns i m Q hhd a b c hm q => ?_⟩)
  have b2 : (upd H h (.lst [.ref d, .int (i + 1)])) d = some (.lst (ns.map V.int)) := by
    rw [upd_ne hhd.symm]
    exact b
  refine ⟨.ref h, rfl, .inl ⟨h, _, 1, .int i, rfl, rfl, .inl (.inl a), rfl, ?_⟩⟩
  refine ⟨.int i, rfl, i, 1, rfl, rfl, .ref h, rfl, h, _, 1, 1, rfl, rfl, a, rfl, ?_⟩
  refine ⟨.ref h, rfl, .inl ⟨h, _, 0, .ref d, rfl, rfl, .inl (.inl upd_same), rfl, ?_⟩⟩
  refine ⟨.int i, rfl, .ref d, rfl, .ref d, ns.length, rfl, .inl ⟨_, .inl (.inl b2), by simp⟩, i, _, rfl, rfl, _, rfl, ite2 (fun e => ?_) (fun e => ?_)⟩
  · exact q 0 (Int.le_refl _) hm
  · obtain ⟨j, rfl⟩ : ∃ j : Nat, i = (j : Int) := ⟨i.toNat, by omega⟩
    have hi : j < ns.length := by
      have : ¬ ((ns.length : Int) ≤ (j : Int)) := fun z => e (decide_eq_true z)
      omega
    have ha : atI (ns.map V.int) (j : Int) = some (.int ns[j]) := atI_nat (by simp [hi])
    refine ⟨.ref d, rfl, .int j, rfl, .inl ⟨d, _, j, .int ns[j], rfl, rfl, .inl (.inl b2), ha, ?_⟩⟩
    refine .inl ⟨_, rfl, _, _, rfl, rfl, ⟨by decide, by decide⟩, .int m, rfl, _, _, rfl, rfl, hm, ?_⟩
    exact q _ (Int.emod_nonneg _ (by omega)) (Int.emod_lt_of_pos _ hm)
theorem ok__law_like {P : Program} {w : World} {K : PySem.W.Frag} {mg : Str → Option Value} {base : Heap} {f : Addr} {fd : FuncData} (F : L2.Fun K "_law_like" "_law_like" s__law_like f fd)
    (n : Nat)
    (m_isinstance : mg "isinstance" = none)
    (m_list : mg "list" = none)
    (m_tuple : mg "tuple" = none)
    (m_len : mg "len" = none)
    (m_range : mg "range" = none)
    (m_bool : mg "bool" = none)
    (m_str : mg "str" = none)
    (m_int : mg "int" = none)
    (c__law_like : Cal P w K mg base n "_law_like" P__law_like (Ct K (predW W_like n))) :
    FnOk P w K mg base CX0 (n + 1) f fd P__law_like (Ct K (W_like n)) := by
  refine ok_ct F sc__law_like (fun ss P h => ?_) (fun cdv A outer s H E hr => ⟨_, (pss_cons (ps_if (PW.pt (pw_or (pt_val (pe_callB (c_isiK K) (by rfl) m_isinstance (by decide +kernel) (pa_cons (pv 1) (pa_cons (pe_bltn (v := .ty "tuple") (by rfl) m_tuple (by decide +kernel) rfl) pa_nil)))) (pw_or1 (pt_val (pe_callB (c_isiK K) (by rfl) m_isinstance (by decide +kernel) (pa_cons (pv 1) (pa_cons (pe_bltn (v := .ty "list") (by rfl) m_list (by decide +kernel) rfl) pa_nil)))))))
        (pss_cons (ps_if (PW.pt (pw_or (pt_cmpR op_ne (pe_callB (c_isiK K) (by rfl) m_isinstance (by decide +kernel) (pa_cons (pv 0) (pa_cons (pe_bltn (v := .ty "tuple") (by rfl) m_tuple (by decide +kernel) rfl) pa_nil))) (pe_callB (c_isiK K) (by rfl) m_isinstance (by decide +kernel) (pa_cons (pv 1) (pa_cons (pe_bltn (v := .ty "tuple") (by rfl) m_tuple (by decide +kernel) rfl) pa_nil))) (nomark _)) (pw_or1 (pt_cmpR op_ne (pe_callB (c_isiK K) (by rfl) m_isinstance (by decide +kernel) (pa_cons (pv 0) (pa_cons (pe_bltn (v := .ty "list") (by rfl) m_list (by decide +kernel) rfl) pa_nil))) (pe_callB (c_isiK K) (by rfl) m_isinstance (by decide +kernel) (pa_cons (pv 1) (pa_cons (pe_bltn (v := .ty "list") (by rfl) m_list (by decide +kernel) rfl) pa_nil))) (nomark _)))))
        (pss_one (ps_ret pe_bl))
        pss_nil)
      (pss_cons (ps_if (pt_cmpR op_ne (pe_callB (c_lenK K) (by rfl) m_len PySem.boot_len (pa_cons (pv 0) pa_nil)) (pe_callB (c_lenK K) (by rfl) m_len PySem.boot_len (pa_cons (pv 1) pa_nil)) (nomark _))
        (pss_one (ps_ret pe_bl))
        pss_nil)
      (pss_cons (ps_for PassesOwn.never rfl (pi_range1 (by rfl) m_range (pa_cons (pe_callB (c_lenK K) (by rfl) m_len PySem.boot_len (pa_cons (pv 1) pa_nil)) pa_nil)) (pg_name (i := 2) sc__law_like.nd rfl (by first | exact Or.inl rfl | exact Or.inr rfl))
        (pss_one (ps_if (pt_not (pt_val (pe_callC c__law_like hr (by rfl) (pa_cons (pe_ix (ix_seqK K) (pv 0) (pv 2) (fun _ _ => rfl)) (pa_cons (pe_ix (ix_seqK K) (pv 1) (pv 2) (fun _ _ => rfl)) pa_nil)))))
        (pss_one (ps_ret pe_bl))
        pss_nil)))
      (pss_one (ps_ret pe_bl)))))
        pss_nil)
      (pss_cons (ps_if (pt_cmpR op_is_none (pv 1) pe_non (nomark _))
        (pss_one (ps_ret (pe_cmpR op_is_none (pv 0) pe_non (nomark _))))
        pss_nil)
      (pss_cons (ps_if (PW.pt (pw_or (pt_val (pe_callB (c_isiK K) (by rfl) m_isinstance (by decide +kernel) (pa_cons (pv 1) (pa_cons (pe_bltn (v := .ty "bool") (by rfl) m_bool (by decide +kernel) rfl) pa_nil)))) (pw_or1 (pt_val (pe_callB (c_isiK K) (by rfl) m_isinstance (by decide +kernel) (pa_cons (pv 0) (pa_cons (pe_bltn (v := .ty "bool") (by rfl) m_bool (by decide +kernel) rfl) pa_nil)))))))
        (pss_one (ps_ret (pe_and (pe_callB (c_isiK K) (by rfl) m_isinstance (by decide +kernel) (pa_cons (pv 1) (pa_cons (pe_bltn (v := .ty "bool") (by rfl) m_bool (by decide +kernel) rfl) pa_nil))) (pe_and (pe_callB (c_isiK K) (by rfl) m_isinstance (by decide +kernel) (pa_cons (pv 0) (pa_cons (pe_bltn (v := .ty "bool") (by rfl) m_bool (by decide +kernel) rfl) pa_nil))) (pe_one (pe_cmpR op_eq (pv 0) (pv 1) (nomark _)))))))
        pss_nil)
      (pss_cons (ps_if (pt_val (pe_callB (c_isiK K) (by rfl) m_isinstance (by decide +kernel) (pa_cons (pv 1) (pa_cons (pe_bltn (v := .ty "str") (by rfl) m_str (by decide +kernel) rfl) pa_nil))))
        (pss_one (ps_ret (pe_and (pe_callB (c_isiK K) (by rfl) m_isinstance (by decide +kernel) (pa_cons (pv 0) (pa_cons (pe_bltn (v := .ty "str") (by rfl) m_str (by decide +kernel) rfl) pa_nil))) (pe_one (pe_cmpR op_eq (pv 0) (pv 1) (nomark _))))))
        pss_nil)
      (pss_one (ps_ret (pe_and (pe_callB (c_isiK K) (by rfl) m_isinstance (by decide +kernel) (pa_cons (pv 0) (pa_cons (pe_bltn (v := .ty "int") (by rfl) m_int (by decide +kernel) rfl) pa_nil))) (pe_one (pe_cmpR op_eq (pv 0) (pv 1) (nomark _)))))))))), fun J ss P h => ?_⟩)
  · obtain ⟨x, rfl, _⟩ := h
    rfl
  · obtain ⟨x, rfl, hx, hP⟩ := h
    show Sv K J [.d x, .d x, .no] _ _
    have seq : ∀ (y : Dt) (ds : List Dt) (m : Nat), (y = .lst ds ∨ y = .tup ds) → ds.length ≤ 100000 → n = m + 1 → (∀ d, d ∈ ds → Flat m d) → P (.bl true) → ∀ (k : Nat) (d : Dt) (e : List Sl),
        ((List.range ((ds.length : Int)).toNat).map fun i => Dt.int ((i : Nat) : Int))[k]? = some d → (∃ s, e = [.d y, .d y, s]) →
        ∃ q, d = .int (k : Int) ∧ ds[k]? = some q ∧ Flat m q := fun y ds m _ _ _ hf _ k d e hd _ => by
      obtain ⟨rfl, hk⟩ := range_at hd
      exact ⟨ds[k], rfl, by simp [hk], hf _ (List.getElem_mem hk)⟩
    walk_at "S"
    walk_at "S"
    cases hx with
    | non n =>
      repeat walk_at "E"
      repeat (first | walk_at "S" | walk_at "E")
      exact hP
    | bl n b =>
      repeat walk_at "E"
      repeat (first | walk_at "S" | walk_at "E")
      rw [decide_eq_true rfl]
      exact hP
    | int n b =>
      repeat walk_at "E"
      repeat (first | walk_at "S" | walk_at "E")
      rw [decide_eq_true rfl]
      exact hP
    | str n b =>
      repeat walk_at "E"
      repeat (first | walk_at "S" | walk_at "E")
      rw [decide_eq_true rfl]
      exact hP
    | lst m ds hz hf =>
      repeat (first | walk_at "S" | walk_at "E")
      refine bc_f (by simp) ?_
      repeat (first | walk_at "S" | walk_at "E")
      refine sv_for [2] (ei_range (ed_cons (ev_cb (ed_cons (ev_var rfl (ed_nil (oc_lenL (ed_nil ⟨_, rfl, by omega, by omega, fun k e => ∃ s, e = [.d (.lst ds), .d (.lst ds), s], ⟨_, rfl⟩, ?_, ?_⟩))))))))
      · rintro k d e hd ⟨s, rfl⟩
        obtain ⟨q, rfl, hq, hfq⟩ := seq (.lst ds) ds m (.inl rfl) hz rfl hf hP k d _ hd ⟨s, rfl⟩
        refine gt_name (by decide) ?_
        repeat (first | walk_at "S" | walk_at "E")
        refine o2_ixL (atD_nat hq) ?_
        repeat (first | walk_at "S" | walk_at "E")
        refine o2_ixL (atD_nat hq) ?_
        repeat (first | walk_at "S" | walk_at "E")
        refine ⟨q, rfl, hfq, _, rfl, ?_⟩
        repeat (first | walk_at "S" | walk_at "E")
        exact ⟨_, rfl⟩
      · rintro e ⟨s, rfl⟩
        repeat (first | walk_at "S" | walk_at "E")
        exact hP
    | tup m ds hz hf =>
      repeat (first | walk_at "S" | walk_at "E")
      refine bc_f (by simp) ?_
      repeat (first | walk_at "S" | walk_at "E")
      refine sv_for [2] (ei_range (ed_cons (ev_cb (ed_cons (ev_var rfl (ed_nil (oc_lenT (ed_nil ⟨_, rfl, by omega, by omega, fun k e => ∃ s, e = [.d (.tup ds), .d (.tup ds), s], ⟨_, rfl⟩, ?_, ?_⟩))))))))
      · rintro k d e hd ⟨s, rfl⟩
        obtain ⟨q, rfl, hq, hfq⟩ := seq (.tup ds) ds m (.inr rfl) hz rfl hf hP k d _ hd ⟨s, rfl⟩
        refine gt_name (by decide) ?_
        repeat (first | walk_at "S" | walk_at "E")
        refine o2_ixT (atD_nat hq) ?_
        repeat (first | walk_at "S" | walk_at "E")
        refine o2_ixT (atD_nat hq) ?_
        repeat (first | walk_at "S" | walk_at "E")
        refine ⟨q, rfl, hfq, _, rfl, ?_⟩
        repeat (first | walk_at "S" | walk_at "E")
        exact ⟨_, rfl⟩
      · rintro e ⟨s, rfl⟩
        repeat (first | walk_at "S" | walk_at "E")
        exact hP
theorem ok__law_lot {P : Program} {w : World} {K : PySem.W.Frag} {mg : Str → Option Value} {base : Heap} {f : Addr} {fd : FuncData} (F : L2.Fun K "_law_lot" "_law_lot" s__law_lot f fd)
    (m_tuple : mg "tuple" = none)
    (m_range : mg "range" = none)
    (m_len : mg "len" = none)
    (c__law_take : Cal P w K mg base 1 "_law_take" P__law_take (Ct K W_take)) :
    FnOk P w K mg base CX0 (2) f fd P__law_lot (Ct K W_lot) := by
  refine ok_ct F sc__law_lot (fun ss P h => ?_) (fun cdv A outer s H E hr => ⟨_, (pss_cons (ps_set (i := 2) sc__law_lot.nd rfl (by first | exact Or.inl rfl | exact Or.inr rfl) (pe_callTy (c_tupK K) (by rfl) m_tuple (by decide +kernel) (pa_cons (pe_lc (own := [("v", 3)]) rfl sc__law_lot.nd (pi_range1 (by rfl) m_range (pa_cons (pv 1) pa_nil)) (blkOk_by (N := N__law_lot) (sc := defScope s__law_lot) (by decide +kernel)) (fun _ _ _ _ _ => (pg_name (i := 3) sc__law_lot.nd rfl (by first | exact Or.inl rfl | exact Or.inr rfl))) (fun _ _ _ _ _ => (pts_one (pt_cmpR op_eq (pe_callC c__law_take hr (by rfl) (pa_cons (pv 0) (pa_cons pe_int pa_nil))) pe_int (nomark _)))) (fun _ _ _ _ _ => (pv 3))) pa_nil)))
      (pss_cons (ps_if (pt_cmpR op_eq (pe_callB (c_lenK K) (by rfl) m_len PySem.boot_len (pa_cons (pv 2) pa_nil)) pe_int (nomark _))
        (pss_one (ps_set (i := 2) sc__law_lot.nd rfl (by first | exact Or.inl rfl | exact Or.inr rfl) (pe_tup (pa_cons (pe_callC c__law_take hr (by rfl) (pa_cons (pv 0) (pa_cons (pv 1) pa_nil))) pa_nil))))
        pss_nil)
      (pss_one (ps_ret (pv 2))))), fun J ss P h => ?_⟩)
  · obtain ⟨n, rfl, _⟩ := h
    rfl
  · obtain ⟨n, rfl, h0, hn, hP⟩ := h
    show Sv K J [.hand, .d (.int (n : Int)), .no, .no] _ _
    refine sv_mid (fun e => ∃ (l : List Nat), e = [.hand, .d (.int (n : Int)), .d (lotD l), .no] ∧ l.Pairwise (· < ·) ∧ ∀ v ∈ l, v < n) (sv_asg ?_) ?_
    · refine ev_cb (ed_cons (Em.ev (em_lc (ei_range (ed_cons (ev_var rfl (ed_nil ⟨_, rfl, by omega, by omega, ?_⟩)))))))
      refine ⟨by simp; omega, fun k acc => ∃ l : List Nat, acc = natsD l ∧ l.Pairwise (· < ·) ∧ ∀ v ∈ l, v < k, ⟨[], rfl, .nil, by simp⟩, ?_, ?_⟩
      · rintro k d acc hd _ ⟨l, rfl, hl, hv⟩
        obtain ⟨rfl, hkn⟩ := range_at hd
        refine gt_name (by decide) ?_
        repeat walk_at "E"
        refine ⟨_, rfl, by decide, fun x _ _ => ?_⟩
        repeat walk_at "E"
        refine ⟨fun _ => ?_, fun _ => ⟨l, rfl, hl, fun v hv' => by have := hv v hv'; omega⟩⟩
        repeat walk_at "E"
        refine ⟨l ++ [k], by simp [natsD], List.pairwise_append.mpr ⟨hl, by simp, fun a ha b hb => ?_⟩, fun v hv' => ?_⟩
        · simp at hb; subst hb; exact hv a ha
        · rcases List.mem_append.mp hv' with z | z
          · have := hv v z; omega
          · simp at z; omega
      · rintro acc _ ⟨l, rfl, hl, hv⟩
        repeat walk_at "E"
        exact ⟨hl, by simpa using hv⟩
    · rintro e ⟨l, rfl, hl, hv⟩
      refine sv_mid (fun e => ∃ l, e = [.hand, .d (.int (n : Int)), .d (lotD l), .no] ∧ LotOk n l) (sv_if ?_) ?_
      · repeat walk_at "E"
        refine ⟨fun hb => ?_, fun hb => sv_next ⟨l, rfl, ?_, hl, hv⟩⟩
        · refine sv_asg ?_
          repeat walk_at "E"
          refine ⟨_, rfl, by omega, fun x h1 h2 => ?_⟩
          repeat walk_at "E"
          obtain ⟨j, rfl⟩ : ∃ j : Nat, x = (j : Int) := ⟨x.toNat, by omega⟩
          exact ⟨[j], rfl, by simp, by simp, by simp; omega⟩
        · rintro rfl
          exact absurd hb (by simp [natsD])
      · rintro e ⟨l, rfl, hl⟩
        walk_at "S"
        repeat walk_at "E"
        exact hP l hl
theorem ok__law_placing {P : Program} {w : World} {K : PySem.W.Frag} {mg : Str → Option Value} {base : Heap} {f : Addr} {fd : FuncData} (F : L2.Fun K "_law_placing" "_law_placing" s__law_placing f fd)
    (m_tuple : mg "tuple" = none)
    (m_range : mg "range" = none)
    (c__law_lot : Cal P w K mg base 2 "_law_lot" P__law_lot (Ct K W_lot)) :
    FnOk P w K mg base CX0 (3) f fd P__law_placing (Ct K W_placing) := by
  refine ok_ct F sc__law_placing (fun ss P h => ?_) (fun cdv A outer s H E hr => ⟨_, (pss_one (ps_ret (pe_callTy (c_tupK K) (by rfl) m_tuple (by decide +kernel) (pa_cons (pe_lc (own := [("p", 3)]) rfl sc__law_placing.nd (pi_range1 (by rfl) m_range (pa_cons (pv 2) pa_nil)) (blkOk_by (N := N__law_placing) (sc := defScope s__law_placing) (by decide +kernel)) (fun _ _ _ _ _ => (pg_name (i := 3) sc__law_placing.nd rfl (by first | exact Or.inl rfl | exact Or.inr rfl))) (fun _ _ _ _ _ => pts_nil) (fun _ _ _ _ _ => (pe_callC c__law_lot hr (by rfl) (pa_cons (pv 0) (pa_cons (pv 1) pa_nil))))) pa_nil)))), fun J ss P h => ?_⟩)
  · obtain ⟨n, m, rfl, _⟩ := h
    rfl
  · obtain ⟨n, m, rfl, h0, hn, hm, hP⟩ := h
    show Sv K J [.hand, .d (.int (n : Int)), .d (.int (m : Int)), .no] _ _
    refine sv_ret (ev_cb (ed_cons (Em.ev (em_lc (ei_range (ed_cons (ev_var rfl (ed_nil ⟨_, rfl, by omega, by omega, ?_⟩))))))))
    refine ⟨by simp; omega, fun k acc => ∃ ls : List (List Nat), acc = ls.map lotD ∧ ls.length = k ∧ PlacOk n ls, ⟨[], rfl, rfl, by simp [PlacOk]⟩, ?_, ?_⟩
    · rintro k d acc hd _ ⟨ls, rfl, rfl, hok⟩
      obtain ⟨rfl, hk⟩ := range_at hd
      refine gt_name (by decide) ?_
      repeat walk_at "E"
      refine ⟨n, rfl, h0, hn, fun l hl => ⟨ls ++ [l], by rw [List.map_append]; rfl, by simp, fun x hx => ?_⟩⟩
      rcases List.mem_append.mp hx with z | z
      · exact hok x z
      · simp at z; subst z; exact hl
    · rintro acc _ ⟨ls, rfl, hl, hok⟩
      repeat walk_at "E"
      exact hP ls (by simpa using hl) hok
theorem ok__law_new {P : Program} {w : World} {K : PySem.W.Frag} {mg : Str → Option Value} {base : Heap} {f : Addr} {fd : FuncData} (F : L2.Fun K "_law_new" "_law_new" s__law_new f fd)
    (m_range : mg "range" = none)
    (m_len : mg "len" = none)
    (m_int : mg "int" = none)
    (m_tuple : mg "tuple" = none) :
    FnOk P w K mg base CX0 (1) f fd P__law_new (Ct K W_new) := by
  refine ok_ct F sc__law_new (fun ss P h => ?_) (fun cdv A outer s H E hr => ⟨_, (pss_cons (ps_set (i := 2) sc__law_new.nd rfl (by first | exact Or.inl rfl | exact Or.inr rfl) (pe_lst pa_nil))
      (pss_cons (ps_for PassesOwn.never rfl (pi_range1 (by rfl) m_range (pa_cons (pe_callB (c_lenK K) (by rfl) m_len PySem.boot_len (pa_cons (pv 0) pa_nil)) pa_nil)) (pg_name (i := 3) sc__law_new.nd rfl (by first | exact Or.inl rfl | exact Or.inr rfl))
        (pss_one (ps_for PassesOwn.never rfl (pi_seqK K (pe_ix (ix_seqK K) (pv 1) (pv 3) (fun _ _ => rfl))) (pg_name (i := 4) sc__law_new.nd rfl (by first | exact Or.inl rfl | exact Or.inr rfl))
        (pss_one (ps_if (pt_cmpR (op_notInK K) (pv 4) (pe_ix (ix_seqK K) (pv 0) (pv 3) (fun _ _ => rfl)) (by rfl))
        (pss_one (ps_expr (pe_bm PySem.F.plainAttrs_list PySem.F.slot_list_append PySem.F.type_list_append mt_append (pv 2) (pa_cons (pe_tup (pa_cons (pe_callTy c_int (by rfl) m_int (by decide +kernel) (pa_cons (pv 3) pa_nil)) (pa_cons (pv 4) pa_nil))) pa_nil))))
        pss_nil)))))
      (pss_one (ps_ret (pe_callTy (c_tupK K) (by rfl) m_tuple (by decide +kernel) (pa_cons (pv 2) pa_nil)))))), fun J ss P h => ?_⟩)
  · obtain ⟨b, a, rfl, _⟩ := h
    rfl
  · obtain ⟨b, a, rfl, hl, hz, hm, hP⟩ := h
    show Sv K J [.d (placD b), .d (placD a), .no, .no, .no] _ _
    refine sv_seq (sv_asgM (em_lst (ed_nil ⟨by decide, ?_⟩)))
    refine sv_seq (sv_for [3] (ei_range (ed_cons (ev_cb (ed_cons (ev_var rfl (ed_nil (oc_lenT (ed_nil ⟨_, rfl, by omega, by simp; omega, fun k e => ∃ L s3 s4, e = [.d (placD b), .d (placD a), .ml L, s3, s4] ∧ L = pairsD (newTo k b a), ⟨_, _, _, rfl, rfl⟩, ?_, ?_⟩)))))))))
    · rintro k d e hd ⟨_, s3, s4, rfl, rfl⟩
      obtain ⟨rfl, hk⟩ := range_at hd
      rw [List.length_map] at hk
      have hkb : b[k]? = some b[k] := by simp [hk]
      have hka : a[k]? = some a[k] := by simp [show k < a.length by omega]
      generalize b[k] = bl at hkb
      generalize a[k] = al at hka
      refine gt_name (by decide) ?_
      have hlen := newTo_len (b := b) hm k
      have hal : al.length ≤ 1000 := hm al (List.mem_of_getElem? hka)
      refine sv_for [4] (ei_seq ?_)
      repeat walk_at "E"
      refine o2_ixT (plac_at hka) ⟨_, .inr rfl, fun j e => ∃ L s4, e = [.d (placD b), .d (placD a), .ml L, .d (.int (k : Int)), s4] ∧ L = pairsD (newTo k b a ++ rowN k bl (al.take j)), ⟨_, _, rfl, by simp [rowN]⟩, ?_, ?_⟩
      · rintro j d e hd ⟨_, s4, rfl, rfl⟩
        obtain ⟨v, hv, rfl, ht⟩ := nats_get hd
        refine gt_name (by decide) (sv_if ?_)
        repeat walk_at "E"
        refine o2_ixT (plac_at hkb) (o2_inT rfl (flat_nats _) ?_)
        rw [in_nats]
        repeat walk_at "E"
        refine ⟨fun hb => ?_, fun hb => sv_next ⟨_, _, rfl, ?_⟩⟩
        · refine sv_app rfl ?_ ?_
          · rw [pairsD_len, List.length_append]
            have := rowN_len k bl (al.take j)
            have : (al.take j).length ≤ al.length := by rw [List.length_take]; omega
            have : k * 1000 ≤ 90 * 1000 := Nat.mul_le_mul_right _ (by omega)
            omega
          repeat walk_at "E"
          have hvb : v ∉ bl := by simpa using hb
          exact ⟨_, _, rfl, by rw [pairsD_snoc, List.append_assoc, ← rowN_snoc_out hvb, ← ht]⟩
        · have hvb : v ∈ bl := by simpa using hb
          rw [ht, rowN_snoc_in hvb]
      · rintro e ⟨_, s4, rfl, rfl⟩
        exact ⟨_, _, _, rfl, by rw [natsD_len, List.take_length, newTo_succ hkb hka]⟩
    · rintro e ⟨_, s3, s4, rfl, rfl⟩
      walk_at "S"
      repeat walk_at "E"
      have : newTo ((List.range ((((b.map lotD).length : Nat) : Int)).toNat).map fun i => Dt.int ((i : Nat) : Int)).length b a = newN b a := by
        unfold newN
        rw [hl]
        simp
      rw [this]
      exact hP
theorem ok__law_near {P : Program} {w : World} {K : PySem.W.Frag} {mg : Str → Option Value} {base : Heap} {f : Addr} {fd : FuncData} (F : L2.Fun K "_law_near" "_law_near" s__law_near f fd)
    (m_list : mg "list" = none)
    (m_range : mg "range" = none)
    (m_len : mg "len" = none)
    (m_tuple : mg "tuple" = none)
    (c__law_take : Cal P w K mg base 2 "_law_take" P__law_take (Ct K W_take))
    (c__law_lot : Cal P w K mg base 2 "_law_lot" P__law_lot (Ct K W_lot)) :
    FnOk P w K mg base CX0 (3) f fd P__law_near (Ct K W_near) := by
  refine ok_ct F sc__law_near (fun ss P h => ?_) (fun cdv A outer s H E hr => ⟨_, (pss_cons (ps_set (i := 3) sc__law_near.nd rfl (by first | exact Or.inl rfl | exact Or.inr rfl) (pe_callTy (c_lstK K) (by rfl) m_list (by decide +kernel) (pa_cons (pv 1) pa_nil)))
      (pss_cons (ps_for PassesOwn.never rfl (pi_range1 (by rfl) m_range (pa_cons (pe_callC c__law_take hr (by rfl) (pa_cons (pv 0) (pa_cons pe_int pa_nil))) pa_nil)) (pg_name (i := 4) sc__law_near.nd rfl (by first | exact Or.inl rfl | exact Or.inr rfl))
        (pss_one (ps_if (pt_cmpR op_gt (pe_callB (c_lenK K) (by rfl) m_len PySem.boot_len (pa_cons (pv 3) pa_nil)) pe_int (nomark _))
        (pss_one (ps_asg (pe_callC c__law_lot hr (by rfl) (pa_cons (pv 0) (pa_cons (pv 2) pa_nil))) (pg_sub (pv 3) (pe_callC c__law_take hr (by rfl) (pa_cons (pv 0) (pa_cons (pe_callB (c_lenK K) (by rfl) m_len PySem.boot_len (pa_cons (pv 3) pa_nil)) pa_nil))) set_list)))
        pss_nil)))
      (pss_one (ps_ret (pe_callTy (c_tupK K) (by rfl) m_tuple (by decide +kernel) (pa_cons (pv 3) pa_nil)))))), fun J ss P h => ?_⟩)
  · obtain ⟨ls, n, rfl, _⟩ := h
    rfl
  · obtain ⟨ls, n, rfl, h0, hn, hz, hok, hP⟩ := h
    show Sv K J [.hand, .d (placD ls), .d (.int (n : Int)), .no, .no] _ _
    refine sv_seq (sv_asgM (em_list (ev_var rfl ⟨_, .inr rfl, ?_⟩)))
    refine sv_seq (sv_for [4] (ei_range (ed_cons (ev_call (ea_hand rfl (ea_cons (ev_int (ea_nil ⟨_, rfl, by decide, fun x h1 h2 => ed_nil ⟨x, rfl, by omega, by omega,
      fun k e => ∃ ls' s4, e = [.hand, .d (placD ls), .d (.int (n : Int)), .ml (ls'.map lotD), s4] ∧ ls'.length = ls.length ∧ PlacOk n ls', ⟨ls, .no, rfl, rfl, hok⟩, ?_, ?_⟩⟩))))))))
    · rintro k d e _ ⟨ls', s4, rfl, hl, hok'⟩
      refine gt_name (by decide) (sv_if ?_)
      repeat walk_at "E"
      refine ⟨fun hb => ?_, fun hb => sv_next ⟨ls', _, rfl, hl, hok'⟩⟩
      have h3 : 0 < ls'.length := by
        have := of_decide_eq_true hb
        simp at this
        omega
      refine sv_setM rfl ?_
      repeat walk_at "E"
      refine ⟨n, rfl, h0, hn, fun l hl' => ?_⟩
      repeat walk_at "E"
      refine ⟨_, rfl, by simp; omega, fun x h1 h2 => ?_⟩
      rw [List.length_map] at h2
      obtain ⟨j, rfl⟩ : ∃ j : Nat, x = (j : Int) := ⟨x.toNat, by omega⟩
      refine ⟨j, rfl, by simp; omega, ls'.set j l, _, by rw [List.map_set]; rfl, by simp [hl], fun y hy => ?_⟩
      rcases List.mem_or_eq_of_mem_set hy with z | z
      · exact hok' y z
      · subst z; exact hl'
    · rintro e ⟨ls', s4, rfl, hl, hok'⟩
      walk_at "S"
      repeat walk_at "E"
      exact hP ls' hl hok'
theorem ok_law {P : Program} {w : World} {K : PySem.W.Frag} {mg : Str → Option Value} {base : Heap} {f : Addr} {fd : FuncData} (F : L2.Fun K "law" "law" s_law f fd)
    (c__law_draws : Cal P w K mg base 9 "_law_draws" P__law_draws (CtM K W_draws))
    (c__law_take : Cal P w K mg base 9 "_law_take" P__law_take (Ct K W_take))
    (c__law_placing : Cal P w K mg base 9 "_law_placing" P__law_placing (Ct K W_placing))
    (c__law_near : Cal P w K mg base 9 "_law_near" P__law_near (Ct K W_near))
    (c__law_like : Cal P w K mg base 9 "_law_like" P__law_like (Ct K (W_like 8)))
    (c__law_new : Cal P w K mg base 9 "_law_new" P__law_new (Ct K W_new))
    (c_new_copies : Cal P w K mg base 9 "new_copies" P_new_copies (Ct K W_new))
    (ck_new_copies_0 : CalKw P w K mg base 9 "new_copies" P_new_copies ["after", "before"] [1, 0] (Ct K W_new)) :
    FnOk P w K mg base CX0 (10) f fd P_law (spLaw K) := by
  refine ok_lw F sc_law (fun cdv A outer s H E hr => ⟨_, (pss_cons (ps_set (i := 1) sc_law.nd rfl (by first | exact Or.inl rfl | exact Or.inr rfl) (pe_lst (pa_cons (pe_callC c__law_draws hr (by rfl) (pa_cons (pv 0) (pa_cons pe_int pa_nil))) (pa_cons pe_int pa_nil))))
      (pss_cons (ps_set (i := 2) sc_law.nd rfl (by first | exact Or.inl rfl | exact Or.inr rfl) (pe_op op_add pe_int (pe_callC c__law_take hr (by rfl) (pa_cons (pv 1) (pa_cons pe_int pa_nil)))))
      (pss_cons (ps_set (i := 3) sc_law.nd rfl (by first | exact Or.inl rfl | exact Or.inr rfl) (pe_callC c__law_take hr (by rfl) (pa_cons (pv 1) (pa_cons pe_int pa_nil))))
      (pss_cons (ps_set (i := 4) sc_law.nd rfl (by first | exact Or.inl rfl | exact Or.inr rfl) (pe_callC c__law_placing hr (by rfl) (pa_cons (pv 1) (pa_cons (pv 2) (pa_cons (pv 3) pa_nil)))))
      (pss_cons (ps_for PassesOwn.never rfl (pi_seqK K (pe_lst (pa_cons (pe_callC c__law_placing hr (by rfl) (pa_cons (pv 1) (pa_cons (pv 2) (pa_cons (pv 3) pa_nil)))) (pa_cons (pe_callC c__law_near hr (by rfl) (pa_cons (pv 1) (pa_cons (pv 4) (pa_cons (pv 2) pa_nil)))) (pa_cons (pv 4) pa_nil))))) (pg_name (i := 5) sc_law.nd rfl (by first | exact Or.inl rfl | exact Or.inr rfl))
        (pss_one (ps_for PassesOwn.never rfl (pi_seqK K (pe_lst (pa_cons (pe_tup (pa_cons (pv 4) (pa_cons (pv 5) pa_nil))) (pa_cons (pe_tup (pa_cons (pv 5) (pa_cons (pv 4) pa_nil))) (pa_cons (pe_tup (pa_cons (pv 4) (pa_cons (pv 5) pa_nil))) pa_nil))))) (pg_tupK K 2 (by rfl) (pgs_cons (pg_name (i := 6) sc_law.nd rfl (by first | exact Or.inl rfl | exact Or.inr rfl)) (pgs_cons (pg_name (i := 7) sc_law.nd rfl (by first | exact Or.inl rfl | exact Or.inr rfl)) pgs_nil)))
        (pss_one (ps_if (pt_not (pt_val (pe_callC c__law_like hr (by rfl) (pa_cons (pe_callC c_new_copies hr (by rfl) (pa_cons (pv 6) (pa_cons (pv 7) pa_nil))) (pa_cons (pe_callC c__law_new hr (by rfl) (pa_cons (pv 6) (pa_cons (pv 7) pa_nil))) pa_nil)))))
        (pss_one (ps_ret pe_bl))
        pss_nil)))))
      (pss_one (ps_ret (pe_callC c__law_like hr (by rfl) (pa_cons (pe_callKw ck_new_copies_0 hr (by rfl) (pk_cons (pv 4) (pk_cons (pv 4) pk_nil))) (pa_cons (pe_tup pa_nil) pa_nil)))))))))), fun ns hns => ?_⟩)
  show Sv K J0 [.d (.lst (ns.map Dt.int)), .no, .no, .no, .no, .no, .no, .no] _ _
  refine sv_hand (he_start _ 7) (em_call (ea_cons (ev_var rfl (ea_cons (ev_int (ea_nil ⟨ns, 300, rfl, by decide, hns, fun ds => ⟨ds, rfl, fun h d => ?_⟩⟩))))))
  show Sv K (Jh h d) [.d (.lst (ns.map Dt.int)), .hand, .no, .no, .no, .no, .no, .no] _ _
  walk_at "S"
  walk_at "S"
  repeat walk_at "E"
  refine ⟨_, rfl, by decide, fun x hx0 hx => ?_⟩
  repeat walk_at "E"
  obtain ⟨n, hn, hn8⟩ : ∃ n : Nat, 1 + x = ((n + 1 : Nat) : Int) ∧ n < 8 := ⟨x.toNat, by omega, by omega⟩
  rw [hn]
  walk_at "S"
  walk_at "S"
  repeat walk_at "E"
  refine ⟨_, rfl, by decide, fun y hy0 hy => ?_⟩
  obtain ⟨m, rfl⟩ : ∃ m : Nat, y = (m : Int) := ⟨y.toNat, by omega⟩
  walk_at "S"
  walk_at "S"
  repeat walk_at "E"
  refine ⟨n + 1, m, rfl, by omega, by omega, by omega, fun one hl hok => ?_⟩
  show Sv K (Jh h d) [.d (.lst (ns.map Dt.int)), .hand, .d (.int ((n + 1 : Nat) : Int)), .d (.int (m : Int)), .d (placD one), .no, .no, .no] _ _
  have ok2 : ∀ a b : List (List Nat), a.length = m → b.length = m → PlacOk (n + 1) a → PlacOk (n + 1) b → ∀ P : Dt → Prop, (∀ x, Flat 8 x → P x) → W_new [.d (placD b), .d (placD a)] P := fun a b ha hb oa ob P hP => by
    refine ⟨b, a, rfl, by omega, by omega, fun l hl => Nat.le_trans (oa l hl).len (by omega), hP _ ?_⟩
    refine flat_new _ ?_
    have := newTo_len (b := b) (fun l hl => (oa l hl).len) a.length
    have h2 : a.length * (n + 1) ≤ 7 * 9 := Nat.mul_le_mul (by omega) (by omega)
    unfold newN
    omega
  have ok3 : ∀ a b : List (List Nat), a.length = m → b.length = m → PlacOk (n + 1) a → PlacOk (n + 1) b → Flat 8 (newD b a) := fun a b ha hb oa ob => by
    refine flat_new _ ?_
    have := newTo_len (b := b) (fun l hl => (oa l hl).len) a.length
    have h2 : a.length * (n + 1) ≤ 7 * 9 := Nat.mul_le_mul (by omega) (by omega)
    unfold newN
    omega
  have ok4 : ∀ a b : List (List Nat), a.length = m → b.length = m → PlacOk (n + 1) a → PlacOk (n + 1) b → ∀ P : Dt → Prop, P (newD b a) → W_new [.d (placD b), .d (placD a)] P := fun a b ha hb oa ob P hP =>
    ⟨b, a, rfl, by omega, by omega, fun l hl => Nat.le_trans (oa l hl).len (by omega), hP⟩
  refine sv_seq (sv_for [5] (ei_seq (ev_lst ?_)))
  refine ed_cons ?_
  repeat walk_at "E"
  refine ⟨n + 1, m, rfl, by omega, by omega, by omega, fun two hl2 hok2 => ?_⟩
  repeat walk_at "E"
  refine ⟨one, n + 1, rfl, by omega, by omega, by omega, hok, fun three hl3 hok3 => ?_⟩
  repeat walk_at "E"
  refine ⟨_, .inl rfl, fun k e => ∃ s5 s6 s7, e = [.d (.lst (ns.map Dt.int)), .hand, .d (.int ((n + 1 : Nat) : Int)), .d (.int (m : Int)), .d (placD one), s5, s6, s7], ⟨_, _, _, rfl⟩, ?_, ?_⟩
  · rintro k d' e hd ⟨s5, s6, s7, rfl⟩
    obtain ⟨o, rfl, hlo, hoko⟩ : ∃ o, d' = placD o ∧ o.length = m ∧ PlacOk (n + 1) o := by
      have := List.mem_of_getElem? hd
      simp only [List.mem_cons, List.not_mem_nil, or_false] at this
      rcases this with rfl | rfl | rfl
      · exact ⟨two, rfl, hl2, hok2⟩
      · exact ⟨three, rfl, by omega, hok3⟩
      · exact ⟨one, rfl, hl, hok⟩
    refine gt_name (by decide) (sv_for [6, 7] (ei_seq (ev_lst ?_)))
    repeat walk_at "E"
    refine ⟨_, .inl rfl, fun k e => ∃ s6 s7, e = [.d (.lst (ns.map Dt.int)), .hand, .d (.int ((n + 1 : Nat) : Int)), .d (.int (m : Int)), .d (placD one), .d (placD o), s6, s7], ⟨_, _, rfl⟩, ?_, ?_⟩
    · rintro j d2 e hd2 ⟨s6, s7, rfl⟩
      obtain ⟨b, a, rfl, hlb, hla, hokb, hoka⟩ : ∃ b a, d2 = .tup [placD b, placD a] ∧ b.length = m ∧ a.length = m ∧ PlacOk (n + 1) b ∧ PlacOk (n + 1) a := by
        have := List.mem_of_getElem? hd2
        simp only [List.mem_cons, List.not_mem_nil, or_false] at this
        rcases this with rfl | rfl | rfl
        · exact ⟨one, o, rfl, hl, hlo, hok, hoko⟩
        · exact ⟨o, one, rfl, hlo, hl, hoko, hok⟩
        · exact ⟨one, o, rfl, hl, hlo, hok, hoko⟩
      refine gt_tup rfl (gs_cons (gt_name (by decide) (gs_cons (gt_name (by decide) (gs_nil (sv_if ?_))))))
      repeat walk_at "E"
      refine ok4 a b hla hlb hoka hokb _ ?_
      repeat walk_at "E"
      refine ok4 a b hla hlb hoka hokb _ ?_
      repeat walk_at "E"
      refine ⟨_, rfl, ok3 a b hla hlb hoka hokb, _, rfl, ?_⟩
      repeat (first | walk_at "S" | walk_at "E")
      exact ⟨_, _, rfl⟩
    · rintro e ⟨s6, s7, rfl⟩
      exact ⟨_, _, _, rfl⟩
  · rintro e ⟨s5, s6, s7, rfl⟩
    walk_at "S"
    repeat walk_at "E"
    refine ev_callKw (ea_cons (ev_var rfl (ea_cons (ev_var rfl (ea_nil ?_)))))
    refine ok4 one one hl hl hok hok _ ?_
    repeat walk_at "E"
    have e0 : newD one one = .tup [] := by
      unfold newD newN
      suffices h : ∀ k, newTo k one one = [] by rw [h]; rfl
      intro k
      unfold newTo
      rw [List.flatMap_eq_nil_iff]
      intro p _
      unfold rowN
      simp
    rw [e0]
    exact ⟨_, rfl, .tup 7 [] (by simp) (by simp), rfl⟩
theorem all_mk {l : PySem.W.OpenLaw} {w : World} {K : PySem.W.Frag} {h : Heap} {mg : Str → Option Value} {fa f_new_copies f__law_draws f__law_take f__law_like f__law_lot f__law_placing f__law_new f__law_near f_law : Addr} (X : K.In h) (G : h.Ns mainGlobals mg) (hfa : mg "law" = some (.ref fa))
    {od_new_copies an_new_copies od__law_draws an__law_draws od__law_take an__law_take od__law_like an__law_like od__law_lot an__law_lot od__law_placing an__law_placing od__law_new an__law_new od__law_near an__law_near od_law an_law : Option Addr} {sl_new_copies sl__law_draws sl__law_take sl__law_like sl__law_lot sl__law_placing sl__law_new sl__law_near sl_law : Array (Option Value)} {oc_new_copies kV_new_copies dc_new_copies pm_new_copies cd_new_copies ct_new_copies oc__law_draws kV__law_draws dc__law_draws pm__law_draws cd__law_draws ct__law_draws oc__law_take kV__law_take dc__law_take pm__law_take cd__law_take ct__law_take oc__law_like kV__law_like dc__law_like pm__law_like cd__law_like ct__law_like oc__law_lot kV__law_lot dc__law_lot pm__law_lot cd__law_lot ct__law_lot oc__law_placing kV__law_placing dc__law_placing pm__law_placing cd__law_placing ct__law_placing oc__law_new kV__law_new dc__law_new pm__law_new cd__law_new ct__law_new oc__law_near kV__law_near dc__law_near pm__law_near cd__law_near ct__law_near oc_law kV_law dc_law pm_law cd_law ct_law : Value}
    (a_new_copies : PySem.W.nsIn K mainGlobals "new_copies" = some (some (.ref f_new_copies))) (l_new_copies : K.lookup f_new_copies = some ⟨oc_new_copies, od_new_copies, .func (PySem.W.fnOf "new_copies" "new_copies" (defArgs s_new_copies) (defBody s_new_copies) (defScope s_new_copies) .none kV_new_copies dc_new_copies pm_new_copies an_new_copies cd_new_copies ct_new_copies), sl_new_copies⟩) (d_new_copies : PySem.W.codeIn K cd_new_copies "new_copies" = true) (k_new_copies : PySem.W.keepIn K (.ref f_new_copies) = true)
    (a__law_draws : PySem.W.nsIn K mainGlobals "_law_draws" = some (some (.ref f__law_draws))) (l__law_draws : K.lookup f__law_draws = some ⟨oc__law_draws, od__law_draws, .func (PySem.W.fnOf "_law_draws" "_law_draws" (defArgs s__law_draws) (defBody s__law_draws) (defScope s__law_draws) .none kV__law_draws dc__law_draws pm__law_draws an__law_draws cd__law_draws ct__law_draws), sl__law_draws⟩) (d__law_draws : PySem.W.codeIn K cd__law_draws "_law_draws" = true) (k__law_draws : PySem.W.keepIn K (.ref f__law_draws) = true)
    (a__law_take : PySem.W.nsIn K mainGlobals "_law_take" = some (some (.ref f__law_take))) (l__law_take : K.lookup f__law_take = some ⟨oc__law_take, od__law_take, .func (PySem.W.fnOf "_law_take" "_law_take" (defArgs s__law_take) (defBody s__law_take) (defScope s__law_take) .none kV__law_take dc__law_take pm__law_take an__law_take cd__law_take ct__law_take), sl__law_take⟩) (d__law_take : PySem.W.codeIn K cd__law_take "_law_take" = true) (k__law_take : PySem.W.keepIn K (.ref f__law_take) = true)
    (a__law_like : PySem.W.nsIn K mainGlobals "_law_like" = some (some (.ref f__law_like))) (l__law_like : K.lookup f__law_like = some ⟨oc__law_like, od__law_like, .func (PySem.W.fnOf "_law_like" "_law_like" (defArgs s__law_like) (defBody s__law_like) (defScope s__law_like) .none kV__law_like dc__law_like pm__law_like an__law_like cd__law_like ct__law_like), sl__law_like⟩) (d__law_like : PySem.W.codeIn K cd__law_like "_law_like" = true) (k__law_like : PySem.W.keepIn K (.ref f__law_like) = true)
    (a__law_lot : PySem.W.nsIn K mainGlobals "_law_lot" = some (some (.ref f__law_lot))) (l__law_lot : K.lookup f__law_lot = some ⟨oc__law_lot, od__law_lot, .func (PySem.W.fnOf "_law_lot" "_law_lot" (defArgs s__law_lot) (defBody s__law_lot) (defScope s__law_lot) .none kV__law_lot dc__law_lot pm__law_lot an__law_lot cd__law_lot ct__law_lot), sl__law_lot⟩) (d__law_lot : PySem.W.codeIn K cd__law_lot "_law_lot" = true) (k__law_lot : PySem.W.keepIn K (.ref f__law_lot) = true)
    (a__law_placing : PySem.W.nsIn K mainGlobals "_law_placing" = some (some (.ref f__law_placing))) (l__law_placing : K.lookup f__law_placing = some ⟨oc__law_placing, od__law_placing, .func (PySem.W.fnOf "_law_placing" "_law_placing" (defArgs s__law_placing) (defBody s__law_placing) (defScope s__law_placing) .none kV__law_placing dc__law_placing pm__law_placing an__law_placing cd__law_placing ct__law_placing), sl__law_placing⟩) (d__law_placing : PySem.W.codeIn K cd__law_placing "_law_placing" = true) (k__law_placing : PySem.W.keepIn K (.ref f__law_placing) = true)
    (a__law_new : PySem.W.nsIn K mainGlobals "_law_new" = some (some (.ref f__law_new))) (l__law_new : K.lookup f__law_new = some ⟨oc__law_new, od__law_new, .func (PySem.W.fnOf "_law_new" "_law_new" (defArgs s__law_new) (defBody s__law_new) (defScope s__law_new) .none kV__law_new dc__law_new pm__law_new an__law_new cd__law_new ct__law_new), sl__law_new⟩) (d__law_new : PySem.W.codeIn K cd__law_new "_law_new" = true) (k__law_new : PySem.W.keepIn K (.ref f__law_new) = true)
    (a__law_near : PySem.W.nsIn K mainGlobals "_law_near" = some (some (.ref f__law_near))) (l__law_near : K.lookup f__law_near = some ⟨oc__law_near, od__law_near, .func (PySem.W.fnOf "_law_near" "_law_near" (defArgs s__law_near) (defBody s__law_near) (defScope s__law_near) .none kV__law_near dc__law_near pm__law_near an__law_near cd__law_near ct__law_near), sl__law_near⟩) (d__law_near : PySem.W.codeIn K cd__law_near "_law_near" = true) (k__law_near : PySem.W.keepIn K (.ref f__law_near) = true)
    (a_law : PySem.W.nsIn K mainGlobals "law" = some (some (.ref f_law))) (l_law : K.lookup f_law = some ⟨oc_law, od_law, .func (PySem.W.fnOf "law" "law" (defArgs s_law) (defBody s_law) (defScope s_law) .none kV_law dc_law pm_law an_law cd_law ct_law), sl_law⟩) (d_law : PySem.W.codeIn K cd_law "law" = true) (k_law : PySem.W.keepIn K (.ref f_law) = true)
    (z_tuple : PySem.W.nsIn K mainGlobals "tuple" = some none)
    (z_enumerate : PySem.W.nsIn K mainGlobals "enumerate" = some none)
    (z_abs : PySem.W.nsIn K mainGlobals "abs" = some none)
    (z_int : PySem.W.nsIn K mainGlobals "int" = some none)
    (z_range : PySem.W.nsIn K mainGlobals "range" = some none)
    (z_len : PySem.W.nsIn K mainGlobals "len" = some none)
    (z_isinstance : PySem.W.nsIn K mainGlobals "isinstance" = some none)
    (z_list : PySem.W.nsIn K mainGlobals "list" = some none)
    (z_bool : PySem.W.nsIn K mainGlobals "bool" = some none)
    (z_str : PySem.W.nsIn K mainGlobals "str" = some none)
    : ∃ fd : FuncData, (∀ (s : Shared) (v : Value), BindsTo s fd ⟨[v], []⟩ [("script", v)]) ∧ ∀ base : Heap, K.In base → base.Ns mainGlobals mg → FnOk l.prog w K mg base CX0 10 fa fd ["script"] (spLaw K) := by
  have e := hfa.symm.trans (PySem.W.mg_of X G a_law)
  cases e
  have m_tuple := PySem.W.mg_none_of X G z_tuple
  have m_enumerate := PySem.W.mg_none_of X G z_enumerate
  have m_abs := PySem.W.mg_none_of X G z_abs
  have m_int := PySem.W.mg_none_of X G z_int
  have m_range := PySem.W.mg_none_of X G z_range
  have m_len := PySem.W.mg_none_of X G z_len
  have m_isinstance := PySem.W.mg_none_of X G z_isinstance
  have m_list := PySem.W.mg_none_of X G z_list
  have m_bool := PySem.W.mg_none_of X G z_bool
  have m_str := PySem.W.mg_none_of X G z_str
  have F_new_copies := fun_mk (st := s_new_copies) l_new_copies d_new_copies k_new_copies
  have b_new_copies := F_new_copies.binds (ps := P_new_copies) fun _ _ _ _ _ _ us hl => match us, hl with | [_, _], _ => rfl
  have F__law_draws := fun_mk (st := s__law_draws) l__law_draws d__law_draws k__law_draws
  have b__law_draws := F__law_draws.binds (ps := P__law_draws) fun _ _ _ _ _ _ us hl => match us, hl with | [_, _], _ => rfl
  have F__law_take := fun_mk (st := s__law_take) l__law_take d__law_take k__law_take
  have b__law_take := F__law_take.binds (ps := P__law_take) fun _ _ _ _ _ _ us hl => match us, hl with | [_, _], _ => rfl
  have F__law_like := fun_mk (st := s__law_like) l__law_like d__law_like k__law_like
  have b__law_like := F__law_like.binds (ps := P__law_like) fun _ _ _ _ _ _ us hl => match us, hl with | [_, _], _ => rfl
  have F__law_lot := fun_mk (st := s__law_lot) l__law_lot d__law_lot k__law_lot
  have b__law_lot := F__law_lot.binds (ps := P__law_lot) fun _ _ _ _ _ _ us hl => match us, hl with | [_, _], _ => rfl
  have F__law_placing := fun_mk (st := s__law_placing) l__law_placing d__law_placing k__law_placing
  have b__law_placing := F__law_placing.binds (ps := P__law_placing) fun _ _ _ _ _ _ us hl => match us, hl with | [_, _, _], _ => rfl
  have F__law_new := fun_mk (st := s__law_new) l__law_new d__law_new k__law_new
  have b__law_new := F__law_new.binds (ps := P__law_new) fun _ _ _ _ _ _ us hl => match us, hl with | [_, _], _ => rfl
  have F__law_near := fun_mk (st := s__law_near) l__law_near d__law_near k__law_near
  have b__law_near := F__law_near.binds (ps := P__law_near) fun _ _ _ _ _ _ us hl => match us, hl with | [_, _, _], _ => rfl
  have F_law := fun_mk (st := s_law) l_law d_law k_law
  refine ⟨PySem.W.fnOf "law" "law" (defArgs s_law) (defBody s_law) (defScope s_law) .none kV_law dc_law pm_law an_law cd_law ct_law, fun s v => .of_eq rfl, fun base _ _ => ?_⟩
  have c_new_copies : ∀ base : Heap, Cal l.prog w K mg base 1 "new_copies" P_new_copies (Ct K W_new) := fun base => ⟨_, _, ok_new_copies F_new_copies m_tuple m_enumerate, PySem.W.mg_of X G a_new_copies, k_new_copies, b_new_copies⟩
  have c__law_draws : ∀ base : Heap, Cal l.prog w K mg base 1 "_law_draws" P__law_draws (CtM K W_draws) := fun base => ⟨_, _, ok__law_draws F__law_draws m_abs m_int m_range m_len, PySem.W.mg_of X G a__law_draws, k__law_draws, b__law_draws⟩
  have c__law_take : ∀ base : Heap, Cal l.prog w K mg base 1 "_law_take" P__law_take (Ct K W_take) := fun base => ⟨_, _, ok__law_take F__law_take m_len m_int, PySem.W.mg_of X G a__law_take, k__law_take, b__law_take⟩
  have c__law_like : ∀ base : Heap, Cal l.prog w K mg base 9 "_law_like" P__law_like (Ct K (W_like 8)) := fun base => ⟨_, _, rec_all W_like (PySem.W.mg_of X G a__law_like) k__law_like b__law_like (fun n c => ok__law_like F__law_like n m_isinstance m_list m_tuple m_len m_range m_bool m_str m_int c) 8, PySem.W.mg_of X G a__law_like, k__law_like, b__law_like⟩
  have c__law_lot : ∀ base : Heap, Cal l.prog w K mg base 2 "_law_lot" P__law_lot (Ct K W_lot) := fun base => ⟨_, _, ok__law_lot F__law_lot m_tuple m_range m_len ((c__law_take base).mono (by decide)), PySem.W.mg_of X G a__law_lot, k__law_lot, b__law_lot⟩
  have c__law_placing : ∀ base : Heap, Cal l.prog w K mg base 3 "_law_placing" P__law_placing (Ct K W_placing) := fun base => ⟨_, _, ok__law_placing F__law_placing m_tuple m_range ((c__law_lot base).mono (by decide)), PySem.W.mg_of X G a__law_placing, k__law_placing, b__law_placing⟩
  have c__law_new : ∀ base : Heap, Cal l.prog w K mg base 1 "_law_new" P__law_new (Ct K W_new) := fun base => ⟨_, _, ok__law_new F__law_new m_range m_len m_int m_tuple, PySem.W.mg_of X G a__law_new, k__law_new, b__law_new⟩
  have c__law_near : ∀ base : Heap, Cal l.prog w K mg base 3 "_law_near" P__law_near (Ct K W_near) := fun base => ⟨_, _, ok__law_near F__law_near m_list m_range m_len m_tuple ((c__law_take base).mono (by decide)) ((c__law_lot base).mono (by decide)), PySem.W.mg_of X G a__law_near, k__law_near, b__law_near⟩
  have ck_new_copies_0 : ∀ base : Heap, CalKw l.prog w K mg base 9 "new_copies" P_new_copies ["after", "before"] [1, 0] (Ct K W_new) := fun base => ⟨_, _, (ok_new_copies F_new_copies m_tuple m_enumerate).mono (by decide), PySem.W.mg_of X G a_new_copies, k_new_copies, kb2 rfl (by decide) fun _ _ => rfl⟩
  exact ok_law F_law ((c__law_draws base).mono (by decide)) ((c__law_take base).mono (by decide)) ((c__law_placing base).mono (by decide)) ((c__law_near base).mono (by decide)) ((c__law_like base).mono (by decide)) ((c__law_new base).mono (by decide)) ((c_new_copies base).mono (by decide)) (ck_new_copies_0 base)
end Mv
open PySem PySem.W PyProof.Rows
set_option maxRecDepth 100000 in
set_option maxHeartbeats 0 in
theorem PySem.Challenge.cw_movedwhole_k04_new_copies_holds : PySem.Challenge.rw_movedwhole_k04_new_copies.Holds := by
  w_on; o_law; k_head; (case hw => w_witness2)
  k_fill
  refine L2.walk_of (l := PySem.Challenge.rw_movedwhole_k04_new_copies) (n := 63) (k := 10) (x := "script") (CX := fun _ => L2.CX0) (sp := fun w => Mv.spLaw _) rfl (by decide) rfl ⟨rfl, by decide, by decide⟩ (fun w h Y => PySem.W.kIn_of Y) ?F (fun _ _ a ns hl _ hS => Mv.spLaw_start hS hl) (fun _ _ _ _ _ h => h)
  case F =>
    intro w mg fa h KX G hmg
    refine' Mv.all_mk KX G hmg ?a_new_copies ?l_new_copies ?d_new_copies ?k_new_copies ?a__law_draws ?l__law_draws ?d__law_draws ?k__law_draws ?a__law_take ?l__law_take ?d__law_take ?k__law_take ?a__law_like ?l__law_like ?d__law_like ?k__law_like ?a__law_lot ?l__law_lot ?d__law_lot ?k__law_lot ?a__law_placing ?l__law_placing ?d__law_placing ?k__law_placing ?a__law_new ?l__law_new ?d__law_new ?k__law_new ?a__law_near ?l__law_near ?d__law_near ?k__law_near ?a_law ?l_law ?d_law ?k_law ?z_tuple ?z_enumerate ?z_abs ?z_int ?z_range ?z_len ?z_isinstance ?z_list ?z_bool ?z_str
    (case a_new_copies => k_is)
    (case l_new_copies => k_is)
    (case d_new_copies => k_is)
    (case k_new_copies => k_is)
    (case a__law_draws => k_is)
    (case l__law_draws => k_is)
    (case d__law_draws => k_is)
    (case k__law_draws => k_is)
    (case a__law_take => k_is)
    (case l__law_take => k_is)
    (case d__law_take => k_is)
    (case k__law_take => k_is)
    (case a__law_like => k_is)
    (case l__law_like => k_is)
    (case d__law_like => k_is)
    (case k__law_like => k_is)
    (case a__law_lot => k_is)
    (case l__law_lot => k_is)
    (case d__law_lot => k_is)
    (case k__law_lot => k_is)
    (case a__law_placing => k_is)
    (case l__law_placing => k_is)
    (case d__law_placing => k_is)
    (case k__law_placing => k_is)
    (case a__law_new => k_is)
    (case l__law_new => k_is)
    (case d__law_new => k_is)
    (case k__law_new => k_is)
    (case a__law_near => k_is)
    (case l__law_near => k_is)
    (case d__law_near => k_is)
    (case k__law_near => k_is)
    (case a_law => k_is)
    (case l_law => k_is)
    (case d_law => k_is)
    (case k_law => k_is)
    (case z_tuple => k_is)
    (case z_enumerate => k_is)
    (case z_abs => k_is)
    (case z_int => k_is)
    (case z_range => k_is)
    (case z_len => k_is)
    (case z_isinstance => k_is)
    (case z_list => k_is)
    (case z_bool => k_is)
    (case z_str => k_is)
