import PyProof.Rows.All
import Wide.All
import OpenK.AllK
import Wide.FinOn
import KE.KStateDown
import HandS.ForMost
import HandS.Walk
import HandS.Wide
import HandS.WideBits
import KE.GoesEnum
import HandS.Codes
import HandS.Style
import HandS.Flow
import HandS.IsInst
import HandS.HeadHook2
import HandS.EndBits
import HandS.DeepEq
import HandS.Zip
import HandS.TupLe
import HandS.ForExc
import PySem.Challenge.RW_seenmarks_k06_resources
import HandS.ExcInit
import HandS.ExcIs
import HandS.ExcValue
import HandS.MakeKwOnly
import HandS.More
import HandS.Iter
import HandS.OwnEq
import OpenK.KMeth
import KE.KOpsOwn
import PyProof.EqKinds
import PyProof.InstNe
import PyProof.Rows.SortStr
import HandS.Set
import HandS.SetKeys
import HandS.Strs
import HandS.TupSets
import HandS.List
import HandS.DictComp
import HandS.Small
import HandS.StrMore
import HandS.Text
import HandS.HeadHook4
import PyProof.WalksMore
import HandS.Defaults
import HandS.Deep
import KE.KUnpackStar
import HandS.TryOnly
import PyProof.P3Eq
import HandS.Exc
import HandS.TryMany
import HandS.ExcField
import HandS.Property
import HandS.Lambda
import HandS.EndTab
import HandS.HeadEnd
import HandS.Head0
import HandS.Head1
import HandS.Head2
import HandS.HeadHook1
import HandS.HeadHook3
import HandS.HeadNt
set_option Elab.async false
set_option linter.all false
set_option maxRecDepth 100000
set_option maxHeartbeats 0
/-! enumerate over a tuple -/
namespace PySem
theorem meets_enum1 {v : Value} {o : Obj} {H : Heap → Prop} (B : Begins v o H) :
    Meets (Builtin.«enumerate.__new__» ⟨[.type "enumerate", v], []⟩) (fun _ R s => H s.heap ∧
      R (.ok (.ret (.ref (s.heap.push o).objs.size))) { s with heap := (s.heap.push o).push { cls := .type "enumerate", data := .fields #[.none, .bool false, .ref s.heap.objs.size, rawInt 0, .none, .none] } }) :=
  .of_wp fun prog w A R s h => by
    obtain ⟨hp, g, d, tk, os⟩ := s; obtain ⟨h1, h⟩ := h
    have hsub := sub_enumerate
    have q1 : ∀ {A' : Around} {E : Value → Shared → Prop} {Q : Value → Shared → Prop}, Q (.ref hp.objs.size) ⟨hp.push o, g, d, tk, os⟩ → wpAny (model prog w) A' (pyIter v) Q E ⟨hp, g, d, tk, os⟩ :=
      fun q => B.iter prog w _ _ ⟨hp, g, d, tk, os⟩ _ h1 q
    wp_walk using q1
    refine wpAny_stack_any fun st => wpAny_pure ?_
    split
    · rename_i c _ _ _ _ _
      cases (c == Value.type "enumerate")
      · wp_walk using q1
        exact ⟨_, rfl, h⟩
      · wp_walk using q1
        exact ⟨_, rfl, h⟩
    · wp_walk using q1
      exact ⟨_, rfl, h⟩
theorem enum1_begins {prog : Program} {w : World} {A : Around} {E : Value → Shared → Prop} {s : Shared} {v : Value} {o : Obj} {H : Heap → Prop} {Q : Value → Shared → Prop} (B : Begins v o H) (h1 : H s.heap)
    (h : ∀ h', IsEnum h' (s.heap.objs.size + 1) s.heap.objs.size 0 .none → h'.get? s.heap.objs.size = some o → h'.objs.size = s.heap.objs.size + 2 →
      (∀ b o, s.heap.get? b = some o → h'.get? b = some o) → Q (.ref (s.heap.objs.size + 1)) { s with heap := h' }) :
    wpAny (model prog w) A (call (.type "enumerate") [v]) Q E s := by
  refine callType_new F.called_enumerate (by decide) (F.typeCall_enumerate_1 _) (F.newCall_enumerate_1 _) (fun obj => F.args_object_init_2 obj _) F.entry_enumerate_new
    (meets_enum1 B) ⟨h1, ?_⟩
  have hz : (s.heap.push o).objs.size = s.heap.objs.size + 1 := Heap.size_push ..
  show _ ∧ _
  rw [hz]
  have he : IsEnum ((s.heap.push o).push { cls := .type "enumerate", data := .fields #[.none, .bool false, .ref s.heap.objs.size, rawInt 0, .none, .none] }) (s.heap.objs.size + 1) s.heap.objs.size 0 .none := by
    have := Heap.get?_push_size (s.heap.push o) (o := { cls := .type "enumerate", data := .fields #[.none, .bool false, .ref s.heap.objs.size, rawInt 0, .none, .none] }) rfl
    rw [hz] at this; exact this
  refine ⟨⟨_, he, rfl⟩, h _ he (Heap.get?_push_of_some _ (Heap.get?_push_size _ B.free)) (by rw [Heap.size_push, hz]) fun b o x => Heap.get?_push_of_some _ (Heap.get?_push_of_some _ x)⟩
end PySem
namespace L2
open PySem PySem.Spec PyProof.Rows
/-- the tuple at a, each item in a new pair -/
def IteT (K : PySem.W.Frag) (a : Addr) : It :=
  ⟨fun i H => ∃ (xs : List V) (x : V), SqT K H a xs ∧ xs[i]? = some x, fun i H v H' => ∃ T x, v = .ref T ∧ H T = none ∧ H' = upd H T (.tup [.int (i : Nat), x]) ∧ ∀ xs, SqT K H a xs → xs[i]? = some x, fun i H => ∃ xs : List V, SqT K H a xs ∧ xs.length = i⟩
theorem turn_enumT {P : Program} {w : World} {K : PySem.W.Frag} {elts : List Expr} {kk : Nat} {tpos : Pos} (a e it : Addr) :
    Turn P w K (.Tuple elts kk tpos) (IteT K a) [e, it] e (fun i h => (∃ old, IsEnum h e it ((i : Nat) : Int) old) ∧ h.IsTupleIter it a i ∧ e ≠ it) where
  mem := by simp
  obj := fun i h st b hb => by
    obtain ⟨⟨old, he⟩, ⟨o, ho, hc, hd⟩, _⟩ := st
    have e' : b = e ∨ b = it := by simpa using hb
    rcases e' with z | z
    · rw [z]; exact ⟨_, he, fun v q => nomatch q⟩
    · rw [z]; exact ⟨o, ho, fun v q => by rw [hd] at q; cases q⟩
  keep := fun i h h' st k => let ⟨⟨old, he⟩, hi, hne⟩ := st; ⟨⟨old, k e (by simp) _ he⟩, hi.at fun o q => k it (by simp) o q, hne⟩
  item := by
    intro X hP hw hK hc i pins s σ H E I hf st hg
    subst hP hw hK
    obtain ⟨⟨old, he⟩, hit, hne⟩ := st
    obtain ⟨xs, x, hq, hx⟩ := hg
    obtain ⟨its, rv, p, hz⟩ := I.tuple hq
    obtain ⟨u, hu, ru⟩ := rv.get hx
    have hel : e < s.heap.objs.size := Heap.lt_size he
    have hil : it < s.heap.objs.size := by obtain ⟨_, q, _⟩ := hit; exact Heap.lt_size q
    have hp : s.heap.IsTuple a its.toArray := p
    have hia : a ≠ it := by
      rintro rfl
      obtain ⟨o1, q1, c1, d1⟩ := hit
      obtain ⟨o2, q2, c2, _⟩ := hp
      rw [q1] at q2
      cases q2
      rw [c1] at c2
      exact absurd c2 (by decide)
    have hea : a ≠ e := by
      rintro rfl
      obtain ⟨o2, q2, c2, _⟩ := hp
      rw [he] at q2
      cases q2
      have c3 : Value.type "enumerate" = Value.type "tuple" := c2
      exact absurd c3 (by decide)
    have D : Draws X.prog X.w X.A.in1 it [it, a] its.toArray.size (fun i v => its.toArray[i]? = some v) (fun i h => h.IsTupleIter it a i ∧ h.IsTuple a its.toArray) := Draws.tuple (A := X.A.in1) (show X.A.in1.handled = none from I.ok.hd hc) it a hia _
    have hlt : i < its.toArray.size := by
      have := (List.getElem?_eq_some_iff.mp hu).1
      simpa using this
    refine wpAny_pyNext_enum_itemD D he ⟨hit, hp⟩ hlt hne (by simp [hne, Ne.symm hea]) fun x' h' tk hP ho hst hT hsz hk => ?_
    have ex : x' = u := by
      have q : its.toArray[i]? = some u := by simpa using hu
      rw [q] at hP
      exact (Option.some.inj hP).symm
    subst ex
    refine ⟨_, rfl, wpAny_letOwnedTupleGo_enum (s := { s with heap := h', toks := tk + 1 }) ho fun h'' he' sb => ?_⟩
    have hT2 : h''.get? s.heap.objs.size = some { cls := .type "tuple", data := .seq #[.int i tk, x'] } := (sb.2 _ (Nat.ne_of_gt hel)).trans hT
    have new : ObjOk X.prog X.w (upd H s.heap.objs.size (.tup [.int (i : Nat), x])) h'' s.heap.objs.size (.tup [.int (i : Nat), x]) :=
      ⟨by show 2 ≤ sizeLine; decide, [.int i tk, x'], .cons ⟨_, rfl⟩ (.cons ru .nil), ⟨_, hT2, rfl, _, rfl⟩⟩
    have I1 : Inv X pins σ (upd H s.heap.objs.size (.tup [.int (i : Nat), x])) { s with heap := h'', toks := tk + 1 } :=
      I.turnedNew (ch := [e, it]) (fun b ob hb q => (sb.2 b (fun z => hb (by simp [z]))).trans (hk b ob (fun z => hb (by simp [z])) (fun z => hb (by simp [z])) q)) hf (Nat.le_refl _) new
    refine ⟨.ref s.heap.objs.size, _, I1, rfl, ⟨_, x, rfl, I.hok.fresh (Nat.le_refl _), rfl, fun ys hy => by rw [I.tuple_inj hy hq]; exact hx⟩, ⟨⟨x', ?_⟩, hst.1.at fun o q => (sb.2 it (Ne.symm hne)).trans q, hne⟩, fun b hb => ?_⟩
    · have e1 : ((i + 1 : Nat) : Int) = (i : Int) + 1 := by omega
      rw [e1]; exact he'
    · have hb' : b < s.heap.objs.size := by
        have e' : b = e ∨ b = it := by simpa using hb
        rcases e' with z | z
        · rw [z]; exact hel
        · rw [z]; exact hil
      rw [upd_ne (Nat.ne_of_lt hb')]
      exact (hf b hb).1
  done := by
    intro X hP hw hK hc i pins s σ H E I hf st hg
    subst hP hw hK
    obtain ⟨⟨old, he⟩, hit, hne⟩ := st
    obtain ⟨xs, hq, hx⟩ := hg
    obtain ⟨its, rv, p, hz⟩ := I.tuple hq
    obtain ⟨f0, f1, f2, f3, f4, f5⟩ := hf it (by simp)
    have hl := rv.length
    have hp : s.heap.IsTuple a its.toArray := p
    have hia : a ≠ it := by
      rintro rfl
      obtain ⟨o1, q1, c1, d1⟩ := hit
      obtain ⟨o2, q2, c2, _⟩ := hp
      rw [q1] at q2
      cases q2
      rw [c1] at c2
      exact absurd c2 (by decide)
    have D : Draws X.prog X.w X.A.in1 it [it, a] its.toArray.size (fun i v => its.toArray[i]? = some v) (fun i h => h.IsTupleIter it a i ∧ h.IsTuple a its.toArray) := Draws.tuple (A := X.A.in1) (show X.A.in1.handled = none from I.ok.hd hc) it a hia _
    have ei : its.toArray.size = i := by simp; omega
    exact wpAny_pyNext_enum_endD D he ⟨by rw [ei]; exact hit, hp⟩ fun h' eb => ⟨rfl, I.turned (t' := s.toks) (fun b o hb q => eb b o hb q) f0 f1 f3 f4 f5⟩
  self := fun A i s Q E st h => let ⟨⟨_, he⟩, _⟩ := st; wpAny_pyIter_enum he h
def iEnumT (K : PySem.W.Frag) (ta : TA) : TI := fun σ H R => ta σ H fun vs H1 => ∃ a xs, vs = [.ref a] ∧ SqT K H1 a xs ∧ R (IteT K a) H1
theorem pi_enumT {X : Cx} {e : Expr} {ta : TA} {p pos tpos : Pos} {elts : List Expr} {kk : Nat} (hg : Gl X "enumerate") (hm : X.mg "enumerate" = none) (ha : PA X [e] ta) (hs : starEach [e] X.env = [(false, eval e X.env)] := by rfl) :
    PI X (.Tuple elts kk tpos) (.Call (.Name "enumerate" p) [e] [] pos) (iEnumT X.K ta) := by
  refine ⟨fun pins s σ H R I h => ?_⟩
  refine Call_ (ld_blt I hg hm boot_enumerate (PyProof.Rows.callWith_type1 (thn (ha.run pos pins s σ H _ I h) fun us s1 ⟨vs, H1, I1, r1, q1⟩ => ?_) hs rfl))
  obtain ⟨a, xs, ex, hq, q⟩ := q1
  subst ex
  cases r1 with
  | cons r rr =>
    cases rr
    cases r
    obtain ⟨its, rv, p', hz⟩ := I1.tuple hq
    refine enum1_begins (begins_tuple a its.toArray) p' fun h' he hit hsz hk => wpAny_pyIter_enum he ?_
    have I2 : Inv X pins σ H1 { s1 with heap := h' } := I1.kept (t' := s1.toks) hk
    refine ⟨s1.heap.objs.size + 1, [s1.heap.objs.size + 1, s1.heap.objs.size], _, _, H1, rfl, I2, turn_enumT a (s1.heap.objs.size + 1) s1.heap.objs.size, ⟨⟨.none, he⟩, ⟨_, hit, rfl, rfl⟩, Nat.succ_ne_self _⟩, fun b hb => ?_, q⟩
    have e' : b = s1.heap.objs.size + 1 ∨ b = s1.heap.objs.size := by simpa using hb
    have hle : s1.heap.objs.size ≤ b := by
      rcases e' with z | z
      · rw [z]; exact Nat.le_add_right _ _
      · rw [z]; exact Nat.le_refl _
    exact I1.fpOk hle (I1.hok.fresh hle)
theorem walk_enumT {K : PySem.W.Frag} {a : Addr} {xs : List V} : Walk (IteT K a) xs.length (fun H => SqT K H a xs) (YPair (fun i => some (.int (i : Nat))) (fun i => xs[i]?)) := by
  refine ⟨fun i _ hi q => ⟨xs, xs[i], q, by simp [hi]⟩, fun _ q => ⟨xs, q, rfl⟩, fun i H v H' _ q y => ?_⟩
  obtain ⟨T, x, h1, h2, h3, h4⟩ := y
  exact ⟨T, .int (i : Nat), x, h1, h2, h3, rfl, h4 xs q⟩
end L2
namespace Sm
open PySem PySem.Spec PyProof.Rows L2
/-- all but p stands as it stood -/
def Off (p : Addr) (H H' : Hp) : Prop := ∀ b o, b ≠ p → H b = some o → H' b = some o
theorem Off.refl {p : Addr} {H : Hp} : Off p H H := fun _ _ _ h => h
theorem Off.trans {p : Addr} {H H1 H2 : Hp} (a : Off p H H1) (b : Off p H1 H2) : Off p H H2 := fun c o n h => b c o n (a c o n h)
theorem Off.new {p q : Addr} {H : Hp} {o : HO} (h : H q = none) : Off p H (upd H q o) := fun b u _ e => by
  rw [upd_ne (ne_of_none e h)]
  exact e
theorem Off.put {p : Addr} {H : Hp} {o : HO} : Off p H (upd H p o) := fun b u n e => by
  rw [upd_ne n]
  exact e
theorem Off.seq {K : PySem.W.Frag} {p a : Addr} {H H' : Hp} {xs : List V} (e : Off p H H') (n : a ≠ p) (h : SqL K H a xs) : SqL K H' a xs := by
  rcases h with (h | ⟨o, h⟩) | h
  · exact .inl (.inl (e _ _ n h))
  · exact .inl (.inr ⟨o, e _ _ n h⟩)
  · exact .inr h
/-- what is new behind was new ahead, but for p -/
theorem Off.free {p a : Addr} {H H' : Hp} (e : Off p H H') (n : a ≠ p) (h : H' a = none) : H a = none := by
  cases q : H a with
  | none => rfl
  | some o =>
    rw [e a o n q] at h
    cases h
/-- the state for draws at p: its cells, the next one, what is left, whether it is mixed -/
structure DrAt (H : Hp) (p c : Addr) (ns : List Int) (n l : Int) (m : Bool) : Prop where
  st : H p = some (.lst [.ref c, .int n, .int l, .bl m])
  ce : H c = some (.lst (ns.map V.int))
  sz : ns.length ≤ 63
def Dr (H : Hp) (p c : Addr) : Prop := ∃ (ns : List Int) (n l : Int) (m : Bool), DrAt H p c ns n l m
theorem DrAt.ne {H : Hp} {p c : Addr} {ns : List Int} {n l : Int} {m : Bool} (d : DrAt H p c ns n l m) : c ≠ p := by
  rintro rfl
  have h := d.ce
  rw [d.st] at h
  have h2 := HO.lst.inj (Option.some.inj h)
  cases ns with
  | nil => cases h2
  | cons a r => cases h2
theorem Dr.some {H : Hp} {p c : Addr} (d : Dr H p c) : ∃ o, H p = some o := let ⟨_, _, _, _, d⟩ := d; ⟨_, d.st⟩
theorem Dr.ne {H : Hp} {p c a : Addr} (d : Dr H p c) (h : H a = none) : a ≠ p := by
  rintro rfl
  obtain ⟨o, e⟩ := d.some
  rw [e] at h
  cases h
theorem Dr.nec {H : Hp} {p c a : Addr} (d : Dr H p c) (h : H a = none) : a ≠ c := by
  rintro rfl
  obtain ⟨_, _, _, _, D⟩ := d
  rw [D.ce] at h
  cases h
theorem Dr.pc {H : Hp} {p c : Addr} (d : Dr H p c) : c ≠ p := by
  obtain ⟨_, _, _, _, D⟩ := d
  rintro rfl
  have h := D.ce
  rw [D.st] at h
  have h2 := HO.lst.inj (Option.some.inj h)
  rename_i ns _ _ _
  cases ns with
  | nil => cases h2
  | cons a r => cases h2
/-- another object is laid or changed -/
theorem DrAt.off {H H' : Hp} {p c q : Addr} {ns : List Int} {n l : Int} {m : Bool} (d : DrAt H p c ns n l m) (e : Off q H H') (hp : p ≠ q) (hc : c ≠ q) : DrAt H' p c ns n l m := ⟨e _ _ hp d.st, e _ _ hc d.ce, d.sz⟩
theorem DrAt.new {H : Hp} {p c q : Addr} {ns : List Int} {n l : Int} {m : Bool} {o : HO} (d : DrAt H p c ns n l m) (h : H q = none) : DrAt (upd H q o) p c ns n l m :=
  ⟨by rw [upd_ne (ne_of_none d.st h)]; exact d.st, by rw [upd_ne (ne_of_none d.ce h)]; exact d.ce, d.sz⟩
theorem DrAt.put {H : Hp} {p c : Addr} {ns : List Int} {n l n' l' : Int} {m m' : Bool} (d : DrAt H p c ns n l m) : DrAt (upd H p (.lst [.ref c, .int n', .int l', .bl m'])) p c ns n' l' m' :=
  ⟨upd_same, by rw [upd_ne d.ne]; exact d.ce, d.sz⟩
theorem Dr.off {H H' : Hp} {p c q : Addr} (d : Dr H p c) (e : Off q H H') (hp : p ≠ q) (hc : c ≠ q) : Dr H' p c := let ⟨ns, n, l, m, D⟩ := d; ⟨ns, n, l, m, D.off e hp hc⟩
theorem Dr.new {H : Hp} {p c q : Addr} {o : HO} (d : Dr H p c) (h : H q = none) : Dr (upd H q o) p c := let ⟨ns, n, l, m, D⟩ := d; ⟨ns, n, l, m, D.new h⟩
theorem Dr.same {H H' : Hp} {p c : Addr} (d : Dr H p c) (e : Same H H') : Dr H' p c := let ⟨ns, n, l, m, D⟩ := d; ⟨ns, n, l, m, ⟨e _ _ D.st, e _ _ D.ce, D.sz⟩⟩
/-- a tracked object but p changes -/
theorem Dr.upd {H : Hp} {p c q : Addr} {o : HO} (d : Dr H p c) (hp : q ≠ p) (hc : q ≠ c) : Dr (upd H q o) p c := d.off (Off.put (p := q)) (Ne.symm hp) (Ne.symm hc)
theorem Same.off {p : Addr} {H H' : Hp} (e : Same H H') : Off p H H' := fun b o _ h => e b o h
/-- the promises -/
def spFresh (K : PySem.W.Frag) : Sp := fun vs H Q _ => ∃ (a : Addr) (ns : List Int), vs = [.ref a] ∧ SqL K H a (ns.map V.int) ∧ ns.length ≤ 63 ∧ ∀ p c H', H p = none → H c = none → Same H H' → Dr H' p c → Q (.ref p) H'
def spFill : Sp := fun vs H Q _ => ∃ p c : Addr, vs = [.ref p] ∧ Dr H p c ∧ ∀ H', Off p H H' → Dr H' p c → Q .non H'
def spTake : Sp := fun vs H Q _ => ∃ (p c : Addr) (k : Int), vs = [.ref p, .int k] ∧ Dr H p c ∧ 0 < k ∧ k.natAbs.log2 < 8000 ∧ ∀ (d : Int) H', 0 ≤ d → d < k → Off p H H' → Dr H' p c → Q (.int d) H'
def spOne (K : PySem.W.Frag) : Sp := fun vs H Q _ => ∃ (p c a : Addr) (xs : List V), vs = [.ref p, .ref a] ∧ Dr H p c ∧ SqL K H a xs ∧ a ≠ p ∧ xs ≠ [] ∧ xs.length ≤ 100000 ∧ ∀ (x : V) H', x ∈ xs → Off p H H' → Dr H' p c → Q x H'
/-- a statement, then the rest, with a word of one's own between them -/
def tCut (t u : TS) : TS := fun D σ H => ∃ Mid : L2.St → Hp → Prop, t { D with nx := Mid } σ H ∧ ∀ σ' H', Mid σ' H' → u D σ' H'
theorem pss_cut {X : Cx} {st : Stmt} {rest : List Stmt} {t u : TS} (h1 : PS X st t) (h2 : PSs X rest u) : PSs X (st :: rest) (tCut t u) := by
  refine ⟨fun pins s σ H D I h => ?_⟩
  obtain ⟨Mid, hm, hu⟩ := h
  refine wpAny_execs_cons (thn (h1.run pins s σ H { D with nx := Mid } I hm) fun f s1 q => ?_)
  cases f with
  | next =>
    obtain ⟨σ', H', I', q⟩ := q
    exact h2.run pins s1 σ' H' D I' (hu σ' H' q)
  | ret v => exact q
  | brk => exact q
  | cont => exact q
/-- a def of the module by its name, with what it promises -/
structure Cal (P : Program) (w : World) (K : PySem.W.Frag) (mg : Str → Option Value) (base : Heap) (CX : CXT) (k : Nat) (x : Str) (sp : Sp) : Prop where
  ex : ∃ (f : Addr) (fd : FuncData) (ps : List Str), FnOk P w K mg base CX k f fd ps sp ∧ mg x = some (.ref f) ∧ PySem.W.keepIn K (.ref f) = true ∧ Binds K fd ps []
theorem Cal.imp {P : Program} {w : World} {K : PySem.W.Frag} {mg : Str → Option Value} {base : Heap} {CX : CXT} {k : Nat} {x : Str} {sp sp' : Sp} (c : Cal P w K mg base CX k x sp) (h : ∀ vs H Q E, sp' vs H Q E → sp vs H Q E) : Cal P w K mg base CX k x sp' := by
  obtain ⟨f, fd, ps, F, a, b, d⟩ := c.ex
  exact ⟨f, fd, ps, F.imp h, a, b, d⟩
theorem pe_c {X : Cx} {j k : Nat} {x : Str} {sp : Sp} {p pos : Pos} {e : Expr} {es : List Expr} {t : TA} (c : Cal X.prog X.w X.K X.mg X.base CX0 k x sp) (hr : Room j X.A) (hk : k ≤ j) (hg : Gl X x) (ha : PA X (e :: es) t)
    (hdb : (x == ("__debug__" : Str)) = false := by decide) (he : starEach (e :: es) X.env = (false, eval e X.env) :: starEach es X.env := by rfl) (hpl : (backTo pos (starEach es X.env)).any (·.1) = false := by rfl) :
    PE X (.Call (.Name x p) (e :: es) [] pos) (tCall sp [] E0 t) := by
  obtain ⟨f, fd, ps, F, hm, kp, b⟩ := c.ex
  exact pe_call F (hr.mono hk) hg hm kp b .nil pass0 ha hdb he hpl
/-- a test that answers something and leaves the heap -/
def Any (t : TT) (σ : L2.St) (H : Hp) : Prop := ∀ Q : Bool → Hp → Prop, (∀ b, Q b H) → t σ H Q
theorem any_or {t u : TT} {σ : L2.St} {H : Hp} (h1 : Any t σ H) (h2 : Any u σ H) : Any (tOr t u) σ H := fun Q q => h1 _ fun b => by
  cases b with
  | true => exact iteT (q true)
  | false => exact iteF (h2 Q q)
theorem any_and {t u : TT} {σ : L2.St} {H : Hp} (h1 : Any t σ H) (h2 : Any u σ H) : Any (tAnd t u) σ H := fun Q q => h1 _ fun b => by
  cases b with
  | true => exact iteT (h2 Q q)
  | false => exact iteF (q false)
theorem fmod_small {a q : Int} (h : 0 < q) (h2 : q < 2 ^ 31) : (a.fmod q).natAbs < 2 ^ 64 := by
  have h3 := Int.fmod_nonneg_of_pos a h
  have h4 := Int.fmod_lt_of_pos a h
  omega

theorem log2_lt_of {k : Int} {n : Nat} (h0 : 0 < k) (hn : 0 < n) (h : k < 2 ^ n) : k.natAbs.log2 < n := by
  refine PySem.Flt.log2_lt_of hn ?_
  have e : ((k.natAbs : Nat) : Int) = k := Int.natAbs_of_nonneg (Int.le_of_lt h0)
  have e2 : ((2 ^ n : Nat) : Int) = 2 ^ n := by simp
  omega
end Sm
namespace Sm
open PySem PySem.Spec PyProof.Rows L2
section
variable {X : Cx}
theorem op_orR {f : Value → Value → Sem Value} {r r' : R2} (h : OpR X f r) (h' : OpR X f r') : OpR X f (fun x y H Q => r x y H Q ∨ r' x y H Q) := fun pins s σ H x y v u Q I rx ry q => q.elim (h pins s σ H x y v u Q I rx ry) (h' pins s σ H x y v u Q I rx ry)
theorem call_or {f : Value} {r r' : List V → Hp → VK → Prop} (h : CallR X f r) (h' : CallR X f r') : CallR X f (fun xs H Q => r xs H Q ∨ r' xs H Q) := fun pins s σ H xs us Q I rr q => q.elim (h pins s σ H xs us Q I rr) (h' pins s σ H xs us Q I rr)
end
theorem hu64_of {A : Around} {k : Nat} (hr : Room k A) : A.units + 64 < cLine := by
  have := hr.un
  omega
/-- the kinds of what is told apart -/
inductive Knd where
  | non | bl | int | str | lst | tup | dic
  deriving DecidableEq
def Knd.name : Knd → String
  | .non => "NoneType" | .bl => "bool" | .int => "int" | .str => "str" | .lst => "list" | .tup => "tuple" | .dic => "dict"
inductive KindOf (H : Hp) : V → Knd → Prop
  | non : KindOf H .non .non
  | bl (b : Bool) : KindOf H (.bl b) .bl
  | int (i : Int) : KindOf H (.int i) .int
  | str (x : Str) : KindOf H (.str x) .str
  | lst {a : Addr} {xs : List V} (h : H a = some (.lst xs)) : KindOf H (.ref a) .lst
  | tup {a : Addr} {xs : List V} (h : H a = some (.tup xs)) : KindOf H (.ref a) .tup
  | dic {a : Addr} {kvs : List (Key × V)} (h : H a = some (.dK kvs)) : KindOf H (.ref a) .dic
def isi (k T : Knd) : Bool := decide (k = T) || (decide (k = .bl) && decide (T = .int))
theorem kit_knd {K : PySem.W.Frag} (k T : Knd) : PySem.W.kitOne K (.type k.name) (.type T.name) = some (isi k T) := by
  cases k <;> cases T <;> exact kit_ty (by decide +kernel)
theorem KindOf.ty {K : PySem.W.Frag} {H : Hp} {x : V} {k : Knd} (h : KindOf H x k) : TyX K H x (.type k.name) := by
  cases h with
  | non => exact .base .non
  | bl b => exact .base (.bl b)
  | int i => exact .base (.int i)
  | str x => exact .base (.str x)
  | lst h => exact .base (.lst h)
  | tup h => exact .base (.tup h)
  | dic h => exact .base (.dK h)
theorem KindOf.on {H H' : Hp} {x : V} {k : Knd} (h : KindOf H x k) (e : Same H H') : KindOf H' x k := by
  cases h with
  | non => exact .non
  | bl b => exact .bl b
  | int i => exact .int i
  | str x => exact .str x
  | lst h => exact .lst (e _ _ h)
  | tup h => exact .tup (e _ _ h)
  | dic h => exact .dic (e _ _ h)
theorem Same.new {H : Hp} {p : Addr} {o : HO} (h : H p = none) : Same H (upd H p o) := fun a u e => by
  rw [upd_ne (ne_of_none e h)]
  exact e
def isiAny (k : Knd) (Ts : List Knd) : Bool := Ts.any (isi k)
theorem kit_any {K : PySem.W.Frag} (k : Knd) : ∀ Ts : List Knd, PySem.W.kitAny K (.type k.name) (Ts.map fun T => .type T.name) = some (isiAny k Ts)
  | [] => rfl
  | T :: Ts => kitAny_cons (kit_knd k T) (fun e => by
      have q := kit_any (K := K) k Ts
      rw [q]
      show some (Ts.any (isi k)) = some (isi k T || Ts.any (isi k))
      rw [e, Bool.false_or]) (fun e => by
      show (isi k T || Ts.any (isi k)) = true
      rw [e, Bool.true_or])
theorem cls_all : ∀ Ts : List Knd, Paired ClsV (Ts.map fun T => V.ty T.name) (Ts.map fun T => Value.type T.name)
  | [] => .nil
  | _ :: Ts => .cons (.ty _) (cls_all Ts)
theorem walk_zipT {K : PySem.W.Frag} {a b : Addr} {xs ys : List V} {n : Nat} (hn : n = min xs.length ys.length) : Walk (RZ.ItzT K a b) n (fun H => SqT K H a xs ∧ SqT K H b ys) (YPair (fun i => xs[i]?) (fun i => ys[i]?)) := by
  subst hn
  refine ⟨fun i _ hi q => ?_, fun _ q => ⟨xs, ys, q.1, q.2, by omega⟩, fun i H v H' _ q y => ?_⟩
  · have h1 : i < xs.length := by omega
    have h2 : i < ys.length := by omega
    exact ⟨xs, ys, xs[i], ys[i], q.1, q.2, by simp [h1], by simp [h2]⟩
  · obtain ⟨T, x, z, h1, h2, h3, h4, h5⟩ := y
    exact ⟨T, x, z, h1, h2, h3, h4 xs q.1, h5 ys q.2⟩
/-- whether x and y are alike down to kinds: b; of nesting below n -/
inductive SameB (H : Hp) : Nat → V → V → Bool → Prop
  | sc {n : Nat} {x y : V} (hx : flatV x = true) (hy : flatV y = true) : SameB H (n + 1) x y (decide (x = y))
  | dic {n : Nat} {a : Addr} {kvs : List (Key × V)} (h : H a = some (.dK kvs)) (hk : ∀ p ∈ kvs, valV kvs p.1 = some p.2) (hf : ∀ p ∈ kvs, flatV p.2 = true ∨ ∃ c, p.2 = .ref c) : SameB H (n + 1) (.ref a) (.ref a) true
  | lst {n : Nat} {a c : Addr} {xs ys : List V} {bs : List Bool} (hx : H a = some (.lst xs)) (hy : H c = some (.lst ys)) (hl : xs.length = ys.length) (hb : xs.length = bs.length) (hz : xs.length ≤ 10000)
      (h : ∀ (i : Nat) (x y : V) (b : Bool), xs[i]? = some x → ys[i]? = some y → bs[i]? = some b → SameB H n x y b) : SameB H (n + 1) (.ref a) (.ref c) (bs.all id)
  | tup {n : Nat} {a c : Addr} {xs ys : List V} {bs : List Bool} (hx : H a = some (.tup xs)) (hy : H c = some (.tup ys)) (hl : xs.length = ys.length) (hb : xs.length = bs.length) (hz : xs.length ≤ 10000)
      (h : ∀ (i : Nat) (x y : V) (b : Bool), xs[i]? = some x → ys[i]? = some y → bs[i]? = some b → SameB H n x y b) : SameB H (n + 1) (.ref a) (.ref c) (bs.all id)
  | lstN {n : Nat} {a c : Addr} {xs ys : List V} (hx : H a = some (.lst xs)) (hy : H c = some (.lst ys)) (hl : xs.length ≠ ys.length) : SameB H (n + 1) (.ref a) (.ref c) false
  | tupN {n : Nat} {a c : Addr} {xs ys : List V} (hx : H a = some (.tup xs)) (hy : H c = some (.tup ys)) (hl : xs.length ≠ ys.length) : SameB H (n + 1) (.ref a) (.ref c) false
  | mis {n : Nat} {x y : V} {k l : Knd} (hx : KindOf H x k) (hy : KindOf H y l) (hl : l = .lst ∨ l = .tup) (hk : k ≠ l) : SameB H (n + 1) x y false
  | misS {n : Nat} {x y : V} {k : Knd} (hx : KindOf H x k) (hy : flatV y = true) (hk : k = .lst ∨ k = .tup) : SameB H (n + 1) x y false
def spSame (n : Nat) : Sp := fun vs H Q _ => ∃ (x y : V) (b : Bool), vs = [x, y] ∧ SameB H n x y b ∧ ∀ H', Same H H' → Q (.bl b) H'
theorem SameB.on {H H' : Hp} (e : Same H H') : ∀ {n : Nat} {x y : V} {b : Bool}, SameB H n x y b → SameB H' n x y b := by
  intro n
  induction n with
  | zero => intro x y b h; cases h
  | succ n ih =>
    intro x y b h
    cases h with
    | sc hx hy => exact .sc hx hy
    | dic h hk hf => exact .dic (e _ _ h) hk hf
    | lst hx hy hl hb hz h => exact .lst (e _ _ hx) (e _ _ hy) hl hb hz fun i x y b p q r => ih (h i x y b p q r)
    | tup hx hy hl hb hz h => exact .tup (e _ _ hx) (e _ _ hy) hl hb hz fun i x y b p q r => ih (h i x y b p q r)
    | lstN hx hy hl => exact .lstN (e _ _ hx) (e _ _ hy) hl
    | tupN hx hy hl => exact .tupN (e _ _ hx) (e _ _ hy) hl
    | mis hx hy hl hk => exact .mis (hx.on e) (hy.on e) hl hk
    | misS hx hy hk => exact .misS (hx.on e) hy hk
theorem flat_kind {H : Hp} {x : V} (h : flatV x = true) : ∃ k, KindOf H x k ∧ k ≠ .lst ∧ k ≠ .tup ∧ k ≠ .dic := by
  cases x with
  | non => exact ⟨_, .non, by decide, by decide, by decide⟩
  | bl b => exact ⟨_, .bl b, by decide, by decide, by decide⟩
  | int i => exact ⟨_, .int i, by decide, by decide, by decide⟩
  | str s => exact ⟨_, .str s, by decide, by decide, by decide⟩
  | _ => cases h
def kndOf : V → Knd
  | .non => .non | .bl _ => .bl | .int _ => .int | .str _ => .str | _ => .dic
theorem flat_knd {H : Hp} {x : V} (h : flatV x = true) : KindOf H x (kndOf x) := by
  cases x with
  | non => exact .non
  | bl b => exact .bl b
  | int i => exact .int i
  | str s => exact .str s
  | _ => cases h
/-- the tests that tell kinds apart never fail -/
theorem ne_bl {K : PySem.W.Frag} {H : Hp} {x y : Bool} {Q : VK} (q : Q (.bl (!decide (V.bl x = V.bl y))) H) : rNe (.bl x) (.bl y) H Q := ⟨rfl, q⟩
end Sm
/-! the rules with the written part told by a name of its own, so that they may stand under a comprehension -/
namespace Sm
open PySem PySem.Spec PyProof.Rows L2
def rLenSq (K : PySem.W.Frag) : List V → Hp → VK → Prop := fun xs H Q => ∃ p ys, xs = [.ref p] ∧ (SqL K H p ys ∨ SqT K H p ys) ∧ Q (.int ys.length) H
def rListOf (K : PySem.W.Frag) : List V → Hp → VK → Prop := fun xs H Q => ∃ p ys, xs = [.ref p] ∧ (SqL K H p ys ∨ SqT K H p ys) ∧ ∀ l, H l = none → Q (.ref l) (upd H l (.lst ys))
def rTupOf (K : PySem.W.Frag) : List V → Hp → VK → Prop := fun xs H Q => ∃ p ys, xs = [.ref p] ∧ ((SqL K H p ys ∧ ∀ l, H l = none → Q (.ref l) (upd H l (.tup ys))) ∨ (SqT K H p ys ∧ Q (.ref p) H))
section
variable {X : Cx} {K : PySem.W.Frag}
theorem ix_listK (h : X.K = K := by rfl) : IxR X (rIxL K) := by subst h; exact ix_list
theorem ix_tupK (h : X.K = K := by rfl) : IxR X (rIxT K) := by subst h; exact ix_tup
theorem sl_listK (h : X.K = K := by rfl) : SlR X (rSlL K) := by subst h; exact sl_list
theorem sl_tupK (h : X.K = K := by rfl) : SlR X (rSlT K) := by subst h; exact sl_tup
theorem op_catTK (h : X.K = K := by rfl) : OpR X (binaryOp .Add) (rCatT K) := by subst h; exact op_catT
theorem op_inK (h : X.K = K := by rfl) : OpR X (compareOp .In) (rIn K false) := by subst h; exact op_in_seq
theorem op_notInK (h : X.K = K := by rfl) : OpR X (compareOp .NotIn) (rIn K true) := by subst h; exact op_notIn_seq
theorem op_eqDK (hu : X.A.units + 64 < cLine) (h : X.K = K := by rfl) : OpR X (compareOp .Eq) (rEqD K) := by subst h; exact op_eqD hu
theorem op_neDK (hu : X.A.units + 64 < cLine) (h : X.K = K := by rfl) : OpR X (compareOp .NotEq) (rNeD K) := by subst h; exact op_neD hu
theorem op_eqVK (hu : X.A.units + 64 < cLine) (h : X.K = K := by rfl) : OpR X (compareOp .Eq) (rEqV K) := by subst h; exact op_eqV hu
theorem call_lenK (h : X.K = K := by rfl) : CallR X (.builtin "len") (rLenSq K) := by subst h; exact call_len_seq
theorem call_listK (h : X.K = K := by rfl) : CallR X (.type "list") (rListOf K) := by subst h; exact call_list_of
theorem call_tupleK (h : X.K = K := by rfl) : CallR X (.type "tuple") (rTupOf K) := by subst h; exact call_tuple_of
theorem call_isiK' (h : X.K = K := by rfl) : CallR X (.builtin "isinstance") (rIsi K) := by subst h; exact call_isi
theorem call_isiTK (h : X.K = K := by rfl) : CallR X (.builtin "isinstance") (rIsiT K) := by subst h; exact call_isiT
theorem call_allK (hc : X.calm = true) (h : X.K = K := by rfl) : CallR X (.builtin "all") (rAll K) := by subst h; exact cr_all hc
theorem call_anyK (hc : X.calm = true) (h : X.K = K := by rfl) : CallR X (.builtin "any") (rAny K) := by subst h; exact cr_any hc
variable {tg e e2 o : Expr} {es : List Expr} {tl te ta to : TE} {t : TA} {pos tpos p : Pos} {f : Str}
theorem pi_listK (hl : PE X e tl) (h : X.K = K := by rfl) : PI X tg e (iList K tl) := by subst h; exact pi_list hl
theorem pi_tupK (hl : PE X e tl) (h : X.K = K := by rfl) : PI X tg e (iTup K tl) := by subst h; exact pi_tup hl
theorem pi_enumK {elts : List Expr} {kk : Nat} (hg : Gl X "enumerate") (hm : X.mg "enumerate" = none) (ha : PA X [e] t) (h : X.K = K := by rfl) (hs : starEach [e] X.env = [(false, eval e X.env)] := by rfl) : PI X (.Tuple elts kk tpos) (.Call (.Name "enumerate" p) [e] [] pos) (iEnum K t) := by subst h; exact pi_enum hg hm ha hs
theorem pi_enumTK {elts : List Expr} {kk : Nat} (hg : Gl X "enumerate") (hm : X.mg "enumerate" = none) (ha : PA X [e] t) (h : X.K = K := by rfl) (hs : starEach [e] X.env = [(false, eval e X.env)] := by rfl) : PI X (.Tuple elts kk tpos) (.Call (.Name "enumerate" p) [e] [] pos) (iEnumT K t) := by subst h; exact pi_enumT hg hm ha hs
theorem pi_zipK {elts : List Expr} {kk : Nat} (hg : Gl X "zip") (hm : X.mg "zip" = none) (ha : PA X [e, e2] t) (h : X.K = K := by rfl)
    (hs : starEach [e, e2] X.env = (false, eval e X.env) :: starEach [e2] X.env := by rfl) (hpl : (backTo pos (starEach [e2] X.env)).any (·.1) = false := by rfl) : PI X (.Tuple elts kk tpos) (.Call (.Name "zip" p) [e, e2] [] pos) (RZ.iZipA K t) := by subst h; exact RZ.pi_zipA hg hm ha hs hpl
theorem pg_tupK {n : Nat} {ts : TGs} {k : Nat} (hc : X.calm = true) (hh : PGs X es ts) (h : X.K = K := by rfl)
    (hn : (assignEach es X.env).length = n := by rfl) (hst : (assignEach es X.env).findIdx? (·.1) = none := by rfl) : PG X (.Tuple es k pos) (gTup K n ts) := by subst h; exact pg_tup hc hh hn hst
theorem pe_fldK (he : PE X o to) (h : X.K = K := by rfl) (hb : attributeBase o f X.env (eval o X.env) = eval o X.env := by rfl) : PE X (.Attribute o f pos) (tFld K to f) := by subst h; exact pe_fld he hb
theorem pe_bmK {T id : String} {name : Str} {apos cpos : Pos} {r : V → List V → Hp → VK → Prop} (pa : PlainAttrs T) (slot : Slot T name id) (hty : typeOf (.builtin id) = pure (.type "method_descriptor")) (hm : MtR X id r) (ho : PE X o to) (ha : PA X (e :: es) t) (h : X.K = K := by rfl)
    (hbase : attributeBase o name X.env (eval o X.env) = eval o X.env := by rfl)
    (hfew : ((backTo cpos (starEach (e :: es) X.env)).all (fun x => !x.1) && (backToKw cpos (keywordEach [] X.env)).all (fun x => x.1.isSome)
      && decide ((e :: es).length + ([] : List Keyword).length + (if ([] : List Keyword).isEmpty then 0 else 1) < 30)) = true := by rfl)
    (hline : (apos.endLine == cpos.line) = true := by rfl) (hs : starEach (e :: es) X.env = (false, eval e X.env) :: starEach es X.env := by rfl) (hplain : (backTo cpos (starEach es X.env)).any (·.1) = false := by rfl) :
    PE X (.Call (.Attribute o name apos) (e :: es) [] cpos) (tBM K T r to t) := by subst h; exact pe_bm pa slot hty hm ho ha hbase hfew hline hs hplain
theorem pe_bm0K {T id : String} {name : Str} {apos cpos : Pos} {r : V → List V → Hp → VK → Prop} (pa : PlainAttrs T) (slot : Slot T name id) (hty : typeOf (.builtin id) = pure (.type "method_descriptor")) (hm : MtR X id r) (ho : PE X o to) (h : X.K = K := by rfl)
    (hbase : attributeBase o name X.env (eval o X.env) = eval o X.env := by rfl) (hline : (apos.endLine == cpos.line) = true := by rfl) : PE X (.Call (.Attribute o name apos) [] [] cpos) (tBM0 K T r to) := by subst h; exact pe_bm0 pa slot hty hm ho hbase hline
end
section
variable {D : Ends} {σ : L2.St} {H : Hp} {t u : TS} {ta : TA} {te : TE} {i : Nat}
theorem st_seq2 (h : t { D with nx := u D } σ H) : tSeq t u D σ H := h
theorem asg_lst (h : ta σ H fun xs H1 => xs.length ≤ sizeLine ∧ ∀ p, H1 p = none → D.nx (σ.set i (some (.ref p))) (upd H1 p (.lst xs))) : tAsg (tLst ta) (gName i) D σ H := h
theorem asg_any (h : te σ H fun v H1 => D.nx (σ.set i (some v)) H1) : tAsg te (gName i) D σ H := h
theorem ret_any (h : te σ H D.rt) : tRet te D σ H := h
theorem lst_any {Q : VK} (h : ta σ H fun xs H1 => xs.length ≤ sizeLine ∧ ∀ p, H1 p = none → Q (.ref p) (upd H1 p (.lst xs))) : tLst ta σ H Q := h
/-- a name's list + [..] -/
theorem cat_lst {Q : VK} {l : Addr} {xs : List V} (hv : σ[i]? = some (some (.ref l))) (h : ta σ H fun zs H1 => H1 l = some (.lst xs) ∧ xs.length + zs.length ≤ 1000 ∧ ∀ p H2, H1 p = none → Same H1 H2 → H2 p = some (.lst (xs ++ zs)) → Q (.ref p) H2)
    (mono : ∀ Q Q' : List V → Hp → Prop, (∀ zs H1, Q zs H1 → Q' zs H1) → ta σ H Q → ta σ H Q') : tOp rCat (tVar i) (tLst ta) σ H Q := by
  refine ⟨_, hv, mono _ _ (fun zs H1 q => ?_) h⟩
  obtain ⟨hl, hz, k⟩ := q
  refine ⟨Nat.le_trans (Nat.le_trans (Nat.le_add_left _ _) hz) (by decide), fun b hb => ⟨l, b, xs, zs, rfl, rfl, ?_, upd_same, Nat.le_trans hz (by decide), fun p hp => ?_⟩⟩
  · rw [upd_ne (ne_of_none hl hb)]
    exact hl
  · have hp1 : H1 p = none := by
      have nb : p ≠ b := fun e => by
        rw [e, upd_same] at hp
        cases hp
      rw [upd_ne nb] at hp
      exact hp
    exact k p _ hp1 ((Same.new hb).trans (Same.new hp)) upd_same
end
end Sm
namespace Sm
open PySem PySem.Spec PyProof.Rows L2
def top (i : Nat) : Stmt := PySem.Challenge.pw_seenmarks_k06_resources.main.body.getD i (.Pass ⟨0, 0, 0, 0⟩)

structure TxtB (mg : Str → Option Value) : Prop where
  len : mg "len" = none
  int : mg "int" = none
  enumerate : mg "enumerate" = none
abbrev s_law_fresh : Stmt := top 33
theorem sc_law_fresh : FnScope ["_law_script"] ["_law_script"] (defScope s_law_fresh) := ⟨rfl, rfl, rfl, by decide +kernel, rfl, by decide +kernel, by decide +kernel⟩

abbrev s_law_fill : Stmt := top 34
theorem sc_law_fill : FnScope ["_law_state", "_law_cells", "_law_nth", "_law_seed", "_law_k", "_law_prime", "_law_far"] ["_law_state"] (defScope s_law_fill) := ⟨rfl, rfl, rfl, by decide +kernel, rfl, by decide +kernel, by decide +kernel⟩

abbrev s_law_take : Stmt := top 35
theorem sc_law_take : FnScope ["_law_state", "_law_many", "_law_laps", "_law_digit"] ["_law_state", "_law_many"] (defScope s_law_take) := ⟨rfl, rfl, rfl, by decide +kernel, rfl, by decide +kernel, by decide +kernel⟩

abbrev s_law_one : Stmt := top 36
theorem sc_law_one : FnScope ["_law_state", "_law_things_here"] ["_law_state", "_law_things_here"] (defScope s_law_one) := ⟨rfl, rfl, rfl, by decide +kernel, rfl, by decide +kernel, by decide +kernel⟩

section
variable {P : Program} {w : World} {K : PySem.W.Frag} {mg : Str → Option Value} {base : Heap}
abbrev FnP (K : PySem.W.Frag) (x : Str) (st : Stmt) (f : Addr) (fd : FuncData) : Prop := FunD K x x (defArgs st) (defBody st) (defScope st) [] [] f fd
theorem ok_fresh {f : Addr} {fd : FuncData} (F : FnP K "_law_fresh" s_law_fresh f fd) : FnOk P w K mg base CX0 1 f fd ["_law_script"] (spFresh K) := by
  refine F.ok sc_law_fresh (fun vs H Q E h => ?_) (fun cdv A outer s H vs Q E hr h => ?_)
  · obtain ⟨a, ns, rfl, _⟩ := h
    rfl
  · obtain ⟨a, ns, rfl, hS, hl, k⟩ := h
    refine ⟨_, PSs.nox (pss_one (ps_ret (pe_lst (pa_cons (pe_slice (sl_listK (K := K)) (pv 0) po_none (po_some pe_int)) (pa_cons pe_int (pa_cons pe_int (pa_cons pe_bl pa_nil))))))), ?_⟩
    refine ⟨_, rfl, _, rfl, a, _, rfl, hS, fun c hc => ⟨by show 4 ≤ sizeLine; decide, fun p hp => ?_⟩⟩
    have ncp : c ≠ p := ne_of_none upd_same hp
    have hp0 : H p = none := by
      rw [upd_ne ncp.symm] at hp
      exact hp
    have ec : cutV (ns.map V.int) none (some 63) = (ns.take (HT.sIx (ns.map V.int).length (ns.map V.int).length (some 63) - HT.sIx (ns.map V.int).length 0 none)).map V.int := by
      unfold cutV
      have e0 : HT.sIx (ns.map V.int).length 0 none = 0 := rfl
      rw [e0, List.drop_zero, List.map_take]
    refine k p c _ hp0 hc (fun b o e => ?_) ⟨ns.take (HT.sIx (ns.map V.int).length (ns.map V.int).length (some 63) - HT.sIx (ns.map V.int).length 0 none), 0, 0, false, upd_same, ?_, ?_⟩
    · rw [upd_ne (ne_of_none e hp0), upd_ne (ne_of_none e hc)]
      exact e
    · rw [upd_ne ncp, upd_same, ec]
    · rw [List.length_take]
      exact Nat.le_trans (Nat.min_le_right _ _) hl
def primes : List V := [.int 2147483647, .int 2147483629, .int 2147483587, .int 2147483579, .int 2147483563]
theorem primes_at {i : Nat} {y : V} (h : primes[i]? = some y) : ∃ q : Int, y = .int q ∧ 0 < q ∧ q < 2 ^ 31 := by
  match i, h with
  | 0, h => exact ⟨_, (Option.some.inj h).symm, by decide, by decide⟩
  | 1, h => exact ⟨_, (Option.some.inj h).symm, by decide, by decide⟩
  | 2, h => exact ⟨_, (Option.some.inj h).symm, by decide, by decide⟩
  | 3, h => exact ⟨_, (Option.some.inj h).symm, by decide, by decide⟩
  | 4, h => exact ⟨_, (Option.some.inj h).symm, by decide, by decide⟩
  | i + 5, h =>
    have h2 : (none : Option V) = some y := h
    cases h2
theorem ok_fill (T : TxtB mg) {f : Addr} {fd : FuncData} (F : FnP K "_law_fill" s_law_fill f fd) : FnOk P w K mg base CX0 1 f fd ["_law_state"] spFill := by
  refine F.ok sc_law_fill (fun vs H Q E h => ?_) (fun cdv A outer s H vs Q E hr h => ?_)
  · obtain ⟨p, c, rfl, _⟩ := h
    rfl
  · obtain ⟨p, c, rfl, ⟨ns, n, l, m, D⟩, k⟩ := h
    have hu := hu_of hr
    refine ⟨_, PSs.nox (pss_cons (ps_par (i := 1) (j := 2) rfl sc_law_fill.nd rfl rfl (by decide) rfl rfl (pa_cons (pe_ix (ix_listK (K := K)) (pv 0) pe_int (fun _ _ => rfl)) (pa_cons (pe_ix (ix_listK (K := K)) (pv 0) pe_int (fun _ _ => rfl)) pa_nil)) (by rfl))
  (pss_cons (ps_set (i := 3) sc_law_fill.nd rfl (Or.inl rfl) (pe_op op_add (pe_op op_mul pe_int (pv 2)) pe_int))
  (pss_cut (ps_if (pt_cmpR op_gt (pe_callB (call_lenK (K := K)) (by rfl) T.len (by decide +kernel) (pa_cons (pv 1) pa_nil)) pe_int (nomark _)) (pss_one (ps_set (i := 3) sc_law_fill.nd rfl (Or.inl rfl) (pe_op op_add (pe_op op_mul pe_int (pe_op op_fdivW (pv 2) (pe_callB (call_lenK (K := K)) (by rfl) T.len (by decide +kernel) (pa_cons (pv 1) pa_nil)))) (pe_ix (ix_listK (K := K)) (pv 1) (pe_op op_modN (pe_callTy call_int1 (by rfl) T.int (by decide +kernel) (pa_cons (pv 2) pa_nil)) (pe_callB (call_lenK (K := K)) (by rfl) T.len (by decide +kernel) (pa_cons (pv 1) pa_nil))) (fun _ _ => rfl))))) pss_nil)
  (pss_cons (ps_asg (pe_op op_add (pv 2) pe_int) (pg_sub (pv 0) pe_int set_list))
  (pss_cut (ps_asg (pe_or (pe_cmpR op_ge (pv 2) (pe_callB (call_lenK (K := K)) (by rfl) T.len (by decide +kernel) (pa_cons (pv 1) pa_nil)) (nomark _)) (pe_one (pe_cmpR op_lt (pv 3) (pe_op op_pow pe_int pe_int) (nomark _)))) (pg_sub (pv 0) pe_int set_list))
  (pss_cons (ps_asg (pe_op op_sub (pv 3) (pe_op op_pow pe_int pe_int)) (pg_sub (pv 0) pe_int set_list))
  (pss_one (ps_if (pt_val (pe_ix (ix_listK (K := K)) (pv 0) pe_int (fun _ _ => rfl))) (pss_cons (ps_asg pe_int (pg_sub (pv 0) pe_int set_list))
  (pss_one (ps_for PassesOwn.never rfl (pi_enumTK (K := K) (by rfl) T.enumerate (pa_cons (pe_tup (pa_cons pe_int (pa_cons pe_int (pa_cons pe_int (pa_cons pe_int (pa_cons pe_int pa_nil)))))) pa_nil)) (pg_tupK (K := K) rfl (pgs_cons (pg_name (i := 4) sc_law_fill.nd rfl (Or.inl rfl)) (pgs_cons (pg_name (i := 5) sc_law_fill.nd rfl (Or.inl rfl)) pgs_nil))) (pss_cons (ps_set (i := 6) sc_law_fill.nd rfl (Or.inl rfl) (pe_op op_modN (pe_callTy call_int1 (by rfl) T.int (by decide +kernel) (pa_cons (pe_op op_mul (pe_op op_add (pe_op op_add (pv 3) (pe_op op_mul (pe_op op_mul pe_int (pv 4)) (pv 4))) (pe_op op_mul pe_int (pv 4))) (pe_op op_add pe_int (pe_op op_mul pe_int (pv 4)))) pa_nil)) (pv 5)))
  (pss_one (ps_asg (pe_op op_add (pe_op op_mul (pe_ix (ix_listK (K := K)) (pv 0) pe_int (fun _ _ => rfl)) (pv 5)) (pe_op op_modN (pe_callTy call_int1 (by rfl) T.int (by decide +kernel) (pa_cons (pe_op op_pow (pv 6) pe_int) pa_nil)) (pv 5))) (pg_sub (pv 0) pe_int set_list))))))) pss_nil)))))))), ?_⟩
    refine ⟨_, rfl, p, _, 0, _, rfl, rfl, SqL.of D.st, rfl, _, rfl, p, _, 1, _, rfl, rfl, SqL.of D.st, rfl, _, _, rfl, ?_⟩
    -- seed = 31 * nth + 7
    refine ⟨_, rfl, _, _, rfl, rfl, .inl ⟨by decide, by decide⟩, _, _, rfl, rfl, ?_⟩
    -- if len(cells) > 0
    refine ⟨fun σ' H' => ∃ seed : Int, σ' = [some (.ref p), some (.ref c), some (.int n), some (.int seed), none, none, none] ∧ H' = H, ⟨_, rfl, c, _, rfl, .inl (SqL.of D.ce), _, _, rfl, rfl, _, rfl, ite2 (fun hc => ?_) (fun _ => ⟨_, rfl, rfl⟩)⟩, ?_⟩
    · have hlen : 0 < ns.length := by
        have := of_decide_eq_true hc
        rw [List.length_map] at this
        omega
      have el : ((ns.map V.int).length : Int) = (ns.length : Int) := by rw [List.length_map]
      have h63 := D.sz
      have j0 : (0 : Int) < ((ns.map V.int).length : Int) := by omega
      refine ⟨_, rfl, _, rfl, c, _, rfl, .inl (SqL.of D.ce), _, _, rfl, rfl, ⟨j0, Nat.lt_trans (log2_lt_of (n := 6) j0 (by decide) (by omega)) (by decide)⟩, _, _, rfl, rfl, .inl ⟨by decide, by decide⟩, ?_⟩
      refine ⟨_, rfl, _, rfl, .inl ⟨_, rfl, ?_⟩⟩
      refine ⟨_, rfl, c, _, rfl, .inl (SqL.of D.ce), _, _, rfl, rfl, by omega, ?_⟩
      have hm0 : 0 ≤ n.fmod ((ns.map V.int).length : Int) := Int.fmod_nonneg_of_pos _ j0
      have hm1 : n.fmod ((ns.map V.int).length : Int) < ((ns.map V.int).length : Int) := Int.fmod_lt_of_pos _ j0
      obtain ⟨i, hi⟩ := Int.eq_ofNat_of_zero_le hm0
      have hil : i < ns.length := by omega
      refine ⟨c, _, _, V.int (ns[i]'hil), rfl, rfl, SqL.of D.ce, ?_, _, _, rfl, rfl, ⟨_, rfl, rfl⟩⟩
      rw [hi]
      exact atI_nat (by rw [List.getElem?_map, List.getElem?_eq_getElem hil]; rfl)
    · rintro σ' H' ⟨seed, rfl, rfl⟩
      -- state[1] = nth + 1; state[3] = nth >= len(cells) or seed < 10 ** 18; state[2] = seed - 10 ** 18
      refine ⟨_, rfl, _, _, rfl, rfl, _, rfl, p, _, 1, 1, rfl, rfl, D.st, rfl, ?_⟩
      have D1 : DrAt (upd H' p (.lst [.ref c, .int (n + 1), .int l, .bl m])) p c ns (n + 1) l m := D.put
      refine ⟨fun σ2 H2 => ∃ m2 : Bool, σ2 = [some (.ref p), some (.ref c), some (.int n), some (.int seed), none, none, none] ∧ Off p H' H2 ∧ DrAt H2 p c ns (n + 1) l m2,
        ⟨_, rfl, _, rfl, c, _, rfl, .inl (SqL.of D1.ce), _, _, rfl, rfl, _, rfl, ite2 (fun _ => ?_) (fun _ => ?_)⟩, ?_⟩
      · exact ⟨_, rfl, p, _, 3, 3, rfl, rfl, D1.st, rfl, _, rfl, Off.put.trans Off.put, D1.put⟩
      · exact ⟨_, rfl, _, _, rfl, rfl, ⟨by decide, by decide, by decide⟩, _, _, rfl, rfl, _, rfl, p, _, 3, 3, rfl, rfl, D1.st, rfl, _, rfl, Off.put.trans Off.put, D1.put⟩
      · rintro σ2 H2 ⟨m2, rfl, o2, D2⟩
        refine ⟨_, rfl, _, _, rfl, rfl, ⟨by decide, by decide, by decide⟩, _, _, rfl, rfl, _, rfl, p, _, 2, 2, rfl, rfl, D2.st, rfl, ?_⟩
        have D3 : DrAt (upd H2 p (.lst [.ref c, .int (n + 1), .int (seed - 10 ^ Int.toNat 18), .bl m2])) p c ns (n + 1) (seed - 10 ^ Int.toNat 18) m2 := D2.put
        refine ⟨_, rfl, p, _, 3, _, rfl, rfl, SqL.of D3.st, rfl, _, rfl, ite2 (fun _ => ?_) (fun _ => ?_)⟩
        · -- state[2] = 0
          refine ⟨_, rfl, p, _, 2, 2, rfl, rfl, D3.st, rfl, ?_⟩
          have D4 : DrAt (upd (upd H2 p (.lst [.ref c, .int (n + 1), .int (seed - 10 ^ Int.toNat 18), .bl m2])) p (.lst [.ref c, .int (n + 1), .int 0, .bl m2])) p c ns (n + 1) 0 m2 := D3.put
          have o4 : Off p H' (upd (upd H2 p (.lst [.ref c, .int (n + 1), .int (seed - 10 ^ Int.toNat 18), .bl m2])) p (.lst [.ref c, .int (n + 1), .int 0, .bl m2])) := (o2.trans Off.put).trans Off.put
          refine ⟨by show 5 ≤ sizeLine; decide, fun t ht => ?_⟩
          have htp : t ≠ p := fun e => by
            rw [e, upd_same] at ht
            cases ht
          refine ⟨t, _, rfl, SqT.of upd_same, for_it (walk_enumT (xs := primes)) (fun i σ' H'' => ∃ (vk vp vf : Option V) (left : Int), σ' = [some (.ref p), some (.ref c), some (.int n), some (.int seed), vk, vp, vf] ∧ Off p H' H'' ∧ DrAt H'' p c ns (n + 1) left m2 ∧ H'' t = some (.tup primes))
            ⟨none, none, none, 0, rfl, o4.trans (Off.new ht), D4.new ht, upd_same⟩ (fun i σ' H'' _ ⟨_, _, _, _, _, _, _, ht'⟩ => SqT.of ht') ?_ ?_⟩
          · rintro i x σ' H3 H4 hi ⟨vk, vp, vf, left, rfl, o3, D5, ht3⟩ ⟨T', x', y, rfl, hT, rfl, hx, hy⟩
            cases hx
            obtain ⟨q, rfl, q0, q1⟩ := primes_at hy
            have D6 : DrAt (upd H3 T' (.tup [.int (i : Nat), .int q])) p c ns (n + 1) left m2 := D5.new hT
            have ht6 : (upd H3 T' (.tup [.int (i : Nat), .int q])) t = some (.tup primes) := by
              rw [upd_ne (ne_of_none ht3 hT)]
              exact ht3
            have o6 : Off p H' (upd H3 T' (.tup [.int (i : Nat), .int q])) := o3.trans (Off.new hT)
            refine ⟨T', _, rfl, SqT.of upd_same, rfl, _, _, rfl, _, _, rfl, rfl, ?_⟩
            -- far = ..
            have i5 : i < 5 := hi
            refine ⟨_, rfl, _, rfl, _, _, rfl, rfl, .inl ⟨by decide, by decide⟩, _, rfl, _, _, rfl, rfl, .inl ⟨by omega, by omega⟩, _, _, rfl, rfl, ?_⟩
            refine ⟨_, rfl, _, _, rfl, rfl, .inl ⟨by decide, by decide⟩, _, _, rfl, rfl, _, rfl, _, _, rfl, rfl, .inl ⟨by decide, by decide⟩, _, _, rfl, rfl, _, _, rfl, rfl, .inr ⟨by omega, by omega⟩, .inl ⟨_, rfl, ?_⟩⟩
            refine ⟨_, rfl, _, _, rfl, rfl, by omega, ?_⟩
            -- state[2] = state[2] * prime + int(far ** 5) % prime
            refine ⟨_, rfl, p, _, 2, _, rfl, rfl, SqL.of D6.st, rfl, _, rfl, _, _, rfl, rfl, .inr ⟨by omega, by omega⟩, ?_⟩
            refine ⟨_, rfl, _, _, rfl, rfl, ⟨by decide, by decide, ?_⟩, .inl ⟨_, rfl, ?_⟩⟩
            · exact fmod_small q0 q1
            refine ⟨_, rfl, _, _, rfl, rfl, by omega, _, _, rfl, rfl, _, rfl, p, _, 2, 2, rfl, rfl, D6.st, rfl, ?_⟩
            exact ⟨_, _, _, _, rfl, o6.trans Off.put, D6.put, by rw [upd_ne htp]; exact ht6⟩
          · rintro σ' H3 ⟨vk, vp, vf, left, rfl, o3, D5, ht3⟩
            exact k H3 o3 ⟨_, _, _, _, D5⟩
        · exact k _ (o2.trans Off.put) ⟨_, _, _, _, D3⟩
theorem ok_take (T : TxtB mg) {f : Addr} {fd : FuncData} (F : FnP K "_law_take" s_law_take f fd) (c_law_fill : Cal P w K mg base CX0 1 "_law_fill" spFill) : FnOk P w K mg base CX0 2 f fd ["_law_state", "_law_many"] spTake := by
  refine F.ok sc_law_take (fun vs H Q E h => ?_) (fun cdv A outer s H vs Q E hr h => ?_)
  · obtain ⟨p, c, k, rfl, _⟩ := h
    rfl
  · obtain ⟨p, c, k, rfl, D0, k0, k1, kk⟩ := h
    refine ⟨_, PSs.nox (pss_cons (ps_set (i := 2) sc_law_take.nd rfl (Or.inl rfl) pe_int)
  (pss_cut (ps_while PassesOwn.never (PW.pt (pw_and (pt_cmpR op_lt (pv 2) pe_int (nomark _)) (pw_and1 (PW.pt (pw_or (pt_cmpR op_eq (pe_ix (ix_listK (K := K)) (pv 0) pe_int (fun _ _ => rfl)) pe_int (nomark _)) (pw_or1 (PW.pt (pw_and (pt_val (pe_ix (ix_listK (K := K)) (pv 0) pe_int (fun _ _ => rfl))) (pw_and1 (pt_cmpR op_lt (pe_ix (ix_listK (K := K)) (pv 0) pe_int (fun _ _ => rfl)) (pe_op op_mul (pv 1) pe_int) (nomark _))))))))))) (pss_cons (ps_expr (pe_c c_law_fill hr (by first | decide | omega) (by rfl) (pa_cons (pv 0) pa_nil)))
  (pss_cons (ps_aug (i := 2) sc_law_take.nd rfl (Or.inl rfl) pe_int ip_add)
  (pss_one (ps_if (PW.pt (pw_and (pt_val (pe_ix (ix_listK (K := K)) (pv 0) pe_int (fun _ _ => rfl))) (pw_and1 (pt_cmpR op_lt (pe_ix (ix_listK (K := K)) (pv 0) pe_int (fun _ _ => rfl)) (pe_op op_mul (pv 1) pe_int) (nomark _))))) (pss_one (ps_asg (pe_op op_add (pe_ix (ix_listK (K := K)) (pv 0) pe_int (fun _ _ => rfl)) (pe_op op_mul (pe_op op_mul (pv 1) pe_int) (pe_op op_add pe_int (pe_op op_modN (pe_callTy call_int1 (by rfl) T.int (by decide +kernel) (pa_cons (pe_ix (ix_listK (K := K)) (pv 0) pe_int (fun _ _ => rfl)) pa_nil)) pe_int)))) (pg_sub (pv 0) pe_int set_list))) pss_nil)))))
  (pss_cons (ps_set (i := 3) sc_law_take.nd rfl (Or.inl rfl) (pe_op op_modN (pe_callTy call_int1 (by rfl) T.int (by decide +kernel) (pa_cons (pe_ix (ix_listK (K := K)) (pv 0) pe_int (fun _ _ => rfl)) pa_nil)) (pv 1)))
  (pss_cons (ps_asg (pe_op op_fdivW (pe_ix (ix_listK (K := K)) (pv 0) pe_int (fun _ _ => rfl)) (pv 1)) (pg_sub (pv 0) pe_int set_list))
  (pss_one (ps_ret (pv 3))))))), ?_⟩
    have anyT : ∀ {σ' : L2.St} {H1 : Hp} {laps : Int}, σ' = [some (.ref p), some (.int k), some (.int laps), none] → Dr H1 p c → ∀ (K' : PySem.W.Frag), Any (tTest (tOp rEq (tOp (rIxL K') (tVar 0) (tC (.int 2))) (tC (.int 0)))) σ' H1 ∧
        Any (tAnd (tB (tOp (rIxL K') (tVar 0) (tC (.int 3)))) (tTest (tOp (rI0 fun i j => .bl (decide (i < j))) (tOp (rIxL K') (tVar 0) (tC (.int 2))) (tOp (rI CMul fun i j => .int (i * j)) (tVar 1) (tC (.int 4096)))))) σ' H1 := by
      rintro σ' H1 laps rfl ⟨ns, n, l, mx, D⟩ K'
      refine ⟨fun Q q => ⟨_, rfl, p, _, 2, _, rfl, rfl, SqL.of D.st, rfl, rfl, _, rfl, q _⟩, any_and (fun Q q => ⟨_, rfl, p, _, 3, _, rfl, rfl, SqL.of D.st, rfl, _, rfl, q _⟩) fun Q q => ?_⟩
      exact ⟨_, rfl, p, _, 2, _, rfl, rfl, SqL.of D.st, rfl, _, rfl, _, _, rfl, rfl, .inr ⟨by decide, by decide⟩, _, _, rfl, rfl, _, rfl, q _⟩
    refine ⟨fun σ' H' => ∃ laps : Nat, σ' = [some (.ref p), some (.int k), some (.int (laps : Int)), none] ∧ Off p H H' ∧ Dr H' p c,
      ⟨fun m σ' H' => ∃ laps : Nat, σ' = [some (.ref p), some (.int k), some (.int (laps : Int)), none] ∧ m = 64 - laps ∧ Off p H H' ∧ Dr H' p c, ⟨64, 0, rfl, rfl, Off.refl, D0⟩, ?_⟩, ?_⟩
    · rintro m σ' H1 ⟨laps, rfl, rfl, o1, D1⟩
      refine ⟨_, rfl, _, _, rfl, rfl, _, rfl, ite2 (fun hl => ?_) (fun _ => iteF ⟨laps, rfl, o1, D1⟩)⟩
      refine any_or (anyT rfl D1 _).1 (anyT rfl D1 _).2 _ fun b => ?_
      cases b with
      | false => exact iteF ⟨laps, rfl, o1, D1⟩
      | true =>
        have hl2 := of_decide_eq_true hl
        refine iteT ⟨fun σ' H' => ∃ laps' : Nat, σ' = [some (.ref p), some (.int k), some (.int (laps' : Int)), none] ∧ laps' = laps + 1 ∧ Off p H H' ∧ Dr H' p c, ?_, ?_⟩
        · rintro σ' H' ⟨laps', rfl, rfl, o2, D2⟩
          exact ⟨64 - (laps + 1), by omega, laps + 1, rfl, rfl, o2, D2⟩
        · refine ⟨_, rfl, p, c, rfl, D1, fun H2 o2 D2 => ?_⟩
          refine ⟨_, rfl, _, _, rfl, rfl, ?_⟩
          refine (anyT (laps := (laps : Int) + 1) rfl D2 _).2 _ fun b => ?_
          obtain ⟨ns, n, l, mx, D⟩ := id D2
          cases b with
          | false => exact iteF ⟨laps + 1, rfl, rfl, o1.trans o2, D2⟩
          | true =>
            refine iteT ?_
            refine ⟨_, rfl, p, _, 2, _, rfl, rfl, SqL.of D.st, rfl, _, rfl, _, _, rfl, rfl, .inr ⟨by decide, by decide⟩, ?_⟩
            refine ⟨_, rfl, p, _, 2, _, rfl, rfl, SqL.of D.st, rfl, .inl ⟨_, rfl, _, _, rfl, rfl, (show (4093 : Int) ≠ 0 by decide), _, _, rfl, rfl, _, _, rfl, rfl, .inr ?_, _, _, rfl, rfl, ?_⟩⟩
            · have h1 := Int.fmod_nonneg_of_pos l (show (0 : Int) < 4093 by decide)
              have h2 := Int.fmod_lt_of_pos l (show (0 : Int) < 4093 by decide)
              exact ⟨by omega, by omega⟩
            · exact ⟨_, rfl, p, _, 2, 2, rfl, rfl, D.st, rfl, laps + 1, rfl, rfl, (o1.trans o2).trans Off.put, ⟨_, _, _, _, D.put⟩⟩
    · rintro σ' H1 ⟨laps, rfl, o1, D1⟩
      obtain ⟨ns, n, l, mx, D⟩ := id D1
      -- digit = int(state[2]) % many; state[2] = state[2] // many; return digit
      refine ⟨_, rfl, p, _, 2, _, rfl, rfl, SqL.of D.st, rfl, .inl ⟨_, rfl, _, rfl, _, _, rfl, rfl, by omega, ?_⟩⟩
      refine ⟨_, rfl, p, _, 2, _, rfl, rfl, SqL.of D.st, rfl, _, rfl, _, _, rfl, rfl, ⟨k0, Nat.lt_trans k1 (by decide)⟩, _, rfl, p, _, 2, 2, rfl, rfl, D.st, rfl, ?_⟩
      exact ⟨_, rfl, kk _ _ (Int.fmod_nonneg_of_pos l k0) (Int.fmod_lt_of_pos l k0) (o1.trans Off.put) ⟨_, _, _, _, D.put⟩⟩
theorem ok_one (T : TxtB mg) {f : Addr} {fd : FuncData} (F : FnP K "_law_one" s_law_one f fd) (c_law_take : Cal P w K mg base CX0 2 "_law_take" spTake) : FnOk P w K mg base CX0 3 f fd ["_law_state", "_law_things_here"] (spOne K) := by
  refine F.ok sc_law_one (fun vs H Q E h => ?_) (fun cdv A outer s H vs Q E hr h => ?_)
  · obtain ⟨p, c, a, xs, rfl, _⟩ := h
    rfl
  · obtain ⟨p, c, a, xs, rfl, D0, ha, nap, nx, hl, kk⟩ := h
    refine ⟨_, PSs.nox (pss_one (ps_ret (pe_ix (ix_listK (K := K)) (pv 1) (pe_c c_law_take hr (by first | decide | omega) (by rfl) (pa_cons (pv 0) (pa_cons (pe_callB (call_lenK (K := K)) (by rfl) T.len (by decide +kernel) (pa_cons (pv 1) pa_nil)) pa_nil))) (fun _ _ => rfl)))), ?_⟩
    have h0 : 0 < xs.length := List.length_pos_iff.mpr nx
    have j0 : (0 : Int) < (xs.length : Int) := by omega
    refine ⟨_, rfl, _, rfl, _, rfl, a, _, rfl, .inl ha, p, c, _, rfl, D0, j0, Nat.lt_trans (log2_lt_of (n := 20) j0 (by decide) (by omega)) (by decide), fun d H1 d0 d1 o1 D1 => ?_⟩
    obtain ⟨i, rfl⟩ := Int.eq_ofNat_of_zero_le d0
    have hi : i < xs.length := by omega
    exact ⟨a, _, _, xs[i]'hi, rfl, rfl, o1.seq nap ha, atI_nat (List.getElem?_eq_getElem hi), kk _ _ (List.getElem_mem hi) o1 D1⟩
end
end Sm
namespace Sm
open PySem PySem.Spec PyProof.Rows L2
abbrev s_law_same : Stmt := top 37
theorem sc_law_same : FnScope ["_law_found", "_law_due", "_law_a", "_law_b"] ["_law_found", "_law_due"] (defScope s_law_same) := ⟨rfl, rfl, rfl, by decide +kernel, rfl, by decide +kernel, by decide +kernel⟩

structure TxtS (mg : Str → Option Value) : Prop where
  len : mg "len" = none
  int : mg "int" = none
  bool : mg "bool" = none
  list : mg "list" = none
  tuple : mg "tuple" = none
  all : mg "all" = none
  zip : mg "zip" = none
  isinstance : mg "isinstance" = none
section
variable {P : Program} {w : World} {K : PySem.W.Frag} {mg : Str → Option Value} {base : Heap}
theorem ok_same0 {f : Addr} {fd : FuncData} (F : FnP K "_law_same" s_law_same f fd) : FnOk P w K mg base CX0 0 f fd ["_law_found", "_law_due"] (spSame 0) :=
  ⟨fun vs H Q E h => by
    obtain ⟨x, y, b, rfl, _⟩ := h
    rfl, fun A outer s H args us vs Q E hr h0 hb r h => by
    obtain ⟨x, y, b, _, h, _⟩ := h
    cases h⟩
theorem ok_same (T : TxtS mg) {f : Addr} {fd : FuncData} {n : Nat} (F : FnP K "_law_same" s_law_same f fd) (c_law_same : Cal P w K mg base CX0 n "_law_same" (spSame n)) : FnOk P w K mg base CX0 (n + 1) f fd ["_law_found", "_law_due"] (spSame (n + 1)) := by
  refine F.ok sc_law_same (fun vs H Q E h => ?_) (fun cdv A outer s H vs Q E hr h => ?_)
  · obtain ⟨x, y, b, rfl, _⟩ := h
    rfl
  · obtain ⟨x, y, b, rfl, h, kk⟩ := h
    have hu : A.units + 1 < cLine := by
      have := hr.un
      have e : (A.deeper (envOfC "_law_same" (defScope s_law_same) s.heap.objs.size f cdv)).units = A.units + 3 := rfl
      omega
    refine ⟨_, PSs.nox (pss_cons (ps_if (pt_val (pe_callB (call_isiTK (K := K)) (by rfl) T.isinstance (by decide +kernel) (pa_cons (pv 1) (pa_cons (pe_tup (pa_cons (pe_bltn (v := .ty "list") (u := .type "list") (by rfl) T.list (by decide +kernel) rfl) (pa_cons (pe_bltn (v := .ty "tuple") (u := .type "tuple") (by rfl) T.tuple (by decide +kernel) rfl) pa_nil))) pa_nil)))) (pss_cons (ps_if (PW.pt (pw_or (pt_cmpR op_ne (pe_callB (call_isiK' (K := K)) (by rfl) T.isinstance (by decide +kernel) (pa_cons (pv 0) (pa_cons (pe_bltn (v := .ty "list") (u := .type "list") (by rfl) T.list (by decide +kernel) rfl) pa_nil))) (pe_callB (call_isiK' (K := K)) (by rfl) T.isinstance (by decide +kernel) (pa_cons (pv 1) (pa_cons (pe_bltn (v := .ty "list") (u := .type "list") (by rfl) T.list (by decide +kernel) rfl) pa_nil))) (nomark _)) (pw_or1 (pt_cmpR op_ne (pe_callB (call_isiK' (K := K)) (by rfl) T.isinstance (by decide +kernel) (pa_cons (pv 0) (pa_cons (pe_bltn (v := .ty "tuple") (u := .type "tuple") (by rfl) T.tuple (by decide +kernel) rfl) pa_nil))) (pe_callB (call_isiK' (K := K)) (by rfl) T.isinstance (by decide +kernel) (pa_cons (pv 1) (pa_cons (pe_bltn (v := .ty "tuple") (u := .type "tuple") (by rfl) T.tuple (by decide +kernel) rfl) pa_nil))) (nomark _))))) (pss_one (ps_ret pe_bl)) pss_nil)
  (pss_one (ps_ret (pe_and (pe_cmpR op_eq (pe_callB (call_lenK (K := K)) (by rfl) T.len (by decide +kernel) (pa_cons (pv 0) pa_nil)) (pe_callB (call_lenK (K := K)) (by rfl) T.len (by decide +kernel) (pa_cons (pv 1) pa_nil)) (nomark _)) (pe_one (pe_callB (call_allK (K := K) rfl) (by rfl) T.all (by decide +kernel) (pa_cons (pe_lc (own := [("_law_a", 2), ("_law_b", 3)]) (g := (gTup K 2 (gCons (gName 2) (gCons (gName 3) gNil)))) rfl sc_law_same.nd (pi_zipK (K := K) (by rfl) T.zip (pa_cons (pv 0) (pa_cons (pv 1) pa_nil))) (blkOk_by (own := [("_law_a", 2), ("_law_b", 3)]) (N := ["_law_found", "_law_due", "_law_a", "_law_b"]) (sc := defScope s_law_same) (by decide +kernel)) (fun _ _ _ _ _ => (pg_tupK (K := K) rfl (pgs_cons (pg_name (i := 2) sc_law_same.nd rfl (Or.inl rfl) (hf := Or.inr rfl)) (pgs_cons (pg_name (i := 3) sc_law_same.nd rfl (Or.inl rfl) (hf := Or.inr rfl)) pgs_nil)))) (fun _ _ _ _ _ => pts_nil) (fun _ _ _ _ _ => (pe_c c_law_same hr (by first | decide | omega) (by rfl) (pa_cons (pv 2) (pa_cons (pv 3) pa_nil))))) pa_nil))))))) pss_nil)
  (pss_cons (ps_if (pt_val (pe_callB (call_isiK' (K := K)) (by rfl) T.isinstance (by decide +kernel) (pa_cons (pv 1) (pa_cons (pe_bltn (v := .ty "int") (u := .type "int") (by rfl) T.int (by decide +kernel) rfl) pa_nil)))) (pss_one (ps_ret (pe_and (pe_callB (call_isiK' (K := K)) (by rfl) T.isinstance (by decide +kernel) (pa_cons (pv 0) (pa_cons (pe_bltn (v := .ty "int") (u := .type "int") (by rfl) T.int (by decide +kernel) rfl) pa_nil))) (pe_and (pe_cmpR op_eq (pe_callB (call_isiK' (K := K)) (by rfl) T.isinstance (by decide +kernel) (pa_cons (pv 0) (pa_cons (pe_bltn (v := .ty "bool") (u := .type "bool") (by rfl) T.bool (by decide +kernel) rfl) pa_nil))) (pe_callB (call_isiK' (K := K)) (by rfl) T.isinstance (by decide +kernel) (pa_cons (pv 1) (pa_cons (pe_bltn (v := .ty "bool") (u := .type "bool") (by rfl) T.bool (by decide +kernel) rfl) pa_nil))) (nomark _)) (pe_one (pe_cmpR (op_orR op_eq (op_eqVK (K := K) (hu64_of hr))) (pv 0) (pv 1) (nomark _))))))) pss_nil)
  (pss_one (ps_ret (pe_and (pe_cmpR op_is_bl (pe_callB (call_isiTK (K := K)) (by rfl) T.isinstance (by decide +kernel) (pa_cons (pv 0) (pa_cons (pe_tup (pa_cons (pe_bltn (v := .ty "bool") (u := .type "bool") (by rfl) T.bool (by decide +kernel) rfl) (pa_cons (pe_bltn (v := .ty "int") (u := .type "int") (by rfl) T.int (by decide +kernel) rfl) (pa_cons (pe_bltn (v := .ty "list") (u := .type "list") (by rfl) T.list (by decide +kernel) rfl) (pa_cons (pe_bltn (v := .ty "tuple") (u := .type "tuple") (by rfl) T.tuple (by decide +kernel) rfl) pa_nil))))) pa_nil))) pe_bl (nomark _)) (pe_one (pe_cmpR (op_orR op_eq (op_eqVK (K := K) (hu64_of hr))) (pv 0) (pv 1) (nomark _)))))))), ?_⟩
    have on2 : ∀ {tp : Addr} {o : HO}, H tp = none → Same H (upd H tp o) := fun h => Same.new h
    -- what follows where both are lists, both are tuples
    have whole : ∀ {a c : Addr} {xs ys : List V} {bs : List Bool} {H1 : Hp} {Qr : Addr → Hp → Prop} {J : It} {K' : PySem.W.Frag}, Same H H1 → (Walk J xs.length (fun H2 => Same H1 H2) (YPair (fun i => xs[i]?) (fun i => ys[i]?))) → xs.length = bs.length → xs.length ≤ 10000 →
        (∀ (i : Nat) (x y : V) (b : Bool), xs[i]? = some x → ys[i]? = some y → bs[i]? = some b → SameB H n x y b) → (∀ D H2, Same H1 H2 → H2 D = some (.lst (bs.map V.bl)) → Qr D H2) →
        ∀ D, H1 D = none → ∃ W : Nat → Nat → Hp → Prop, (∃ m, W 0 m (upd H1 D (.lst []))) ∧ ∀ i m H, W i m H → (J.stop i H ∧ Qr D H) ∨ (J.go i H ∧ ∃ Nx : Hp → Prop, (∀ H', Nx H' → ∃ m', m' < m ∧ W (i + 1) m' H') ∧
          ∀ x H', J.yld i H x H' → gTup K' 2 (gCons (gName 2) (gCons (gName 3) gNil)) x (wipe (start ["_law_found", "_law_due", "_law_a", "_law_b"] [.ref a, .ref c]) [2, 3]) H' fun σ2 H2 => wipe σ2 [2, 3] = wipe (start ["_law_found", "_law_due", "_law_a", "_law_b"] [.ref a, .ref c]) [2, 3] ∧
            tYes σ2 H2 fun b H3 => if b = true then tCall (spSame n) [] E0 (tCons (tVar 2) (tCons (tVar 3) tNil)) σ2 H3 fun y H4 => ∃ acc, H4 D = some (.lst acc) ∧ acc.length < sizeLine ∧ Nx (upd H4 D (.lst (acc ++ [y]))) else Nx H3) := by
      intro a c xs ys bs H1 Qr J K' s1 w hb hz hh hq D hD
      refine lc_it w (fun i H' => Same H1 H' ∧ H' D = some (.lst ((bs.take i).map V.bl))) ⟨Same.new hD, upd_same⟩ (fun i H' _ p => p.1) ?_ (fun H' p => hq D H' p.1 (by rw [p.2, hb, List.take_length]))
      rintro i x H2 H3 hi ⟨s2, hD2⟩ ⟨T', u, v, rfl, hT, rfl, hu, hv⟩
      have hD3 : (upd H2 T' (.tup [u, v])) D = some (.lst ((bs.take i).map V.bl)) := by
        rw [upd_ne (ne_of_none hD2 hT)]
        exact hD2
      have s3 : Same H1 (upd H2 T' (.tup [u, v])) := s2.trans (Same.new hT)
      have hib : i < bs.length := by omega
      refine ⟨T', _, rfl, SqT.of upd_same, rfl, _, _, rfl, _, _, rfl, rfl, rfl, ?_⟩
      show tCall (spSame n) [] E0 (tCons (tVar 2) (tCons (tVar 3) tNil)) _ _ _
      refine ⟨_, rfl, _, rfl, u, v, bs[i]'hib, rfl, ?_, fun H5 s5 => ⟨_, s5 _ _ hD3, ?_, ?_, ?_⟩⟩
      · exact (hh i u v _ hu hv (List.getElem?_eq_getElem hib)).on (s1.trans s3)
      · rw [List.length_map, List.length_take]
        exact Nat.lt_of_le_of_lt (Nat.min_le_left _ _) (Nat.lt_trans (by omega) (show 10000 < sizeLine by decide))
      · exact fun b o e => by
          have nb : b ≠ D := fun z => by
            rw [z, hD] at e
            cases e
          rw [upd_ne nb]
          exact s5 b o (s3 b o e)
      · rw [upd_same, List.take_succ, List.getElem?_eq_getElem hib, List.map_append]
        rfl
    -- isinstance(due, (list, tuple))
    have first : ∀ {l : Knd} {y : V}, KindOf H y l → True := fun _ => trivial
    cases h with
    | lst hx hy hl hb hz hh =>
      refine ⟨_, rfl, by show 2 ≤ sizeLine; decide, fun tp htp => ⟨_, _, _, _, _, _, rfl, upd_same, cls_all [.lst, .tup], (KindOf.lst ((on2 htp) _ _ hy)).ty, kit_any _ [.lst, .tup], ⟨_, rfl, iteT ?_⟩⟩⟩
      have hx' := on2 (o := .tup [V.ty "list", V.ty "tuple"]) htp _ _ hx
      have hy' := on2 (o := .tup [V.ty "list", V.ty "tuple"]) htp _ _ hy
      refine ⟨_, rfl, ⟨_, _, _, _, _, rfl, .ty _, (KindOf.lst hx').ty, kit_knd _ .lst, ⟨_, rfl, ⟨_, _, _, _, _, rfl, .ty _, (KindOf.lst hy').ty, kit_knd _ .lst, ⟨rfl, _, rfl, iteF ?_⟩⟩⟩⟩⟩
      refine ⟨_, rfl, ⟨_, _, _, _, _, rfl, .ty _, (KindOf.lst hx').ty, kit_knd _ .tup, ⟨_, rfl, ⟨_, _, _, _, _, rfl, .ty _, (KindOf.lst hy').ty, kit_knd _ .tup, ⟨rfl, _, rfl, iteF ?_⟩⟩⟩⟩⟩
      refine ⟨_, rfl, _, _, rfl, .inl (SqL.of hx'), _, rfl, _, _, rfl, .inl (SqL.of hy'), rfl, _, rfl, ite2 (fun _ => ?_) (fun ne => absurd (decide_eq_true (by rw [hl])) ne)⟩
      refine ⟨_, rfl, _, rfl, _, _, _, _, rfl, .inl ⟨SqL.of hx', SqL.of hy', whole (on2 htp) ?_ hb hz hh ?_⟩⟩
      · exact (walk_zip (by rw [hl, Nat.min_self])).mono (fun H2 s2 => ⟨SqL.of (s2 _ _ hx'), SqL.of (s2 _ _ hy')⟩) fun _ _ _ _ _ _ y => y
      · exact fun D H2 s2 hD => ⟨D, _, rfl, SqL.of hD, kk H2 ((on2 htp).trans s2)⟩
    | tup hx hy hl hb hz hh =>
      refine ⟨_, rfl, by show 2 ≤ sizeLine; decide, fun tp htp => ⟨_, _, _, _, _, _, rfl, upd_same, cls_all [.lst, .tup], (KindOf.tup ((on2 htp) _ _ hy)).ty, kit_any _ [.lst, .tup], ⟨_, rfl, iteT ?_⟩⟩⟩
      have hx' := on2 (o := .tup [V.ty "list", V.ty "tuple"]) htp _ _ hx
      have hy' := on2 (o := .tup [V.ty "list", V.ty "tuple"]) htp _ _ hy
      refine ⟨_, rfl, ⟨_, _, _, _, _, rfl, .ty _, (KindOf.tup hx').ty, kit_knd _ .lst, ⟨_, rfl, ⟨_, _, _, _, _, rfl, .ty _, (KindOf.tup hy').ty, kit_knd _ .lst, ⟨rfl, _, rfl, iteF ?_⟩⟩⟩⟩⟩
      refine ⟨_, rfl, ⟨_, _, _, _, _, rfl, .ty _, (KindOf.tup hx').ty, kit_knd _ .tup, ⟨_, rfl, ⟨_, _, _, _, _, rfl, .ty _, (KindOf.tup hy').ty, kit_knd _ .tup, ⟨rfl, _, rfl, iteF ?_⟩⟩⟩⟩⟩
      refine ⟨_, rfl, _, _, rfl, .inr (SqT.of hx'), _, rfl, _, _, rfl, .inr (SqT.of hy'), rfl, _, rfl, ite2 (fun _ => ?_) (fun ne => absurd (decide_eq_true (by rw [hl])) ne)⟩
      refine ⟨_, rfl, _, rfl, _, _, _, _, rfl, .inr ⟨SqT.of hx', SqT.of hy', whole (on2 htp) ?_ hb hz hh ?_⟩⟩
      · exact (walk_zipT (by rw [hl, Nat.min_self])).mono (fun H2 s2 => ⟨SqT.of (s2 _ _ hx'), SqT.of (s2 _ _ hy')⟩) fun _ _ _ _ _ _ y => y
      · exact fun D H2 s2 hD => ⟨D, _, rfl, SqL.of hD, kk H2 ((on2 htp).trans s2)⟩
    | lstN hx hy hl =>
      refine ⟨_, rfl, by show 2 ≤ sizeLine; decide, fun tp htp => ⟨_, _, _, _, _, _, rfl, upd_same, cls_all [.lst, .tup], (KindOf.lst ((on2 htp) _ _ hy)).ty, kit_any _ [.lst, .tup], ⟨_, rfl, iteT ?_⟩⟩⟩
      have hx' := on2 (o := .tup [V.ty "list", V.ty "tuple"]) htp _ _ hx
      have hy' := on2 (o := .tup [V.ty "list", V.ty "tuple"]) htp _ _ hy
      refine ⟨_, rfl, ⟨_, _, _, _, _, rfl, .ty _, (KindOf.lst hx').ty, kit_knd _ .lst, ⟨_, rfl, ⟨_, _, _, _, _, rfl, .ty _, (KindOf.lst hy').ty, kit_knd _ .lst, ⟨rfl, _, rfl, iteF ?_⟩⟩⟩⟩⟩
      refine ⟨_, rfl, ⟨_, _, _, _, _, rfl, .ty _, (KindOf.lst hx').ty, kit_knd _ .tup, ⟨_, rfl, ⟨_, _, _, _, _, rfl, .ty _, (KindOf.lst hy').ty, kit_knd _ .tup, ⟨rfl, _, rfl, iteF ?_⟩⟩⟩⟩⟩
      refine ⟨_, rfl, _, _, rfl, .inl (SqL.of hx'), _, rfl, _, _, rfl, .inl (SqL.of hy'), rfl, _, rfl, ite2 (fun e => absurd (Int.ofNat.inj (V.int.inj (of_decide_eq_true e))) hl) (fun _ => kk _ (on2 htp))⟩
    | tupN hx hy hl =>
      refine ⟨_, rfl, by show 2 ≤ sizeLine; decide, fun tp htp => ⟨_, _, _, _, _, _, rfl, upd_same, cls_all [.lst, .tup], (KindOf.tup ((on2 htp) _ _ hy)).ty, kit_any _ [.lst, .tup], ⟨_, rfl, iteT ?_⟩⟩⟩
      have hx' := on2 (o := .tup [V.ty "list", V.ty "tuple"]) htp _ _ hx
      have hy' := on2 (o := .tup [V.ty "list", V.ty "tuple"]) htp _ _ hy
      refine ⟨_, rfl, ⟨_, _, _, _, _, rfl, .ty _, (KindOf.tup hx').ty, kit_knd _ .lst, ⟨_, rfl, ⟨_, _, _, _, _, rfl, .ty _, (KindOf.tup hy').ty, kit_knd _ .lst, ⟨rfl, _, rfl, iteF ?_⟩⟩⟩⟩⟩
      refine ⟨_, rfl, ⟨_, _, _, _, _, rfl, .ty _, (KindOf.tup hx').ty, kit_knd _ .tup, ⟨_, rfl, ⟨_, _, _, _, _, rfl, .ty _, (KindOf.tup hy').ty, kit_knd _ .tup, ⟨rfl, _, rfl, iteF ?_⟩⟩⟩⟩⟩
      refine ⟨_, rfl, _, _, rfl, .inr (SqT.of hx'), _, rfl, _, _, rfl, .inr (SqT.of hy'), rfl, _, rfl, ite2 (fun e => absurd (Int.ofNat.inj (V.int.inj (of_decide_eq_true e))) hl) (fun _ => kk _ (on2 htp))⟩
    | @mis _ _ _ k l hx hy hl hk =>
      refine ⟨_, rfl, by show 2 ≤ sizeLine; decide, fun tp htp => ⟨_, _, _, _, _, _, rfl, upd_same, cls_all [.lst, .tup], (hy.on (on2 htp)).ty, kit_any _ [.lst, .tup], ⟨_, rfl, ?_⟩⟩⟩
      have hx' := hx.on (on2 (o := .tup [V.ty "list", V.ty "tuple"]) htp)
      have hy' := hy.on (on2 (o := .tup [V.ty "list", V.ty "tuple"]) htp)
      rcases hl with rfl | rfl
      · refine iteT ⟨_, rfl, ⟨_, _, _, _, _, rfl, .ty _, (hx').ty, kit_knd _ .lst, ⟨_, rfl, ⟨_, _, _, _, _, rfl, .ty _, (hy').ty, kit_knd _ .lst, ⟨rfl, _, rfl, ?_⟩⟩⟩⟩⟩
        cases k <;> first | exact absurd rfl hk | exact iteT (iteT (kk _ (on2 htp)))
      · refine iteT ⟨_, rfl, ⟨_, _, _, _, _, rfl, .ty _, (hx').ty, kit_knd _ .lst, ⟨_, rfl, ⟨_, _, _, _, _, rfl, .ty _, (hy').ty, kit_knd _ .lst, ⟨rfl, _, rfl, ?_⟩⟩⟩⟩⟩
        cases k <;> first | exact absurd rfl hk | exact iteT (iteT (kk _ (on2 htp))) | (refine iteF ⟨_, rfl, ⟨_, _, _, _, _, rfl, .ty _, (hx').ty, kit_knd _ .tup, ⟨_, rfl, ⟨_, _, _, _, _, rfl, .ty _, (hy').ty, kit_knd _ .tup, ⟨rfl, _, rfl, iteT (kk _ (on2 htp))⟩⟩⟩⟩⟩)
    | sc hx hy =>
      refine ⟨_, rfl, by show 2 ≤ sizeLine; decide, fun tp htp => ⟨_, _, _, _, _, _, rfl, upd_same, cls_all [.lst, .tup], (flat_knd hy).ty, kit_any _ [.lst, .tup], ⟨_, rfl, ?_⟩⟩⟩
      have s1 := on2 (o := .tup [V.ty "list", V.ty "tuple"]) htp
      cases y with
      | byt _ => cases hy
      | flt _ => cases hy
      | ref _ => cases hy
      | ty _ => cases hy
      | non =>
        refine iteF ⟨_, rfl, ⟨_, _, _, _, _, rfl, .ty _, (flat_knd hy).ty, kit_knd _ .int, ⟨_, rfl, iteF ?_⟩⟩⟩
        refine ⟨_, rfl, by show 4 ≤ sizeLine; decide, fun tq htq => ⟨_, _, _, _, _, _, rfl, upd_same, cls_all [.bl, .int, .lst, .tup], (flat_knd hx).ty, kit_any _ [.bl, .int, .lst, .tup], ⟨_, _, rfl, rfl, _, rfl, ?_⟩⟩⟩
        have s2 := s1.trans (Same.new (o := .tup [V.ty "bool", V.ty "int", V.ty "list", V.ty "tuple"]) htq)
        cases x with
        | byt _ => cases hx
        | flt _ => cases hx
        | ref _ => cases hx
        | ty _ => cases hx
        | non => exact iteT ⟨_, rfl, _, rfl, .inl ⟨rfl, kk _ s2⟩⟩
        | str _ => exact iteT ⟨_, rfl, _, rfl, .inl ⟨rfl, kk _ s2⟩⟩
        | bl _ => exact iteF (kk _ s2)
        | int _ => exact iteF (kk _ s2)
      | str _ =>
        refine iteF ⟨_, rfl, ⟨_, _, _, _, _, rfl, .ty _, (flat_knd hy).ty, kit_knd _ .int, ⟨_, rfl, iteF ?_⟩⟩⟩
        refine ⟨_, rfl, by show 4 ≤ sizeLine; decide, fun tq htq => ⟨_, _, _, _, _, _, rfl, upd_same, cls_all [.bl, .int, .lst, .tup], (flat_knd hx).ty, kit_any _ [.bl, .int, .lst, .tup], ⟨_, _, rfl, rfl, _, rfl, ?_⟩⟩⟩
        have s2 := s1.trans (Same.new (o := .tup [V.ty "bool", V.ty "int", V.ty "list", V.ty "tuple"]) htq)
        cases x with
        | byt _ => cases hx
        | flt _ => cases hx
        | ref _ => cases hx
        | ty _ => cases hx
        | non => exact iteT ⟨_, rfl, _, rfl, .inl ⟨rfl, kk _ s2⟩⟩
        | str _ => exact iteT ⟨_, rfl, _, rfl, .inl ⟨rfl, kk _ s2⟩⟩
        | bl _ => exact iteF (kk _ s2)
        | int _ => exact iteF (kk _ s2)
      | bl _ =>
        refine iteF ⟨_, rfl, ⟨_, _, _, _, _, rfl, .ty _, (flat_knd hy).ty, kit_knd _ .int, ⟨_, rfl, iteT ?_⟩⟩⟩
        refine ⟨_, rfl, ⟨_, _, _, _, _, rfl, .ty _, (flat_knd hx).ty, kit_knd _ .int, ⟨_, rfl, ?_⟩⟩⟩
        cases x with
        | byt _ => cases hx
        | flt _ => cases hx
        | ref _ => cases hx
        | ty _ => cases hx
        | non => exact iteF (kk _ s1)
        | str _ => exact iteF (kk _ s1)
        | bl _ => exact iteT ⟨_, rfl, ⟨_, _, _, _, _, rfl, .ty _, (flat_knd hx).ty, kit_knd _ .bl, ⟨_, rfl, ⟨_, _, _, _, _, rfl, .ty _, (flat_knd hy).ty, kit_knd _ .bl, ⟨rfl, _, rfl, iteT ⟨_, rfl, _, rfl, .inl ⟨rfl, kk _ s1⟩⟩⟩⟩⟩⟩⟩
        | int _ => exact iteT ⟨_, rfl, ⟨_, _, _, _, _, rfl, .ty _, (flat_knd hx).ty, kit_knd _ .bl, ⟨_, rfl, ⟨_, _, _, _, _, rfl, .ty _, (flat_knd hy).ty, kit_knd _ .bl, ⟨rfl, _, rfl, iteF (kk _ s1)⟩⟩⟩⟩⟩
      | int _ =>
        refine iteF ⟨_, rfl, ⟨_, _, _, _, _, rfl, .ty _, (flat_knd hy).ty, kit_knd _ .int, ⟨_, rfl, iteT ?_⟩⟩⟩
        refine ⟨_, rfl, ⟨_, _, _, _, _, rfl, .ty _, (flat_knd hx).ty, kit_knd _ .int, ⟨_, rfl, ?_⟩⟩⟩
        cases x with
        | byt _ => cases hx
        | flt _ => cases hx
        | ref _ => cases hx
        | ty _ => cases hx
        | non => exact iteF (kk _ s1)
        | str _ => exact iteF (kk _ s1)
        | int _ => exact iteT ⟨_, rfl, ⟨_, _, _, _, _, rfl, .ty _, (flat_knd hx).ty, kit_knd _ .bl, ⟨_, rfl, ⟨_, _, _, _, _, rfl, .ty _, (flat_knd hy).ty, kit_knd _ .bl, ⟨rfl, _, rfl, iteT ⟨_, rfl, _, rfl, .inl ⟨rfl, kk _ s1⟩⟩⟩⟩⟩⟩⟩
        | bl _ => exact iteT ⟨_, rfl, ⟨_, _, _, _, _, rfl, .ty _, (flat_knd hx).ty, kit_knd _ .bl, ⟨_, rfl, ⟨_, _, _, _, _, rfl, .ty _, (flat_knd hy).ty, kit_knd _ .bl, ⟨rfl, _, rfl, iteF (kk _ s1)⟩⟩⟩⟩⟩
    | dic h hk hf =>
      refine ⟨_, rfl, by show 2 ≤ sizeLine; decide, fun tp htp => ⟨_, _, _, _, _, _, rfl, upd_same, cls_all [.lst, .tup], (KindOf.dic ((on2 htp) _ _ h)).ty, kit_any _ [.lst, .tup], ⟨_, rfl, iteF ?_⟩⟩⟩
      have s1 := on2 (o := .tup [V.ty "list", V.ty "tuple"]) htp
      refine ⟨_, rfl, ⟨_, _, _, _, _, rfl, .ty _, (KindOf.dic (s1 _ _ h)).ty, kit_knd _ .int, ⟨_, rfl, iteF ?_⟩⟩⟩
      refine ⟨_, rfl, by show 4 ≤ sizeLine; decide, fun tq htq => ⟨_, _, _, _, _, _, rfl, upd_same, cls_all [.bl, .int, .lst, .tup], (KindOf.dic ((Same.new htq) _ _ (s1 _ _ h))).ty, kit_any _ [.bl, .int, .lst, .tup], ⟨_, _, rfl, rfl, _, rfl, iteT ?_⟩⟩⟩
      have s2 := s1.trans (Same.new (o := .tup [V.ty "bool", V.ty "int", V.ty "list", V.ty "tuple"]) htq)
      refine ⟨_, rfl, _, rfl, .inr ⟨1, by decide, .inr ⟨_, _, _, _, rfl, rfl, s2 _ _ h, s2 _ _ h, rfl, fun p hp => ⟨p.2, hk p hp, ?_⟩⟩, kk _ s2⟩⟩
      rcases hf p hp with q | ⟨c, q⟩
      · refine .inl ⟨rfl, ?_⟩
        generalize p.2 = v at q
        cases v <;> first | rfl | cases q
      · exact .inr (.inl ⟨c, q, q⟩)
    | @misS _ _ _ k hx hy hk =>
      refine ⟨_, rfl, by show 2 ≤ sizeLine; decide, fun tp htp => ⟨_, _, _, _, _, _, rfl, upd_same, cls_all [.lst, .tup], (flat_knd hy).ty, kit_any _ [.lst, .tup], ⟨_, rfl, ?_⟩⟩⟩
      have s1 := on2 (o := .tup [V.ty "list", V.ty "tuple"]) htp
      have hx' := hx.on s1
      have e1 : isi k .int = false := by rcases hk with rfl | rfl <;> rfl
      have e2 : isiAny k [.bl, .int, .lst, .tup] = true := by rcases hk with rfl | rfl <;> rfl
      cases y with
      | byt _ => cases hy
      | flt _ => cases hy
      | ref _ => cases hy
      | ty _ => cases hy
      | non =>
        refine iteF ⟨_, rfl, ⟨_, _, _, _, _, rfl, .ty _, (flat_knd hy).ty, kit_knd _ .int, ⟨_, rfl, iteF ?_⟩⟩⟩
        refine ⟨_, rfl, by show 4 ≤ sizeLine; decide, fun tq htq => ⟨_, _, _, _, _, _, rfl, upd_same, cls_all [.bl, .int, .lst, .tup], (hx'.on (Same.new htq)).ty, kit_any _ [.bl, .int, .lst, .tup], ⟨_, _, rfl, rfl, _, rfl, ?_⟩⟩⟩
        rw [e2]
        exact iteF (kk _ (s1.trans (Same.new htq)))
      | str _ =>
        refine iteF ⟨_, rfl, ⟨_, _, _, _, _, rfl, .ty _, (flat_knd hy).ty, kit_knd _ .int, ⟨_, rfl, iteF ?_⟩⟩⟩
        refine ⟨_, rfl, by show 4 ≤ sizeLine; decide, fun tq htq => ⟨_, _, _, _, _, _, rfl, upd_same, cls_all [.bl, .int, .lst, .tup], (hx'.on (Same.new htq)).ty, kit_any _ [.bl, .int, .lst, .tup], ⟨_, _, rfl, rfl, _, rfl, ?_⟩⟩⟩
        rw [e2]
        exact iteF (kk _ (s1.trans (Same.new htq)))
      | bl _ =>
        refine iteF ⟨_, rfl, ⟨_, _, _, _, _, rfl, .ty _, (flat_knd hy).ty, kit_knd _ .int, ⟨_, rfl, iteT ?_⟩⟩⟩
        refine ⟨_, rfl, ⟨_, _, _, _, _, rfl, .ty _, (hx').ty, kit_knd _ .int, ⟨_, rfl, ?_⟩⟩⟩
        rw [e1]
        exact iteF (kk _ s1)
      | int _ =>
        refine iteF ⟨_, rfl, ⟨_, _, _, _, _, rfl, .ty _, (flat_knd hy).ty, kit_knd _ .int, ⟨_, rfl, iteT ?_⟩⟩⟩
        refine ⟨_, rfl, ⟨_, _, _, _, _, rfl, .ty _, (hx').ty, kit_knd _ .int, ⟨_, rfl, ?_⟩⟩⟩
        rw [e1]
        exact iteF (kk _ s1)
end
end Sm
namespace PySem
namespace SmX
open Builtin Builtin.ObjectAttr HandSPX
section
variable {M : Model} {A : Around} {E : Value → Shared → Prop} {h : Heap} {g : Array GenState} {d : Drawn} {t : Nat} {os : OsState}
variable {nm q : Str} {C N : Addr} {bs bm bmB : List Value} {hdct : Bool} {sn : List Str} {sub : List Value} {ab : Bool} {col : Option Bool} {dd : Option Addr} {k0 k1 k2 k3 k5 : Option Value} {B newId initId : String}
theorem check_newK (F : ExcBaseFacts B newId initId bmB) (hT : ∀ X : String, bm.contains (.type X) = bmB.contains (.type X)) {rest : List Value} {kw : List (Str × Value)} {Q : Unit → Shared → Prop}
    (hC : h.get? C = some (excClassObj nm q C N bs bm hdct sn sub ab col dd k0 k1 k2 k3 k5 newId)) (hq : Q () ⟨h, g, d, t, os⟩) : wpAny M A (checkBuiltinCall newId ⟨.ref C :: rest, kw⟩) Q E ⟨h, g, d, t, os⟩ := by
  have hcont : (Value.ref C :: bm).contains (.type B) = true := by rw [List.contains_cons, hT, F.hasB, Bool.or_true]
  have hstar := F.noStar
  simp only [checkBuiltinCall, F.newKind, F.newSplit, F.newRow]
  repeat (first | refine wpAny_loadPart_at hC ?_ | (refine wpAny_isSubtype_exc hC ?_; rw [hcont]) | refine wpAny_staticBase_exc hC ?_ | refine wpAny_madeBy_exc hC ?_ | simp only [bne_self_eq_false, Bool.false_eq_true, if_false] | wp_step)
  exact hq
end
section
variable {prog : Program} {w : World} {A : Around} {E : Value → Shared → Prop} {R : Result → Shared → Prop} {h : Heap} {g : Array GenState} {d : Drawn} {t : Nat} {os : OsState}
variable {nm q : Str} {C N : Addr} {bs bm bmB : List Value} {hdct : Bool} {sn : List Str} {sub : List Value} {ab : Bool} {col : Option Bool} {dd : Option Addr} {k0 k1 k2 k3 k5 : Option Value} {B newId initId : String}
theorem newK (F : ExcBaseFacts B newId initId bmB) (hT : ∀ X : String, bm.contains (.type X) = bmB.contains (.type X)) {rest : List Value} {kw : List (Str × Value)}
    (hC : h.get? C = some (excClassObj nm q C N bs bm hdct sn sub ab col dd k0 k1 k2 k3 k5 newId))
    (hq : R (.ok (.ret (.ref (h.objs.size + 1)))) ⟨(h.push { cls := .type "tuple", data := .seq rest.toArray }).push
      { cls := .ref C, data := .fields #[.ref h.objs.size, .none, .none, .none, .bool false, .none] }, g, d, t, os⟩) (hrest : rest.length ≤ sizeLine) :
    codeAny (model prog w) A (.builtin newId ⟨.ref C :: rest, kw⟩) R ⟨h, g, d, t, os⟩ := by
  have hends := F.ends
  have hcB : (Value.ref C :: bm).contains (.type B) = true := by rw [List.contains_cons, hT, F.hasB, Bool.or_true]
  have hcA : (Value.ref C :: bm).contains (.type "AttributeError") = false := by rw [List.contains_cons, hT, F.noAttr]; rfl
  have hcN : (Value.ref C :: bm).contains (.type "NameError") = false := by rw [List.contains_cons, hT, F.noName]; rfl
  refine codeAny_builtinAt F.entry ?_
  unfold Builtin.«BaseException.__new__»
  refine wpAt_bind ?_
  show wpAt _ _ _ (stack >>= _) _ _ _
  refine wpAt_bind (wpAt_stack fun p below => wpAt_of_wpAny ?_)
  wp_walk
  refine wpAt_of_wpAny ?_
  rw [F.owner]
  repeat (first | with_reducible refine wpAny_madeHere_exc F.canon hC ?_ | with_reducible refine wpAny_loadPart_at hC ?_ | (with_reducible refine wpAny_isSubtype_exc hC ?_; first | rw [hcB] | rw [hcA] | rw [hcN]) | wp_step)
  show R _ _
  rw [Heap.size_push]
  exact hq
theorem type_callK (F : ExcBaseFacts B newId initId bmB) (hT : ∀ X : String, bm.contains (.type X) = bmB.contains (.type X)) {rest : List Value} {kw : List (Str × Value)} {fI : Addr} {Q : Fin → Shared → Prop}
    (hC : h.get? C = some (excClassObj nm q C N bs bm hdct sn sub ab col dd k0 k1 k2 k3 k5 newId))
    (hi : W.Looks (model prog w) h (typeLookup (.ref C) "__init__") (some (.ref fI))) (hb : ∀ self, W.Looks (model prog w) h (bindSpecial (.ref fI) self) (.ref fI, [self])) (hrest : rest.length ≤ sizeLine)
    (hq : codeAny (model prog w) A (.call (.ref fI) ⟨.ref (h.objs.size + 1) :: rest, kw⟩)
      (fun r s' => match r with | .ok (.ret v) => v = .none ∧ Q (.done (.ret (.ref (h.objs.size + 1)))) s' | .ok _ => False | .error e => E e s')
      ⟨(h.push (W.kdv_tup rest)).push (excO C h.objs.size), g, d, t, os⟩) :
    wpAny (model prog w) A (Builtin.«type.__call__» ⟨.ref C :: rest, kw⟩) Q E ⟨h, g, d, t, os⟩ := by
  repeat (first | with_reducible refine wpAny_loadPart_at hC ?_ | with_reducible refine wpAny_madeBy_exc hC ?_ | wp_step)
  refine codeAny_call_builtin_code (Code.quiet_builtin _ F.quiet) (check_newK F hT hC ?_)
  refine newK F hT hC ?_ hrest
  show wpAny _ _ _ _ _ _
  have k : ∀ b o, h.get? b = some o → ((h.push (W.kdv_tup rest)).push (excO C h.objs.size)).get? b = some o := fun b o e => Heap.get?_push_of_some _ (Heap.get?_push_of_some _ e)
  have hC₁ := k _ _ hC
  have hget : ((h.push (W.kdv_tup rest)).push (excO C h.objs.size)).get? (h.objs.size + 1) = some (excO C h.objs.size) := by heap_get
  have hcC : (Value.ref C :: bm).contains (.ref C) = true := by simp
  have i1 := hi.keeps k
  have b1 := (hb (.ref (h.objs.size + 1))).keeps k
  unfold isInstance
  repeat (first | with_reducible refine wpAny_loadPart_at hget ?_ | (with_reducible refine wpAny_isSubtype_exc hC₁ ?_; rw [hcC]) | wp_step)
  show wpAny _ _ (typeLookup (.ref C) _) _ _ _
  refine i1.at ?_
  refine wpAny_holding (wpAny_bind (b1.at ?_))
  refine wpAny_bind (wpAny_call (codeAny_mono hq fun r s' z => ?_))
  rcases r with e | (v | _ | _ | _) <;> first | exact z | exact z.elim | skip
  obtain ⟨rfl, z⟩ := z
  first
    | exact wpAny_pure (wpAny_pure z)
    | (wp_walk; exact z)
theorem call_ownK (F : ExcBaseFacts B newId initId bmB) (hT : ∀ X : String, bm.contains (.type X) = bmB.contains (.type X)) {rest : List Value} {kw : List (Str × Value)} {fI : Addr}
    (hC : h.get? C = some (excClassObj nm q C N bs bm hdct sn sub ab col dd k0 k1 k2 k3 k5 newId))
    (hi : W.Looks (model prog w) h (typeLookup (.ref C) "__init__") (some (.ref fI))) (hb : ∀ self, W.Looks (model prog w) h (bindSpecial (.ref fI) self) (.ref fI, [self])) (hrest : rest.length ≤ sizeLine)
    (hq : codeAny (model prog w) (A.under (.builtin "type.__call__" ⟨.ref C :: rest, kw⟩)) (.call (.ref fI) ⟨.ref (h.objs.size + 1) :: rest, kw⟩) (W.InitBack (h.objs.size + 1) R)
      ⟨(h.push (W.kdv_tup rest)).push (excO C h.objs.size), g, d, t, os⟩) :
    codeAny (model prog w) A (.call (.ref C) ⟨rest, kw⟩) R ⟨h, g, d, t, os⟩ := by
  have f1 := tc_lookup
  have f2 := tc_bind (.ref C)
  have hTy : (⟨h, g, d, t, os⟩ : Shared).TypeIs (.ref C) "type" := ⟨_, hC, rfl⟩
  refine codeAny_of_tree ?_
  show wpAny _ _ (callAny (.ref C) _) _ _ _
  repeat (any_goals (first | assumption | with_reducible refine wpAny_loadPart_at hC ?_ | wp_step))
  refine ⟨rfl, ?_⟩
  refine codeAny_call_builtin_at (Code.quiet_builtin _ (by decide +kernel)) entry_typeCall (wpAny_check_type_call_sub hC (type_callK F hT hC hi hb hrest ?_))
  refine codeAny_mono hq fun r s' z => ?_
  rcases r with e | (v | _ | _ | _) <;> exact z
end
end SmX
end PySem

namespace PySem.W
open PySem PySem.Spec PySem.Calls PyProof.Rows
section
variable {prog : Program} {w : World} {A : Around} {E : Value → Shared → Prop} {s : Shared} {K : Frag} {x D : Addr} {ox : Obj} {od : Option Obj}
theorem smFindData {C : Addr} {name : Str} {a g : Value} (hc : (clsIn K C).isSome = true) (ha : findIn K (.ref C) name = some (some a)) (hg : specialIn K a "__get__" = some (some g)) (ht : takesIn K a = some true) : findObj K C od name = some (.bind g a) := by
  obtain ⟨cd, hc⟩ := Option.isSome_iff_exists.mp hc
  unfold findObj
  rw [hc, Option.bind_some, ha, Option.bind_some]
  simp [hg, ht]
theorem smClassE {Q : Option Value → Shared → Prop} (hga : findIn K (.ref D) "__getattribute__" = some (some (.builtin "BaseException.__getattribute__"))) (hgt : findIn K (.ref D) "__getattr__" = some none) (hsub : subIn K (.ref D) (.type "BaseException") = some true)
    (hdct : hasDictIn K D = true) (ha : findIn K (.ref D) "__class__" = some (some (.builtin "object.__class__")))
    (hn : specialIn K (.builtin "object.__class__") "__get__" = some (some (.builtin "getset_descriptor.__get__"))) (htk : takesIn K (.builtin "object.__class__") = some true) (hm : mroIn K D (.type "object") = some true)
    (X : K.In s.heap) (I : InstAt s.heap x ox D od) (h : Q (some (.ref D)) { s with toks := s.toks + 1 }) : wpAny (model prog w) A (getAttr? (.ref x) "__class__") Q E s := by
  have hf : findObj K D od "__class__" = some (.bind (.builtin "getset_descriptor.__get__") (.builtin "object.__class__")) := smFindData (by obtain ⟨cd, hc, _⟩ := any_some hdct; rw [hc]; rfl) ha hn htk
  obtain ⟨hp, g, d, t, os⟩ := s
  have L0 := I.type (M := model prog w)
  have L1 := looks_findIn (M := model prog w) X hga
  have L2 := looks_findIn (M := model prog w) X hgt
  have L3 := looks_find (M := model prog w) X I hf
  have sub : Looks (model prog w) hp (isInstance (.ref x) (.type "BaseException")) true := L0.andThen (looks_subIn X hsub)
  have hx0 : (false && onTheHeap (Value.builtin "BaseException.__getattribute__")) = false := rfl
  have hx2 : (Value.builtin "BaseException.__getattribute__" == Value.builtin "object.__getattribute__") = false := by decide +kernel
  have hx1 : (onTheHeap (Value.ref D) && Value.builtin "BaseException.__getattribute__" == Value.builtin "object.__getattribute__") = false := by rw [hx2]; rfl
  unfold getAttr? getAttrBy? getAttrBy
  refine wpAny_bind (wpAny_mkText (wpAny_bind (wpAny_attempt (wpAny_holding (wpAny_bind (L0.at (wpAny_bind (L1.at ?_))))))))
  show wpAny _ _ (if (onTheHeap (Value.ref D) && Value.builtin "BaseException.__getattribute__" == Value.builtin "object.__getattribute__") = true then _ else _) _ _ _
  rw [hx1, if_neg Bool.false_ne_true]
  unfold getAttrByItsOwn hookBefore
  refine wpAny_bind ?_
  rw [if_pos (show onTheHeap (Value.ref D) = true from rfl)]
  refine L2.at ?_
  refine wpAny_bind (wpAny_attempt (wpAny_holding ?_))
  unfold callGetattribute
  rw [hx0, if_neg Bool.false_ne_true]
  unfold boundAndCalled
  rw [PySem.F.excAttr_ValueError.ga.bind (.ref x)]
  refine wpAny_bind (wpAny_pure ?_)
  show wpAny _ _ (call (.builtin "BaseException.__getattribute__") [.ref x, .str "__class__" t]) _ _ _
  refine wpAny_call (codeAny_call_builtin PySem.F.excAttr_ValueError.ga.plain PySem.F.entry_bexc_ga ?_)
  refine @check_slot (model prog w) _ _ ⟨hp, g, d, t + 1, os⟩ "BaseException.__getattribute__" "BaseException" "__getattribute__" (.ref x) [.str "__class__" t] [] _ (by decide +kernel) (by decide +kernel) sub (PySem.F.args_bexc_ga (.ref x) (.str "__class__" t)) ?_
  unfold Builtin.«object.__getattribute__»
  refine wpAny_bind (wpAny_of_eq (a := ((Value.ref x : Value), [Value.str "__class__" t])) (by first | rfl | (simp only [slotArgs]; rfl)) ?_)
  refine wpAny_bind (wpAny_pure (wpAny_bind (L0.at (wpAny_bind (L3.at ?_)))))
  show wpAny _ _ (holding [Value.builtin "object.__class__"] (call (.builtin "getset_descriptor.__get__") [.builtin "object.__class__", .ref x, .ref D]) >>= ret) _ _ _
  refine wpAny_bind (wpAny_holding (wpAny_call (class_get (s := ⟨hp, g, d, t + 1, os⟩) (ox := ox) (od := od) X I hm ?_)))
  refine wpAny_pure ?_
  show wpAny _ _ (handedOut (.ref D)) _ _ _
  rw [handedOut_of (v := .ref D) rfl]
  first
    | exact wpAny_pure (wpAny_pure h)
    | exact wpAny_pure h
    | exact wpAny_pure (wpAny_bind (wpAny_pure (wpAny_pure h)))
theorem smKitExc (hga : findIn K (.ref D) "__getattribute__" = some (some (.builtin "BaseException.__getattribute__"))) (hgt : findIn K (.ref D) "__getattr__" = some none) (hsub : subIn K (.ref D) (.type "BaseException") = some true) (hdct : hasDictIn K D = true) (ha : findIn K (.ref D) "__class__" = some (some (.builtin "object.__class__")))
    (hn : specialIn K (.builtin "object.__class__") "__get__" = some (some (.builtin "getset_descriptor.__get__"))) (htk : takesIn K (.builtin "object.__class__") = some true) (hm : mroIn K D (.type "object") = some true) :
    KitX K (.ref x) (.ref D) (fun h => InstAt h x ox D od) where
  ty := fun _ _ _ I => I.type
  it := fun _ _ X _ => by
    obtain ⟨cdD, hcD, _⟩ := any_some hdct
    unfold clsIn at hcD
    split at hcD
    · rename_i c' d' cd' sl' ho
      intro A' Q' E' s' k q
      unfold isType loadHead
      exact wpAny_bind (wpAny_loadPart (k _ _ (X _ _ ho)) (wpAny_pure q))
    · cases hcD
  ne := fun h tp dd its n sl X htp => by
    obtain ⟨cdD, hcD, _⟩ := any_some hdct
    refine Bool.eq_false_iff.mpr fun q => ?_
    have e : D = tp := Value.ref.inj (beq_iff_eq.mp q)
    subst e
    unfold clsIn at hcD
    split at hcD
    · rename_i c' d' cd' sl' ho
      have z := (X _ _ ho).symm.trans htp
      cases z
    · cases hcD
  ca := fun X I k => smClassE hga hgt hsub hdct ha hn htk hm X I k
end
end PySem.W
namespace Sm
open PySem PySem.Spec PyProof.Rows L2
/-- an exception object at a, of the class at C, its dict at d -/
structure ExAt (H : Hp) (a C d : Addr) (fs : List (Str × V)) : Prop where
  ob : H a = some (exo a C (some d))
  di : H d = some (exd d fs)
/-- what the class of an exception that is held as a value must say -/
structure ExK (K : PySem.W.Frag) (C : Addr) : Prop where
  o : OexC K C
  e : ExcC K C
section
variable {X : Cx}
/-- C(e, ..), held as a value -/
def tMkE (C : Addr) (sp : Sp) (t : TA) : TE := fun σ H Q => t σ H fun vs H1 => vs.length ≤ 1000 ∧ ∀ a, H1 a = none → sp (.ref a :: vs) (upd H1 a (exo a C none)) (fun v H2 => v = .non ∧ Q (.ref a) H2) E0
theorem run_mkE {pins : List (Addr × Obj)} {σ : L2.St} {H : Hp} {s : Shared} {Q : VK} {us ws : List Value} {vs zs : List V} {C fI : Addr} {k n : Nat} {fd : FuncData} {ps ks : List Str} {sp : Sp} {g : List Value → List Value → List Value} {gV : List V → List V → List V}
    (T : OexC X.K C) (iC : PySem.W.findIn X.K (.ref C) "__init__" = some (some (.ref fI))) (tI : PySem.W.typeIn X.K (.ref fI) = some (.type "function"))
    (F1 : FnOk X.prog X.w X.K X.mg X.base CX0 k fI fd ps sp) (hr : Room (k + 1) X.A) (hb : KBn X.K fd ps (n + 1) ks g gV) (I : Inv X pins σ H s) (r : Vals vs us) (rz : Vals zs ws) (l1 : vs.length = n) (l2 : zs.length = ks.length) (hl : vs.length ≤ 1000)
    (h : ∀ a, H a = none → sp (gV (.ref a :: vs) zs) (upd H a (exo a C none)) (fun v H2 => v = .non ∧ Q (.ref a) H2) E0) :
    wpAny (model X.prog X.w) X.A (call (.ref C) us (ks.zip ws)) (EP X pins σ Q) X.xe s := by
  obtain ⟨nm, q, N, bs, bm, sn, sub, ab, col, dd, k0, k1, k2, k3, k5, hC, hbm⟩ := T.cls
  obtain ⟨hp, g0, dr, tk, os⟩ := s
  have hsz : hp.objs.size ≤ hp.objs.size + 1 := Nat.le_succ _
  have hn : H (hp.objs.size + 1) = none := I.hok.fresh hsz
  have hq := h (hp.objs.size + 1) hn
  have kk : ∀ b o, hp.get? b = some o → ((hp.push (PySem.W.kdv_tup us)).push (PySem.HandSPX.excO C hp.objs.size)).get? b = some o := fun b o e => Heap.get?_push_of_some _ (Heap.get?_push_of_some _ e)
  have hget : ((hp.push (PySem.W.kdv_tup us)).push (PySem.HandSPX.excO C hp.objs.size)).get? (hp.objs.size + 1) = some (PySem.HandSPX.excO C hp.objs.size) := by heap_get
  have I2 : Inv X pins σ (upd H (hp.objs.size + 1) (exo (hp.objs.size + 1) C none)) ⟨(hp.push (PySem.W.kdv_tup us)).push (PySem.HandSPX.excO C hp.objs.size), g0, dr, tk, os⟩ :=
    I.laid (t' := tk) (a := hp.objs.size + 1) (o := exo (hp.objs.size + 1) C none) (h' := (hp.push (PySem.W.kdv_tup us)).push (PySem.HandSPX.excO C hp.objs.size)) kk hsz (exo_ok hget)
  have r1 : Vals (V.ref (hp.objs.size + 1) :: vs) (Value.ref (hp.objs.size + 1) :: us) := .cons rfl r
  have r2 := hb.rel r1 rz
  have n1 : (Value.ref (hp.objs.size + 1) :: us).length = n + 1 := by
    rw [List.length_cons, ← r.length, l1]
  have hus : us.length ≤ sizeLine := by
    rw [← Paired.length r, sizeLine_eq]
    omega
  refine wpAny_call (PySem.SmX.call_ownK F.excBase_ValueError (fun Y => PySem.HandSPX.refsVE_contains Y bm hbm) (I.kIn _ _ hC) (PySem.W.looks_findIn I.kIn iC) (fun self => PySem.W.bind_fn I.kIn self tI) hus
    (codeAny_mono (F1.run _ X.stack _ _ ⟨Value.ref (hp.objs.size + 1) :: us, ks.zip ws⟩ (g (Value.ref (hp.objs.size + 1) :: us) ws) _ _ E0 (hr.make C us (ks.zip ws)) (I2.env0.make C us (ks.zip ws)) (hb.to _ (Value.ref (hp.objs.size + 1) :: us) ws I2.kIn n1 (rz.length.symm.trans l2)) r2 hq) fun r s' hq' => ?_))
  cases r with
  | error er => exact pass0 (X := X) pins σ _ _ er s' I2 hq'
  | ok fl =>
    cases fl with
    | ret u =>
      obtain ⟨v, H', I3, rv, ev, q3⟩ := I2.after hq'
      subst ev
      exact ⟨rv, ⟨V.ref (hp.objs.size + 1), H', I3, rfl, q3⟩⟩
    | next => exact False.elim hq'
    | brk => exact False.elim hq'
    | cont => exact False.elim hq'
/-- the class x at C, its __init__ with what it promises: called by place, by keywords -/
structure ExM (P : Program) (w : World) (K : PySem.W.Frag) (mg : Str → Option Value) (base : Heap) (x : Str) (C : Addr) (n : Nat) (ks : List Str) (gV : List V → List V → List V) (sp : Sp) : Prop where
  T : OexC K C
  mgC : mg x = some (.ref C)
  ex : ∃ (fI : Addr) (fd : FuncData) (ps : List Str) (g : List Value → List Value → List Value), PySem.W.findIn K (.ref C) "__init__" = some (some (.ref fI)) ∧ PySem.W.typeIn K (.ref fI) = some (.type "function") ∧ FnOk P w K mg base CX0 1 fI fd ps sp ∧ KBn K fd ps (n + 1) ks g gV
variable {x : Str} {C : Addr} {n : Nat} {ks : List Str} {gV : List V → List V → List V} {sp : Sp} {p pos : Pos} {e : Expr} {es : List Expr} {kws : List Keyword} {t tk : TA} {j : Nat}
def tMkEK (C : Addr) (n m : Nat) (gV : List V → List V → List V) (sp : Sp) (t tk : TA) : TE := fun σ H Q => t σ H fun vs H1 => tk σ H1 fun zs H2 => vs.length = n ∧ zs.length = m ∧ vs.length ≤ 1000 ∧ ∀ a, H2 a = none → sp (gV (.ref a :: vs) zs) (upd H2 a (exo a C none)) (fun v H3 => v = .non ∧ Q (.ref a) H3) E0
theorem pe_mkE (M : ExM X.prog X.w X.K X.mg X.base x C n [] gV sp) (hr : Room j X.A) (hk : 2 ≤ j) (hg : Gl X x) (ha : PA X (e :: es) t)
    (hdb : (x == ("__debug__" : Str)) = false := by decide) (he : starEach (e :: es) X.env = (false, eval e X.env) :: starEach es X.env := by rfl) (hpl : (backTo pos (starEach es X.env)).any (·.1) = false := by rfl) :
    PE X (.Call (.Name x p) (e :: es) [] pos) (tMkEK C n 0 gV sp t tNil) := by
  obtain ⟨fI, fd, ps, g, iC, tI, F1, hb⟩ := M.ex
  refine ⟨fun pins s σ H Q I h => ?_⟩
  refine wpAny_Call_Name_kw (ld_glob I hg M.mgC ?_ hdb)
  refine PySem.W.callWith_K (h₀ := X.base) I.ok.mod.kin M.T.kC (thn (ha.run pos pins s σ H _ I h) fun us s1 ⟨vs, H1, I1, r, l1, l2, hl, q⟩ => ⟨I1.kIn, ?_⟩) he hpl
  exact run_mkE (ws := []) (zs := []) M.T iC tI F1 (hr.mono hk) hb I1 r .nil l1 rfl hl q
theorem pe_mkEK (M : ExM X.prog X.w X.K X.mg X.base x C 0 ks gV sp) (hr : Room j X.A) (hk : 2 ≤ j) (hg : Gl X x) (hkw : PK X kws tk)
    (hall : (backToKw pos (keywordEach kws X.env)).all (·.1.isSome) = true := by rfl) (hks : (backToKw pos (keywordEach kws X.env)).filterMap (·.1) = ks := by rfl) (hdb : (x == ("__debug__" : Str)) = false := by decide)
    (hpl : ((backTo pos (starEach [] X.env)).any (·.1) || (backToKw pos (keywordEach kws X.env)).any (·.1.isNone)) = false := by rfl) :
    PE X (.Call (.Name x p) [] kws pos) (tMkEK C 0 ks.length gV sp tNil tk) := by
  obtain ⟨fI, fd, ps, g, iC, tI, F1, hb⟩ := M.ex
  refine ⟨fun pins s σ H Q I h => ?_⟩
  refine wpAny_Call_Name_kw (ld_glob I hg M.mgC ?_ hdb)
  refine PySem.W.callWith_KW0 (h₀ := X.base) I.ok.mod.kin M.T.kC hall ?_ hpl
  refine thn (hkw.run pos pins s σ H _ I h) fun ws s2 ⟨zs, H2, I2, rz, l1, l2, hl, q2⟩ => ⟨I2.kIn, ?_⟩
  rw [hks]
  exact run_mkE (us := []) (vs := []) M.T iC tI F1 (hr.mono hk) hb I2 .nil rz rfl l2 hl q2
/-- e.f of an exception that is held -/
def tExf (K : PySem.W.Frag) (te : TE) (f : Str) : TE := fun σ H Q => te σ H fun x H1 => ∃ (a C d : Addr) (fs : List (Str × V)) (v : V), x = .ref a ∧ ExAt H1 a C d fs ∧ ExK K C ∧ PySem.W.findIn K (.ref C) f = some none ∧ fs.lookup f = some v ∧ Q v H1
theorem pe_exf {o : Expr} {to : TE} {f : Str} (ho : PE X o to) (hb : attributeBase o f X.env (eval o X.env) = eval o X.env := by rfl) : PE X (.Attribute o f pos) (tExf X.K to f) := by
  refine ⟨fun pins s σ H Q I h => ?_⟩
  refine attr_of hb (thn (ho.run pins s σ H _ I h) fun u s1 hh => ?_)
  obtain ⟨x, H1, I1, rx, a, C, d, fs, v, ex, ea, T, hno, hl, q⟩ := hh
  subst ex
  obtain rfl : u = Value.ref a := rx
  obtain ⟨t1, hoe⟩ := exo_at I1.hok ea.ob
  obtain ⟨mA, hns, hr⟩ := exd_at I1.hok ea.di
  obtain ⟨od, hod, hlk⟩ := lookIn_ns hns
  obtain ⟨u, hu, ru⟩ := RelO.some_of (v := v) (o := mA f) (by rw [← hl]; exact hr f)
  have J : PySem.W.InstAt s1.heap a _ C (some od) := ⟨hoe, rfl, by unfold PySem.W.notCls; rfl, hod⟩
  exact HandSPX.exc_get I1.kIn J T.e.hg T.e.hk T.e.hs (PySem.W.findObj_own T.e.hd hno rfl (by rw [hlk, hu])) (handed_of ru) ⟨v, H1, I1.tok _, ru, q⟩
/-- isinstance(e, c) of an exception that is held -/
def rIsEx (K : PySem.W.Frag) : List V → Hp → VK → Prop := fun xs H Q => ∃ (a C : Addr) (od : Option Addr) (c : V) (u : Value) (b : Bool), xs = [.ref a, c] ∧ H a = some (exo a C od) ∧ (∀ d, od = some d → ∃ fs, H d = some (exd d fs)) ∧ ExK K C ∧ ClsV c u ∧ PySem.W.kitOne K (.ref C) u = some b ∧ Q (.bl b) H
theorem call_isEx : CallR X (.builtin "isinstance") (rIsEx X.K) := by
  intro pins s σ H xs us Q I r h
  obtain ⟨a, C, od, c, u, b, rfl, ea, hd, T, k, e, q⟩ := h
  obtain ⟨u1, u2, rfl, r1, r2⟩ := vals2 r
  have e2 := k.eq r2
  subst e2
  cases (show u1 = Value.ref a from r1)
  obtain ⟨t1, hoe⟩ := exo_at I.hok ea
  have J : ∃ oo, PySem.W.InstAt s.heap a { cls := .ref C, dict := od, data := .fields #[.ref t1, .none, .none, .none, .bool false, .none] } C oo := by
    cases od with
    | none => exact ⟨none, hoe, rfl, rfl, trivial⟩
    | some d =>
      obtain ⟨fs, ed⟩ := hd d rfl
      obtain ⟨mA, ⟨o, es, ep, ho, _⟩, hr⟩ := exd_at I.hok ed
      exact ⟨some o, hoe, rfl, rfl, ho⟩
  obtain ⟨oo, J⟩ := J
  exact PySem.W.kia_one (PySem.W.smKitExc T.e.hg T.e.hk T.e.hs T.e.hd T.e.ha T.e.hn T.e.ht T.e.hm) I.kIn J e (fun z => nomatch z) fun tk => ⟨.bl b, H, I.tok tk, rfl, q⟩
end
/-! ### what an __init__ of such a class promises -/
/-- an exception object with these fields -/
def E1 (H : Hp) (a C : Addr) (fs : List (Str × V)) : Prop := ∃ d, ExAt H a C d fs
theorem E1.on {H H' : Hp} {a C : Addr} {fs : List (Str × V)} (e : Same H H') (h : E1 H a C fs) : E1 H' a C fs := let ⟨d, x⟩ := h; ⟨d, e _ _ x.ob, e _ _ x.di⟩
def spI1 (K : PySem.W.Frag) (C : Addr) (f : Str) : Sp := fun vs H Q _ => ∃ (a : Addr) (v : V), vs = [.ref a, v] ∧ OexC K C ∧ PySem.W.findIn K (.ref C) f = some none ∧ H a = some (exo a C none) ∧ ∀ H', Off a H H' → E1 H' a C [(f, v)] → Q .non H'
def spI2 (K : PySem.W.Frag) (C : Addr) (f g : Str) : Sp := fun vs H Q _ => ∃ (a : Addr) (v u : V), vs = [.ref a, v, u] ∧ OexC K C ∧ PySem.W.findIn K (.ref C) f = some none ∧ PySem.W.findIn K (.ref C) g = some none ∧ H a = some (exo a C none) ∧ ∀ H', Off a H H' → E1 H' a C [(g, u), (f, v)] → Q .non H'
theorem kbn_of {K : PySem.W.Frag} {x qual : Str} {params : Arguments} {body : List Stmt} {scope : Scope} {f : Addr} {fd : FuncData} {ps ks : List Str} {n : Nat} {g : List Value → List Value → List Value} {gV : List V → List V → List V}
    (F : FunD K x qual params body scope [] [] f fd) (h : ∀ (kV doc pm : Value) (an : Option Addr) (cdv ct : Value) (us ws : List Value), us.length = n → ws.length = ks.length → bindArgs (PySem.W.fnOf x qual params body scope .none kV doc pm an cdv ct) ⟨us, ks.zip ws⟩ = pure (ps.zip (g us ws)))
    (hrel : ∀ {vs : List V} {us : List Value} {zs : List V} {ws : List Value}, Vals vs us → Vals zs ws → Vals (gV vs zs) (g us ws)) : KBn K fd ps n ks g gV := by
  obtain ⟨oc, od, dV, kV, doc, pm, an, cdv, ct, osl, rfl, lk, hcd, hD, hK⟩ := F.ex
  rcases hD with ⟨_, rfl⟩ | ⟨e, _⟩
  · exact ⟨fun s us ws _ l1 l2 => BindsTo.of_eq (h kV doc pm an cdv ct us ws l1 l2), hrel⟩
  · exact absurd rfl e
/-- the two readings of such a body -/
theorem read_I1 {K : PySem.W.Frag} {C : Addr} {f : Str} {N : List Str} {vs : List V} {H : Hp} {Q : VK} {E : XK} (hN : N.length = 2) (h : spI1 K C f vs H Q E) : tOst K f (tVar 0) (tVar 1) { nx := fun _ H' => Q .non H', rt := Q } (L2.start N vs) H := by
  obtain ⟨a, v, rfl, T, hno, ha, k⟩ := h
  have e : L2.start N [V.ref a, v] = [some (V.ref a), some v] := by
    unfold L2.start
    rw [hN]
    rfl
  rw [e]
  refine ⟨v, rfl, _, rfl, a, C, rfl, T, hno, .inl ⟨ha, fun d hd ne => k _ (fun b o nb eb => ?_) ⟨d, upd_same, ?_⟩⟩⟩
  · rw [upd_ne nb, upd_ne (ne_of_none eb hd)]
    exact eb
  · rw [upd_ne ne, upd_same]
theorem read_I2 {K : PySem.W.Frag} {C : Addr} {f g : Str} {N : List Str} {vs : List V} {H : Hp} {Q : VK} {E : XK} (hN : N.length = 3) (h : spI2 K C f g vs H Q E) : tSeq (tOst K f (tVar 0) (tVar 1)) (tOst K g (tVar 0) (tVar 2)) { nx := fun _ H' => Q .non H', rt := Q } (L2.start N vs) H := by
  obtain ⟨a, v, u, rfl, T, hno, hno2, ha, k⟩ := h
  have e : L2.start N [V.ref a, v, u] = [some (V.ref a), some v, some u] := by
    unfold L2.start
    rw [hN]
    rfl
  rw [e]
  refine ⟨v, rfl, _, rfl, a, C, rfl, T, hno, .inl ⟨ha, fun d hd ne => ?_⟩⟩
  refine ⟨u, rfl, _, rfl, a, C, rfl, T, hno2, .inr ⟨d, _, upd_same, by rw [upd_ne ne, upd_same], by show 1 ≤ 900; decide, k _ (fun b o nb eb => ?_) ⟨d, by rw [upd_ne (Ne.symm ne), upd_same], upd_same⟩⟩⟩
  have nbd : b ≠ d := ne_of_none eb hd
  rw [upd_ne nbd, upd_ne nb, upd_ne nbd]
  exact eb
/-! ### rows of them -/
/-- what is known of a class with one field -/
structure K1 (K : PySem.W.Frag) (q : Str × Str) : Prop where
  e : ExK K (He.ga K q.1)
  no : PySem.W.findIn K (.ref (He.ga K q.1)) q.2 = some none
def gK1 : List V → List V → List V := fun vs zs => vs ++ zs
theorem mk_same {H H1 H2 : Hp} {a C : Addr} (ha : H a = none) (e : H1 = upd H a (exo a C none)) (o : Off a H1 H2) : Same H H2 := fun b u h => by
  have nb : b ≠ a := ne_of_none h ha
  refine o b u nb ?_
  rw [e, upd_ne nb]
  exact h
def tMks (K : PySem.W.Frag) (i : Nat) : List (Str × Str) → TA
  | [] => tNil
  | q :: r => tCons (tMkEK (He.ga K q.1) 0 1 gK1 (spI1 K (He.ga K q.1) q.2) tNil (tCons (tVar i) tNil)) (tMks K i r)
def tMksP (K : PySem.W.Frag) (i : Nat) : List (Str × Str) → TA
  | [] => tNil
  | q :: r => tCons (tMkEK (He.ga K q.1) 1 0 gK1 (spI1 K (He.ga K q.1) q.2) (tCons (tVar i) tNil) tNil) (tMksP K i r)
/-- each of the row's errors, holding v -/
abbrev Row1 (K : PySem.W.Frag) (H : Hp) (v : V) : List (Str × Str) → List V → Prop := Paired fun q u => ∃ a, u = .ref a ∧ E1 H a (He.ga K q.1) [(q.2, v)]
theorem Row1.on {K : PySem.W.Frag} {H H' : Hp} {v : V} {qs : List (Str × Str)} {us : List V} (e : Same H H') (h : Row1 K H v qs us) : Row1 K H' v qs us := Paired.mapP h fun q u ⟨a, e1, x⟩ => ⟨a, e1, x.on e⟩
theorem mks_ok {K : PySem.W.Frag} {i : Nat} {v : V} {σ : L2.St} (hv : σ[i]? = some (some v)) : ∀ {qs : List (Str × Str)} {H : Hp} {Q : List V → Hp → Prop}, (∀ q ∈ qs, K1 K q) → (∀ us H', Same H H' → Row1 K H' v qs us → Q us H') → tMks K i qs σ H Q
  | [], H, Q, _, k => k [] H (Same.refl H) .nil
  | q :: r, H, Q, h, k => by
    refine ⟨v, hv, rfl, rfl, Nat.zero_le _, fun a ha => ⟨a, v, rfl, (h q List.mem_cons_self).e.o, (h q List.mem_cons_self).no, upd_same, fun H1 o1 e1 => ⟨rfl, ?_⟩⟩⟩
    have s1 : Same H H1 := mk_same ha rfl o1
    exact mks_ok hv (fun p hp => h p (List.mem_cons_of_mem _ hp)) fun us H2 s2 x => k _ H2 (s1.trans s2) (.cons ⟨a, rfl, e1.on s2⟩ x)
theorem mksP_ok {K : PySem.W.Frag} {i : Nat} {v : V} {σ : L2.St} (hv : σ[i]? = some (some v)) : ∀ {qs : List (Str × Str)} {H : Hp} {Q : List V → Hp → Prop}, (∀ q ∈ qs, K1 K q) → (∀ us H', Same H H' → Row1 K H' v qs us → Q us H') → tMksP K i qs σ H Q
  | [], H, Q, _, k => k [] H (Same.refl H) .nil
  | q :: r, H, Q, h, k => by
    refine ⟨v, hv, rfl, rfl, by show 1 ≤ 1000; decide, fun a ha => ⟨a, v, rfl, (h q List.mem_cons_self).e.o, (h q List.mem_cons_self).no, upd_same, fun H1 o1 e1 => ⟨rfl, ?_⟩⟩⟩
    have s1 : Same H H1 := mk_same ha rfl o1
    exact mksP_ok hv (fun p hp => h p (List.mem_cons_of_mem _ hp)) fun us H2 s2 x => k _ H2 (s1.trans s2) (.cons ⟨a, rfl, e1.on s2⟩ x)
/-- made[j].f, made[j + 1].g, .. -/
def tHeld (K : PySem.W.Frag) (i : Nat) : Nat → List (Str × Str) → TA
  | _, [] => tNil
  | j, q :: r => tCons (tExf K (tOp (rIxL K) (tVar i) (tC (.int (j : Int)))) q.2) (tHeld K i (j + 1) r)
theorem held_ok {K : PySem.W.Frag} {i : Nat} {v : V} {σ : L2.St} {l : Addr} {us : List V} {H : Hp} (hv : σ[i]? = some (some (.ref l))) (hl : SqL K H l us) : ∀ {qs : List (Str × Str)} {j : Nat} {Q : List V → Hp → Prop}, (∀ q ∈ qs, K1 K q) → Row1 K H v qs ((us.drop j).take qs.length) →
    Q (List.replicate qs.length v) H → tHeld K i j qs σ H Q
  | [], j, Q, _, _, k => k
  | q :: r, j, Q, h, x, k => by
    cases e : us.drop j with
    | nil =>
      rw [e] at x
      cases x
    | cons u rest =>
      rw [e] at x
      have x2 : Row1 K H v (q :: r) (u :: rest.take r.length) := x
      cases x2 with
      | cons hu hr =>
        obtain ⟨a, rfl, d, ea⟩ := hu
        have hj : us[j]? = some (V.ref a) := by
          have z : (us.drop j)[0]? = some (V.ref a) := by rw [e]; rfl
          rw [List.getElem?_drop] at z
          exact z
        have er : us.drop (j + 1) = rest := by
          rw [← List.drop_drop, e]
          rfl
        refine ⟨_, hv, l, us, _, _, rfl, rfl, hl, atI_nat hj, a, _, d, _, v, rfl, ea, (h q List.mem_cons_self).e, (h q List.mem_cons_self).no, by simp [List.lookup], ?_⟩
        exact held_ok hv hl (fun p hp => h p (List.mem_cons_of_mem _ hp)) (by rw [er]; exact hr) k
/-- isinstance(e, C), isinstance(e, D), .. -/
def tCls (K : PySem.W.Frag) (i : Nat) : List Str → TA
  | [] => tNil
  | x :: r => tCons (tCB (rIsEx K) (tCons (tVar i) (tCons (tC (.ref (He.ga K x))) tNil))) (tCls K i r)
theorem cls_ok {K : PySem.W.Frag} {i : Nat} {σ : L2.St} {H : Hp} {a C : Addr} {od : Option Addr} {b : Str → Bool} (hv : σ[i]? = some (some (.ref a))) (ha : H a = some (exo a C od)) (hd : ∀ d, od = some d → ∃ fs, H d = some (exd d fs)) (T : ExK K C) :
    ∀ {xs : List Str} {Q : List V → Hp → Prop}, (∀ x ∈ xs, PySem.W.kitOne K (.ref C) (.ref (He.ga K x)) = some (b x)) → Q (xs.map fun x => .bl (b x)) H → tCls K i xs σ H Q
  | [], Q, _, k => k
  | x :: r, Q, h, k => ⟨_, hv, a, C, od, _, _, _, rfl, ha, hd, T, .own _, h x List.mem_cons_self, cls_ok hv ha hd T (fun y hy => h y (List.mem_cons_of_mem _ hy)) k⟩
end Sm
namespace Sm
open PySem PySem.Spec PyProof.Rows L2
section
variable {X : Cx}
/-- C(), an own exception class without an __init__ of its own, held as a value -/
def tMk0 (C : Addr) : TE := fun σ H Q => ∀ a, H a = none → Q (.ref a) (upd H a (exo a C none))
theorem pe_mk0 {C : Addr} {bmB : List Value} {B newId initId : String} {x : Str} {p pos : Pos} (F : ExcBaseFacts B newId initId bmB) (q : PySem.W.excIn X.K C bmB newId = true) (gC : X.mg x = some (.ref C)) (kC : PySem.W.keepIn X.K (.ref C) = true) (hg : Gl X x)
    (hdb : (x == ("__debug__" : Str)) = false := by decide) : PE X (.Call (.Name x p) [] [] pos) (tMk0 C) := by
  refine ⟨fun pins s σ H Q I h => ?_⟩
  refine wpAny_Call_Name_kw (ld_glob I hg gC ?_ hdb)
  refine PySem.W.callWith_K0 I.kIn kC ?_
  show wpAny _ _ (call (.ref C) []) _ _ _
  obtain ⟨bm, N, nm, qn, bs, hdct, sn, sub, ab, col, dd, k0, k1, k2, k3, k5, mN, hC, hN, hni, T⟩ := exc_obj I.kIn q
  refine wpAny_call_exc_subT F T hC hN hni (fun h' a hm => ?_) (Nat.zero_le _)
  have hn : H a = none := I.hok.gone hm.new
  obtain ⟨t, ht, _, _⟩ := hm.there
  exact ⟨.ref a, upd H a (exo a C none), I.laidN hm.keeps hm.new hn (exo_ok ht), rfl, h a hn⟩
theorem call_isExK {K : PySem.W.Frag} (h : X.K = K := by rfl) : CallR X (.builtin "isinstance") (rIsEx K) := by subst h; exact call_isEx
theorem pe_exfK {K : PySem.W.Frag} {o : Expr} {to : TE} {f : Str} {pos : Pos} (ho : PE X o to) (h : X.K = K := by rfl) (hb : attributeBase o f X.env (eval o X.env) = eval o X.env := by rfl) : PE X (.Attribute o f pos) (tExf K to f) := by subst h; exact pe_exf ho hb
end
end Sm
namespace Sm
open PySem PySem.Spec PyProof.Rows L2
theorem rcat_ok {Q : VK} {l b : Addr} {xs zs : List V} {H2 : Hp} (hl : H2 l = some (.lst xs)) (hz : xs.length + zs.length ≤ 1000) (k : ∀ p H', H2 p = none → Same H2 H' → H' p = some (.lst (xs ++ zs)) → Q (.ref p) H') (hb : H2 b = none) :
    rCat (.ref l) (.ref b) (upd H2 b (.lst zs)) Q := by
  refine ⟨l, b, xs, zs, rfl, rfl, ?_, upd_same, Nat.le_trans hz (by decide), fun p hp => ?_⟩
  · rw [upd_ne (ne_of_none hl hb)]
    exact hl
  · have hp1 : H2 p = none := by
      have nb : p ≠ b := fun e => by
        rw [e, upd_same] at hp
        cases hp
      rw [upd_ne nb] at hp
      exact hp
    exact k p _ hp1 ((Same.new hb).trans (Same.new hp)) upd_same
theorem lst_ok {Q : Addr → Hp → Prop} {xs : List V} {H1 : Hp} (hz : xs.length ≤ 1000) (k : ∀ p H', H1 p = none → Same H1 H' → H' p = some (.lst xs) → Q p H') : xs.length ≤ sizeLine ∧ ∀ p, H1 p = none → Q p (upd H1 p (.lst xs)) :=
  ⟨Nat.le_trans hz (by decide), fun p hp => k p _ hp (Same.new hp) upd_same⟩
theorem rcat_lst {Q : VK} {l : Addr} {xs zs : List V} {H2 : Hp} (hl : H2 l = some (.lst xs)) (hz : xs.length + zs.length ≤ 1000) (k : ∀ p H', H2 p = none → Same H2 H' → H' p = some (.lst (xs ++ zs)) → Q (.ref p) H') :
    zs.length ≤ sizeLine ∧ ∀ b, H2 b = none → rCat (.ref l) (.ref b) (upd H2 b (.lst zs)) Q :=
  ⟨Nat.le_trans (Nat.le_trans (Nat.le_add_left _ _) hz) (by decide), fun b hb => rcat_ok hl hz k hb⟩
theorem Row1.append {K : PySem.W.Frag} {H : Hp} {v : V} : ∀ {qs rs : List (Str × Str)} {us ws : List V}, Row1 K H v qs us → Row1 K H v rs ws → Row1 K H v (qs ++ rs) (us ++ ws)
  | _, _, _, _, .nil, b => b
  | _, _, _, _, .cons h t, b => .cons h (Row1.append t b)
theorem Row1.drop {K : PySem.W.Frag} {H : Hp} {v : V} : ∀ {qs : List (Str × Str)} {us : List V} (n : Nat), Row1 K H v qs us → Row1 K H v (qs.drop n) (us.drop n)
  | _, _, 0, h => h
  | _, _, _ + 1, .nil => .nil
  | _, _, n + 1, .cons _ t => Row1.drop n t
theorem Row1.take {K : PySem.W.Frag} {H : Hp} {v : V} : ∀ {qs : List (Str × Str)} {us : List V} (n : Nat), Row1 K H v qs us → Row1 K H v (qs.take n) (us.take n)
  | _, _, 0, _ => .nil
  | _, _, _ + 1, .nil => .nil
  | _, _, n + 1, .cons h t => .cons h (Row1.take n t)
theorem Row1.seg {K : PySem.W.Frag} {H : Hp} {v : V} {qs : List (Str × Str)} {us : List V} (j n : Nat) (h : Row1 K H v qs us) : Row1 K H v ((qs.drop j).take n) ((us.drop j).take n) := (h.drop j).take n
end Sm
namespace Sm
open PySem PySem.Spec PyProof.Rows L2
/-- a def without parameters, by its name -/
theorem pe_c0 {X : Cx} {j k : Nat} {x : Str} {sp : Sp} {p pos : Pos} (c : Cal X.prog X.w X.K X.mg X.base CX0 k x sp) (hr : Room j X.A) (hk : k ≤ j) (hg : Gl X x)
    (hdb : (x == ("__debug__" : Str)) = false := by decide) : PE X (.Call (.Name x p) [] [] pos) (tCall sp [] E0 tNil) := by
  obtain ⟨f, fd, ps, F, hm, kp, b⟩ := c.ex
  exact pe_call0 F (hr.mono hk) hg hm kp b .nil pass0 hdb
theorem same_seq {K : PySem.W.Frag} {a : Addr} {H H' : Hp} {xs : List V} (e : Same H H') (h : SqL K H a xs) : SqL K H' a xs := by
  rcases h with h | h
  · refine .inl ?_
    rcases h with h | ⟨o, h⟩
    · exact .inl (e _ _ h)
    · exact .inr ⟨o, e _ _ h⟩
  · exact .inr h
/-! ### the words that are drawn from -/
def firsts : List Str := ["a", "b", "k", "q", "zz", "xyz", "abcdefgh", "qrstuvwx", "yzyzyzyz", "w"]
def letters1 : List Nat := [97, 98, 99, 100, 101, 102]
def letters2 : List Nat := [103, 104, 105, 106, 107, 108, 109, 110, 111, 112]
def wrow (c : Nat) : List Str := letters2.map fun d => ⟨#[c, d]⟩
def allWords : List Str := firsts ++ letters1.flatMap wrow
theorem allWords_len : allWords.length = 70 := by decide +kernel
theorem allWords_nodup : allWords.Nodup := by decide +kernel
theorem take_step {α : Type} {l : List α} {i : Nat} {x : α} (h : l[i]? = some x) : l.take (i + 1) = l.take i ++ [x] := by
  rw [List.take_add_one, h]
  rfl
def spWords : Sp := fun vs H Q _ => vs = [] ∧ ∀ L H', H L = none → Same H H' → H' L = some (.lst (allWords.map V.str)) → Q (.ref L) H'
/-- so many words, each one once -/
def spSomeWords : Sp := fun vs H Q _ => ∃ (p c : Addr) (m : Nat), vs = [.ref p, .int (m : Int)] ∧ Dr H p c ∧ m ≤ 70 ∧
  ∀ L (ws : List Str) H', H L = none → Off p H H' → Dr H' p c → H' L = some (.lst (ws.map V.str)) → ws.length = m → ws.Nodup → (∀ x ∈ ws, x ∈ allWords) → Q (.ref L) H'
/-! ### texts in their order -/
def ltS (x y : Str) : Bool := decide (x.cps.toList < y.cps.toList)
def insS (x : Str) (l : List Str) : List Str := l.take (l.filter fun y => ltS y x).length ++ [x] ++ l.drop (l.filter fun y => ltS y x).length
def rising : List Str → List Str := fun l => l.foldl (fun acc x => insS x acc) []
def spRising (K : PySem.W.Frag) : Sp := fun vs H Q _ => ∃ (a : Addr) (xs : List Str), vs = [.ref a] ∧ SqL K H a (xs.map V.str) ∧ xs.length ≤ 1000 ∧
  ∀ L H', H L = none → Same H H' → H' L = some (.lst ((rising xs).map V.str)) → Q (.ref L) H'
theorem insS_len (x : Str) (l : List Str) : (insS x l).length = l.length + 1 := by
  unfold insS
  have e : (l.filter fun y => ltS y x).length ≤ l.length := List.length_filter_le ..
  simp only [List.length_append, List.length_take, List.length_drop, List.length_singleton]
  omega
theorem rising_app (xs : List Str) (x : Str) : rising (xs ++ [x]) = insS x (rising xs) := by
  unfold rising
  rw [List.foldl_append]
  rfl
theorem rising_len (xs : List Str) : (rising xs).length = xs.length := by
  have h : ∀ (l acc : List Str), (l.foldl (fun acc x => insS x acc) acc).length = acc.length + l.length := fun l => by
    induction l with
    | nil => intro acc; rfl
    | cons y r ih =>
      intro acc
      rw [List.foldl_cons, ih, insS_len, List.length_cons]
      omega
  have e := h xs []
  rw [List.length_nil, Nat.zero_add] at e
  exact e
/-! ### lists of texts as data -/
theorem lay_strs : ∀ (xs : List Str), (∀ x ∈ xs, PyData.strOk x = true) → PyData.canLayAll0 (xs.map PyData.str) = true
  | [], _ => rfl
  | x :: r, h => by
    rw [List.map_cons]
    unfold PyData.canLayAll0
    rw [lay_strs r fun y hy => h y (List.mem_cons_of_mem _ hy), Bool.and_true]
    unfold PyData.canLay0
    exact h x (List.mem_cons_self ..)
theorem depth_strs : ∀ (xs : List Str), PyData.depthAll (xs.map PyData.str) ≤ 1
  | [] => by decide
  | x :: r => by
    rw [List.map_cons]
    unfold PyData.depthAll
    have := depth_strs r
    unfold PyData.depth
    omega
theorem shaped_strs (xs : List Str) (h : ∀ x ∈ xs, PyData.strOk x = true) : SeqAt.shaped (.list (xs.map PyData.str)) = true := by
  unfold SeqAt.shaped PyData.canLay0 PyData.depth
  rw [lay_strs xs h, Bool.true_and, decide_eq_true_eq]
  have := depth_strs xs
  omega
theorem dp_strs {K : PySem.W.Frag} {H : Hp} : ∀ (xs : List Str), DpAll K H (xs.map V.str) (xs.map PyData.str)
  | [] => .nil
  | x :: r => .cons (.str x) (dp_strs r)
theorem allWords_ok : ∀ x ∈ allWords, PyData.strOk x = true := by decide +kernel
/-- xs != [] -/
theorem ne_nil {K : PySem.W.Frag} {H : Hp} {a b : Addr} {xs : List Str} {Q : Bool → Hp → Prop} (ha : SqL K H a (xs.map V.str)) (hb : H b = some (.lst [])) (ok : ∀ x ∈ xs, PyData.strOk x = true) (q : Q (!xs.isEmpty) H) : rNeD K (.ref a) (.ref b) H fun x H' => ∃ k, x = .bl k ∧ Q k H' := by
  refine ⟨_, _, .lst ha (dp_strs xs), .lst (xs := []) (ds := []) (SqL.of hb) .nil, shaped_strs xs ok, rfl, _, rfl, ?_⟩
  cases xs with
  | nil => exact q
  | cons x r => exact q
def spMix (K : PySem.W.Frag) : Sp := fun vs H Q _ => ∃ (p c a : Addr) (xs : List Str), vs = [.ref p, .ref a] ∧ Dr H p c ∧ SqL K H a (xs.map V.str) ∧ (∀ x ∈ xs, PyData.strOk x = true) ∧ xs.length ≤ 1000 ∧
  ∀ L (ys : List Str) H', H L = none → Off p H H' → Dr H' p c → H' L = some (.lst (ys.map V.str)) → ys.Perm xs → Q (.ref L) H'
end Sm
namespace Sm
open PySem PySem.Spec PyProof.Rows L2
abbrev s_law_all_words : Stmt := top 38
theorem sc_law_all_words : FnScope ["_law_found", "_law_x", "_law_y"] [] (defScope s_law_all_words) := ⟨rfl, rfl, rfl, by decide +kernel, rfl, by decide +kernel, by decide +kernel⟩

abbrev s_law_some_words : Stmt := top 39
theorem sc_law_some_words : FnScope ["_law_state", "_law_many", "_law_left", "_law_found", "_law_k"] ["_law_state", "_law_many"] (defScope s_law_some_words) := ⟨rfl, rfl, rfl, by decide +kernel, rfl, by decide +kernel, by decide +kernel⟩

abbrev s_law_rising : Stmt := top 40
theorem sc_law_rising : FnScope ["_law_some", "_law_found", "_law_x", "_law_at", "_law_y"] ["_law_some"] (defScope s_law_rising) := ⟨rfl, rfl, rfl, by decide +kernel, rfl, by decide +kernel, by decide +kernel⟩

structure TxtW (mg : Str → Option Value) : Prop where
  len : mg "len" = none
  range : mg "range" = none
section
variable {P : Program} {w : World} {K : PySem.W.Frag} {mg : Str → Option Value} {base : Heap}
theorem abc_cps : ("abcdef" : Str).cps = letters1.toArray := by decide +kernel
theorem ghi_cps : ("ghijklmnop" : Str).cps = letters2.toArray := by decide +kernel
theorem abc_at (i : Nat) : ("abcdef" : Str).cps[i]? = letters1[i]? := by rw [abc_cps, List.getElem?_toArray]
theorem ghi_at (i : Nat) : ("ghijklmnop" : Str).cps[i]? = letters2[i]? := by rw [ghi_cps, List.getElem?_toArray]
theorem ok_all_words {f : Addr} {fd : FuncData} (F : FnP K "_law_all_words" s_law_all_words f fd) : FnOk P w K mg base CX0 1 f fd [] spWords := by
  refine F.ok sc_law_all_words (fun vs H Q E h => ?_) (fun cdv A outer s H vs Q E hr h => ?_)
  · obtain ⟨rfl, _⟩ := h
    rfl
  · obtain ⟨rfl, kk⟩ := h
    refine ⟨_, PSs.nox (pss_cons (ps_set (i := 0) sc_law_all_words.nd rfl (Or.inl rfl) (pe_lst (pa_cons pe_str (pa_cons pe_str (pa_cons pe_str (pa_cons pe_str (pa_cons pe_str (pa_cons pe_str (pa_cons pe_str (pa_cons pe_str (pa_cons pe_str (pa_cons pe_str pa_nil))))))))))))
  (pss_cut (ps_for PassesOwn.never rfl (pi_str pe_str) (pg_name (i := 1) sc_law_all_words.nd rfl (Or.inr rfl)) (pss_one (ps_expr (pe_bmK (K := K) PySem.F.plainAttrs_list PySem.F.slot_list_extend PySem.F.type_list_extend mt_extend (pv 0) (pa_cons (pe_lc (own := [("_law_y", 2)]) (g := (gName 2)) rfl sc_law_all_words.nd (pi_str pe_str) (blkOk_by (own := [("_law_y", 2)]) (N := ["_law_found", "_law_x", "_law_y"]) (sc := defScope s_law_all_words) (by decide +kernel)) (fun _ _ _ _ _ => (pg_name (i := 2) sc_law_all_words.nd rfl (Or.inl rfl) (hf := Or.inr rfl))) (fun _ _ _ _ _ => pts_nil) (fun _ _ _ _ _ => (pe_op op_add_str (pv 1) (pv 2)))) pa_nil)))))
  (pss_one (ps_ret (pv 0))))), ?_⟩
    refine st_seq2 (asg_lst (lst_ok (xs := firsts.map V.str) (by decide) fun L H1 n1 s1 h1 => ?_))
    refine ⟨fun σ' H' => ∃ v1, σ' = [some (.ref L), v1, none] ∧ Same H H' ∧ H' L = some (.lst (allWords.map V.str)), ⟨_, rfl, for_it walk_str (fun i σ' H' => (∃ v1, σ' = [some (.ref L), v1, none]) ∧ Same H H' ∧ H' L = some (.lst ((firsts ++ (letters1.take i).flatMap wrow).map V.str))) ⟨⟨_, rfl⟩, s1, h1⟩ (fun _ _ _ _ _ => trivial) ?_ ?_⟩, ?_⟩
    · rintro i v σ' H2 H3 hi ⟨⟨v1, rfl⟩, s2, h2⟩ ⟨rfl, c, hc, rfl⟩
      rw [abc_at] at hc
      refine ⟨_, rfl, .inl ⟨rfl, _, SqL.of h2⟩, ?_⟩
      refine ⟨_, rfl, fun D hD => lc_it walk_str (fun k H4 => Same H3 H4 ∧ H4 D = some (.lst (((letters2.take k).map fun d => (⟨#[c, d]⟩ : Str)).map V.str))) ⟨Same.new hD, upd_same⟩ (fun _ _ _ _ => trivial) ?_ ?_⟩
      · rintro k u H4 H5 hk ⟨s4, h4⟩ ⟨rfl, d, hd, rfl⟩
        rw [ghi_at] at hd
        refine ⟨rfl, ?_⟩
        refine ⟨_, rfl, _, rfl, _, _, rfl, rfl, by show 1 + 1 ≤ sizeLine; decide, _, h4, ?_, ?_, ?_⟩
        · rw [List.length_map, List.length_map]
          exact Nat.lt_of_le_of_lt (List.length_take_le _ _) (Nat.lt_of_lt_of_le (show k < 100 by rw [ghi_cps] at hk; exact Nat.lt_trans hk (by decide)) (by decide))
        · exact fun b o e => by
            have nb : b ≠ D := ne_of_none e hD
            rw [upd_ne nb]
            exact s4 b o e
        · rw [upd_same, take_step hd, List.map_append, List.map_append]
          rfl
      · rintro H4 ⟨s4, h4⟩
        have en : letters2.take ("ghijklmnop" : Str).cps.size = letters2 := by rw [ghi_cps]; rfl
        rw [en] at h4
        refine ⟨L, D, _, _, rfl, rfl, s4 _ _ h2, h4, ?_, ⟨_, rfl⟩, fun b o e => ?_, ?_⟩
        · rw [List.length_map, List.length_map, List.length_map]
          have e1 : (firsts ++ (letters1.take i).flatMap wrow).length ≤ 70 := by
            have e2 : ∀ i, i < 6 → (firsts ++ (letters1.take i).flatMap wrow).length ≤ 70 := by decide +kernel
            exact e2 i (by rw [abc_cps] at hi; exact hi)
          exact Nat.le_trans (Nat.add_le_add e1 (show letters2.length ≤ 10 by decide)) (by decide)
        · have nb : b ≠ L := ne_of_none e n1
          rw [upd_ne nb]
          exact s4 b o (s2 b o e)
        · have e1 : List.flatMap wrow [c] = wrow c := by rw [List.flatMap_cons, List.flatMap_nil, List.append_nil]
          rw [upd_same, take_step hc, List.flatMap_append, e1]
          simp only [List.map_append, List.append_assoc]
          rfl
    · rintro σ' H2 ⟨⟨v1, rfl⟩, s2, h2⟩
      have en : letters1.take ("abcdef" : Str).cps.size = letters1 := by rw [abc_cps]; rfl
      rw [en] at h2
      exact ⟨v1, rfl, s2, h2⟩
    · rintro σ' H2 ⟨v1, rfl, s2, h2⟩
      exact ⟨_, rfl, kk L H2 n1 s2 h2⟩
/-- an item goes from one list to the other -/
theorem perm_move {α : Type} {all found left : List α} {k : Nat} {x : α} (h : (found ++ left).Perm all) (hk : left[k]? = some x) : ((found ++ [x]) ++ left.eraseIdx k).Perm all := by
  refine List.Perm.trans ?_ h
  rw [List.append_assoc]
  refine List.Perm.append_left found ?_
  obtain ⟨hl, e⟩ := List.getElem?_eq_some_iff.mp hk
  rw [List.eraseIdx_eq_take_drop_succ]
  have q : left = left.take k ++ x :: left.drop (k + 1) := by
    rw [← e, ← List.drop_eq_getElem_cons hl, List.take_append_drop]
  have z : (x :: (left.take k ++ left.drop (k + 1))).Perm left := by
    refine List.Perm.trans List.perm_middle.symm ?_
    rw [← q]
  exact z
theorem ok_some_words (T : TxtW mg) {f : Addr} {fd : FuncData} (F : FnP K "_law_some_words" s_law_some_words f fd) (c_law_all_words : Cal P w K mg base CX0 1 "_law_all_words" spWords) (c_law_take : Cal P w K mg base CX0 2 "_law_take" spTake) : FnOk P w K mg base CX0 3 f fd ["_law_state", "_law_many"] spSomeWords := by
  refine F.ok sc_law_some_words (fun vs H Q E h => ?_) (fun cdv A outer s H vs Q E hr h => ?_)
  · obtain ⟨p, c, m, rfl, _⟩ := h
    rfl
  · obtain ⟨p, c, m, rfl, D, hm, kk⟩ := h
    refine ⟨_, PSs.nox (pss_cons (ps_par (i := 2) (j := 3) rfl sc_law_some_words.nd rfl rfl (by decide) rfl rfl (pa_cons (pe_c0 c_law_all_words hr (by first | decide | omega) (by rfl)) (pa_cons (pe_lst pa_nil) pa_nil)) (by rfl))
  (pss_cut (ps_for PassesOwn.never rfl (pi_range1 (by rfl) T.range (pa_cons (pv 1) pa_nil)) (pg_name (i := 4) sc_law_some_words.nd rfl (Or.inl rfl)) (pss_one (ps_expr (pe_bmK (K := K) PySem.F.plainAttrs_list PySem.F.slot_list_append PySem.F.type_list_append mt_append (pv 3) (pa_cons (pe_bmK (K := K) PySem.F.plainAttrs_list PySem.F.slot_list_pop PySem.F.type_list_pop mt_popAt (pv 2) (pa_cons (pe_c c_law_take hr (by first | decide | omega) (by rfl) (pa_cons (pv 0) (pa_cons (pe_callB (call_lenK (K := K)) (by rfl) T.len (by decide +kernel) (pa_cons (pv 2) pa_nil)) pa_nil))) pa_nil)) pa_nil)))))
  (pss_one (ps_ret (pv 3))))), ?_⟩
    refine ⟨rfl, fun L1 H1 n1 s1 h1 => ⟨Nat.zero_le _, fun L2 n2 => ⟨_, _, rfl, ?_⟩⟩⟩
    have ne12 : L1 ≠ L2 := ne_of_none h1 n2
    have a1 : L1 ≠ p := D.ne n1
    have n2h : H L2 = none := s1.free n2
    have a2 : L2 ≠ p := D.ne n2h
    have b1 : L1 ≠ c := D.nec n1
    have b2 : L2 ≠ c := D.nec n2h
    refine ⟨fun σ' H' => ∃ (v4 : Option V) (left found : List Str), σ' = [some (.ref p), some (.int (m : Int)), some (.ref L1), some (.ref L2), v4] ∧ Off p H H' ∧ Dr H' p c ∧ H' L1 = some (.lst (left.map V.str)) ∧ H' L2 = some (.lst (found.map V.str)) ∧ (found ++ left).Perm allWords ∧ found.length = m, ?_, ?_⟩
    · refine ⟨_, rfl, (m : Int), rfl, by omega, by omega, for_range (lo := 0) (n := ((m : Int)).toNat) (fun i σ' H' => ∃ (v4 : Option V) (left found : List Str), σ' = [some (.ref p), some (.int (m : Int)), some (.ref L1), some (.ref L2), v4] ∧ Off p H H' ∧ Dr H' p c ∧ H' L1 = some (.lst (left.map V.str)) ∧ H' L2 = some (.lst (found.map V.str)) ∧ (found ++ left).Perm allWords ∧ found.length = i) ?_ ?_ ?_⟩
      · refine ⟨none, allWords, [], rfl, ?_, ?_, ?_, ?_, ?_, rfl⟩
        · exact fun b o _ e => by
            rw [upd_ne (ne_of_none (s1 _ _ e) n2)]
            exact s1 _ _ e
        · exact (D.same s1).new n2
        · rw [upd_ne ne12]
          exact h1
        · exact upd_same
        · exact List.Perm.refl _
      · rintro i σ' H2 hi ⟨v4, left, found, rfl, o2, D2, hl, hf, hp, hn⟩
        have hlen : left.length = 70 - i := by
          have e := hp.length_eq
          rw [List.length_append, allWords_len, hn] at e
          omega
        have hi2 : i < 70 := by omega
        refine ⟨_, rfl, .inl ⟨rfl, _, SqL.of hf⟩, ?_⟩
        refine ⟨_, rfl, .inl ⟨rfl, _, SqL.of hl⟩, ?_⟩
        refine ⟨_, rfl, _, rfl, L1, _, rfl, .inl (SqL.of hl), p, c, _, rfl, D2, ?_, ?_, fun d H3 d0 d1 o3 D3 => ?_⟩
        · rw [List.length_map, hlen]
          omega
        · rw [List.length_map, hlen]
          exact Nat.lt_of_le_of_lt (Nat.log2_le_self _) (by omega)
        rw [List.length_map, hlen] at d1
        obtain ⟨k, rfl⟩ : ∃ k : Nat, d = (k : Int) := ⟨d.toNat, by omega⟩
        have hk : k < left.length := by omega
        obtain ⟨x, hx⟩ : ∃ x, left[k]? = some x := ⟨_, List.getElem?_eq_getElem hk⟩
        have hl3 := o3 _ _ a1 hl
        have hf3 := o3 _ _ a2 hf
        refine ⟨L1, _, (k : Int), k, .str x, rfl, rfl, hl3, by omega, by omega, ?_, ?_, L2, found.map V.str, .str x, rfl, rfl, ?_, ?_, ?_⟩
        · unfold PySem.seqIndex?
          rw [List.length_map]
          have e1 : ¬ ((k : Int) < 0) := by omega
          have e2 : (0 : Int) ≤ (k : Int) := by omega
          have e3 : (k : Int) < (left.length : Int) := by omega
          simp only [e1, e2, e3, if_false, decide_true, Bool.and_self, if_true, Int.toNat_natCast]
        · rw [List.getElem?_map, hx]
          rfl
        · rw [upd_ne ne12.symm]
          exact hf3
        · rw [List.length_map, hn]
          exact Nat.lt_of_lt_of_le (show i < 100 by omega) (by decide)
        · refine ⟨_, left.eraseIdx k, found ++ [x], rfl, ?_, ?_, ?_, ?_, perm_move hp hx, by rw [List.length_append, hn]; rfl⟩
          · exact fun b o nb e => by
              have nb1 : b ≠ L1 := ne_of_none e n1
              have nb2 : b ≠ L2 := ne_of_none e n2h
              rw [upd_ne nb2, upd_ne nb1]
              exact o3 _ _ nb (o2 _ _ nb e)
          · exact (D3.upd a1 b1).upd a2 b2
          · rw [upd_ne ne12, upd_same, List.eraseIdx_eq_take_drop_succ, List.eraseIdx_eq_take_drop_succ, List.map_append, List.map_take, List.map_drop]
          · rw [upd_same, List.map_append]
            rfl
      · rintro σ' H2 h2
        have e : ((m : Int)).toNat = m := by omega
        rw [e] at h2
        exact h2
    · rintro σ' H2 ⟨v4, left, found, rfl, o2, D2, hl, hf, hp, hn⟩
      refine ⟨_, rfl, kk L2 found H2 n2h o2 D2 hf hn ?_ fun x hx => ?_⟩
      · have nd := (hp.nodup_iff).mpr allWords_nodup
        exact (List.nodup_append.mp nd).1
      · exact hp.subset (List.mem_append_left _ hx)
theorem take_len {α β : Type} (f : α → β) (xs : List α) : xs.take (xs.map f).length = xs := by rw [List.length_map, List.take_length]
theorem ok_rising (T : TxtW mg) {f : Addr} {fd : FuncData} (F : FnP K "_law_rising" s_law_rising f fd) : FnOk P w K mg base CX0 1 f fd ["_law_some"] (spRising K) := by
  refine F.ok sc_law_rising (fun vs H Q E h => ?_) (fun cdv A outer s H vs Q E hr h => ?_)
  · obtain ⟨a, xs, rfl, _⟩ := h
    rfl
  · obtain ⟨a, xs, rfl, hS, hlen, kk⟩ := h
    refine ⟨_, PSs.nox (pss_cons (ps_set (i := 1) sc_law_rising.nd rfl (Or.inl rfl) (pe_lst pa_nil))
  (pss_cut (ps_for PassesOwn.never rfl (pi_listK (K := K) (pv 0)) (pg_name (i := 2) sc_law_rising.nd rfl (Or.inr rfl)) (pss_cons (ps_set (i := 3) sc_law_rising.nd rfl (Or.inl rfl) (pe_callB (call_lenK (K := K)) (by rfl) T.len (by decide +kernel) (pa_cons (pe_lc (own := [("_law_y", 4)]) (g := (gName 4)) rfl sc_law_rising.nd (pi_listK (K := K) (pv 1)) (blkOk_by (own := [("_law_y", 4)]) (N := ["_law_some", "_law_found", "_law_x", "_law_at", "_law_y"]) (sc := defScope s_law_rising) (by decide +kernel)) (fun _ _ _ _ _ => (pg_name (i := 4) sc_law_rising.nd rfl (Or.inl rfl) (hf := Or.inr rfl))) (fun _ _ _ _ _ => (pts_one (pt_cmpR op_lt_str (pv 4) (pv 2) (nomark _)))) (fun _ _ _ _ _ => (pv 4))) pa_nil)))
  (pss_one (ps_expr (pe_bmK (K := K) PySem.F.plainAttrs_list PySem.F.slot_list_insert PySem.F.type_list_insert mt_insert (pv 1) (pa_cons (pv 3) (pa_cons (pv 2) pa_nil)))))))
  (pss_one (ps_ret (pv 1))))), ?_⟩
    refine st_seq2 (asg_lst ⟨Nat.zero_le _, fun L nL => ?_⟩)
    refine ⟨fun σ' H' => ∃ (v2 v3 v4 : Option V), σ' = [some (.ref a), some (.ref L), v2, v3, v4] ∧ Same H H' ∧ H' L = some (.lst ((rising xs).map V.str)), ⟨_, rfl, a, rfl, ⟨_, same_seq (Same.new nL) hS⟩,
      for_list (xs := xs.map V.str) (fun i σ' H' => (∃ (v2 v3 v4 : Option V), σ' = [some (.ref a), some (.ref L), v2, v3, v4]) ∧ Same H H' ∧ H' L = some (.lst ((rising (xs.take i)).map V.str))) ⟨⟨_, _, _, rfl⟩, Same.new nL, upd_same⟩ (fun _ _ _ _ q => same_seq q.2.1 hS) ?_ ?_⟩, ?_⟩
    · rintro i z σ' H2 hz ⟨⟨v2, v3, v4, rfl⟩, s2, h2⟩
      rw [List.getElem?_map] at hz
      obtain ⟨x, hx, rfl⟩ := Option.map_eq_some_iff.mp hz
      have hi : i < xs.length := (List.getElem?_eq_some_iff.mp hx).1
      have hrl : (rising (xs.take i)).length ≤ 1000 := by
        rw [rising_len]
        exact Nat.le_trans (List.length_take_le _ _) (by omega)
      have ex : xs.take (i + 1) = xs.take i ++ [x] := take_step hx
      generalize hr2 : rising (xs.take i) = ys at *
      refine ⟨_, rfl, L, rfl, ⟨_, SqL.of h2⟩, fun D hD => lc_list (xs := ys.map V.str) (fun k H4 => Same H2 H4 ∧ H4 D = some (.lst (((ys.take k).filter fun y => ltS y x).map V.str))) ⟨Same.new hD, upd_same⟩ (fun _ _ _ q => SqL.of (q.1 _ _ h2)) ?_ ?_⟩
      · rintro k u H4 hu ⟨s4, h4⟩
        rw [List.getElem?_map] at hu
        obtain ⟨y, hy, rfl⟩ := Option.map_eq_some_iff.mp hu
        have ey : ys.take (k + 1) = ys.take k ++ [y] := take_step hy
        refine ⟨rfl, ?_⟩
        refine ⟨_, rfl, _, rfl, _, _, rfl, rfl, ?_⟩
        cases e : ltS y x with
        | true =>
          have e' : decide (y.cps.toList < x.cps.toList) = true := e
          rw [e']
          refine ⟨_, rfl, iteT ?_⟩
          refine ⟨_, rfl, _, h4, ?_, ?_, ?_⟩
          · rw [List.length_map]
            exact Nat.lt_of_le_of_lt (Nat.le_trans (List.length_filter_le ..) (Nat.le_trans (List.length_take_le' ..) hrl)) (by decide)
          · exact fun b o e => by
              have nb : b ≠ D := ne_of_none e hD
              rw [upd_ne nb]
              exact s4 b o e
          · rw [upd_same, ey, List.filter_append, List.map_append]
            have e2 : [y].filter (fun y => ltS y x) = [y] := by rw [List.filter_cons, e]; rfl
            rw [e2]
            rfl
        | false =>
          have e' : decide (y.cps.toList < x.cps.toList) = false := e
          rw [e']
          refine ⟨_, rfl, iteF ⟨s4, ?_⟩⟩
          have e2 : [y].filter (fun y => ltS y x) = [] := by rw [List.filter_cons, e]; rfl
          rw [h4, ey, List.filter_append, e2, List.append_nil]
      · rintro H4 ⟨s4, h4⟩
        rw [take_len] at h4
        refine ⟨D, _, rfl, .inl (SqL.of h4), ?_⟩
        refine ⟨_, rfl, .inl ⟨rfl, _, SqL.of (s4 _ _ h2)⟩, _, rfl, _, rfl, L, _, _, _, rfl, rfl, s4 _ _ h2, ?_, by omega, ?_, ⟨_, _, _, rfl⟩, ?_, ?_⟩
        · rw [List.length_map]
          exact Nat.lt_of_le_of_lt hrl (by decide)
        · rw [List.length_map]
          exact Int.lt_of_le_of_lt (Int.ofNat_le.mpr (Nat.le_trans (List.length_filter_le ..) hrl)) (by decide)
        · exact fun b o e => by
            have nb : b ≠ L := ne_of_none e nL
            rw [upd_ne nb]
            exact s4 b o (s2 b o e)
        · rw [upd_same, ex, rising_app, hr2]
          unfold insS
          rw [List.map_append, List.map_append, List.map_take, List.map_drop, List.length_map]
          rfl
    · rintro σ' H2 ⟨⟨v2, v3, v4, rfl⟩, s2, h2⟩
      rw [take_len] at h2
      exact ⟨v2, v3, v4, rfl, s2, h2⟩
    · rintro σ' H2 ⟨v2, v3, v4, rfl, s2, h2⟩
      exact ⟨_, rfl, kk L H2 nL s2 h2⟩
end
end Sm
/-! operators of own classes by their methods' promises -/
namespace Sm
open PySem PySem.Spec PyProof.Rows L2
/-- a method of the class at C by its name, with what it promises -/
structure OwM (P : Program) (w : World) (K : PySem.W.Frag) (mg : Str → Option Value) (base : Heap) (C : Addr) (k : Nat) (x : Str) (sp : Sp) : Prop where
  ex : ∃ (f : Addr) (fd : FuncData) (ps : List Str), FnOk P w K mg base CX0 k f fd ps sp ∧ PySem.W.findIn K (.ref C) x = some (some (.ref f)) ∧ PySem.W.isFn K (.ref f) = true ∧ PySem.W.keepIn K (.ref f) = true ∧ Binds K fd ps []
theorem cmpBack_of {Q : Value → Shared → Prop} {v : V} {u : Value} {s : Shared} (r : RelV v u) (q : Q u s) : PySem.W.CmpBack Q u s := by
  cases v with
  | non => obtain rfl : u = Value.none := r; exact q
  | bl b => obtain rfl : u = Value.bool b := r; exact q
  | int i => obtain ⟨t, rfl⟩ := r; exact q
  | str x => obtain ⟨t, rfl⟩ := r; exact q
  | byt b => obtain ⟨t, rfl⟩ := r; exact q
  | flt b => obtain ⟨t, rfl⟩ := r; exact q
  | ref a => obtain rfl : u = Value.ref a := r; exact q
  | ty n => obtain rfl : u = Value.type n := r; exact q
section
variable {X : Cx} {C : Addr} {k : Nat} {sp : Sp}
/-- x op y, both of the class at C -/
def rOwn2 (C : Addr) (sp : Sp) : R2 := fun x y H Q => ∃ a b dx dy fs gs, x = .ref a ∧ y = .ref b ∧ H a = some (.ins C dx fs) ∧ H b = some (.ins C dy gs) ∧ sp [.ref a, .ref b] H Q E0
theorem op_own2 {op : Operator} {nm : Str} (hn : PySem.dunder op.info.2 = nm) (M : OwM X.prog X.w X.K X.mg X.base C k nm sp) (hc : PySem.W.selfFirst X.K C = true) (hr : Room k X.A) : OpR X (binaryOp op) (rOwn2 C sp) := by
  subst hn
  intro pins s σ H x y v u Q I rx ry q
  obtain ⟨a, b, dx, dy, fs, gs, rfl, rfl, ha, hb, q⟩ := q
  cases rx
  cases ry
  obtain ⟨f, fd, ps, F, hs, hf, _, hB⟩ := M.ex
  obtain ⟨mA, J, _⟩ := ins_get I.hok ha
  obtain ⟨mB, J', _⟩ := ins_get I.hok hb
  obtain ⟨od, J, _⟩ := J.look
  obtain ⟨od', J', _⟩ := J'.look
  obtain ⟨m, hF⟩ := I.fr
  refine PySem.W.binop_K hF I.ok.mod.kin J J'.type hc hs hf ?_
  refine thn (run_fn (us := [.ref a, .ref b]) (vs := [.ref a, .ref b]) F hr hB .nil pass0 I (.cons rfl (.cons rfl .nil)) q) fun v' s' h => ?_
  obtain ⟨z, H', I', rz, qz⟩ := h
  exact cmpBack_of rz ⟨z, H', I', rz, qz⟩
/-- v in x, x of the class at C: its method tells a bool -/
def rOwnIn (C : Addr) (sp : Sp) (neg : Bool) : R2 := fun x y H Q => ∃ a dx fs, y = .ref a ∧ H a = some (.ins C dx fs) ∧ sp [.ref a, x] H (fun v H' => ∃ b, v = .bl b ∧ Q (.bl (neg ^^ b)) H') E0
theorem op_ownIn (M : OwM X.prog X.w X.K X.mg X.base C k "__contains__" sp) (hr : Room k X.A) : OpR X (compareOp .In) (rOwnIn C sp false) := by
  intro pins s σ H x y v u Q I rx ry q
  obtain ⟨a, dx, fs, rfl, ha, q⟩ := q
  cases ry
  obtain ⟨f, fd, ps, F, hs, hf, _, hB⟩ := M.ex
  obtain ⟨mA, J, _⟩ := ins_get I.hok ha
  obtain ⟨od, J, _⟩ := J.look
  obtain ⟨m, hF⟩ := I.fr
  refine PySem.W.in_K hF I.ok.mod.kin J hs hf ?_
  refine thn (run_fn (us := [.ref a, v]) (vs := [.ref a, x]) F hr hB .nil pass0 I (.cons rfl (.cons rx .nil)) q) fun v' s' h => ?_
  obtain ⟨z, H', I', rz, b, e, qz⟩ := h
  subst e
  cases rz
  exact wpAny_truthy_bool ⟨.bl b, H', I', rfl, by simpa using qz⟩
theorem op_ownNotIn (M : OwM X.prog X.w X.K X.mg X.base C k "__contains__" sp) (hr : Room k X.A) : OpR X (compareOp .NotIn) (rOwnIn C sp true) := by
  intro pins s σ H x y v u Q I rx ry q
  obtain ⟨a, dx, fs, rfl, ha, q⟩ := q
  cases ry
  obtain ⟨f, fd, ps, F, hs, hf, _, hB⟩ := M.ex
  obtain ⟨mA, J, _⟩ := ins_get I.hok ha
  obtain ⟨od, J, _⟩ := J.look
  obtain ⟨m, hF⟩ := I.fr
  refine PySem.W.notIn_K hF I.ok.mod.kin J hs hf ?_
  refine thn (run_fn (us := [.ref a, v]) (vs := [.ref a, x]) F hr hB .nil pass0 I (.cons rfl (.cons rx .nil)) q) fun v' s' h => ?_
  obtain ⟨z, H', I', rz, b, e, qz⟩ := h
  subst e
  cases rz
  exact wpAny_truthy_bool ⟨.bl (!b), H', I', rfl, by simpa using qz⟩
theorem tyX_looks {M : Model} {H : Hp} {x : V} {t v : Value} {pins : List (Addr × Obj)} {σ : L2.St} {s : Shared} (I : Inv X pins σ H s) (rx : RelV x v) (h : TyX X.K H x t) : PySem.W.Looks M s.heap (typeOf v) t := by
  obtain ⟨P, Z, p, _⟩ := kit_of I rx h
  exact Z.ty M s.heap I.kIn p
/-- x == y, x of the class at C -/
def rOwnEq (K : PySem.W.Frag) (C : Addr) (sp : Sp) : R2 := fun x y H Q => ∃ a dx fs t, x = .ref a ∧ H a = some (.ins C dx fs) ∧ TyX K H y t ∧ PySem.W.notFirst K C t = true ∧ sp [.ref a, y] H Q E0
theorem op_ownEq (M : OwM X.prog X.w X.K X.mg X.base C k "__eq__" sp) (hr : Room k X.A) : OpR X (compareOp .Eq) (rOwnEq X.K C sp) := by
  intro pins s σ H x y v u Q I rx ry q
  obtain ⟨a, dx, fs, t, rfl, ha, hy, hn, q⟩ := q
  cases rx
  obtain ⟨f, fd, ps, F, hs, hf, _, hB⟩ := M.ex
  obtain ⟨mA, J, _⟩ := ins_get I.hok ha
  obtain ⟨od, J, _⟩ := J.look
  obtain ⟨m, hF⟩ := I.fr
  show wpAny (model X.prog X.w) X.A (richCompare .Eq (.ref a) u) (EP X pins σ Q) X.xe s
  refine PySem.W.cmp_K (op := .Eq) (tb := t) hr.units0 hF I.ok.mod.kin J (tyX_looks I ry hy) hn hs hf ?_
  refine thn (run_fn (us := [.ref a, u]) (vs := [.ref a, y]) F hr hB .nil pass0 I (.cons rfl (.cons ry .nil)) q) fun v' s' h => ?_
  obtain ⟨z, H', I', rz, qz⟩ := h
  exact cmpBack_of rz ⟨z, H', I', rz, qz⟩
/-- the callee runs within a built-in -/
theorem run_fn1 {CX : CXT} {f : Addr} {fd : FuncData} {ps : List Str} {dvs : List V} {ds : List Value} {E : XK} {pins : List (Addr × Obj)} {σ : L2.St} {H : Hp} {s : Shared} {Q : VK} {us : List Value} {vs : List V} (F : FnOk X.prog X.w X.K X.mg X.base CX k f fd ps sp) (hr : Room (k + 1) X.A) (hb : Binds X.K fd ps ds) (hd : Vals dvs ds) (hx : Passes CX X E)
    (I : Inv X pins σ H s) (r : Vals vs us) (h : sp (vs ++ dvs) H Q E) : wpAny (model X.prog X.w) X.A.in1 (call (.ref f) us) (EP X pins σ Q) X.xe s := by
  have r2 : Vals (vs ++ dvs) (us ++ ds) := r.append hd
  have hl : (us ++ ds).length = ps.length := by rw [← r2.length]; exact F.len _ _ _ _ h
  refine wpAny_call (codeAny_mono (F.run X.A.in1 X.stack s H ⟨us, []⟩ (us ++ ds) (vs ++ dvs) Q E hr.in1 I.env0.in1 (hb s us I.kIn hl) r2 h) fun r s' hq => ?_)
  cases r with
  | error e => exact hx pins σ H s e s' I hq
  | ok fl =>
    cases fl with
    | ret u => exact I.after hq
    | next => exact False.elim hq
    | brk => exact False.elim hq
    | cont => exact False.elim hq
/-- the truth of an instance by its own __bool__ -/
def rOwnTru (C : Addr) (sp : Sp) : V → Hp → (Bool → Hp → Prop) → Prop := fun x H Q => ∃ a dx fs, x = .ref a ∧ H a = some (.ins C dx fs) ∧ sp [.ref a] H (fun v H' => ∃ b, v = .bl b ∧ Q b H') E0
theorem tru_own (M : OwM X.prog X.w X.K X.mg X.base C k "__bool__" sp) (hr : Room k X.A) : TruR X (rOwnTru C sp) := by
  intro pins s σ H x v Q I rx q
  obtain ⟨a, dx, fs, rfl, ha, q⟩ := q
  cases rx
  obtain ⟨f, fd, ps, F, hs, hf, _, hB⟩ := M.ex
  obtain ⟨mA, J, _⟩ := ins_get I.hok ha
  obtain ⟨od, J, _⟩ := J.look
  unfold truthy
  refine wpAny_bind (m := callSpecial? (.ref a) (Str.ofString "__bool__")) ?_
  refine PySem.W.special_fn I.kIn J hs (beq_iff_eq.mp hf) ?_
  refine thn (run_fn (us := [.ref a]) (vs := [.ref a]) F hr hB .nil pass0 I (.cons rfl .nil) q) fun v' s' h => ?_
  obtain ⟨z, H', I', rz, b, e, qz⟩ := h
  subst e
  cases rz
  exact wpAny_pure ⟨H', I', qz⟩
/-- len(x) by its own __len__ -/
def rOwnLen (C : Addr) (sp : Sp) : List V → Hp → VK → Prop := fun xs H Q => ∃ a dx fs, xs = [.ref a] ∧ H a = some (.ins C dx fs) ∧ sp [.ref a] H (fun v H' => ∃ n : Nat, v = .int n ∧ n < 2 ^ 62 ∧ Q (.int n) H') E0
theorem call_lenOwn (M : OwM X.prog X.w X.K X.mg X.base C k "__len__" sp) (hr : Room (k + 1) X.A) : CallR X (.builtin "len") (rOwnLen C sp) := by
  intro pins s σ H xs us Q I r q
  obtain ⟨a, dx, fs, rfl, ha, q⟩ := q
  obtain ⟨u1, rfl, r1⟩ := vals1 r
  cases r1
  obtain ⟨f, fd, ps, F, hs, hf, _, hB⟩ := M.ex
  obtain ⟨mA, J, _⟩ := ins_get I.hok ha
  obtain ⟨od, J, _⟩ := J.look
  refine Calls.call_function_entry kind_len plain_len entry_len (args_len1 _) ?_
  unfold Builtin.«len»
  refine wpAny_bind (m := PySem.oneArg "len" _) (wpAny_pure ?_)
  refine wpAny_bind (m := callSpecial? (.ref a) (Str.ofString "__len__")) (PySem.W.special_fn I.kIn J hs (beq_iff_eq.mp hf) ?_)
  refine thn (run_fn1 (us := [.ref a]) (vs := [.ref a]) F hr hB .nil pass0 I (.cons rfl .nil) q) fun v' s' h => ?_
  obtain ⟨z, H', I', rz, n, e, hn, qz⟩ := h
  subst e
  obtain ⟨t, rfl⟩ := rz
  refine wpAny_bind (wpAny_holding (wpAny_pure ?_))
  refine wpAny_bind (wpAny_letGo ?_)
  show wpAny _ _ (if (n : Int) < 0 then _ else _) _ _ _
  rw [if_neg (by omega)]
  show wpAny _ _ (if (n : Int) ≥ 2 ^ 63 then _ else _) _ _ _
  rw [if_neg (by omega)]
  exact wpAny_bind (wpAny_mkInt (wpAny_pure ⟨_, rfl, ⟨.int n, H', I'.tok _, ⟨_, rfl⟩, qz⟩⟩))
end
end Sm
/-! own operators beside values of other kinds -/
namespace Sm
open PySem PySem.Spec PyProof.Rows L2
section
variable {prog : Program} {w : World} {A A' : Around} {E : Value → Shared → Prop} {s : Shared} {K : PySem.W.Frag} {x C dx : Addr}
theorem list_decl {l : Addr} {ol : Obj} {R : Result → Shared → Prop} (hl : s.heap.get? l = some ol) (hlc : ol.cls = .type "list") (hx : s.heap.get? x = some (PySem.W.instObj C dx)) (X : K.In s.heap) (hs : PySem.W.subIn K (.ref C) (.type "list") = some false)
    (h : R (.ok (.ret .notImplemented)) s) : wpAny (model prog w) A' (Builtin.«list.__eq__» ⟨[.ref l, .ref x], []⟩) (GQ.FinOf prog w A R) (fun e s' => R (.error e) s') s := by
  obtain ⟨hp, g, d, tk, os⟩ := s
  obtain ⟨cls, dd, data, sl⟩ := ol
  dsimp only at hlc
  subst hlc
  have L1 : PySem.W.Looks (model prog w) hp (isSubtype (.ref C) (.type "list")) false := PySem.W.looks_subIn X hs
  wp_walk using AutoSeq1.wpAny_loadPart' hl, AutoSeq1.wpAny_loadPart' hx, L1.at
  exact h
theorem tup_decl {l : Addr} {ol : Obj} {R : Result → Shared → Prop} (hl : s.heap.get? l = some ol) (hlc : ol.cls = .type "tuple") (hx : s.heap.get? x = some (PySem.W.instObj C dx)) (X : K.In s.heap) (hs : PySem.W.subIn K (.ref C) (.type "tuple") = some false)
    (h : R (.ok (.ret .notImplemented)) s) : wpAny (model prog w) A' (Builtin.«tuple.__eq__» ⟨[.ref l, .ref x], []⟩) (GQ.FinOf prog w A R) (fun e s' => R (.error e) s') s := by
  obtain ⟨hp, g, d, tk, os⟩ := s
  obtain ⟨cls, dd, data, sl⟩ := ol
  dsimp only at hlc
  subst hlc
  have L1 : PySem.W.Looks (model prog w) hp (isSubtype (.ref C) (.type "tuple")) false := PySem.W.looks_subIn X hs
  wp_walk using AutoSeq1.wpAny_loadPart' hl, AutoSeq1.wpAny_loadPart' hx, L1.at
  exact h
theorem non_decl {R : Result → Shared → Prop} (h : R (.ok (.ret .notImplemented)) s) : wpAny (model prog w) A' (Builtin.«NoneType.__eq__» ⟨[.none, .ref x], []⟩) (GQ.FinOf prog w A R) (fun e s' => R (.error e) s') s := by
  obtain ⟨hp, g, d, tk, os⟩ := s
  wp_walk
  exact h
theorem int_decl {i : Int} {u : Tok} {R : Result → Shared → Prop} (hx : s.heap.get? x = some (PySem.W.instObj C dx)) (h : R (.ok (.ret .notImplemented)) s) : wpAny (model prog w) A' (Builtin.«int.__eq__» ⟨[.int i u, .ref x], []⟩) (GQ.FinOf prog w A R) (fun e s' => R (.error e) s') s := by
  obtain ⟨hp, g, d, tk, os⟩ := s
  wp_walk using AutoSeq1.wpAny_loadPart' hx, wpAny_load hx
  exact h
theorem str_decl {i : Str} {u : Tok} {R : Result → Shared → Prop} (hx : s.heap.get? x = some (PySem.W.instObj C dx)) (h : R (.ok (.ret .notImplemented)) s) : wpAny (model prog w) A' (Builtin.«str.__eq__» ⟨[.str i u, .ref x], []⟩) (GQ.FinOf prog w A R) (fun e s' => R (.error e) s') s := by
  obtain ⟨hp, g, d, tk, os⟩ := s
  wp_walk using AutoSeq1.wpAny_loadPart' hx, wpAny_load hx
  exact h
/-- a built-in on the left that declines, then the own == -/
theorem rc_right {T id : String} {B : Builtin} {a : Value} {ox : Obj} {od : Option Obj} {f : Addr} {Q : Value → Shared → Prop} (hu : A.units < cLine) (ha : s.TypeIs a T) (X : K.In s.heap) (J : PySem.W.InstAt s.heap x ox C od) (hsub : PySem.W.subIn K (.ref C) (.type T) = some false)
    (h1 : Slot T (cmpInfo .Eq).2.1 id) (entry : entryFor table id = some B) (args : argsOk id ⟨[a, .ref x], []⟩)
    (hd : ∀ (A A' : Around) (R : Result → Shared → Prop), R (.ok (.ret .notImplemented)) s → wpAny (model prog w) A' (B ⟨[a, .ref x], []⟩) (GQ.FinOf prog w A R) (fun e s' => R (.error e) s') s)
    (hs : PySem.W.findIn K (.ref C) (cmpInfo .Eq).2.2 = some (some (.ref f))) (hf : PySem.W.isFn K (.ref f) = true)
    (h : wpAny (model prog w) A (call (.ref f) [.ref x, a]) (PySem.W.CmpBack Q) E s) : wpAny (model prog w) A (richCompare .Eq a (.ref x)) Q E s := by
  have hne : (Value.type T != Value.ref C) = true := by simp [bne]
  rcases hi : cmpInfo CmpOp.Eq with ⟨sym, f1, r1⟩
  rw [hi] at h1 hs
  simp only [richCompare, hi, ha.oneThing_none]
  try with_reducible refine wpAny_holding ?_
  refine wpAny_bind (wpAny_cRoomFor hu ?_)
  refine wpAny_bind (wpAny_typeOf ha (wpAny_bind (J.type.here ?_)))
  simp only [hne, if_true]
  refine wpAny_bind ((PySem.W.looks_subIn X hsub).here ?_)
  simp only [Bool.false_eq_true, if_false, Bool.not_false, if_true]
  refine wpAny_bind (m := tryCompare a _ (.ref x)) (wpAny_tryCompare_declines ha h1 ?_)
  refine GQ.call_here h1 ha entry args (hd _ _ _ ?_)
  refine ⟨rfl, ?_⟩
  refine wpAny_bind (m := tryCompare (.ref x) _ a) ?_
  unfold tryCompare
  refine wpAny_bind (PySem.W.ifBound_K X J hs hf (wpAny_mono h (fun v s' hv => ?_) fun _ _ e => e))
  cases v <;> first | exact hv.elim | exact wpAny_pure (wpAny_pure hv)
/-- != by the own == -/
theorem ne_K {ox : Obj} {od : Option Obj} {f : Addr} {b tb : Value} {Q : Value → Shared → Prop} (hu : A.units + 1 < cLine) (X : K.In s.heap) (J : PySem.W.InstAt s.heap x ox C od) (hb : PySem.W.Looks (model prog w) s.heap (typeOf b) tb) (hn : PySem.W.notFirst K C tb = true)
    (hne : PySem.W.findIn K (.ref C) "__ne__" = some (some (.builtin "object.__ne__"))) (ho : PySem.W.subIn K (.ref C) (.type "object") = some true)
    (hs : PySem.W.findIn K (.ref C) "__eq__" = some (some (.ref f))) (hf : PySem.W.isFn K (.ref f) = true)
    (h : wpAny (model prog w) A.in1 (call (.ref f) [.ref x, b]) (fun v s' => ∃ r, v = .bool r ∧ Q (.bool (!r)) s') E s) : wpAny (model prog w) A (richCompare .NotEq (.ref x) b) Q E s := by
  have one : wpAny (model prog w) A (tryCompare (.ref x) "__ne__" b) (fun r s' => ∃ v, r = some v ∧ Q v s') E s := by
    simp only [tryCompare, callSpecialIfBound?, bindSpecialIfBound?]
    refine wpAny_bind (wpAny_holding (wpAny_bind (wpAny_bind (wpAny_bind (J.type.here ((PySem.W.looks_findIn X hne).here ?_))))))
    simp only [F.cmp_object.ne.bind]
    have cl : wpAny (model prog w) A (call (.builtin "object.__ne__") [.ref x, b]) (fun v s' => ∃ r, v = .bool r ∧ Q (.bool r) s') E s := by
      refine wpAny_call (codeAny_call_builtin F.cmp_object.ne.plain F.cmpEntry_ne ?_)
      refine PySem.W.check_slot F.cmpKind_ne F.cmpSplit_ne (J.type.andThen (PySem.W.looks_subIn X ho)) (F.cmpArgs_ne _ _) ?_
      unfold Builtin.«object.__ne__»
      repeat (first
        | with_reducible refine wpAny_cRoomFor (A := A.in1) hu ?_
        | (refine wpAny_bind (m := callSpecialIfBound? (.ref x) (Str.ofString "__eq__") [b]) (PySem.W.ifBound_K X J hs hf (wpAny_mono h (fun r s' hr => by
              obtain ⟨b, rfl, hq⟩ := hr
              repeat (first | exact ⟨_, rfl, hq⟩ | exact wpAny_pure ⟨_, rfl, hq⟩ | (refine wpAny_bind (m := truthy (.bool _)) (wpAny_truthy_bool ?_)) | wp_step)) fun _ _ e => e)))
        | wp_step)
    have fin : wpAny (model prog w) A (call (.builtin "object.__ne__") ([.ref x] ++ [b]) >>= fun v => pure (some v)) (fun o s' => wpAny (model prog w) A (match o with | some .notImplemented | none => pure none | some v => pure (some v)) (fun r s' => ∃ v, r = some v ∧ Q v s') E s') E s := by
      refine wpAny_bind (wpAny_mono cl (fun v s' hv => ?_) fun _ _ e => e)
      obtain ⟨r, rfl, hq⟩ := hv
      exact wpAny_pure (wpAny_pure ⟨_, rfl, hq⟩)
    refine wpAny_bind (wpAny_askSetting (wpAny_ite ?_))
    split
    · exact wpAny_bind (wpAny_pure (wpAny_pure fin))
    · exact wpAny_tryCatch (wpAny_bind (wpAny_pure (wpAny_pure fin)))
  unfold richCompare
  simp only [oneThing_ref]
  refine wpAny_holding (wpAny_bind (wpAny_cRoomFor (Nat.lt_of_succ_lt hu) ?_))
  refine wpAny_bind (J.type.here (wpAny_bind (hb.here ?_)))
  split
  · rename_i q
    have e : PySem.W.subIn K tb (.ref C) = some false := by
      rcases Bool.or_eq_true_iff.mp hn with e | e
      · rw [beq_iff_eq.mp e] at q; simp at q
      · exact beq_iff_eq.mp e
    refine wpAny_bind ((PySem.W.looks_subIn X e).here ?_)
    simp only [Bool.false_eq_true, if_false]
    refine wpAny_bind (wpAny_mono one (fun r s' z => ?_) fun _ _ e => e)
    obtain ⟨v, rfl, hq⟩ := z
    exact wpAny_pure hq
  · refine wpAny_bind (wpAny_pure ?_)
    simp only [Bool.false_eq_true, if_false]
    refine wpAny_bind (wpAny_mono one (fun r s' z => ?_) fun _ _ e => e)
    obtain ⟨v, rfl, hq⟩ := z
    exact wpAny_pure hq
end
end Sm
namespace Sm
open PySem PySem.Spec PyProof.Rows L2
section
open PySem.W
variable {prog : Program} {w : World} {A : Around} {E : Value → Shared → Prop} {s : Shared} {K : PySem.W.Frag} {x C L f : Addr} {h₀ : Heap} {m : Str → Option Value} {ox : Obj} {od : Option Obj}
theorem binL_K {op : Operator} {b : Value} {T : String} {fo ro rc : Option Value} {Q : Value → Shared → Prop} (X : K.In s.heap) (I : InstAt s.heap x ox C od) (hb : Looks (model prog w) s.heap (typeOf b) (.type T)) (hc : selfFirst K C = true)
    (hs : findIn K (.ref C) (PySem.dunder op.info.2) = some (some (.ref f))) (hf : isFn K (.ref f) = true) (hr : findIn K (.ref C) (dunderR op.info.2) = some rc) (hp : rc = none ∨ ∃ g : Addr, rc = some (.ref g))
    (h1 : findIn K (.type T) (PySem.dunder op.info.2) = some fo) (h2 : findIn K (.type T) (dunderR op.info.2) = some ro) (hsub : subIn K (.type T) (.ref C) = some false)
    (h : wpAny (model prog w) A (call (.ref f) [.ref x, b]) (PySem.W.CmpBack Q) E s) : wpAny (model prog w) A (binaryOp op (.ref x) b) Q E s := by
  obtain ⟨cd, rest, hcd, hm⟩ := ksp_first hc
  rcases hi : op.info with ⟨sym, nm'⟩
  rw [hi] at hs hr h1 h2
  dsimp only at hs hr h1 h2
  have one := ksp_try X I hs hf h
  obtain ⟨hh, g, d, tt, os⟩ := s
  have L1 : Looks (model prog w) hh (typeOf (.ref x)) (.ref C) := I.type
  have L2 : Looks (model prog w) hh (typeOf b) (.type T) := hb
  have L3 : Looks (model prog w) hh (fillsNumberSlot (.ref C) nm') true := fills_K X hcd hm hs
  have L4 : Looks (model prog w) hh (fillsNumberSlot (.type T) nm') ((fo.isSome && !isSeqSlot fo) || (ro.isSome && !isSeqSlot ro)) := ksp_fillsT X h1 h2
  have L5 : Looks (model prog w) hh (isSubtype (.type T) (.ref C)) false := looks_subIn X hsub
  have L6 : Looks (model prog w) hh (numberSlotInPython (.ref C) nm') true := ksp_inPy X hs hr hp
  have L7 : Looks (model prog w) hh (numberSlotInPython (.type T) nm') false := Looks.of_pure rfl
  have L8 : Looks (model prog w) hh (typeLookup (.type T) (dunderR nm')) ro := looks_findIn X h2
  generalize ((fo.isSome && !isSeqSlot fo) || (ro.isSome && !isSeqSlot ro)) = right at L4
  have hne : (Value.ref C == Value.type T) = false := Bool.eq_false_iff.mpr fun q => by cases beq_iff_eq.mp q
  simp only [binaryOp, hi]
  refine wpAny_holding (wpAny_bind ?_)
  unfold binaryOp1
  refine wpAny_bind (L1.at (wpAny_bind (L2.at (wpAny_bind (L3.at ?_)))))
  simp only [hne, Bool.false_eq_true, if_false]
  cases right with
  | false =>
    ksp_lk
    refine wpAny_mono one (fun r s' hr' => ?_) fun _ _ e => e
    obtain ⟨v, rfl, hq⟩ := hr'
    ksp_lk
    exact hq
  | true =>
    ksp_lk
    refine wpAny_mono one (fun r s' hr' => ?_) fun _ _ e => e
    obtain ⟨v, rfl, hq⟩ := hr'
    ksp_lk
    exact hq
theorem binR_K {op : Operator} {b : Value} {T : String} {fo ro : Option Value} {g' : Addr} {Q : Value → Shared → Prop} (X : K.In s.heap) (I : InstAt s.heap x ox C od) (hb : Looks (model prog w) s.heap (typeOf b) (.type T)) (hc : selfFirst K C = true)
    (hs : findIn K (.ref C) (PySem.dunder op.info.2) = some (some (.ref g'))) (hr : findIn K (.ref C) (dunderR op.info.2) = some (some (.ref f))) (hf : isFn K (.ref f) = true)
    (h1 : findIn K (.type T) (PySem.dunder op.info.2) = some fo) (h2 : findIn K (.type T) (dunderR op.info.2) = some ro) (hno : ((fo.isSome && !isSeqSlot fo) || (ro.isSome && !isSeqSlot ro)) = false)
    (h : wpAny (model prog w) A (call (.ref f) [.ref x, b]) (PySem.W.CmpBack Q) E s) : wpAny (model prog w) A (binaryOp op b (.ref x)) Q E s := by
  obtain ⟨cd, rest, hcd, hm⟩ := ksp_first hc
  rcases hi : op.info with ⟨sym, nm'⟩
  rw [hi] at hs hr h1 h2
  dsimp only at hs hr h1 h2
  have one := ksp_try X I hr hf h
  obtain ⟨hh, g, d, tt, os⟩ := s
  have L1 : Looks (model prog w) hh (typeOf (.ref x)) (.ref C) := I.type
  have L2 : Looks (model prog w) hh (typeOf b) (.type T) := hb
  have L3 : Looks (model prog w) hh (fillsNumberSlot (.ref C) nm') true := fills_K X hcd hm hs
  have L4 : Looks (model prog w) hh (fillsNumberSlot (.type T) nm') ((fo.isSome && !isSeqSlot fo) || (ro.isSome && !isSeqSlot ro)) := ksp_fillsT X h1 h2
  rw [hno] at L4
  have hne : (Value.type T == Value.ref C) = false := Bool.eq_false_iff.mpr fun q => by cases beq_iff_eq.mp q
  simp only [binaryOp, hi]
  refine wpAny_holding (wpAny_bind ?_)
  unfold binaryOp1
  refine wpAny_bind (L2.at (wpAny_bind (L1.at (wpAny_bind (L4.at ?_)))))
  simp only [hne, Bool.false_eq_true, if_false]
  ksp_lk
  refine wpAny_mono one (fun r s' hr' => ?_) fun _ _ e => e
  obtain ⟨v, rfl, hq⟩ := hr'
  ksp_lk
  exact hq
end
/-- what the left kind must lack: list and tuple and the four set operators -/
structure NoSlot (K : PySem.W.Frag) (T : String) (nm : String) : Prop where
  ex : ∃ fo ro : Option Value, PySem.W.findIn K (.type T) (PySem.dunder nm) = some fo ∧ PySem.W.findIn K (.type T) (dunderR nm) = some ro ∧ ((fo.isSome && !isSeqSlot fo) || (ro.isSome && !isSeqSlot ro)) = false
theorem noSlot {K : PySem.W.Frag} {T : String} {nm : String} {fo ro : Option Value} (h1 : PySem.fastLookup T (PySem.dunder nm) = some fo) (h2 : PySem.fastLookup T (dunderR nm) = some ro) (h3 : ((fo.isSome && !isSeqSlot fo) || (ro.isSome && !isSeqSlot ro)) = false) : NoSlot K T nm := ⟨fo, ro, h1, h2, h3⟩
section
variable {X : Cx} {C : Addr} {k : Nat} {sp : Sp}
/-- x op y, x of the class at C, y of another kind -/
def rOwnL (K : PySem.W.Frag) (C : Addr) (nm : String) (sp : Sp) : R2 := fun x y H Q => ∃ a dx fs T, x = .ref a ∧ H a = some (.ins C dx fs) ∧ TyX K H y (.type T) ∧ NoSlot K T nm ∧ PySem.W.subIn K (.type T) (.ref C) = some false ∧ sp [.ref a, y] H Q E0
theorem op_ownL {op : Operator} {nm : Str} {nm' : String} {rc : Option Value} (hi : op.info.2 = nm') (hn : PySem.dunder op.info.2 = nm) (M : OwM X.prog X.w X.K X.mg X.base C k nm sp) (hc : PySem.W.selfFirst X.K C = true) (hrr : PySem.W.findIn X.K (.ref C) (dunderR op.info.2) = some rc) (hp : rc = none ∨ ∃ g : Addr, rc = some (.ref g)) (hr : Room k X.A) : OpR X (binaryOp op) (rOwnL X.K C nm' sp) := by
  subst hn hi
  intro pins s σ H x y v u Q I rx ry q
  obtain ⟨a, dx, fs, T, rfl, ha, hy, hN, hsub, q⟩ := q
  obtain ⟨fo, ro, h1, h2, _⟩ := hN.ex
  cases rx
  obtain ⟨f, fd, ps, F, hs, hf, _, hB⟩ := M.ex
  obtain ⟨mA, J, _⟩ := ins_get I.hok ha
  obtain ⟨od, J, _⟩ := J.look
  refine binL_K I.kIn J (tyX_looks I ry hy) hc hs hf hrr hp h1 h2 hsub ?_
  refine thn (run_fn (us := [.ref a, u]) (vs := [.ref a, y]) F hr hB .nil pass0 I (.cons rfl (.cons ry .nil)) q) fun v' s' h => ?_
  obtain ⟨z, H', I', rz, qz⟩ := h
  exact cmpBack_of rz ⟨z, H', I', rz, qz⟩
/-- y op x, x of the class at C, y of another kind: the reflected method -/
def rOwnR (K : PySem.W.Frag) (C : Addr) (nm : String) (sp : Sp) : R2 := fun y x H Q => ∃ a dx fs T, x = .ref a ∧ H a = some (.ins C dx fs) ∧ TyX K H y (.type T) ∧ NoSlot K T nm ∧ sp [.ref a, y] H Q E0
theorem op_ownR {op : Operator} {nm : Str} {nm' : String} {g : Addr} (hi : op.info.2 = nm') (hn : dunderR op.info.2 = nm) (M : OwM X.prog X.w X.K X.mg X.base C k nm sp) (hc : PySem.W.selfFirst X.K C = true) (hs0 : PySem.W.findIn X.K (.ref C) (PySem.dunder op.info.2) = some (some (.ref g))) (hr : Room k X.A) : OpR X (binaryOp op) (rOwnR X.K C nm' sp) := by
  subst hn hi
  intro pins s σ H y x u v Q I ry rx q
  obtain ⟨a, dx, fs, T, rfl, ha, hy, hN, q⟩ := q
  obtain ⟨fo, ro, h1, h2, h3⟩ := hN.ex
  cases rx
  obtain ⟨f, fd, ps, F, hs, hf, _, hB⟩ := M.ex
  obtain ⟨mA, J, _⟩ := ins_get I.hok ha
  obtain ⟨od, J, _⟩ := J.look
  refine binR_K I.kIn J (tyX_looks I ry hy) hc hs0 hs hf h1 h2 h3 ?_
  refine thn (run_fn (us := [.ref a, u]) (vs := [.ref a, y]) F hr hB .nil pass0 I (.cons rfl (.cons ry .nil)) q) fun v' s' h => ?_
  obtain ⟨z, H', I', rz, qz⟩ := h
  exact cmpBack_of rz ⟨z, H', I', rz, qz⟩
/-- x != y by the own == -/
structure NeOk (K : PySem.W.Frag) (C : Addr) : Prop where
  ne : PySem.W.findIn K (.ref C) "__ne__" = some (some (.builtin "object.__ne__"))
  ob : PySem.W.subIn K (.ref C) (.type "object") = some true
def rOwnNe (K : PySem.W.Frag) (C : Addr) (sp : Sp) : R2 := fun x y H Q => ∃ a dx fs t, x = .ref a ∧ H a = some (.ins C dx fs) ∧ TyX K H y t ∧ PySem.W.notFirst K C t = true ∧ sp [.ref a, y] H (fun v H' => ∃ b, v = .bl b ∧ Q (.bl (!b)) H') E0
theorem op_ownNe (M : OwM X.prog X.w X.K X.mg X.base C k "__eq__" sp) (N : NeOk X.K C) (hr : Room (k + 1) X.A) : OpR X (compareOp .NotEq) (rOwnNe X.K C sp) := by
  intro pins s σ H x y v u Q I rx ry q
  obtain ⟨a, dx, fs, t, rfl, ha, hy, hn, q⟩ := q
  cases rx
  obtain ⟨f, fd, ps, F, hs, hf, _, hB⟩ := M.ex
  obtain ⟨mA, J, _⟩ := ins_get I.hok ha
  obtain ⟨od, J, _⟩ := J.look
  show wpAny (model X.prog X.w) X.A (richCompare .NotEq (.ref a) u) (EP X pins σ Q) X.xe s
  refine ne_K (by have := hr.un; omega) I.kIn J (tyX_looks I ry hy) hn N.ne N.ob hs hf ?_
  refine thn (run_fn1 (us := [.ref a, u]) (vs := [.ref a, y]) F hr hB .nil pass0 I (.cons rfl (.cons ry .nil)) q) fun v' s' h => ?_
  obtain ⟨z, H', I', rz, b, e, qz⟩ := h
  subst e
  cases rz
  exact ⟨b, rfl, ⟨.bl (!b), H', I', rfl, qz⟩⟩
/-- what the class at C is not -/
structure NotKinds (K : PySem.W.Frag) (C : Addr) : Prop where
  lst : PySem.W.subIn K (.ref C) (.type "list") = some false
  tup : PySem.W.subIn K (.ref C) (.type "tuple") = some false
  int : PySem.W.subIn K (.ref C) (.type "int") = some false
  str : PySem.W.subIn K (.ref C) (.type "str") = some false
  non : PySem.W.subIn K (.ref C) (.type "NoneType") = some false
/-- y == x, x of the class at C, y None, an int, a text, a list, a tuple -/
def rEqOwn (C : Addr) (sp : Sp) : R2 := fun y x H Q => ∃ a dx fs, x = .ref a ∧ H a = some (.ins C dx fs) ∧ (y = .non ∨ (∃ i, y = .int i) ∨ (∃ z, y = .str z) ∨ (∃ l xs, y = .ref l ∧ (H l = some (.lst xs) ∨ H l = some (.tup xs)))) ∧ sp [.ref a, y] H Q E0
theorem op_eqOwn (M : OwM X.prog X.w X.K X.mg X.base C k "__eq__" sp) (N : NotKinds X.K C) (hr : Room k X.A) : OpR X (compareOp .Eq) (rEqOwn C sp) := by
  intro pins s σ H y x u v Q I ry rx q
  obtain ⟨a, dx, fs, rfl, ha, hy, q⟩ := q
  cases rx
  obtain ⟨f, fd, ps, F0, hs, hf, _, hB⟩ := M.ex
  have hob := (show ObjOk X.prog X.w H s.heap a (.ins C dx fs) from I.hok a _ ha).2.2.2.1
  obtain ⟨mA, J, _⟩ := ins_get I.hok ha
  obtain ⟨od, J, _⟩ := J.look
  have run : wpAny (model X.prog X.w) X.A (call (.ref f) [.ref a, u]) (PySem.W.CmpBack (EP X pins σ Q)) X.xe s := by
    refine thn (run_fn (us := [.ref a, u]) (vs := [.ref a, y]) F0 hr hB .nil pass0 I (.cons rfl (.cons ry .nil)) q) fun v' s' h => ?_
    obtain ⟨z, H', I', rz, qz⟩ := h
    exact cmpBack_of rz ⟨z, H', I', rz, qz⟩
  show wpAny (model X.prog X.w) X.A (richCompare .Eq u (.ref a)) (EP X pins σ Q) X.xe s
  rcases hy with rfl | ⟨i, rfl⟩ | ⟨z, rfl⟩ | ⟨l, xs, rfl, hl | hl⟩
  · cases ry
    exact rc_right hr.units0 rfl I.kIn J N.non F.slot_NoneType_eq F.entry_NoneType_eq (F.args_NoneType_eq_2 _ _) (fun _ _ _ h => non_decl h) hs hf run
  · obtain ⟨t, rfl⟩ := ry
    exact rc_right hr.units0 rfl I.kIn J N.int F.slot_int_eq F.entry_int_eq (F.args_int_eq_2 _ _) (fun _ _ _ h => int_decl hob h) hs hf run
  · obtain ⟨t, rfl⟩ := ry
    exact rc_right hr.units0 rfl I.kIn J N.str F.slot_str_eq F.entry_str_eq (F.args_str_eq_2 _ _) (fun _ _ _ h => str_decl hob h) hs hf run
  · cases ry
    obtain ⟨_, its, n, _, h1⟩ := (show ObjOk X.prog X.w H s.heap l (.lst xs) from I.hok l _ hl)
    exact rc_right hr.units0 ⟨_, h1, rfl⟩ I.kIn J N.lst F.slot_list_eq F.entry_list_eq (F.args_list_eq_2 _ _) (fun _ _ _ h => list_decl h1 rfl hob I.kIn N.lst h) hs hf run
  · cases ry
    obtain ⟨_, its, _, o, h1, h2, _⟩ := (show ObjOk X.prog X.w H s.heap l (.tup xs) from I.hok l _ hl)
    exact rc_right hr.units0 ⟨_, h1, h2⟩ I.kIn J N.tup F.slot_tuple_eq F.entry_tuple_eq (F.args_tuple_eq_2 _ _) (fun _ _ _ h => tup_decl h1 h2 hob I.kIn N.tup h) hs hf run
end
end Sm
/-! texts in strictly ascending order -/
namespace Sm
open PySem PySem.Spec PyProof.Rows L2
theorem str_ext {x y : Str} (h : x.cps.toList = y.cps.toList) : x = y := by
  cases x with
  | mk a => cases y with
    | mk b =>
      have e : a = b := by
        cases a; cases b
        exact congrArg Array.mk h
      rw [e]
theorem ltS_irrefl (x : Str) : ltS x x = false := decide_eq_false (List.lt_irrefl _)
theorem ltS_trans {x y z : Str} (h : ltS x y = true) (h2 : ltS y z = true) : ltS x z = true := decide_eq_true (List.lt_trans (of_decide_eq_true h) (of_decide_eq_true h2))
theorem ltS_total {x y : Str} (h : ltS x y = false) (h2 : ltS y x = false) : x = y := by
  refine str_ext (List.le_antisymm ?_ ?_)
  · exact List.not_lt.mp (of_decide_eq_false h2)
  · exact List.not_lt.mp (of_decide_eq_false h)
theorem ltS_asymm {x y : Str} (h : ltS x y = true) : ltS y x = false := by
  cases e : ltS y x with
  | false => rfl
  | true =>
    have := ltS_trans h e
    rw [ltS_irrefl] at this
    cases this
theorem ltS_ne {x y : Str} (h : ltS x y = true) : x ≠ y := by
  rintro rfl
  rw [ltS_irrefl] at h
  cases h
abbrev AscS (ws : List Str) : Prop := ws.Pairwise fun x y => ltS x y = true
theorem AscS.nodup {ws : List Str} (h : AscS ws) : ws.Nodup := h.imp fun h => ltS_ne h
theorem asc_ext : ∀ {xs ys : List Str}, AscS xs → AscS ys → (∀ z, z ∈ xs ↔ z ∈ ys) → xs = ys
  | [], [], _, _, _ => rfl
  | [], y :: ys, _, _, h => absurd ((h y).mpr (List.mem_cons_self ..)) (List.not_mem_nil)
  | x :: xs, [], _, _, h => absurd ((h x).mp (List.mem_cons_self ..)) (List.not_mem_nil)
  | x :: xs, y :: ys, hx, hy, h => by
    obtain ⟨hx1, hx2⟩ := List.pairwise_cons.mp hx
    obtain ⟨hy1, hy2⟩ := List.pairwise_cons.mp hy
    have e : x = y := by
      rcases List.mem_cons.mp ((h x).mp (List.mem_cons_self ..)) with e | hm
      · exact e
      · rcases List.mem_cons.mp ((h y).mpr (List.mem_cons_self ..)) with e | hm2
        · exact e.symm
        · have a := hy1 x hm
          have b := hx1 y hm2
          rw [ltS_asymm a] at b
          cases b
    subst e
    rw [asc_ext hx2 hy2 fun z => ?_]
    constructor
    · intro hz
      rcases List.mem_cons.mp ((h z).mp (List.mem_cons_of_mem _ hz)) with e | q
      · subst e
        have := hx1 z hz
        rw [ltS_irrefl] at this
        cases this
      · exact q
    · intro hz
      rcases List.mem_cons.mp ((h z).mpr (List.mem_cons_of_mem _ hz)) with e | q
      · subst e
        have := hy1 z hz
        rw [ltS_irrefl] at this
        cases this
      · exact q
theorem asc_filter {ws : List Str} (p : Str → Bool) (h : AscS ws) : AscS (ws.filter p) := h.sublist List.filter_sublist
/-- those below x come first -/
theorem asc_split : ∀ {l : List Str}, AscS l → ∀ x : Str, l.filter (fun y => ltS y x) = l.take (l.filter fun y => ltS y x).length ∧ l.drop (l.filter fun y => ltS y x).length = l.filter fun y => !ltS y x
  | [], _, x => ⟨rfl, rfl⟩
  | a :: r, h, x => by
    obtain ⟨h1, h2⟩ := List.pairwise_cons.mp h
    obtain ⟨i1, i2⟩ := asc_split h2 x
    cases e : ltS a x with
    | true =>
      have f1 : (a :: r).filter (fun y => ltS y x) = a :: r.filter fun y => ltS y x := by rw [List.filter_cons, e]; rfl
      have f2 : (a :: r).filter (fun y => !ltS y x) = r.filter fun y => !ltS y x := by rw [List.filter_cons, e]; rfl
      rw [f1, f2, List.length_cons, List.take_succ_cons, List.drop_succ_cons]
      exact ⟨congrArg (a :: ·) i1, i2⟩
    | false =>
      have none : r.filter (fun y => ltS y x) = [] := List.filter_eq_nil_iff.mpr fun y hy hlt => by
        have q := ltS_trans (h1 y hy) hlt
        rw [e] at q
        cases q
      have f1 : (a :: r).filter (fun y => ltS y x) = [] := by rw [List.filter_cons, e, none]; rfl
      have f2 : (a :: r).filter (fun y => !ltS y x) = a :: r := by
        refine List.filter_eq_self.mpr fun y hy => ?_
        rcases List.mem_cons.mp hy with q | q
        · rw [q, e]; rfl
        · cases e2 : ltS y x with
          | false => rfl
          | true =>
            have q2 := ltS_trans (h1 y q) e2
            rw [e] at q2
            cases q2
      rw [f1, f2]
      exact ⟨rfl, rfl⟩
theorem insS_eq {l : List Str} (h : AscS l) (x : Str) : insS x l = l.filter (fun y => ltS y x) ++ [x] ++ l.filter (fun y => !ltS y x) := by
  obtain ⟨a, b⟩ := asc_split h x
  unfold insS
  rw [b, ← a]
theorem mem_insS {l : List Str} (h : AscS l) (x z : Str) : z ∈ insS x l ↔ z = x ∨ z ∈ l := by
  rw [insS_eq h]
  simp only [List.mem_append, List.mem_singleton, List.mem_filter]
  cases e : ltS z x with
  | true => simp; constructor <;> (intro q; rcases q with q | q <;> simp [q])
  | false => simp
theorem asc_insS {l : List Str} (h : AscS l) {x : Str} (hx : x ∉ l) : AscS (insS x l) := by
  rw [insS_eq h]
  refine List.pairwise_append.mpr ⟨List.pairwise_append.mpr ⟨asc_filter _ h, List.pairwise_singleton _ _, fun a ha b hb => ?_⟩, asc_filter _ h, fun a ha b hb => ?_⟩
  · rw [List.mem_singleton.mp hb]
    exact (List.mem_filter.mp ha).2
  · obtain ⟨hb1, hb2⟩ := List.mem_filter.mp hb
    have xb : ltS x b = true := by
      cases e : ltS x b with
      | true => rfl
      | false =>
        have q : b = x := ltS_total (by simpa using hb2) e
        rw [q] at hb1
        exact absurd hb1 hx
    rcases List.mem_append.mp ha with q | q
    · exact ltS_trans (List.mem_filter.mp q).2 xb
    · rw [List.mem_singleton.mp q]
      exact xb
theorem rising_fold : ∀ (xs acc : List Str), AscS acc → xs.Nodup → (∀ x ∈ xs, x ∉ acc) → AscS (xs.foldl (fun acc x => insS x acc) acc) ∧ ∀ z, z ∈ xs.foldl (fun acc x => insS x acc) acc ↔ z ∈ xs ∨ z ∈ acc
  | [], acc, h, _, _ => ⟨h, fun z => by simp⟩
  | x :: xs, acc, h, nd, hd => by
    obtain ⟨n1, n2⟩ := List.nodup_cons.mp nd
    have hx := hd x (List.mem_cons_self ..)
    obtain ⟨i1, i2⟩ := rising_fold xs (insS x acc) (asc_insS h hx) n2 fun y hy hm => by
      rcases (mem_insS h x y).mp hm with q | q
      · subst q
        exact n1 hy
      · exact hd y (List.mem_cons_of_mem _ hy) q
    refine ⟨i1, fun z => ?_⟩
    rw [List.foldl_cons, i2 z, mem_insS h, List.mem_cons]
    constructor
    · rintro (q | q | q)
      · exact .inl (.inr q)
      · exact .inl (.inl q)
      · exact .inr q
    · rintro ((q | q) | q)
      · exact .inr (.inl q)
      · exact .inl q
      · exact .inr (.inr q)
theorem asc_rising {xs : List Str} (h : xs.Nodup) : AscS (rising xs) := (rising_fold xs [] List.Pairwise.nil h fun _ _ => List.not_mem_nil).1
theorem mem_rising {xs : List Str} (h : xs.Nodup) (z : Str) : z ∈ rising xs ↔ z ∈ xs := by
  have e := (rising_fold xs [] List.Pairwise.nil h fun _ _ => List.not_mem_nil).2 z
  refine e.trans ⟨fun q => q.elim id fun q => absurd q List.not_mem_nil, .inl⟩
theorem ltCps_iff : ∀ (a b : List Nat), ltCps a b = decide (a < b) := by
  intro a
  induction a with
  | nil =>
    intro b
    cases b with
    | nil => rfl
    | cons y t => exact (decide_eq_true (List.nil_lt_cons y t)).symm
  | cons x r ih =>
    intro b
    cases b with
    | nil => exact (decide_eq_false (List.not_lt_nil _)).symm
    | cons y t =>
      show (decide (x < y) || (x == y && ltCps r t)) = _
      rw [ih t]
      have e := List.cons_lt_cons_iff (a := x) (b := y) (l₁ := r) (l₂ := t)
      by_cases h : x :: r < y :: t
      · rw [decide_eq_true h]
        rcases e.mp h with q | ⟨q1, q2⟩
        · rw [decide_eq_true q]; rfl
        · rw [q1, decide_eq_true q2]; simp
      · rw [decide_eq_false h]
        have n1 : ¬ x < y := fun q => h (e.mpr (.inl q))
        rw [decide_eq_false n1]
        cases q : (x == y) with
        | false => rfl
        | true =>
          have q2 : ¬ r < t := fun z => h (e.mpr (.inr ⟨beq_iff_eq.mp q, z⟩))
          rw [decide_eq_false q2]
          rfl
theorem sortedS_pw : ∀ {ys : List Str}, sortedS ys = true → ys.Pairwise fun x y => ltS y x = false := by
  have key : ∀ (r : List Str) (x : Str), risingS x r = true → (x :: r).Pairwise fun x y => ltS y x = false := by
    intro r
    induction r with
    | nil => intro x _; exact List.pairwise_singleton _ _
    | cons y r ih =>
      intro x h
      unfold risingS at h
      obtain ⟨h1, h2⟩ := Bool.and_eq_true_iff.mp h
      have h3 := ih y h2
      have e : ltS y x = false := by
        unfold ltS
        rw [← ltCps_iff]
        simpa using h1
      refine List.pairwise_cons.mpr ⟨fun z hz => ?_, h3⟩
      rcases List.mem_cons.mp hz with q | q
      · rw [q]; exact e
      · have h4 := (List.pairwise_cons.mp h3).1 z q
        cases e2 : ltS z x with
        | false => rfl
        | true =>
          cases e3 : ltS x y with
          | true =>
            rw [ltS_trans e2 e3] at h4
            cases h4
          | false =>
            rw [ltS_total e3 e, h4] at e2
            cases e2
  intro ys h
  cases ys with
  | nil => exact List.Pairwise.nil
  | cons x r => exact key r x h
theorem asc_sorted {ys : List Str} (h : sortedS ys = true) (nd : ys.Nodup) : AscS ys := by
  refine (List.Pairwise.and (sortedS_pw h) nd).imp fun {a b} q => ?_
  obtain ⟨q1, q2⟩ := q
  cases e : ltS a b with
  | true => rfl
  | false => exact absurd (ltS_total e q1) q2
end Sm
/-! sets of any kind of keys, with what their walk needs -/
namespace Sm
open PySem PySem.Spec PyProof.Rows L2
section
variable {P : Program} {w : World} {T : Type} [DecidableEq T]
/-- no key is both -/
def Far (knd : KeyKind P w T) (e f : Int × Value) : Prop := ∀ k, knd.is k e.snd = true → knd.is k f.snd = false
theorem Far.symm {knd : KeyKind P w T} {e f : Int × Value} (h : Far knd e f) : Far knd f e := fun k hf => by
  cases he : knd.is k e.snd with
  | false => rfl
  | true =>
    rw [h k he] at hf
    cases hf
/-- a set at a, with what its walk needs -/
def SetKR (knd : KeyKind P w T) (h : Heap) (a : Addr) (S : T → Bool) (n : Nat) : Prop :=
  ∃ o es ep t, h.get? a = some o ∧ o.ExactSet ∧ o.data = Data.set es ep t ∧ ElemsOf knd es.toList ∧ (∀ k, S k = true ↔ ∃ e, e ∈ es.toList ∧ knd.is k e.snd = true) ∧ es.toList.Pairwise (Far knd) ∧
    es.size < scanBound ∧ t.fits es.size = true ∧ es.size = n ∧ Ris t.place.toList ∧ (w.params.followText "set-order" = true ∨ t.led = true)
variable {knd : KeyKind P w T}
theorem SetKR.at {h h' : Heap} {a : Addr} {S : T → Bool} {n : Nat} (x : SetKR knd h a S n) (e : ∀ o, h.get? a = some o → h'.get? a = some o) : SetKR knd h' a S n := by
  obtain ⟨o, es, ep, t, ho, r⟩ := x
  exact ⟨o, es, ep, t, e o ho, r⟩
theorem SetKR.congr {h : Heap} {a : Addr} {S S' : T → Bool} {n : Nat} (x : SetKR knd h a S n) (e : ∀ k, S' k = S k) : SetKR knd h a S' n := by
  have e2 : S' = S := funext e
  rw [e2]
  exact x
theorem far_perm {l l' : List (Int × Value)} (p : l'.Perm l) (h : l.Pairwise (Far knd)) : l'.Pairwise (Far knd) := (p.pairwise_iff (fun {x y} z => z.symm)).mpr h
variable {A : Around} {E : Value → Shared → Prop} {s : Shared} {a : Addr}
theorem setKR_tail {g : Bool → Sem Unit} (hg : ∀ (b : Bool) (s₁ : Shared) (Q' : Unit → Shared → Prop), Q' () s₁ → wpAny (model P w) A (g b) Q' E s₁)
    {o : Obj} {es : Array (Int × Value)} {ep : Nat} {t : SetTable} (ho : s.heap.get? a = some o) (hx : o.ExactSet) (hd : o.data = Data.set es ep t)
    {es1 : Array (Int × Value)} {t2 : SetTable} {S' : T → Bool} (el : ElemsOf knd es1.toList) (hS : ∀ k', S' k' = true ↔ ∃ e, e ∈ es1.toList ∧ knd.is k' e.snd = true) (far : es1.toList.Pairwise (Far knd))
    (hb : es1.size < scanBound) (hf : t2.fits es1.size = true) (ris : Ris t2.place.toList) (led : w.params.followText "set-order" = true ∨ t2.led = true) {wasDummy : Bool} {R : Option Bool → Shared → Prop}
    (kk : ∀ h', Heap.SameBut a s.heap h' → SetKR knd h' a S' es1.size → R (some true) { heap := h', gens := s.gens, drawn := s.drawn, toks := s.toks, os := s.os }) :
    wpAny (model P w) A (do
      storeSet a es1 t2
      if (!wasDummy && t2.tooFull) = true then do
        g (relayAll t2 es1 (SetTable.grown es1.size)).snd.snd
        storeSet a (relayAll t2 es1 (SetTable.grown es1.size)).fst (relayAll t2 es1 (SetTable.grown es1.size)).snd.fst
        pure (some true)
      else pure (some true)) R E s := by
  have q1 := (SetOf_store (knd := knd) ho hx hd (es' := es1) (t' := t2) (S' := S') el hS hb hf).1
  refine wpAny_bind (wpAny_storeSet_of ho hd ?_ (fits_of_scanBound hb))
  have same : ∀ es' t', Heap.SameBut a s.heap (s.heap.update a (Obj.putSet es' t')) := fun es' t' => .update _ _ _
  split
  · refine wpAny_bind (hg _ _ _ ?_)
    have pm := relayAll_perm t2 es1 (SetTable.grown es1.size)
    have ft := relayAll_fits t2 es1 (SetTable.grown es1.size)
    have rs := relayAll_ris t2 es1 (SetTable.grown es1.size)
    have ld := relayAll_led t2 es1 (SetTable.grown es1.size)
    generalize relayAll t2 es1 (SetTable.grown es1.size) = r at *
    have sz : r.fst.size = es1.size := by
      have := pm.length_eq
      rw [Array.length_toList, Array.length_toList] at this
      exact this
    have el2 : ElemsOf knd r.fst.toList := el.perm pm
    have hS2 : ∀ k', S' k' = true ↔ ∃ e, e ∈ r.fst.toList ∧ knd.is k' e.snd = true := fun k' => by
      rw [hS k']
      exact ⟨fun ⟨e, m, z⟩ => ⟨e, pm.mem_iff.mpr m, z⟩, fun ⟨e, m, z⟩ => ⟨e, pm.mem_iff.mp m, z⟩⟩
    have hb2 : r.fst.size < scanBound := by rw [sz]; exact hb
    have hx2 : Obj.ExactSet { cls := o.cls, dict := o.dict, data := Data.set es1 (ep + 1) t2, slots := o.slots } := hx
    have q2 := (SetOf_store (knd := knd) q1 hx2 rfl (es' := r.fst) (t' := r.snd.fst) (S' := S') el2 hS2 hb2 ft).1
    refine wpAny_bind (wpAny_storeSet_of q1 rfl ?_ (fits_of_scanBound hb2))
    refine wpAny_pure (kk _ ?_ ⟨_, _, _, _, q2, hx, rfl, el2, hS2, far_perm pm far, hb2, ft, sz, rs, by rw [ld]; exact led⟩)
    exact (same _ _).trans (.update _ _ _)
  · exact wpAny_pure (kk _ (same _ _) ⟨_, _, _, _, q1, hx, rfl, el, hS, far, hb, hf, rfl, ris, led⟩)
theorem gone {α : Type} {M : Model} {Q : α → Shared → Prop} {m : Sem α} {x : α} (h : m = pure x) (q : Q x s) : wpAny M A m Q E s := by
  rw [h]
  exact wpAny_pure q
theorem setKR_add {k : T} {x : Value} {S : T → Bool} {n : Nat} {Q : Bool → Shared → Prop} (hk : knd.is k x = true) (hs : x.scannable = true) (hr : SetKR knd s.heap a S n) (hb : n + 1 < scanBound)
    (kk : ∀ h', Heap.SameBut a s.heap h' → SetKR knd h' a (fun k' => S k' || decide (k' = k)) (if S k = true then n else n + 1) → Q (!S k) { heap := h', gens := s.gens, drawn := s.drawn, toks := s.toks, os := s.os }) :
    wpAny (model P w) A (setAddHashed a x (knd.hash k)) Q E s := by
  obtain ⟨o, es, ep, t, ho, hx, hd, el, hS, far, hsz, hf, hn, ris, led⟩ := hr
  unfold setAddHashed
  refine wpAny_holding ?_
  rw [setAddHashedIn.eq_def]
  refine wpAny_bind (wpAny_setState_of ho hd hf ?_)
  dsimp only
  rw [if_pos (byScan_of (knd := knd) hs hsz el)]
  refine wpAny_bind ?_
  unfold setAddByScan
  refine wpAny_bind (wpAny_rule ?_)
  refine wpAny_bind (wpAny_setScan_of hk ho hd hf el ?_)
  cases hfi : List.findIdx? (fun e => knd.is k e.snd) es.toList with
  | some j =>
    have hSk : S k = true := by
      rw [hS k]
      obtain ⟨hj, p1, _⟩ := List.findIdx?_eq_some_iff_getElem.mp hfi
      exact ⟨_, List.getElem_mem hj, p1⟩
    refine wpAny_pure ?_
    refine wpAny_pure ?_
    have q := kk s.heap (.refl _ _)
    rw [hSk] at q
    refine q ?_
    refine ⟨o, es, ep, t, ho, hx, hd, el, fun k' => ?_, far, hsz, hf, hn, ris, led⟩
    rw [← hS k', Bool.or_eq_true, decide_eq_true_eq]
    exact ⟨fun h => h.elim id fun e => by rw [e]; exact hSk, .inl⟩
  | none =>
    have hSk : S k = false := by
      cases e : S k with
      | false => rfl
      | true =>
        obtain ⟨z, m, q⟩ := (hS k).mp e
        have q2 := List.findIdx?_eq_none_iff.mp hfi z m
        rw [q] at q2
        cases q2
    have pm := layNew_perm t es (knd.hash k) x
    have ft := layNew_fits t es (knd.hash k) x
    have rs := layNew_ris t es (knd.hash k) x ris
    have ld := layNew_led t es (knd.hash k) x
    generalize layNew t es (knd.hash k) x = r at *
    obtain ⟨es1, t1, wd, gv⟩ := r
    dsimp only at pm ft rs ld
    have pm2 : es1.toList.Perm (es.toList ++ [(knd.hash k, x)]) := by
      rw [Array.toList_push] at pm
      exact pm
    have el1 : ElemsOf knd es1.toList := (el.push hk hs).perm pm2
    have hS1 := mem_push_iff hk hS pm2
    have sz1 : es1.size = n + 1 := by
      have e := pm2.length_eq
      rw [List.length_append, Array.length_toList, Array.length_toList, hn] at e
      exact e
    have far1 : es1.toList.Pairwise (Far knd) := far_perm pm2 (List.pairwise_append.mpr ⟨far, List.pairwise_singleton _ _, fun e he f hf2 k' hk' => by
      rw [List.mem_singleton.mp hf2]
      show knd.is k' x = false
      cases e2 : knd.is k' x with
      | false => rfl
      | true =>
        have e3 := knd.inj x k' k e2 hk
        subst e3
        have q2 := List.findIdx?_eq_none_iff.mp hfi e he
        rw [hk'] at q2
        cases q2⟩)
    have fin : ∀ t2 : SetTable, t2.fits es1.size = true → Ris t2.place.toList → t2.led = t1.led → ∀ {g : Bool → Sem Unit}, (∀ (b : Bool) (s₁ : Shared) (Q' : Unit → Shared → Prop), Q' () s₁ → wpAny (model P w) A (g b) Q' E s₁) → wpAny (model P w) A (do
        storeSet a es1 t2
        if (!wd && t2.tooFull) = true then do
          g (relayAll t2 es1 (SetTable.grown es1.size)).snd.snd
          storeSet a (relayAll t2 es1 (SetTable.grown es1.size)).fst (relayAll t2 es1 (SetTable.grown es1.size)).snd.fst
          pure (some true)
        else pure (some true)) (fun r s' => wpAny (model P w) A (match r with
          | some added => pure added
          | none => setAddHashedIn a x (knd.hash k) 99999) Q E s') E s := fun t2 f2 r2 l2 g hg =>
      setKR_tail hg ho hx hd el1 hS1 far1 (by rw [sz1]; exact hb) f2 r2 (by rw [l2, ld]; exact led) fun h' sb sr => wpAny_pure (by
        have q := kk h' sb
        rw [hSk] at q
        refine q ?_
        rw [sz1] at sr
        exact sr)
    dsimp only
    have st : ∀ {g : Bool → Sem Unit}, (∀ (b : Bool) (s₁ : Shared) (Q' : Unit → Shared → Prop), Q' () s₁ → wpAny (model P w) A (g b) Q' E s₁) → wpAny (model P w) A (do
        g gv
        if t1.plain = true then do
          let byValue ← hashByValue 8 x
          storeSet a es1 (if byValue = true then t1 else { mask := t1.mask, place := t1.place, dummies := t1.dummies, finger := t1.finger, led := t1.led, moves := t1.moves, plain := false })
          if (!wd && (if byValue = true then t1 else { mask := t1.mask, place := t1.place, dummies := t1.dummies, finger := t1.finger, led := t1.led, moves := t1.moves, plain := false }).tooFull) = true then do
            g (relayAll (if byValue = true then t1 else { mask := t1.mask, place := t1.place, dummies := t1.dummies, finger := t1.finger, led := t1.led, moves := t1.moves, plain := false }) es1 (SetTable.grown es1.size)).snd.snd
            storeSet a (relayAll (if byValue = true then t1 else { mask := t1.mask, place := t1.place, dummies := t1.dummies, finger := t1.finger, led := t1.led, moves := t1.moves, plain := false }) es1 (SetTable.grown es1.size)).fst (relayAll (if byValue = true then t1 else { mask := t1.mask, place := t1.place, dummies := t1.dummies, finger := t1.finger, led := t1.led, moves := t1.moves, plain := false }) es1 (SetTable.grown es1.size)).snd.fst
            pure (some true)
          else pure (some true)
        else do
          let byValue ← pure true
          storeSet a es1 (if byValue = true then t1 else { mask := t1.mask, place := t1.place, dummies := t1.dummies, finger := t1.finger, led := t1.led, moves := t1.moves, plain := false })
          if (!wd && (if byValue = true then t1 else { mask := t1.mask, place := t1.place, dummies := t1.dummies, finger := t1.finger, led := t1.led, moves := t1.moves, plain := false }).tooFull) = true then do
            g (relayAll (if byValue = true then t1 else { mask := t1.mask, place := t1.place, dummies := t1.dummies, finger := t1.finger, led := t1.led, moves := t1.moves, plain := false }) es1 (SetTable.grown es1.size)).snd.snd
            storeSet a (relayAll (if byValue = true then t1 else { mask := t1.mask, place := t1.place, dummies := t1.dummies, finger := t1.finger, led := t1.led, moves := t1.moves, plain := false }) es1 (SetTable.grown es1.size)).fst (relayAll (if byValue = true then t1 else { mask := t1.mask, place := t1.place, dummies := t1.dummies, finger := t1.finger, led := t1.led, moves := t1.moves, plain := false }) es1 (SetTable.grown es1.size)).snd.fst
            pure (some true)
          else pure (some true)) (fun r s' => wpAny (model P w) A (match r with
          | some added => pure added
          | none => setAddHashedIn a x (knd.hash k) 99999) Q E s') E s := fun {g} hg => by
      refine wpAny_bind (hg _ _ _ ?_)
      split
      · rw [hashByValue_scannable 8 hs]
        refine wpAny_bind (wpAny_pure ?_)
        cases plainKind x with
        | true => exact fin t1 ft rs rfl hg
        | false => exact fin { mask := t1.mask, place := t1.place, dummies := t1.dummies, finger := t1.finger, led := t1.led, moves := t1.moves, plain := false } (SetTable.fits_plain_off ft) rs rfl hg
      · refine wpAny_bind (wpAny_pure ?_)
        exact fin t1 ft rs rfl hg
    refine st fun b s₁ Q' q => ?_
    cases b with
    | false => exact wpAny_pure q
    | true => exact wpAny_rule q
theorem loopK {R : Result → Shared → Prop} {I : Addr} {fp wr : List Addr} {G : Array GenState → Array GenState → Prop} {n : Nat} {Pv : Nat → Value → Prop} {St : Nat → Shared → Prop}
    (Wk : WalksS P w A.in1 I fp wr G n Pv St) {S : Addr} (hS : ¬ S ∈ fp) {val : Nat → T} (hv : ∀ i v, Pv i v → knd.is (val i) v = true ∧ v.scannable = true) (hn : n + 1 < scanBound) :
    ∀ (k i : Nat) (s : Shared), n - i = k → i ≤ n → St i s → (∃ m, m ≤ i ∧ SetKR knd s.heap S (fun k' => (List.range i).any fun j => decide (k' = val j)) m) →
      (∀ s', Moved (S :: wr) G s s' → (∃ m, m ≤ n ∧ SetKR knd s'.heap S (fun k' => (List.range n).any fun j => decide (k' = val j)) m) → R (.ok (.ret .none)) s') →
      codeAny (model P w) A (.builtin "set.update.loop" { pos := [Value.ref S, Value.ref I] }) R s := by
  have hw : ¬ S ∈ wr := fun h => hS (Wk.sub _ h)
  intro k
  induction k with
  | zero =>
    intro i s hk hi st hs kk
    have e : i = n := by omega
    subst e
    refine codeAny_builtin PyProof.Rows.F.entry_set_update_loop ?_
    rw [Around.under_plainId PyProof.Rows.F.plain_set_update_loop]
    refine wpAny_bind (Wk.done s _ _ st fun s' mv => ?_)
    obtain ⟨m, hm, sr⟩ := hs
    exact wpAny_pure (kk s' (mv.mono fun b hb => List.mem_cons_of_mem _ hb) ⟨m, hm, sr.at fun o e => mv.heap _ o hw e⟩)
  | succ k ih =>
    intro i s hk hi st hs kk
    have hi2 : i < n := by omega
    refine codeAny_builtin PyProof.Rows.F.entry_set_update_loop ?_
    rw [Around.under_plainId PyProof.Rows.F.plain_set_update_loop]
    refine wpAny_bind (Wk.item i s _ _ hi2 st fun v s' pv st' mv => ?_)
    obtain ⟨m, hm, sr⟩ := hs
    obtain ⟨v1, v2⟩ := hv i v pv
    have sr2 : SetKR knd s'.heap S (fun k' => (List.range i).any fun j => decide (k' = val j)) m := sr.at fun o e => mv.heap _ o hw e
    refine wpAny_bind (wpAny_holding ?_)
    unfold setAdd
    refine wpAny_holding (wpAny_bind (knd.pyHash v1 ?_))
    refine setKR_add v1 v2 sr2 (by omega) fun h' sb sr3 => ?_
    refine wpAny_pure ⟨plainId_quiet PyProof.Rows.F.plain_set_update_loop _, ?_⟩
    refine ih (i + 1) _ (by omega) (by omega) ?_ ⟨_, ?_, sr3.congr fun k' => ?_⟩ fun s2 mv2 hm2 => kk s2 ?_ hm2
    · exact Wk.frame (i + 1) s' h' (s'.toks + 1) st' (Nat.le_succ _) fun b hb o e => by
        rw [sb.2 b (fun e2 => hS (e2 ▸ hb))]
        exact e
    · split <;> omega
    · rw [List.range_succ, List.any_append]
      simp only [List.any_cons, List.any_nil, Bool.or_false]
    · refine Moved.trans Wk.gtrans ?_ mv2
      refine (mv.mono fun b hb => List.mem_cons_of_mem _ hb).then_heap (Nat.le_succ _) fun b o hb e => ?_
      rw [sb.2 b (fun e2 => hb (e2 ▸ List.mem_cons_self))]
      exact e
end
end Sm
namespace Sm
open PySem PySem.Spec PyProof.Rows L2
section
variable {P : Program} {w : World} {T : Type} [DecidableEq T] {knd : KeyKind P w T} {A : Around} {E : Value → Shared → Prop} {s : Shared}
def freshSet (w : World) : Obj := { cls := Value.type "set", data := Data.set #[] 0 (SetTable.fresh 0 0 !w.params.followText "set-order") }
theorem setKR_fresh {h : Heap} {a : Addr} (ha : h.get? a = some (freshSet w)) : SetKR knd h a (fun _ => false) 0 := by
  refine ⟨_, #[], 0, _, ha, ⟨rfl, rfl, rfl⟩, rfl, fun e he => ?_, fun k => ⟨fun z => (by cases z), fun ⟨e, he, _⟩ => ?_⟩, List.Pairwise.nil, by decide, rfl, rfl, List.Pairwise.nil, ?_⟩
  · cases he
  · cases he
  · show w.params.followText "set-order" = true ∨ (!w.params.followText "set-order") = true
    cases w.params.followText "set-order" with
    | true => exact .inl rfl
    | false => exact .inr rfl
theorem call_setK {l : Addr} {items : Array Value} {val : Nat → T} {Q : Value → Shared → Prop} (hh : A.handled = none) (hl : s.heap.IsList l items) (hv : ∀ i v, items[i]? = some v → knd.is (val i) v = true ∧ v.scannable = true) (hb : items.size + 1 < scanBound)
    (kk : ∀ h' tk, (∃ m, m ≤ items.size ∧ SetKR knd h' s.heap.objs.size (fun k' => (List.range items.size).any fun j => decide (k' = val j)) m) → (∀ b o, s.heap.get? b = some o → h'.get? b = some o) →
      Q (.ref s.heap.objs.size) { heap := h', gens := s.gens, drawn := s.drawn, toks := tk, os := s.os }) :
    wpAny (model P w) A (call (.type "set") [.ref l]) Q E s := by
  obtain ⟨c, tl, hmro⟩ := PySem.F.called_set.mro
  have hmade := PySem.F.called_set.made
  refine wpAny_call (codeAny_of_tree ?_)
  refine wpAny_pure ⟨Code.quiet_builtin _ (by decide +kernel), codeAny_builtin PySem.F.entry_type_call ?_⟩
  rw [Around.under_plain (weight_type_call_type "set" [.ref l] []) rfl]
  unfold PySem.Builtin.«type.__call__»
  dsimp only
  refine wpAny_ite_false (by rfl) ?_
  refine wpAny_ite_false (by rfl) ?_
  refine wpAny_bind (wpAny_of_eq (PySem.F.typeCall_set_1 _) ?_)
  refine wpAny_bind (wpAny_of_eq hmro ?_)
  refine wpAny_ite_false (by rfl) ?_
  refine wpAny_bind (wpAny_of_eq hmade ?_)
  refine wpAny_bind (wpAny_pure ?_)
  refine wpAny_bind (wpAny_holding (wpAny_call (codeAny_mono
    (code_set_led1 (E := fun _ _ => False) (Q₁ := fun obj s₁ => obj = .ref s.heap.objs.size ∧ s₁ = { heap := s.heap.push (freshSet w), gens := s.gens, drawn := s.drawn, toks := s.toks, os := s.os }) (.ref l) ⟨rfl, rfl⟩) fun r s₁ hr => ?_)))
  cases r with
  | error e => exact False.elim hr
  | ok fl =>
    cases fl with
    | ret v =>
      obtain ⟨rfl, rfl⟩ := hr
      have hnew : (s.heap.push (freshSet w)).get? s.heap.objs.size = some (freshSet w) := Heap.get?_push_size s.heap rfl
      refine wpAny_bind (wpAny_isInstance (T := "set") (b := true) ⟨_, hnew, rfl⟩ PySem.F.called_set.sub (wpAny_ite_false (by rfl) ?_))
      refine wpAny_bind (wpAny_holding (wpAny_bind (wpAny_specialOf (T := "set") ⟨_, hnew, rfl⟩ PySem.F.called_set.init.lookup ?_)))
      refine wpAny_holding (wpAny_bind (wpAny_of_eq (PySem.F.called_set.init.bind _) ?_))
      refine wpAny_bind (wpAny_call (codeAny_call_builtin PySem.F.called_set.init.plain PySem.F.entry_set_init ?_))
      refine check_set_init_1 ⟨_, hnew, rfl⟩ ?_
      refine wpAny_bind (wpAny_pure ?_)
      simp only [List.cons_append, List.nil_append]
      have hl2 : (s.heap.push (freshSet w)).IsList l items := hl.push _
      obtain ⟨ol, hol, hcl, hda⟩ := hl2
      unfold typeNameOfCut shownTypeOf
      refine wpAny_bind (wpAny_bind (wpAny_bind (wpAny_typeOf (T := "set") ⟨_, hnew, rfl⟩ (wpAny_ite_false (by rfl) (wpAny_pure ?_)))))
      refine wpAny_of_eq (by rfl) ?_
      refine wpAny_bind (wpAny_of_eq (a := ()) (by rfl) ?_)
      refine wpAny_bind (wpAny_pure ?_)
      unfold setUsed
      refine wpAny_bind (wpAny_bind (wpAny_setState_of hnew rfl rfl (wpAny_pure ?_)))
      refine wpAny_ite_false (by rfl) ?_
      refine wpAny_bind ?_
      unfold PySem.Builtin.Frozenset.updateFrom PySem.Builtin.Frozenset.isAnySet
      refine wpAny_bind (wpAny_bind (wpAny_isInstance (T := "list") (b := false) ⟨_, hol, hcl⟩ PySem.F.sub_list_set ?_))
      refine wpAny_isInstance (T := "list") (b := false) ⟨_, hol, hcl⟩ PySem.F.sub_list_frozenset ?_
      refine wpAny_ite_false (by rfl) ?_
      refine wpAny_bind (wpAny_typeOf (T := "list") ⟨_, hol, hcl⟩ ?_)
      refine wpAny_ite_false (by rfl) ?_
      refine wpAny_bind (wpAny_pyIter_list (items := items) ⟨_, hol, hcl, hda⟩ ?_)
      have hsz : (s.heap.push (freshSet w)).objs.size = s.heap.objs.size + 1 := Heap.size_push _ _
      obtain ⟨ol0, hol0, _, _⟩ := hl
      have hlt : l < s.heap.objs.size := Heap.lt_size hol0
      have nI : l ≠ (s.heap.push (freshSet w)).objs.size := fun e => Nat.ne_of_lt (Nat.lt_of_lt_of_eq (Nat.lt_succ_of_lt hlt) hsz.symm) e
      have nS : ¬ s.heap.objs.size ∈ [(s.heap.push (freshSet w)).objs.size, l] := by
        intro h
        rcases List.mem_cons.mp h with h | h
        · rw [hsz] at h
          exact Nat.ne_of_lt (Nat.lt_succ_self _) h
        · exact Nat.ne_of_gt hlt (List.mem_singleton.mp h)
      have hl3 : ((s.heap.push (freshSet w)).push { cls := Value.type "list_iterator", data := Data.fields #[Value.ref l, Value.int 0 0] }).IsList l items := Heap.IsList.push ⟨_, hol, hcl, hda⟩ _
      have hit := Heap.get?_push_size (s.heap.push (freshSet w)) (o := { cls := Value.type "list_iterator", data := Data.fields #[Value.ref l, Value.int 0 0] }) rfl
      have hnew2 := Heap.get?_push_of_some { cls := Value.type "list_iterator", data := Data.fields #[Value.ref l, Value.int 0 0] } hnew
      refine wpAny_bind (wpAny_runValue (loopK (knd := knd) (val := val) ((Walks.list (prog := P) (w := w) (A := A.in1.in1.in1) hh _ l nI items).toS) nS hv hb _ 0 _ rfl (Nat.zero_le _) ⟨⟨_, hit, rfl, rfl⟩, hl3⟩ ⟨0, Nat.zero_le _, (setKR_fresh hnew2).congr fun k' => by rfl⟩ fun s' mv hs' => ?_))
      obtain ⟨h', g', d', tk, os'⟩ := s'
      have e1 : g' = s.gens := mv.gens
      have e2 : d' = s.drawn := mv.drawn
      have e3 : os' = s.os := mv.os
      have e4 := mv.heap
      subst e1 e2 e3
      refine wpAny_pure (wpAny_pure (wpAny_pure (wpAny_ite_false (by rfl) (wpAny_pure ?_))))
      refine kk h' tk hs' fun b o e => e4 b o (fun hm => ?_) (Heap.get?_push_of_some _ (Heap.get?_push_of_some _ e))
      have lt := Heap.lt_size e
      rcases List.mem_cons.mp hm with hm | hm
      · exact Nat.ne_of_lt lt hm
      · have e5 := List.mem_singleton.mp hm
        rw [hsz] at e5
        exact Nat.ne_of_lt (Nat.lt_succ_of_lt lt) e5
    | next => exact False.elim hr
    | brk => exact False.elim hr
    | cont => exact False.elim hr
end
end Sm
namespace Sm
open PySem PySem.Spec PyProof.Rows L2
/-- a set of texts -/
def SetS (P : Program) (w : World) (a : Addr) (S : Str → Bool) (n : Nat) : HO := .ext fun h => SetKR (strKind P w) h a S n
theorem setS_new {P : Program} {w : World} {H : Hp} {h : Heap} {a : Addr} {S : Str → Bool} {n : Nat} (R : SetKR (strKind P w) h a S n) : ObjOk P w H h a (SetS P w a S n) :=
  ⟨R, (let ⟨o, _, _, _, ho, _⟩ := R; ⟨o, ho⟩), fun h1 h2 p k => p.at k⟩
def rSetS (K : PySem.W.Frag) (P : Program) (w : World) : List V → Hp → VK → Prop := fun vs H Q => ∃ (l : Addr) (xs : List Str), vs = [.ref l] ∧ SqL K H l (xs.map V.str) ∧ xs.length ≤ 4000 ∧
  ∀ a n, H a = none → n ≤ xs.length → Q (.ref a) (upd H a (SetS P w a (fun k => decide (k ∈ xs)) n))
section
variable {X : Cx}
theorem vals_str : ∀ {xs : List Str} {us : List Value}, Vals (xs.map V.str) us → ∀ i v, us[i]? = some v → ∃ t, v = .str (xs.getD i "") t ∧ i < xs.length
  | [], _, .nil, i, v, h => by
    rw [List.getElem?_nil] at h
    cases h
  | x :: xs, _, .cons r rs, 0, v, h => by
    cases h
    obtain ⟨t, e⟩ := r
    exact ⟨t, e, Nat.zero_lt_succ _⟩
  | x :: xs, _, .cons r rs, i + 1, v, h => by
    obtain ⟨t, e, l⟩ := vals_str rs i v h
    exact ⟨t, e, Nat.succ_lt_succ l⟩
theorem cr_setS (hc : X.calm = true) : CallR X (.type "set") (rSetS X.K X.prog X.w) := by
  intro pins s σ H vs us Q I r h
  obtain ⟨l, xs, rfl, hl, hlen, q⟩ := h
  obtain rfl := r.ref1
  obtain ⟨its, rv, ⟨o, n0, ho, hcl, hd, hda⟩, hsz⟩ := I.list hl
  have e0 : its.length = xs.length := by rw [← Paired.length rv, List.length_map]
  refine call_setK (knd := strKind X.prog X.w) (val := fun i => xs.getD i "") (items := its.toArray) (I.ok.hd hc) ⟨o, ho, hcl, n0, hda⟩ (fun i v hv => ?_) (by rw [List.size_toArray, e0]; exact Nat.lt_of_le_of_lt (Nat.succ_le_succ hlen) (by decide)) fun h' tk hS keep => ?_
  · rw [List.getElem?_toArray] at hv
    obtain ⟨t, e, _⟩ := vals_str rv i v hv
    subst e
    exact ⟨by show (xs.getD i "" == xs.getD i "") = true; exact beq_self_eq_true _, rfl⟩
  · obtain ⟨n, hn, R⟩ := hS
    have e1 : its.toArray.size = xs.length := by rw [List.size_toArray, e0]
    rw [e1] at hn R
    have R2 : SetKR (strKind X.prog X.w) h' s.heap.objs.size (fun k => decide (k ∈ xs)) n := R.congr fun k => by
      rw [Bool.eq_iff_iff, decide_eq_true_eq, List.any_eq_true]
      constructor
      · intro hk
        obtain ⟨i, hi, e⟩ := List.getElem_of_mem hk
        refine ⟨i, List.mem_range.mpr hi, ?_⟩
        rw [decide_eq_true_eq, List.getD_eq_getElem?_getD, List.getElem?_eq_getElem hi, Option.getD_some, e]
      · rintro ⟨i, hi, e⟩
        rw [decide_eq_true_eq, List.getD_eq_getElem?_getD, List.getElem?_eq_getElem (List.mem_range.mp hi), Option.getD_some] at e
        rw [e]
        exact List.getElem_mem _
    have hn2 : H s.heap.objs.size = none := I.hok.fresh (Nat.le_refl _)
    exact ⟨.ref s.heap.objs.size, _, I.laid keep (Nat.le_refl _) (setS_new R2), rfl, q _ n hn2 hn⟩
def keyS : Value → Str
  | .str x _ => x
  | _ => ""
theorem strs_of : ∀ l : List Value, (∀ v ∈ l, ∃ x t, v = .str x t) → StrsAre l (l.map keyS)
  | [], _ => .nil
  | v :: r, h => by
    obtain ⟨x, t, rfl⟩ := h v (List.mem_cons_self ..)
    exact .cons x t (strs_of r fun u hu => h u (List.mem_cons_of_mem _ hu))
def rSortedSetS (P : Program) (w : World) : List V → Hp → VK → Prop := fun vs H Q => ∃ (a : Addr) (S : Str → Bool) (n : Nat), vs = [.ref a] ∧ H a = some (SetS P w a S n) ∧ n < 64 ∧
  ∀ (ys : List Str) (p : Addr), sortedS ys = true → ys.Nodup → (∀ x, x ∈ ys ↔ S x = true) → H p = none → Q (.ref p) (upd H p (.lst (ys.map V.str)))
theorem cr_sortedSetS (hc : X.calm = true) : CallR X (.builtin "sorted") (rSortedSetS X.prog X.w) := by
  intro pins s σ H vs us Q I r h
  obtain ⟨a, S, n, rfl, ha, h64, q⟩ := h
  obtain rfl := r.ref1
  have R : SetKR (strKind X.prog X.w) s.heap a S n := (I.hok a _ ha).1
  obtain ⟨o, es, ep, t, ho, hx, hd, el, hS, far, hsz, hf, hn, ris, led⟩ := R
  refine Calls.call_function_entry kind_sorted plain_sorted entry_sorted (args_sorted1 _) ?_
  unfold PySem.Builtin.sorted
  refine wpAny_bind (wpAny_of_eq (a := ()) (by rfl) ?_)
  refine wpAny_bind (collect_set (a := a) (I.ok.hd hc) ⟨o, ho, hx.1, hd⟩ hf hsz ris led fun s1 out keep hsz1 g1 o1 pm => ?_)
  obtain ⟨h1, gg, dd, tt, oo⟩ := s1
  have g1 : gg = s.gens := g1
  have o1 : oo = s.os := o1
  subst g1 o1
  dsimp only at keep hsz1 ⊢
  have hstr : ∀ e ∈ es.toList, ∃ x t, e.2 = Value.str x t := fun e he => by
    obtain ⟨k, hk⟩ := ElemsOf.keys el e he
    obtain ⟨t, e2⟩ := Value.isStrOf_shape (show Value.isStrOf k e.2 = true from hk)
    exact ⟨k, t, e2⟩
  have hout : ∀ v ∈ out, ∃ x t, v = Value.str x t := fun v hv => by
    obtain ⟨e, he, rfl⟩ := List.mem_map.mp (pm.mem_iff.mp hv)
    exact hstr e he
  have sa := strs_of out hout
  have hlen : out.length < 64 := by
    rw [pm.length_eq, List.length_map, Array.length_toList, hn]
    exact h64
  refine wpAny_bind (wpAny_newList ?_ (Nat.le_trans (Nat.le_of_lt hlen) (by decide)))
  have hget := Heap.get?_push_size h1 (o := { cls := Value.type "list", data := Data.seq out.toArray }) rfl
  refine wpAny_bind (wpAny_holding (wpAny_call_entry slot_list_sort ⟨_, hget, rfl⟩ entry_list_sort (list_sort_treeK strKind_oneLt (n := 0) (vs := out) hget sa.keysOf (fun v₁ v₂ rest e => ?_) hlen fun st' p1 so => ⟨_, rfl, ?_⟩) (args_list_sort _)))
  · subst e
    exact keyKind_strs sa
  obtain ⟨ys, sy, p2, so2⟩ := sorted_out_str sa p1 so
  refine wpAny_pure ⟨_, rfl, ?_⟩
  have hn2 : H h1.objs.size = none := I.hok.fresh hsz1
  obtain ⟨e, hat⟩ := sortedHeap_at (out := Array.map (fun x => x.snd) (arrOf st')) hget
  have keep2 : ∀ b u, s.heap.get? b = some u → (sortedHeap (h1.push { cls := Value.type "list", data := Data.seq out.toArray }) h1.objs.size out (Array.map (fun x => x.snd) (arrOf st'))).get? b = some u := fun b u hb => by
    have hk := keep b u hb
    have lt := Heap.lt_size hk
    rw [sortedHeap_old (Nat.ne_of_lt lt) (by rw [Heap.size_push]; exact Nat.lt_succ_of_lt lt)]
    exact Heap.get?_push_of_some _ hk
  have hok : ObjOk X.prog X.w (upd H h1.objs.size (.lst (ys.map V.str))) (sortedHeap (h1.push { cls := Value.type "list", data := Data.seq out.toArray }) h1.objs.size out (Array.map (fun x => x.snd) (arrOf st'))) h1.objs.size (.lst (ys.map V.str)) := by
    refine ⟨?_, _, e, vals_of_strs sy, ?_⟩
    · rw [List.length_map, p2.length_eq, List.length_map]
      exact Nat.le_trans (Nat.le_of_lt hlen) (by decide)
    · exact hat
  have J := I.call (d' := dd) (t' := tt) (Un.laid keep2 hsz1 hn2) (I.hok.laid keep2 hsz1 hok) I.bare fun x z => nomatch (show x ∈ ([] : List Addr) from z)
  have isk : ∀ e ∈ es.toList, ∀ x : Str, (strKind X.prog X.w).is x e.2 = true ↔ keyS e.2 = x := fun e he x => by
    constructor
    · intro hk
      obtain ⟨t', e2⟩ := Value.isStrOf_shape (show Value.isStrOf x e.2 = true from hk)
      rw [e2]
      rfl
    · intro hk
      obtain ⟨y, t', e2⟩ := hstr e he
      rw [e2] at hk ⊢
      have hk : y = x := hk
      subst hk
      show (y == y) = true
      exact beq_self_eq_true _
  have pe : ys.Perm (es.toList.map fun e => keyS e.2) := by
    refine p2.trans ?_
    have := pm.map keyS
    rw [List.map_map] at this
    exact this
  refine ⟨.ref h1.objs.size, _, J, rfl, q ys _ so2 ?_ ?_ hn2⟩
  · refine pe.nodup_iff.mpr (List.pairwise_map.mpr (far.imp_of_mem fun {e f} he hf2 hfar hq => ?_))
    have h1 := hfar (keyS e.2) ((isk e he _).mpr rfl)
    rw [(isk f hf2 _).mpr hq.symm] at h1
    cases h1
  · intro x
    rw [pe.mem_iff, List.mem_map, hS x]
    exact ⟨fun ⟨e, he, z⟩ => ⟨e, he, (isk e he x).mpr z⟩, fun ⟨e, he, z⟩ => ⟨e, he, (isk e he x).mp z⟩⟩
end
end Sm
/-! sets of words in an own class: a dict of True -/
namespace Sm
open PySem PySem.Spec PyProof.Rows L2
def wordB (x : Str) : Bool := !(decide ((8 : Int) < (x.length : Int))) && (Txt.isascii x && (Txt.isalpha x && Txt.islower x))
theorem allWords_word : ∀ x ∈ allWords, wordB x = true := by decide +kernel
def wd (ws : List Str) : List (Key × V) := ws.map fun w => (Sum.inr w, V.bl true)
theorem wd_len (ws : List Str) : (wd ws).length = ws.length := List.length_map ..
theorem wd_keys (ws : List Str) : ((wd ws).map fun kv => kV kv.1) = ws.map V.str := by
  unfold wd
  rw [List.map_map]
  rfl
theorem wd_get (x : Str) : ∀ ws : List Str, valV (wd ws) (Sum.inr x) = if x ∈ ws then some (V.bl true) else none
  | [] => rfl
  | w :: r => by
    by_cases e : w = x
    · subst e
      rw [if_pos (List.mem_cons_self ..)]
      exact valV_pos (p := ((Sum.inr w : Key), V.bl true)) rfl
    · have e1 : valV (wd (w :: r)) (Sum.inr x) = valV (wd r) (Sum.inr x) := valV_neg (p := ((Sum.inr w : Key), V.bl true)) (fun q => e (Sum.inr.inj q))
      rw [e1, wd_get x r]
      by_cases h : x ∈ r
      · rw [if_pos h, if_pos (List.mem_cons_of_mem _ h)]
      · rw [if_neg h, if_neg fun q => by
          rcases List.mem_cons.mp q with z | z
          · exact e z.symm
          · exact h z]
theorem wd_put {x : Str} {ws : List Str} (h : x ∉ ws) : putK (wd ws) (Sum.inr x) (V.bl true) = wd (ws ++ [x]) := by
  rw [putK_new _ (by rw [wd_get, if_neg h])]
  unfold wd
  rw [List.map_append]
  rfl
theorem wd_some (x : Str) (ws : List Str) : (valV (wd ws) (Sum.inr x)).isSome = decide (x ∈ ws) := by
  rw [wd_get]
  by_cases h : x ∈ ws
  · rw [if_pos h, decide_eq_true h]; rfl
  · rw [if_neg h, decide_eq_false h]; rfl
section
variable {X : Cx}
/-- x in d -/
def rInD (neg : Bool) : R2 := fun y x H Q => ∃ a o, x = .ref a ∧ DGet H a y o ∧ Q (.bl (if neg then !o.isSome else o.isSome)) H
theorem op_inDict (hu : X.A.units + 1 < cLine) : OpR X (compareOp .In) (rInD false) := by
  intro pins s σ H y x v u Q I ry rx h
  obtain ⟨a, o, rfl, g, q⟩ := h
  cases rx
  exact d_in hu I g ry fun s3 I3 => ⟨.bl o.isSome, H, I3, rfl, q⟩
theorem op_notInDict (hu : X.A.units + 1 < cLine) : OpR X (compareOp .NotIn) (rInD true) := by
  intro pins s σ H y x v u Q I ry rx h
  obtain ⟨a, o, rfl, g, q⟩ := h
  cases rx
  exact d_notIn hu I g ry fun s3 I3 => ⟨.bl (!o.isSome), H, I3, rfl, q⟩
/-- two dicts of words -/
theorem hits_wd {A : Around} {s : Shared} {vs : List Str} {vb : List (Key × Value)} (rb : KV (wd vs) vb) : ∀ {ws : List Str} {va : List (Key × Value)}, KV (wd ws) va → PySem.W.KeqHits A s vb va (ws.all fun w => decide (w ∈ vs))
  | [], _, .nil => .nil
  | w :: r, _, .cons (b := (k, v)) h t => by
    obtain ⟨h1, h2⟩ := h
    have h1' : (Sum.inr w : Key) = k := h1
    subst h1'
    have rr := rb.val (Sum.inr w)
    rw [wd_get] at rr
    by_cases hm : w ∈ vs
    · rw [if_pos hm] at rr
      obtain ⟨y, hy, ry⟩ := RelO.some_of (v := V.bl true) rr
      have e : ((w :: r).all fun w => decide (w ∈ vs)) = (true && r.all fun w => decide (w ∈ vs)) := by
        rw [List.all_cons, decide_eq_true hm]
      rw [e]
      exact .hit hy (eqAt_same h2 ry rfl) (hits_wd rb t)
    · rw [if_neg hm] at rr
      have e : ((w :: r).all fun w => decide (w ∈ vs)) = false := by
        rw [List.all_cons, decide_eq_false hm, Bool.false_and]
      rw [e]
      exact .miss (RelO.none_of rr)
def rEqW : R2 := fun x y H Q => ∃ a b ws vs, x = .ref a ∧ y = .ref b ∧ H a = some (.dK (wd ws)) ∧ H b = some (.dK (wd vs)) ∧ Q (.bl (ws.length == vs.length && ws.all fun w => decide (w ∈ vs))) H
theorem op_eqW (hu : X.A.units < cLine) : OpR X (compareOp .Eq) rEqW := by
  intro pins s σ H x y v u Q I rx ry h
  obtain ⟨a, b, ws, vs, rfl, rfl, ea, eb, q⟩ := h
  obtain rfl : v = Value.ref a := rx
  obtain rfl : u = Value.ref b := ry
  obtain ⟨_, ya, va, ra, da⟩ := (show ObjOk X.prog X.w H s.heap a (.dK (wd ws)) from I.hok a _ ea)
  obtain ⟨_, yb, vb, rb, db⟩ := (show ObjOk X.prog X.w H s.heap b (.dK (wd vs)) from I.hok b _ eb)
  refine PySem.W.keq_eq (knd := mixKind X.prog X.w) (r := ws.all fun w => decide (w ∈ vs)) ya yb da db hu (fun _ => hits_wd rb ra) ?_
  have e1 : va.length = ws.length := by rw [← ra.length, wd_len]
  have e2 : vb.length = vs.length := by rw [← rb.length, wd_len]
  rw [e1, e2]
  exact ⟨.bl _, H, I, rfl, q⟩
/-- bool(d) -/
theorem meets_bool_dict {P : Program} {w : World} (d : Addr) (kvs : List (Key × Value)) (hd : (d == sysModules) = false) (hfit : (kvs.length : Int) < 2 ^ 63) :
    MeetsIn P w (Builtin.«bool.__new__» ⟨[.type "bool", .ref d], []⟩) (fun _ R s => s.heap.DictOf (mixKind P w) d kvs ∧ R (.ok (.ret (.bool (!kvs.isEmpty)))) { s with toks := s.toks + 1 + 1 }) :=
  MeetsIn.of_wp fun A R s hs => by
    obtain ⟨hl, hs⟩ := hs
    obtain ⟨hp, g, d, tk, os⟩ := s
    have f1 := F.conv_sub_bool
    repeat (any_goals (first | assumption | (with_reducible refine wpAny_truthy_dict hd hl hfit ?_) | wp_step))
    all_goals first | exact ⟨_, rfl, hs⟩ | exact hs | skip
theorem call_boolD : CallR X (.type "bool") (fun xs H Q => ∃ (a : Addr) (kvs : List (Key × V)), xs = [.ref a] ∧ H a = some (.dK kvs) ∧ Q (.bl (!kvs.isEmpty)) H) := by
  intro pins s σ H xs us Q I r h
  obtain ⟨a, kvs, rfl, ha, q⟩ := h
  obtain rfl := Vals.ref1 r
  have hl := line63
  obtain ⟨hz, hS, vs, rv, m⟩ : kvs.length ≤ sizeLine ∧ (a == sysModules) = false ∧ ∃ vs, KV kvs vs ∧ s.heap.DictOf (mixKind X.prog X.w) a vs := I.hok a _ ha
  have hlen : kvs.length = vs.length := Paired.length rv
  exact callType_newIn F.called_bool F.newNe_bool (F.typeCall_bool_1 _) (F.newCall_bool_1 _) (fun obj => F.args_object_init_2 obj _) F.entry_bool_new (meets_bool_dict a vs hS (by omega)) ⟨m, rfl, ⟨.bl (!kvs.isEmpty), H, I.tok _, by rw [isEmpty_kv rv]; rfl, q⟩⟩
end
end Sm
namespace Sm
open PySem PySem.Spec PyProof.Rows L2
section
variable {P : Program} {w : World} {T : Type} [DecidableEq T] {knd : KeyKind P w T} {A : Around} {E : Value → Shared → Prop} {s : Shared}
theorem call_setKT {l : Addr} {items : Array Value} {val : Nat → T} {Q : Value → Shared → Prop} (hh : A.handled = none) (hl : s.heap.IsTuple l items) (hv : ∀ i v, items[i]? = some v → knd.is (val i) v = true ∧ v.scannable = true) (hb : items.size + 1 < scanBound)
    (kk : ∀ h' tk, (∃ m, m ≤ items.size ∧ SetKR knd h' s.heap.objs.size (fun k' => (List.range items.size).any fun j => decide (k' = val j)) m) → (∀ b o, s.heap.get? b = some o → h'.get? b = some o) →
      Q (.ref s.heap.objs.size) { heap := h', gens := s.gens, drawn := s.drawn, toks := tk, os := s.os }) :
    wpAny (model P w) A (call (.type "set") [.ref l]) Q E s := by
  obtain ⟨c, tl, hmro⟩ := PySem.F.called_set.mro
  have hmade := PySem.F.called_set.made
  refine wpAny_call (codeAny_of_tree ?_)
  refine wpAny_pure ⟨Code.quiet_builtin _ (by decide +kernel), codeAny_builtin PySem.F.entry_type_call ?_⟩
  rw [Around.under_plain (weight_type_call_type "set" [.ref l] []) rfl]
  unfold PySem.Builtin.«type.__call__»
  dsimp only
  refine wpAny_ite_false (by rfl) ?_
  refine wpAny_ite_false (by rfl) ?_
  refine wpAny_bind (wpAny_of_eq (PySem.F.typeCall_set_1 _) ?_)
  refine wpAny_bind (wpAny_of_eq hmro ?_)
  refine wpAny_ite_false (by rfl) ?_
  refine wpAny_bind (wpAny_of_eq hmade ?_)
  refine wpAny_bind (wpAny_pure ?_)
  refine wpAny_bind (wpAny_holding (wpAny_call (codeAny_mono
    (code_set_led1 (E := fun _ _ => False) (Q₁ := fun obj s₁ => obj = .ref s.heap.objs.size ∧ s₁ = { heap := s.heap.push (freshSet w), gens := s.gens, drawn := s.drawn, toks := s.toks, os := s.os }) (.ref l) ⟨rfl, rfl⟩) fun r s₁ hr => ?_)))
  cases r with
  | error e => exact False.elim hr
  | ok fl =>
    cases fl with
    | ret v =>
      obtain ⟨rfl, rfl⟩ := hr
      have hnew : (s.heap.push (freshSet w)).get? s.heap.objs.size = some (freshSet w) := Heap.get?_push_size s.heap rfl
      refine wpAny_bind (wpAny_isInstance (T := "set") (b := true) ⟨_, hnew, rfl⟩ PySem.F.called_set.sub (wpAny_ite_false (by rfl) ?_))
      refine wpAny_bind (wpAny_holding (wpAny_bind (wpAny_specialOf (T := "set") ⟨_, hnew, rfl⟩ PySem.F.called_set.init.lookup ?_)))
      refine wpAny_holding (wpAny_bind (wpAny_of_eq (PySem.F.called_set.init.bind _) ?_))
      refine wpAny_bind (wpAny_call (codeAny_call_builtin PySem.F.called_set.init.plain PySem.F.entry_set_init ?_))
      refine check_set_init_1 ⟨_, hnew, rfl⟩ ?_
      refine wpAny_bind (wpAny_pure ?_)
      simp only [List.cons_append, List.nil_append]
      have hl2 : (s.heap.push (freshSet w)).IsTuple l items := hl.push _
      obtain ⟨ol, hol, hcl, hda⟩ := hl2
      unfold typeNameOfCut shownTypeOf
      refine wpAny_bind (wpAny_bind (wpAny_bind (wpAny_typeOf (T := "set") ⟨_, hnew, rfl⟩ (wpAny_ite_false (by rfl) (wpAny_pure ?_)))))
      refine wpAny_of_eq (by rfl) ?_
      refine wpAny_bind (wpAny_of_eq (a := ()) (by rfl) ?_)
      refine wpAny_bind (wpAny_pure ?_)
      unfold setUsed
      refine wpAny_bind (wpAny_bind (wpAny_setState_of hnew rfl rfl (wpAny_pure ?_)))
      refine wpAny_ite_false (by rfl) ?_
      refine wpAny_bind ?_
      unfold PySem.Builtin.Frozenset.updateFrom PySem.Builtin.Frozenset.isAnySet
      refine wpAny_bind (wpAny_bind (wpAny_isInstance (T := "tuple") (b := false) ⟨_, hol, hcl⟩ PySem.F.sub_tuple_set ?_))
      refine wpAny_isInstance (T := "tuple") (b := false) ⟨_, hol, hcl⟩ PySem.F.sub_tuple_frozenset ?_
      refine wpAny_ite_false (by rfl) ?_
      refine wpAny_bind (wpAny_typeOf (T := "tuple") ⟨_, hol, hcl⟩ ?_)
      refine wpAny_ite_false (by rfl) ?_
      refine wpAny_bind (wpAny_pyIter_tuple (items := items) ⟨_, hol, hcl, hda⟩ ?_)
      have hsz : (s.heap.push (freshSet w)).objs.size = s.heap.objs.size + 1 := Heap.size_push _ _
      obtain ⟨ol0, hol0, _, _⟩ := hl
      have hlt : l < s.heap.objs.size := Heap.lt_size hol0
      have nI : l ≠ (s.heap.push (freshSet w)).objs.size := fun e => Nat.ne_of_lt (Nat.lt_of_lt_of_eq (Nat.lt_succ_of_lt hlt) hsz.symm) e
      have nS : ¬ s.heap.objs.size ∈ [(s.heap.push (freshSet w)).objs.size, l] := by
        intro h
        rcases List.mem_cons.mp h with h | h
        · rw [hsz] at h
          exact Nat.ne_of_lt (Nat.lt_succ_self _) h
        · exact Nat.ne_of_gt hlt (List.mem_singleton.mp h)
      have hl3 : ((s.heap.push (freshSet w)).push { cls := Value.type "tuple_iterator", data := Data.fields #[Value.ref l, Value.int 0 0] }).IsTuple l items := Heap.IsTuple.push ⟨_, hol, hcl, hda⟩ _
      have hit := Heap.get?_push_size (s.heap.push (freshSet w)) (o := { cls := Value.type "tuple_iterator", data := Data.fields #[Value.ref l, Value.int 0 0] }) rfl
      have hnew2 := Heap.get?_push_of_some { cls := Value.type "tuple_iterator", data := Data.fields #[Value.ref l, Value.int 0 0] } hnew
      refine wpAny_bind (wpAny_runValue (loopK (knd := knd) (val := val) ((Walks.tuple (prog := P) (w := w) (A := A.in1.in1.in1) hh _ l nI items).toS) nS hv hb _ 0 _ rfl (Nat.zero_le _) ⟨⟨_, hit, rfl, rfl⟩, hl3⟩ ⟨0, Nat.zero_le _, (setKR_fresh hnew2).congr fun k' => by rfl⟩ fun s' mv hs' => ?_))
      obtain ⟨h', g', d', tk, os'⟩ := s'
      have e1 : g' = s.gens := mv.gens
      have e2 : d' = s.drawn := mv.drawn
      have e3 : os' = s.os := mv.os
      have e4 := mv.heap
      subst e1 e2 e3
      refine wpAny_pure (wpAny_pure (wpAny_pure (wpAny_ite_false (by rfl) (wpAny_pure ?_))))
      refine kk h' tk hs' fun b o e => e4 b o (fun hm => ?_) (Heap.get?_push_of_some _ (Heap.get?_push_of_some _ e))
      have lt := Heap.lt_size e
      rcases List.mem_cons.mp hm with hm | hm
      · exact Nat.ne_of_lt lt hm
      · have e5 := List.mem_singleton.mp hm
        rw [hsz] at e5
        exact Nat.ne_of_lt (Nat.lt_succ_of_lt lt) e5
    | next => exact False.elim hr
    | brk => exact False.elim hr
    | cont => exact False.elim hr
end
def rSetST (K : PySem.W.Frag) (P : Program) (w : World) : List V → Hp → VK → Prop := fun vs H Q => ∃ (l : Addr) (xs : List Str), vs = [.ref l] ∧ SqT K H l (xs.map V.str) ∧ xs.length ≤ 4000 ∧
  ∀ a n, H a = none → n ≤ xs.length → Q (.ref a) (upd H a (SetS P w a (fun k => decide (k ∈ xs)) n))
section
variable {X : Cx}
theorem cr_setST (hc : X.calm = true) : CallR X (.type "set") (rSetST X.K X.prog X.w) := by
  intro pins s σ H vs us Q I r h
  obtain ⟨l, xs, rfl, hl, hlen, q⟩ := h
  obtain rfl := r.ref1
  obtain ⟨its, rv, eT, hsz⟩ := I.tuple hl
  have e0 : its.length = xs.length := by rw [← Paired.length rv, List.length_map]
  refine call_setKT (knd := strKind X.prog X.w) (val := fun i => xs.getD i "") (items := its.toArray) (I.ok.hd hc) eT (fun i v hv => ?_) (by rw [List.size_toArray, e0]; exact Nat.lt_of_le_of_lt (Nat.succ_le_succ hlen) (by decide)) fun h' tk hS keep => ?_
  · rw [List.getElem?_toArray] at hv
    obtain ⟨t, e, _⟩ := vals_str rv i v hv
    subst e
    exact ⟨by show (xs.getD i "" == xs.getD i "") = true; exact beq_self_eq_true _, rfl⟩
  · obtain ⟨n, hn, R⟩ := hS
    have e1 : its.toArray.size = xs.length := by rw [List.size_toArray, e0]
    rw [e1] at hn R
    have R2 : SetKR (strKind X.prog X.w) h' s.heap.objs.size (fun k => decide (k ∈ xs)) n := R.congr fun k => by
      rw [Bool.eq_iff_iff, decide_eq_true_eq, List.any_eq_true]
      constructor
      · intro hk
        obtain ⟨i, hi, e⟩ := List.getElem_of_mem hk
        refine ⟨i, List.mem_range.mpr hi, ?_⟩
        rw [decide_eq_true_eq, List.getD_eq_getElem?_getD, List.getElem?_eq_getElem hi, Option.getD_some, e]
      · rintro ⟨i, hi, e⟩
        rw [decide_eq_true_eq, List.getD_eq_getElem?_getD, List.getElem?_eq_getElem (List.mem_range.mp hi), Option.getD_some] at e
        rw [e]
        exact List.getElem_mem _
    have hn2 : H s.heap.objs.size = none := I.hok.fresh (Nat.le_refl _)
    exact ⟨.ref s.heap.objs.size, _, I.laid keep (Nat.le_refl _) (setS_new R2), rfl, q _ n hn2 hn⟩
end
end Sm
namespace Sm
open PySem PySem.Spec PyProof.Rows L2
abbrev FC (K : PySem.W.Frag) : Addr := He.ga K "Fields"
/-- a Fields object of these words -/
structure Fl (K : PySem.W.Frag) (H : Hp) (a : Addr) (ws : List Str) : Prop where
  at_ : ∃ dx d, H a = some (.ins (FC K) dx [("held", .ref d)]) ∧ H d = some (.dK (wd ws))
  asc : AscS ws
  ok : ∀ w ∈ ws, wordB w = true
theorem Fl.on {K : PySem.W.Frag} {H H' : Hp} {a : Addr} {ws : List Str} (h : Fl K H a ws) (e : Same H H') : Fl K H' a ws := by
  obtain ⟨⟨dx, d, h1, h2⟩, b, c⟩ := h
  exact ⟨⟨dx, d, e _ _ h1, e _ _ h2⟩, b, c⟩
theorem Fl.off {K : PySem.W.Frag} {H H' : Hp} {a p c : Addr} {ws : List Str} (h : Fl K H a ws) (D : Dr H p c) (e : Off p H H') : Fl K H' a ws := by
  obtain ⟨⟨dx, d, h1, h2⟩, b, cc⟩ := h
  obtain ⟨_, _, _, _, DD⟩ := D
  exact ⟨⟨dx, d, e _ _ (ne_of h1 DD.st (by intro z; cases z)) h1, e _ _ (ne_of h2 DD.st (by intro z; cases z)) h2⟩, b, cc⟩
/-- what is accepted where a set of fields is -/
structure FsA (K : PySem.W.Frag) (H : Hp) (v : V) (us : List Str) : Prop where
  asc : AscS us
  ok : ∀ w ∈ us, wordB w = true
  len : us.length ≤ 60
  at_ : (∃ a, v = .ref a ∧ Fl K H a us) ∨ ∃ (a : Addr) (xs : List Str), v = .ref a ∧ (H a = some (.lst (xs.map V.str)) ∨ H a = some (.tup (xs.map V.str))) ∧ xs.length ≤ 60 ∧ ∀ z, z ∈ us ↔ z ∈ xs
theorem FsA.on {K : PySem.W.Frag} {H H' : Hp} {v : V} {us : List Str} (h : FsA K H v us) (e : Same H H') : FsA K H' v us := by
  obtain ⟨b, c, l0, h⟩ := h
  refine ⟨b, c, l0, ?_⟩
  rcases h with ⟨a, rfl, f⟩ | ⟨a, xs, rfl, h, l, m⟩
  · exact .inl ⟨a, rfl, f.on e⟩
  · exact .inr ⟨a, xs, rfl, h.imp (e _ _) (e _ _), l, m⟩
theorem Fl.arg {K : PySem.W.Frag} {H : Hp} {a : Addr} {ws : List Str} (h : Fl K H a ws) (hl : ws.length ≤ 60) : FsA K H (.ref a) ws := ⟨h.asc, h.ok, hl, .inl ⟨a, rfl, h⟩⟩
/-- the class -/
structure FlK (K : PySem.W.Frag) : Prop where
  cls : Cls K (FC K)
  ha : PySem.W.findIn K (.ref (FC K)) "__class__" = some (some (.builtin "object.__class__"))
  hn : PySem.W.specialIn K (.builtin "object.__class__") "__get__" = some (some (.builtin "getset_descriptor.__get__"))
  htk : PySem.W.takesIn K (.builtin "object.__class__") = some true
  hm : PySem.W.mroIn K (FC K) (.type "object") = some true
  held : NoAttr K (FC K) "held"
  sf : PySem.W.selfFirst K (FC K) = true
  nk : NotKinds K (FC K)
  ne : NeOk K (FC K)
  iS : PySem.W.kitOne K (.ref (FC K)) (.ref (FC K)) = some true
  iB : ∀ k : Knd, PySem.W.kitOne K (.type k.name) (.ref (FC K)) = some false
  iT : ∀ k : Knd, PySem.W.kitOne K (.ref (FC K)) (.type k.name) = some false
theorem FlK.ty {K : PySem.W.Frag} {H : Hp} {a : Addr} {ws : List Str} (F : FlK K) (h : Fl K H a ws) : TyX K H (.ref a) (.ref (FC K)) := by
  obtain ⟨dx, d, h1, _⟩ := h.at_
  exact .base (.ins h1 F.cls F.ha F.hn F.htk F.hm)
theorem sub_own {K : PySem.W.Frag} {C : Addr} (k : Knd) : PySem.W.subIn K (.type k.name) (.ref C) = some false := by
  cases k <;> rfl
theorem notFirst_knd {K : PySem.W.Frag} {C : Addr} (k : Knd) : PySem.W.notFirst K C (.type k.name) = true := by
  unfold PySem.W.notFirst
  rw [sub_own]
  exact Bool.or_true _
theorem notFirst_self {K : PySem.W.Frag} {C : Addr} : PySem.W.notFirst K C (.ref C) = true := by
  unfold PySem.W.notFirst
  rw [beq_self_eq_true]
  rfl
theorem PE.imp {X : Cx} {e : Expr} {t t' : TE} (h : PE X e t) (i : ∀ σ H Q, t' σ H Q → t σ H Q) : PE X e t' := ⟨fun pins s σ H Q I q => h.run pins s σ H Q I (i _ _ _ q)⟩
theorem PI.or {X : Cx} {tg e : Expr} {t t' : TI} (h : PI X tg e t) (h' : PI X tg e t') : PI X tg e (fun σ H R => t σ H R ∨ t' σ H R) :=
  ⟨fun pins s σ H R I q => q.elim (h.run pins s σ H R I) (h'.run pins s σ H R I)⟩
/-- a statement that is not reached -/
theorem ps_dead {X : Cx} {st : Stmt} : PS X st (fun _ _ _ => False) := ⟨fun _ _ _ _ _ _ h => h.elim⟩
/-! ### promises -/
def joinW (ws us : List Str) : List Str := rising (ws ++ us.filter fun u => !decide (u ∈ ws))
def bothW (ws us : List Str) : List Str := ws.filter fun w => decide (w ∈ us)
def lessW (ws us : List Str) : List Str := ws.filter fun w => !decide (w ∈ us)
def eachW (ws us : List Str) : List Str := joinW (lessW ws us) (lessW us ws)
theorem join_nodup {ws us : List Str} (h : ws.Nodup) (h2 : us.Nodup) : (ws ++ us.filter fun u => !decide (u ∈ ws)).Nodup := by
  refine List.nodup_append.mpr ⟨h, h2.filter _, fun a ha b hb => ?_⟩
  rintro rfl
  have := (List.mem_filter.mp hb).2
  rw [decide_eq_true ha] at this
  cases this
theorem asc_join {ws us : List Str} (h : AscS ws) (h2 : AscS us) : AscS (joinW ws us) := asc_rising (join_nodup h.nodup h2.nodup)
theorem mem_join {ws us : List Str} (h : AscS ws) (h2 : AscS us) (z : Str) : z ∈ joinW ws us ↔ z ∈ ws ∨ z ∈ us := by
  unfold joinW
  rw [mem_rising (join_nodup h.nodup h2.nodup), List.mem_append, List.mem_filter]
  by_cases e : z ∈ ws
  · simp [e]
  · simp [e]
theorem mem_both {ws us : List Str} (z : Str) : z ∈ bothW ws us ↔ z ∈ ws ∧ z ∈ us := by
  unfold bothW
  rw [List.mem_filter, decide_eq_true_eq]
theorem mem_less {ws us : List Str} (z : Str) : z ∈ lessW ws us ↔ z ∈ ws ∧ z ∉ us := by
  unfold lessW
  rw [List.mem_filter]
  by_cases e : z ∈ us
  · simp [e]
  · simp [e]
theorem asc_less {ws us : List Str} (h : AscS ws) : AscS (lessW ws us) := asc_filter _ h
theorem asc_both {ws us : List Str} (h : AscS ws) : AscS (bothW ws us) := asc_filter _ h
theorem len_less (ws us : List Str) : (lessW ws us).length ≤ ws.length := List.length_filter_le ..
def spAscW (K : PySem.W.Frag) : Sp := fun vs H Q _ => ∃ (v : V) (us : List Str), vs = [v] ∧ FsA K H v us ∧ ∀ L H', H L = none → Same H H' → H' L = some (.lst (us.map V.str)) → Q (.ref L) H'
def spFInit (K : PySem.W.Frag) : Sp := fun vs H Q _ => ∃ (x dx : Addr) (v : V) (us : List Str), vs = [.ref x, v] ∧ H x = some (.ins (FC K) dx []) ∧ FsA K H v us ∧
  ∀ H' d, H d = none → Off x H H' → H' x = some (.ins (FC K) dx [("held", .ref d)]) → H' d = some (.dK (wd us)) → Q .non H'
def spFWords (K : PySem.W.Frag) : Sp := fun vs H Q _ => ∃ (a : Addr) (ws : List Str), vs = [.ref a] ∧ Fl K H a ws ∧ ∀ L H', H L = none → Same H H' → H' L = some (.lst (ws.map V.str)) → Q (.ref L) H'
def spFLen (K : PySem.W.Frag) : Sp := fun vs H Q _ => ∃ (a : Addr) (ws : List Str), vs = [.ref a] ∧ Fl K H a ws ∧ Q (.int ws.length) H
def spFBool (K : PySem.W.Frag) : Sp := fun vs H Q _ => ∃ (a : Addr) (ws : List Str), vs = [.ref a] ∧ Fl K H a ws ∧ Q (.bl (!ws.isEmpty)) H
def spFIn (K : PySem.W.Frag) : Sp := fun vs H Q _ => ∃ (a : Addr) (ws : List Str) (v : V), vs = [.ref a, v] ∧ Fl K H a ws ∧ ((∃ x, v = .str x ∧ Q (.bl (decide (x ∈ ws))) H) ∨ ∃ k, KindOf H v k ∧ k ≠ .str ∧ Q (.bl false) H)
def spFEq (K : PySem.W.Frag) : Sp := fun vs H Q _ => ∃ (a : Addr) (ws : List Str) (v : V), vs = [.ref a, v] ∧ Fl K H a ws ∧ ((∃ b us, v = .ref b ∧ Fl K H b us ∧ Q (.bl (decide (ws = us))) H) ∨ ∃ k, KindOf H v k ∧ Q (.bl false) H)
def spFTest (K : PySem.W.Frag) (f : List Str → List Str → Bool) : Sp := fun vs H Q _ => ∃ (a : Addr) (ws us : List Str) (v : V), vs = [.ref a, v] ∧ Fl K H a ws ∧ ws.length ≤ 60 ∧ FsA K H v us ∧ ∀ H', Same H H' → Q (.bl (f ws us)) H'
def spFOp (K : PySem.W.Frag) (f : List Str → List Str → List Str) : Sp := fun vs H Q _ => ∃ (a : Addr) (ws us : List Str) (v : V), vs = [.ref a, v] ∧ Fl K H a ws ∧ FsA K H v us ∧ ws.length ≤ 30 ∧ us.length ≤ 30 ∧
  ∀ c H', H c = none → Same H H' → Fl K H' c (f ws us) → Q (.ref c) H'
theorem not_mem_take : ∀ {l : List Str} {i : Nat} {z : Str}, l.Nodup → l[i]? = some z → z ∉ l.take i
  | [], _, _, _, h => by cases h
  | x :: r, 0, z, _, _ => List.not_mem_nil
  | x :: r, i + 1, z, nd, h => by
    obtain ⟨n1, n2⟩ := List.nodup_cons.mp nd
    rw [List.getElem?_cons_succ] at h
    rw [List.take_succ_cons]
    intro q
    rcases List.mem_cons.mp q with e | q
    · subst e
      exact n1 (List.mem_of_getElem? h)
    · exact not_mem_take n2 h q
theorem nodup_le : ∀ {xs ys : List Str}, xs.Nodup → (∀ x ∈ xs, x ∈ ys) → xs.length ≤ ys.length
  | [], _, _, _ => Nat.zero_le _
  | x :: r, ys, h, s => by
    obtain ⟨h1, h2⟩ := List.nodup_cons.mp h
    have hx := s x (List.mem_cons_self ..)
    have q := nodup_le (ys := ys.erase x) h2 fun y hy => (List.mem_erase_of_ne (by rintro rfl; exact h1 hy)).mpr (s y (List.mem_cons_of_mem _ hy))
    rw [List.length_erase_of_mem hx] at q
    have := List.length_pos_of_mem hx
    rw [List.length_cons]
    omega
theorem nodup_all {xs ys : List Str} (h : xs.Nodup) (s : ∀ x ∈ xs, x ∈ ys) (hl : ys.length ≤ xs.length) : ∀ y ∈ ys, y ∈ xs := fun y hy => by
  by_cases e : y ∈ xs
  · exact e
  · have q := nodup_le (ys := ys.erase y) h fun x hx => (List.mem_erase_of_ne (by rintro rfl; exact e hx)).mpr (s x hx)
    rw [List.length_erase_of_mem hy] at q
    have := List.length_pos_of_mem hy
    omega
theorem eqW_eq {ws us : List Str} (h : AscS ws) (h2 : AscS us) : (ws.length == us.length && ws.all fun w => decide (w ∈ us)) = decide (ws = us) := by
  by_cases e : ws = us
  · subst e
    rw [decide_eq_true rfl, beq_self_eq_true, Bool.true_and, List.all_eq_true]
    exact fun w hw => decide_eq_true hw
  · rw [decide_eq_false e]
    cases e1 : (ws.length == us.length) with
    | false => rfl
    | true =>
      rw [Bool.true_and]
      refine Bool.eq_false_iff.mpr fun q => e ?_
      have sub : ∀ w ∈ ws, w ∈ us := fun w hw => of_decide_eq_true (List.all_eq_true.mp q w hw)
      have hl := beq_iff_eq.mp e1
      exact asc_ext h h2 fun z => ⟨sub z, fun hz => nodup_all h.nodup sub (Nat.le_of_eq hl.symm) z hz⟩
/-! ### rules -/
/-- the class by its name -/
structure MkC (P : Program) (w : World) (K : PySem.W.Frag) (mg : Str → Option Value) (base : Heap) (k : Nat) (x : Str) (C : Addr) (sp : Sp) (ks : List Str) : Prop where
  ex : ∃ (f : Addr) (fd : FuncData) (ps : List Str), Mk K C f ∧ FnOk P w K mg base CX0 k f fd ps sp ∧ mg x = some (.ref C) ∧ Binds K fd ps [] ∧ KBn K fd ps 1 ks (fun us ws => us ++ ws) (fun vs zs => vs ++ zs)
section
variable {X : Cx} {P : Program} {w : World} {K : PySem.W.Frag} {mg : Str → Option Value} {base : Heap} {j k : Nat} {ta : TE} {t tk : TA} {o e : Expr} {es : List Expr} {m x : Str} {p pos apos : Pos} {sp : Sp} {C : Addr}
theorem pe_om0 {pl : Sem Bool} (he : PE X o ta) (c : Cls X.K C) (M : OwM X.prog X.w X.K X.mg X.base C k m sp) (hr : Room j X.A) (hk : k ≤ j)
    (ht : eval (.Call (.Attribute o m apos) [] [] pos) X.env = (do
      let ov ← eval o X.env
      standAt apos.atName
      let (f, first) ← holding [ov] (getMethod ov m pl)
      callWith pos f first (backTo pos (starEach [] X.env)) (backToKw pos (keywordEach [] X.env))) := by rfl) :
    PE X (.Call (.Attribute o m apos) [] [] pos) (tMeth C m sp [] E0 ta tNil) := by
  obtain ⟨f, fd, ps, F, h1, h2, h3, hB⟩ := M.ex
  exact pe_meth0 he c ⟨h1, h2, h3⟩ F (hr.mono hk) hB .nil pass0 ht
theorem pe_om {pl : Sem Bool} (he : PE X o ta) (c : Cls X.K C) (M : OwM X.prog X.w X.K X.mg X.base C k m sp) (hr : Room j X.A) (hk : k ≤ j) (ha : PA X (e :: es) t)
    (hst : starEach (e :: es) X.env = (false, eval e X.env) :: starEach es X.env := by rfl) (hpl : (backTo pos (starEach es X.env)).any (·.1) = false := by rfl)
    (ht : eval (.Call (.Attribute o m apos) (e :: es) [] pos) X.env = (do
      let ov ← eval o X.env
      standAt apos.atName
      let (f, first) ← holding [ov] (getMethod ov m pl)
      callWith pos f first (backTo pos (starEach (e :: es) X.env)) (backToKw pos (keywordEach [] X.env))) := by rfl) :
    PE X (.Call (.Attribute o m apos) (e :: es) [] pos) (tMeth C m sp [] E0 ta t) := by
  obtain ⟨f, fd, ps, F, h1, h2, h3, hB⟩ := M.ex
  exact pe_meth he c ⟨h1, h2, h3⟩ F (hr.mono hk) hB .nil pass0 ha hst hpl ht
/-- o.m(k = v) -/
structure OwMK (P : Program) (w : World) (K : PySem.W.Frag) (mg : Str → Option Value) (base : Heap) (C : Addr) (k : Nat) (x : Str) (sp : Sp) (ks : List Str) : Prop where
  ex : ∃ (f : Addr) (fd : FuncData) (ps : List Str), FnOk P w K mg base CX0 k f fd ps sp ∧ Meth K C x f ∧ KBn K fd ps 1 ks (fun us ws => us ++ ws) (fun vs zs => vs ++ zs)
theorem pe_omk {pl : Sem Bool} {ks : List Str} {kws : List Keyword} (he : PE X o ta) (c : Cls X.K C) (M : OwMK X.prog X.w X.K X.mg X.base C k m sp ks) (hr : Room j X.A) (hk : k ≤ j) (hkw : PK X kws tk)
    (hall : (backToKw pos (keywordEach kws X.env)).all (·.1.isSome) = true := by rfl) (hks : (backToKw pos (keywordEach kws X.env)).filterMap (·.1) = ks := by rfl)
    (hpl : ((backTo pos (starEach [] X.env)).any (·.1) || (backToKw pos (keywordEach kws X.env)).any (·.1.isNone)) = false := by rfl)
    (ht : eval (.Call (.Attribute o m apos) [] kws pos) X.env = (do
      let ov ← eval o X.env
      standAt apos.atName
      let (f, first) ← holding [ov] (getMethod ov m pl)
      callWith pos f first (backTo pos (starEach [] X.env)) (backToKw pos (keywordEach kws X.env))) := by rfl) :
    PE X (.Call (.Attribute o m apos) [] kws pos) (fun σ H Q => ta σ H fun x H1 => ∃ a dx fs, x = .ref a ∧ H1 a = some (.ins C dx fs) ∧ fs.lookup m = none ∧ tk σ H1 fun zs H2 => zs.length = ks.length ∧ sp (x :: zs) H2 Q E0) := by
  obtain ⟨f, fd, ps, F, hm, hB⟩ := M.ex
  refine ⟨fun pins s σ H Q I h => ?_⟩
  refine PySem.W.methodCall_KW (pl := pl) (thn (he.run pins s σ H _ I h) fun u s1 ⟨x, H1, I1, rx, a, dx, fs, ex, ea, l, q⟩ => ?_) ht
  subst ex
  obtain rfl : u = Value.ref a := rx
  refine getmeth_ok I1 ea c hm l ?_
  refine PySem.W.callWith_KW0 (first := [.ref a]) (h₀ := X.base) I1.ok.mod.kin hm.kp hall ?_ hpl
  refine thn (hkw.run pos pins s1 σ H1 _ I1 q) fun ws s2 ⟨zs, H2, I2, rz, l2, q2⟩ => ⟨I2.kIn, ?_⟩
  rw [hks]
  exact run_fnN (us := [.ref a]) (vs := [.ref a]) F (hr.mono hk) hB pass0 I2 (.cons rfl .nil) rz rfl l2 q2
/-- Fields(..) -/
def tFields (K : PySem.W.Frag) (t : TA) : TE := fun σ H Q => t σ H fun vs H1 => ∃ v us, vs = [v] ∧ FsA K H1 v us ∧ ∀ a H', H1 a = none → Same H1 H' → Fl K H' a us → (∀ dx d, H' a = some (.ins (FC K) dx [("held", .ref d)]) → H1 d = none) → Q (.ref a) H'
theorem make_ok {K : PySem.W.Frag} {H1 : Hp} {v : V} {us : List Str} {Q : VK} {x dx : Addr} (hx : H1 x = none) (hd : H1 dx = none) (ne : dx ≠ x) (f : FsA K H1 v us) (q : ∀ a H', H1 a = none → Same H1 H' → Fl K H' a us → (∀ dx d, H' a = some (.ins (FC K) dx [("held", .ref d)]) → H1 d = none) → Q (.ref a) H') :
    spFInit K [.ref x, v] (upd (upd H1 dx (.own x)) x (.ins (FC K) dx [])) (fun v H2 => v = .non ∧ Q (.ref x) H2) E0 := by
  have s1 : Same H1 (upd (upd H1 dx (.own x)) x (.ins (FC K) dx [])) := fun b o e => by
    rw [upd_ne (ne_of_none e hx), upd_ne (ne_of_none e hd)]
    exact e
  refine ⟨x, dx, v, us, rfl, upd_same, f.on s1, fun H' d nd o h1 h2 => ⟨rfl, q x H' hx (fun b u e => o b u (ne_of_none e hx) (s1 b u e)) ⟨⟨dx, d, h1, h2⟩, f.asc, f.ok⟩ fun dx' d' h3 => ?_⟩⟩
  rw [h1] at h3
  have e : d = d' := by injection h3 with h3; injection h3 with _ _ h3; injection h3 with h3 _; injection h3 with _ h3; injection h3
  rw [← e]
  exact s1.free nd
theorem pe_fields (M : MkC X.prog X.w X.K X.mg X.base k "Fields" (FC X.K) (spFInit X.K) ["words"]) (hr : Room j X.A) (hk : k + 1 ≤ j) (hg : Gl X "Fields") (ha : PA X [e] t) (he : starEach [e] X.env = (false, eval e X.env) :: starEach [] X.env := by rfl) (hpl : (backTo pos (starEach [] X.env)).any (·.1) = false := by rfl) :
    PE X (.Call (.Name "Fields" p) [e] [] pos) (tFields X.K t) := by
  obtain ⟨f, fd, ps, mk, F, hm, hB, _⟩ := M.ex
  refine ⟨fun pins s σ H Q I h => ?_⟩
  refine wpAny_Call_Name_kw (ld_glob I hg hm ?_ (by decide))
  refine PySem.W.callWith_K (h₀ := X.base) I.ok.mod.kin mk.kp (thn (ha.run pos pins s σ H _ I h) fun us s1 ⟨vs, H1, I1, r, q⟩ => ⟨I1.kIn, ?_⟩) he hpl
  obtain ⟨v, ws, rfl, f, q⟩ := q
  exact run_make mk F (hr.mono hk) hB .nil pass0 I1 r fun x dx hx hd ne => make_ok hx hd ne f q
theorem pe_fieldsK (M : MkC X.prog X.w X.K X.mg X.base k "Fields" (FC X.K) (spFInit X.K) ["words"]) (hr : Room j X.A) (hk : k + 1 ≤ j) (hg : Gl X "Fields") {kws : List Keyword} (hkw : PK X kws tk)
    (hall : (backToKw pos (keywordEach kws X.env)).all (·.1.isSome) = true := by rfl) (hks : (backToKw pos (keywordEach kws X.env)).filterMap (·.1) = (["words"] : List Str) := by rfl)
    (hpl : ((backTo pos (starEach [] X.env)).any (·.1) || (backToKw pos (keywordEach kws X.env)).any (·.1.isNone)) = false := by rfl) :
    PE X (.Call (.Name "Fields" p) [] kws pos) (tFields X.K tk) := by
  obtain ⟨f, fd, ps, mk, F, hm, _, hB⟩ := M.ex
  refine ⟨fun pins s σ H Q I h => ?_⟩
  refine wpAny_Call_Name_kw (ld_glob I hg hm ?_ (by decide))
  refine PySem.W.callWith_KW0 (h₀ := X.base) I.ok.mod.kin mk.kp hall ?_ hpl
  refine thn (hkw.run pos pins s σ H _ I h) fun ws s2 ⟨zs, H2, I2, rz, v, us, e, f, q⟩ => ⟨I2.kIn, ?_⟩
  rw [hks]
  subst e
  exact run_makeK (us := []) (vs := []) mk F (hr.mono hk) hB pass0 I2 .nil rz rfl rfl fun x dx hx hd ne => make_ok hx hd ne f q
/-- {k: v for target in iter}: over anything that walks -/
theorem dc_it {J : It} {n : Nat} {G : Hp → Prop} {Y : Nat → Hp → V → Hp → Prop} (wk : Walk J n G Y) {g : TG} {tt : TT} {te tv : TE} {vs : List Nat} {σ : L2.St} {H1 : Hp} {D : Addr} {Qd : Hp → Prop} (Pv : Nat → Hp → Prop) (h0 : Pv 0 (upd H1 D (.dK []))) (hG : ∀ i H, i ≤ n → Pv i H → G H)
    (hs : ∀ i x H H', i < n → Pv i H → Y i H x H' → g x (wipe σ vs) H' fun σ2 H2 => wipe σ2 vs = wipe σ vs ∧ tt σ2 H2 fun b H3 =>
      if b = true then te σ2 H3 fun y H4 => tv σ2 H4 fun z H5 => ∃ kvs k, y = kV k ∧ H5 D = some (.dK kvs) ∧ kvs.length < sizeLine ∧ Pv (i + 1) (upd H5 D (.dK (putK kvs k z))) else Pv (i + 1) H3) (hd : ∀ H, Pv n H → Qd H) :
    ∃ W : Nat → Nat → Hp → Prop, (∃ m, W 0 m (upd H1 D (.dK []))) ∧ ∀ i m H, W i m H →
      (J.stop i H ∧ Qd H) ∨ (J.go i H ∧ ∃ Nx : Hp → Prop, (∀ H', Nx H' → ∃ m', m' < m ∧ W (i + 1) m' H') ∧ ∀ x H', J.yld i H x H' → g x (wipe σ vs) H' fun σ2 H2 => wipe σ2 vs = wipe σ vs ∧ tt σ2 H2 fun b H3 =>
        if b = true then te σ2 H3 fun y H4 => tv σ2 H4 fun z H5 => ∃ kvs k, y = kV k ∧ H5 D = some (.dK kvs) ∧ kvs.length < sizeLine ∧ Nx (upd H5 D (.dK (putK kvs k z))) else Nx H3) := by
  refine ⟨fun i m H => m = n - i ∧ i ≤ n ∧ Pv i H, ⟨n, by simp, Nat.zero_le _, h0⟩, ?_⟩
  rintro i m H ⟨rfl, hi, p⟩
  have q := hG i H hi p
  by_cases hlt : i < n
  · exact .inr ⟨wk.goes i H hlt q, Pv (i + 1), fun H' p' => ⟨n - (i + 1), by omega, rfl, hlt, p'⟩, fun x H' y => hs i x H H' hlt p (wk.yields i H x H' hlt q y)⟩
  · have e : i = n := by omega
    subst e
    exact .inl ⟨wk.stops H q, hd H p⟩
/-- set(words) of a list or a tuple -/
theorem call_setE (hc : X.calm = true) : CallR X (.type "set") (fun vs H Q => rSetS X.K X.prog X.w vs H Q ∨ rSetST X.K X.prog X.w vs H Q) := call_or (cr_setS hc) (cr_setST hc)
end
end Sm
namespace Sm
open PySem PySem.Spec PyProof.Rows L2
abbrev sis_list : Stmt := top 3
theorem scis_list : FnScope ["thing"] ["thing"] (defScope sis_list) := ⟨rfl, rfl, rfl, by decide +kernel, rfl, by decide +kernel, by decide +kernel⟩

abbrev sis_word : Stmt := top 5
theorem scis_word : FnScope ["thing"] ["thing"] (defScope sis_word) := ⟨rfl, rfl, rfl, by decide +kernel, rfl, by decide +kernel, by decide +kernel⟩

structure TxtI (mg : Str → Option Value) : Prop where
  isinstance : mg "isinstance" = none
  list : mg "list" = none
  tuple : mg "tuple" = none
  str : mg "str" = none
  len : mg "len" = none
  gL : ∃ t, mg "LONGEST_WORD" = some (.int 8 t)
def spIsList : Sp := fun vs H Q _ => ∃ (v : V) (k : Knd), vs = [v] ∧ KindOf H v k ∧ ∀ H', Same H H' → Q (.bl (isiAny k [.lst, .tup])) H'
def spIsWord : Sp := fun vs H Q _ => (∃ x : Str, vs = [.str x] ∧ x.length ≤ sizeLine ∧ Q (.bl (wordB x)) H) ∨ ∃ (v : V) (k : Knd), vs = [v] ∧ KindOf H v k ∧ k ≠ .str ∧ Q (.bl false) H
section
variable {P : Program} {w : World} {K : PySem.W.Frag} {mg : Str → Option Value} {base : Heap}
theorem ok_is_list (T : TxtI mg) {f : Addr} {fd : FuncData} (F : FnP K "is_list" sis_list f fd) : FnOk P w K mg base CX0 1 f fd ["thing"] spIsList := by
  refine F.ok scis_list (fun vs H Q E h => ?_) (fun cdv A outer s H vs Q E hr h => ?_)
  · obtain ⟨v, k, rfl, _⟩ := h
    rfl
  · obtain ⟨v, k, rfl, hk, kk⟩ := h
    refine ⟨_, PSs.nox (pss_one (ps_ret (pe_callB (call_isiTK (K := K)) (by rfl) T.isinstance (by decide +kernel) (pa_cons (pv 0) (pa_cons (pe_tup (pa_cons (pe_bltn (v := .ty "list") (u := .type "list") (by rfl) T.list (by decide +kernel) rfl) (pa_cons (pe_bltn (v := .ty "tuple") (u := .type "tuple") (by rfl) T.tuple (by decide +kernel) rfl) pa_nil))) pa_nil))))), ?_⟩
    exact ⟨_, rfl, by show 2 ≤ sizeLine; decide, fun tp htp => ⟨_, _, _, _, _, _, rfl, upd_same, cls_all [.lst, .tup], (hk.on (Same.new htp)).ty, kit_any _ [.lst, .tup], (kk _ (Same.new htp))⟩⟩
theorem ok_is_word (T : TxtI mg) {f : Addr} {fd : FuncData} (F : FnP K "is_word" sis_word f fd) : FnOk P w K mg base CX0 1 f fd ["thing"] spIsWord := by
  obtain ⟨tL, gL⟩ := T.gL
  refine F.ok scis_word (fun vs H Q E h => ?_) (fun cdv A outer s H vs Q E hr h => ?_)
  · rcases h with ⟨x, rfl, _⟩ | ⟨v, k, rfl, _⟩ <;> rfl
  · refine ⟨_, PSs.nox (pss_cons (ps_if (PW.pt (pw_or (pt_not (pt_val (pe_callB (call_isiK' (K := K)) (by rfl) T.isinstance (by decide +kernel) (pa_cons (pv 0) (pa_cons (pe_bltn (v := .ty "str") (u := .type "str") (by rfl) T.str (by decide +kernel) rfl) pa_nil))))) (pw_or1 (pt_cmpR op_gt (pe_callB call_len_str (by rfl) T.len (by decide +kernel) (pa_cons (pv 0) pa_nil)) (pe_glob (v := .int 8) rfl gL ⟨_, rfl⟩) (nomark _))))) (pss_one (ps_ret pe_bl)) pss_nil)
  (pss_one (ps_ret (pe_and (pe_m0 PySem.F.slot_str_isascii PySem.F.type_str_isascii mt_isascii (pv 0)) (pe_and (pe_m0 PySem.F.slot_str_isalpha PySem.F.type_str_isalpha mt_isalpha (pv 0)) (pe_one (pe_m0 PySem.F.slot_str_islower PySem.F.type_str_islower mt_islower (pv 0)))))))), ?_⟩
    rcases h with ⟨x, rfl, hl, q⟩ | ⟨v, k, rfl, hk, hne, q⟩
    · refine st_seq2 ⟨_, rfl, ⟨_, _, _, _, _, rfl, .ty _, (KindOf.str x).ty, kit_knd _ .str, ⟨_, rfl, ?_⟩⟩⟩
      refine iteF ⟨_, rfl, _, rfl, hl, _, _, rfl, rfl, _, rfl, ?_⟩
      cases e : decide ((8 : Int) < (x.length : Int)) with
      | true =>
        refine iteT ?_
        have e2 : wordB x = false := by unfold wordB; rw [e]; rfl
        rw [e2] at q
        exact q
      | false =>
        refine iteF ?_
        have e2 : wordB x = (Txt.isascii x && (Txt.isalpha x && Txt.islower x)) := by unfold wordB; rw [e]; rfl
        rw [e2] at q
        refine ⟨_, rfl, ⟨_, rfl⟩, x, rfl, rfl, trivial, ?_⟩
        cases ea : Txt.isascii x with
        | false =>
          rw [ea] at q
          exact ⟨_, rfl, iteF q⟩
        | true =>
          rw [ea] at q
          refine ⟨_, rfl, iteT ⟨_, rfl, ⟨_, rfl⟩, x, rfl, rfl, trivial, ?_⟩⟩
          cases eb : Txt.isalpha x with
          | false =>
            rw [eb] at q
            exact ⟨_, rfl, iteF q⟩
          | true =>
            rw [eb] at q
            exact ⟨_, rfl, iteT ⟨_, rfl, ⟨_, rfl⟩, x, rfl, rfl, trivial, q⟩⟩
    · have e0 : isi k .str = false := by cases k <;> first | rfl | exact absurd rfl hne
      refine st_seq2 ⟨_, rfl, ⟨_, _, _, _, _, rfl, .ty _, (hk).ty, kit_knd _ .str, ⟨_, rfl, ?_⟩⟩⟩
      rw [e0]
      exact iteT q
end
end Sm
namespace Sm
open PySem PySem.Spec PyProof.Rows L2
abbrev sascending_words : Stmt := top 18
theorem scascending_words : FnScope ["words", "index", "word"] ["words"] (defScope sascending_words) := ⟨rfl, rfl, rfl, by decide +kernel, rfl, by decide +kernel, by decide +kernel⟩

abbrev sFields_init : Stmt := inClass (top 19) 0
theorem scFields_init : FnScope ["self", "words", "word"] ["self", "words"] (defScope sFields_init) := ⟨rfl, rfl, rfl, by decide +kernel, rfl, by decide +kernel, by decide +kernel⟩

abbrev sFields_words : Stmt := inClass (top 19) 1
theorem scFields_words : FnScope ["self"] ["self"] (defScope sFields_words) := ⟨rfl, rfl, rfl, by decide +kernel, rfl, by decide +kernel, by decide +kernel⟩

abbrev sFields_meets : Stmt := inClass (top 19) 2
theorem scFields_meets : FnScope ["self", "other"] ["self", "other"] (defScope sFields_meets) := ⟨rfl, rfl, rfl, by decide +kernel, rfl, by decide +kernel, by decide +kernel⟩

abbrev sFields_within : Stmt := inClass (top 19) 3
theorem scFields_within : FnScope ["self", "other"] ["self", "other"] (defScope sFields_within) := ⟨rfl, rfl, rfl, by decide +kernel, rfl, by decide +kernel, by decide +kernel⟩

abbrev sFields_len : Stmt := inClass (top 19) 4
theorem scFields_len : FnScope ["self"] ["self"] (defScope sFields_len) := ⟨rfl, rfl, rfl, by decide +kernel, rfl, by decide +kernel, by decide +kernel⟩

abbrev sFields_bool : Stmt := inClass (top 19) 5
theorem scFields_bool : FnScope ["self"] ["self"] (defScope sFields_bool) := ⟨rfl, rfl, rfl, by decide +kernel, rfl, by decide +kernel, by decide +kernel⟩

abbrev sFields_contains : Stmt := inClass (top 19) 6
theorem scFields_contains : FnScope ["self", "x"] ["self", "x"] (defScope sFields_contains) := ⟨rfl, rfl, rfl, by decide +kernel, rfl, by decide +kernel, by decide +kernel⟩

abbrev sFields_eq : Stmt := inClass (top 19) 7
theorem scFields_eq : FnScope ["self", "other"] ["self", "other"] (defScope sFields_eq) := ⟨rfl, rfl, rfl, by decide +kernel, rfl, by decide +kernel, by decide +kernel⟩

structure TxtF (mg : Str → Option Value) : Prop where
  isinstance : mg "isinstance" = none
  enumerate : mg "enumerate" = none
  sorted : mg "sorted" = none
  set : mg "set" = none
  list : mg "list" = none
  len : mg "len" = none
  bool : mg "bool" = none
  any : mg "any" = none
  all : mg "all" = none
  str : mg "str" = none
section
variable {P : Program} {w : World} {K : PySem.W.Frag} {mg : Str → Option Value} {base : Heap}
theorem ok_F_words (T : TxtF mg) (FK : FlK K) {f : Addr} {fd : FuncData} (F : FunD K "words" "Fields.words" (defArgs sFields_words) (defBody sFields_words) (defScope sFields_words) [] [] f fd) : FnOk P w K mg base CX0 1 f fd ["self"] (spFWords K) := by
  refine F.ok scFields_words (fun vs H Q E h => ?_) (fun cdv A outer s H vs Q E hr h => ?_)
  · obtain ⟨a, ws, rfl, _⟩ := h
    rfl
  · obtain ⟨a, ws, rfl, f, kk⟩ := h
    obtain ⟨dx, d, h1, h2⟩ := f.at_
    refine ⟨_, PSs.nox (pss_one (ps_ret (pe_callTy (call_listD rfl) (by rfl) T.list (by decide +kernel) (pa_cons (pe_fldK (K := K) (pv 0)) pa_nil)))), ?_⟩
    refine ⟨_, rfl, a, _, dx, _, _, rfl, h1, FK.cls, FK.held, rfl, d, wd ws, rfl, .inl h2, fun L hL => ?_⟩
    rw [wd_keys]
    exact kk L _ hL (Same.new hL) upd_same
theorem ok_F_len (T : TxtF mg) (FK : FlK K) {f : Addr} {fd : FuncData} (F : FunD K "__len__" "Fields.__len__" (defArgs sFields_len) (defBody sFields_len) (defScope sFields_len) [] [] f fd) : FnOk P w K mg base CX0 1 f fd ["self"] (spFLen K) := by
  refine F.ok scFields_len (fun vs H Q E h => ?_) (fun cdv A outer s H vs Q E hr h => ?_)
  · obtain ⟨a, ws, rfl, _⟩ := h
    rfl
  · obtain ⟨a, ws, rfl, f, kk⟩ := h
    obtain ⟨dx, d, h1, h2⟩ := f.at_
    refine ⟨_, PSs.nox (pss_one (ps_ret (pe_callB call_lenD (by rfl) T.len PySem.boot_len (pa_cons (pe_fldK (K := K) (pv 0)) pa_nil)))), ?_⟩
    refine ⟨_, rfl, a, _, dx, _, _, rfl, h1, FK.cls, FK.held, rfl, d, wd ws, rfl, h2, ?_⟩
    rw [wd_len]
    exact kk
theorem ok_F_bool (T : TxtF mg) (FK : FlK K) {f : Addr} {fd : FuncData} (F : FunD K "__bool__" "Fields.__bool__" (defArgs sFields_bool) (defBody sFields_bool) (defScope sFields_bool) [] [] f fd) : FnOk P w K mg base CX0 1 f fd ["self"] (spFBool K) := by
  refine F.ok scFields_bool (fun vs H Q E h => ?_) (fun cdv A outer s H vs Q E hr h => ?_)
  · obtain ⟨a, ws, rfl, _⟩ := h
    rfl
  · obtain ⟨a, ws, rfl, f, kk⟩ := h
    obtain ⟨dx, d, h1, h2⟩ := f.at_
    refine ⟨_, PSs.nox (pss_one (ps_ret (pe_callTy call_boolD (by rfl) T.bool (by decide +kernel) (pa_cons (pe_fldK (K := K) (pv 0)) pa_nil)))), ?_⟩
    refine ⟨_, rfl, a, _, dx, _, _, rfl, h1, FK.cls, FK.held, rfl, d, wd ws, rfl, h2, ?_⟩
    have e : (wd ws).isEmpty = ws.isEmpty := by cases ws <;> rfl
    rw [e]
    exact kk
theorem ok_F_in (T : TxtF mg) (FK : FlK K) {f : Addr} {fd : FuncData} (F : FunD K "__contains__" "Fields.__contains__" (defArgs sFields_contains) (defBody sFields_contains) (defScope sFields_contains) [] [] f fd) : FnOk P w K mg base CX0 1 f fd ["self", "x"] (spFIn K) := by
  refine F.ok scFields_contains (fun vs H Q E h => ?_) (fun cdv A outer s H vs Q E hr h => ?_)
  · obtain ⟨a, ws, v, rfl, _⟩ := h
    rfl
  · obtain ⟨a, ws, v, rfl, f, kk⟩ := h
    obtain ⟨dx, d, h1, h2⟩ := f.at_
    refine ⟨_, PSs.nox (pss_one (ps_ret (pe_and (pe_callB (call_isiK' (K := K)) (by rfl) T.isinstance (by decide +kernel) (pa_cons (pv 1) (pa_cons (pe_bltn (v := .ty "str") (u := .type "str") (by rfl) T.str (by decide +kernel) rfl) pa_nil))) (pe_one (pe_cmpR (op_inDict (hu_of hr)) (pv 1) (pe_fldK (K := K) (pv 0)) (by rfl)))))), ?_⟩
    rcases kk with ⟨x, rfl, q⟩ | ⟨k, hk, ne, q⟩
    · refine ⟨_, rfl, ⟨_, _, _, _, _, rfl, .ty _, (KindOf.str x).ty, kit_knd _ .str, ⟨_, rfl, iteT ⟨_, rfl, _, rfl, a, _, dx, _, _, rfl, h1, FK.cls, FK.held, rfl, d, _, rfl, DGet.k (k := Sum.inr x) h2, ?_⟩⟩⟩⟩
      rw [wd_some]
      exact q
    · have e0 : isi k .str = false := by cases k <;> first | rfl | exact absurd rfl ne
      refine ⟨_, rfl, ⟨_, _, _, _, _, rfl, .ty _, (hk).ty, kit_knd _ .str, ⟨_, rfl, ?_⟩⟩⟩
      rw [e0]
      exact iteF q
theorem ok_F_eq (T : TxtF mg) (FK : FlK K) (gF : mg "Fields" = some (.ref (FC K))) {f : Addr} {fd : FuncData} (F : FunD K "__eq__" "Fields.__eq__" (defArgs sFields_eq) (defBody sFields_eq) (defScope sFields_eq) [] [] f fd) : FnOk P w K mg base CX0 1 f fd ["self", "other"] (spFEq K) := by
  refine F.ok scFields_eq (fun vs H Q E h => ?_) (fun cdv A outer s H vs Q E hr h => ?_)
  · obtain ⟨a, ws, v, rfl, _⟩ := h
    rfl
  · obtain ⟨a, ws, v, rfl, f, kk⟩ := h
    obtain ⟨dx, d, h1, h2⟩ := f.at_
    refine ⟨_, PSs.nox (pss_one (ps_ret (pe_and (pe_callB (call_isiK' (K := K)) (by rfl) T.isinstance (by decide +kernel) (pa_cons (pv 1) (pa_cons (pe_glob (v := .ref (FC K)) rfl gF rfl) pa_nil))) (pe_one (pe_cmpR (op_eqW hr.units0) (pe_fldK (K := K) (pv 0)) (pe_fldK (K := K) (pv 1)) (nomark _)))))), ?_⟩
    rcases kk with ⟨b, us, rfl, f2, q⟩ | ⟨k, hk, q⟩
    · obtain ⟨dx', d', g1, g2⟩ := f2.at_
      refine ⟨_, rfl, ⟨_, _, _, _, _, rfl, .own _, FK.ty f2, FK.iS, ⟨_, rfl, iteT ⟨_, rfl, a, _, dx, _, _, rfl, h1, FK.cls, FK.held, rfl, _, rfl, b, _, dx', _, _, rfl, g1, FK.cls, FK.held, rfl, d, d', ws, us, rfl, rfl, h2, g2, ?_⟩⟩⟩⟩
      rw [eqW_eq f.asc f2.asc]
      exact q
    · exact ⟨_, rfl, ⟨_, _, _, _, _, rfl, .own _, hk.ty, FK.iB k, ⟨_, rfl, iteF q⟩⟩⟩
end
end Sm
namespace Sm
open PySem PySem.Spec PyProof.Rows L2
section
variable {P : Program} {w : World} {K : PySem.W.Frag} {mg : Str → Option Value} {base : Heap}
theorem word_len {x : Str} (h : wordB x = true) : x.length ≤ sizeLine := by
  unfold wordB at h
  have h1 := (Bool.and_eq_true_iff.mp h).1
  have h2 : ¬ (8 : Int) < (x.length : Int) := by simpa using h1
  have e : sizeLine = 16777216 := sizeLine_eq
  omega
theorem ok_ascending_words (T : TxtF mg) (FK : FlK K) (gF : mg "Fields" = some (.ref (FC K))) {f : Addr} {fd : FuncData} (F : FnP K "ascending_words" sascending_words f fd) (cF_words : OwM P w K mg base (FC K) 1 "words" (spFWords K)) (cis_list : Cal P w K mg base CX0 1 "is_list" spIsList) (cis_word : Cal P w K mg base CX0 1 "is_word" spIsWord) : FnOk P w K mg base CX0 2 f fd ["words"] (spAscW K) := by
  refine F.ok scascending_words (fun vs H Q E h => ?_) (fun cdv A outer s H vs Q E hr h => ?_)
  · obtain ⟨v, us, rfl, _⟩ := h
    rfl
  · obtain ⟨v, us, rfl, f, kk⟩ := h
    refine ⟨_, PSs.nox (pss_cons (ps_if (pt_val (pe_callB (call_isiK' (K := K)) (by rfl) T.isinstance (by decide +kernel) (pa_cons (pv 0) (pa_cons (pe_glob (v := .ref (FC K)) rfl gF rfl) pa_nil)))) (pss_one (ps_ret (pe_om0 (pv 0) FK.cls cF_words hr (by decide)))) pss_nil)
  (pss_cons (ps_if (pt_not (pt_val (pe_c cis_list hr (by first | decide | omega) (by rfl) (pa_cons (pv 0) pa_nil)))) (pss_one ps_dead) pss_nil)
  (pss_cut (ps_for PassesOwn.never rfl (PI.or (pi_enumK (K := K) (by rfl) T.enumerate (pa_cons (pv 0) pa_nil)) (pi_enumTK (K := K) (by rfl) T.enumerate (pa_cons (pv 0) pa_nil))) (pg_tupK (K := K) rfl (pgs_cons (pg_name (i := 1) scascending_words.nd rfl (Or.inl rfl)) (pgs_cons (pg_name (i := 2) scascending_words.nd rfl (Or.inl rfl)) pgs_nil))) (pss_one (ps_if (pt_not (pt_val (pe_c cis_word hr (by first | decide | omega) (by rfl) (pa_cons (pv 2) pa_nil)))) (pss_one ps_dead) pss_nil)))
  (pss_one (ps_ret (pe_callB (cr_sortedSetS rfl) (by rfl) T.sorted (by decide +kernel) (pa_cons (pe_callTy (call_setE rfl) (by rfl) T.set (by decide +kernel) (pa_cons (pv 0) pa_nil)) pa_nil))))))), ?_⟩
    rcases f.at_ with ⟨a, rfl, f2⟩ | ⟨a, xs, rfl, ha, hl, hm⟩
    · obtain ⟨dx, d, h1, h2⟩ := f2.at_
      exact st_seq2 ⟨_, rfl, ⟨_, _, _, _, _, rfl, .own _, FK.ty f2, FK.iS, ⟨_, rfl, iteT ⟨_, rfl, a, dx, _, rfl, h1, rfl, a, us, rfl, f2, kk⟩⟩⟩⟩
    · have hk : ∃ k : Knd, KindOf H (.ref a) k ∧ isiAny k [.lst, .tup] = true := by
        rcases ha with ha | ha
        · exact ⟨_, .lst ha, rfl⟩
        · exact ⟨_, .tup ha, rfl⟩
      obtain ⟨k, hk, ek⟩ := hk
      have wx : ∀ x ∈ xs, wordB x = true := fun x hx => f.ok x ((hm x).mpr hx)
      refine st_seq2 ⟨_, rfl, ⟨_, _, _, _, _, rfl, .own _, hk.ty, FK.iB k, ⟨_, rfl, iteF ?_⟩⟩⟩
      refine st_seq2 ⟨_, rfl, _, k, rfl, hk, fun H1 s1 => ⟨_, rfl, ?_⟩⟩
      rw [ek]
      refine iteF ?_
      refine ⟨fun σ' H' => ∃ v1 v2 : Option V, σ' = [some (.ref a), v1, v2] ∧ Same H H', ?_, ?_⟩
      · have turn : ∀ (i : Nat) (x : V) (σ' : L2.St) (H2 H3 : Hp), (∃ v1 v2 : Option V, σ' = [some (.ref a), v1, v2] ∧ Same H H2) → YPair (fun i => some (.int (i : Nat))) (fun i => (xs.map V.str)[i]?) i H2 x H3 → ∃ (T : Addr) (z : Str), x = .ref T ∧ H3 T = some (.tup [.int (i : Nat), .str z]) ∧ z ∈ xs ∧ Same H H3 := by
          rintro i x σ' H2 H3 ⟨v1, v2, rfl, s2⟩ ⟨T', x', y, rfl, hT, rfl, hx, hy⟩
          cases hx
          have hy : (xs.map V.str)[i]? = some y := hy
          rw [List.getElem?_map] at hy
          obtain ⟨z, hz, rfl⟩ := Option.map_eq_some_iff.mp hy
          exact ⟨T', z, rfl, upd_same, List.mem_of_getElem? hz, s2.trans (Same.new hT)⟩
        rcases ha with ha | ha
        · refine .inl ⟨_, rfl, a, _, rfl, SqL.of (s1 _ _ ha), for_it (walk_enum (xs := xs.map V.str)) (fun i σ' H' => ∃ v1 v2 : Option V, σ' = [some (.ref a), v1, v2] ∧ Same H H') ⟨none, none, rfl, s1⟩ (fun i σ' H' _ q => by obtain ⟨_, _, _, s2⟩ := q; exact SqL.of (s2 _ _ ha)) ?_ ?_⟩
          · rintro i x σ' H2 H3 hi pv y
            obtain ⟨T', z, rfl, hT, hz, s3⟩ := turn i x σ' H2 H3 pv y
            obtain ⟨v1, v2, rfl, _⟩ := pv
            refine ⟨T', _, rfl, SqT.of hT, rfl, _, _, rfl, _, _, rfl, rfl, ?_⟩
            refine ⟨_, rfl, .inl ⟨z, rfl, word_len (wx z hz), ⟨_, rfl, ?_⟩⟩⟩
            rw [wx z hz]
            exact iteF ⟨_, _, rfl, s3⟩
          · exact fun σ' H' q => q
        · refine .inr ⟨_, rfl, a, _, rfl, SqT.of (s1 _ _ ha), for_it (walk_enumT (xs := xs.map V.str)) (fun i σ' H' => ∃ v1 v2 : Option V, σ' = [some (.ref a), v1, v2] ∧ Same H H') ⟨none, none, rfl, s1⟩ (fun i σ' H' _ q => by obtain ⟨_, _, _, s2⟩ := q; exact SqT.of (s2 _ _ ha)) ?_ ?_⟩
          · rintro i x σ' H2 H3 hi pv y
            obtain ⟨T', z, rfl, hT, hz, s3⟩ := turn i x σ' H2 H3 pv y
            obtain ⟨v1, v2, rfl, _⟩ := pv
            refine ⟨T', _, rfl, SqT.of hT, rfl, _, _, rfl, _, _, rfl, rfl, ?_⟩
            refine ⟨_, rfl, .inl ⟨z, rfl, word_len (wx z hz), ⟨_, rfl, ?_⟩⟩⟩
            rw [wx z hz]
            exact iteF ⟨_, _, rfl, s3⟩
          · exact fun σ' H' q => q
      · rintro σ' H' ⟨v1, v2, rfl, s2⟩
        have fin : ∀ (b : Addr) (n : Nat), H' b = none → n ≤ xs.length → rSortedSetS P w [.ref b] (upd H' b (SetS P w b (fun k => decide (k ∈ xs)) n)) Q := fun b n hb hn => by
          refine ⟨b, _, n, rfl, upd_same, by omega, fun ys p so nd mem hp => ?_⟩
          have e : ys = us := asc_ext (asc_sorted so nd) f.asc fun z => by rw [mem z, decide_eq_true_eq, hm z]
          rw [e]
          have hp1 : H' p = none := by
            have nb : p ≠ b := fun e => by
              rw [e, upd_same] at hp
              cases hp
            rw [upd_ne nb] at hp
            exact hp
          exact kk p _ (s2.free hp1) (s2.trans ((Same.new hb).trans (Same.new hp))) upd_same
        rcases ha with ha | ha
        · exact ⟨_, rfl, .inl ⟨a, xs, rfl, SqL.of (s2 _ _ ha), by omega, fin⟩⟩
        · exact ⟨_, rfl, .inr ⟨a, xs, rfl, SqT.of (s2 _ _ ha), by omega, fin⟩⟩
theorem ok_F_init (T : TxtF mg) (FK : FlK K) {f : Addr} {fd : FuncData} (F : FunD K "__init__" "Fields.__init__" (defArgs sFields_init) (defBody sFields_init) (defScope sFields_init) [] [] f fd) (cascending_words : Cal P w K mg base CX0 2 "ascending_words" (spAscW K)) : FnOk P w K mg base CX0 3 f fd ["self", "words"] (spFInit K) := by
  refine F.ok scFields_init (fun vs H Q E h => ?_) (fun cdv A outer s H vs Q E hr h => ?_)
  · obtain ⟨x, dx, v, us, rfl, _⟩ := h
    rfl
  · obtain ⟨x, dx, v, us, rfl, hx, f, kk⟩ := h
    refine ⟨_, PSs.nox (pss_one (ps_fld (pv 0) (pe_dc (own := [("word", 2)]) (g := (gName 2)) rfl scFields_init.nd (pi_listK (K := K) (pe_c cascending_words hr (by first | decide | omega) (by rfl) (pa_cons (pv 1) pa_nil))) (blkOk_by (own := [("word", 2)]) (N := ["self", "words", "word"]) (sc := defScope sFields_init) (by decide +kernel)) (fun _ _ _ _ _ => (pg_name (i := 2) scFields_init.nd rfl (Or.inl rfl) (hf := Or.inr rfl))) (fun _ _ _ _ _ => pts_nil) (fun _ _ _ _ _ => (pv 2)) (fun _ _ _ _ _ => pe_bl)) rfl)), ?_⟩
    refine ⟨_, rfl, v, us, rfl, f, fun L H1 nL s1 hL => ⟨L, rfl, ⟨_, SqL.of hL⟩, fun D hD => dc_it (walk_list (xs := us.map V.str)) (fun i H2 => Same H1 H2 ∧ H2 D = some (.dK (wd (us.take i)))) ⟨Same.new hD, upd_same⟩ (fun i H2 _ q => SqL.of (q.1 _ _ hL)) ?_ ?_⟩⟩
    · rintro i y H2 H3 hi ⟨s2, h2⟩ ⟨rfl, hy⟩
      rw [List.getElem?_map] at hy
      obtain ⟨z, hz, rfl⟩ := Option.map_eq_some_iff.mp hy
      refine ⟨rfl, ?_⟩
      refine ⟨_, rfl, wd (us.take i), Sum.inr z, rfl, h2, ?_, ?_, ?_⟩
      · rw [wd_len]
        have := f.len
        have e : sizeLine = 16777216 := sizeLine_eq
        have := List.length_take_le' i us
        omega
      · exact fun b o e => by
          rw [upd_ne (ne_of_none e hD)]
          exact s2 b o e
      · rw [upd_same, wd_put (not_mem_take f.asc.nodup hz), ← take_step hz]
    · rintro H2 ⟨s2, h2⟩
      have e : us.take (us.map V.str).length = us := by rw [List.length_map, List.take_length]
      rw [e] at h2
      have h3 : H2 x = some (.ins (FC K) dx []) := by
        have := s1 _ _ hx
        exact s2 _ _ this
      refine ⟨_, rfl, x, _, dx, _, rfl, h3, FK.cls, FK.held, by decide, ?_⟩
      refine kk _ D (s1.free hD) (fun b o ne e => ?_) upd_same ?_
      · rw [upd_ne ne]
        exact s2 _ _ (s1 _ _ e)
      · rw [upd_ne (ne_of h2 h3 (by intro z; cases z))]
        exact h2
end
end Sm
/-! the operators of Fields as a caller sees them -/
namespace Sm
open PySem PySem.Spec PyProof.Rows L2
theorem OpR.imp {X : Cx} {f : Value → Value → Sem Value} {r r' : R2} (h : OpR X f r) (i : ∀ x y H Q, r' x y H Q → r x y H Q) : OpR X f r' := fun pins s σ H x y v u Q I rx ry q => h pins s σ H x y v u Q I rx ry (i _ _ _ _ q)
section
variable {X : Cx} {K : PySem.W.Frag} {k kr j : Nat}
def rOpF (K : PySem.W.Frag) (f : List Str → List Str → List Str) : R2 := fun x y H Q => ∃ ws us, ws.length ≤ 30 ∧ us.length ≤ 30 ∧ ((∃ a, x = .ref a ∧ Fl K H a ws ∧ FsA K H y us) ∨ ∃ b, y = .ref b ∧ Fl K H b us ∧ FsA K H x ws) ∧ ∀ c H', H c = none → Same H H' → Fl K H' c (f ws us) → Q (.ref c) H'
theorem FsA.seq {H : Hp} {v : V} {us : List Str} (f : FsA K H v us) : (∃ a, v = .ref a ∧ Fl K H a us) ∨ ∃ T : String, (T = "list" ∨ T = "tuple") ∧ TyX K H v (.type T) := by
  rcases f.at_ with ⟨a, rfl, g⟩ | ⟨a, xs, rfl, h | h, _⟩
  · exact .inl ⟨a, rfl, g⟩
  · exact .inr ⟨_, .inl rfl, .base (.lst h)⟩
  · exact .inr ⟨_, .inr rfl, .base (.tup h)⟩
theorem op_opF {op : Operator} {nm nr : Str} {nm' : String} {f : List Str → List Str → List Str} (hi : op.info.2 = nm') (hn : PySem.dunder op.info.2 = nm) (hnr : dunderR op.info.2 = nr) (hK : X.K = K) (FK : FlK K)
    (M : OwM X.prog X.w X.K X.mg X.base (FC K) k nm (spFOp K f)) (MR : OwM X.prog X.w X.K X.mg X.base (FC K) kr nr (spFOp K fun ws us => f us ws)) (hl : NoSlot K "list" nm') (ht : NoSlot K "tuple" nm') (hr : Room j X.A) (h1 : k ≤ j) (h2 : kr ≤ j) : OpR X (binaryOp op) (rOpF K f) := by
  subst hK
  obtain ⟨fR, fdR, psR, _, hsR, _, _, _⟩ := id MR.ex
  obtain ⟨f0, fd0, ps0, _, hs0, _, _, _⟩ := id M.ex
  intro pins s σ H x y v u Q I rx ry q
  have hNo : ∀ T : String, (T = "list" ∨ T = "tuple") → NoSlot X.K T nm' ∧ PySem.W.subIn X.K (.type T) (.ref (FC X.K)) = some false := fun T h => by
    rcases h with rfl | rfl
    · exact ⟨hl, sub_own .lst⟩
    · exact ⟨ht, sub_own .tup⟩
  obtain ⟨ws, us, l1, l2, hc, kk⟩ := q
  have two : ∀ (a b : Addr), x = .ref a → y = .ref b → Fl X.K H a ws → Fl X.K H b us → wpAny (model X.prog X.w) X.A (binaryOp op v u) (EP X pins σ Q) X.xe s := fun a b ea eb fa fb => by
    obtain ⟨dx, d, g1, g2⟩ := fa.at_
    obtain ⟨dy, e, g3, g4⟩ := fb.at_
    exact op_own2 hn M FK.sf (hr.mono h1) pins s σ H x y v u Q I rx ry ⟨a, b, dx, dy, _, _, ea, eb, g1, g3, a, ws, us, _, rfl, fa, fb.arg (by omega), l1, l2, kk⟩
  rcases hc with ⟨a, ea, fa, g⟩ | ⟨b, eb, fb, g⟩
  · rcases g.seq with ⟨b, eb, fb⟩ | ⟨T, hT, ty⟩
    · exact two a b ea eb fa fb
    · obtain ⟨n1, n2⟩ := hNo T hT
      obtain ⟨dx, d, g1, g2⟩ := fa.at_
      exact op_ownL hi hn M FK.sf (by rw [hnr]; exact hsR) (.inr ⟨_, rfl⟩) (hr.mono h1) pins s σ H x y v u Q I rx ry ⟨a, dx, _, T, ea, g1, ty, n1, n2, a, ws, us, _, rfl, fa, g, l1, l2, kk⟩
  · rcases g.seq with ⟨a, ea, fa⟩ | ⟨T, hT, ty⟩
    · exact two a b ea eb fa fb
    · obtain ⟨n1, n2⟩ := hNo T hT
      obtain ⟨dx, d, g1, g2⟩ := fb.at_
      exact op_ownR hi hnr MR FK.sf (by rw [hn]; exact hs0) (hr.mono h2) pins s σ H x y v u Q I rx ry ⟨b, dx, _, T, eb, g1, ty, n1, b, us, ws, _, rfl, fb, g, l2, l1, kk⟩
theorem no_or {T : String} (h : T = "list" ∨ T = "tuple") : NoSlot K T "or" := by
  rcases h with rfl | rfl <;> exact noSlot (fo := none) (ro := none) (by kernel_rfl) (by kernel_rfl) rfl
theorem no_and {T : String} (h : T = "list" ∨ T = "tuple") : NoSlot K T "and" := by
  rcases h with rfl | rfl <;> exact noSlot (fo := none) (ro := none) (by kernel_rfl) (by kernel_rfl) rfl
theorem no_sub {T : String} (h : T = "list" ∨ T = "tuple") : NoSlot K T "sub" := by
  rcases h with rfl | rfl <;> exact noSlot (fo := none) (ro := none) (by kernel_rfl) (by kernel_rfl) rfl
theorem no_xor {T : String} (h : T = "list" ∨ T = "tuple") : NoSlot K T "xor" := by
  rcases h with rfl | rfl <;> exact noSlot (fo := none) (ro := none) (by kernel_rfl) (by kernel_rfl) rfl
/-- the four, by their number -/
def opW (i : Nat) (ws us : List Str) : List Str := if i = 0 then joinW ws us else if i = 1 then bothW ws us else if i = 2 then lessW ws us else eachW ws us
/-- x == y, x a Fields object -/
def rEqF (K : PySem.W.Frag) : R2 := fun x y H Q => ∃ a ws, x = .ref a ∧ Fl K H a ws ∧ ((∃ b us, y = .ref b ∧ Fl K H b us ∧ Q (.bl (decide (ws = us))) H) ∨ ∃ k, KindOf H y k ∧ Q (.bl false) H)
theorem op_eqF (hK : X.K = K) (FK : FlK K) (M : OwM X.prog X.w X.K X.mg X.base (FC K) k "__eq__" (spFEq K)) (hr : Room k X.A) : OpR X (compareOp .Eq) (rEqF K) := by
  subst hK
  refine OpR.imp (op_ownEq M hr) fun x y H Q q => ?_
  obtain ⟨a, ws, rfl, f, q⟩ := q
  obtain ⟨dx, d, g1, g2⟩ := f.at_
  rcases q with ⟨b, us, rfl, f2, q⟩ | ⟨k, hk, q⟩
  · exact ⟨a, dx, _, _, rfl, g1, FK.ty f2, notFirst_self, a, ws, _, rfl, f, .inl ⟨b, us, rfl, f2, q⟩⟩
  · exact ⟨a, dx, _, _, rfl, g1, hk.ty, notFirst_knd k, a, ws, _, rfl, f, .inr ⟨k, hk, q⟩⟩
def rNeF (K : PySem.W.Frag) : R2 := fun x y H Q => ∃ a ws, x = .ref a ∧ Fl K H a ws ∧ ∃ b us, y = .ref b ∧ Fl K H b us ∧ Q (.bl (!decide (ws = us))) H
theorem op_neF (hK : X.K = K) (FK : FlK K) (M : OwM X.prog X.w X.K X.mg X.base (FC K) k "__eq__" (spFEq K)) (hr : Room (k + 1) X.A) : OpR X (compareOp .NotEq) (rNeF K) := by
  subst hK
  refine OpR.imp (op_ownNe M FK.ne hr) fun x y H Q q => ?_
  obtain ⟨a, ws, rfl, f, b, us, rfl, f2, q⟩ := q
  obtain ⟨dx, d, g1, g2⟩ := f.at_
  exact ⟨a, dx, _, _, rfl, g1, FK.ty f2, notFirst_self, a, ws, _, rfl, f, .inl ⟨b, us, rfl, f2, _, rfl, q⟩⟩
/-- z == x, x a Fields object, z of another kind -/
def rFEq (K : PySem.W.Frag) : R2 := fun y x H Q => ∃ a ws, x = .ref a ∧ Fl K H a ws ∧ (∃ k, KindOf H y k ∧ k ≠ .bl ∧ k ≠ .dic) ∧ Q (.bl false) H
theorem op_Feq (hK : X.K = K) (FK : FlK K) (M : OwM X.prog X.w X.K X.mg X.base (FC K) k "__eq__" (spFEq K)) (hr : Room k X.A) : OpR X (compareOp .Eq) (rFEq K) := by
  subst hK
  refine OpR.imp (op_eqOwn M FK.nk hr) fun y x H Q q => ?_
  obtain ⟨a, ws, rfl, f, ⟨k, hk, n1, n2⟩, q⟩ := q
  obtain ⟨dx, d, g1, g2⟩ := f.at_
  refine ⟨a, dx, _, rfl, g1, ?_, a, ws, _, rfl, f, .inr ⟨k, hk, q⟩⟩
  cases hk with
  | non => exact .inl rfl
  | bl b => exact absurd rfl n1
  | int i => exact .inr (.inl ⟨i, rfl⟩)
  | str z => exact .inr (.inr (.inl ⟨z, rfl⟩))
  | lst h => exact .inr (.inr (.inr ⟨_, _, rfl, .inl h⟩))
  | tup h => exact .inr (.inr (.inr ⟨_, _, rfl, .inr h⟩))
  | dic h => exact absurd rfl n2
/-- not x, by any truth -/
theorem pe_notR {a : Expr} {ta : TE} {pos : Pos} {r : V → Hp → (Bool → Hp → Prop) → Prop} (ht : TruR X r) (ha : PE X a ta) : PE X (.UnaryOp .Not a pos) (fun σ H Q => ta σ H fun x H1 => r x H1 fun k H2 => Q (.bl (!k)) H2) := by
  refine ⟨fun pins s σ H Q I h => ?_⟩
  refine UnaryOp_ (thn (ha.run pins s σ H _ I h) fun v s1 ⟨x, H1, I1, r1, q1⟩ => ?_)
  exact not_of (thn (ht pins s1 σ H1 x v _ I1 r1 q1) fun c s2 ⟨H2, I2, q2⟩ => ⟨.bl (!c), H2, I2, rfl, q2⟩)
end
/-! ### membership among texts -/
theorem inV_str (x : Str) : ∀ xs : List Str, inV (.str x) (xs.map V.str) = decide (x ∈ xs)
  | [] => rfl
  | y :: r => by
    have ih := inV_str x r
    unfold inV at ih ⊢
    rw [List.map_cons, List.any_cons, ih]
    have e0 : eqV (.str y) (.str x) = decide (y = x) := by
      show (y == x) = _
      by_cases e : y = x
      · subst e
        rw [beq_self_eq_true, decide_eq_true rfl]
      · rw [decide_eq_false e, beq_eq_false_iff_ne.mpr e]
    rw [e0]
    by_cases e : y = x
    · subst e
      rw [decide_eq_true (List.mem_cons_self ..), decide_eq_true rfl]
      rfl
    · rw [decide_eq_false e, Bool.false_or]
      by_cases h : x ∈ r
      · rw [decide_eq_true h, decide_eq_true (List.mem_cons_of_mem _ h)]
      · rw [decide_eq_false h, decide_eq_false fun q => (List.mem_cons.mp q).elim (fun z => e z.symm) h]
theorem flat_strs (xs : List Str) : (xs.map V.str).all flatV = true := by
  rw [List.all_map, List.all_eq_true]
  exact fun _ _ => rfl
end Sm
/-! == inside built-ins where own == may run: both answers -/
namespace Sm
open PySem PySem.Spec PyProof.Rows L2
section
variable {X : Cx} {n m : Nat}
/-- the callee runs somewhere below the body -/
theorem run_fnS {A : Around} {CX : CXT} {k : Nat} {sp : Sp} {f : Addr} {fd : FuncData} {ps : List Str} {E : XK} {pins : List (Addr × Obj)} {σ : L2.St} {H : Hp} {s : Shared} {Q : VK} {us : List Value} {vs : List V} (sb : Sub X n A) (hk : k ≤ n) (F : FnOk X.prog X.w X.K X.mg X.base CX k f fd ps sp) (hb : Binds X.K fd ps []) (hx : Passes CX X E)
    (I : Inv X pins σ H s) (r : Vals vs us) (h : sp vs H Q E) : wpAny (model X.prog X.w) A (call (.ref f) us) (EP X pins σ Q) X.xe s := by
  have hl : us.length = ps.length := by rw [← r.length]; exact F.len _ _ _ _ h
  have e0 : Env0 X.prog X.w X.K X.mg X.base A X.stack s H := by
    have e := I.env0
    exact ⟨by rw [sb.fr]; exact e.frames, e.mod, e.bs, e.bsz, e.funs, e.frf, e.hok, e.bare⟩
  refine wpAny_call (codeAny_mono (F.run A X.stack s H ⟨us, []⟩ us vs Q E (sb.room.mono hk) e0 (by
    have := hb s us I.kIn (by simpa using hl)
    simpa using this) r h) fun r s' hq => ?_)
  cases r with
  | error e => exact hx pins σ H s e s' I hq
  | ok fl =>
    cases fl with
    | ret u => exact I.after hq
    | next => exact False.elim hq
    | brk => exact False.elim hq
    | cont => exact False.elim hq
/-- two things, whether they are equal, by the heap -/
abbrev Eq3 := V → V → Bool → Hp → Prop
def Mon3 (D : Eq3) : Prop := ∀ x y b H H', Same H H' → D x y b H → D x y b H'
def EqX (X : Cx) (n : Nat) (D : Eq3) : Prop :=
  ∀ (A : Around) (pins : List (Addr × Obj)) (s : Shared) (σ : L2.St) (H : Hp) (x y : V) (u v : Value) (b : Bool), Sub X n A → Inv X pins σ H s → RelV x u → RelV y v → D x y b H →
    wpAny (model X.prog X.w) A (eqBool u v) (fun r s' => r = b ∧ ∃ H', Inv X pins σ H' s' ∧ Same H H') X.xe s
theorem EqX.or {D D' : Eq3} (h : EqX X n D) (h' : EqX X n D') : EqX X n (fun x y b H => D x y b H ∨ D' x y b H) := fun A pins s σ H x y u v b sb I rx ry d => by
  rcases d with d | d
  · exact h A pins s σ H x y u v b sb I rx ry d
  · exact h' A pins s σ H x y u v b sb I rx ry d
theorem EqX.imp {D D' : Eq3} (h : EqX X n D) (i : ∀ x y b H, D' x y b H → D x y b H) : EqX X n D' := fun A pins s σ H x y u v b sb I rx ry d => h A pins s σ H x y u v b sb I rx ry (i _ _ _ _ d)
theorem EqX.mono {D : Eq3} (h : EqX X n D) (hn : n ≤ m) : EqX X m D := fun A pins s σ H x y u v b sb => h A pins s σ H x y u v b (sb.mono hn)
theorem eqX_flat : EqX X 0 (fun x y b _ => flatV x = true ∧ flatV y = true ∧ eqV x y = b) := by
  intro A pins s σ H x y u v b sb I rx ry d
  obtain ⟨fx, fy, e⟩ := d
  have q := eqAt_V (A := A) (s := s) rx ry fx fy
  rw [e] at q
  exact q X.prog X.w X.xe _ ⟨rfl, H, I, fun _ _ h => h⟩
/-- an instance of the class at C on the left, by its own == -/
theorem eqX_own {C : Addr} {k : Nat} {sp : Sp} (M : OwM X.prog X.w X.K X.mg X.base C k "__eq__" sp) :
    EqX X k (fun x y b H => ∃ a dx fs t, x = .ref a ∧ y ≠ .ref a ∧ H a = some (.ins C dx fs) ∧ TyX X.K H y t ∧ PySem.W.notFirst X.K C t = true ∧ sp [.ref a, y] H (fun v H' => v = .bl b ∧ Same H H') E0) := by
  intro A pins s σ H x y u v b sb I rx ry d
  obtain ⟨a, dx, fs, t, rfl, ny, ha, hy, hn, q⟩ := d
  cases rx
  obtain ⟨f, fd, ps, F, hs, hf, _, hB⟩ := M.ex
  obtain ⟨mA, J, _⟩ := ins_get I.hok ha
  obtain ⟨od, J, _⟩ := J.look
  obtain ⟨m, hF⟩ := I.fr
  have rc : wpAny (model X.prog X.w) A (richCompare .Eq (.ref a) v) (fun r s' => ∃ c, r = .bool c ∧ c = b ∧ ∃ H', Inv X pins σ H' s' ∧ Same H H') X.xe s := by
    refine PySem.W.cmp_K (op := .Eq) (tb := t) sb.room.units0 hF I.ok.mod.kin J (tyX_looks I ry hy) hn hs hf ?_
    refine thn (run_fnS (us := [.ref a, v]) (vs := [.ref a, y]) sb (Nat.le_refl _) F hB pass0 I (.cons rfl (.cons ry .nil)) q) fun v' s' h => ?_
    obtain ⟨z, H', I', rz, e, sm⟩ := h
    subst e
    cases rz
    exact ⟨b, rfl, rfl, H', I', sm⟩
  unfold eqBool
  refine wpAny_holding ?_
  refine wpAny_ite_split (fun hab => ?_) (fun _ => ?_)
  · have e := eq_of_beq hab
    subst e
    cases y with
    | ref c => exact absurd (congrArg V.ref (Value.ref.inj (show Value.ref a = Value.ref c from ry)).symm) ny
    | non => cases ry
    | bl c => cases ry
    | int i => obtain ⟨_, e⟩ := ry; cases e
    | str i => obtain ⟨_, e⟩ := ry; cases e
    | byt i => obtain ⟨_, e⟩ := ry; cases e
    | flt i => obtain ⟨_, e⟩ := ry; cases e
    | ty i => cases ry
  · refine wpAny_bind (wpAny_mono rc (fun r s' h => ?_) fun _ _ e => e)
    obtain ⟨c, rfl, q⟩ := h
    exact wpAny_truthy_bool q
/-- the very same object -/
theorem eqX_self : EqX X 0 (fun x y b _ => ∃ a, x = .ref a ∧ y = .ref a ∧ b = true) := by
  intro A pins s σ H x y u v b sb I rx ry d
  obtain ⟨a, rfl, rfl, rfl⟩ := d
  cases rx
  cases ry
  exact SeqAt.EqAt.same (A := A) (s := s) (.ref a) X.prog X.w X.xe _ ⟨rfl, H, I, fun _ _ h => h⟩
/-- a text on the left, an instance of the class at C on the right -/
theorem eqX_strOwn {C : Addr} {k : Nat} {sp : Sp} (M : OwM X.prog X.w X.K X.mg X.base C k "__eq__" sp) (N : NotKinds X.K C) :
    EqX X k (fun x y b H => ∃ a dx fs z, y = .ref a ∧ x = .str z ∧ H a = some (.ins C dx fs) ∧ sp [.ref a, x] H (fun v H' => v = .bl b ∧ Same H H') E0) := by
  intro A pins s σ H x y u v b sb I rx ry d
  obtain ⟨a, dx, fs, z, rfl, rfl, ha, q⟩ := d
  cases ry
  obtain ⟨f, fd, ps, F0, hs, hf, _, hB⟩ := M.ex
  have hob := (show ObjOk X.prog X.w H s.heap a (.ins C dx fs) from I.hok a _ ha).2.2.2.1
  obtain ⟨mA, J, _⟩ := ins_get I.hok ha
  obtain ⟨od, J, _⟩ := J.look
  obtain ⟨t, rfl⟩ := rx
  have run : wpAny (model X.prog X.w) A (call (.ref f) [.ref a, .str z t]) (PySem.W.CmpBack fun r s' => ∃ c, r = .bool c ∧ c = b ∧ ∃ H', Inv X pins σ H' s' ∧ Same H H') X.xe s := by
    refine thn (run_fnS (us := [.ref a, .str z t]) (vs := [.ref a, .str z]) sb (Nat.le_refl _) F0 hB pass0 I (.cons rfl (.cons ⟨t, rfl⟩ .nil)) q) fun v' s' h => ?_
    obtain ⟨y, H', I', rz, e, sm⟩ := h
    subst e
    cases rz
    exact ⟨b, rfl, rfl, H', I', sm⟩
  have rc : wpAny (model X.prog X.w) A (richCompare .Eq (.str z t) (.ref a)) (fun r s' => ∃ c, r = .bool c ∧ c = b ∧ ∃ H', Inv X pins σ H' s' ∧ Same H H') X.xe s := rc_right sb.room.units0 rfl I.kIn J N.str F.slot_str_eq F.entry_str_eq (F.args_str_eq_2 _ _) (fun _ _ _ h => str_decl hob h) hs hf run
  unfold eqBool
  refine wpAny_holding ?_
  refine wpAny_ite_split (fun hab => absurd (eq_of_beq hab) nofun) (fun _ => ?_)
  refine wpAny_bind (wpAny_mono rc (fun r s' h => ?_) fun _ _ e => e)
  obtain ⟨c, rfl, q⟩ := h
  exact wpAny_truthy_bool q
theorem eqX_strSeq : EqX X 0 (fun x y b H => ∃ z a xs, x = .str z ∧ y = .ref a ∧ (SqL X.K H a xs ∨ SqT X.K H a xs) ∧ b = false) := by
  intro A pins s σ H x y u v b sb I rx ry d
  obtain ⟨z, a, xs, rfl, rfl, h, rfl⟩ := d
  cases ry
  obtain ⟨t, rfl⟩ := rx
  rcases h with h | h
  · obtain ⟨its, rv, ⟨o, n0, ho, hcl, hd, hda⟩, hsz⟩ := I.list h
    exact SeqAt.EqAt.str_list z t ⟨o, ho, hcl, n0, hda⟩ sb.room.units0 X.prog X.w X.xe _ ⟨rfl, H, I, fun _ _ h => h⟩
  · obtain ⟨its, rv, eT, hsz⟩ := I.tuple h
    exact SeqAt.EqAt.str_tuple z t eT sb.room.units0 X.prog X.w X.xe _ ⟨rfl, H, I, fun _ _ h => h⟩
theorem dict_decl {prog : Program} {w : World} {A A' : Around} {s : Shared} {l : Addr} {ol : Obj} {z : Str} {u : Tok} {R : Result → Shared → Prop} (hl : s.heap.get? l = some ol) (hlc : ol.cls = .type "dict")
    (h : R (.ok (.ret .notImplemented)) s) : wpAny (model prog w) A' (Builtin.«dict.__eq__» ⟨[.ref l, .str z u], []⟩) (GQ.FinOf prog w A R) (fun e s' => R (.error e) s') s := by
  show wpAny _ _ (Builtin.Dict.dictSlotArgs "__eq__" ⟨[.ref l, .str z u], []⟩ >>= _) _ _ s
  have ty : s.TypeIs (.ref l) "dict" := ⟨_, hl, hlc⟩
  refine wpAny_bind ?_
  unfold Builtin.Dict.dictSlotArgs
  refine wpAny_bind (wpAny_notOrdered_dict ty ?_)
  show wpAny _ _ (pure (Value.ref l, Value.str z u)) _ _ s
  refine wpAny_pure ?_
  obtain ⟨hp, g, d, tk, os⟩ := s
  have f1 : isSubtype (.type "str") (.type "dict") = pure false := by rw [isSubtype_type]; kernel_rfl
  wp_walk
  exact h
theorem strDecl {prog : Program} {w : World} {A A' : Around} {s : Shared} {l : Addr} {ol : Obj} {z : Str} {u : Tok} {R : Result → Shared → Prop} (hl : s.heap.get? l = some ol) (hd : ∃ es ep, ol.data = .dict es ep)
    (h : R (.ok (.ret .notImplemented)) s) : wpAny (model prog w) A' (Builtin.«str.__eq__» ⟨[.str z u, .ref l], []⟩) (GQ.FinOf prog w A R) (fun e s' => R (.error e) s') s := by
  obtain ⟨hp, g, d, tk, os⟩ := s
  obtain ⟨cls, dd, data, sl⟩ := ol
  obtain ⟨es, ep, hd⟩ := hd
  dsimp only at hd
  subst hd
  wp_walk using AutoSeq1.wpAny_loadPart' hl, wpAny_load hl
  exact h
theorem eqX_strDict : EqX X 0 (fun x y b H => ∃ z a kvs, x = .str z ∧ y = .ref a ∧ H a = some (.dK kvs) ∧ b = false) := by
  intro A pins s σ H x y u v b sb I rx ry d
  obtain ⟨z, a, kvs, rfl, rfl, ha, rfl⟩ := d
  cases ry
  obtain ⟨t, rfl⟩ := rx
  obtain ⟨_, _, vs, _, o, es, ep, h1, h2, h3⟩ := (show ObjOk X.prog X.w H s.heap a (.dK kvs) from I.hok a _ ha)
  have rc : wpAny (model X.prog X.w) A (richCompare .Eq (.str z t) (.ref a)) (fun r s' => r = .bool false ∧ s' = s) X.xe s :=
    SeqAt.rc_eq_decline_or (k := false) rfl ⟨o, h1, h2.1⟩ (by decide) (by rw [isSubtype_type]; kernel_rfl) PySem.F.slot_str_eq PySem.F.slot_dict_eq
      (fun Q' hq => GQ.call_here PySem.F.slot_str_eq rfl PySem.F.entry_str_eq (PySem.F.args_str_eq_2 _ _) (strDecl h1 ⟨es, ep, h3.1⟩ hq))
      (fun Q' hq => GQ.call_here PySem.F.slot_dict_eq ⟨o, h1, h2.1⟩ PySem.F.entry_dict_eq (PySem.F.args_dict_eq_2 _ _) (dict_decl h1 h2.1 hq))
      (fun Q' hq => wpAny_of_eq (rfl : isSame (.str z t) (.ref a) = pure false) hq) (.inr sb.room.units0) ⟨rfl, rfl⟩
  unfold eqBool
  refine wpAny_holding ?_
  refine wpAny_ite_split (fun hab => absurd (eq_of_beq hab) nofun) (fun _ => ?_)
  refine wpAny_bind (wpAny_mono rc (fun r s' h => ?_) fun _ _ e => e)
  obtain ⟨rfl, rfl⟩ := h
  exact wpAny_truthy_bool ⟨rfl, H, I, fun _ _ h => h⟩
/-! ### in a list, where == may run own code -/
def ContI (prog : Program) (w : World) (A : Around) (E : Value → Shared → Prop) (l : Addr) (x : Value) (bs : List Bool) (J : Nat → Shared → Prop) : Prop :=
  ∀ i s, J i s → ∃ (items : Array Value) (n : Nat) (sl : Array (Option Value)), s.heap.get? l = some { cls := .type "list", data := .seq items n, slots := sl } ∧ items.size = bs.length ∧
    ∀ (h1 : i < items.size) (h2 : i < bs.length), wpAny (model prog w) A.in1 (eqBool items[i] x) (fun r s' => r = bs[i] ∧ J (i + 1) s') E s
theorem contains_loopX {prog : Program} {w : World} {A : Around} {R : Result → Shared → Prop} (l : Addr) (x : Value) (bs : List Bool) (J : Nat → Shared → Prop) (each : ContI prog w A (fun e s' => R (.error e) s') l x bs J)
    (fin : ∀ i s, i ≤ bs.length → J i s → R (.ok (.ret (.bool (bs.any id)))) s) (left : Nat) :
    ∀ i : Nat, bs.length - i = left → i ≤ bs.length → (bs.take i).any id = false → ∀ s, J i s →
      wpAny (model prog w) A.in1 (Builtin.«list.__contains__.loop» ⟨[.ref l, x, rawInt i], []⟩) (GQ.FinOf prog w A R) (fun e s' => R (.error e) s') s := by
  induction left with
  | zero =>
    intro i none_left le not_yet s now
    obtain ⟨us, n, sl, at_, long, _⟩ := each _ _ now
    have told := fin i s le now
    have whole : bs.take i = bs := List.take_of_length_le (by omega)
    rw [whole] at not_yet
    rw [not_yet] at told
    have past : us[((i : Nat) : Int).toNat]? = none := Array.getElem?_eq_none (by rw [Int.toNat_natCast]; omega)
    rcases s with ⟨hh, gg, dr, to, so⟩
    wp_walk using AutoSeq1.wpAny_loadPart' at_
    rw [past]
    wp_walk
    exact told
  | succ left ih =>
    intro i some_left le not_yet s now
    obtain ⟨us, n, sl, at_, long, turn⟩ := each _ _ now
    have here : i < bs.length := by omega
    have stands : i < us.size := long ▸ here
    have asked := turn stands here
    have get : us[((i : Nat) : Int).toNat]? = some us[i] := (congrArg (fun k => us[k]?) (Int.toNat_natCast i)).trans (Array.getElem?_eq_getElem stands)
    have next : ((i : Int) + 1) = ((i + 1 : Nat) : Int) := (Int.natCast_succ i).symm
    have upTo : bs.take (i + 1) = bs.take i ++ [bs[i]] := by rw [List.take_add_one, List.getElem?_eq_getElem here]; rfl
    rcases s with ⟨hh, gg, dr, to, so⟩
    wp_walk using AutoSeq1.wpAny_loadPart' at_
    rw [get]
    refine wpAny_bind (wpAny_mono asked (fun r s2 got => ?_) fun _ _ z => z)
    obtain ⟨rfl, then_⟩ := got
    cases alike : bs[i] with
    | false =>
      have further := ih (i + 1) (by omega) here (by rw [upTo, List.any_append, not_yet, alike]; rfl) s2 then_
      rcases s2 with ⟨hh2, gg2, dr2, to2, so2⟩
      wp_walk
      rw [next]
      exact ⟨PySem.plainId_quiet MeetsSeq.plain_contains_loop _, codeAny_builtin MeetsSeq.entry_contains_loop (by
        rw [Around.under_plainId MeetsSeq.plain_contains_loop _]
        exact further)⟩
    | true =>
      have told := fin (i + 1) s2 here then_
      rw [List.any_eq_true.mpr ⟨bs[i], List.getElem_mem here, alike⟩] at told
      rcases s2 with ⟨hh2, gg2, dr2, to2, so2⟩
      wp_walk
      exact told
end
end Sm
namespace Sm
open PySem PySem.Spec PyProof.Rows L2
section
variable {X : Cx} {n : Nat}
/-- the k-th of a sequence, on both sides -/
theorem item_at {xs : List V} {its : List Value} (r : Vals xs its) {k : Nat} (h : k < its.toArray.size) : ∃ h1 : k < xs.length, RelV xs[k] its.toArray[k] := by
  have inXs : k < xs.length := r.length ▸ (by simpa using h)
  obtain ⟨u, here, rel⟩ := r.get (List.getElem?_eq_getElem inXs)
  obtain ⟨_, rfl⟩ := List.getElem?_eq_some_iff.mp here
  exact ⟨inXs, by simpa using rel⟩
/-- x in l, l a list; where == may run own code -/
def rInX (K : PySem.W.Frag) (D : Eq3) : R2 := fun x y H Q => ∃ (p : Addr) (xs : List V) (bs : List Bool), y = .ref p ∧ SqL K H p xs ∧ xs.length = bs.length ∧ (∀ (i : Nat) z b, xs[i]? = some z → bs[i]? = some b → D z x b H) ∧ ∀ H', Same H H' → Q (.bl (bs.any id)) H'
theorem op_inX {D : Eq3} (hm : Mon3 D) (h : EqX X n D) (hr : Room (n + 1) X.A) : OpR X (compareOp .In) (rInX X.K D) := by
  intro pins s σ H x y v u Q I rx ry q0
  obtain ⟨p, xs, bs, rfl, hp, hl, hd, q⟩ := q0
  cases ry
  have sb : Sub X (n + 1) X.A := ⟨hr, rfl⟩
  have at0 := I.list hp
  obtain ⟨its, rv, pl, hsz⟩ := at0
  obtain ⟨⟨cls, dd, data, sl⟩, n0, ho, hcl, hdn, hda⟩ := id pl
  simp only at hcl hda hdn
  subst hcl hda hdn
  have hI : ContI X.prog X.w X.A X.xe p v bs (fun _ s' => ∃ H', Inv X pins σ H' s' ∧ Same H H') := by
    rintro i s1 ⟨H1, I1, e1⟩
    obtain ⟨its1, rv1, pl1, hsz1⟩ := I1.list (same_seq e1 hp)
    obtain ⟨⟨cls, dd, data, sl⟩, n1, ho1, hcl1, hdn1, hda1⟩ := id pl1
    simp only at hcl1 hda1 hdn1
    subst hcl1 hda1 hdn1
    refine ⟨its1.toArray, _, _, ho1, by rw [List.size_toArray, ← rv1.length, hl], fun h1 h2 => ?_⟩
    obtain ⟨k1, ru⟩ := item_at rv1 h1
    refine wpAny_mono (h X.A.in1 pins s1 σ H1 _ _ _ v _ sb.in1 I1 ru rx (hm _ _ _ _ _ e1 (hd i _ _ (List.getElem?_eq_getElem k1) (List.getElem?_eq_getElem h2)))) (fun r s2 z => ?_) fun _ _ x => x
    obtain ⟨hr', H2, I2, e2⟩ := z
    exact ⟨hr', H2, I2, fun a o ha => e2 a o (e1 a o ha)⟩
  show wpAny (model X.prog X.w) X.A (do return .bool (← contains (.ref p) v)) (EP X pins σ Q) X.xe s
  refine wpAny_bind (PySem.wpAny_contains_slot ⟨_, ho, rfl⟩ PySem.F.slot_list_contains (GQ.call_here PySem.F.slot_list_contains ⟨_, ho, rfl⟩ PySem.F.entry_list_contains (PySem.F.args_list_contains_2 _ _) ?_))
  have hI0 : (fun (_ : Nat) s' => ∃ H', Inv X pins σ H' s' ∧ Same H H') 0 s := ⟨H, I, fun _ _ h => h⟩
  have fin : ∀ (i : Nat) (s' : Shared), i ≤ bs.length → (∃ H', Inv X pins σ H' s' ∧ Same H H') → wpAny (model X.prog X.w) X.A (truthy (.bool (bs.any id))) (fun c s2 => wpAny (model X.prog X.w) X.A (pure (Value.bool c)) (EP X pins σ Q) X.xe s2) X.xe s' := fun i s' _ ⟨H', I', e⟩ => wpAny_truthy_bool (wpAny_pure ⟨.bl _, H', I', rfl, q H' e⟩)
  have main := contains_loopX (A := X.A) (R := wants (fun v s' => wpAny (model X.prog X.w) X.A (truthy v) (fun c s2 => wpAny (model X.prog X.w) X.A (pure (Value.bool c)) (EP X pins σ Q) X.xe s2) X.xe s') X.xe) p v bs _ hI fin _ 0 rfl (Nat.zero_le _) rfl s hI0
  obtain ⟨hp0, g, d, tk, os⟩ := s
  wp_walk using AutoSeq1.wpAny_loadPart' ho
  exact ⟨PySem.plainId_quiet MeetsSeq.plain_contains_loop _, codeAny_builtin MeetsSeq.entry_contains_loop (by
    rw [Around.under_plainId MeetsSeq.plain_contains_loop _]
    exact main)⟩
/-! ### two tuples, item by item, both answers -/
theorem zip_at {us vs : Array Value} {k : Nat} {p : Value × Value} {rest : List (Value × Value)} (e : p :: rest = (us.toList.zip vs.toList).drop k) : ∃ (h1 : k < us.size) (h2 : k < vs.size), p = (us[k], vs[k]) ∧ rest = (us.toList.zip vs.toList).drop (k + 1) := by
  have long : k < (us.toList.zip vs.toList).length := Nat.lt_of_not_le fun q => by
    rw [List.drop_eq_nil_of_le q] at e
    cases e
  have both : k < us.size ∧ k < vs.size := by
    rw [List.length_zip, Array.length_toList, Array.length_toList] at long
    omega
  rw [List.drop_eq_getElem_cons long, List.getElem_zip] at e
  injection e with e1 e2
  exact ⟨both.1, both.2, e1.trans (by simp), e2⟩
theorem zip_over {us vs : Array Value} {k : Nat} (e : [] = (us.toList.zip vs.toList).drop k) : min us.size vs.size ≤ k := by
  have q : 0 = (us.toList.zip vs.toList).length - k := (congrArg List.length e).trans List.length_drop
  have z : (us.toList.zip vs.toList).length = min us.size vs.size := by simp
  omega
theorem tuple_eqX {prog : Program} {w : World} {A : Around} {R : Result → Shared → Prop} (l b : Addr) (us vs : Array Value) (n n2 : Nat) (dd dd2 : Option Addr) (sl sl2 : Array (Option Value)) (bs : Nat → Bool) (I : Nat → Shared → Prop)
    (turn : ∀ k (h1 : k < us.size) (h2 : k < vs.size) s, I k s → wpAny (model prog w) A.in1 (eqBool us[k] vs[k]) (fun r s' => r = bs k ∧ I (k + 1) s') (fun e s' => R (.error e) s') s)
    (fin : ∀ k c s, k ≤ min us.size vs.size → I k s → (c = true ↔ (∀ j, j < min us.size vs.size → bs j = true) ∧ us.size = vs.size) → R (.ok (.ret (.bool c))) s) {s : Shared} (left : s.heap.get? l = some { cls := .type "tuple", dict := dd, data := .seq us n, slots := sl }) (right : s.heap.get? b = some { cls := .type "tuple", dict := dd2, data := .seq vs n2, slots := sl2 }) (start : I 0 s) :
    wpAny (model prog w) A.in1 (Builtin.«tuple.__eq__» ⟨[.ref l, .ref b], []⟩) (GQ.FinOf prog w A R) (fun e s' => R (.error e) s') s := by
  have isTuple := AutoSeq1.sub_tuple_tuple
  have first := start
  rcases s with ⟨hh, gg, dr, to, so⟩
  wp_walk using AutoSeq1.wpAny_loadPart' left, AutoSeq1.wpAny_loadPart' right, wpAny_forIn_list _ (fun todo st s' => st.1 = none ∧ ∃ k, todo = (us.toList.zip vs.toList).drop k ∧ k ≤ min us.size vs.size ∧ (∀ j, j < k → bs j = true) ∧ I k s') _
  case h => exact ⟨rfl, 0, rfl, Nat.zero_le _, fun j q => absurd q (Nat.not_lt_zero _), first⟩
  case fin =>
    rintro ⟨found, un⟩ s' ⟨open_, k, over, le, alike, now⟩
    dsimp only at open_
    subst open_
    have all := zip_over over
    have done := fin k (us.size == vs.size) s' le now ⟨fun q => ⟨fun j q2 => alike j (by omega), eq_of_beq q⟩, fun q => beq_iff_eq.mpr q.2⟩
    wp_walk
    simpa [Builtin.Tuple.tupleCompareSizes] using done
  case turn =>
    rintro p todo st s' ⟨open_, k, here, le, alike, now⟩
    obtain ⟨h1, h2, rfl, next⟩ := zip_at here
    refine wpAny_bind (wpAny_mono (turn k h1 h2 s' now) (fun r s2 got => ?_) fun _ _ z => z)
    obtain ⟨rfl, then_⟩ := got
    cases same : bs k with
    | false =>
      have done := fin (k + 1) false s2 (by omega) then_ ⟨nofun, fun q => by
        have z := q.1 k (by omega)
        rw [same] at z
        cases z⟩
      wp_walk
      exact done
    | true =>
      wp_walk
      refine ⟨rfl, k + 1, next, by omega, fun j q => ?_, then_⟩
      rcases Nat.lt_succ_iff_lt_or_eq.mp q with q | q
      · exact alike j q
      · rw [q]
        exact same
/-- x == y, two tuples; where == may run own code -/
def rTupX (K : PySem.W.Frag) (D : Eq3) : R2 := fun x y H Q => ∃ (a b : Addr) (xs ys : List V) (bs : Nat → Bool), x = .ref a ∧ y = .ref b ∧ SqT K H a xs ∧ SqT K H b ys ∧ (∀ (i : Nat) z z', xs[i]? = some z → ys[i]? = some z' → D z z' (bs i) H) ∧
  ∀ c H', Same H H' → (c = true ↔ (∀ j, j < min xs.length ys.length → bs j = true) ∧ xs.length = ys.length) → Q (.bl c) H'
theorem op_tupX {D : Eq3} (hm : Mon3 D) (h : EqX X n D) (hr : Room (n + 1) X.A) : OpR X (compareOp .Eq) (rTupX X.K D) := by
  intro pins s σ H x y u v Q I rx ry q0
  obtain ⟨a, b, xs, ys, bs, rfl, rfl, ha, hb, hd, q⟩ := q0
  cases rx
  cases ry
  have sb : Sub X (n + 1) X.A := ⟨hr, rfl⟩
  obtain ⟨its, r, ⟨⟨cls, dd, data, sl⟩, ho, hc, n1, hda⟩, hz⟩ := I.tuple ha
  obtain ⟨its2, r2, ⟨⟨cls2, dd2, data2, sl2⟩, ho2, hc2, n2, hda2⟩, hz2⟩ := I.tuple hb
  simp only at hc hda hc2 hda2
  subst hc hda hc2 hda2
  have l1 : its.toArray.size = xs.length := by rw [List.size_toArray, r.length]
  have l2 : its2.toArray.size = ys.length := by rw [List.size_toArray, r2.length]
  refine wpAny_richCompare_same_room (op := .Eq) ⟨_, ho, rfl⟩ ⟨_, ho2, rfl⟩ PySem.F.slot_tuple_eq (GQ.call_here PySem.F.slot_tuple_eq ⟨_, ho, rfl⟩ PySem.F.entry_tuple_eq (PySem.F.args_tuple_eq_2 _ _) ?_) hr.units0
  refine tuple_eqX (R := wants (fun v s' => v ≠ .notImplemented ∧ EP X pins σ Q v s') X.xe) a b its.toArray its2.toArray n1 n2 dd dd2 sl sl2 bs (fun _ s' => ∃ H', Inv X pins σ H' s' ∧ Same H H') (fun i h1 h2 s' l => ?_) (fun i c s' hi l hc => ?_) ho ho2 ⟨H, I, fun _ _ h => h⟩
  · obtain ⟨H1, I1, e1⟩ := l
    obtain ⟨k1, ru⟩ := item_at r h1
    obtain ⟨k2, rv⟩ := item_at r2 h2
    refine wpAny_mono (h X.A.in1 pins s' σ H1 _ _ _ _ _ sb.in1 I1 ru rv (hm _ _ _ _ _ e1 (hd i _ _ (List.getElem?_eq_getElem k1) (List.getElem?_eq_getElem k2)))) (fun r s2 z => ?_) fun _ _ x => x
    obtain ⟨hr', H2, I2, e2⟩ := z
    exact ⟨hr', H2, I2, fun a o ha => e2 a o (e1 a o ha)⟩
  · obtain ⟨H1, I1, e1⟩ := l
    rw [l1, l2] at hc
    exact ⟨nofun, .bl c, H1, I1, rfl, q c H1 e1 hc⟩
end
end Sm
/-! what a head must say of the class of fields, as one Bool -/
namespace Sm
open PySem PySem.Spec PyProof.Rows L2
def knds : List Knd := [.non, .bl, .int, .str, .lst, .tup, .dic]
theorem mem_knds (k : Knd) : k ∈ knds := by cases k <;> decide
/-- what is asked of any own class that is told apart and compared -/
def ownB (K : PySem.W.Frag) (C : Addr) : Bool :=
  He.eqO (PySem.W.findIn K (.ref C) "__class__") (some (some (.builtin "object.__class__"))) && (He.eqO (PySem.W.specialIn K (.builtin "object.__class__") "__get__") (some (some (.builtin "getset_descriptor.__get__"))) &&
  (decide (PySem.W.takesIn K (.builtin "object.__class__") = some true) && (decide (PySem.W.mroIn K C (.type "object") = some true) && (PySem.W.selfFirst K C &&
  ((knds.all fun k => decide (PySem.W.subIn K (.ref C) (.type k.name) = some false)) && (He.eqO (PySem.W.findIn K (.ref C) "__ne__") (some (some (.builtin "object.__ne__"))) && (decide (PySem.W.subIn K (.ref C) (.type "object") = some true) &&
  (decide (PySem.W.kitOne K (.ref C) (.ref C) = some true) && ((knds.all fun k => decide (PySem.W.kitOne K (.type k.name) (.ref C) = some false)) && (knds.all fun k => decide (PySem.W.kitOne K (.ref C) (.type k.name) = some false)))))))))))
theorem flK_of {K : PySem.W.Frag} (h : ownB K (FC K) = true) (c : Cls K (FC K)) (n : NoAttr K (FC K) "held") : FlK K := by
  obtain ⟨h1, h⟩ := He.ba h
  obtain ⟨h2, h⟩ := He.ba h
  obtain ⟨h3, h⟩ := He.ba h
  obtain ⟨h4, h⟩ := He.ba h
  obtain ⟨h5, h⟩ := He.ba h
  obtain ⟨h6, h⟩ := He.ba h
  obtain ⟨h7, h⟩ := He.ba h
  obtain ⟨h8, h⟩ := He.ba h
  obtain ⟨h9, h⟩ := He.ba h
  obtain ⟨h10, h11⟩ := He.ba h
  have s : ∀ k : Knd, PySem.W.subIn K (.ref (FC K)) (.type k.name) = some false := fun k => of_decide_eq_true (List.all_eq_true.mp h6 k (mem_knds k))
  exact ⟨c, He.eqO_ok h1, He.eqO_ok h2, of_decide_eq_true h3, of_decide_eq_true h4, n, h5, ⟨s .lst, s .tup, s .int, s .str, s .non⟩, ⟨He.eqO_ok h7, of_decide_eq_true h8⟩, of_decide_eq_true h9,
    fun k => of_decide_eq_true (List.all_eq_true.mp h10 k (mem_knds k)), fun k => of_decide_eq_true (List.all_eq_true.mp h11 k (mem_knds k))⟩
end Sm
/-! objects of Kind and Schema -/
namespace Sm
open PySem PySem.Spec PyProof.Rows L2
abbrev KC (K : PySem.W.Frag) : Addr := He.ga K "Kind"
abbrev SC (K : PySem.W.Frag) : Addr := He.ga K "Schema"
/-- any own class that is told apart and compared -/
structure OwnK (K : PySem.W.Frag) (C : Addr) : Prop where
  cls : Cls K C
  ha : PySem.W.findIn K (.ref C) "__class__" = some (some (.builtin "object.__class__"))
  hn : PySem.W.specialIn K (.builtin "object.__class__") "__get__" = some (some (.builtin "getset_descriptor.__get__"))
  htk : PySem.W.takesIn K (.builtin "object.__class__") = some true
  hm : PySem.W.mroIn K C (.type "object") = some true
  sf : PySem.W.selfFirst K C = true
  nk : NotKinds K C
  ne : NeOk K C
  iS : PySem.W.kitOne K (.ref C) (.ref C) = some true
  iB : ∀ k : Knd, PySem.W.kitOne K (.type k.name) (.ref C) = some false
  iT : ∀ k : Knd, PySem.W.kitOne K (.ref C) (.type k.name) = some false
theorem ownK_of {K : PySem.W.Frag} {C : Addr} (h : ownB K C = true) (c : Cls K C) : OwnK K C := by
  obtain ⟨h1, h⟩ := He.ba h
  obtain ⟨h2, h⟩ := He.ba h
  obtain ⟨h3, h⟩ := He.ba h
  obtain ⟨h4, h⟩ := He.ba h
  obtain ⟨h5, h⟩ := He.ba h
  obtain ⟨h6, h⟩ := He.ba h
  obtain ⟨h7, h⟩ := He.ba h
  obtain ⟨h8, h⟩ := He.ba h
  obtain ⟨h9, h⟩ := He.ba h
  obtain ⟨h10, h11⟩ := He.ba h
  have s : ∀ k : Knd, PySem.W.subIn K (.ref C) (.type k.name) = some false := fun k => of_decide_eq_true (List.all_eq_true.mp h6 k (mem_knds k))
  exact ⟨c, He.eqO_ok h1, He.eqO_ok h2, of_decide_eq_true h3, of_decide_eq_true h4, h5, ⟨s .lst, s .tup, s .int, s .str, s .non⟩, ⟨He.eqO_ok h7, of_decide_eq_true h8⟩, of_decide_eq_true h9,
    fun k => of_decide_eq_true (List.all_eq_true.mp h10 k (mem_knds k)), fun k => of_decide_eq_true (List.all_eq_true.mp h11 k (mem_knds k))⟩
theorem OwnK.tyx {K : PySem.W.Frag} {C : Addr} (F : OwnK K C) {H : Hp} {a dx : Addr} {fs : List (Str × V)} (h : H a = some (.ins C dx fs)) : TyX K H (.ref a) (.ref C) := .base (.ins h F.cls F.ha F.hn F.htk F.hm)
/-- a kind: its name, its fields, single -/
abbrev Row := Str × List Str × Bool
structure KindO (K : PySem.W.Frag) (H : Hp) (a : Addr) (r : Row) : Prop where
  at_ : ∃ dx f, H a = some (.ins (KC K) dx [("name", .str r.1), ("single", .bl r.2.2), ("field_set", .ref f)]) ∧ Fl K H f r.2.1
theorem KindO.on {K : PySem.W.Frag} {H H' : Hp} {a : Addr} {r : Row} (h : KindO K H a r) (e : Same H H') : KindO K H' a r := by
  obtain ⟨dx, f, h1, h2⟩ := h
  exact ⟨dx, f, e _ _ h1, h2.on e⟩
theorem KindO.off {K : PySem.W.Frag} {H H' : Hp} {a p c : Addr} {r : Row} (h : KindO K H a r) (D : Dr H p c) (e : Off p H H') : KindO K H' a r := by
  obtain ⟨dx, f, h1, h2⟩ := h
  have h3 := h2.off D e
  obtain ⟨_, _, _, _, DD⟩ := D
  exact ⟨dx, f, e _ _ (ne_of h1 DD.st (by intro z; cases z)) h1, h3⟩
theorem wd_inj : ∀ {ws us : List Str}, wd ws = wd us → ws = us
  | [], [], _ => rfl
  | [], _ :: _, h => by cases h
  | _ :: _, [], h => by cases h
  | w :: r, u :: t, h => by
    injection h with h1 h2
    injection h1 with h3 _
    injection h3 with h3
    rw [h3, wd_inj h2]
theorem Fl.func {K : PySem.W.Frag} {H : Hp} {a : Addr} {ws us : List Str} (h : Fl K H a ws) (h' : Fl K H a us) : ws = us := by
  obtain ⟨dx, d, h1, h2⟩ := h.at_
  obtain ⟨dx', d', g1, g2⟩ := h'.at_
  rw [h1] at g1
  cases g1
  rw [h2] at g2
  injection g2 with g2
  injection g2 with g2
  exact wd_inj g2
theorem KindO.func {K : PySem.W.Frag} {H : Hp} {a : Addr} {r t : Row} (h : KindO K H a r) (h' : KindO K H a t) : r = t := by
  obtain ⟨dx, f, h1, h2⟩ := h
  obtain ⟨dx', f', g1, g2⟩ := h'
  rw [h1] at g1
  obtain ⟨n, ws, o⟩ := r
  obtain ⟨n', ws', o'⟩ := t
  cases g1
  have e : ws = ws' := h2.func g2
  rw [e]
/-- what Kind takes as its fields: a list or a tuple of one to four words, each once -/
structure KfA (K : PySem.W.Frag) (H : Hp) (v : V) (us : List Str) : Prop where
  asc : AscS us
  at_ : ∃ (a : Addr) (xs : List Str), v = .ref a ∧ (H a = some (.lst (xs.map V.str)) ∨ H a = some (.tup (xs.map V.str))) ∧ xs.Nodup ∧ 1 ≤ xs.length ∧ xs.length ≤ 4 ∧ (∀ x ∈ xs, wordB x = true) ∧ ∀ z, z ∈ us ↔ z ∈ xs
theorem KfA.on {K : PySem.W.Frag} {H H' : Hp} {v : V} {us : List Str} (h : KfA K H v us) (e : Same H H') : KfA K H' v us := by
  obtain ⟨b, a, xs, rfl, h, q⟩ := h
  exact ⟨b, a, xs, rfl, h.imp (e _ _) (e _ _), q⟩
theorem KfA.fs {K : PySem.W.Frag} {H : Hp} {v : V} {us : List Str} (h : KfA K H v us) : FsA K H v us := by
  obtain ⟨b, a, xs, rfl, h, nd, l1, l4, wx, m⟩ := h
  have := nodup_le (ys := xs) b.nodup fun x hx => (m x).mp hx
  exact ⟨b, fun w hw => wx w ((m w).mp hw), by omega, .inr ⟨a, xs, rfl, h, by omega, m⟩⟩
/-- of another kind than the class at C -/
def Other (K : PySem.W.Frag) (C : Addr) (H : Hp) (v : V) : Prop := ∃ t, TyX K H v t ∧ PySem.W.kitOne K t (.ref C) = some false ∧ PySem.W.notFirst K C t = true
theorem KindOf.other {K : PySem.W.Frag} {C : Addr} (F : OwnK K C) {H : Hp} {v : V} {k : Knd} (h : KindOf H v k) : Other K C H v := ⟨_, h.ty, F.iB k, notFirst_knd k⟩
theorem KfA.upd {K : PySem.W.Frag} {H : Hp} {v : V} {us : List Str} {x C dx : Addr} {fs : List (Str × V)} {o : HO} (h : KfA K H v us) (hx : H x = some (.ins C dx fs)) : KfA K (upd H x o) v us := by
  obtain ⟨b, a, xs, rfl, h, q⟩ := h
  refine ⟨b, a, xs, rfl, ?_, q⟩
  rcases h with h | h
  · exact .inl (by rw [upd_ne (ne_of h hx (by intro z; cases z))]; exact h)
  · exact .inr (by rw [upd_ne (ne_of h hx (by intro z; cases z))]; exact h)
theorem Fl.upd0 {K : PySem.W.Frag} {H : Hp} {a x C dx : Addr} {ws : List Str} {o : HO} (h : Fl K H a ws) (hx : H x = some (.ins C dx [])) : Fl K (upd H x o) a ws := by
  obtain ⟨⟨dy, d, h1, h2⟩, b, c⟩ := h
  exact ⟨⟨dy, d, by rw [upd_ne (ne_of h1 hx (by intro z; cases z))]; exact h1, by rw [upd_ne (ne_of h2 hx (by intro z; cases z))]; exact h2⟩, b, c⟩
theorem KindO.upd0 {K : PySem.W.Frag} {H : Hp} {a x C dx : Addr} {r : Row} {o : HO} (h : KindO K H a r) (hx : H x = some (.ins C dx [])) : KindO K (upd H x o) a r := by
  obtain ⟨dy, f, h1, h2⟩ := h
  exact ⟨dy, f, by rw [upd_ne (ne_of h1 hx (by intro z; cases z))]; exact h1, h2.upd0 hx⟩
theorem lenK {α : Type} {l : List α} (h : l.length ≤ 1000) : l.length < sizeLine := by
  have e : sizeLine = 16777216 := sizeLine_eq
  omega
theorem cut_to (xs : List V) {i : Nat} (h : i ≤ xs.length) : cutV xs none (some (i : Int)) = xs.take i := by
  unfold cutV
  rw [HT.sIx_none, HT.sIx_nat, Nat.min_eq_left h]
  rfl
theorem cut_from (xs : List V) {i : Nat} (h : i ≤ xs.length) : cutV xs (some (i : Int)) none = xs.drop i := by
  unfold cutV
  rw [HT.sIx_none, HT.sIx_nat, Nat.min_eq_left h]
  exact List.take_of_length_le (by rw [List.length_drop]; omega)
theorem cut_but {xs : List V} (h : 1 ≤ xs.length) : cutV xs none (some (-1)) = xs.take (xs.length - 1) := by
  unfold cutV
  have e : HT.sIx xs.length xs.length (some (-1)) = xs.length - 1 := by
    show (if (-1 : Int) < 0 then ((-1 : Int) + (xs.length : Int)).toNat else min (-1 : Int).toNat xs.length) = _
    rw [if_pos (by decide)]
    omega
  rw [HT.sIx_none xs.length 0, e]
  rfl
/-! ### promises -/
def spChkF (K : PySem.W.Frag) : Sp := fun vs H Q _ => ∃ v us, vs = [v] ∧ KfA K H v us ∧ ∀ H', Same H H' → Q .non H'
def spKInit (K : PySem.W.Frag) : Sp := fun vs H Q _ => ∃ x dx v us nm one, vs = [.ref x, .str nm, v, .bl one] ∧ H x = some (.ins (KC K) dx []) ∧ wordB nm = true ∧ KfA K H v us ∧
  ∀ H', (∀ b o, b ≠ x → H b = some o → H' b = some o) → KindO K H' x (nm, us, one) → Q .non H'
def spKFields (K : PySem.W.Frag) : Sp := fun vs H Q _ => ∃ a r, vs = [.ref a] ∧ KindO K H a r ∧ ∀ f, Fl K H f r.2.1 → Q (.ref f) H
def spKEq (K : PySem.W.Frag) : Sp := fun vs H Q _ => ∃ a r v, vs = [.ref a, v] ∧ KindO K H a r ∧ ((∃ b t, v = .ref b ∧ KindO K H b t ∧ Q (.bl (decide (r = t))) H) ∨ (Other K (KC K) H v ∧ Q (.bl false) H))
/-! ### a schema -/
structure SchO (K : PySem.W.Frag) (H : Hp) (a : Addr) (rs : List Row) : Prop where
  at_ : ∃ (dx t : Addr) (xs : List Addr), H a = some (.ins (SC K) dx [("kinds", .ref t)]) ∧ H t = some (.tup (xs.map V.ref)) ∧ xs.length = rs.length ∧ ∀ (i : Nat) x r, xs[i]? = some x → rs[i]? = some r → KindO K H x r
  nd : (rs.map (·.1)).Nodup
  len : rs.length ≤ 4
theorem SchO.on {K : PySem.W.Frag} {H H' : Hp} {a : Addr} {rs : List Row} (h : SchO K H a rs) (e : Same H H') : SchO K H' a rs := by
  obtain ⟨⟨dx, t, xs, h1, h2, h3, h4⟩, b, c⟩ := h
  exact ⟨⟨dx, t, xs, e _ _ h1, e _ _ h2, h3, fun i x r hx hr => (h4 i x r hx hr).on e⟩, b, c⟩
theorem SchO.off {K : PySem.W.Frag} {H H' : Hp} {a p c : Addr} {rs : List Row} (h : SchO K H a rs) (D : Dr H p c) (e : Off p H H') : SchO K H' a rs := by
  obtain ⟨⟨dx, t, xs, h1, h2, h3, h4⟩, b, cc⟩ := h
  have h5 : ∀ (i : Nat) x r, xs[i]? = some x → rs[i]? = some r → KindO K H' x r := fun i x r hx hr => (h4 i x r hx hr).off D e
  obtain ⟨_, _, _, _, DD⟩ := D
  exact ⟨⟨dx, t, xs, e _ _ (ne_of h1 DD.st (by intro z; cases z)) h1, e _ _ (ne_of h2 DD.st (by intro z; cases z)) h2, h3, h5⟩, b, cc⟩
/-- a list or a tuple of Kind objects of these rows -/
structure KsA (K : PySem.W.Frag) (H : Hp) (v : V) (rs : List Row) : Prop where
  at_ : ∃ (a : Addr) (xs : List Addr), v = .ref a ∧ (H a = some (.lst (xs.map V.ref)) ∨ H a = some (.tup (xs.map V.ref))) ∧ xs.length = rs.length ∧ ∀ (i : Nat) x r, xs[i]? = some x → rs[i]? = some r → KindO K H x r
  nd : (rs.map (·.1)).Nodup
  pos : 1 ≤ rs.length
  len : rs.length ≤ 4
theorem KsA.on {K : PySem.W.Frag} {H H' : Hp} {v : V} {rs : List Row} (h : KsA K H v rs) (e : Same H H') : KsA K H' v rs := by
  obtain ⟨⟨a, xs, h1, h2, h3, h4⟩, b, c, d⟩ := h
  exact ⟨⟨a, xs, h1, h2.imp (e _ _) (e _ _), h3, fun i x r hx hr => (h4 i x r hx hr).on e⟩, b, c, d⟩
def spChkK (K : PySem.W.Frag) : Sp := fun vs H Q _ => ∃ v rs, vs = [v] ∧ KsA K H v rs ∧ ∀ H', Same H H' → Q .non H'
def spSInit (K : PySem.W.Frag) : Sp := fun vs H Q _ => ∃ x dx v rs, vs = [.ref x, v] ∧ H x = some (.ins (SC K) dx []) ∧ KsA K H v rs ∧
  ∀ H', (∀ b o, b ≠ x → H b = some o → H' b = some o) → SchO K H' x rs → Q .non H'
def spSNames (K : PySem.W.Frag) : Sp := fun vs H Q _ => ∃ a rs, vs = [.ref a] ∧ SchO K H a rs ∧ ∀ L H', H L = none → Same H H' → H' L = some (.lst (rs.map fun r => V.str r.1)) → Q (.ref L) H'
def spSLen (K : PySem.W.Frag) : Sp := fun vs H Q _ => ∃ a rs, vs = [.ref a] ∧ SchO K H a rs ∧ Q (.int rs.length) H
/-- what may be asked for in a schema -/
def Asked (K : PySem.W.Frag) (H : Hp) (v : V) : Prop := flatV v = true ∨ (∃ a xs, v = .ref a ∧ (H a = some (.lst xs) ∨ H a = some (.tup xs))) ∨ (∃ a kvs, v = .ref a ∧ H a = some (.dK kvs)) ∨ ∃ a r, v = .ref a ∧ KindO K H a r
def askB (rs : List Row) (v : V) : Bool := match v with | .str z => decide (z ∈ rs.map (·.1)) | _ => false
def spSIn (K : PySem.W.Frag) : Sp := fun vs H Q _ => ∃ a rs v, vs = [.ref a, v] ∧ SchO K H a rs ∧ Asked K H v ∧ ∀ H', Same H H' → Q (.bl (askB rs v)) H'
def spSGet (K : PySem.W.Frag) : Sp := fun vs H Q _ => ∃ (a : Addr) (rs : List Row) (i : Nat) (r : Row), vs = [.ref a, .str r.1] ∧ SchO K H a rs ∧ rs[i]? = some r ∧ ∀ x, KindO K H x r → Q (.ref x) H
def spSEq (K : PySem.W.Frag) : Sp := fun vs H Q _ => ∃ a rs v, vs = [.ref a, v] ∧ SchO K H a rs ∧ ((∃ b ts, v = .ref b ∧ SchO K H b ts ∧ ∀ H', Same H H' → Q (.bl (decide (rs = ts))) H') ∨ (Other K (SC K) H v ∧ Q (.bl false) H))
theorem ask_any (v : V) : ∀ rs : List Row, (rs.map fun r => askB [(r.1, [], false)] v).any id = askB rs v := by
  intro rs
  cases v with
  | str z =>
    induction rs with
    | nil => rfl
    | cons r t ih =>
      rw [List.map_cons, List.any_cons, ih]
      show (decide (z ∈ [r.1]) || decide (z ∈ t.map (·.1))) = decide (z ∈ r.1 :: t.map (·.1))
      by_cases e : z = r.1
      · rw [decide_eq_true (List.mem_singleton.mpr e), decide_eq_true (List.mem_cons.mpr (.inl e)), Bool.true_or]
      · rw [decide_eq_false fun q => e (List.mem_singleton.mp q), Bool.false_or]
        by_cases h : z ∈ t.map (·.1)
        · rw [decide_eq_true h, decide_eq_true (List.mem_cons_of_mem _ h)]
        · rw [decide_eq_false h, decide_eq_false fun q => (List.mem_cons.mp q).elim e h]
  | non => exact any_no rs
  | bl b => exact any_no rs
  | int i => exact any_no rs
  | byt i => exact any_no rs
  | flt i => exact any_no rs
  | ref i => exact any_no rs
  | ty i => exact any_no rs
where
  any_no : ∀ rs : List Row, (rs.map fun _ => false).any id = false
  | [] => rfl
  | _ :: t => by
    rw [List.map_cons, List.any_cons, any_no t]
    rfl
/-! ### == of kinds within built-ins -/
section
variable {X : Cx} {n k : Nat}
def DKd (K : PySem.W.Frag) : Eq3 := fun x y c H => ∃ a b r t, x = .ref a ∧ y = .ref b ∧ KindO K H a r ∧ KindO K H b t ∧ c = decide (r = t)
theorem mon_DKd {K : PySem.W.Frag} : Mon3 (DKd K) := fun x y c H H' e d => by
  obtain ⟨a, b, r, t, h1, h2, h3, h4, h5⟩ := d
  exact ⟨a, b, r, t, h1, h2, h3.on e, h4.on e, h5⟩
theorem eqX_kd (KK : OwnK X.K (KC X.K)) (M : OwM X.prog X.w X.K X.mg X.base (KC X.K) k "__eq__" (spKEq X.K)) : EqX X k (DKd X.K) := by
  refine EqX.imp ((eqX_own M).or (eqX_self.mono (Nat.zero_le k))) fun x y c H d => ?_
  obtain ⟨a, b, r, t, rfl, rfl, h3, h4, h5⟩ := d
  by_cases e : a = b
  · subst e
    exact .inr ⟨a, rfl, rfl, by rw [h5, h3.func h4, decide_eq_true rfl]⟩
  · obtain ⟨dx, f, g1, g2⟩ := id h3
    obtain ⟨dy, f', g3, g4⟩ := id h4
    exact .inl ⟨a, dx, _, _, rfl, (fun z => e (by injection z with z; exact z.symm)), g1, KK.tyx g3, notFirst_self, a, r, _, rfl, h3, .inl ⟨b, t, rfl, h4, by rw [h5], fun _ _ h => h⟩⟩
/-- a text beside what may be asked for -/
def DAsk (K : PySem.W.Frag) : Eq3 := fun x y c H => ∃ z, x = .str z ∧ Asked K H y ∧ c = askB [(z, [], false)] y
theorem Asked.on {K : PySem.W.Frag} {H H' : Hp} {v : V} (h : Asked K H v) (e : Same H H') : Asked K H' v := by
  rcases h with h | ⟨a, xs, rfl, h⟩ | ⟨a, kvs, rfl, h⟩ | ⟨a, r, rfl, h⟩
  · exact .inl h
  · exact .inr (.inl ⟨a, xs, rfl, h.imp (e _ _) (e _ _)⟩)
  · exact .inr (.inr (.inl ⟨a, kvs, rfl, e _ _ h⟩))
  · exact .inr (.inr (.inr ⟨a, r, rfl, h.on e⟩))
theorem mon_DAsk {K : PySem.W.Frag} : Mon3 (DAsk K) := fun x y c H H' e d => by
  obtain ⟨z, h1, h2, h3⟩ := d
  exact ⟨z, h1, h2.on e, h3⟩
theorem eqX_ask (KK : OwnK X.K (KC X.K)) (M : OwM X.prog X.w X.K X.mg X.base (KC X.K) k "__eq__" (spKEq X.K)) : EqX X k (DAsk X.K) := by
  refine EqX.imp ((eqX_flat.mono (Nat.zero_le k)).or ((eqX_strSeq.mono (Nat.zero_le k)).or ((eqX_strDict.mono (Nat.zero_le k)).or (eqX_strOwn M KK.nk)))) fun x y c H d => ?_
  obtain ⟨z, rfl, h2, rfl⟩ := d
  rcases h2 with h | ⟨a, xs, rfl, h⟩ | ⟨a, kvs, rfl, h⟩ | ⟨a, r, rfl, h⟩
  · refine .inl ⟨rfl, h, ?_⟩
    cases y with
    | str u =>
      show (z == u) = decide (u ∈ [z])
      by_cases e : z = u
      · rw [e, beq_self_eq_true, decide_eq_true (List.mem_cons_self ..)]
      · rw [beq_eq_false_iff_ne.mpr e, decide_eq_false fun q => e (List.mem_singleton.mp q).symm]
    | non => rfl
    | bl b => rfl
    | int i => rfl
    | byt i => rfl
    | flt i => rfl
    | ref i => rfl
    | ty i => rfl
  · exact .inr (.inl ⟨z, a, xs, rfl, rfl, h.imp SqL.of SqT.of, rfl⟩)
  · exact .inr (.inr (.inl ⟨z, a, kvs, rfl, rfl, h, rfl⟩))
  · obtain ⟨dx, f, g1, g2⟩ := id h
    exact .inr (.inr (.inr ⟨a, dx, _, z, rfl, rfl, g1, a, r, _, rfl, h, .inr ⟨(KindOf.str z).other KK, rfl, fun _ _ h => h⟩⟩))
/-- x[i] by the own method -/
def rOwnGet (C : Addr) (sp : Sp) : V → V → Hp → VK → Prop := fun x i H Q => ∃ a dx fs, x = .ref a ∧ H a = some (.ins C dx fs) ∧ sp [.ref a, i] H Q E0
theorem pe_ownGet {C : Addr} {sp : Sp} {a b : Expr} {ta tb : TE} {pos : Pos} (ha : PE X a ta) (hb : PE X b tb) (M : OwM X.prog X.w X.K X.mg X.base C k "__getitem__" sp) (hfn : ∀ f, PySem.W.findIn X.K (.ref C) "__getitem__" = some (some (.ref f)) → PySem.W.fnIn X.K f = true) (hr : Room (k + 1) X.A)
    (hs : ∀ o i, subscripted b true o i = runValue (.builtin "lifetime.subscript" ⟨[o, i], []⟩)) : PE X (.Subscript a b pos) (tOp (rOwnGet C sp) ta tb) := by
  refine ⟨fun pins s σ H Q I h => ?_⟩
  refine Subscript_ (binT ha hb I h fun v u s2 x y H2 I2 rx ry q => ?_)
  obtain ⟨a, dx, fs, rfl, ga, q⟩ := q
  cases rx
  obtain ⟨f, fd, ps, F, hsf, hf, _, hB⟩ := M.ex
  obtain ⟨mA, J, _⟩ := ins_get I2.hok ga
  obtain ⟨od, J, _⟩ := J.look
  obtain ⟨m, hF⟩ := I2.fr
  exact PySem.W.sub_K hF I2.ok.mod.kin J hsf (hfn f hsf) hf (run_fn1 (us := [.ref a, u]) (vs := [.ref a, y]) F hr hB .nil pass0 I2 (.cons rfl (.cons ry .nil)) q) (hs _ _)
/-- [..][..] -/
theorem PE.or {e : Expr} {t t' : TE} (h : PE X e t) (h' : PE X e t') : PE X e (fun σ H Q => t σ H Q ∨ t' σ H Q) := ⟨fun pins s σ H Q I q => q.elim (h.run pins s σ H Q I) (h'.run pins s σ H Q I)⟩
end
end Sm
namespace Sm
open PySem PySem.Spec PyProof.Rows L2
abbrev scheck_kind_fields : Stmt := top 23
theorem sccheck_kind_fields : FnScope ["fields", "index", "word"] ["fields"] (defScope scheck_kind_fields) := ⟨rfl, rfl, rfl, by decide +kernel, rfl, by decide +kernel, by decide +kernel⟩

abbrev sKind_init : Stmt := inClass (top 25) 0
theorem scKind_init : FnScope ["self", "name", "fields", "single"] ["self", "name", "fields", "single"] (defScope sKind_init) := ⟨rfl, rfl, rfl, by decide +kernel, rfl, by decide +kernel, by decide +kernel⟩

abbrev sKind_fields : Stmt := inClass (top 25) 1
theorem scKind_fields : FnScope ["self"] ["self"] (defScope sKind_fields) := ⟨rfl, rfl, rfl, by decide +kernel, rfl, by decide +kernel, by decide +kernel⟩

abbrev sKind_eq : Stmt := inClass (top 25) 2
theorem scKind_eq : FnScope ["self", "other"] ["self", "other"] (defScope sKind_eq) := ⟨rfl, rfl, rfl, by decide +kernel, rfl, by decide +kernel, by decide +kernel⟩

structure TxtK (mg : Str → Option Value) : Prop where
  isinstance : mg "isinstance" = none
  enumerate : mg "enumerate" = none
  len : mg "len" = none
  tuple : mg "tuple" = none
  gF : ∃ t, mg "MOST_FIELDS" = some (.int 4 t)
  gK : ∃ t, mg "MOST_KINDS" = some (.int 4 t)
section
variable {P : Program} {w : World} {K : PySem.W.Frag} {mg : Str → Option Value} {base : Heap}
theorem ok_check_kind_fields (T : TxtK mg) {f : Addr} {fd : FuncData} (F : FnP K "check_kind_fields" scheck_kind_fields f fd) (cis_list : Cal P w K mg base CX0 1 "is_list" spIsList) (cis_word : Cal P w K mg base CX0 1 "is_word" spIsWord) : FnOk P w K mg base CX0 2 f fd ["fields"] (spChkF K) := by
  obtain ⟨tF, gF⟩ := T.gF
  refine F.ok sccheck_kind_fields (fun vs H Q E h => ?_) (fun cdv A outer s H vs Q E hr h => ?_)
  · obtain ⟨v, us, rfl, _⟩ := h
    rfl
  · obtain ⟨v, us, rfl, f, kk⟩ := h
    obtain ⟨a, xs, rfl, ha, nd, l1, l4, wx, hm⟩ := f.at_
    refine ⟨_, PSs.nox (pss_cons (ps_if (PW.pt (pw_or (pt_not (pt_val (pe_c cis_list hr (by first | decide | omega) (by rfl) (pa_cons (pv 0) pa_nil)))) (pw_or1 (pt_cmpR op_eq (pe_callB (call_lenK (K := K)) (by rfl) T.len (by decide +kernel) (pa_cons (pv 0) pa_nil)) pe_int (nomark _))))) (pss_one ps_dead) pss_nil)
  (pss_one (ps_for PassesOwn.never rfl (PI.or (pi_enumK (K := K) (by rfl) T.enumerate (pa_cons (pv 0) pa_nil)) (pi_enumTK (K := K) (by rfl) T.enumerate (pa_cons (pv 0) pa_nil))) (pg_tupK (K := K) rfl (pgs_cons (pg_name (i := 1) sccheck_kind_fields.nd rfl (Or.inl rfl)) (pgs_cons (pg_name (i := 2) sccheck_kind_fields.nd rfl (Or.inl rfl)) pgs_nil))) (pss_one (ps_if (PW.pt (pw_or (pt_cmpR op_ge (pv 1) (pe_glob (v := .int 4) rfl gF ⟨_, rfl⟩) (nomark _)) (pw_or (pt_not (pt_val (pe_c cis_word hr (by first | decide | omega) (by rfl) (pa_cons (pv 2) pa_nil)))) (pw_or1 (pt_cmpR (op_inK (K := K)) (pv 2) (PE.or (pe_slice (sl_listK (K := K)) (pv 0) po_none (po_some (pv 1))) (pe_slice (sl_tupK (K := K)) (pv 0) po_none (po_some (pv 1)))) (by rfl)))))) (pss_one ps_dead) pss_nil))))), ?_⟩
    have hk : ∃ k : Knd, KindOf H (.ref a) k ∧ isiAny k [.lst, .tup] = true := by
      rcases ha with ha | ha
      · exact ⟨_, .lst ha, rfl⟩
      · exact ⟨_, .tup ha, rfl⟩
    obtain ⟨k, hk, ek⟩ := hk
    refine st_seq2 ⟨_, rfl, _, k, rfl, hk, fun H1 s1 => ⟨_, rfl, ?_⟩⟩
    rw [ek]
    have sq : SqL K H1 a (xs.map V.str) ∨ SqT K H1 a (xs.map V.str) := ha.imp (fun h => SqL.of (s1 _ _ h)) fun h => SqT.of (s1 _ _ h)
    refine iteF ⟨_, rfl, ⟨a, _, rfl, sq, rfl, ⟨_, rfl, ?_⟩⟩⟩
    rw [List.length_map, decide_eq_false (by intro q; injection q with q; omega)]
    refine iteF ?_
    have turn : ∀ (i : Nat) (x : V) (σ' : L2.St) (H2 H3 : Hp), (∃ v1 v2 : Option V, σ' = [some (.ref a), v1, v2] ∧ Same H H2) → YPair (fun i => some (.int (i : Nat))) (fun i => (xs.map V.str)[i]?) i H2 x H3 → ∃ (T : Addr) (z : Str), x = .ref T ∧ H3 T = some (.tup [.int (i : Nat), .str z]) ∧ xs[i]? = some z ∧ Same H H3 := by
      rintro i x σ' H2 H3 ⟨v1, v2, rfl, s2⟩ ⟨T', x', y, rfl, hT, rfl, hx, hy⟩
      cases hx
      have hy : (xs.map V.str)[i]? = some y := hy
      rw [List.getElem?_map] at hy
      obtain ⟨z, hz, rfl⟩ := Option.map_eq_some_iff.mp hy
      exact ⟨T', z, rfl, upd_same, hz, s2.trans (Same.new hT)⟩
    rcases ha with ha | ha
    · refine .inl ⟨_, rfl, a, _, rfl, SqL.of (s1 _ _ ha), for_it (walk_enum (xs := xs.map V.str)) (fun i σ' H' => ∃ v1 v2 : Option V, σ' = [some (.ref a), v1, v2] ∧ Same H H') ⟨none, none, rfl, s1⟩ (fun i σ' H' _ q => by obtain ⟨_, _, _, s2⟩ := q; exact SqL.of (s2 _ _ ha)) ?_ ?_⟩
      · rintro i x σ' H2 H3 hi pv y
        obtain ⟨T', z, rfl, hT, hz, s3⟩ := turn i x σ' H2 H3 pv y
        obtain ⟨v1, v2, rfl, _⟩ := pv
        have hlt : i < xs.length := (List.getElem?_eq_some_iff.mp hz).1
        have hzm : z ∈ xs := List.mem_of_getElem? hz
        refine ⟨T', _, rfl, SqT.of hT, rfl, _, _, rfl, _, _, rfl, rfl, ?_⟩
        refine ⟨_, rfl, _, _, rfl, rfl, _, rfl, ?_⟩
        rw [decide_eq_false (by omega)]
        refine iteF ⟨_, rfl, .inl ⟨z, rfl, word_len (wx z hzm), ⟨_, rfl, ?_⟩⟩⟩
        rw [wx z hzm]
        refine iteF ⟨_, rfl, .inl ⟨_, rfl, _, rfl, _, rfl, a, xs.map V.str, rfl, SqL.of (s3 _ _ ha), fun p hp => ?_⟩⟩
        rw [cut_to _ (by rw [List.length_map]; omega), ← List.map_take]
        refine ⟨p, _, rfl, .inl (SqL.of upd_same), rfl, flat_strs _, _, rfl, ?_⟩
        rw [if_neg Bool.false_ne_true, inV_str, decide_eq_false (not_mem_take nd hz)]
        exact iteF ⟨_, _, rfl, s3.trans (Same.new hp)⟩
      · rintro σ' H' ⟨v1, v2, rfl, s3⟩
        exact kk _ s3
    · refine .inr ⟨_, rfl, a, _, rfl, SqT.of (s1 _ _ ha), for_it (walk_enumT (xs := xs.map V.str)) (fun i σ' H' => ∃ v1 v2 : Option V, σ' = [some (.ref a), v1, v2] ∧ Same H H') ⟨none, none, rfl, s1⟩ (fun i σ' H' _ q => by obtain ⟨_, _, _, s2⟩ := q; exact SqT.of (s2 _ _ ha)) ?_ ?_⟩
      · rintro i x σ' H2 H3 hi pv y
        obtain ⟨T', z, rfl, hT, hz, s3⟩ := turn i x σ' H2 H3 pv y
        obtain ⟨v1, v2, rfl, _⟩ := pv
        have hlt : i < xs.length := (List.getElem?_eq_some_iff.mp hz).1
        have hzm : z ∈ xs := List.mem_of_getElem? hz
        refine ⟨T', _, rfl, SqT.of hT, rfl, _, _, rfl, _, _, rfl, rfl, ?_⟩
        refine ⟨_, rfl, _, _, rfl, rfl, _, rfl, ?_⟩
        rw [decide_eq_false (by omega)]
        refine iteF ⟨_, rfl, .inl ⟨z, rfl, word_len (wx z hzm), ⟨_, rfl, ?_⟩⟩⟩
        rw [wx z hzm]
        refine iteF ⟨_, rfl, .inr ⟨_, rfl, _, rfl, _, rfl, a, xs.map V.str, rfl, SqT.of (s3 _ _ ha), fun q => by rw [HT.sIx_nat] at q; rw [List.length_map] at q; omega, fun p hp => ?_⟩⟩
        rw [cut_to _ (by rw [List.length_map]; omega), ← List.map_take]
        refine ⟨p, _, rfl, .inr (SqT.of upd_same), rfl, flat_strs _, _, rfl, ?_⟩
        rw [if_neg Bool.false_ne_true, inV_str, decide_eq_false (not_mem_take nd hz)]
        exact iteF ⟨_, _, rfl, s3.trans (Same.new hp)⟩
      · rintro σ' H' ⟨v1, v2, rfl, s3⟩
        exact kk _ s3
theorem ok_Kind_fields (KK : OwnK K (KC K)) (n : NoAttr K (KC K) "field_set") {f : Addr} {fd : FuncData} (F : FunD K "fields" "Kind.fields" (defArgs sKind_fields) (defBody sKind_fields) (defScope sKind_fields) [] [] f fd) : FnOk P w K mg base CX0 1 f fd ["self"] (spKFields K) := by
  refine F.ok scKind_fields (fun vs H Q E h => ?_) (fun cdv A outer s H vs Q E hr h => ?_)
  · obtain ⟨a, r, rfl, _⟩ := h
    rfl
  · obtain ⟨a, r, rfl, f, kk⟩ := h
    obtain ⟨dx, d, h1, h2⟩ := f.at_
    refine ⟨_, PSs.nox (pss_one (ps_ret (pe_fldK (K := K) (pv 0)))), ?_⟩
    exact ⟨_, rfl, a, _, dx, _, _, rfl, h1, KK.cls, n, rfl, kk d h2⟩
theorem ok_Kind_eq (T : TxtK mg) (FK : FlK K) (KK : OwnK K (KC K)) (n1 : NoAttr K (KC K) "name") (n2 : NoAttr K (KC K) "single") (n3 : NoAttr K (KC K) "field_set") (gK : mg "Kind" = some (.ref (KC K))) {f : Addr} {fd : FuncData} (F : FunD K "__eq__" "Kind.__eq__" (defArgs sKind_eq) (defBody sKind_eq) (defScope sKind_eq) [] [] f fd) (cF_eq : OwM P w K mg base (FC K) 1 "__eq__" (spFEq K)) : FnOk P w K mg base CX0 2 f fd ["self", "other"] (spKEq K) := by
  refine F.ok scKind_eq (fun vs H Q E h => ?_) (fun cdv A outer s H vs Q E hr h => ?_)
  · obtain ⟨a, r, v, rfl, _⟩ := h
    rfl
  · obtain ⟨a, r, v, rfl, f, kk⟩ := h
    obtain ⟨dx, d, h1, h2⟩ := f.at_
    refine ⟨_, PSs.nox (pss_one (ps_ret (pe_and (pe_callB (call_isiK' (K := K)) (by rfl) T.isinstance (by decide +kernel) (pa_cons (pv 1) (pa_cons (pe_glob (v := .ref (KC K)) rfl gK rfl) pa_nil))) (pe_and (pe_cmpR op_eq (pe_fldK (K := K) (pv 0)) (pe_fldK (K := K) (pv 1)) (nomark _)) (pe_and (pe_cmpR op_eq (pe_fldK (K := K) (pv 0)) (pe_fldK (K := K) (pv 1)) (nomark _)) (pe_one (pe_cmpR (op_eqF (K := K) rfl FK cF_eq (hr.mono (by decide))) (pe_fldK (K := K) (pv 0)) (pe_fldK (K := K) (pv 1)) (nomark _)))))))), ?_⟩
    rcases kk with ⟨b, t, rfl, f2, q⟩ | ⟨⟨t, ty, e1, e2⟩, q⟩
    · obtain ⟨dx', d', g1, g2⟩ := f2.at_
      refine ⟨_, rfl, ⟨_, _, _, _, _, rfl, .own _, KK.tyx g1, KK.iS, ⟨_, rfl, iteT ?_⟩⟩⟩
      obtain ⟨nm, ws, one⟩ := r
      obtain ⟨nm2, ws2, one2⟩ := t
      refine ⟨_, rfl, a, _, dx, _, _, rfl, h1, KK.cls, n1, rfl, ⟨_, rfl, b, _, dx', _, _, rfl, g1, KK.cls, n1, rfl, rfl, ⟨_, rfl, ?_⟩⟩⟩
      by_cases e1 : nm = nm2
      · subst e1
        rw [decide_eq_true rfl]
        refine iteT ⟨_, rfl, a, _, dx, _, _, rfl, h1, KK.cls, n2, rfl, ⟨_, rfl, b, _, dx', _, _, rfl, g1, KK.cls, n2, rfl, rfl, ⟨_, rfl, ?_⟩⟩⟩
        by_cases e2 : one = one2
        · subst e2
          rw [decide_eq_true rfl]
          refine iteT ⟨_, rfl, a, _, dx, _, _, rfl, h1, KK.cls, n3, rfl, ⟨_, rfl, b, _, dx', _, _, rfl, g1, KK.cls, n3, rfl, d, ws, rfl, h2, .inl ⟨d', ws2, rfl, g2, ?_⟩⟩⟩
          have e3 : decide ((nm, ws, one) = (nm, ws2, one)) = decide (ws = ws2) := by
            by_cases e : ws = ws2
            · subst e
              rw [decide_eq_true rfl, decide_eq_true rfl]
            · rw [decide_eq_false e, decide_eq_false fun q => e (congrArg (fun r : Row => r.2.1) q)]
          rw [← e3]
          exact q
        · rw [decide_eq_false fun q => e2 (by injection q)]
          rw [decide_eq_false fun q => e2 (congrArg (fun r : Row => r.2.2) q)] at q
          exact iteF q
      · rw [decide_eq_false fun q => e1 (by injection q)]
        rw [decide_eq_false fun q => e1 (congrArg (fun r : Row => r.1) q)] at q
        exact iteF q
    · exact ⟨_, rfl, ⟨_, _, _, _, _, rfl, .own _, ty, e1, ⟨_, rfl, iteF q⟩⟩⟩
theorem ok_Kind_init (T : TxtK mg) (FK : FlK K) (KK : OwnK K (KC K)) (n1 : NoAttr K (KC K) "name") (n2 : NoAttr K (KC K) "single") (n3 : NoAttr K (KC K) "field_set") {kws : List (Str × V)} {f : Addr} {fd : FuncData} (F : FunD K "__init__" "Kind.__init__" (defArgs sKind_init) (defBody sKind_init) (defScope sKind_init) [] kws f fd) (cF : MkC P w K mg base 3 "Fields" (FC K) (spFInit K) ["words"]) (cis_word : Cal P w K mg base CX0 1 "is_word" spIsWord) (ccheck_kind_fields : Cal P w K mg base CX0 2 "check_kind_fields" (spChkF K)) :
    FnOk P w K mg base CX0 5 f fd ["self", "name", "fields", "single"] (spKInit K) := by
  refine F.ok scKind_init (fun vs H Q E h => ?_) (fun cdv A outer s H vs Q E hr h => ?_)
  · obtain ⟨x, dx, v, us, nm, one, rfl, _⟩ := h
    rfl
  · obtain ⟨x, dx, v, us, nm, one, rfl, hx, wn, f, kk⟩ := h
    refine ⟨_, PSs.nox (pss_cons (ps_if (pt_not (pt_val (pe_c cis_word hr (by first | decide | omega) (by rfl) (pa_cons (pv 1) pa_nil)))) (pss_one ps_dead) pss_nil)
  (pss_cons (ps_expr (pe_c ccheck_kind_fields hr (by first | decide | omega) (by rfl) (pa_cons (pv 2) pa_nil)))
  (pss_cons (ps_fld (pv 0) (pv 1) rfl)
  (pss_cons (ps_fld (pv 0) (pv 3) rfl)
  (pss_one (ps_fld (pv 0) (pe_fields cF hr (by decide) (by rfl) (pa_cons (pv 2) pa_nil)) rfl)))))), ?_⟩
    refine st_seq2 ⟨_, rfl, .inl ⟨nm, rfl, word_len wn, ⟨_, rfl, ?_⟩⟩⟩
    rw [wn]
    refine iteF ?_
    refine st_seq2 ⟨_, rfl, v, us, rfl, f, fun H1 s1 => ?_⟩
    have f1 := f.on s1
    have hx1 := s1 _ _ hx
    refine st_seq2 ⟨_, rfl, _, rfl, x, _, dx, _, rfl, hx1, KK.cls, n1, by decide, ?_⟩
    refine st_seq2 ⟨_, rfl, _, rfl, x, _, dx, _, rfl, upd_same, KK.cls, n2, (by show (1 : Nat) < 1000; decide), ?_⟩
    refine ⟨_, rfl, v, us, rfl, ((f1.upd hx1).upd upd_same).fs, fun d H2 nd s2 fl _ => ⟨_, rfl, x, _, dx, _, rfl, s2 _ _ upd_same, KK.cls, n3, (by show (2 : Nat) < 1000; decide), ?_⟩⟩
    have nx : H x ≠ none := by rw [hx]; nofun
    have e1 : ∀ b o, b ≠ x → H b = some o → upd H2 x (.ins (KC K) dx (putF "field_set" (.ref d) (putF "single" (.bl one) (putF "name" (.str nm) [])))) b = some o := fun b o ne e => by
      rw [upd_ne ne]
      exact s2 _ _ (by rw [upd_ne ne, upd_ne ne]; exact s1 _ _ e)
    refine kk _ e1 ⟨dx, d, upd_same, ?_⟩
    obtain ⟨⟨dy, g, g1, g2⟩, q1, q2⟩ := fl
    have h2 : H2 x = some (.ins (KC K) dx (putF "single" (.bl one) (putF "name" (.str nm) []))) := s2 _ _ upd_same
    have ndx : d ≠ x := fun e => by
      rw [e, upd_same] at nd
      cases nd
    exact ⟨⟨dy, g, by rw [upd_ne ndx]; exact g1, by rw [upd_ne (ne_of g2 h2 (by intro z; cases z))]; exact g2⟩, q1, q2⟩
end
end Sm
namespace Sm
open PySem PySem.Spec PyProof.Rows L2
abbrev scheck_kinds : Stmt := top 24
theorem sccheck_kinds : FnScope ["kinds", "names", "index", "kind"] ["kinds"] (defScope scheck_kinds) := ⟨rfl, rfl, rfl, by decide +kernel, rfl, by decide +kernel, by decide +kernel⟩

abbrev sSchema_init : Stmt := inClass (top 26) 0
theorem scSchema_init : FnScope ["self", "kinds"] ["self", "kinds"] (defScope sSchema_init) := ⟨rfl, rfl, rfl, by decide +kernel, rfl, by decide +kernel, by decide +kernel⟩

abbrev sSchema_names : Stmt := inClass (top 26) 1
theorem scSchema_names : FnScope ["self", "kind"] ["self"] (defScope sSchema_names) := ⟨rfl, rfl, rfl, by decide +kernel, rfl, by decide +kernel, by decide +kernel⟩

abbrev sSchema_len : Stmt := inClass (top 26) 3
theorem scSchema_len : FnScope ["self"] ["self"] (defScope sSchema_len) := ⟨rfl, rfl, rfl, by decide +kernel, rfl, by decide +kernel, by decide +kernel⟩

abbrev sSchema_contains : Stmt := inClass (top 26) 4
theorem scSchema_contains : FnScope ["self", "x"] ["self", "x"] (defScope sSchema_contains) := ⟨rfl, rfl, rfl, by decide +kernel, rfl, by decide +kernel, by decide +kernel⟩

abbrev sSchema_getitem : Stmt := inClass (top 26) 5
theorem scSchema_getitem : FnScope ["self", "at", "kind"] ["self", "at"] (defScope sSchema_getitem) := ⟨rfl, rfl, rfl, by decide +kernel, rfl, by decide +kernel, by decide +kernel⟩

abbrev sSchema_eq : Stmt := inClass (top 26) 7
theorem scSchema_eq : FnScope ["self", "other"] ["self", "other"] (defScope sSchema_eq) := ⟨rfl, rfl, rfl, by decide +kernel, rfl, by decide +kernel, by decide +kernel⟩

section
variable {P : Program} {w : World} {K : PySem.W.Frag} {mg : Str → Option Value} {base : Heap}
theorem ok_check_kinds (T : TxtK mg) (KK : OwnK K (KC K)) (n1 : NoAttr K (KC K) "name") (gK : mg "Kind" = some (.ref (KC K))) {f : Addr} {fd : FuncData} (F : FnP K "check_kinds" scheck_kinds f fd) (cis_list : Cal P w K mg base CX0 1 "is_list" spIsList) : FnOk P w K mg base CX0 2 f fd ["kinds"] (spChkK K) := by
  obtain ⟨tM, gM⟩ := T.gK
  refine F.ok sccheck_kinds (fun vs H Q E h => ?_) (fun cdv A outer s H vs Q E hr h => ?_)
  · obtain ⟨v, us, rfl, _⟩ := h
    rfl
  · obtain ⟨v, rs, rfl, f, kk⟩ := h
    obtain ⟨⟨a, xs, rfl, ha, hl, hx⟩, nd, l1, l4⟩ := id f
    refine ⟨_, PSs.nox (pss_cons (ps_if (PW.pt (pw_or (pt_not (pt_val (pe_c cis_list hr (by first | decide | omega) (by rfl) (pa_cons (pv 0) pa_nil)))) (pw_or1 (pt_cmpR op_eq (pe_callB (call_lenK (K := K)) (by rfl) T.len (by decide +kernel) (pa_cons (pv 0) pa_nil)) pe_int (nomark _))))) (pss_one ps_dead) pss_nil)
  (pss_cons (ps_set (i := 1) sccheck_kinds.nd rfl (Or.inl rfl) (pe_lst pa_nil))
  (pss_one (ps_for PassesOwn.never rfl (PI.or (pi_enumK (K := K) (by rfl) T.enumerate (pa_cons (pv 0) pa_nil)) (pi_enumTK (K := K) (by rfl) T.enumerate (pa_cons (pv 0) pa_nil))) (pg_tupK (K := K) rfl (pgs_cons (pg_name (i := 2) sccheck_kinds.nd rfl (Or.inl rfl)) (pgs_cons (pg_name (i := 3) sccheck_kinds.nd rfl (Or.inl rfl)) pgs_nil))) (pss_cons (ps_if (PW.pt (pw_or (pt_cmpR op_ge (pv 2) (pe_glob (v := .int 4) rfl gM ⟨_, rfl⟩) (nomark _)) (pw_or (pt_not (pt_val (pe_callB (call_isiK' (K := K)) (by rfl) T.isinstance (by decide +kernel) (pa_cons (pv 3) (pa_cons (pe_glob (v := .ref (KC K)) rfl gK rfl) pa_nil))))) (pw_or1 (pt_cmpR (op_inK (K := K)) (pe_fldK (K := K) (pv 3)) (pv 1) (by rfl)))))) (pss_one ps_dead) pss_nil)
  (pss_one (ps_expr (pe_bmK (K := K) PySem.F.plainAttrs_list PySem.F.slot_list_append PySem.F.type_list_append mt_append (pv 1) (pa_cons (pe_fldK (K := K) (pv 3)) pa_nil))))))))), ?_⟩
    have hk : ∃ k : Knd, KindOf H (.ref a) k ∧ isiAny k [.lst, .tup] = true := by
      rcases ha with ha | ha
      · exact ⟨_, .lst ha, rfl⟩
      · exact ⟨_, .tup ha, rfl⟩
    obtain ⟨k, hk, ek⟩ := hk
    refine st_seq2 ⟨_, rfl, _, k, rfl, hk, fun H1 s1 => ⟨_, rfl, ?_⟩⟩
    rw [ek]
    have sq : SqL K H1 a (xs.map V.ref) ∨ SqT K H1 a (xs.map V.ref) := ha.imp (fun h => SqL.of (s1 _ _ h)) fun h => SqT.of (s1 _ _ h)
    refine iteF ⟨_, rfl, ⟨a, _, rfl, sq, rfl, ⟨_, rfl, ?_⟩⟩⟩
    rw [List.length_map, decide_eq_false (by intro q; injection q with q; omega)]
    refine iteF ?_
    unfold tNext
    dsimp only
    refine st_seq2 (asg_lst (lst_ok (xs := []) (by decide) fun L H2 nL s2 hL => ?_))
    have nLH : H L = none := s1.free nL
    dsimp only
    rcases ha with ha | ha
    · refine .inl ⟨_, rfl, a, _, rfl, SqL.of (s2 _ _ (s1 _ _ ha)), for_it (walk_enum (xs := xs.map V.ref)) (fun i σ' H' => ∃ v2 v3 : Option V, σ' = [some (.ref a), some (.ref L), v2, v3] ∧ Same H H' ∧ H' L = some (.lst (((rs.take i).map (·.1)).map V.str))) ⟨none, none, rfl, s1.trans s2, hL⟩ (fun i σ' H' _ q => by obtain ⟨_, _, _, s3, _⟩ := q; exact SqL.of (s3 _ _ ha)) ?_ ?_⟩
      · rintro i x σ' H3 H4 hi pv y
        obtain ⟨v2, v3, rfl, s3, h3⟩ := pv
        obtain ⟨T', x', y', rfl, hT, rfl, hx1, hy1⟩ := y
        cases hx1
        have hy1 : (xs.map V.ref)[i]? = some y' := hy1
        rw [List.getElem?_map] at hy1
        obtain ⟨z, hz, rfl⟩ := Option.map_eq_some_iff.mp hy1
        have i1 : i < rs.length := by rw [← hl]; exact (List.getElem?_eq_some_iff.mp hz).1
        have hr1 := List.getElem?_eq_getElem i1
        have nT : T' ≠ L := fun e => by
          rw [e, h3] at hT
          cases hT
        have s4 : Same H (upd H3 T' (.tup [.int (i : Nat), .ref z])) := s3.trans (Same.new hT)
        have h4 : (upd H3 T' (.tup [.int (i : Nat), .ref z])) L = some (.lst (((rs.take i).map (·.1)).map V.str)) := by rw [upd_ne nT.symm]; exact h3
        have kd := (hx i z _ hz hr1).on s4
        obtain ⟨dy, g, g1, g2⟩ := kd
        refine ⟨T', _, rfl, SqT.of upd_same, rfl, _, _, rfl, _, _, rfl, rfl, ?_⟩
        refine st_seq2 ⟨_, rfl, _, _, rfl, rfl, _, rfl, ?_⟩
        rw [decide_eq_false (by omega)]
        refine iteF ⟨_, rfl, ⟨_, _, _, _, _, rfl, .own _, KK.tyx g1, KK.iS, ⟨_, rfl, iteF ?_⟩⟩⟩
        refine ⟨_, rfl, z, _, dy, _, _, rfl, g1, KK.cls, n1, rfl, ⟨_, rfl, L, _, rfl, .inl (SqL.of h4), rfl, flat_strs _, _, rfl, ?_⟩⟩
        have hr2 : (rs.map (·.1))[i]? = some rs[i].1 := by rw [List.getElem?_map, hr1]; rfl
        have nm : rs[i].1 ∉ (rs.take i).map (·.1) := by rw [List.map_take]; exact not_mem_take nd hr2
        rw [if_neg Bool.false_ne_true, inV_str, decide_eq_false nm]
        refine iteF ?_
        dsimp only
        refine ⟨_, rfl, .inl ⟨rfl, _, SqL.of h4⟩, ⟨_, rfl, z, _, dy, _, _, rfl, g1, KK.cls, n1, rfl, ⟨L, _, _, rfl, rfl, h4, ?_, ?_⟩⟩⟩
        · rw [List.length_map, List.length_map]
          exact lenK (by have := List.length_take_le' i rs; omega)
        · refine ⟨_, _, rfl, fun b o e => ?_, ?_⟩
          · rw [upd_ne (ne_of_none e nLH)]
            exact s4 b o e
          · rw [upd_same, take_step hr1, List.map_append, List.map_append]
            rfl
      · rintro σ' H' ⟨v2, v3, rfl, s3, _⟩
        exact kk _ s3
    · refine .inr ⟨_, rfl, a, _, rfl, SqT.of (s2 _ _ (s1 _ _ ha)), for_it (walk_enumT (xs := xs.map V.ref)) (fun i σ' H' => ∃ v2 v3 : Option V, σ' = [some (.ref a), some (.ref L), v2, v3] ∧ Same H H' ∧ H' L = some (.lst (((rs.take i).map (·.1)).map V.str))) ⟨none, none, rfl, s1.trans s2, hL⟩ (fun i σ' H' _ q => by obtain ⟨_, _, _, s3, _⟩ := q; exact SqT.of (s3 _ _ ha)) ?_ ?_⟩
      · rintro i x σ' H3 H4 hi pv y
        obtain ⟨v2, v3, rfl, s3, h3⟩ := pv
        obtain ⟨T', x', y', rfl, hT, rfl, hx1, hy1⟩ := y
        cases hx1
        have hy1 : (xs.map V.ref)[i]? = some y' := hy1
        rw [List.getElem?_map] at hy1
        obtain ⟨z, hz, rfl⟩ := Option.map_eq_some_iff.mp hy1
        have i1 : i < rs.length := by rw [← hl]; exact (List.getElem?_eq_some_iff.mp hz).1
        have hr1 := List.getElem?_eq_getElem i1
        have nT : T' ≠ L := fun e => by
          rw [e, h3] at hT
          cases hT
        have s4 : Same H (upd H3 T' (.tup [.int (i : Nat), .ref z])) := s3.trans (Same.new hT)
        have h4 : (upd H3 T' (.tup [.int (i : Nat), .ref z])) L = some (.lst (((rs.take i).map (·.1)).map V.str)) := by rw [upd_ne nT.symm]; exact h3
        have kd := (hx i z _ hz hr1).on s4
        obtain ⟨dy, g, g1, g2⟩ := kd
        refine ⟨T', _, rfl, SqT.of upd_same, rfl, _, _, rfl, _, _, rfl, rfl, ?_⟩
        refine st_seq2 ⟨_, rfl, _, _, rfl, rfl, _, rfl, ?_⟩
        rw [decide_eq_false (by omega)]
        refine iteF ⟨_, rfl, ⟨_, _, _, _, _, rfl, .own _, KK.tyx g1, KK.iS, ⟨_, rfl, iteF ?_⟩⟩⟩
        refine ⟨_, rfl, z, _, dy, _, _, rfl, g1, KK.cls, n1, rfl, ⟨_, rfl, L, _, rfl, .inl (SqL.of h4), rfl, flat_strs _, _, rfl, ?_⟩⟩
        have hr2 : (rs.map (·.1))[i]? = some rs[i].1 := by rw [List.getElem?_map, hr1]; rfl
        have nm : rs[i].1 ∉ (rs.take i).map (·.1) := by rw [List.map_take]; exact not_mem_take nd hr2
        rw [if_neg Bool.false_ne_true, inV_str, decide_eq_false nm]
        refine iteF ?_
        dsimp only
        refine ⟨_, rfl, .inl ⟨rfl, _, SqL.of h4⟩, ⟨_, rfl, z, _, dy, _, _, rfl, g1, KK.cls, n1, rfl, ⟨L, _, _, rfl, rfl, h4, ?_, ?_⟩⟩⟩
        · rw [List.length_map, List.length_map]
          exact lenK (by have := List.length_take_le' i rs; omega)
        · refine ⟨_, _, rfl, fun b o e => ?_, ?_⟩
          · rw [upd_ne (ne_of_none e nLH)]
            exact s4 b o e
          · rw [upd_same, take_step hr1, List.map_append, List.map_append]
            rfl
      · rintro σ' H' ⟨v2, v3, rfl, s3, _⟩
        exact kk _ s3
theorem ok_Schema_names (SS : OwnK K (SC K)) (KK : OwnK K (KC K)) (n1 : NoAttr K (KC K) "name") (m1 : NoAttr K (SC K) "kinds") {f : Addr} {fd : FuncData} (F : FunD K "names" "Schema.names" (defArgs sSchema_names) (defBody sSchema_names) (defScope sSchema_names) [] [] f fd) : FnOk P w K mg base CX0 1 f fd ["self"] (spSNames K) := by
  refine F.ok scSchema_names (fun vs H Q E h => ?_) (fun cdv A outer s H vs Q E hr h => ?_)
  · obtain ⟨a, r, rfl, _⟩ := h
    rfl
  · obtain ⟨a, rs, rfl, f, kk⟩ := h
    obtain ⟨⟨dx, t, xs, h1, h2, hl, hx⟩, nd, l4⟩ := id f
    refine ⟨_, PSs.nox (pss_one (ps_ret (pe_lc (own := [("kind", 1)]) (g := (gName 1)) rfl scSchema_names.nd (pi_tupK (K := K) (pe_fldK (K := K) (pv 0))) (blkOk_by (own := [("kind", 1)]) (N := ["self", "kind"]) (sc := defScope sSchema_names) (by decide +kernel)) (fun _ _ _ _ _ => (pg_name (i := 1) scSchema_names.nd rfl (Or.inl rfl) (hf := Or.inr rfl))) (fun _ _ _ _ _ => pts_nil) (fun _ _ _ _ _ => (pe_fldK (K := K) (pv 1)))))), ?_⟩
    refine ⟨_, rfl, a, _, dx, _, _, rfl, h1, SS.cls, m1, rfl, t, rfl, ⟨_, SqT.of h2⟩, fun D hD => lc_it (walk_tup (xs := xs.map V.ref)) (fun i H2 => Same H H2 ∧ H2 D = some (.lst ((rs.take i).map fun r => V.str r.1))) ⟨Same.new hD, upd_same⟩ (fun i H2 _ q => SqT.of (q.1 _ _ h2)) ?_ ?_⟩
    · rintro i y H2 H3 hi ⟨s2, h2D⟩ ⟨rfl, hy⟩
      rw [List.getElem?_map] at hy
      obtain ⟨z, hz, rfl⟩ := Option.map_eq_some_iff.mp hy
      have i1 : i < rs.length := by rw [← hl]; exact (List.getElem?_eq_some_iff.mp hz).1
      have hr1 := List.getElem?_eq_getElem i1
      have kd := (hx i z _ hz hr1).on s2
      obtain ⟨dy, g, g1, g2⟩ := kd
      refine ⟨rfl, ?_⟩
      refine ⟨_, rfl, z, _, dy, _, _, rfl, g1, KK.cls, n1, rfl, _, h2D, ?_, ?_, ?_⟩
      · rw [List.length_map]
        exact lenK (by have := List.length_take_le' i rs; omega)
      · exact fun b o e => by
          rw [upd_ne (ne_of_none e hD)]
          exact s2 b o e
      · rw [upd_same, take_step hr1, List.map_append]
        rfl
    · rintro H2 ⟨s2, h2D⟩
      have e : rs.take (xs.map V.ref).length = rs := by rw [List.length_map, hl, List.take_length]
      rw [e] at h2D
      exact kk D H2 hD s2 h2D
theorem ok_Schema_len (T : TxtK mg) (SS : OwnK K (SC K)) (m1 : NoAttr K (SC K) "kinds") {f : Addr} {fd : FuncData} (F : FunD K "__len__" "Schema.__len__" (defArgs sSchema_len) (defBody sSchema_len) (defScope sSchema_len) [] [] f fd) : FnOk P w K mg base CX0 1 f fd ["self"] (spSLen K) := by
  refine F.ok scSchema_len (fun vs H Q E h => ?_) (fun cdv A outer s H vs Q E hr h => ?_)
  · obtain ⟨a, r, rfl, _⟩ := h
    rfl
  · obtain ⟨a, rs, rfl, f, kk⟩ := h
    obtain ⟨⟨dx, t, xs, h1, h2, hl, hx⟩, nd, l4⟩ := id f
    refine ⟨_, PSs.nox (pss_one (ps_ret (pe_callB (call_lenK (K := K)) (by rfl) T.len (by decide +kernel) (pa_cons (pe_fldK (K := K) (pv 0)) pa_nil)))), ?_⟩
    refine ⟨_, rfl, a, _, dx, _, _, rfl, h1, SS.cls, m1, rfl, t, _, rfl, .inr (SqT.of h2), ?_⟩
    rw [List.length_map, hl]
    exact kk
theorem ok_Schema_in (KK : OwnK K (KC K)) (SS : OwnK K (SC K)) {f : Addr} {fd : FuncData} (F : FunD K "__contains__" "Schema.__contains__" (defArgs sSchema_contains) (defBody sSchema_contains) (defScope sSchema_contains) [] [] f fd) (cK_eq : OwM P w K mg base (KC K) 2 "__eq__" (spKEq K)) (cS_names : OwM P w K mg base (SC K) 1 "names" (spSNames K)) : FnOk P w K mg base CX0 4 f fd ["self", "x"] (spSIn K) := by
  refine F.ok scSchema_contains (fun vs H Q E h => ?_) (fun cdv A outer s H vs Q E hr h => ?_)
  · obtain ⟨a, rs, v, rfl, _⟩ := h
    rfl
  · obtain ⟨a, rs, v, rfl, f, q, kk⟩ := h
    obtain ⟨⟨dx, t, xs, h1, h2, hl, hx⟩, nd, l4⟩ := id f
    refine ⟨_, PSs.nox (pss_one (ps_ret (pe_cmpR (op_inX (mon_DAsk (K := K)) (eqX_ask (k := 2) KK cK_eq) hr) (pv 1) (pe_om0 (pv 0) SS.cls cS_names hr (by decide)) (by rfl)))), ?_⟩
    refine ⟨_, rfl, ⟨_, rfl, a, dx, _, rfl, h1, rfl, a, rs, rfl, f, fun L H1 nL s1 hL => ⟨L, _, rs.map fun r => askB [(r.1, [], false)] v, rfl, SqL.of hL, by rw [List.length_map, List.length_map], fun i z b hz hb => ?_, fun H2 s2 => ?_⟩⟩⟩
    · rw [List.getElem?_map] at hz hb
      obtain ⟨r, hr', rfl⟩ := Option.map_eq_some_iff.mp hz
      rw [hr'] at hb
      cases hb
      exact ⟨r.1, rfl, q.on s1, rfl⟩
    · rw [ask_any]
      exact kk H2 (s1.trans s2)
theorem ok_Schema_get (SS : OwnK K (SC K)) (KK : OwnK K (KC K)) (n1 : NoAttr K (KC K) "name") (m1 : NoAttr K (SC K) "kinds") {f : Addr} {fd : FuncData} (F : FunD K "__getitem__" "Schema.__getitem__" (defArgs sSchema_getitem) (defBody sSchema_getitem) (defScope sSchema_getitem) [] [] f fd) : FnOk P w K mg base CX0 1 f fd ["self", "at"] (spSGet K) := by
  refine F.ok scSchema_getitem (fun vs H Q E h => ?_) (fun cdv A outer s H vs Q E hr h => ?_)
  · obtain ⟨a, rs, i, r, rfl, _⟩ := h
    rfl
  · obtain ⟨a, rs, i0, r, rfl, f, hi0, kk⟩ := h
    obtain ⟨⟨dx, t, xs, h1, h2, hl, hx⟩, nd, l4⟩ := id f
    refine ⟨_, PSs.nox (pss_cons (ps_for PassesOwn.never rfl (pi_tupK (K := K) (pe_fldK (K := K) (pv 0))) (pg_name (i := 2) scSchema_getitem.nd rfl (Or.inl rfl)) (pss_one (ps_if (pt_cmpR op_eq (pe_fldK (K := K) (pv 2)) (pv 1) (nomark _)) (pss_one (ps_ret (pv 2))) pss_nil)))
  (pss_one ps_dead)), ?_⟩
    have hi0' : i0 < rs.length := (List.getElem?_eq_some_iff.mp hi0).1
    refine st_seq2 ⟨_, rfl, a, _, dx, _, _, rfl, h1, SS.cls, m1, rfl, t, rfl, ⟨_, SqT.of h2⟩, for_it (walk_tup (xs := xs.map V.ref)) (fun i σ' H' => (∃ v2 : Option V, σ' = [some (.ref a), some (.str r.1), v2]) ∧ H' = H ∧ i ≤ i0) ⟨⟨none, rfl⟩, rfl, Nat.zero_le _⟩ (fun i σ' H' _ q => by obtain ⟨_, rfl, _⟩ := q; exact SqT.of h2) ?_ ?_⟩
    · rintro i y σ' H2 H3 hi ⟨⟨v2, rfl⟩, rfl, hle⟩ ⟨rfl, hy⟩
      rw [List.getElem?_map] at hy
      obtain ⟨z, hz, rfl⟩ := Option.map_eq_some_iff.mp hy
      have i1 : i < rs.length := by rw [← hl]; exact (List.getElem?_eq_some_iff.mp hz).1
      have hr1 := List.getElem?_eq_getElem i1
      have kd := hx i z _ hz hr1
      obtain ⟨dy, g, g1, g2⟩ := id kd
      refine ⟨_, rfl, z, _, dy, _, _, rfl, g1, KK.cls, n1, rfl, ⟨_, rfl, rfl, _, rfl, ?_⟩⟩
      by_cases e : rs[i].1 = r.1
      · rw [decide_eq_true (by rw [e])]
        have ei : i = i0 := by
          have e1 : (rs.map (·.1))[i]? = some r.1 := by rw [List.getElem?_map, hr1]; exact congrArg some e
          have e2 : (rs.map (·.1))[i0]? = some r.1 := by rw [List.getElem?_map, hi0]; rfl
          exact (List.getElem?_inj (by rw [List.length_map]; exact i1) nd).mp (e1.trans e2.symm)
        subst ei
        rw [hr1] at hi0
        cases hi0
        exact iteT ⟨_, rfl, kk z kd⟩
      · rw [decide_eq_false (fun q => e (by injection q))]
        refine iteF ⟨⟨_, rfl⟩, rfl, ?_⟩
        by_cases ei : i = i0
        · subst ei
          rw [hr1] at hi0
          cases hi0
          exact absurd rfl e
        · omega
    · rintro σ' H' ⟨_, _, hle⟩
      rw [List.length_map, hl] at hle
      omega
theorem ok_Schema_eq (T : TxtK mg) (KK : OwnK K (KC K)) (SS : OwnK K (SC K)) (m1 : NoAttr K (SC K) "kinds") (gS : mg "Schema" = some (.ref (SC K))) {f : Addr} {fd : FuncData} (F : FunD K "__eq__" "Schema.__eq__" (defArgs sSchema_eq) (defBody sSchema_eq) (defScope sSchema_eq) [] [] f fd) (cK_eq : OwM P w K mg base (KC K) 2 "__eq__" (spKEq K)) : FnOk P w K mg base CX0 4 f fd ["self", "other"] (spSEq K) := by
  refine F.ok scSchema_eq (fun vs H Q E h => ?_) (fun cdv A outer s H vs Q E hr h => ?_)
  · obtain ⟨a, r, v, rfl, _⟩ := h
    rfl
  · obtain ⟨a, rs, v, rfl, f, kk⟩ := h
    obtain ⟨⟨dx, t, xs, h1, h2, hl, hx⟩, nd, l4⟩ := id f
    refine ⟨_, PSs.nox (pss_one (ps_ret (pe_and (pe_callB (call_isiK' (K := K)) (by rfl) T.isinstance (by decide +kernel) (pa_cons (pv 1) (pa_cons (pe_glob (v := .ref (SC K)) rfl gS rfl) pa_nil))) (pe_one (pe_cmpR (op_tupX (mon_DKd (K := K)) (eqX_kd (k := 2) KK cK_eq) hr) (pe_fldK (K := K) (pv 0)) (pe_fldK (K := K) (pv 1)) (nomark _)))))), ?_⟩
    rcases kk with ⟨b, ts, rfl, f2, q⟩ | ⟨⟨t, ty, e1, e2⟩, q⟩
    · obtain ⟨⟨dx', t', xs', g1, g2, gl, gx⟩, nd', l4'⟩ := id f2
      refine ⟨_, rfl, ⟨_, _, _, _, _, rfl, .own _, SS.tyx g1, SS.iS, ⟨_, rfl, iteT ?_⟩⟩⟩
      refine ⟨_, rfl, a, _, dx, _, _, rfl, h1, SS.cls, m1, rfl, ⟨_, rfl, b, _, dx', _, _, rfl, g1, SS.cls, m1, rfl, t, t', xs.map V.ref, xs'.map V.ref, fun i => decide (rs[i]? = ts[i]?), rfl, rfl, SqT.of h2, SqT.of g2, fun i z z' hz hz' => ?_, fun c H' s' hc => ?_⟩⟩
      · rw [List.getElem?_map] at hz hz'
        obtain ⟨x, hx', rfl⟩ := Option.map_eq_some_iff.mp hz
        obtain ⟨y, hy', rfl⟩ := Option.map_eq_some_iff.mp hz'
        have i1 : i < rs.length := by rw [← hl]; exact (List.getElem?_eq_some_iff.mp hx').1
        have i2 : i < ts.length := by rw [← gl]; exact (List.getElem?_eq_some_iff.mp hy').1
        have r1 := List.getElem?_eq_getElem i1
        have r2 := List.getElem?_eq_getElem i2
        refine ⟨x, y, _, _, rfl, rfl, hx i x _ hx' r1, gx i y _ hy' r2, ?_⟩
        show decide (rs[i]? = ts[i]?) = decide (rs[i] = ts[i])
        rw [r1, r2]
        by_cases e : rs[i] = ts[i]
        · rw [e, decide_eq_true rfl, decide_eq_true rfl]
        · rw [decide_eq_false e, decide_eq_false fun q => e (Option.some.inj q)]
      · rw [List.length_map, List.length_map, hl, gl] at hc
        have ec : c = decide (rs = ts) := by
          cases c with
          | true =>
            obtain ⟨h3, h4⟩ := hc.mp rfl
            refine (decide_eq_true (List.ext_getElem? fun i => ?_)).symm
            by_cases hi : i < rs.length
            · exact of_decide_eq_true (h3 i (by omega))
            · rw [List.getElem?_eq_none (by omega), List.getElem?_eq_none (by omega)]
          | false =>
            refine (decide_eq_false fun e => ?_).symm
            subst e
            have := hc.mpr ⟨fun j _ => decide_eq_true rfl, rfl⟩
            cases this
        rw [ec]
        exact q H' s'
    · exact ⟨_, rfl, ⟨_, _, _, _, _, rfl, .own _, ty, e1, ⟨_, rfl, iteF q⟩⟩⟩
theorem ok_Schema_init (T : TxtK mg) (SS : OwnK K (SC K)) (m1 : NoAttr K (SC K) "kinds") {f : Addr} {fd : FuncData} (F : FunD K "__init__" "Schema.__init__" (defArgs sSchema_init) (defBody sSchema_init) (defScope sSchema_init) [] [] f fd) (ccheck_kinds : Cal P w K mg base CX0 2 "check_kinds" (spChkK K)) : FnOk P w K mg base CX0 3 f fd ["self", "kinds"] (spSInit K) := by
  refine F.ok scSchema_init (fun vs H Q E h => ?_) (fun cdv A outer s H vs Q E hr h => ?_)
  · obtain ⟨x, dx, v, us, rfl, _⟩ := h
    rfl
  · obtain ⟨x, dx, v, rs, rfl, hx, f, kk⟩ := h
    refine ⟨_, PSs.nox (pss_cons (ps_expr (pe_c ccheck_kinds hr (by first | decide | omega) (by rfl) (pa_cons (pv 1) pa_nil)))
  (pss_one (ps_fld (pv 0) (pe_callTy (call_tupleK (K := K)) (by rfl) T.tuple (by decide +kernel) (pa_cons (pv 1) pa_nil)) rfl))), ?_⟩
    refine st_seq2 ⟨_, rfl, v, rs, rfl, f, fun H1 s1 => ?_⟩
    have f1 := f.on s1
    have hx1 := s1 _ _ hx
    obtain ⟨⟨a, xs, rfl, ha, hl, hk⟩, nd, l1, l4⟩ := id f1
    rcases ha with ha | ha
    · refine ⟨_, rfl, a, _, rfl, .inl ⟨SqL.of ha, fun l nl => ⟨_, rfl, x, _, dx, _, rfl, Same.new nl _ _ hx1, SS.cls, m1, by decide, ?_⟩⟩⟩
      have nlx : l ≠ x := fun e => by
        rw [e, hx1] at nl
        cases nl
      refine kk _ (fun b o ne e => by rw [upd_ne ne]; exact Same.new nl _ _ (s1 _ _ e)) ⟨⟨dx, l, xs, upd_same, by rw [upd_ne nlx]; exact upd_same, hl, fun i z r hz hr' => ?_⟩, nd, l4⟩
      exact ((hk i z r hz hr').on (Same.new nl)).upd0 (Same.new nl _ _ hx1)
    · refine ⟨_, rfl, a, _, rfl, .inr ⟨SqT.of ha, ⟨_, rfl, x, _, dx, _, rfl, hx1, SS.cls, m1, by decide, ?_⟩⟩⟩
      have nlx : a ≠ x := ne_of ha hx1 (by intro z; cases z)
      exact kk _ (fun b o ne e => by rw [upd_ne ne]; exact s1 _ _ e) ⟨⟨dx, a, xs, upd_same, by rw [upd_ne nlx]; exact ha, hl, fun i z r hz hr' => (hk i z r hz hr').upd0 hx1⟩, nd, l4⟩
end
end Sm
/-! rows of kinds: (name, fields, single), as the law holds them -/
namespace Sm
open PySem PySem.Spec PyProof.Rows L2
/-- all but the list at a stays -/
def Keep (a : Addr) (H H' : Hp) : Prop := ∀ b o, (b = a → ∀ xs, o ≠ .lst xs) → H b = some o → H' b = some o
theorem Off.keep {K : PySem.W.Frag} {H H' : Hp} {p c : Addr} (e : Off p H H') (D : Dr H p c) : Keep p H H' := fun b o n h => by
  refine e b o (fun z => ?_) h
  obtain ⟨_, _, _, _, DD⟩ := D
  have st := DD.st
  rw [← z, h] at st
  exact n z _ (Option.some.inj st)
theorem Keep.put {H : Hp} {a : Addr} {xs ys : List V} (h : H a = some (.lst xs)) : Keep a H (upd H a (.lst ys)) := fun b o n e => by
  by_cases z : b = a
  · rw [z, h] at e
    exact absurd (Option.some.inj e).symm (n z xs)
  · rw [upd_ne z]
    exact e
theorem Keep.same {H H' : Hp} {a : Addr} (e : Same H H') : Keep a H H' := fun b o _ h => e b o h
theorem Keep.off {H H' : Hp} {a : Addr} (e : Keep a H H') : Off a H H' := fun b o n h => e b o (fun z => absurd z n) h
theorem Fl.keep {K : PySem.W.Frag} {H H' : Hp} {a b : Addr} {ws : List Str} (h : Fl K H b ws) (e : Keep a H H') : Fl K H' b ws := by
  obtain ⟨⟨dy, d, h1, h2⟩, q, c⟩ := h
  exact ⟨⟨dy, d, e _ _ (fun _ xs => by intro z; cases z) h1, e _ _ (fun _ xs => by intro z; cases z) h2⟩, q, c⟩
theorem KindO.keep {K : PySem.W.Frag} {H H' : Hp} {a b : Addr} {r : Row} (h : KindO K H b r) (e : Keep a H H') : KindO K H' b r := by
  obtain ⟨dy, f, h1, h2⟩ := h
  exact ⟨dy, f, e _ _ (fun _ xs => by intro z; cases z) h1, h2.keep e⟩
theorem SchO.keep {K : PySem.W.Frag} {H H' : Hp} {a b : Addr} {rs : List Row} (h : SchO K H b rs) (e : Keep a H H') : SchO K H' b rs := by
  obtain ⟨⟨dx, t, xs, h1, h2, h3, h4⟩, q, c⟩ := h
  exact ⟨⟨dx, t, xs, e _ _ (fun _ xs => by intro z; cases z) h1, e _ _ (fun _ xs => by intro z; cases z) h2, h3, fun i x r hx hr => (h4 i x r hx hr).keep e⟩, q, c⟩
/-! ### rows -/
structure RowAt (H : Hp) (t : Addr) (r : Row) : Prop where
  at_ : ∃ c, H t = some (.tup [.str r.1, .ref c, .bl r.2.2]) ∧ H c = some (.lst (r.2.1.map V.str))
theorem RowAt.on {H H' : Hp} {t : Addr} {r : Row} (h : RowAt H t r) (e : Same H H') : RowAt H' t r := by
  obtain ⟨c, h1, h2⟩ := h
  exact ⟨c, e _ _ h1, e _ _ h2⟩
theorem Dr.neStrs {H : Hp} {p c L : Addr} {ws : List Str} (d : Dr H p c) (h : H L = Option.some (.lst (ws.map V.str))) : L ≠ p := by
  rintro rfl
  obtain ⟨_, _, _, _, D⟩ := d
  have e := D.st
  rw [h] at e
  have e2 := HO.lst.inj (Option.some.inj e)
  cases ws with
  | nil => cases e2
  | cons x r => cases e2
theorem Dr.neRefs {H : Hp} {p c L : Addr} {ws : List Addr} (d : Dr H p c) (h : H L = Option.some (.lst (ws.map V.ref))) : L ≠ p := by
  rintro rfl
  obtain ⟨_, _, _, _, D⟩ := d
  have e := D.st
  rw [h] at e
  have e2 := HO.lst.inj (Option.some.inj e)
  cases ws with
  | nil => cases e2
  | cons x r =>
    cases r with
    | nil => cases e2
    | cons y q => cases e2
theorem RowAt.off {H H' : Hp} {t p c : Addr} {r : Row} (h : RowAt H t r) (D : Dr H p c) (e : Off p H H') : RowAt H' t r := by
  obtain ⟨b, h1, h2⟩ := h
  have n2 := D.neStrs h2
  obtain ⟨_, _, _, _, DD⟩ := D
  exact ⟨b, e _ _ (ne_of h1 DD.st (by intro z; cases z)) h1, e _ _ n2 h2⟩
structure RowsAt (H : Hp) (L : Addr) (rs : List Row) : Prop where
  at_ : ∃ ts : List Addr, H L = some (.lst (ts.map V.ref)) ∧ ts.length = rs.length ∧ ∀ (i : Nat) t r, ts[i]? = some t → rs[i]? = some r → RowAt H t r
theorem RowsAt.on {H H' : Hp} {L : Addr} {rs : List Row} (h : RowsAt H L rs) (e : Same H H') : RowsAt H' L rs := by
  obtain ⟨ts, h1, h2, h3⟩ := h
  exact ⟨ts, e _ _ h1, h2, fun i t r ht hr => (h3 i t r ht hr).on e⟩
theorem RowsAt.off {H H' : Hp} {L p c : Addr} {rs : List Row} (h : RowsAt H L rs) (D : Dr H p c) (e : Off p H H') : RowsAt H' L rs := by
  obtain ⟨ts, h1, h2, h3⟩ := h
  exact ⟨ts, e _ _ (D.neRefs h1) h1, h2, fun i t r ht hr => (h3 i t r ht hr).off D e⟩
theorem RowAt.updL {H : Hp} {t L : Addr} {r : Row} {ts : List Addr} {o : HO} (h : RowAt H t r) (hl : 1 ≤ r.2.1.length) (hL : H L = some (.lst (ts.map V.ref))) : RowAt (upd H L o) t r := by
  obtain ⟨b, h1, h2⟩ := h
  have nb : b ≠ L := ne_of h2 hL fun z => by
    have e2 := HO.lst.inj z
    cases hr : r.2.1 with
    | nil => rw [hr] at hl; exact absurd hl (by decide)
    | cons y q =>
      rw [hr] at e2
      cases ts with
      | nil => cases e2
      | cons t' q' => cases e2
  exact ⟨b, by rw [upd_ne (ne_of h1 hL (by intro z; cases z))]; exact h1, by rw [upd_ne nb]; exact h2⟩
/-- one more row -/
theorem RowsAt.snoc {H : Hp} {L T : Addr} {rs : List Row} {r : Row} {ts : List Addr} (h1 : H L = some (.lst (ts.map V.ref))) (h2 : ts.length = rs.length) (h3 : ∀ (i : Nat) t r, ts[i]? = some t → rs[i]? = some r → RowAt H t r) (hl : ∀ r ∈ rs, 1 ≤ r.2.1.length) (k : RowAt H T r) (kl : 1 ≤ r.2.1.length) : RowsAt (upd H L (.lst (ts.map V.ref ++ [.ref T]))) L (rs ++ [r]) := by
  refine ⟨ts ++ [T], by rw [upd_same, List.map_append]; rfl, by rw [List.length_append, List.length_append, h2]; rfl, fun i y t hy ht => ?_⟩
  by_cases hi : i < ts.length
  · rw [List.getElem?_append_left hi] at hy
    rw [List.getElem?_append_left (by rw [← h2]; exact hi)] at ht
    exact (h3 i y t hy ht).updL (hl t (List.mem_of_getElem? ht)) h1
  · rw [List.getElem?_append_right (by omega)] at hy
    rw [List.getElem?_append_right (by rw [← h2]; omega), ← h2] at ht
    cases hj : i - ts.length with
    | zero =>
      rw [hj] at hy ht
      cases hy
      cases ht
      exact k.updL kl h1
    | succ n =>
      rw [hj] at hy
      cases hy
/-- a row as it is drawn -/
structure GoodRow (r : Row) : Prop where
  nm : r.1 ∈ allWords
  asc : AscS r.2.1
  sub : ∀ x ∈ r.2.1, x ∈ allWords
  l1 : 1 ≤ r.2.1.length
  l4 : r.2.1.length ≤ 4
/-- a row that makes a kind -/
structure OkRow (r : Row) : Prop where
  nm : wordB r.1 = true
  nd : r.2.1.Nodup
  ok : ∀ x ∈ r.2.1, wordB x = true
  l1 : 1 ≤ r.2.1.length
  l4 : r.2.1.length ≤ 4
theorem GoodRow.ok {r : Row} (g : GoodRow r) : OkRow r := ⟨allWords_word _ g.nm, g.asc.nodup, fun x hx => allWords_word x (g.sub x hx), g.l1, g.l4⟩
def norm (r : Row) : Row := (r.1, rising r.2.1, r.2.2)
theorem GoodRow.norm {r : Row} (g : GoodRow r) : norm r = r := by
  obtain ⟨n, ws, o⟩ := r
  have e : rising ws = ws := asc_ext (asc_rising g.asc.nodup) g.asc fun z => mem_rising g.asc.nodup z
  show (n, rising ws, o) = (n, ws, o)
  rw [e]
/-- the four that are unlike -/
def unlike4 (r : Row) : List Row := [("other", r.2.1, r.2.2), (r.1, r.2.1, !r.2.2), (r.1, r.2.1.take (r.2.1.length - 1) ++ [("other" : Str)], r.2.2), if 1 < r.2.1.length then (r.1, r.2.1.drop 1, r.2.2) else (r.1, r.2.1 ++ [("other" : Str)], r.2.2)]
theorem other_not : ("other" : Str) ∉ allWords := by decide +kernel
theorem other_word : wordB "other" = true := by decide +kernel
theorem unlike_ok {r u : Row} (g : GoodRow r) (h : u ∈ unlike4 r) : OkRow u ∧ norm u ≠ r ∧ (u.1 = r.1 ∨ u.1 = "other") := by
  have go := g.ok
  have no : ("other" : Str) ∉ r.2.1 := fun q => other_not (g.sub _ q)
  have ndo : ∀ {xs : List Str}, xs.Sublist r.2.1 → (xs ++ [("other" : Str)]).Nodup := fun {xs} s => List.nodup_append.mpr ⟨s.nodup go.nd, by decide, fun a ha b hb => by
    rw [List.mem_singleton.mp hb]
    rintro rfl
    exact no (s.subset ha)⟩
  have oko : ∀ {xs : List Str}, xs.Sublist r.2.1 → ∀ x ∈ xs ++ [("other" : Str)], wordB x = true := fun {xs} s x hx => by
    rcases List.mem_append.mp hx with q | q
    · exact go.ok x (s.subset q)
    · rw [List.mem_singleton.mp q]
      exact other_word
  have neo : ∀ {xs : List Str} {n : Str} {o : Bool}, xs.Sublist r.2.1 → norm (n, xs ++ [("other" : Str)], o) ≠ r := fun {xs n o} s e => by
    have e2 : rising (xs ++ [("other" : Str)]) = r.2.1 := congrArg (fun z : Row => z.2.1) e
    have q := (mem_rising (ndo s) "other").mpr (List.mem_append_right _ (List.mem_singleton.mpr rfl))
    rw [e2] at q
    exact no q
  unfold unlike4 at h
  rcases List.mem_cons.mp h with rfl | h
  · refine ⟨⟨other_word, go.nd, go.ok, go.l1, go.l4⟩, fun e => ?_, .inr rfl⟩
    have e2 : ("other" : Str) = r.1 := congrArg (fun z : Row => z.1) e
    exact other_not (e2 ▸ g.nm)
  rcases List.mem_cons.mp h with rfl | h
  · refine ⟨⟨go.nm, go.nd, go.ok, go.l1, go.l4⟩, fun e => ?_, .inl rfl⟩
    have e2 : (!r.2.2) = r.2.2 := congrArg (fun z : Row => z.2.2) e
    cases q : r.2.2 <;> rw [q] at e2 <;> cases e2
  have l1 := g.l1
  have l4 := g.l4
  rcases List.mem_cons.mp h with rfl | h
  · have s : (r.2.1.take (r.2.1.length - 1)).Sublist r.2.1 := List.take_sublist ..
    refine ⟨⟨go.nm, ndo s, oko s, ?_, ?_⟩, neo s, .inl rfl⟩
    · show 1 ≤ ((_ : List Str) ++ _).length
      rw [List.length_append, List.length_singleton]
      omega
    · show ((_ : List Str) ++ _).length ≤ 4
      rw [List.length_append, List.length_singleton, List.length_take]
      omega
  rw [List.mem_singleton.mp h]
  by_cases hl : 1 < r.2.1.length
  · rw [if_pos hl]
    have s : (r.2.1.drop 1).Sublist r.2.1 := List.drop_sublist ..
    refine ⟨⟨go.nm, s.nodup go.nd, fun x hx => go.ok x (s.subset hx), ?_, ?_⟩, fun e => ?_, .inl rfl⟩
    · show 1 ≤ (_ : List Str).length
      rw [List.length_drop]
      omega
    · show (_ : List Str).length ≤ 4
      rw [List.length_drop]
      omega
    · have e2 : rising (r.2.1.drop 1) = r.2.1 := congrArg (fun z : Row => z.2.1) e
      have e3 := congrArg List.length e2
      rw [rising_len, List.length_drop] at e3
      omega
  · rw [if_neg hl]
    have s := List.Sublist.refl r.2.1
    refine ⟨⟨go.nm, ndo s, oko s, ?_, ?_⟩, neo s, .inl rfl⟩
    · show 1 ≤ ((_ : List Str) ++ _).length
      rw [List.length_append, List.length_singleton]
      omega
    · show ((_ : List Str) ++ _).length ≤ 4
      rw [List.length_append, List.length_singleton]
      omega
/-! ### Kind objects of rows -/
def KindsAt (K : PySem.W.Frag) (H : Hp) (xs : List Addr) (rs : List Row) : Prop := xs.length = rs.length ∧ ∀ (i : Nat) x r, xs[i]? = some x → rs[i]? = some r → KindO K H x r
theorem KindsAt.keep {K : PySem.W.Frag} {H H' : Hp} {a : Addr} {xs : List Addr} {rs : List Row} (h : KindsAt K H xs rs) (e : Keep a H H') : KindsAt K H' xs rs := ⟨h.1, fun i x r hx hr => (h.2 i x r hx hr).keep e⟩
theorem KindsAt.on {K : PySem.W.Frag} {H H' : Hp} {xs : List Addr} {rs : List Row} (h : KindsAt K H xs rs) (e : Same H H') : KindsAt K H' xs rs := ⟨h.1, fun i x r hx hr => (h.2 i x r hx hr).on e⟩
theorem KindsAt.snoc {K : PySem.W.Frag} {H : Hp} {xs : List Addr} {rs : List Row} {x : Addr} {r : Row} (h : KindsAt K H xs rs) (k : KindO K H x r) : KindsAt K H (xs ++ [x]) (rs ++ [r]) := by
  refine ⟨by rw [List.length_append, List.length_append, h.1]; rfl, fun i y t hy ht => ?_⟩
  by_cases hi : i < xs.length
  · rw [List.getElem?_append_left hi] at hy
    rw [List.getElem?_append_left (by rw [← h.1]; exact hi)] at ht
    exact h.2 i y t hy ht
  · rw [List.getElem?_append_right (by omega)] at hy
    rw [List.getElem?_append_right (by rw [← h.1]; omega), ← h.1] at ht
    cases hj : i - xs.length with
    | zero =>
      rw [hj] at hy ht
      cases hy
      cases ht
      exact k
    | succ n =>
      rw [hj] at hy
      cases hy
/-! ### promises -/
def spHanded (K : PySem.W.Frag) : Sp := fun vs H Q _ => ∃ (p c a : Addr) (xs : List V), vs = [.ref p, .ref a] ∧ Dr H p c ∧ SqL K H a xs ∧ a ≠ p ∧ xs.length ≤ 1000 ∧
  ∀ L H', H L = none → Off p H H' → Dr H' p c → (H' L = some (.lst xs) ∨ H' L = some (.tup xs)) → Q (.ref L) H'
def spKinds : Sp := fun vs H Q _ => ∃ (p c : Addr) (m : Nat), vs = [.ref p, .int (m : Int)] ∧ Dr H p c ∧ 1 ≤ m ∧ m ≤ 4 ∧
  ∀ L (rs : List Row) H', H L = none → Off p H H' → Dr H' p c → RowsAt H' L rs → 1 ≤ rs.length → rs.length ≤ 4 → (rs.map (·.1)).Nodup → (∀ r ∈ rs, GoodRow r) → Q (.ref L) H'
def spSpoilt : Sp := fun vs H Q _ => ∃ (a : Addr) (xs : List V), vs = [.ref a] ∧ (H a = some (.lst xs) ∨ H a = some (.tup xs)) ∧ xs.length ≤ 1000 ∧ ∀ H', Keep a H H' → Q .non H'
def spMade (K : PySem.W.Frag) : Sp := fun vs H Q _ => ∃ (p c t : Addr) (r : Row), vs = [.ref p, .ref t] ∧ Dr H p c ∧ RowAt H t r ∧ OkRow r ∧
  ∀ a H', H a = none → Off p H H' → Dr H' p c → KindO K H' a (norm r) → Q (.ref a) H'
def spTold (K : PySem.W.Frag) : Sp := fun vs H Q _ => ∃ (k : Addr) (r : Row), vs = [.ref k] ∧ KindO K H k r ∧ r.2.1.length ≤ 4 ∧
  ∀ L W H', H L = none → Same H H' → H' L = some (.lst [.str r.1, .ref W, .bl r.2.2, .bl true]) → H' W = some (.lst (r.2.1.map V.str)) → Q (.ref L) H'
def spNamesTold (K : PySem.W.Frag) : Sp := fun vs H Q _ => ∃ (s L : Addr) (rs : List Row), vs = [.ref s, .ref L] ∧ SchO K H s rs ∧ RowsAt H L rs ∧ 1 ≤ rs.length ∧ (∀ r ∈ rs, r.1 ∈ allWords) ∧ ∀ H', Same H H' → Q (.bl true) H'
def spUnlike : Sp := fun vs H Q _ => ∃ (t : Addr) (r : Row), vs = [.ref t] ∧ RowAt H t r ∧ GoodRow r ∧ ∀ L H', H L = none → Same H H' → RowsAt H' L (unlike4 r) → Q (.ref L) H'
end Sm
/-! data at any depth, outside of the lists that are changed -/
namespace Sm
open PySem PySem.Spec PyProof.Rows L2
/-- all is kept but the lists of X -/
def Fr (X : List Addr) (H H' : Hp) : Prop := ∀ b o, (b ∈ X → ∀ xs, o ≠ .lst xs) → H b = some o → H' b = some o
theorem Same.fr {X : List Addr} {H H' : Hp} (e : Same H H') : Fr X H H' := fun b o _ h => e b o h
theorem Fr.refl {X : List Addr} {H : Hp} : Fr X H H := fun _ _ _ h => h
theorem Fr.trans {X : List Addr} {H H1 H2 : Hp} (a : Fr X H H1) (b : Fr X H1 H2) : Fr X H H2 := fun c o n h => b c o n (a c o n h)
theorem Fr.mono {X Y : List Addr} {H H' : Hp} (a : Fr X H H') (s : ∀ q ∈ X, q ∈ Y) : Fr Y H H' := fun b o n h => a b o (fun q => n (s b q)) h
theorem Fr.new {X : List Addr} {H : Hp} {p : Addr} {o : HO} (h : H p = none) : Fr X H (upd H p o) := Same.fr (Same.new h)
theorem Fr.put {X : List Addr} {H : Hp} {a : Addr} {xs ys : List V} (h : H a = some (.lst xs)) (m : a ∈ X) : Fr X H (upd H a (.lst ys)) := fun b o n e => by
  by_cases q : b = a
  · subst q
    rw [h] at e
    cases e
    exact absurd rfl (n m _)
  · rw [upd_ne q]
    exact e
theorem Fr.fresh {X : List Addr} {q : Addr} {H H' : Hp} (a : Fr (q :: X) H H') (h : H q = none) : Fr X H H' := fun b o n e => a b o (fun m => (List.mem_cons.mp m).elim (fun z => by rw [z, h] at e; cases e) n) e
theorem Fr.off {p : Addr} {H H' : Hp} (a : Fr [p] H H') : Off p H H' := fun b o n e => a b o (fun m => absurd (List.mem_singleton.mp m) n) e
theorem Fr.same {H H' : Hp} (a : Fr [] H H') : Same H H' := fun b o e => a b o (fun m => absurd m List.not_mem_nil) e
theorem Fr.keep {p : Addr} {H H' : Hp} (a : Fr [p] H H') : Keep p H H' := fun b o n e => a b o (fun m => n (List.mem_singleton.mp m)) e
theorem Keep.fr {p : Addr} {H H' : Hp} (a : Keep p H H') : Fr [p] H H' := fun b o n e => a b o (fun z => n (List.mem_singleton.mpr z)) e
theorem Off.fr {p c : Addr} {H H' : Hp} (e : Off p H H') (D : Dr H p c) : Fr [p] H H' := Keep.fr (e.keep (K := []) D)
theorem Fr.lst {X : List Addr} {H H' : Hp} {a : Addr} {xs : List V} (e : Fr X H H') (n : a ∉ X) (h : H a = some (.lst xs)) : H' a = some (.lst xs) := e a _ (fun m => absurd m n) h
theorem Fr.tup {X : List Addr} {H H' : Hp} {a : Addr} {xs : List V} (e : Fr X H H') (h : H a = some (.tup xs)) : H' a = some (.tup xs) := e a _ (fun _ _ z => by cases z) h
theorem Fr.ins {X : List Addr} {H H' : Hp} {a C dx : Addr} {fs : List (Str × V)} (e : Fr X H H') (h : H a = some (.ins C dx fs)) : H' a = some (.ins C dx fs) := e a _ (fun _ _ z => by cases z) h
theorem Fr.dK {X : List Addr} {H H' : Hp} {a : Addr} {kvs : List (Key × V)} (e : Fr X H H') (h : H a = some (.dK kvs)) : H' a = some (.dK kvs) := e a _ (fun _ _ z => by cases z) h
/-- what is new at the end was new at the start, if it is none of X -/
theorem Fr.free {X : List Addr} {H H' : Hp} {q : Addr} (e : Fr X H H') (n : q ∉ X) (h : H' q = none) : H q = none := by
  cases z : H q with
  | none => rfl
  | some o =>
    have := e q o (fun m => absurd m n) z
    rw [h] at this
    cases this
theorem Fl.fr {K : PySem.W.Frag} {X : List Addr} {H H' : Hp} {a : Addr} {ws : List Str} (h : Fl K H a ws) (e : Fr X H H') : Fl K H' a ws := by
  obtain ⟨⟨dx, d, h1, h2⟩, b, c⟩ := h
  exact ⟨⟨dx, d, e.ins h1, e.dK h2⟩, b, c⟩
theorem KindO.fr {K : PySem.W.Frag} {X : List Addr} {H H' : Hp} {a : Addr} {r : Row} (h : KindO K H a r) (e : Fr X H H') : KindO K H' a r := by
  obtain ⟨dx, f, h1, h2⟩ := h
  exact ⟨dx, f, e.ins h1, h2.fr e⟩
theorem SchO.fr {K : PySem.W.Frag} {X : List Addr} {H H' : Hp} {a : Addr} {rs : List Row} (h : SchO K H a rs) (e : Fr X H H') : SchO K H' a rs := by
  obtain ⟨⟨dx, t, xs, h1, h2, h3, h4⟩, b, c⟩ := h
  exact ⟨⟨dx, t, xs, e.ins h1, e.tup h2, h3, fun i x r hx hr => (h4 i x r hx hr).fr e⟩, b, c⟩
/-! ### data -/
mutual
inductive Dat (Z : Addr → Prop) (H : Hp) : V → PyData → Prop
  | non : Dat Z H .non .none
  | bl (b : Bool) : Dat Z H (.bl b) (.bool b)
  | int (i : Int) : Dat Z H (.int i) (.int i)
  | str (x : Str) : Dat Z H (.str x) (.str x)
  | lst {a : Addr} {xs : List V} {ds : List PyData} : Z a → H a = some (.lst xs) → Dats Z H xs ds → Dat Z H (.ref a) (.list ds)
  | tup {a : Addr} {xs : List V} {ds : List PyData} : H a = some (.tup xs) → Dats Z H xs ds → Dat Z H (.ref a) (.tuple ds)
inductive Dats (Z : Addr → Prop) (H : Hp) : List V → List PyData → Prop
  | nil : Dats Z H [] []
  | cons {v : V} {vs : List V} {d : PyData} {ds : List PyData} : Dat Z H v d → Dats Z H vs ds → Dats Z H (v :: vs) (d :: ds)
end
/-- outside of X -/
abbrev Nx (X : List Addr) : Addr → Prop := fun a => a ∉ X
/-- not there in H -/
abbrev New (H : Hp) : Addr → Prop := fun a => H a = none
mutual
theorem Dat.go {Z Z' : Addr → Prop} {H H' : Hp} (hl : ∀ a xs, Z a → H a = some (.lst xs) → Z' a ∧ H' a = some (.lst xs)) (ht : ∀ a xs, H a = some (.tup xs) → H' a = some (.tup xs)) : ∀ (d : PyData) (v : V), Dat Z H v d → Dat Z' H' v d
  | .none, _, h => by cases h; exact .non
  | .bool b, _, h => by cases h; exact .bl b
  | .int i, _, h => by cases h; exact .int i
  | .str x, _, h => by cases h; exact .str x
  | .list ds, _, h => by
    cases h with
    | lst z e q => exact .lst (hl _ _ z e).1 (hl _ _ z e).2 (Dats.go hl ht ds _ q)
  | .tuple ds, _, h => by
    cases h with
    | tup e q => exact .tup (ht _ _ e) (Dats.go hl ht ds _ q)
  | .dict _, _, h => by cases h
theorem Dats.go {Z Z' : Addr → Prop} {H H' : Hp} (hl : ∀ a xs, Z a → H a = some (.lst xs) → Z' a ∧ H' a = some (.lst xs)) (ht : ∀ a xs, H a = some (.tup xs) → H' a = some (.tup xs)) : ∀ (ds : List PyData) (vs : List V), Dats Z H vs ds → Dats Z' H' vs ds
  | [], _, h => by cases h; exact .nil
  | d :: ds, _, h => by
    cases h with
    | cons h1 h2 => exact .cons (Dat.go hl ht d _ h1) (Dats.go hl ht ds _ h2)
end
theorem Dat.mono {Z Z' : Addr → Prop} {H : Hp} {v : V} {d : PyData} (h : Dat Z H v d) (hz : ∀ a xs, Z a → H a = some (.lst xs) → Z' a) : Dat Z' H v d := Dat.go (fun a xs z e => ⟨hz a xs z e, e⟩) (fun _ _ e => e) d v h
theorem Dats.mono {Z Z' : Addr → Prop} {H : Hp} {v : List V} {d : List PyData} (h : Dats Z H v d) (hz : ∀ a xs, Z a → H a = some (.lst xs) → Z' a) : Dats Z' H v d := Dats.go (fun a xs z e => ⟨hz a xs z e, e⟩) (fun _ _ e => e) d v h
theorem Dat.same {Z : Addr → Prop} {H H' : Hp} {v : V} {d : PyData} (h : Dat Z H v d) (e : Same H H') : Dat Z H' v d := Dat.go (fun a xs z q => ⟨z, e _ _ q⟩) (fun _ _ q => e _ _ q) d v h
theorem Dats.same {Z : Addr → Prop} {H H' : Hp} {v : List V} {d : List PyData} (h : Dats Z H v d) (e : Same H H') : Dats Z H' v d := Dats.go (fun a xs z q => ⟨z, e _ _ q⟩) (fun _ _ q => e _ _ q) d v h
theorem Dat.fr {X : List Addr} {H H' : Hp} {v : V} {d : PyData} (h : Dat (Nx X) H v d) (e : Fr X H H') : Dat (Nx X) H' v d := Dat.go (fun a xs z q => ⟨z, e.lst z q⟩) (fun _ _ q => e.tup q) d v h
theorem Dats.fr {X : List Addr} {H H' : Hp} {v : List V} {d : List PyData} (h : Dats (Nx X) H v d) (e : Fr X H H') : Dats (Nx X) H' v d := Dats.go (fun a xs z q => ⟨z, e.lst z q⟩) (fun _ _ q => e.tup q) d v h
theorem Dat.add {X : List Addr} {q : Addr} {H : Hp} {v : V} {d : PyData} (h : Dat (Nx X) H v d) (n : H q = none) : Dat (Nx (q :: X)) H v d := h.mono fun a xs z e m => (List.mem_cons.mp m).elim (fun y => by rw [y, n] at e; cases e) z
theorem Dats.add {X : List Addr} {q : Addr} {H : Hp} {v : List V} {d : List PyData} (h : Dats (Nx X) H v d) (n : H q = none) : Dats (Nx (q :: X)) H v d := h.mono fun a xs z e m => (List.mem_cons.mp m).elim (fun y => by rw [y, n] at e; cases e) z
theorem Dat.less {X Y : List Addr} {H : Hp} {v : V} {d : PyData} (h : Dat (Nx Y) H v d) (s : ∀ q ∈ X, q ∈ Y) : Dat (Nx X) H v d := h.mono fun a xs z e m => z (s a m)
theorem Dats.less {X Y : List Addr} {H : Hp} {v : List V} {d : List PyData} (h : Dats (Nx Y) H v d) (s : ∀ q ∈ X, q ∈ Y) : Dats (Nx X) H v d := h.mono fun a xs z e m => z (s a m)
theorem Dat.old {X : List Addr} {H H' : Hp} {v : V} {d : PyData} (h : Dat (New H) H' v d) (s : ∀ q ∈ X, H q ≠ none) : Dat (Nx X) H' v d := h.mono fun a xs z e m => s a m z
theorem Dats.old {X : List Addr} {H H' : Hp} {v : List V} {d : List PyData} (h : Dats (New H) H' v d) (s : ∀ q ∈ X, H q ≠ none) : Dats (Nx X) H' v d := h.mono fun a xs z e m => s a m z
/-- new beside a later heap is new beside an earlier one -/
theorem Dat.back {X : List Addr} {H0 H H' : Hp} {v : V} {d : PyData} (h : Dat (New H) H' v d) (e : Fr X H0 H) (hX : ∀ q ∈ X, H q ≠ none) : Dat (New H0) H' v d := h.mono fun a xs z _ => e.free (fun m => hX a m z) z
theorem Dats.back {X : List Addr} {H0 H H' : Hp} {v : List V} {d : List PyData} (h : Dats (New H) H' v d) (e : Fr X H0 H) (hX : ∀ q ∈ X, H q ≠ none) : Dats (New H0) H' v d := h.mono fun a xs z _ => e.free (fun m => hX a m z) z
theorem Dats.len {Z : Addr → Prop} {H : Hp} : ∀ {vs : List V} {ds : List PyData}, Dats Z H vs ds → vs.length = ds.length
  | [], _, h => by cases h; rfl
  | _ :: _, _, h => by
    cases h with
    | cons _ q => rw [List.length_cons, List.length_cons, q.len]
theorem Dats.get {Z : Addr → Prop} {H : Hp} : ∀ {vs : List V} {ds : List PyData}, Dats Z H vs ds → ∀ {i : Nat} {v : V}, vs[i]? = some v → ∃ d, ds[i]? = some d ∧ Dat Z H v d
  | [], _, _, _, _, e => by cases e
  | _ :: _, _, h, 0, _, e => by
    cases h with
    | cons q _ => cases e; exact ⟨_, rfl, q⟩
  | _ :: _, _, h, i + 1, _, e => by
    cases h with
    | cons _ q => exact q.get (i := i) e
theorem Dats.get' {Z : Addr → Prop} {H : Hp} {vs : List V} {ds : List PyData} (h : Dats Z H vs ds) {i : Nat} {d : PyData} (e : ds[i]? = some d) : ∃ v, vs[i]? = some v ∧ Dat Z H v d := by
  have hi := (List.getElem?_eq_some_iff.mp e).1
  obtain ⟨d', e', q⟩ := h.get (List.getElem?_eq_getElem (by rw [h.len]; exact hi))
  rw [e] at e'
  cases e'
  exact ⟨_, List.getElem?_eq_getElem (by rw [h.len]; exact hi), q⟩
theorem Dats.app {Z : Addr → Prop} {H : Hp} : ∀ {vs us : List V} {ds es : List PyData}, Dats Z H vs ds → Dats Z H us es → Dats Z H (vs ++ us) (ds ++ es)
  | [], _, _, _, h, g => by cases h; exact g
  | _ :: _, _, _, _, h, g => by
    cases h with
    | cons a q => exact .cons a (q.app g)
theorem Dats.one {Z : Addr → Prop} {H : Hp} {v : V} {d : PyData} (h : Dat Z H v d) : Dats Z H [v] [d] := .cons h .nil
theorem Dats.take {Z : Addr → Prop} {H : Hp} : ∀ {vs : List V} {ds : List PyData} (n : Nat), Dats Z H vs ds → Dats Z H (vs.take n) (ds.take n)
  | [], _, n, h => by cases h; rw [List.take_nil, List.take_nil]; exact .nil
  | _ :: _, _, 0, h => .nil
  | _ :: _, _, n + 1, h => by
    cases h with
    | cons a q => exact .cons a (q.take n)
theorem Dats.drop {Z : Addr → Prop} {H : Hp} : ∀ {vs : List V} {ds : List PyData} (n : Nat), Dats Z H vs ds → Dats Z H (vs.drop n) (ds.drop n)
  | [], _, n, h => by cases h; rw [List.drop_nil, List.drop_nil]; exact .nil
  | _ :: _, _, 0, h => h
  | _ :: _, _, n + 1, h => by
    cases h with
    | cons a q => exact q.drop n
theorem Dats.rev {Z : Addr → Prop} {H : Hp} : ∀ {vs : List V} {ds : List PyData}, Dats Z H vs ds → Dats Z H vs.reverse ds.reverse
  | [], _, h => by cases h; exact .nil
  | _ :: _, _, h => by
    cases h with
    | cons a q => rw [List.reverse_cons, List.reverse_cons]; exact q.rev.app (.one a)
def sds (ws : List Str) : List PyData := ws.map .str
theorem Dats.sds {Z : Addr → Prop} {H : Hp} : ∀ {ws : List Str}, Dats Z H (ws.map V.str) (sds ws)
  | [] => .nil
  | w :: r => .cons (.str w) Dats.sds
theorem Dats.sds_inv {Z : Addr → Prop} {H : Hp} : ∀ {ws : List Str} {vs : List V}, Dats Z H vs (Sm.sds ws) → vs = ws.map V.str
  | [], _, h => by cases h; rfl
  | w :: r, _, h => by
    cases h with
    | cons a q => cases a; rw [q.sds_inv]; rfl
theorem Dat.lst_inv {Z : Addr → Prop} {H : Hp} {v : V} {ds : List PyData} (h : Dat Z H v (.list ds)) : ∃ a xs, v = .ref a ∧ Z a ∧ H a = some (.lst xs) ∧ Dats Z H xs ds := by
  cases h with
  | lst z e q => exact ⟨_, _, rfl, z, e, q⟩
theorem Dat.tup_inv {Z : Addr → Prop} {H : Hp} {v : V} {ds : List PyData} (h : Dat Z H v (.tuple ds)) : ∃ a xs, v = .ref a ∧ H a = some (.tup xs) ∧ Dats Z H xs ds := by
  cases h with
  | tup e q => exact ⟨_, _, rfl, e, q⟩
theorem Dat.sds_inv {Z : Addr → Prop} {H : Hp} {v : V} {ws : List Str} (h : Dat Z H v (.list (Sm.sds ws))) : ∃ a, v = .ref a ∧ Z a ∧ H a = some (.lst (ws.map V.str)) := by
  obtain ⟨a, xs, rfl, z, e, q⟩ := h.lst_inv
  rw [q.sds_inv] at e
  exact ⟨a, rfl, z, e⟩
theorem Dat.sds {Z : Addr → Prop} {H : Hp} {a : Addr} {ws : List Str} (z : Z a) (h : H a = some (.lst (ws.map V.str))) : Dat Z H (.ref a) (.list (Sm.sds ws)) := .lst z h Dats.sds
mutual
theorem Dat.dp {K : PySem.W.Frag} {Z : Addr → Prop} {H : Hp} : ∀ (d : PyData) (v : V), Dat Z H v d → Dp K H v d
  | .none, _, h => by cases h; exact .non
  | .bool b, _, h => by cases h; exact .bl b
  | .int i, _, h => by cases h; exact .int i
  | .str x, _, h => by cases h; exact .str x
  | .list ds, _, h => by
    cases h with
    | lst z e q => exact .lst (.of e) (Dats.dp ds _ q)
  | .tuple ds, _, h => by
    cases h with
    | tup e q => exact .tup (.of e) (Dats.dp ds _ q)
  | .dict _, _, h => by cases h
theorem Dats.dp {K : PySem.W.Frag} {Z : Addr → Prop} {H : Hp} : ∀ (ds : List PyData) (vs : List V), Dats Z H vs ds → DpAll K H vs ds
  | [], _, h => by cases h; exact .nil
  | d :: ds, _, h => by
    cases h with
    | cons h1 h2 => exact .cons (Dat.dp d _ h1) (Dats.dp ds _ h2)
end
/-! ### sizes -/
mutual
def fits : PyData → Nat → Bool
  | .none, _ => true
  | .bool _, _ => true
  | .int _, _ => true
  | .str x, _ => PyData.strOk x
  | .list _, 0 => false
  | .list ds, n + 1 => decide (ds.length ≤ 10000) && fitsAll ds n
  | .tuple _, 0 => false
  | .tuple ds, n + 1 => decide (ds.length ≤ 10000) && fitsAll ds n
  | .dict _, _ => false
def fitsAll : List PyData → Nat → Bool
  | [], _ => true
  | d :: ds, n => fits d n && fitsAll ds n
end
theorem fitsAll_get : ∀ {ds : List PyData} {n i : Nat} {d : PyData}, fitsAll ds n = true → ds[i]? = some d → fits d n = true
  | [], _, _, _, _, e => by cases e
  | d :: ds, n, 0, _, h, e => by
    unfold fitsAll at h
    cases e
    exact (Bool.and_eq_true_iff.mp h).1
  | d :: ds, n, i + 1, _, h, e => by
    unfold fitsAll at h
    exact fitsAll_get (Bool.and_eq_true_iff.mp h).2 (i := i) e
theorem fitsAll_of : ∀ {ds : List PyData} {n : Nat}, (∀ d ∈ ds, fits d n = true) → fitsAll ds n = true
  | [], _, _ => rfl
  | d :: ds, n, h => by
    unfold fitsAll
    rw [h d (List.mem_cons_self ..), Bool.true_and]
    exact fitsAll_of fun x hx => h x (List.mem_cons_of_mem _ hx)
theorem fits_list {ds : List PyData} {n : Nat} (hl : ds.length ≤ 10000) (h : ∀ d ∈ ds, fits d n = true) : fits (.list ds) (n + 1) = true := by
  unfold fits
  rw [decide_eq_true hl, Bool.true_and]
  exact fitsAll_of h
theorem fits_tuple {ds : List PyData} {n : Nat} (hl : ds.length ≤ 10000) (h : ∀ d ∈ ds, fits d n = true) : fits (.tuple ds) (n + 1) = true := by
  unfold fits
  rw [decide_eq_true hl, Bool.true_and]
  exact fitsAll_of h
theorem fits_sds {ws : List Str} {n : Nat} (hl : ws.length ≤ 10000) (h : ∀ w ∈ ws, PyData.strOk w = true) : fits (.list (sds ws)) (n + 1) = true := by
  refine fits_list (by unfold sds; rw [List.length_map]; exact hl) fun d hd => ?_
  obtain ⟨w, hw, rfl⟩ := List.mem_map.mp hd
  unfold fits
  exact h w hw
mutual
theorem same_dat {Z Z' : Addr → Prop} {H : Hp} : ∀ (d : PyData) (n : Nat) (v u : V), fits d n = true → Dat Z H v d → Dat Z' H u d → SameB H (n + 1) v u true
  | .none, n, _, _, _, h, g => by cases h; cases g; have q : SameB H (n + 1) .non .non (decide (V.non = V.non)) := .sc rfl rfl; rw [decide_eq_true rfl] at q; exact q
  | .bool b, n, _, _, _, h, g => by cases h; cases g; have q : SameB H (n + 1) (.bl b) (.bl b) (decide (V.bl b = V.bl b)) := .sc rfl rfl; rw [decide_eq_true rfl] at q; exact q
  | .int b, n, _, _, _, h, g => by cases h; cases g; have q : SameB H (n + 1) (.int b) (.int b) (decide (V.int b = V.int b)) := .sc rfl rfl; rw [decide_eq_true rfl] at q; exact q
  | .str b, n, _, _, _, h, g => by cases h; cases g; have q : SameB H (n + 1) (.str b) (.str b) (decide (V.str b = V.str b)) := .sc rfl rfl; rw [decide_eq_true rfl] at q; exact q
  | .list ds, 0, _, _, f, _, _ => by unfold fits at f; cases f
  | .tuple ds, 0, _, _, f, _, _ => by unfold fits at f; cases f
  | .list ds, n + 1, _, _, f, h, g => by
    unfold fits at f
    obtain ⟨f1, f2⟩ := Bool.and_eq_true_iff.mp f
    cases h with
    | lst z e q => cases g with
      | lst z' e' q' =>
        have r : SameB H (n + 2) _ _ ((ds.map fun _ => true).all id) := SameB.lst e e' (by rw [q.len, q'.len]) (by rw [q.len, List.length_map]) (by rw [q.len]; exact of_decide_eq_true f1) (sames_dat ds n _ _ f2 q q')
        have e : (ds.map fun _ => true).all id = true := by rw [List.all_map, List.all_eq_true]; exact fun _ _ => rfl
        rw [e] at r
        exact r
  | .tuple ds, n + 1, _, _, f, h, g => by
    unfold fits at f
    obtain ⟨f1, f2⟩ := Bool.and_eq_true_iff.mp f
    cases h with
    | tup e q => cases g with
      | tup e' q' =>
        have r : SameB H (n + 2) _ _ ((ds.map fun _ => true).all id) := SameB.tup e e' (by rw [q.len, q'.len]) (by rw [q.len, List.length_map]) (by rw [q.len]; exact of_decide_eq_true f1) (sames_dat ds n _ _ f2 q q')
        have e : (ds.map fun _ => true).all id = true := by rw [List.all_map, List.all_eq_true]; exact fun _ _ => rfl
        rw [e] at r
        exact r
  | .dict _, n, _, _, f, _, _ => by unfold fits at f; cases f
theorem sames_dat {Z Z' : Addr → Prop} {H : Hp} : ∀ (ds : List PyData) (n : Nat) (vs us : List V), fitsAll ds n = true → Dats Z H vs ds → Dats Z' H us ds → ∀ (i : Nat) (x y : V) (b : Bool), vs[i]? = some x → us[i]? = some y → (ds.map fun _ => true)[i]? = some b → SameB H (n + 1) x y b
  | [], _, _, _, _, h, _, i, _, _, _, e, _, _ => by cases h; cases e
  | d :: ds, n, _, _, f, h, g, 0, _, _, _, e1, e2, e3 => by
    unfold fitsAll at f
    cases h with
    | cons a _ => cases g with
      | cons a' _ => cases e1; cases e2; cases e3; exact same_dat d n _ _ (Bool.and_eq_true_iff.mp f).1 a a'
  | d :: ds, n, _, _, f, h, g, i + 1, _, _, _, e1, e2, e3 => by
    unfold fitsAll at f
    cases h with
    | cons _ q => cases g with
      | cons _ q' => exact sames_dat ds n _ _ (Bool.and_eq_true_iff.mp f).2 q q' i _ _ _ e1 e2 e3
end
end Sm
/-! a, *b, c = a list or a tuple -/
namespace Sm
open PySem PySem.Spec PyProof.Rows L2
section
variable {prog : Program} {w : World} {A : Around} {E : Value → Shared → Prop} {s : Shared}
/-- the items in three parts, the middle one in a list of its own -/
theorem star_list {l : Addr} {its : Array Value} {n i : Nat} {R : List Value → Shared → Prop} (hl : s.heap.IsList l its) (hh : A.handled = none) (hi : i < n) (hn : n ≤ its.size + 1) (hz : its.size ≤ 16384)
    (q : ∀ (h' : Heap) (tk : Nat), (∀ b o, s.heap.get? b = some o → h'.get? b = some o) → R (its.toList.take i ++ [Value.ref h'.objs.size] ++ (its.toList.drop i).drop (its.size + 1 - n)) { s with heap := h'.push { cls := .type "list", data := .seq ((its.toList.drop i).take (its.size + 1 - n)).toArray }, toks := tk }) :
    wpAny (model prog w) A (unpackItems (.ref l) n (some i)) R E s := by
  have lw : l < s.heap.objs.size := by
    obtain ⟨o, ho, _⟩ := hl
    exact Heap.lt_size ho
  have apart : l ≠ s.heap.objs.size := Nat.ne_of_lt lw
  have tl : (its.toList.take i).length = i := by
    rw [List.length_take, Array.length_toList]
    omega
  have dl : (its.toList.drop i).length = its.size - i := by rw [List.length_drop, Array.length_toList]
  unfold unpackItems notIterableAtAll
  refine wpAny_bind (wpAny_bind (wpAny_specialOf hl.typeIs slot_list_iter.lookup (wpAny_pure ?_)))
  try rw [if_neg (by decide)]
  refine wpAny_bind (wpAny_holding (wpAny_pyIter_list hl ?_))
  refine wpAny_bind (wpAny_holding (PySem.W.kun_draw apart i 0 _ _ ⟨_, Heap.get?_push_size _ rfl, rfl, rfl⟩ (hl.push _) (by omega) fun h1 it1 sb1 => ?_))
  have hl1 : h1.IsList l its := (hl.push _).extBut sb1.extBut apart
  rw [Nat.zero_add] at it1
  have big : s.heap.objs.size < h1.objs.size := by
    obtain ⟨o, ho, _⟩ := it1
    exact Heap.lt_size ho
  have lw1 : l < h1.objs.size := by
    obtain ⟨o, ho, _⟩ := hl1
    exact Heap.lt_size ho
  rw [List.drop_zero, if_neg (by rw [tl]; omega)]
  refine wpAny_bind (wpAny_holding (PySem.W.kun_collect (s := { s with heap := h1 }) (T := "list_iterator") (.inr (.inr (.inl rfl))) (Walks.list (A := A.in1) hh s.heap.objs.size l apart its) (fun j u st => st.1.typeIs) (k := i) (by omega) ⟨it1, hl1⟩ big lw1 (fun h2 tk kp => ?_) (by rw [sizeLine_eq]; omega)))
  show wpAny _ _ (if (its.toList.drop i).length < n - 1 - i then _ else _) _ _ _
  rw [if_neg (by rw [dl]; omega)]
  have cut : (its.toList.drop i).length - (n - 1 - i) = its.size + 1 - n := by rw [dl]; omega
  show wpAny _ _ (newList ((its.toList.drop i).take ((its.toList.drop i).length - (n - 1 - i))) >>= fun d => pure (its.toList.take i ++ [d] ++ (its.toList.drop i).drop ((its.toList.drop i).length - (n - 1 - i)))) _ _ _
  rw [cut]
  refine wpAny_bind (wpAny_newList (wpAny_pure (q h2 tk fun b o e => ?_)) ?_)
  · exact kp b o (Nat.ne_of_lt (Heap.lt_size e)) (sb1.extBut b o (Nat.ne_of_lt (Heap.lt_size e)) (Heap.get?_push_of_some _ e))
  · rw [List.length_take, dl, sizeLine_eq]
    omega
theorem star_tuple {l : Addr} {its : Array Value} {n i : Nat} {R : List Value → Shared → Prop} (hl : IsTup s.heap l its) (hh : A.handled = none) (hi : i < n) (hn : n ≤ its.size + 1) (hz : its.size ≤ 16384)
    (q : ∀ (h' : Heap) (tk : Nat), (∀ b o, s.heap.get? b = some o → h'.get? b = some o) → R (its.toList.take i ++ [Value.ref h'.objs.size] ++ (its.toList.drop i).drop (its.size + 1 - n)) { s with heap := h'.push { cls := .type "list", data := .seq ((its.toList.drop i).take (its.size + 1 - n)).toArray }, toks := tk }) :
    wpAny (model prog w) A (unpackItems (.ref l) n (some i)) R E s := by
  have lw : l < s.heap.objs.size := by
    obtain ⟨o, ho, _⟩ := hl
    exact Heap.lt_size ho
  have apart : l ≠ s.heap.objs.size := Nat.ne_of_lt lw
  have tl : (its.toList.take i).length = i := by
    rw [List.length_take, Array.length_toList]
    omega
  have dl : (its.toList.drop i).length = its.size - i := by rw [List.length_drop, Array.length_toList]
  unfold unpackItems notIterableAtAll
  refine wpAny_bind (wpAny_bind (wpAny_specialOf hl.typeIs slot_tuple_iter.lookup (wpAny_pure ?_)))
  try rw [if_neg (by decide)]
  refine wpAny_bind (wpAny_holding (iter_tuple hl ?_))
  refine wpAny_bind (wpAny_holding (draw_tuple apart i 0 _ _ ⟨_, Heap.get?_push_size _ rfl, rfl, rfl⟩ (hl.push _) (by omega) fun h1 it1 sb1 => ?_))
  have hl1 : IsTup h1 l its := (hl.push _).extBut sb1.extBut apart
  rw [Nat.zero_add] at it1
  have big : s.heap.objs.size < h1.objs.size := by
    obtain ⟨o, ho, _⟩ := it1
    exact Heap.lt_size ho
  have lw1 : l < h1.objs.size := by
    obtain ⟨o, ho, _⟩ := hl1
    exact Heap.lt_size ho
  rw [List.drop_zero, if_neg (by rw [tl]; omega)]
  refine wpAny_bind (wpAny_holding (PySem.W.kun_collect (s := { s with heap := h1 }) (T := "tuple_iterator") (.inr (.inr (.inr rfl))) (Walks.tuple (A := A.in1) hh s.heap.objs.size l apart its) (fun j u st => st.1.typeIs) (k := i) (by omega) ⟨it1, hl1⟩ big lw1 (fun h2 tk kp => ?_) (by rw [sizeLine_eq]; omega)))
  show wpAny _ _ (if (its.toList.drop i).length < n - 1 - i then _ else _) _ _ _
  rw [if_neg (by rw [dl]; omega)]
  have cut : (its.toList.drop i).length - (n - 1 - i) = its.size + 1 - n := by rw [dl]; omega
  show wpAny _ _ (newList ((its.toList.drop i).take ((its.toList.drop i).length - (n - 1 - i))) >>= fun d => pure (its.toList.take i ++ [d] ++ (its.toList.drop i).drop ((its.toList.drop i).length - (n - 1 - i)))) _ _ _
  rw [cut]
  refine wpAny_bind (wpAny_newList (wpAny_pure (q h2 tk fun b o e => ?_)) ?_)
  · exact kp b o (Nat.ne_of_lt (Heap.lt_size e)) (sb1.extBut b o (Nat.ne_of_lt (Heap.lt_size e)) (Heap.get?_push_of_some _ e))
  · rw [List.length_take, dl, sizeLine_eq]
    omega
end
theorem Vals.take {xs : List V} {us : List Value} (r : Vals xs us) : ∀ n, Vals (xs.take n) (us.take n) := by
  induction r with
  | nil => intro n; rw [List.take_nil, List.take_nil]; exact .nil
  | cons a b ih =>
    intro n
    cases n with
    | zero => exact .nil
    | succ n => exact .cons a (ih n)
theorem Vals.drop {xs : List V} {us : List Value} (r : Vals xs us) : ∀ n, Vals (xs.drop n) (us.drop n) := by
  induction r with
  | nil => intro n; rw [List.drop_nil, List.drop_nil]; exact .nil
  | cons a b ih =>
    intro n
    cases n with
    | zero => exact .cons a b
    | succ n => exact ih n
def gStar (K : PySem.W.Frag) (n i : Nat) (t : TGs) : TG := fun v σ H Q => ∃ (a : Addr) (xs : List V), v = .ref a ∧ (SqL K H a xs ∨ SqT K H a xs) ∧ n ≤ xs.length + 1 ∧ xs.length ≤ 16384 ∧
  ∀ D, H D = none → t (xs.take i ++ [V.ref D] ++ (xs.drop i).drop (xs.length + 1 - n)) σ (upd H D (.lst ((xs.drop i).take (xs.length + 1 - n)))) Q
theorem pg_star {X : Cx} {K : PySem.W.Frag} {es : List Expr} {k : Nat} {pos : Pos} {t : TGs} {n i : Nat} (hc : X.calm = true) (h : PGs X es t) (hK : X.K = K := by rfl)
    (hn : (assignEach es X.env).length = n := by rfl) (hst : (assignEach es X.env).findIdx? (·.1) = some i := by rfl) (hi : i < n := by decide) : PG X (.Tuple es k pos) (gStar K n i t) := by
  subst hK
  refine ⟨fun pins s σ H v u Q I r hw => ?_⟩
  obtain ⟨a, xs, rfl, hq, hl, hz, hw⟩ := hw
  cases r
  have fin : ∀ (its : List Value) (h' : Heap) (tk : Nat), Vals xs its → (∀ b o, s.heap.get? b = some o → h'.get? b = some o) →
      wpAny (model X.prog X.w) X.A (assignInOrder ((assignEach es X.env).map (·.2)) (its.take i ++ [Value.ref h'.objs.size] ++ (its.drop i).drop (its.length + 1 - n))) (fun _ s' => ∃ σ' H', Inv X pins σ' H' s' ∧ Q σ' H') X.xe { s with heap := h'.push { cls := .type "list", data := .seq ((its.drop i).take (its.length + 1 - n)).toArray }, toks := tk } := fun its h' tk rv kp => by
    have hlen := rv.length
    have J : Inv X pins σ H { s with heap := h', toks := tk } := I.kept kp
    have fresh : H h'.objs.size = none := J.hok.fresh (Nat.le_refl _)
    have I1 : Inv X pins σ (upd H h'.objs.size (.lst ((xs.drop i).take (xs.length + 1 - n)))) { s with heap := h'.push { cls := .type "list", data := .seq ((its.drop i).take (its.length + 1 - n)).toArray }, toks := tk } := by
      refine J.laid (fun b o e => Heap.get?_push_of_some _ e) (Nat.le_refl _) ?_
      refine ⟨?_, (its.drop i).take (its.length + 1 - n), 0, ?_, ?_⟩
      · rw [List.length_take, List.length_drop, sizeLine_eq]
        omega
      · rw [← hlen]
        exact (Vals.drop rv i).take _
      · exact Heap.get?_push_size _ rfl
    refine h.run pins _ σ _ _ _ Q I1 ?_ (hw _ fresh)
    rw [← hlen]
    exact ((Vals.take rv i).append (.cons (show RelV (.ref h'.objs.size) (.ref h'.objs.size) from rfl) .nil)).append ((Vals.drop rv i).drop _)
  rcases hq with hq | hq
  · obtain ⟨its, rv, pl, hz2⟩ := I.list hq
    have hlen := rv.length
    rw [PyProof.Rows.assign_Tuple]
    refine wpAny_bind (wpAny_standAt ?_)
    unfold unpack
    rw [hn, hst]
    refine wpAny_bind (wpAny_holding (star_list pl.isList (I.ok.hd hc) hi (by rw [List.size_toArray]; omega) (by rw [List.size_toArray]; omega) fun h' tk kp => ?_))
    rw [List.size_toArray]
    exact fin its h' tk rv kp
  · obtain ⟨its, rv, pl, hz2⟩ := I.tuple hq
    have hlen := rv.length
    rw [PyProof.Rows.assign_Tuple]
    refine wpAny_bind (wpAny_standAt ?_)
    unfold unpack
    rw [hn, hst]
    refine wpAny_bind (wpAny_holding (star_tuple pl (I.ok.hd hc) hi (by rw [List.size_toArray]; omega) (by rw [List.size_toArray]; omega) fun h' tk kp => ?_))
    rw [List.size_toArray]
    exact fin its h' tk rv kp
/-- the starred one among the targets -/
theorem pgs_star {X : Cx} {e : Expr} {es : List Expr} {sp : Pos} {t : TG} {ts : TGs} (h1 : PG X e t) (h2 : PGs X es ts)
    (he : (assignEach (.Starred e sp :: es) X.env).map (·.2) = assign e X.env :: (assignEach es X.env).map (·.2) := by rfl) : PGs X (.Starred e sp :: es) (gCons t ts) := by
  refine ⟨fun pins s σ H vs us Q I r h => ?_⟩
  obtain ⟨v, vr, rfl, h⟩ := h
  cases r with
  | cons r rr =>
    rw [he]
    exact assignInOrder_cons (thn (h1.run pins s σ H _ _ _ I r h) fun _ s1 ⟨σ1, H1, I1, q1⟩ => h2.run pins s1 σ1 H1 _ _ Q I1 rr q1)
end Sm
/-! zip of lists and tuples in any mix -/
namespace Sm
open PySem PySem.Spec PyProof.Rows L2
def ItB (t : Bool) (h : Heap) (it l : Addr) (i : Nat) : Prop := match t with | true => h.IsTupleIter it l i | false => h.IsListIter it l i
def PlB (t : Bool) (h : Heap) (l : Addr) (xs : Array Value) : Prop := match t with | true => h.IsTuple l xs | false => h.IsList l xs
def SqB (t : Bool) (K : PySem.W.Frag) (H : Hp) (a : Addr) (xs : List V) : Prop := match t with | true => SqT K H a xs | false => SqL K H a xs
theorem ItB.ext {t : Bool} {h h' : Heap} {it l b : Addr} {i : Nat} (x : ItB t h it l i) (e : Heap.ExtBut b h h') (n : it ≠ b) : ItB t h' it l i := by
  cases t with
  | true => exact Heap.IsTupleIter.extBut x e n
  | false => exact Heap.IsListIter.extBut x e n
theorem ItB.at_ {t : Bool} {h h' : Heap} {it l : Addr} {i : Nat} (x : ItB t h it l i) (e : ∀ o, h.get? it = some o → h'.get? it = some o) : ItB t h' it l i := by
  cases t with
  | true => exact Heap.IsTupleIter.at x e
  | false => exact Heap.IsListIter.at x e
theorem ItB.obj {t : Bool} {h : Heap} {it l : Addr} {i : Nat} (x : ItB t h it l i) : ∃ o, h.get? it = some o ∧ ∀ v, o.data ≠ .cell v := by
  cases t with
  | true =>
    obtain ⟨o, h1, _, h3⟩ := x
    exact ⟨o, h1, fun v q => by rw [h3] at q; cases q⟩
  | false =>
    obtain ⟨o, h1, _, h3⟩ := x
    exact ⟨o, h1, fun v q => by rw [h3] at q; cases q⟩
theorem PlB.ext {t : Bool} {h h' : Heap} {l b : Addr} {xs : Array Value} (x : PlB t h l xs) (e : Heap.ExtBut b h h') (n : l ≠ b) : PlB t h' l xs := by
  cases t with
  | true => exact Heap.IsTuple.extBut x e n
  | false => exact Heap.IsList.extBut x e n
theorem PlB.lt {t : Bool} {h : Heap} {l : Addr} {xs : Array Value} (x : PlB t h l xs) : l < h.objs.size := by
  cases t with
  | true => obtain ⟨o, e, _⟩ := x; exact Heap.lt_size e
  | false => obtain ⟨o, e, _⟩ := x; exact Heap.lt_size e
section
variable {prog : Program} {w : World} {A : Around} {E : Value → Shared → Prop} {s : Shared} {t1 t2 : Bool} {z TI TO i1 i2 l1 l2 : Addr} {k1 k2 : Nat} {xs ys : Array Value} {x y a b : Value}
theorem nextB_item {t : Bool} {it l : Addr} {i : Nat} {Q : Value → Shared → Prop} (hit : ItB t s.heap it l i) (hl : PlB t s.heap l xs) (hx : xs[i]? = some x)
    (q : ∀ h', ItB t h' it l (i + 1) → Heap.SameBut it s.heap h' → Q x { s with heap := h' }) : wpAny (model prog w) A (Builtin.SmallTypes.nextOf (.ref it)) Q E s := by
  cases t with
  | true => exact RZ.nextOf_tuple_item hit hl hx q
  | false => exact wpAny_nextOf_list_item hit hl hx q
theorem nextB_end {t : Bool} {it l : Addr} {i : Nat} {Q : Value → Shared → Prop} (hh : A.handled = none) (hit : ItB t s.heap it l i) (hl : PlB t s.heap l xs) (hx : xs[i]? = none)
    (q : ∀ h' e, Heap.ExtBut it s.heap h' → (∃ o, h'.get? e = some o ∧ o.cls = .type "StopIteration") → E (.ref e) { s with heap := h' }) : wpAny (model prog w) A (Builtin.SmallTypes.nextOf (.ref it)) Q E s := by
  cases t with
  | true => exact RZ.nextOf_tuple_end hh hit hl hx q
  | false => exact wpAny_nextOf_list_end hh hit hl hx q
/-- what the walk from z leaves as it was -/
abbrev Rest4 (h h' : Heap) (z TO i1 i2 : Addr) : Prop := ∀ c o, c ≠ z → c ≠ TO → c ≠ i1 → c ≠ i2 → h.get? c = some o → h'.get? c = some o
theorem zipB_item {R : Value → Shared → Prop} (D : ZipApart z TI TO i1 i2 l1 l2) (gz : IsZip s.heap z TI TO .none) (gI : IsPair s.heap TI (.ref i1) (.ref i2)) (gO : IsPair s.heap TO a b)
    (g1 : ItB t1 s.heap i1 l1 k1) (g2 : ItB t2 s.heap i2 l2 k2) (gx : PlB t1 s.heap l1 xs) (gy : PlB t2 s.heap l2 ys) (hx : xs[k1]? = some x) (hy : ys[k2]? = some y)
    (q : ∀ h', IsZip h' z TI TO (rawInt s.heap.objs.size) → IsPair h' TO x y → ItB t1 h' i1 l1 (k1 + 1) → ItB t2 h' i2 l2 (k2 + 1) → IsPair h' s.heap.objs.size x y → h'.objs.size = s.heap.objs.size + 1 → Rest4 s.heap h' z TO i1 i2 → R (.ref s.heap.objs.size) { s with heap := h' }) :
    wpAny (model prog w) A (Builtin.«zip.__next__» ⟨[.ref z], []⟩) (fun fin s' => ∃ v, fin = .done (.ret v) ∧ R v s') E s := by
  show wpAny _ _ (field (.ref z) 2 >>= _) _ _ _
  refine wpAny_bind (wpAny_field gz rfl (x := .bool false) rfl ?_)
  show wpAny _ _ (field (.ref z) 3 >>= _) _ _ _
  refine wpAny_bind (wpAny_field gz rfl (x := .ref TI) rfl (wpAny_bind (wpAny_seqItems gI rfl ?_)))
  show wpAny _ _ (Builtin.SmallTypes.ownedTupleIsFree _ >>= _) _ _ _
  unfold Builtin.SmallTypes.ownedTupleIsFree
  refine wpAny_bind (wpAny_bind (wpAny_field gz rfl (x := .none) rfl (wpAny_pure ?_)))
  simp only [if_true]
  refine wpAny_bind (wpAny_rule (wpAny_bind (wpAny_field gz rfl (x := .ref TO) rfl (wpAny_bind (wpAny_setField_rec gz (by simp) fun h1 gz1 e1 => ?_)))))
  have gz1 : IsZip h1 z TI TO .ellipsis := gz1
  refine wpAny_bind ?_
  simp only [List.zipIdx_cons, List.zipIdx_nil, List.forIn_cons, List.forIn_nil]
  refine wpAny_bind (wpAny_bind (wpAny_onRaise ?_))
  show wpAny _ _ (Builtin.SmallTypes.nextOf (.ref i1) >>= _) _ _ _
  refine wpAny_bind (nextB_item (g1.ext e1.extBut D.i1z) (gx.ext e1.extBut D.l1z) hx fun h2 g12 e2 => wpAny_pure ?_)
  have gO2 : IsPair h2 TO a b := e2.extBut _ _ D.TOi1 (e1.extBut _ _ D.TOz gO)
  refine wpAny_bind (wpAny_seqItems gO2 rfl (wpAny_bind (wpAny_updateSeq_pair gO2 fun h3 gO3 e3 => wpAny_bind (wpAny_letGo (wpAny_pure ?_)))))
  have gO3 : IsPair h3 TO x b := gO3
  refine wpAny_bind (wpAny_bind (wpAny_onRaise ?_))
  show wpAny _ _ (Builtin.SmallTypes.nextOf (.ref i2) >>= _) _ _ _
  have g23 := ((g2.ext e1.extBut D.i2z).ext e2.extBut D.i12.symm).ext e3.extBut D.TOi2.symm
  have gy3 := ((gy.ext e1.extBut D.l2z).ext e2.extBut D.l2i1).ext e3.extBut D.l2TO
  refine wpAny_bind (nextB_item g23 gy3 hy fun h4 g24 e4 => wpAny_pure ?_)
  have gO4 : IsPair h4 TO x b := e4.extBut _ _ D.TOi2 gO3
  refine wpAny_bind (wpAny_seqItems gO4 rfl (wpAny_bind (wpAny_updateSeq_pair gO4 fun h5 gO5 e5 => wpAny_bind (wpAny_letGo (wpAny_pure (wpAny_pure ?_))))))
  have gO5 : IsPair h5 TO x y := gO5
  refine wpAny_bind (wpAny_seqItems gO5 rfl (wpAny_bind (wpAny_newTuple ?_)))
  have sz5 : h5.objs.size = s.heap.objs.size := by rw [e5.1, e4.1, e3.1, e2.1, e1.1]
  have gz5 : IsZip h5 z TI TO .ellipsis := e5.extBut _ _ D.TOz.symm (e4.extBut _ _ D.i2z.symm (e3.extBut _ _ D.TOz.symm (e2.extBut _ _ D.i1z.symm gz1)))
  have r5 : Rest4 s.heap h5 z TO i1 i2 := fun c o c1 c2 c3 c4 e => e5.extBut _ _ c2 (e4.extBut _ _ c4 (e3.extBut _ _ c2 (e2.extBut _ _ c3 (e1.extBut _ _ c1 e))))
  have g15 : ItB t1 h5 i1 l1 (k1 + 1) := ((g12.ext e3.extBut D.TOi1.symm).ext e4.extBut D.i12).ext e5.extBut D.TOi1.symm
  have g25 : ItB t2 h5 i2 l2 (k2 + 1) := g24.ext e5.extBut D.TOi2.symm
  have zlt : z < h5.objs.size := Heap.lt_size gz5
  show wpAny _ _ (Builtin.SmallTypes.ownedTupleHandOut (.ref z) (.ref h5.objs.size) >>= _) _ _ _
  unfold Builtin.SmallTypes.ownedTupleHandOut
  have gz6 : IsZip (h5.push { cls := .type "tuple", data := .seq #[x, y] }) z TI TO .ellipsis := Heap.get?_push_of_some _ gz5
  refine wpAny_bind (wpAny_bind (wpAny_setField_rec gz6 (by simp) fun h7 gz7 e7 => ?_))
  have gz7 : IsZip h7 z TI TO (rawInt h5.objs.size) := gz7
  refine wpAny_setField_rec gz7 (by simp) fun h8 gz8 e8 => ?_
  have gz8 : IsZip h8 z TI TO (rawInt h5.objs.size) := gz8
  have up : ∀ c o, c ≠ z → h5.get? c = some o → h8.get? c = some o := fun c o n e => e8.extBut _ _ n (e7.extBut _ _ n (Heap.get?_push_of_some _ e))
  have gT : IsPair h8 h5.objs.size x y := e8.extBut _ _ (Nat.ne_of_gt zlt) (e7.extBut _ _ (Nat.ne_of_gt zlt) (Heap.get?_push_size _ rfl))
  have sz8 : h8.objs.size = h5.objs.size + 1 := by rw [e8.1, e7.1, Heap.size_push]
  rw [sz5] at gz8 gT sz8
  refine wpAny_pure ⟨_, rfl, ?_⟩
  show R (.ref h5.objs.size) _
  rw [sz5]
  exact q h8 gz8 (up _ _ D.TOz gO5) (g15.at_ fun o => up _ o D.i1z) (g25.at_ fun o => up _ o D.i2z) gT sz8 fun c o c1 c2 c3 c4 e => up c o c1 (r5 c o c1 c2 c3 c4 e)
theorem zipB_end {R : Fin → Shared → Prop} (hh : A.handled = none) (D : ZipApart z TI TO i1 i2 l1 l2) (gz : IsZip s.heap z TI TO .none) (gI : IsPair s.heap TI (.ref i1) (.ref i2)) (gO : IsPair s.heap TO a b)
    (g1 : ItB t1 s.heap i1 l1 k1) (g2 : ItB t2 s.heap i2 l2 k2) (gx : PlB t1 s.heap l1 xs) (gy : PlB t2 s.heap l2 ys) (he : xs[k1]? = none ∨ ys[k2]? = none)
    (q : ∀ h' e, Rest4 s.heap h' z TO i1 i2 → (∃ o, h'.get? e = some o ∧ o.cls = .type "StopIteration") → E (.ref e) { s with heap := h' }) : wpAny (model prog w) A (Builtin.«zip.__next__» ⟨[.ref z], []⟩) R E s := by
  show wpAny _ _ (field (.ref z) 2 >>= _) _ _ _
  refine wpAny_bind (wpAny_field gz rfl (x := .bool false) rfl ?_)
  show wpAny _ _ (field (.ref z) 3 >>= _) _ _ _
  refine wpAny_bind (wpAny_field gz rfl (x := .ref TI) rfl (wpAny_bind (wpAny_seqItems gI rfl ?_)))
  show wpAny _ _ (Builtin.SmallTypes.ownedTupleIsFree _ >>= _) _ _ _
  unfold Builtin.SmallTypes.ownedTupleIsFree
  refine wpAny_bind (wpAny_bind (wpAny_field gz rfl (x := .none) rfl (wpAny_pure ?_)))
  simp only [if_true]
  refine wpAny_bind (wpAny_rule (wpAny_bind (wpAny_field gz rfl (x := .ref TO) rfl (wpAny_bind (wpAny_setField_rec gz (by simp) fun h1 gz1 e1 => ?_)))))
  have gz1 : IsZip h1 z TI TO .ellipsis := gz1
  refine wpAny_bind ?_
  simp only [List.zipIdx_cons, List.zipIdx_nil, List.forIn_cons, List.forIn_nil]
  refine wpAny_bind (wpAny_bind (wpAny_onRaise ?_))
  show wpAny _ _ (Builtin.SmallTypes.nextOf (.ref i1) >>= _) _ _ _
  cases hx : xs[k1]? with
  | none =>
    refine wpAny_bind (nextB_end hh (g1.ext e1.extBut D.i1z) (gx.ext e1.extBut D.l1z) hx fun h2 e e2 st => ?_)
    obtain ⟨oe, ge, ce⟩ := st
    have gz2 : IsZip h2 z TI TO .ellipsis := e2 _ _ D.i1z.symm gz1
    have apart : e ≠ z := fun u => by
      subst u
      rw [gz2] at ge
      cases ge
      simp at ce
    exact wpAny_setField_rec gz2 (by simp) fun h3 _ e3 => q h3 e (fun c o c1 _ c3 _ u => e3.extBut _ _ c1 (e2 _ _ c3 (e1.extBut _ _ c1 u))) ⟨oe, e3.extBut _ _ apart ge, ce⟩
  | some x =>
    have hy : ys[k2]? = none := he.resolve_left fun u => by rw [hx] at u; cases u
    refine wpAny_bind (nextB_item (g1.ext e1.extBut D.i1z) (gx.ext e1.extBut D.l1z) hx fun h2 g12 e2 => wpAny_pure ?_)
    have gO2 : IsPair h2 TO a b := e2.extBut _ _ D.TOi1 (e1.extBut _ _ D.TOz gO)
    refine wpAny_bind (wpAny_seqItems gO2 rfl (wpAny_bind (wpAny_updateSeq_pair gO2 fun h3 gO3 e3 => wpAny_bind (wpAny_letGo (wpAny_pure ?_)))))
    refine wpAny_bind (wpAny_bind (wpAny_onRaise ?_))
    show wpAny _ _ (Builtin.SmallTypes.nextOf (.ref i2) >>= _) _ _ _
    have g23 := ((g2.ext e1.extBut D.i2z).ext e2.extBut D.i12.symm).ext e3.extBut D.TOi2.symm
    have gy3 := ((gy.ext e1.extBut D.l2z).ext e2.extBut D.l2i1).ext e3.extBut D.l2TO
    refine wpAny_bind (nextB_end hh g23 gy3 hy fun h4 e e4 st => ?_)
    obtain ⟨oe, ge, ce⟩ := st
    have gz4 : IsZip h4 z TI TO .ellipsis := e4 _ _ D.i2z.symm (e3.extBut _ _ D.TOz.symm (e2.extBut _ _ D.i1z.symm gz1))
    have apart : e ≠ z := fun u => by
      subst u
      rw [gz4] at ge
      cases ge
      simp at ce
    exact wpAny_setField_rec gz4 (by simp) fun h5 _ e5 => q h5 e (fun c o c1 c2 c3 c4 u => e5.extBut _ _ c1 (e4 _ _ c4 (e3.extBut _ _ c2 (e2.extBut _ _ c3 (e1.extBut _ _ c1 u))))) ⟨oe, e5.extBut _ _ apart ge, ce⟩
theorem nextZipB_item {R : Option Value → Shared → Prop} (D : ZipApart z TI TO i1 i2 l1 l2) (gz : IsZip s.heap z TI TO .none) (gI : IsPair s.heap TI (.ref i1) (.ref i2)) (gO : IsPair s.heap TO a b)
    (g1 : ItB t1 s.heap i1 l1 k1) (g2 : ItB t2 s.heap i2 l2 k2) (gx : PlB t1 s.heap l1 xs) (gy : PlB t2 s.heap l2 ys) (hx : xs[k1]? = some x) (hy : ys[k2]? = some y)
    (q : ∀ h', IsZip h' z TI TO (rawInt s.heap.objs.size) → IsPair h' TO x y → ItB t1 h' i1 l1 (k1 + 1) → ItB t2 h' i2 l2 (k2 + 1) → IsPair h' s.heap.objs.size x y → h'.objs.size = s.heap.objs.size + 1 → Rest4 s.heap h' z TO i1 i2 → R (some (.ref s.heap.objs.size)) { s with heap := h' }) :
    wpAny (model prog w) A (pyNext (.ref z)) R E s := by
  have ty : s.TypeIs (.ref z) "zip" := ⟨_, gz, rfl⟩
  unfold pyNext
  refine wpAny_bind (wpAny_attempt (wpAny_callSpecial?_slot (name := Str.ofString "__next__") ty F.slot_zip_next (wpAny_call_entry F.slot_zip_next ty F.entry_zip_next ?_ (F.args_zip_next_1 _))))
  exact zipB_item D gz gI gO g1 g2 gx gy hx hy fun h' a1 a2 a3 a4 a5 a6 a7 => wpAny_pure (q h' a1 a2 a3 a4 a5 a6 a7)
theorem nextZipB_end {R : Option Value → Shared → Prop} (hh : A.handled = none) (D : ZipApart z TI TO i1 i2 l1 l2) (gz : IsZip s.heap z TI TO .none) (gI : IsPair s.heap TI (.ref i1) (.ref i2)) (gO : IsPair s.heap TO a b)
    (g1 : ItB t1 s.heap i1 l1 k1) (g2 : ItB t2 s.heap i2 l2 k2) (gx : PlB t1 s.heap l1 xs) (gy : PlB t2 s.heap l2 ys) (he : xs[k1]? = none ∨ ys[k2]? = none)
    (q : ∀ h', Rest4 s.heap h' z TO i1 i2 → R none { s with heap := h' }) : wpAny (model prog w) A (pyNext (.ref z)) R E s := by
  have ty : s.TypeIs (.ref z) "zip" := ⟨_, gz, rfl⟩
  unfold pyNext
  refine wpAny_bind (wpAny_attempt (wpAny_callSpecial?_slot (name := Str.ofString "__next__") ty F.slot_zip_next (wpAny_call_entry F.slot_zip_next ty F.entry_zip_next ?_ (F.args_zip_next_1 _))))
  refine zipB_end hh D gz gI gO g1 g2 gx gy he fun h' e r st => ?_
  obtain ⟨o, ho, co⟩ := st
  exact wpAny_bind (wpAny_isInstance (T := "StopIteration") (b := true) ⟨o, ho, co⟩ isSubtype_stop (wpAny_pure (q _ r)))
end
/-! ### zip(a, b) -/
def itName (t : Bool) : String := if t then "tuple_iterator" else "list_iterator"
def zB1 (t1 : Bool) (h : Heap) (l1 : Addr) : Heap := h.push { cls := .type (itName t1), data := .fields #[.ref l1, .int 0 0] }
def zB2 (t1 t2 : Bool) (h : Heap) (l1 l2 : Addr) : Heap := (zB1 t1 h l1).push { cls := .type (itName t2), data := .fields #[.ref l2, .int 0 0] }
def zB3 (t1 t2 : Bool) (h : Heap) (l1 l2 : Addr) : Heap := (zB2 t1 t2 h l1 l2).push { cls := .type "tuple", data := .seq #[.ref h.objs.size, .ref (zB1 t1 h l1).objs.size] }
def zB4 (t1 t2 : Bool) (h : Heap) (l1 l2 : Addr) : Heap := (zB3 t1 t2 h l1 l2).push { cls := .type "tuple", data := .seq #[.none, .none] }
def zB5 (t1 t2 : Bool) (h : Heap) (l1 l2 : Addr) : Heap := (zB4 t1 t2 h l1 l2).push { cls := .type "zip", data := .fields #[.none, .bool false, .bool false, .ref (zB2 t1 t2 h l1 l2).objs.size, .ref (zB3 t1 t2 h l1 l2).objs.size] }
theorem meets_zipB (t1 t2 : Bool) (l1 l2 : Addr) (xs ys : Array Value) :
    Meets (Builtin.«zip.__new__» ⟨[.type "zip", .ref l1, .ref l2], []⟩) (fun _ R s => PlB t1 s.heap l1 xs ∧ PlB t2 s.heap l2 ys ∧ R (.ok (.ret (.ref (zB4 t1 t2 s.heap l1 l2).objs.size))) { s with heap := zB5 t1 t2 s.heap l1 l2 }) :=
  .of_wp fun prog w A R s h => by
    obtain ⟨hp, g, d, tk, os⟩ := s
    obtain ⟨gx, gy, h⟩ := h
    have hsub := sub_zip
    cases t1 with
    | true =>
      have L1 : Heap.IsTuple (Shared.heap ⟨hp, g, d, tk, os⟩) l1 xs := gx
      cases t2 with
      | true =>
        have L2 : Heap.IsTuple (Shared.heap ⟨hp.push { cls := .type "tuple_iterator", data := .fields #[.ref l1, .int 0 0] }, g, d, tk, os⟩) l2 ys := Heap.IsTuple.push gy _
        wp_walk using wpAny_pyIter_tuple L1, wpAny_pyIter_tuple L2
        exact ⟨_, rfl, h⟩
      | false =>
        have L2 : Heap.IsList (Shared.heap ⟨hp.push { cls := .type "tuple_iterator", data := .fields #[.ref l1, .int 0 0] }, g, d, tk, os⟩) l2 ys := Heap.IsList.push gy _
        wp_walk using wpAny_pyIter_tuple L1, wpAny_pyIter_list L2
        exact ⟨_, rfl, h⟩
    | false =>
      have L1 : Heap.IsList (Shared.heap ⟨hp, g, d, tk, os⟩) l1 xs := gx
      cases t2 with
      | true =>
        have L2 : Heap.IsTuple (Shared.heap ⟨hp.push { cls := .type "list_iterator", data := .fields #[.ref l1, .int 0 0] }, g, d, tk, os⟩) l2 ys := Heap.IsTuple.push gy _
        wp_walk using wpAny_pyIter_list L1, wpAny_pyIter_tuple L2
        exact ⟨_, rfl, h⟩
      | false =>
        have L2 : Heap.IsList (Shared.heap ⟨hp.push { cls := .type "list_iterator", data := .fields #[.ref l1, .int 0 0] }, g, d, tk, os⟩) l2 ys := Heap.IsList.push gy _
        wp_walk using wpAny_pyIter_list L1, wpAny_pyIter_list L2
        exact ⟨_, rfl, h⟩
theorem itB_new {t : Bool} {h : Heap} {it l : Addr} (e : h.get? it = some { cls := .type (itName t), data := .fields #[.ref l, .int 0 0] }) : ItB t h it l 0 := by
  cases t with
  | true => exact ⟨_, e, rfl, rfl⟩
  | false => exact ⟨_, e, rfl, rfl⟩
section
variable {prog : Program} {w : World} {A : Around} {E : Value → Shared → Prop} {s : Shared} {t1 t2 : Bool} {l1 l2 : Addr} {xs ys : Array Value}
theorem call_zipB {R : Value → Shared → Prop} (gx : PlB t1 s.heap l1 xs) (gy : PlB t2 s.heap l2 ys)
    (q : ∀ h', IsZip h' (s.heap.objs.size + 4) (s.heap.objs.size + 2) (s.heap.objs.size + 3) .none → IsPair h' (s.heap.objs.size + 2) (.ref s.heap.objs.size) (.ref (s.heap.objs.size + 1)) → IsPair h' (s.heap.objs.size + 3) .none .none →
      ItB t1 h' s.heap.objs.size l1 0 → ItB t2 h' (s.heap.objs.size + 1) l2 0 → (∀ c o, s.heap.get? c = some o → h'.get? c = some o) → R (.ref (s.heap.objs.size + 4)) { s with heap := h' }) :
    wpAny (model prog w) A (call (.type "zip") [.ref l1, .ref l2]) R E s := by
  refine callType_new F.called_zip (by decide) (F.typeCall_zip_2 _ _) (F.newCall_zip_2 _ _) (fun obj => F.args_object_init_3 obj _ _) F.entry_zip_new (meets_zipB t1 t2 l1 l2 xs ys) ⟨gx, gy, ?_⟩
  have n1 : (zB1 t1 s.heap l1).objs.size = s.heap.objs.size + 1 := Heap.size_push ..
  have n2 : (zB2 t1 t2 s.heap l1 l2).objs.size = s.heap.objs.size + 2 := by unfold zB2; rw [Heap.size_push, n1]
  have n3 : (zB3 t1 t2 s.heap l1 l2).objs.size = s.heap.objs.size + 3 := by unfold zB3; rw [Heap.size_push, n2]
  have n4 : (zB4 t1 t2 s.heap l1 l2).objs.size = s.heap.objs.size + 4 := by unfold zB4; rw [Heap.size_push, n3]
  have p1 : (zB1 t1 s.heap l1).get? s.heap.objs.size = some _ := Heap.get?_push_size _ rfl
  have p2 : (zB2 t1 t2 s.heap l1 l2).get? (zB1 t1 s.heap l1).objs.size = some _ := Heap.get?_push_size _ rfl
  have p3 : (zB3 t1 t2 s.heap l1 l2).get? (zB2 t1 t2 s.heap l1 l2).objs.size = some _ := Heap.get?_push_size _ rfl
  have p4 : (zB4 t1 t2 s.heap l1 l2).get? (zB3 t1 t2 s.heap l1 l2).objs.size = some _ := Heap.get?_push_size _ rfl
  have p5 : (zB5 t1 t2 s.heap l1 l2).get? (zB4 t1 t2 s.heap l1 l2).objs.size = some _ := Heap.get?_push_size _ rfl
  have u2 : ∀ c o, (zB1 t1 s.heap l1).get? c = some o → (zB2 t1 t2 s.heap l1 l2).get? c = some o := fun c o e => Heap.get?_push_of_some _ e
  have u3 : ∀ c o, (zB2 t1 t2 s.heap l1 l2).get? c = some o → (zB3 t1 t2 s.heap l1 l2).get? c = some o := fun c o e => Heap.get?_push_of_some _ e
  have u4 : ∀ c o, (zB3 t1 t2 s.heap l1 l2).get? c = some o → (zB4 t1 t2 s.heap l1 l2).get? c = some o := fun c o e => Heap.get?_push_of_some _ e
  have u5 : ∀ c o, (zB4 t1 t2 s.heap l1 l2).get? c = some o → (zB5 t1 t2 s.heap l1 l2).get? c = some o := fun c o e => Heap.get?_push_of_some _ e
  have m1 := u5 _ _ (u4 _ _ (u3 _ _ (u2 _ _ p1)))
  have m2 := u5 _ _ (u4 _ _ (u3 _ _ p2))
  have m3 := u5 _ _ (u4 _ _ p3)
  have m4 := u5 _ _ p4
  rw [n1] at m2
  rw [n2, n1] at m3
  rw [n3] at m4
  rw [n4, n2, n3] at p5
  show _ ∧ _
  rw [n4]
  exact ⟨⟨_, p5, rfl⟩, q _ p5 m3 m4 (itB_new m1) (itB_new m2) fun c o e => u5 _ _ (u4 _ _ (u3 _ _ (u2 _ _ (Heap.get?_push_of_some _ e))))⟩
end
/-- the turns -/
def ItzB (t1 t2 : Bool) (K : PySem.W.Frag) (a b : Addr) : It :=
  ⟨fun i H => ∃ (xs ys : List V) (x y : V), SqB t1 K H a xs ∧ SqB t2 K H b ys ∧ xs[i]? = some x ∧ ys[i]? = some y,
    fun i H v H' => ∃ T x y, v = .ref T ∧ H T = none ∧ H' = upd H T (.tup [x, y]) ∧ (∀ xs, SqB t1 K H a xs → xs[i]? = some x) ∧ ∀ ys, SqB t2 K H b ys → ys[i]? = some y,
    fun i H => ∃ xs ys : List V, SqB t1 K H a xs ∧ SqB t2 K H b ys ∧ (xs.length ≤ i ∨ ys.length ≤ i)⟩
section
variable {X : Cx} {pins : List (Addr × Obj)} {σ : L2.St} {H : Hp} {s : Shared}
theorem inv_sqB {t : Bool} {a : Addr} {xs : List V} (I : Inv X pins σ H s) (h : SqB t X.K H a xs) : ∃ its : List Value, Vals xs its ∧ PlB t s.heap a its.toArray := by
  cases t with
  | true =>
    obtain ⟨its, r, p, _⟩ := I.tuple h
    exact ⟨its, r, p⟩
  | false =>
    obtain ⟨its, r, p, _⟩ := I.list h
    exact ⟨its, r, p.isList⟩
theorem sqB_inj {t : Bool} {a : Addr} {xs ys : List V} (I : Inv X pins σ H s) (h : SqB t X.K H a xs) (g : SqB t X.K H a ys) : xs = ys := by
  cases t with
  | true => exact I.tuple_inj h g
  | false => exact I.list_inj h g
end
theorem turn_zipB {t1 t2 : Bool} {P : Program} {w : World} {K : PySem.W.Frag} {elts : List Expr} {kk : Nat} {tpos : Pos} {a b z TI TO i1 i2 : Addr} (D : ZipApart z TI TO i1 i2 a b) :
    Turn P w K (.Tuple elts kk tpos) (ItzB t1 t2 K a b) [z, TI, TO, i1, i2] z (fun i h => IsZip h z TI TO .none ∧ IsPair h TI (.ref i1) (.ref i2) ∧ (∃ x y, IsPair h TO x y) ∧ ItB t1 h i1 a i ∧ ItB t2 h i2 b i) where
  mem := List.mem_cons_self ..
  obj := fun i h st c hc => by
    obtain ⟨gz, gI, ⟨x, y, gO⟩, g1, g2⟩ := st
    rcases List.mem_cons.mp hc with rfl | hc
    · exact ⟨_, gz, fun v q => nomatch q⟩
    rcases List.mem_cons.mp hc with rfl | hc
    · exact ⟨_, gI, fun v q => nomatch q⟩
    rcases List.mem_cons.mp hc with rfl | hc
    · exact ⟨_, gO, fun v q => nomatch q⟩
    rcases List.mem_cons.mp hc with rfl | hc
    · exact g1.obj
    · rw [List.mem_singleton.mp hc]
      exact g2.obj
  keep := fun i h h' st k => by
    obtain ⟨gz, gI, ⟨x, y, gO⟩, g1, g2⟩ := st
    exact ⟨k z (by simp) _ gz, k TI (by simp) _ gI, ⟨x, y, k TO (by simp) _ gO⟩, g1.at_ (k i1 (by simp)), g2.at_ (k i2 (by simp))⟩
  item := by
    intro X hP hw hK hc i pins s σ H E I hf st hg
    subst hP hw hK
    obtain ⟨gz, gI, ⟨x0, y0, gO⟩, g1, g2⟩ := st
    obtain ⟨xs, ys, x, y, qx, qy, hx, hy⟩ := hg
    obtain ⟨its, rv, p⟩ := inv_sqB I qx
    obtain ⟨its2, rv2, p2⟩ := inv_sqB I qy
    obtain ⟨u, hu, ru⟩ := rv.get hx
    obtain ⟨u2, hu2, ru2⟩ := rv2.get hy
    have zlt : z < s.heap.objs.size := Heap.lt_size gz
    refine nextZipB_item D gz gI gO g1 g2 p p2 (x := u) (y := u2) (by simpa using hu) (by simpa using hu2) fun h1 gz1 gO1 g11 g21 gT sz rest => ⟨_, rfl, wpAny_letOwnedTupleGo_zip (s := { s with heap := h1 }) gz1 fun h2 gz2 sb => ?_⟩
    have gT2 : h2.get? s.heap.objs.size = some { cls := .type "tuple", data := .seq #[u, u2] } := (sb.2 _ (Nat.ne_of_gt zlt)).trans gT
    have ob : ObjOk X.prog X.w (upd H s.heap.objs.size (.tup [x, y])) h2 s.heap.objs.size (.tup [x, y]) := ⟨by show 2 ≤ sizeLine; decide, [u, u2], .cons ru (.cons ru2 .nil), ⟨_, gT2, rfl, _, rfl⟩⟩
    have off : ∀ c, c ∈ [z, TI, TO, i1, i2] → c < s.heap.objs.size := fun c hcm => by
      rcases List.mem_cons.mp hcm with rfl | hcm
      · exact zlt
      rcases List.mem_cons.mp hcm with rfl | hcm
      · exact Heap.lt_size gI
      rcases List.mem_cons.mp hcm with rfl | hcm
      · exact Heap.lt_size gO
      rcases List.mem_cons.mp hcm with rfl | hcm
      · obtain ⟨o, e, _⟩ := g1.obj
        exact Heap.lt_size e
      · rw [List.mem_singleton.mp hcm]
        obtain ⟨o, e, _⟩ := g2.obj
        exact Heap.lt_size e
    have J : Inv X pins σ (upd H s.heap.objs.size (.tup [x, y])) { s with heap := h2 } :=
      I.turnedNew (t' := s.toks) (ch := [z, TI, TO, i1, i2]) (fun c o hb q => (sb.2 c (fun e => hb (by simp [e]))).trans (rest c o (fun e => hb (by simp [e])) (fun e => hb (by simp [e])) (fun e => hb (by simp [e])) (fun e => hb (by simp [e])) q)) hf (Nat.le_refl _) ob
    refine ⟨.ref s.heap.objs.size, _, J, rfl, ⟨_, x, y, rfl, I.hok.fresh (Nat.le_refl _), rfl, fun l hl => by rw [sqB_inj I hl qx]; exact hx, fun l hl => by rw [sqB_inj I hl qy]; exact hy⟩, ⟨gz2, ?_, ⟨u, u2, ?_⟩, ?_, ?_⟩, fun c hcm => ?_⟩
    · exact (sb.2 _ D.TIz).trans (rest _ _ D.TIz D.TITO D.TIi1 D.TIi2 gI)
    · exact (sb.2 _ D.TOz).trans gO1
    · exact g11.at_ fun o e => (sb.2 _ D.i1z).trans e
    · exact g21.at_ fun o e => (sb.2 _ D.i2z).trans e
    · rw [upd_ne (Nat.ne_of_lt (off c hcm))]
      exact (hf c hcm).1
  done := by
    intro X hP hw hK hc i pins s σ H E I hf st hg
    subst hP hw hK
    obtain ⟨gz, gI, ⟨x0, y0, gO⟩, g1, g2⟩ := st
    obtain ⟨xs, ys, qx, qy, hend⟩ := hg
    obtain ⟨its, rv, p⟩ := inv_sqB I qx
    obtain ⟨its2, rv2, p2⟩ := inv_sqB I qy
    have n1 := rv.length
    have n2 := rv2.length
    have he : its.toArray[i]? = none ∨ its2.toArray[i]? = none := hend.imp (fun q => by simp; omega) fun q => by simp; omega
    exact nextZipB_end (I.ok.hd hc) D gz gI gO g1 g2 p p2 he fun h' rest => ⟨rfl, I.turnedL (t' := s.toks) (ch := [z, TI, TO, i1, i2]) (fun c o hb q => rest c o (fun e => hb (by simp [e])) (fun e => hb (by simp [e])) (fun e => hb (by simp [e])) (fun e => hb (by simp [e])) q) hf⟩
  self := fun A i s Q E st h => wpAny_pyIter_zip st.1 h
def iZipB (K : PySem.W.Frag) (ta : TA) : TI := fun σ H R => ta σ H fun vs H1 => ∃ (t1 t2 : Bool) (a b : Addr) (xs ys : List V), vs = [.ref a, .ref b] ∧ SqB t1 K H1 a xs ∧ SqB t2 K H1 b ys ∧ R (ItzB t1 t2 K a b) H1
theorem pi_zipB {X : Cx} {K : PySem.W.Frag} {e e2 : Expr} {ta : TA} {p pos tpos : Pos} {elts : List Expr} {kk : Nat} (hg : Gl X "zip") (hm : X.mg "zip" = none) (ha : PA X [e, e2] ta) (hK : X.K = K := by rfl)
    (hs : starEach [e, e2] X.env = (false, eval e X.env) :: starEach [e2] X.env := by rfl) (hpl : (backTo pos (starEach [e2] X.env)).any (·.1) = false := by rfl) :
    PI X (.Tuple elts kk tpos) (.Call (.Name "zip" p) [e, e2] [] pos) (iZipB K ta) := by
  subst hK
  refine ⟨fun pins s σ H R I h => ?_⟩
  refine Call_ (ld_blt I hg hm PyProof.Rows.boot_zip (PyProof.Rows.callWith_type1 (thn (ha.run pos pins s σ H _ I h) fun us s1 ⟨vs, H1, I1, r1, q1⟩ => ?_) hs hpl))
  obtain ⟨t1, t2, a, b, xs, ys, rfl, qx, qy, q⟩ := q1
  obtain rfl : us = [.ref a, .ref b] := by
    cases r1 with
    | cons r r2 => cases r2 with
      | cons r' r3 =>
        cases r3
        cases r
        cases r'
        rfl
  obtain ⟨its, rv, p1⟩ := inv_sqB I1 qx
  obtain ⟨its2, rv2, p2⟩ := inv_sqB I1 qy
  have off : ∀ c, c ∈ [s1.heap.objs.size + 4, s1.heap.objs.size + 2, s1.heap.objs.size + 3, s1.heap.objs.size, s1.heap.objs.size + 1] → FpOk X pins H1 c := fun c hcm => by
    have hle : s1.heap.objs.size ≤ c := by
      simp only [List.mem_cons, List.not_mem_nil, or_false] at hcm
      omega
    exact I1.fpOk hle (I1.hok.fresh hle)
  refine call_zipB p1 p2 fun h' gz gI gO g1 g2 hk => wpAny_pyIter_zip gz ?_
  have I2 : Inv X pins σ H1 { s1 with heap := h' } := I1.kept (t' := s1.toks) hk
  exact ⟨s1.heap.objs.size + 4, [s1.heap.objs.size + 4, s1.heap.objs.size + 2, s1.heap.objs.size + 3, s1.heap.objs.size, s1.heap.objs.size + 1], _, _, H1, rfl, I2, turn_zipB (PySem.W.ktu_apart s1.heap.objs.size a b p1.lt p2.lt), ⟨gz, gI, ⟨_, _, gO⟩, g1, g2⟩, off, q⟩
theorem walk_zipB {t1 t2 : Bool} {K : PySem.W.Frag} {a b : Addr} {xs ys : List V} {n : Nat} (hn : n = min xs.length ys.length) : Walk (ItzB t1 t2 K a b) n (fun H => SqB t1 K H a xs ∧ SqB t2 K H b ys) (YPair (fun i => xs[i]?) (fun i => ys[i]?)) := by
  subst hn
  refine ⟨fun i _ hi q => ?_, fun _ q => ⟨xs, ys, q.1, q.2, by omega⟩, fun i H v H' _ q y => ?_⟩
  · have h1 : i < xs.length := by omega
    have h2 : i < ys.length := by omega
    exact ⟨xs, ys, xs[i], ys[i], q.1, q.2, by simp [h1], by simp [h2]⟩
  · obtain ⟨T, x, z, h1, h2, h3, h4, h5⟩ := y
    exact ⟨T, x, z, h1, h2, h3, h4 xs q.1, h5 ys q.2⟩
end Sm
/-! Kind(..) and Schema(..) -/
namespace Sm
open PySem PySem.Spec PyProof.Rows L2
def kbB {α : Type} (us mv ws : List α) : List α := us ++ (ws.drop 1 ++ (ws.take 1 ++ mv))
structure MkKd (P : Program) (w : World) (K : PySem.W.Frag) (mg : Str → Option Value) (base : Heap) : Prop where
  ex : ∃ (f : Addr) (fd : FuncData) (ps : List Str) (mv : List Value), Mk K (KC K) f ∧ FnOk P w K mg base CX0 5 f fd ps (spKInit K) ∧ mg "Kind" = some (.ref (KC K)) ∧ KBn K fd ps 3 ["single"] (fun us ws => us ++ ws) (fun vs zs => vs ++ zs) ∧
    KBn K fd ps 1 ["fields", "name"] (fun us ws => kbB us mv ws) (fun vs zs => kbB vs [.bl false] zs)
def tKindA (K : PySem.W.Frag) (t tk : TA) : TE := fun σ H Q => t σ H fun vs H1 => tk σ H1 fun zs H2 => ∃ nm v us one, vs = [.str nm, v] ∧ zs = [.bl one] ∧ wordB nm = true ∧ KfA K H2 v us ∧ ∀ a H', H2 a = none → Same H2 H' → KindO K H' a (nm, us, one) → Q (.ref a) H'
def tKindB (K : PySem.W.Frag) (tk : TA) : TE := fun σ H Q => tk σ H fun zs H2 => ∃ nm v us, zs = [v, .str nm] ∧ wordB nm = true ∧ KfA K H2 v us ∧ ∀ a H', H2 a = none → Same H2 H' → KindO K H' a (nm, us, false) → Q (.ref a) H'
theorem kind_ok {K : PySem.W.Frag} {H1 : Hp} {v : V} {us : List Str} {nm : Str} {one : Bool} {Q : VK} {x dx : Addr} (hx : H1 x = none) (hd : H1 dx = none) (ne : dx ≠ x) (wn : wordB nm = true) (f : KfA K H1 v us) (q : ∀ a H', H1 a = none → Same H1 H' → KindO K H' a (nm, us, one) → Q (.ref a) H') :
    spKInit K [.ref x, .str nm, v, .bl one] (upd (upd H1 dx (.own x)) x (.ins (KC K) dx [])) (fun v H2 => v = .non ∧ Q (.ref x) H2) E0 := by
  have s1 : Same H1 (upd (upd H1 dx (.own x)) x (.ins (KC K) dx [])) := fun b o e => by
    rw [upd_ne (ne_of_none e hx), upd_ne (ne_of_none e hd)]
    exact e
  exact ⟨x, dx, v, us, nm, one, rfl, upd_same, wn, f.on s1, fun H' o k => ⟨rfl, q x H' hx (fun b u e => o b u (ne_of_none e hx) (s1 b u e)) k⟩⟩
section
variable {X : Cx} {j k : Nat} {t tk : TA} {e : Expr} {es : List Expr} {kws : List Keyword} {p pos : Pos}
theorem pe_kindA (M : MkKd X.prog X.w X.K X.mg X.base) (hr : Room j X.A) (hk : 6 ≤ j) (hg : Gl X "Kind") (ha : PA X (e :: es) t) (hkw : PK X kws tk)
    (hall : (backToKw pos (keywordEach kws X.env)).all (·.1.isSome) = true := by rfl) (hks : (backToKw pos (keywordEach kws X.env)).filterMap (·.1) = (["single"] : List Str) := by rfl)
    (he : starEach (e :: es) X.env = (false, eval e X.env) :: starEach es X.env := by rfl) (hpl : ((backTo pos (starEach (e :: es) X.env)).any (·.1) || (backToKw pos (keywordEach kws X.env)).any (·.1.isNone)) = false := by rfl) :
    PE X (.Call (.Name "Kind" p) (e :: es) kws pos) (tKindA X.K t tk) := by
  obtain ⟨f, fd, ps, mv, mk, F, hm, hB, _⟩ := M.ex
  refine ⟨fun pins s σ H Q I h => ?_⟩
  refine wpAny_Call_Name_kw (ld_glob I hg hm ?_ (by decide))
  refine PySem.W.callWith_KW (h₀ := X.base) I.ok.mod.kin mk.kp hall (thn (ha.run pos pins s σ H _ I h) fun us s1 ⟨vs, H1, I1, r, q⟩ => ?_) hpl he
  refine thn (hkw.run pos pins s1 σ H1 _ I1 q) fun ws s2 ⟨zs, H2, I2, rz, nm, v, ns, one, e1, e2, wn, f, q2⟩ => ⟨I2.kIn, ?_⟩
  rw [hks]
  subst e1 e2
  exact run_makeK mk F (hr.mono hk) hB pass0 I2 r rz rfl rfl fun x dx hx hd ne => kind_ok hx hd ne wn f q2
theorem pe_kindB (M : MkKd X.prog X.w X.K X.mg X.base) (hr : Room j X.A) (hk : 6 ≤ j) (hg : Gl X "Kind") (hkw : PK X kws tk)
    (hall : (backToKw pos (keywordEach kws X.env)).all (·.1.isSome) = true := by rfl) (hks : (backToKw pos (keywordEach kws X.env)).filterMap (·.1) = (["fields", "name"] : List Str) := by rfl)
    (hpl : ((backTo pos (starEach [] X.env)).any (·.1) || (backToKw pos (keywordEach kws X.env)).any (·.1.isNone)) = false := by rfl) :
    PE X (.Call (.Name "Kind" p) [] kws pos) (tKindB X.K tk) := by
  obtain ⟨f, fd, ps, mv, mk, F, hm, _, hB⟩ := M.ex
  refine ⟨fun pins s σ H Q I h => ?_⟩
  refine wpAny_Call_Name_kw (ld_glob I hg hm ?_ (by decide))
  refine PySem.W.callWith_KW0 (h₀ := X.base) I.ok.mod.kin mk.kp hall ?_ hpl
  refine thn (hkw.run pos pins s σ H _ I h) fun ws s2 ⟨zs, H2, I2, rz, nm, v, us, e, wn, f, q⟩ => ⟨I2.kIn, ?_⟩
  rw [hks]
  subst e
  exact run_makeK (us := []) (vs := []) mk F (hr.mono hk) hB pass0 I2 .nil rz rfl rfl fun x dx hx hd ne => kind_ok hx hd ne wn f q
def tSch (K : PySem.W.Frag) (t : TA) : TE := fun σ H Q => t σ H fun vs H1 => ∃ v rs, vs = [v] ∧ KsA K H1 v rs ∧ ∀ a H', H1 a = none → Same H1 H' → SchO K H' a rs → Q (.ref a) H'
theorem pe_schema (M : MkC X.prog X.w X.K X.mg X.base k "Schema" (SC X.K) (spSInit X.K) ["kinds"]) (hr : Room j X.A) (hk : k + 1 ≤ j) (hg : Gl X "Schema") (ha : PA X [e] t) (he : starEach [e] X.env = (false, eval e X.env) :: starEach [] X.env := by rfl) (hpl : (backTo pos (starEach [] X.env)).any (·.1) = false := by rfl) :
    PE X (.Call (.Name "Schema" p) [e] [] pos) (tSch X.K t) := by
  obtain ⟨f, fd, ps, mk, F, hm, hB, _⟩ := M.ex
  refine ⟨fun pins s σ H Q I h => ?_⟩
  refine wpAny_Call_Name_kw (ld_glob I hg hm ?_ (by decide))
  refine PySem.W.callWith_K (h₀ := X.base) I.ok.mod.kin mk.kp (thn (ha.run pos pins s σ H _ I h) fun us s1 ⟨vs, H1, I1, r, q⟩ => ⟨I1.kIn, ?_⟩) he hpl
  obtain ⟨v, rs, rfl, f, q⟩ := q
  refine run_make mk F (hr.mono hk) hB .nil pass0 I1 r fun x dx hx hd ne => ?_
  have s1 : Same H1 (upd (upd H1 dx (.own x)) x (.ins (SC X.K) dx [])) := fun b o e => by
    rw [upd_ne (ne_of_none e hx), upd_ne (ne_of_none e hd)]
    exact e
  exact ⟨x, dx, v, rs, rfl, upd_same, f.on s1, fun H' o k => ⟨rfl, q x H' hx (fun b u e => o b u (ne_of_none e hx) (s1 b u e)) k⟩⟩
end
end Sm
/-! a list or a tuple: walked, counted, taken apart -/
namespace Sm
open PySem PySem.Spec PyProof.Rows L2
def ItsB (t : Bool) (K : PySem.W.Frag) (a : Addr) : It := match t with | true => Itt K a | false => Itl K a
def IteB (t : Bool) (K : PySem.W.Frag) (a : Addr) : It := match t with | true => IteT K a | false => Ite K a
def iSeqB (K : PySem.W.Frag) (te : TE) : TI := fun σ H R => te σ H fun x H1 => ∃ (t : Bool) (a : Addr) (xs : List V), x = .ref a ∧ SqB t K H1 a xs ∧ R (ItsB t K a) H1
def iEnumB (K : PySem.W.Frag) (ta : TA) : TI := fun σ H R => ta σ H fun vs H1 => ∃ (t : Bool) (a : Addr) (xs : List V), vs = [.ref a] ∧ SqB t K H1 a xs ∧ R (IteB t K a) H1
section
variable {X : Cx} {K : PySem.W.Frag} {e tg : Expr} {te : TE}
theorem pi_seqB (he : PE X e te) (hK : X.K = K := by rfl) : PI X tg e (iSeqB K te) := by
  subst hK
  refine ⟨fun pins s σ H R I h => ?_⟩
  refine thn (he.run pins s σ H _ I h) fun v s1 ⟨x, H1, I1, r1, q1⟩ => ?_
  obtain ⟨t, a, xs, rfl, hq, q⟩ := q1
  cases r1
  have fin : FpOk X pins H1 s1.heap.objs.size := I1.fpOk (Nat.le_refl _) (I1.hok.fresh (Nat.le_refl _))
  have one : ∀ b ∈ [s1.heap.objs.size], FpOk X pins H1 b := fun b hb => by rw [List.mem_singleton.mp hb]; exact fin
  cases t with
  | true =>
    obtain ⟨its, rv, p, hz⟩ := I1.tuple hq
    exact wpAny_pyIter_tuple (show s1.heap.IsTuple a its.toArray from p) ⟨s1.heap.objs.size, [s1.heap.objs.size], _, _, H1, rfl, I1.kept (t' := s1.toks) fun b o e => Heap.get?_push_of_some _ e, turn_tuple a _, ⟨_, Heap.get?_push_size _ rfl, rfl, rfl⟩, one, q⟩
  | false =>
    obtain ⟨its, rv, p, hz⟩ := I1.list hq
    exact wpAny_pyIter_list p.isList ⟨s1.heap.objs.size, [s1.heap.objs.size], _, _, H1, rfl, I1.kept (t' := s1.toks) fun b o e => Heap.get?_push_of_some _ e, turn_list a _, ⟨_, Heap.get?_push_size _ rfl, rfl, rfl⟩, one, q⟩
theorem pi_enumB {ta : TA} {p pos tpos : Pos} {elts : List Expr} {kk : Nat} (hg : Gl X "enumerate") (hm : X.mg "enumerate" = none) (ha : PA X [e] ta) (hK : X.K = K := by rfl) (hs : starEach [e] X.env = [(false, eval e X.env)] := by rfl) :
    PI X (.Tuple elts kk tpos) (.Call (.Name "enumerate" p) [e] [] pos) (iEnumB K ta) := by
  subst hK
  refine ⟨fun pins s σ H R I h => ?_⟩
  refine Call_ (ld_blt I hg hm boot_enumerate (PyProof.Rows.callWith_type1 (thn (ha.run pos pins s σ H _ I h) fun us s1 ⟨vs, H1, I1, r1, q1⟩ => ?_) hs rfl))
  obtain ⟨t, a, xs, rfl, hq, q⟩ := q1
  have two : ∀ b ∈ [s1.heap.objs.size + 1, s1.heap.objs.size], FpOk X pins H1 b := fun b hb => by
    have hle : s1.heap.objs.size ≤ b := by
      simp only [List.mem_cons, List.not_mem_nil, or_false] at hb
      omega
    exact I1.fpOk hle (I1.hok.fresh hle)
  cases r1 with
  | cons r rr =>
    cases rr
    cases r
    cases t with
    | true =>
      obtain ⟨its, rv, p', hz⟩ := I1.tuple hq
      refine enum1_begins (begins_tuple a its.toArray) p' fun h' he hit hsz hk => wpAny_pyIter_enum he ?_
      exact ⟨s1.heap.objs.size + 1, [s1.heap.objs.size + 1, s1.heap.objs.size], _, _, H1, rfl, I1.kept (t' := s1.toks) hk, turn_enumT a (s1.heap.objs.size + 1) s1.heap.objs.size, ⟨⟨.none, he⟩, ⟨_, hit, rfl, rfl⟩, Nat.succ_ne_self _⟩, two, q⟩
    | false =>
      obtain ⟨its, rv, p', hz⟩ := I1.list hq
      refine enum1_begins (begins_list a its.toArray) p'.isList fun h' he hit hsz hk => wpAny_pyIter_enum he ?_
      exact ⟨s1.heap.objs.size + 1, [s1.heap.objs.size + 1, s1.heap.objs.size], _, _, H1, rfl, I1.kept (t' := s1.toks) hk, turn_enum a (s1.heap.objs.size + 1) s1.heap.objs.size, ⟨⟨.none, he⟩, ⟨_, hit, rfl, rfl⟩, Nat.succ_ne_self _⟩, two, q⟩
end
theorem walk_seqB {t : Bool} {K : PySem.W.Frag} {a : Addr} {xs : List V} : Walk (ItsB t K a) xs.length (fun H => SqB t K H a xs) (YAt xs) := by
  cases t with
  | true => exact walk_tup
  | false => exact walk_list
theorem walk_enumB {t : Bool} {K : PySem.W.Frag} {a : Addr} {xs : List V} : Walk (IteB t K a) xs.length (fun H => SqB t K H a xs) (YPair (fun i => some (.int (i : Nat))) (fun i => xs[i]?)) := by
  cases t with
  | true => exact walk_enumT
  | false => exact walk_enum
/-- the object of a list or a tuple -/
def oB (t : Bool) (xs : List V) : HO := match t with | true => .tup xs | false => .lst xs
theorem SqB.of {t : Bool} {K : PySem.W.Frag} {H : Hp} {a : Addr} {xs : List V} (h : H a = some (oB t xs)) : SqB t K H a xs := by
  cases t with
  | true => exact SqT.of h
  | false => exact SqL.of h
theorem SqB.or {t : Bool} {K : PySem.W.Frag} {H : Hp} {a : Addr} {xs : List V} (h : SqB t K H a xs) : SqL K H a xs ∨ SqT K H a xs := by
  cases t with
  | true => exact .inr h
  | false => exact .inl h
theorem oB_kind {t : Bool} {H : Hp} {a : Addr} {xs : List V} (h : H a = some (oB t xs)) : KindOf H (.ref a) (if t then .tup else .lst) := by
  cases t with
  | true => exact .tup h
  | false => exact .lst h
theorem Fr.oB {t : Bool} {X : List Addr} {H H' : Hp} {a : Addr} {xs : List V} (e : Fr X H H') (n : a ∉ X) (h : H a = some (oB t xs)) : H' a = some (Sm.oB t xs) := by
  cases t with
  | true => exact e.tup h
  | false => exact e.lst n h
/-- (a, b, ..) = a list or a tuple of that length -/
def gSeqB (K : PySem.W.Frag) (n : Nat) (t : TGs) : TG := fun v σ H Q => ∃ (b : Bool) (a : Addr) (xs : List V), v = .ref a ∧ SqB b K H a xs ∧ xs.length = n ∧ t xs σ H Q
theorem pg_seqB {X : Cx} {K : PySem.W.Frag} {pos : Pos} {es : List Expr} {k : Nat} {t : TGs} {n : Nat} (hc : X.calm = true) (h : PGs X es t) (hK : X.K = K := by rfl)
    (hn : (assignEach es X.env).length = n := by rfl) (hst : (assignEach es X.env).findIdx? (·.1) = none := by rfl) : PG X (.Tuple es k pos) (gSeqB K n t) := by
  subst hK
  refine ⟨fun pins s σ H v u Q I r hw => ?_⟩
  obtain ⟨b, a, xs, rfl, hq, hl, hw⟩ := hw
  cases b with
  | true => exact (pg_tup hc h hn hst).run pins s σ H _ u Q I r ⟨a, xs, rfl, hq, hl, hw⟩
  | false => exact (pg_lst hc h hn hst).run pins s σ H _ u Q I r ⟨a, xs, rfl, hq, hl, hw⟩
/-- C(..) by place -/
def tMk (C : Addr) (sp : Sp) (t : TA) : TE := fun σ H Q => t σ H fun vs H1 => ∀ x dx, H1 x = none → H1 dx = none → dx ≠ x → sp (.ref x :: vs) (upd (upd H1 dx (.own x)) x (.ins C dx [])) (fun v H2 => v = .non ∧ Q (.ref x) H2) E0
theorem pe_mk {X : Cx} {j k : Nat} {C : Addr} {sp : Sp} {x : Str} {ks : List Str} {t : TA} {e : Expr} {es : List Expr} {p pos : Pos} (M : MkC X.prog X.w X.K X.mg X.base k x C sp ks) (hr : Room j X.A) (hk : k + 1 ≤ j) (hg : Gl X x) (ha : PA X (e :: es) t)
    (he : starEach (e :: es) X.env = (false, eval e X.env) :: starEach es X.env := by rfl) (hpl : (backTo pos (starEach es X.env)).any (·.1) = false := by rfl) (hdb : (x == ("__debug__" : Str)) = false := by decide) : PE X (.Call (.Name x p) (e :: es) [] pos) (tMk C sp t) := by
  obtain ⟨f, fd, ps, mk, F, hm, hB, _⟩ := M.ex
  refine ⟨fun pins s σ H Q I h => ?_⟩
  refine wpAny_Call_Name_kw (ld_glob I hg hm ?_ hdb)
  refine PySem.W.callWith_K (h₀ := X.base) I.ok.mod.kin mk.kp (thn (ha.run pos pins s σ H _ I h) fun us s1 ⟨vs, H1, I1, r, q⟩ => ⟨I1.kIn, ?_⟩) he hpl
  refine run_make mk F (hr.mono hk) hB .nil pass0 I1 r fun x dx hx hd ne => ?_
  rw [List.append_nil]
  exact q x dx hx hd ne
theorem pe_mkK {X : Cx} {K : PySem.W.Frag} {j k : Nat} {C : Addr} {sp : Sp} {x : Str} {ks : List Str} {t : TA} {e : Expr} {es : List Expr} {p pos : Pos} (M : MkC X.prog X.w K X.mg X.base k x C sp ks) (hr : Room j X.A) (hk : k + 1 ≤ j) (hg : Gl X x) (ha : PA X (e :: es) t) (hK : X.K = K := by rfl)
    (he : starEach (e :: es) X.env = (false, eval e X.env) :: starEach es X.env := by rfl) (hpl : (backTo pos (starEach es X.env)).any (·.1) = false := by rfl) (hdb : (x == ("__debug__" : Str)) = false := by decide) : PE X (.Call (.Name x p) (e :: es) [] pos) (tMk C sp t) := by
  subst hK
  exact pe_mk M hr hk hg ha he hpl hdb
theorem pe_fieldsP {X : Cx} {K : PySem.W.Frag} {j k : Nat} {t : TA} {e : Expr} {p pos : Pos} (M : MkC X.prog X.w K X.mg X.base k "Fields" (FC K) (spFInit K) ["words"]) (hr : Room j X.A) (hk : k + 1 ≤ j) (hg : Gl X "Fields") (ha : PA X [e] t) (hK : X.K = K := by rfl)
    (he : starEach [e] X.env = (false, eval e X.env) :: starEach [] X.env := by rfl) (hpl : (backTo pos (starEach [] X.env)).any (·.1) = false := by rfl) : PE X (.Call (.Name "Fields" p) [e] [] pos) (tFields K t) := by
  subst hK
  exact pe_fields M hr hk hg ha he hpl
/-- the heap in which an object has just been laid -/
theorem same_made {H : Hp} {x dx C : Addr} (hx : H x = none) (hd : H dx = none) : Same H (upd (upd H dx (.own x)) x (.ins C dx [])) := fun b o e => by
  rw [upd_ne (ne_of_none e hx), upd_ne (ne_of_none e hd)]
  exact e
end Sm
/-! == of data; a list that grows -/
namespace Sm
open PySem PySem.Spec PyProof.Rows L2
/-! no truths, no dicts -/
mutual
def plainD : PyData → Bool
  | .none => true
  | .bool _ => false
  | .int _ => true
  | .str _ => true
  | .list ds => plains ds
  | .tuple ds => plains ds
  | .dict _ => false
def plains : List PyData → Bool
  | [] => true
  | d :: ds => plainD d && plains ds
end
mutual
theorem eqv_plain : ∀ (d e : PyData), plainD d = true → plainD e = true → PyData.eqv d e = true → d = e
  | .none, e, _, h, q => by cases e <;> first | rfl | (unfold PyData.eqv at q; cases q)
  | .bool _, _, h, _, _ => by unfold plainD at h; cases h
  | .int i, e, _, h, q => by
    cases e with
    | int j => unfold PyData.eqv at q; rw [beq_iff_eq.mp q]
    | bool b => unfold plainD at h; cases h
    | _ => unfold PyData.eqv at q; cases q
  | .str i, e, _, h, q => by
    cases e with
    | str j => unfold PyData.eqv at q; rw [beq_iff_eq.mp q]
    | _ => unfold PyData.eqv at q; cases q
  | .list ds, e, h1, h, q => by
    cases e with
    | list es => unfold PyData.eqv at q; unfold plainD at h1 h; rw [eqvAll_plain ds es h1 h q]
    | _ => unfold PyData.eqv at q; cases q
  | .tuple ds, e, h1, h, q => by
    cases e with
    | tuple es => unfold PyData.eqv at q; unfold plainD at h1 h; rw [eqvAll_plain ds es h1 h q]
    | _ => unfold PyData.eqv at q; cases q
  | .dict _, _, h, _, _ => by unfold plainD at h; cases h
theorem eqvAll_plain : ∀ (ds es : List PyData), plains ds = true → plains es = true → PyData.eqvAll ds es = true → ds = es
  | [], [], _, _, _ => rfl
  | [], _ :: _, _, _, q => by unfold PyData.eqvAll at q; cases q
  | _ :: _, [], _, _, q => by unfold PyData.eqvAll at q; cases q
  | d :: ds, e :: es, h1, h, q => by
    unfold PyData.eqvAll at q
    unfold plains at h1 h
    obtain ⟨q1, q2⟩ := Bool.and_eq_true_iff.mp q
    obtain ⟨a1, a2⟩ := Bool.and_eq_true_iff.mp h1
    obtain ⟨b1, b2⟩ := Bool.and_eq_true_iff.mp h
    rw [eqv_plain d e a1 b1 q1, eqvAll_plain ds es a2 b2 q2]
end
theorem plains_of : ∀ {ds : List PyData}, (∀ d ∈ ds, plainD d = true) → plains ds = true
  | [], _ => rfl
  | d :: ds, h => by
    unfold plains
    rw [h d (List.mem_cons_self ..), Bool.true_and]
    exact plains_of fun x hx => h x (List.mem_cons_of_mem _ hx)
theorem plain_list {ds : List PyData} (h : plains ds = true) : plainD (.list ds) = true := by unfold plainD; exact h
theorem plain_tuple {ds : List PyData} (h : plains ds = true) : plainD (.tuple ds) = true := by unfold plainD; exact h
theorem plain_sds (ws : List Str) : plains (sds ws) = true := plains_of fun d hd => by
  obtain ⟨w, _, rfl⟩ := List.mem_map.mp hd
  rfl
theorem sds_inj : ∀ {ws us : List Str}, sds ws = sds us → ws = us
  | [], [], _ => rfl
  | [], _ :: _, h => by cases h
  | _ :: _, [], h => by cases h
  | w :: r, u :: t, h => by
    injection h with h1 h2
    injection h1 with h1
    rw [h1, sds_inj h2]
mutual
theorem lay_fits : ∀ (d : PyData) (n : Nat), fits d n = true → d.canLay0 = true ∧ d.depth ≤ n
  | .none, n, _ => ⟨rfl, Nat.zero_le _⟩
  | .bool _, n, _ => ⟨rfl, Nat.zero_le _⟩
  | .int _, n, _ => ⟨rfl, Nat.zero_le _⟩
  | .str x, n, h => by unfold fits at h; exact ⟨by unfold PyData.canLay0; exact h, Nat.zero_le _⟩
  | .list _, 0, h => by unfold fits at h; cases h
  | .tuple _, 0, h => by unfold fits at h; cases h
  | .list ds, n + 1, h => by
    unfold fits at h
    obtain ⟨h1, h2⟩ := lays_fits ds n (Bool.and_eq_true_iff.mp h).2
    exact ⟨by unfold PyData.canLay0; exact h1, by unfold PyData.depth; omega⟩
  | .tuple ds, n + 1, h => by
    unfold fits at h
    obtain ⟨h1, h2⟩ := lays_fits ds n (Bool.and_eq_true_iff.mp h).2
    exact ⟨by unfold PyData.canLay0; exact h1, by unfold PyData.depth; omega⟩
  | .dict _, _, h => by unfold fits at h; cases h
theorem lays_fits : ∀ (ds : List PyData) (n : Nat), fitsAll ds n = true → PyData.canLayAll0 ds = true ∧ PyData.depthAll ds ≤ n
  | [], n, _ => ⟨rfl, Nat.zero_le _⟩
  | d :: ds, n, h => by
    unfold fitsAll at h
    obtain ⟨h1, h2⟩ := Bool.and_eq_true_iff.mp h
    obtain ⟨a1, a2⟩ := lay_fits d n h1
    obtain ⟨b1, b2⟩ := lays_fits ds n h2
    exact ⟨by unfold PyData.canLayAll0; rw [a1, b1]; rfl, by unfold PyData.depthAll; exact Nat.max_le.mpr ⟨a2, b2⟩⟩
end
theorem shaped_fits {d : PyData} {n : Nat} (h : fits d n = true) (hn : n ≤ 64) : SeqAt.shaped d = true := by
  obtain ⟨h1, h2⟩ := lay_fits d n h
  unfold SeqAt.shaped
  rw [h1, decide_eq_true (by omega)]
  rfl
theorem eqv_dec {d e : PyData} {n : Nat} (h : fits d n = true) (p : plainD d = true) (p' : plainD e = true) {c : Prop} [Decidable c] (hc : c ↔ d = e) : PyData.eqv d e = decide c := by
  by_cases q : d = e
  · subst q
    rw [decide_eq_true (hc.mpr rfl)]
    exact SeqAt.eqv_refl d (lay_fits d n h).1
  · rw [decide_eq_false fun z => q (hc.mp z)]
    exact Bool.eq_false_iff.mpr fun z => q (eqv_plain d e p p' z)
/-- one more item of a list under way -/
theorem Dats.put {Z : Addr → Prop} {X : List Addr} {H2 H7 : Hp} {D : Addr} {ys us : List V} {y : V} {ds : List PyData} {d : PyData} (h : Dats Z H2 ys ds) (e : Fr X H2 H7) (hx : ∀ b, Z b → b ∉ X) (hz : ∀ b, Z b → b ≠ D) (hd : H7 D = some (.lst us)) (g : Dat Z H7 y d) :
    Dats Z (upd H7 D (.lst (ys ++ [y]))) (ys ++ [y]) (ds ++ [d]) := by
  have lst : ∀ a xs, Z a → H7 a = some (.lst xs) → Z a ∧ (upd H7 D (.lst (ys ++ [y]))) a = some (.lst xs) := fun a xs z q => ⟨z, by rw [upd_ne (hz a z)]; exact q⟩
  have tup : ∀ a xs, H7 a = some (.tup xs) → (upd H7 D (.lst (ys ++ [y]))) a = some (.tup xs) := fun a xs q => by rw [upd_ne (ne_of q hd (by intro z; cases z))]; exact q
  exact (Dats.go lst tup ds ys (Dats.go (fun a xs z q => ⟨z, e.lst (hx a z) q⟩) (fun a xs q => e.tup q) ds ys h)).app (.one (Dat.go lst tup d y g))
end Sm
/-! templates -/
namespace Sm
open PySem PySem.Spec PyProof.Rows L2
abbrev VC (K : PySem.W.Frag) : Addr := He.ga K "Variable"
abbrev TC (K : PySem.W.Frag) : Addr := He.ga K "Template"
/-- a kind, and what is read, covered, written of it -/
abbrev VRow := Str × List Str × List Str × List Str
structure VarO (K : PySem.W.Frag) (H : Hp) (a : Addr) (r : VRow) : Prop where
  at_ : ∃ dx f1 f2 f3, H a = some (.ins (VC K) dx [("kind", .str r.1), ("read_set", .ref f1), ("cover_set", .ref f2), ("write_set", .ref f3)]) ∧ Fl K H f1 r.2.1 ∧ Fl K H f2 r.2.2.1 ∧ Fl K H f3 r.2.2.2
  wk : wordB r.1 = true
  len : r.2.1.length ≤ 60 ∧ r.2.2.1.length ≤ 60 ∧ r.2.2.2.length ≤ 60
theorem VarO.fr {K : PySem.W.Frag} {X : List Addr} {H H' : Hp} {a : Addr} {r : VRow} (h : VarO K H a r) (e : Fr X H H') : VarO K H' a r := by
  obtain ⟨⟨dx, f1, f2, f3, h1, h2, h3, h4⟩, w, l⟩ := h
  exact ⟨⟨dx, f1, f2, f3, e.ins h1, h2.fr e, h3.fr e, h4.fr e⟩, w, l⟩
theorem VarO.on {K : PySem.W.Frag} {H H' : Hp} {a : Addr} {r : VRow} (h : VarO K H a r) (e : Same H H') : VarO K H' a r := h.fr (Same.fr (X := []) e)
/-- objects of these rows -/
def VarsAt (K : PySem.W.Frag) (H : Hp) (xs : List Addr) (rs : List VRow) : Prop := xs.length = rs.length ∧ ∀ (i : Nat) x r, xs[i]? = some x → rs[i]? = some r → VarO K H x r
theorem VarsAt.fr {K : PySem.W.Frag} {X : List Addr} {H H' : Hp} {xs : List Addr} {rs : List VRow} (h : VarsAt K H xs rs) (e : Fr X H H') : VarsAt K H' xs rs := ⟨h.1, fun i x r hx hr => (h.2 i x r hx hr).fr e⟩
theorem VarsAt.snoc {K : PySem.W.Frag} {H : Hp} {xs : List Addr} {rs : List VRow} {x : Addr} {r : VRow} (h : VarsAt K H xs rs) (k : VarO K H x r) : VarsAt K H (xs ++ [x]) (rs ++ [r]) := by
  refine ⟨by rw [List.length_append, List.length_append, h.1]; rfl, fun i y t hy ht => ?_⟩
  by_cases hi : i < xs.length
  · rw [List.getElem?_append_left hi] at hy
    rw [List.getElem?_append_left (by rw [← h.1]; exact hi)] at ht
    exact h.2 i y t hy ht
  · rw [List.getElem?_append_right (by omega)] at hy
    rw [List.getElem?_append_right (by rw [← h.1]; omega), ← h.1] at ht
    have hz : i - xs.length = 0 := by
      have := (List.getElem?_eq_some_iff.mp hy).1
      rw [List.length_singleton] at this
      omega
    rw [hz] at hy ht
    cases hy
    cases ht
    exact k
structure TmO (K : PySem.W.Frag) (H : Hp) (a : Addr) (nm : Str) (rs : List VRow) : Prop where
  at_ : ∃ dx t xs, H a = some (.ins (TC K) dx [("name", .str nm), ("parts", .ref t)]) ∧ H t = some (.tup (xs.map V.ref)) ∧ VarsAt K H xs rs
  len : rs.length ≤ 3
theorem TmO.fr {K : PySem.W.Frag} {X : List Addr} {H H' : Hp} {a : Addr} {nm : Str} {rs : List VRow} (h : TmO K H a nm rs) (e : Fr X H H') : TmO K H' a nm rs := by
  obtain ⟨⟨dx, t, xs, h1, h2, h3⟩, l⟩ := h
  exact ⟨⟨dx, t, xs, e.ins h1, e.tup h2, h3.fr e⟩, l⟩
theorem TmO.on {K : PySem.W.Frag} {H H' : Hp} {a : Addr} {nm : Str} {rs : List VRow} (h : TmO K H a nm rs) (e : Same H H') : TmO K H' a nm rs := h.fr (Same.fr (X := []) e)
/-- what a template takes as one of its variables -/
structure VaA (K : PySem.W.Frag) (H : Hp) (v : V) (r : VRow) : Prop where
  at_ : ∃ (t : Bool) (a : Addr) (f1 f2 f3 : V), v = .ref a ∧ H a = some (oB t [.str r.1, f1, f2, f3]) ∧ FsA K H f1 r.2.1 ∧ FsA K H f2 r.2.2.1 ∧ FsA K H f3 r.2.2.2
  wk : wordB r.1 = true
theorem VaA.on {K : PySem.W.Frag} {H H' : Hp} {v : V} {r : VRow} (h : VaA K H v r) (e : Same H H') : VaA K H' v r := by
  obtain ⟨⟨t, a, f1, f2, f3, h1, h2, h3, h4, h5⟩, w⟩ := h
  exact ⟨⟨t, a, f1, f2, f3, h1, e _ _ h2, h3.on e, h4.on e, h5.on e⟩, w⟩
structure VsA (K : PySem.W.Frag) (H : Hp) (v : V) (rs : List VRow) : Prop where
  at_ : ∃ (t : Bool) (a : Addr) (xs : List V), v = .ref a ∧ H a = some (oB t xs) ∧ xs.length = rs.length ∧ ∀ (i : Nat) x r, xs[i]? = some x → rs[i]? = some r → VaA K H x r
  pos : 1 ≤ rs.length
  len : rs.length ≤ 3
theorem VsA.on {K : PySem.W.Frag} {H H' : Hp} {v : V} {rs : List VRow} (h : VsA K H v rs) (e : Same H H') : VsA K H' v rs := by
  obtain ⟨⟨t, a, xs, h1, h2, h3, h4⟩, p, l⟩ := h
  exact ⟨⟨t, a, xs, h1, e _ _ h2, h3, fun i x r hx hr => (h4 i x r hx hr).on e⟩, p, l⟩
theorem FsA.upd0 {K : PySem.W.Frag} {H : Hp} {v : V} {us : List Str} {x C dx : Addr} {o : HO} (h : FsA K H v us) (hx : H x = some (.ins C dx [])) : FsA K (upd H x o) v us := by
  obtain ⟨b, c, l0, h⟩ := h
  refine ⟨b, c, l0, ?_⟩
  rcases h with ⟨a, rfl, f⟩ | ⟨a, xs, rfl, h, l, m⟩
  · exact .inl ⟨a, rfl, f.upd0 hx⟩
  · refine .inr ⟨a, xs, rfl, ?_, l, m⟩
    rcases h with h | h
    · exact .inl (by rw [upd_ne (ne_of h hx (by intro z; cases z))]; exact h)
    · exact .inr (by rw [upd_ne (ne_of h hx (by intro z; cases z))]; exact h)
theorem oB_upd0 {t : Bool} {H : Hp} {a x C dx : Addr} {fs : List (Str × V)} {xs : List V} {o : HO} (h : H a = some (oB t xs)) (hx : H x = some (.ins C dx fs)) : (upd H x o) a = some (oB t xs) := by
  rw [upd_ne (ne_of h hx (by cases t <;> (intro z; cases z)))]
  exact h
theorem VaA.upd0 {K : PySem.W.Frag} {H : Hp} {v : V} {r : VRow} {x C dx : Addr} {o : HO} (h : VaA K H v r) (hx : H x = some (.ins C dx [])) : VaA K (upd H x o) v r := by
  obtain ⟨⟨t, a, f1, f2, f3, h1, h2, h3, h4, h5⟩, w⟩ := h
  exact ⟨⟨t, a, f1, f2, f3, h1, oB_upd0 h2 hx, h3.upd0 hx, h4.upd0 hx, h5.upd0 hx⟩, w⟩
def vrow (r : VRow) : PyData := .tuple [.str r.1, .list (sds r.2.1), .list (sds r.2.2.1), .list (sds r.2.2.2)]
def vrows (rs : List VRow) : List PyData := rs.map vrow
theorem vrow_inj {r t : VRow} (h : vrow r = vrow t) : r = t := by
  obtain ⟨a, b, c, d⟩ := r
  obtain ⟨a', b', c', d'⟩ := t
  unfold vrow at h
  injection h with h
  injection h with h1 h
  injection h with h2 h
  injection h with h3 h
  injection h with h4 h
  injection h1 with h1
  injection h2 with h2
  injection h3 with h3
  injection h4 with h4
  have e1 : a = a' := h1
  have e2 : b = b' := sds_inj h2
  have e3 : c = c' := sds_inj h3
  have e4 : d = d' := sds_inj h4
  rw [e1, e2, e3, e4]
theorem vrows_inj : ∀ {rs ts : List VRow}, vrows rs = vrows ts → rs = ts
  | [], [], _ => rfl
  | [], _ :: _, h => by cases h
  | _ :: _, [], h => by cases h
  | r :: rs, t :: ts, h => by
    injection h with h1 h2
    rw [vrow_inj h1, vrows_inj h2]
theorem vrows_plain (rs : List VRow) : plainD (.list (vrows rs)) = true := by
  unfold plainD
  refine plains_of fun d hd => ?_
  obtain ⟨r, _, rfl⟩ := List.mem_map.mp hd
  refine plain_tuple (plains_of fun d hd => ?_)
  rcases List.mem_cons.mp hd with rfl | hd
  · rfl
  rcases List.mem_cons.mp hd with rfl | hd
  · exact plain_list (plain_sds _)
  rcases List.mem_cons.mp hd with rfl | hd
  · exact plain_list (plain_sds _)
  · rw [List.mem_singleton.mp hd]
    exact plain_list (plain_sds _)
theorem word_okS {x : Str} (h : wordB x = true) : PyData.strOk x = true := by
  unfold wordB at h
  have h1 := (Bool.and_eq_true_iff.mp (Bool.and_eq_true_iff.mp h).2).1
  unfold Txt.isascii at h1
  unfold PyData.strOk
  rw [Array.all_eq_true] at h1 ⊢
  exact fun i hi => decide_eq_true (Nat.lt_trans (of_decide_eq_true (h1 i hi)) (by decide))
/-- rows of words, not too long -/
structure OkV (r : VRow) : Prop where
  wk : wordB r.1 = true
  w1 : ∀ w ∈ r.2.1, wordB w = true
  w2 : ∀ w ∈ r.2.2.1, wordB w = true
  w3 : ∀ w ∈ r.2.2.2, wordB w = true
  len : r.2.1.length ≤ 60 ∧ r.2.2.1.length ≤ 60 ∧ r.2.2.2.length ≤ 60
theorem vrow_fits {r : VRow} (h : OkV r) : fits (vrow r) 2 = true := by
  obtain ⟨a, b, c⟩ := h.len
  refine fits_tuple (by show 4 ≤ 10000; decide) fun d hd => ?_
  rcases List.mem_cons.mp hd with rfl | hd
  · unfold fits; exact word_okS h.wk
  rcases List.mem_cons.mp hd with rfl | hd
  · exact fits_sds (by omega) fun w hw => word_okS (h.w1 w hw)
  rcases List.mem_cons.mp hd with rfl | hd
  · exact fits_sds (by omega) fun w hw => word_okS (h.w2 w hw)
  · rw [List.mem_singleton.mp hd]
    exact fits_sds (by omega) fun w hw => word_okS (h.w3 w hw)
theorem VarO.okV {K : PySem.W.Frag} {H : Hp} {a : Addr} {r : VRow} (h : VarO K H a r) : OkV r := by
  obtain ⟨⟨dx, f1, f2, f3, _, h1, h2, h3⟩, w, l⟩ := h
  exact ⟨w, h1.ok, h2.ok, h3.ok, l⟩
theorem vrows_fit {rs : List VRow} (h : ∀ r ∈ rs, OkV r) (l : rs.length ≤ 1000) : fits (.list (vrows rs)) 3 = true := by
  refine fits_list (by unfold vrows; rw [List.length_map]; omega) fun d hd => ?_
  obtain ⟨r, hr, rfl⟩ := List.mem_map.mp hd
  exact vrow_fits (h r hr)
theorem vrows_fits {K : PySem.W.Frag} {H : Hp} {xs : List Addr} {rs : List VRow} (h : VarsAt K H xs rs) (l : rs.length ≤ 3) : fits (.list (vrows rs)) 3 = true := by
  refine vrows_fit (fun r hr => ?_) (by omega)
  obtain ⟨i, hi, e⟩ := List.getElem_of_mem hr
  have h1 := List.getElem?_eq_getElem hi
  rw [e] at h1
  exact (h.2 i _ r (List.getElem?_eq_getElem (by rw [h.1]; exact hi)) h1).okV
/-! ### promises -/
def spIsFS (K : PySem.W.Frag) : Sp := fun vs H Q _ => ∃ v us, vs = [v] ∧ FsA K H v us ∧ ∀ H', Same H H' → Q (.bl true) H'
def spFault (K : PySem.W.Frag) : Sp := fun vs H Q _ => ∃ (i : Nat) (v : V) (r : VRow), vs = [.int i, v] ∧ i < 3 ∧ VaA K H v r ∧ ∀ H', Same H H' → Q .non H'
def spChkV (K : PySem.W.Frag) : Sp := fun vs H Q _ => ∃ v rs, vs = [v] ∧ VsA K H v rs ∧ ∀ H', Same H H' → Q .non H'
def spVInit (K : PySem.W.Frag) : Sp := fun vs H Q _ => ∃ x dx kd f1 f2 f3, vs = [.ref x, .str kd, .ref f1, .ref f2, .ref f3] ∧ H x = some (.ins (VC K) dx []) ∧
  Q .non (upd H x (.ins (VC K) dx [("kind", .str kd), ("read_set", .ref f1), ("cover_set", .ref f2), ("write_set", .ref f3)]))
def spTInit (K : PySem.W.Frag) : Sp := fun vs H Q _ => ∃ x dx v nm rs, vs = [.ref x, .str nm, v] ∧ H x = some (.ins (TC K) dx []) ∧ wordB nm = true ∧ VsA K H v rs ∧
  ∀ H', (∀ b o, b ≠ x → H b = some o → H' b = some o) → TmO K H' x nm rs → Q .non H'
def spTVars (K : PySem.W.Frag) : Sp := fun vs H Q _ => ∃ a nm rs, vs = [.ref a] ∧ TmO K H a nm rs ∧ ∀ L H', H L = none → Same H H' → Dat (New H) H' (.ref L) (.list (vrows rs)) → Q (.ref L) H'
def spTEq (K : PySem.W.Frag) : Sp := fun vs H Q _ => ∃ a nm rs v, vs = [.ref a, v] ∧ TmO K H a nm rs ∧ ((∃ b nm' rs', v = .ref b ∧ TmO K H b nm' rs' ∧ ∀ H', Same H H' → Q (.bl (decide ((nm, rs) = (nm', rs')))) H') ∨ (Other K (TC K) H v ∧ Q (.bl false) H))
/-- Fl that is there keeps off what is new -/
theorem VarO.upd0 {K : PySem.W.Frag} {H : Hp} {a x C dx : Addr} {r : VRow} {o : HO} (h : VarO K H a r) (hx : H x = some (.ins C dx [])) : VarO K (upd H x o) a r := by
  obtain ⟨⟨dy, f1, f2, f3, h1, h2, h3, h4⟩, w, l⟩ := h
  exact ⟨⟨dy, f1, f2, f3, by rw [upd_ne (ne_of h1 hx (by intro z; cases z))]; exact h1, h2.upd0 hx, h3.upd0 hx, h4.upd0 hx⟩, w, l⟩
/-! ### Template(..) -/
structure MkTm (P : Program) (w : World) (K : PySem.W.Frag) (mg : Str → Option Value) (base : Heap) (k : Nat) : Prop where
  ex : ∃ (f : Addr) (fd : FuncData) (ps : List Str), Mk K (TC K) f ∧ FnOk P w K mg base CX0 k f fd ps (spTInit K) ∧ mg "Template" = some (.ref (TC K)) ∧ Binds K fd ps [] ∧
    KBn K fd ps 1 ["variables", "name"] (fun us ws => us ++ (ws.drop 1 ++ ws.take 1)) (fun vs zs => vs ++ (zs.drop 1 ++ zs.take 1))
/-- a template has been made -/
def kTm (K : PySem.W.Frag) (nm : Str) (v : V) (H1 : Hp) (Q : VK) : Prop := ∃ rs, wordB nm = true ∧ VsA K H1 v rs ∧ ∀ a H', H1 a = none → Same H1 H' → TmO K H' a nm rs → Q (.ref a) H'
theorem tm_ok {K : PySem.W.Frag} {H1 : Hp} {v : V} {nm : Str} {Q : VK} {x dx : Addr} (hx : H1 x = none) (hd : H1 dx = none) (q : kTm K nm v H1 Q) :
    spTInit K [.ref x, .str nm, v] (upd (upd H1 dx (.own x)) x (.ins (TC K) dx [])) (fun v H2 => v = .non ∧ Q (.ref x) H2) E0 := by
  obtain ⟨rs, wn, f, q⟩ := q
  have s1 := same_made (C := TC K) hx hd
  exact ⟨x, dx, v, nm, rs, rfl, upd_same, wn, f.on s1, fun H' o k => ⟨rfl, q x H' hx (fun b u e => o b u (ne_of_none e hx) (s1 b u e)) k⟩⟩
section
variable {X : Cx} {j k : Nat} {t tk : TA} {e : Expr} {es : List Expr} {kws : List Keyword} {p pos : Pos}
theorem pe_tmA (M : MkTm X.prog X.w X.K X.mg X.base k) (hr : Room j X.A) (hk : k + 1 ≤ j) (hg : Gl X "Template") (ha : PA X (e :: es) t)
    (he : starEach (e :: es) X.env = (false, eval e X.env) :: starEach es X.env := by rfl) (hpl : (backTo pos (starEach es X.env)).any (·.1) = false := by rfl) :
    PE X (.Call (.Name "Template" p) (e :: es) [] pos) (fun σ H Q => t σ H fun vs H1 => ∃ nm v, vs = [.str nm, v] ∧ kTm X.K nm v H1 Q) := by
  obtain ⟨f, fd, ps, mk, F, hm, hB, _⟩ := M.ex
  refine ⟨fun pins s σ H Q I h => ?_⟩
  refine wpAny_Call_Name_kw (ld_glob I hg hm ?_ (by decide))
  refine PySem.W.callWith_K (h₀ := X.base) I.ok.mod.kin mk.kp (thn (ha.run pos pins s σ H _ I h) fun us s1 ⟨vs, H1, I1, r, q⟩ => ⟨I1.kIn, ?_⟩) he hpl
  obtain ⟨nm, v, rfl, q⟩ := q
  exact run_make mk F (hr.mono hk) hB .nil pass0 I1 r fun x dx hx hd ne => tm_ok hx hd q
theorem pe_tmB (M : MkTm X.prog X.w X.K X.mg X.base k) (hr : Room j X.A) (hk : k + 1 ≤ j) (hg : Gl X "Template") (hkw : PK X kws tk)
    (hall : (backToKw pos (keywordEach kws X.env)).all (·.1.isSome) = true := by rfl) (hks : (backToKw pos (keywordEach kws X.env)).filterMap (·.1) = (["variables", "name"] : List Str) := by rfl)
    (hpl : ((backTo pos (starEach [] X.env)).any (·.1) || (backToKw pos (keywordEach kws X.env)).any (·.1.isNone)) = false := by rfl) :
    PE X (.Call (.Name "Template" p) [] kws pos) (fun σ H Q => tk σ H fun zs H1 => ∃ nm v, zs = [v, .str nm] ∧ kTm X.K nm v H1 Q) := by
  obtain ⟨f, fd, ps, mk, F, hm, _, hB⟩ := M.ex
  refine ⟨fun pins s σ H Q I h => ?_⟩
  refine wpAny_Call_Name_kw (ld_glob I hg hm ?_ (by decide))
  refine PySem.W.callWith_KW0 (h₀ := X.base) I.ok.mod.kin mk.kp hall ?_ hpl
  refine thn (hkw.run pos pins s σ H _ I h) fun ws s2 ⟨zs, H2, I2, rz, nm, v, e, q⟩ => ⟨I2.kIn, ?_⟩
  rw [hks]
  subst e
  exact run_makeK (us := []) (vs := []) mk F (hr.mono hk) hB pass0 I2 .nil rz rfl rfl fun x dx hx hd ne => tm_ok hx hd q
end
end Sm
/-! rows of variables as they are drawn -/
namespace Sm
open PySem PySem.Spec PyProof.Rows L2
structure GoodV (r : VRow) : Prop where
  nm : r.1 ∈ allWords
  a1 : AscS r.2.1
  a2 : AscS r.2.2.1
  a3 : AscS r.2.2.2
  m1 : ∀ w ∈ r.2.1, w ∈ allWords
  m2 : ∀ w ∈ r.2.2.1, w ∈ allWords
  m3 : ∀ w ∈ r.2.2.2, w ∈ allWords
  len : r.2.1.length ≤ 4 ∧ r.2.2.1.length ≤ 4 ∧ r.2.2.2.length ≤ 4
structure AscV (r : VRow) : Prop extends OkV r where
  a1 : AscS r.2.1
  a2 : AscS r.2.2.1
  a3 : AscS r.2.2.2
  l10 : r.2.1.length ≤ 10 ∧ r.2.2.1.length ≤ 10 ∧ r.2.2.2.length ≤ 10
theorem GoodV.asc {r : VRow} (g : GoodV r) : AscV r := ⟨⟨allWords_word _ g.nm, fun w h => allWords_word w (g.m1 w h), fun w h => allWords_word w (g.m2 w h), fun w h => allWords_word w (g.m3 w h), by have := g.len; omega⟩, g.a1, g.a2, g.a3, by have := g.len; omega⟩
/-- drawn of one of these kinds -/
def FitV (rs : List Row) (v : VRow) : Prop := ∃ k ∈ rs, v.1 = k.1 ∧ v.2.1.Sublist k.2.1 ∧ (v.2.2.1.Sublist v.2.1 ∨ v.2.2.1 = k.2.1) ∧ v.2.2.2.Sublist k.2.1
/-- none of a single kind beside another one of it -/
def OneV (rs : List Row) (vs : List VRow) : Prop := ∀ k ∈ rs, k.2.2 = true → ∀ i j : Nat, i < j → ∀ a b, vs[i]? = some a → vs[j]? = some b → a.1 = k.1 → b.1 ≠ k.1
theorem FitV.good {rs : List Row} {v : VRow} (h : FitV rs v) (g : ∀ r ∈ rs, GoodRow r) : GoodV v := by
  obtain ⟨k, hk, e, s1, s2, s3⟩ := h
  have gk := g k hk
  have l1 := s1.length_le
  have l3 := s3.length_le
  have l4 := gk.l4
  have s2' : v.2.2.1.Sublist k.2.1 := s2.elim (fun s => s.trans s1) fun e => by rw [e]; exact List.Sublist.refl _
  have l2 := s2'.length_le
  exact ⟨by rw [e]; exact gk.nm, gk.asc.sublist s1, gk.asc.sublist s2', gk.asc.sublist s3, fun w h => gk.sub w (s1.subset h), fun w h => gk.sub w (s2'.subset h), fun w h => gk.sub w (s3.subset h), by omega⟩
def spCover (K : PySem.W.Frag) : Sp := fun vs H Q _ => ∃ (p c a b : Addr) (xs us : List Str), vs = [.ref p, .ref a, .ref b] ∧ Dr H p c ∧ H a = some (.lst (xs.map V.str)) ∧ H b = some (.lst (us.map V.str)) ∧ xs.length ≤ 1000 ∧ us.length ≤ 1000 ∧
  ∀ L (ys : List Str) H', H L = none → Off p H H' → Dr H' p c → H' L = some (.lst (ys.map V.str)) → (ys.Sublist us ∨ ys = xs) → Q (.ref L) H'
def spVariables : Sp := fun vs H Q _ => ∃ (p c LK : Addr) (m : Nat) (rs : List Row), vs = [.ref p, .ref LK, .int (m : Int)] ∧ Dr H p c ∧ RowsAt H LK rs ∧ 1 ≤ rs.length ∧ rs.length ≤ 4 ∧ (rs.map (·.1)).Nodup ∧ (∀ r ∈ rs, GoodRow r) ∧ 1 ≤ m ∧ m ≤ 3 ∧
  ∀ L (us : List VRow) H', H L = none → Off p H H' → Dr H' p c → Dat (New H) H' (.ref L) (.list (vrows us)) → 1 ≤ us.length → us.length ≤ 3 → (∀ r ∈ us, FitV rs r) → OneV rs us → Q (.ref L) H'
def spPassed (K : PySem.W.Frag) : Sp := fun vs H Q _ => ∃ (p c a : Addr) (xs : List Str), vs = [.ref p, .ref a] ∧ Dr H p c ∧ H a = some (.lst (xs.map V.str)) ∧ AscS xs ∧ (∀ x ∈ xs, wordB x = true) ∧ xs.length ≤ 10 ∧
  ∀ v H', Off p H H' → Dr H' p c → FsA K H' v xs → (∀ b, v = .ref b → H b = none) → Q v H'
/-- a template just made, and what it was made of -/
structure MadeT (K : PySem.W.Frag) (H H' : Hp) (T : Addr) (nm : Str) (rs : List VRow) : Prop where
  at_ : ∃ (a h : Addr) (t : Bool) (ys : List V), H' T = some (.tup [.ref a, .ref h]) ∧ TmO K H' a nm rs ∧ H h = none ∧ H' h = some (oB t ys) ∧ ys.length = rs.length ∧ ∀ (i : Nat) y, ys[i]? = some y → ∃ (e : Addr) (t' : Bool) (zs : List V), y = .ref e ∧ H e = none ∧ e ≠ h ∧ H' e = some (oB t' zs) ∧ zs.length = 4
def spMadeT (K : PySem.W.Frag) : Sp := fun vs H Q _ => ∃ (p c L : Addr) (nm : Str) (rs : List VRow) (X : List Addr), vs = [.ref p, .str nm, .ref L] ∧ Dr H p c ∧ wordB nm = true ∧ p ∈ X ∧ Dat (Nx X) H (.ref L) (.list (vrows rs)) ∧ 1 ≤ rs.length ∧ rs.length ≤ 3 ∧ (∀ r ∈ rs, AscV r) ∧
  ∀ T H', H T = none → Off p H H' → Dr H' p c → MadeT K H H' T nm rs → Q (.ref T) H'
/-- the other templates -/
def otherV (rs : List VRow) (n : Nat) (r : VRow) : List (List VRow) :=
  [rs.take n ++ [(("other" : Str), r.2.1, r.2.2.1, r.2.2.2)] ++ rs.drop (n + 1), rs.take n ++ [(r.1, r.2.1, r.2.2.1, r.2.1)] ++ rs.drop (n + 1), rs.take n ++ [(r.1, r.2.1 ++ [("zzz" : Str)], r.2.2.1, r.2.2.2)] ++ rs.drop (n + 1),
    rs.take n ++ [(r.1, r.2.1, r.2.2.1 ++ [("zzz" : Str)], r.2.2.2)] ++ rs.drop (n + 1), rs.take n ++ rs.drop (n + 1), rs.reverse]
def spUnlikeV : Sp := fun vs H Q _ => ∃ (L : Addr) (rs : List VRow) (n : Nat) (X : List Addr), vs = [.ref L, .int (n : Int)] ∧ n < rs.length ∧ rs.length ≤ 3 ∧ (∀ r ∈ rs, GoodV r) ∧ Dat (Nx X) H (.ref L) (.list (vrows rs)) ∧ (∀ q ∈ X, H q ≠ none) ∧
  ∀ F ys (os : List (List VRow)) H', H F = none → Same H H' → H' F = some (.lst ys) → Dats (Nx X) H' ys (os.map fun o => .list (vrows o)) → (∀ o ∈ os, o ≠ rs ∧ 1 ≤ o.length ∧ o.length ≤ 3 ∧ ∀ r ∈ o, AscV r) → os.length ≤ 6 → Q (.ref F) H'
theorem zzz_last : ∀ w ∈ allWords, ltS w "zzz" = true := by decide +kernel
theorem zzz_word : wordB "zzz" = true := by decide +kernel
theorem asc_zzz {ws : List Str} (h : AscS ws) (m : ∀ w ∈ ws, w ∈ allWords) : AscS (ws ++ [("zzz" : Str)]) := List.pairwise_append.mpr ⟨h, List.pairwise_singleton .., fun a ha b hb => by rw [List.mem_singleton.mp hb]; exact zzz_last a (m a ha)⟩
theorem words_zzz {ws : List Str} (m : ∀ w ∈ ws, w ∈ allWords) : ∀ w ∈ ws ++ [("zzz" : Str)], wordB w = true := fun w h => by
  rcases List.mem_append.mp h with h | h
  · exact allWords_word w (m w h)
  · rw [List.mem_singleton.mp h]
    exact zzz_word
theorem otherV_asc {rs : List VRow} {n : Nat} {r : VRow} (g : ∀ r ∈ rs, GoodV r) (hn : rs[n]? = some r) (hl : rs.length ≤ 3) : ∀ o ∈ otherV rs n r, o.length ≤ 3 ∧ ∀ v ∈ o, AscV v := by
  have gr := g r (List.mem_of_getElem? hn)
  have ga := gr.asc
  obtain ⟨l1, l2, l3⟩ := gr.len
  have h1 := (List.getElem?_eq_some_iff.mp hn).1
  have gt : ∀ v ∈ rs.take n, AscV v := fun v h => (g v (List.mem_of_mem_take h)).asc
  have gd : ∀ v ∈ rs.drop (n + 1), AscV v := fun v h => (g v (List.mem_of_mem_drop h)).asc
  have put : ∀ x, AscV x → (rs.take n ++ [x] ++ rs.drop (n + 1)).length ≤ 3 ∧ ∀ v ∈ rs.take n ++ [x] ++ rs.drop (n + 1), AscV v := fun x hx => by
    refine ⟨by rw [List.length_append, List.length_append, List.length_take, List.length_drop, List.length_singleton]; omega, fun v hv => ?_⟩
    rcases List.mem_append.mp hv with hv | hv
    · rcases List.mem_append.mp hv with hv | hv
      · exact gt v hv
      · rw [List.mem_singleton.mp hv]
        exact hx
    · exact gd v hv
  intro o ho
  rcases List.mem_cons.mp ho with rfl | ho
  · exact put _ ⟨⟨other_word, ga.w1, ga.w2, ga.w3, ga.len⟩, ga.a1, ga.a2, ga.a3, ga.l10⟩
  rcases List.mem_cons.mp ho with rfl | ho
  · exact put _ ⟨⟨ga.wk, ga.w1, ga.w2, ga.w1, ⟨ga.len.1, ga.len.2.1, ga.len.1⟩⟩, ga.a1, ga.a2, ga.a1, ⟨ga.l10.1, ga.l10.2.1, ga.l10.1⟩⟩
  rcases List.mem_cons.mp ho with rfl | ho
  · refine put _ ⟨⟨ga.wk, words_zzz gr.m1, ga.w2, ga.w3, ?_⟩, asc_zzz gr.a1 gr.m1, ga.a2, ga.a3, ?_⟩
    · dsimp only
      rw [List.length_append, List.length_singleton]
      omega
    · dsimp only
      rw [List.length_append, List.length_singleton]
      omega
  rcases List.mem_cons.mp ho with rfl | ho
  · refine put _ ⟨⟨ga.wk, ga.w1, words_zzz gr.m2, ga.w3, ?_⟩, ga.a1, asc_zzz gr.a2 gr.m2, ga.a3, ?_⟩
    · dsimp only
      rw [List.length_append, List.length_singleton]
      omega
    · dsimp only
      rw [List.length_append, List.length_singleton]
      omega
  rcases List.mem_cons.mp ho with rfl | ho
  · refine ⟨by rw [List.length_append, List.length_take, List.length_drop]; omega, fun v hv => ?_⟩
    rcases List.mem_append.mp hv with hv | hv
    · exact gt v hv
    · exact gd v hv
  · rw [List.mem_singleton.mp ho]
    exact ⟨by rw [List.length_reverse]; exact hl, fun v hv => (g v (List.mem_reverse.mp hv)).asc⟩
theorem at_nat {α : Type} {l : List α} {n : Nat} {x : α} (h : l[n]? = some x) : atI l (n : Int) = some x := by
  unfold atI ixN
  have hn := (List.getElem?_eq_some_iff.mp h).1
  rw [if_pos (by omega), if_pos (by omega)]
  exact h
/-! ### the draws -/
theorem FsA.off {K : PySem.W.Frag} {H H' : Hp} {v : V} {us : List Str} {p c : Addr} (h : FsA K H v us) (D : Dr H p c) (e : Off p H H') : FsA K H' v us := by
  obtain ⟨b, cc, l0, h⟩ := h
  refine ⟨b, cc, l0, ?_⟩
  rcases h with ⟨a, rfl, f⟩ | ⟨a, xs, rfl, h, l, m⟩
  · exact .inl ⟨a, rfl, f.off D e⟩
  · refine .inr ⟨a, xs, rfl, ?_, l, m⟩
    rcases h with h | h
    · exact .inl (e _ _ (D.neStrs h) h)
    · obtain ⟨_, _, _, _, DD⟩ := D
      exact .inr (e _ _ (ne_of h DD.st (by intro z; cases z)) h)
/-- xs != [], of data -/
theorem ne_nilD {K : PySem.W.Frag} {Z : Addr → Prop} {H : Hp} {x : V} {b : Addr} {ds : List PyData} {n : Nat} {Q : Bool → Hp → Prop} (h : Dat Z H x (.list ds)) (f : fits (.list ds) n = true) (hn : n ≤ 64) (hb : H b = some (.lst [])) (q : Q (!ds.isEmpty) H) : rNeD K x (.ref b) H fun x H' => ∃ k, x = .bl k ∧ Q k H' := by
  refine ⟨_, _, Dat.dp _ _ h, .lst (xs := []) (ds := []) (SqL.of hb) .nil, shaped_fits f hn, rfl, _, rfl, ?_⟩
  cases ds with
  | nil => exact q
  | cons x r => exact q
def krow (r : Row) : PyData := .tuple [.str r.1, .list (sds r.2.1), .bool r.2.2]
theorem RowAt.dat {H : Hp} {t : Addr} {r : Row} (h : RowAt H t r) : Dat (fun _ => True) H (.ref t) (krow r) := by
  obtain ⟨c, h1, h2⟩ := h
  exact .tup h1 (.cons (.str _) (.cons (.sds trivial h2) (.cons (.bl _) .nil)))
theorem krow_fits {r : Row} (g : GoodRow r) : fits (krow r) 2 = true := by
  have := g.l4
  refine fits_tuple (by show 3 ≤ 10000; decide) fun d hd => ?_
  rcases List.mem_cons.mp hd with rfl | hd
  · unfold fits; exact word_okS (allWords_word _ g.nm)
  rcases List.mem_cons.mp hd with rfl | hd
  · exact fits_sds (by omega) fun w hw => word_okS (allWords_word w (g.sub w hw))
  · rw [List.mem_singleton.mp hd]; rfl
/-- the kinds that are left -/
def leftOf (used : List Str) (l : List (Addr × Row)) : List (Addr × Row) := l.filter fun q => !(q.2.2.2 && decide (q.2.1 ∈ used))
/-- what is passed, off X -/
def FsX (K : PySem.W.Frag) (X : List Addr) (H : Hp) (v : V) (us : List Str) : Prop := FsA K H v us ∧ ∀ b ∈ X, v ≠ .ref b
theorem FsX.fr {K : PySem.W.Frag} {X : List Addr} {H H' : Hp} {v : V} {us : List Str} (h : FsX K X H v us) (e : Fr X H H') : FsX K X H' v us := by
  obtain ⟨⟨b, c, l0, h⟩, n⟩ := h
  refine ⟨⟨b, c, l0, ?_⟩, n⟩
  rcases h with ⟨a, rfl, f⟩ | ⟨a, xs, rfl, h, l, m⟩
  · exact .inl ⟨a, rfl, f.fr e⟩
  · exact .inr ⟨a, xs, rfl, h.imp (e.lst fun q => n a q rfl) e.tup, l, m⟩
theorem FsX.less {K : PySem.W.Frag} {X Y : List Addr} {H : Hp} {v : V} {us : List Str} (h : FsX K Y H v us) (s : ∀ q ∈ X, q ∈ Y) : FsX K X H v us := ⟨h.1, fun b hb => h.2 b (s b hb)⟩
structure VaX (K : PySem.W.Frag) (X : List Addr) (H : Hp) (v : V) (r : VRow) : Prop where
  at_ : ∃ (t : Bool) (a : Addr) (f1 f2 f3 : V), v = .ref a ∧ a ∉ X ∧ H a = some (oB t [.str r.1, f1, f2, f3]) ∧ FsX K X H f1 r.2.1 ∧ FsX K X H f2 r.2.2.1 ∧ FsX K X H f3 r.2.2.2
  wk : wordB r.1 = true
theorem VaX.fr {K : PySem.W.Frag} {X : List Addr} {H H' : Hp} {v : V} {r : VRow} (h : VaX K X H v r) (e : Fr X H H') : VaX K X H' v r := by
  obtain ⟨⟨t, a, f1, f2, f3, h1, n, h2, h3, h4, h5⟩, w⟩ := h
  exact ⟨⟨t, a, f1, f2, f3, h1, n, e.oB n h2, h3.fr e, h4.fr e, h5.fr e⟩, w⟩
theorem VaX.va {K : PySem.W.Frag} {X : List Addr} {H : Hp} {v : V} {r : VRow} (h : VaX K X H v r) : VaA K H v r := by
  obtain ⟨⟨t, a, f1, f2, f3, h1, n, h2, h3, h4, h5⟩, w⟩ := h
  exact ⟨⟨t, a, f1, f2, f3, h1, h2, h3.1, h4.1, h5.1⟩, w⟩
def part3 (r : VRow) : List (List Str) := [r.2.1, r.2.2.1, r.2.2.2]
theorem vrow_inv {Z : Addr → Prop} {H : Hp} {v : V} {r : VRow} (h : Dat Z H v (vrow r)) : ∃ T l1 l2 l3, v = .ref T ∧ H T = some (.tup [.str r.1, .ref l1, .ref l2, .ref l3]) ∧ (Z l1 ∧ H l1 = some (.lst (r.2.1.map V.str))) ∧ (Z l2 ∧ H l2 = some (.lst (r.2.2.1.map V.str))) ∧ (Z l3 ∧ H l3 = some (.lst (r.2.2.2.map V.str))) := by
  obtain ⟨T, xs, rfl, e, q⟩ := h.tup_inv
  cases q with
  | cons q0 q => cases q with
    | cons q1 q => cases q with
      | cons q2 q => cases q with
        | cons q3 q =>
          cases q
          cases q0
          obtain ⟨l1, rfl, z1, e1⟩ := q1.sds_inv
          obtain ⟨l2, rfl, z2, e2⟩ := q2.sds_inv
          obtain ⟨l3, rfl, z3, e3⟩ := q3.sds_inv
          exact ⟨T, l1, l2, l3, rfl, e, ⟨z1, e1⟩, ⟨z2, e2⟩, ⟨z3, e3⟩⟩
theorem vrows_get {Z : Addr → Prop} {H : Hp} {ys : List V} {us : List VRow} (h : Dats Z H ys (vrows us)) {i : Nat} {y : V} (e : ys[i]? = some y) : ∃ r, us[i]? = some r ∧ Dat Z H y (vrow r) := by
  obtain ⟨d, hd, q⟩ := h.get e
  unfold vrows at hd
  rw [List.getElem?_map] at hd
  obtain ⟨r, hr, rfl⟩ := Option.map_eq_some_iff.mp hd
  exact ⟨r, hr, q⟩
theorem leftOf_step {used : List Str} {l : List (Addr × Row)} {q : Addr × Row} : leftOf used (l ++ [q]) = if (!(q.2.2.2 && decide (q.2.1 ∈ used))) = true then leftOf used l ++ [q] else leftOf used l := by
  unfold leftOf
  rw [List.filter_append, List.filter_cons]
  split
  · rfl
  · rw [List.filter_nil, List.append_nil]
theorem leftOf_nil (l : List (Addr × Row)) : leftOf [] l = l := by
  unfold leftOf
  refine List.filter_eq_self.mpr fun q _ => ?_
  rw [decide_eq_false List.not_mem_nil, Bool.and_false]
  rfl
theorem one_snoc {rs : List Row} {us : List VRow} {k : Row} {v : VRow} (h : OneV rs us) (hv : v.1 = k.1) (nd : (rs.map (·.1)).Nodup) (hk : k ∈ rs) (hq : (!(k.2.2 && decide (k.1 ∈ us.map (·.1)))) = true) : OneV rs (us ++ [v]) := by
  intro k' hk' s i j hij a b ha hb ea
  by_cases hj : j < us.length
  · rw [List.getElem?_append_left hj] at hb
    rw [List.getElem?_append_left (by omega)] at ha
    exact h k' hk' s i j hij a b ha hb ea
  · have hj2 : j = us.length := by
      have := (List.getElem?_eq_some_iff.mp hb).1
      rw [List.length_append, List.length_singleton] at this
      omega
    subst hj2
    rw [List.getElem?_append_right (Nat.le_refl _), Nat.sub_self] at hb
    cases hb
    rw [List.getElem?_append_left hij] at ha
    intro e
    have e2 : k' = k := by
      have q1 : k'.1 = k.1 := by rw [← e, hv]
      obtain ⟨i1, h1, g1⟩ := List.getElem_of_mem hk'
      obtain ⟨i2, h2, g2⟩ := List.getElem_of_mem hk
      have a1 : (rs.map (·.1))[i1]? = some k.1 := by rw [List.getElem?_map, List.getElem?_eq_getElem h1, g1, ← q1]; rfl
      have a2 : (rs.map (·.1))[i2]? = some k.1 := by rw [List.getElem?_map, List.getElem?_eq_getElem h2, g2]; rfl
      have := (List.getElem?_inj (by rw [List.length_map]; exact h1) nd).mp (a1.trans a2.symm)
      subst this
      rw [← g1, g2]
    subst e2
    have m : k'.1 ∈ us.map (·.1) := List.mem_map.mpr ⟨a, List.mem_of_getElem? ha, ea⟩
    rw [s, decide_eq_true m] at hq
    cases hq
end Sm
/-! len of a set of texts -/
namespace Sm
open PySem PySem.Spec PyProof.Rows L2
theorem setKR_count {P : Program} {w : World} {h : Heap} {a : Addr} {n : Nat} {xs : List Str} (R : SetKR (strKind P w) h a (fun k => decide (k ∈ xs)) n) (nd : xs.Nodup) : n = xs.length := by
  obtain ⟨o, es, ep, t, ho, hx, hd, el, hS, far, hsz, hf, hn, ris, led⟩ := R
  have hstr : ∀ e ∈ es.toList, ∃ x t, e.2 = Value.str x t := fun e he => by
    obtain ⟨k, hk⟩ := ElemsOf.keys el e he
    obtain ⟨t, e2⟩ := Value.isStrOf_shape (show Value.isStrOf k e.2 = true from hk)
    exact ⟨k, t, e2⟩
  have isk : ∀ e ∈ es.toList, (strKind P w).is (keyS e.2) e.2 = true := fun e he => by
    obtain ⟨x, t, e2⟩ := hstr e he
    rw [e2]
    exact beq_self_eq_true x
  have isk2 : ∀ e ∈ es.toList, ∀ x : Str, (strKind P w).is x e.2 = true → keyS e.2 = x := fun e he x hk => by
    obtain ⟨t', e2⟩ := Value.isStrOf_shape (show Value.isStrOf x e.2 = true from hk)
    rw [e2]
    rfl
  have ndk : (es.toList.map fun e => keyS e.2).Nodup := by
    refine List.pairwise_map.mpr (far.imp_of_mem fun {x y} hxm hym fr e => ?_)
    have h1 := fr (keyS x.2) (isk x hxm)
    have h2 := isk y hym
    rw [← e] at h2
    rw [h1] at h2
    cases h2
  have mem : ∀ k, k ∈ (es.toList.map fun e => keyS e.2) ↔ k ∈ xs := fun k => by
    rw [← decide_eq_true_eq (p := k ∈ xs), hS k, List.mem_map]
    constructor
    · rintro ⟨e, he, rfl⟩
      exact ⟨e, he, isk e he⟩
    · rintro ⟨e, he, hk⟩
      exact ⟨e, he, isk2 e he k hk⟩
  have l1 := nodup_le ndk fun k hk => (mem k).mp hk
  have l2 := nodup_le nd fun k hk => (mem k).mpr hk
  rw [List.length_map] at l1 l2
  have e : es.toList.length = n := by rw [← hn]; exact Array.length_toList
  rw [e] at l1 l2
  exact Nat.le_antisymm l1 l2
def rLenS (P : Program) (w : World) : List V → Hp → VK → Prop := fun vs H Q => ∃ (a : Addr) (n : Nat) (ys : List Str), vs = [.ref a] ∧ H a = some (SetS P w a (fun k => decide (k ∈ ys)) n) ∧ ys.Nodup ∧ Q (.int ys.length) H
theorem call_lenS {X : Cx} : CallR X (.builtin "len") (rLenS X.prog X.w) := by
  intro pins s σ H vs us Q I r h
  obtain ⟨a, n, ys, rfl, ha, nd, q⟩ := h
  obtain rfl := r.ref1
  have R : SetKR (strKind X.prog X.w) s.heap a (fun k => decide (k ∈ ys)) n := (I.hok a _ ha).1
  have e := setKR_count R nd
  obtain ⟨o, es, ep, t, ho, hx, hd, el, hS, far, hsz, hf, hn, ris, led⟩ := R
  refine call_len_set ho hx hd hf (by unfold scanBound at hsz; omega) ⟨.int ys.length, H, I.tok _, ⟨s.toks + 1, by rw [hn, e]⟩, q⟩
end Sm
/-! catalogs -/
namespace Sm
open PySem PySem.Spec PyProof.Rows L2
abbrev CC (K : PySem.W.Frag) : Addr := He.ga K "Catalog"
abbrev Sheet := Str × List VRow
instance decVRow : DecidableEq VRow := inferInstanceAs (DecidableEq (Str × List Str × List Str × List Str))
instance decVRows : DecidableEq (List VRow) := inferInstanceAs (DecidableEq (List VRow))
instance decSheet : DecidableEq Sheet := inferInstanceAs (DecidableEq (Str × List VRow))
instance decSheets : DecidableEq (List Sheet) := inferInstanceAs (DecidableEq (List Sheet))
/-- what a variable of a catalog must be -/
def FitC (ks : List Row) (v : VRow) : Prop := ∃ k ∈ ks, v.1 = k.1 ∧ (∀ w ∈ v.2.1, w ∈ k.2.1) ∧ (∀ w ∈ v.2.2.1, w ∈ k.2.1) ∧ (∀ w ∈ v.2.2.2, w ∈ k.2.1) ∧ ((∀ w ∈ v.2.2.1, w ∈ v.2.1) ∨ v.2.2.1 = k.2.1) ∧ k.2.1.length ≤ 10
structure GoodT (ks : List Row) (t : Sheet) : Prop where
  fit : ∀ r ∈ t.2, FitC ks r
  one : OneV ks t.2
  wn : wordB t.1 = true
  len : ∀ r ∈ t.2, r.2.1.length ≤ 10 ∧ r.2.2.1.length ≤ 10 ∧ r.2.2.2.length ≤ 10
theorem FitV.fitC {ks : List Row} {v : VRow} (h : FitV ks v) (g : ∀ r ∈ ks, GoodRow r) : FitC ks v := by
  obtain ⟨k, hk, e, s1, s2, s3⟩ := h
  have s2' : v.2.2.1.Sublist k.2.1 := s2.elim (fun s => s.trans s1) fun e => by rw [e]; exact List.Sublist.refl _
  exact ⟨k, hk, e, fun w h => s1.subset h, fun w h => s2'.subset h, fun w h => s3.subset h, s2.imp (fun s w h => s.subset h) id, by have := (g k hk).l4; omega⟩
def TmsAt (K : PySem.W.Frag) (H : Hp) (xs : List Addr) (ts : List Sheet) : Prop := xs.length = ts.length ∧ ∀ (i : Nat) x t, xs[i]? = some x → ts[i]? = some t → TmO K H x t.1 t.2
theorem TmsAt.fr {K : PySem.W.Frag} {X : List Addr} {H H' : Hp} {xs : List Addr} {ts : List Sheet} (h : TmsAt K H xs ts) (e : Fr X H H') : TmsAt K H' xs ts := ⟨h.1, fun i x r hx hr => (h.2 i x r hx hr).fr e⟩
theorem TmsAt.on {K : PySem.W.Frag} {H H' : Hp} {xs : List Addr} {ts : List Sheet} (h : TmsAt K H xs ts) (e : Same H H') : TmsAt K H' xs ts := h.fr (Same.fr (X := []) e)
theorem TmsAt.snoc {K : PySem.W.Frag} {H : Hp} {xs : List Addr} {ts : List Sheet} {x : Addr} {t : Sheet} (h : TmsAt K H xs ts) (k : TmO K H x t.1 t.2) : TmsAt K H (xs ++ [x]) (ts ++ [t]) := by
  refine ⟨by rw [List.length_append, List.length_append, h.1]; rfl, fun i y u hy hu => ?_⟩
  by_cases hi : i < xs.length
  · rw [List.getElem?_append_left hi] at hy
    rw [List.getElem?_append_left (by rw [← h.1]; exact hi)] at hu
    exact h.2 i y u hy hu
  · rw [List.getElem?_append_right (by omega)] at hy
    rw [List.getElem?_append_right (by rw [← h.1]; omega), ← h.1] at hu
    have hz : i - xs.length = 0 := by
      have := (List.getElem?_eq_some_iff.mp hy).1
      rw [List.length_singleton] at this
      omega
    rw [hz] at hy hu
    cases hy
    cases hu
    exact k
/-- what a catalog is made of -/
structure OkC (ks : List Row) (ts : List Sheet) : Prop where
  nd : (ts.map (·.1)).Nodup
  pos : 1 ≤ ts.length
  len : ts.length ≤ 6
  good : ∀ t ∈ ts, GoodT ks t
structure CatO (K : PySem.W.Frag) (H : Hp) (a : Addr) (ks : List Row) (ts : List Sheet) : Prop where
  at_ : ∃ dx s t xs, H a = some (.ins (CC K) dx [("schema", .ref s), ("templates", .ref t)]) ∧ SchO K H s ks ∧ H t = some (.tup (xs.map V.ref)) ∧ TmsAt K H xs ts
  ok : OkC ks ts
theorem CatO.fr {K : PySem.W.Frag} {X : List Addr} {H H' : Hp} {a : Addr} {ks : List Row} {ts : List Sheet} (h : CatO K H a ks ts) (e : Fr X H H') : CatO K H' a ks ts := by
  obtain ⟨⟨dx, s, t, xs, h1, h2, h3, h4⟩, o⟩ := h
  exact ⟨⟨dx, s, t, xs, e.ins h1, h2.fr e, e.tup h3, h4.fr e⟩, o⟩
theorem CatO.on {K : PySem.W.Frag} {H H' : Hp} {a : Addr} {ks : List Row} {ts : List Sheet} (h : CatO K H a ks ts) (e : Same H H') : CatO K H' a ks ts := h.fr (Same.fr (X := []) e)
/-- a list or a tuple of templates -/
structure TsA (K : PySem.W.Frag) (H : Hp) (v : V) (ts : List Sheet) : Prop where
  at_ : ∃ (t : Bool) (a : Addr) (xs : List Addr), v = .ref a ∧ H a = some (oB t (xs.map V.ref)) ∧ TmsAt K H xs ts
theorem TsA.on {K : PySem.W.Frag} {H H' : Hp} {v : V} {ts : List Sheet} (h : TsA K H v ts) (e : Same H H') : TsA K H' v ts := by
  obtain ⟨t, a, xs, h1, h2, h3⟩ := h
  exact ⟨t, a, xs, h1, e _ _ h2, h3.on e⟩
def FitK (k : Row) (v : VRow) : Prop := v.1 = k.1 ∧ (∀ w ∈ v.2.1, w ∈ k.2.1) ∧ (∀ w ∈ v.2.2.1, w ∈ k.2.1) ∧ (∀ w ∈ v.2.2.2, w ∈ k.2.1) ∧ ((∀ w ∈ v.2.2.1, w ∈ v.2.1) ∨ v.2.2.1 = k.2.1) ∧ k.2.1.length ≤ 10
theorem FitC.at_ {ks : List Row} {v : VRow} (h : FitC ks v) : ∃ (i : Nat) (k : Row), ks[i]? = some k ∧ FitK k v := by
  obtain ⟨k, hk, q⟩ := h
  obtain ⟨i, hi, e⟩ := List.getElem_of_mem hk
  exact ⟨i, k, by rw [List.getElem?_eq_getElem hi, e], q⟩
structure PairAt (K : PySem.W.Frag) (H : Hp) (T : Addr) (r : VRow) : Prop where
  at_ : ∃ kx px k, H T = some (.tup [.ref kx, .ref px]) ∧ KindO K H kx k ∧ VarO K H px r ∧ FitK k r
theorem PairAt.fr {K : PySem.W.Frag} {X : List Addr} {H H' : Hp} {T : Addr} {r : VRow} (h : PairAt K H T r) (e : Fr X H H') : PairAt K H' T r := by
  obtain ⟨kx, px, k, h1, h2, h3, h4⟩ := h
  exact ⟨kx, px, k, e.tup h1, h2.fr e, h3.fr e, h4⟩
def PairsAt (K : PySem.W.Frag) (H : Hp) (Ts : List Addr) (rs : List VRow) : Prop := Ts.length = rs.length ∧ ∀ (i : Nat) T r, Ts[i]? = some T → rs[i]? = some r → PairAt K H T r
theorem PairsAt.fr {K : PySem.W.Frag} {X : List Addr} {H H' : Hp} {Ts : List Addr} {rs : List VRow} (h : PairsAt K H Ts rs) (e : Fr X H H') : PairsAt K H' Ts rs := ⟨h.1, fun i x r hx hr => (h.2 i x r hx hr).fr e⟩
theorem PairsAt.snoc {K : PySem.W.Frag} {H : Hp} {xs : List Addr} {ts : List VRow} {x : Addr} {t : VRow} (h : PairsAt K H xs ts) (k : PairAt K H x t) : PairsAt K H (xs ++ [x]) (ts ++ [t]) := by
  refine ⟨by rw [List.length_append, List.length_append, h.1]; rfl, fun i y u hy hu => ?_⟩
  by_cases hi : i < xs.length
  · rw [List.getElem?_append_left hi] at hy
    rw [List.getElem?_append_left (by rw [← h.1]; exact hi)] at hu
    exact h.2 i y u hy hu
  · rw [List.getElem?_append_right (by omega)] at hy
    rw [List.getElem?_append_right (by rw [← h.1]; omega), ← h.1] at hu
    have hz : i - xs.length = 0 := by
      have := (List.getElem?_eq_some_iff.mp hy).1
      rw [List.length_singleton] at this
      omega
    rw [hz] at hy hu
    cases hy
    cases hu
    exact k
/-- whether the kind of this name is a single one -/
def singleOf (ks : List Row) (nm : Str) : Bool := ks.any fun k => decide (k.1 = nm) && k.2.2
theorem singleOf_eq {ks : List Row} (nd : (ks.map (·.1)).Nodup) {i : Nat} {k : Row} (h : ks[i]? = some k) : singleOf ks k.1 = k.2.2 := by
  unfold singleOf
  cases e : k.2.2 with
  | true => exact List.any_eq_true.mpr ⟨k, List.mem_of_getElem? h, by rw [decide_eq_true rfl, e]; rfl⟩
  | false =>
    refine List.any_eq_false.mpr fun q hq z => ?_
    obtain ⟨z1, z2⟩ := Bool.and_eq_true_iff.mp z
    have en := of_decide_eq_true z1
    obtain ⟨j, hj, ej⟩ := List.getElem_of_mem hq
    have a1 : (ks.map (·.1))[j]? = some k.1 := by rw [List.getElem?_map, List.getElem?_eq_getElem hj, ej, ← en]; rfl
    have a2 : (ks.map (·.1))[i]? = some k.1 := by rw [List.getElem?_map, h]; rfl
    have := (List.getElem?_inj (by rw [List.length_map]; exact hj) nd).mp (a1.trans a2.symm)
    subst this
    rw [List.getElem?_eq_getElem hj, ej] at h
    cases h
    rw [e] at z2
    cases z2
theorem one_nodup {ks : List Row} {us : List VRow} (nd : (ks.map (·.1)).Nodup) (one : OneV ks us) (fit : ∀ r ∈ us, FitC ks r) : ((us.filter fun v => singleOf ks v.1).map (·.1)).Nodup := by
  have key : ∀ (l : List VRow) (off : Nat), (∀ i v, l[i]? = some v → us[off + i]? = some v) → ((l.filter fun v => singleOf ks v.1).map (·.1)).Nodup := fun l => by
    induction l with
    | nil => exact fun _ _ => List.nodup_nil
    | cons v l ih =>
      intro off h
      have ih2 := ih (off + 1) fun i u hu => by
        have := h (i + 1) u hu
        rw [← this]
        congr 1
        omega
      rw [List.filter_cons]
      split
      · rename_i hs
        rw [List.map_cons]
        refine List.nodup_cons.mpr ⟨fun m => ?_, ih2⟩
        obtain ⟨u, hu, e⟩ := List.mem_map.mp m
        obtain ⟨hu1, hu2⟩ := List.mem_filter.mp hu
        obtain ⟨j, hj, ej⟩ := List.getElem_of_mem hu1
        have h0 := h 0 v rfl
        have h1 := h (j + 1) u (by rw [List.getElem?_cons_succ, List.getElem?_eq_getElem hj, ej])
        obtain ⟨i, k, hk, fk⟩ := (fit v (List.mem_of_getElem? h0)).at_
        have sk : k.2.2 = true := by rw [← singleOf_eq nd hk, ← fk.1]; exact hs
        exact one k (List.mem_of_getElem? hk) sk (off + 0) (off + (j + 1)) (by omega) v u h0 h1 fk.1 (by rw [e, fk.1])
      · exact ih2
  exact key us 0 fun i v h => by rw [Nat.zero_add]; exact h
theorem ifY {c : Bool} {P R : Prop} (e : c = true) (h : P) : if c = true then P else R := by rw [if_pos e]; exact h
theorem ifN {c : Bool} {P R : Prop} (e : ¬ c = true) (h : R) : if c = true then P else R := by rw [if_neg e]; exact h
/-! ### promises -/
def spMayCover (K : PySem.W.Frag) : Sp := fun vs H Q _ => ∃ (k f1 f2 : Addr) (r : Row) (us cs : List Str), vs = [.ref k, .ref f1, .ref f2] ∧ KindO K H k r ∧ Fl K H f1 us ∧ Fl K H f2 cs ∧ us.length ≤ 60 ∧ cs.length ≤ 60 ∧ ∀ H', Same H H' → Q (.bl (decide ((∀ w ∈ cs, w ∈ us) ∨ cs = r.2.1))) H'
def spTwoOf (K : PySem.W.Frag) : Sp := fun vs H Q _ => ∃ (s a : Addr) (ks : List Row) (t : Sheet), vs = [.ref s, .ref a] ∧ SchO K H s ks ∧ TmO K H a t.1 t.2 ∧ GoodT ks t ∧ ∀ H', Same H H' → Q (.bl false) H'
def spFaultT (K : PySem.W.Frag) : Sp := fun vs H Q _ => ∃ (s l a : Addr) (ks : List Row) (names : List Str) (t : Sheet), vs = [.ref s, .ref l, .ref a] ∧ SchO K H s ks ∧ H l = some (.lst (names.map V.str)) ∧ names.length < 6 ∧ t.1 ∉ names ∧ TmO K H a t.1 t.2 ∧ GoodT ks t ∧ ∀ H', Same H H' → Q .non H'
def spChkT (K : PySem.W.Frag) : Sp := fun vs H Q _ => ∃ (s : Addr) (v : V) (ks : List Row) (ts : List Sheet), vs = [.ref s, v] ∧ SchO K H s ks ∧ TsA K H v ts ∧ OkC ks ts ∧ ∀ H', Same H H' → Q .non H'
def spCInit (K : PySem.W.Frag) : Sp := fun vs H Q _ => ∃ (x dx s : Addr) (v : V) (ks : List Row) (ts : List Sheet), vs = [.ref x, .ref s, v] ∧ H x = some (.ins (CC K) dx []) ∧ SchO K H s ks ∧ TsA K H v ts ∧ OkC ks ts ∧
  ∀ H', (∀ b o, b ≠ x → H b = some o → H' b = some o) → CatO K H' x ks ts → Q .non H'
def spCNames (K : PySem.W.Frag) : Sp := fun vs H Q _ => ∃ a ks ts, vs = [.ref a] ∧ CatO K H a ks ts ∧ ∀ L H', H L = none → Same H H' → H' L = some (.lst ((ts.map (·.1)).map V.str)) → Q (.ref L) H'
def spCLen (K : PySem.W.Frag) : Sp := fun vs H Q _ => ∃ a ks ts, vs = [.ref a] ∧ CatO K H a ks ts ∧ Q (.int ts.length) H
def spCGet (K : PySem.W.Frag) : Sp := fun vs H Q _ => ∃ (a : Addr) (ks : List Row) (ts : List Sheet) (i : Nat) (t : Sheet), vs = [.ref a, .str t.1] ∧ CatO K H a ks ts ∧ ts[i]? = some t ∧ ∀ x, TmO K H x t.1 t.2 → Q (.ref x) H
def spCEq (K : PySem.W.Frag) : Sp := fun vs H Q _ => ∃ (a : Addr) (ks : List Row) (ts : List Sheet) (v : V), vs = [.ref a, v] ∧ CatO K H a ks ts ∧ ((∃ (b : Addr) (ks' : List Row) (ts' : List Sheet), v = .ref b ∧ CatO K H b ks' ts' ∧ ∀ H', Same H H' → Q (.bl (decide (ks = ks') && decide (ts = ts'))) H') ∨ (Other K (CC K) H v ∧ Q (.bl false) H))
theorem one_set {ks : List Row} {us : List VRow} {n : Nat} {r r' : VRow} (h : OneV ks us) (hn : us[n]? = some r) (e : r'.1 = r.1) : OneV ks (us.set n r') := by
  have key : ∀ (i : Nat) a, (us.set n r')[i]? = some a → ∃ b, us[i]? = some b ∧ b.1 = a.1 := fun i a ha => by
    rw [List.getElem?_set] at ha
    split at ha
    · rename_i q
      subst q
      split at ha
      · cases ha
        exact ⟨r, hn, e.symm⟩
      · cases ha
    · exact ⟨a, ha, rfl⟩
  intro k hk s i j hij a b ha hb ea eb
  obtain ⟨a', ha', e1⟩ := key i a ha
  obtain ⟨b', hb', e2⟩ := key j b hb
  exact h k hk s i j hij a' b' ha' hb' (by rw [e1, ea]) (by rw [e2, eb])
theorem set_names {ts : List Sheet} {i : Nat} {t : Sheet} {x : List VRow} (h : ts[i]? = some t) : (ts.set i (t.1, x)).map (·.1) = ts.map (·.1) := by
  refine List.ext_getElem? fun j => ?_
  rw [List.getElem?_map, List.getElem?_map, List.getElem?_set]
  split
  · rename_i q
    subst q
    split
    · rw [h]; rfl
    · rename_i q2
      exact absurd (List.getElem?_eq_some_iff.mp h).1 q2
  · rfl
/-! ### == of templates within built-ins -/
theorem VarO.func {K : PySem.W.Frag} {H : Hp} {a : Addr} {r t : VRow} (h : VarO K H a r) (h' : VarO K H a t) : r = t := by
  obtain ⟨⟨dx, f1, f2, f3, h1, h2, h3, h4⟩, _, _⟩ := h
  obtain ⟨⟨dx', g1, g2, g3, k1, k2, k3, k4⟩, _, _⟩ := h'
  rw [h1] at k1
  obtain ⟨a1, a2, a3, a4⟩ := r
  obtain ⟨b1, b2, b3, b4⟩ := t
  cases k1
  have e1 : a2 = b2 := h2.func k2
  have e2 : a3 = b3 := h3.func k3
  have e3 : a4 = b4 := h4.func k4
  rw [e1, e2, e3]
theorem refs_inj : ∀ {xs ys : List Addr}, xs.map V.ref = ys.map V.ref → xs = ys
  | [], [], _ => rfl
  | [], _ :: _, h => by cases h
  | _ :: _, [], h => by cases h
  | x :: xs, y :: ys, h => by
    injection h with h1 h2
    injection h1 with h1
    rw [h1, refs_inj h2]
theorem TmO.func {K : PySem.W.Frag} {H : Hp} {a : Addr} {nm nm' : Str} {rs rs' : List VRow} (h : TmO K H a nm rs) (h' : TmO K H a nm' rs') : nm = nm' ∧ rs = rs' := by
  obtain ⟨⟨dx, t, xs, h1, h2, h3⟩, _⟩ := h
  obtain ⟨⟨dx', t', xs', k1, k2, k3⟩, _⟩ := h'
  rw [h1] at k1
  cases k1
  rw [h2] at k2
  injection k2 with k2
  injection k2 with k2
  have ex := refs_inj k2
  subst ex
  refine ⟨rfl, List.ext_getElem? fun i => ?_⟩
  by_cases hi : i < rs.length
  · have e1 := List.getElem?_eq_getElem hi
    have hi2 : i < rs'.length := by rw [← k3.1, h3.1]; exact hi
    have e2 := List.getElem?_eq_getElem hi2
    have e3 := List.getElem?_eq_getElem (l := xs) (i := i) (by rw [h3.1]; exact hi)
    rw [e1, e2, (h3.2 i _ _ e3 e1).func (k3.2 i _ _ e3 e2)]
  · rw [List.getElem?_eq_none (by omega), List.getElem?_eq_none (by rw [← k3.1, h3.1]; omega)]
section
variable {X : Cx} {k : Nat}
def DTm (K : PySem.W.Frag) : Eq3 := fun x y c H => ∃ (a b : Addr) (t u : Sheet), x = .ref a ∧ y = .ref b ∧ TmO K H a t.1 t.2 ∧ TmO K H b u.1 u.2 ∧ c = decide (t = u)
theorem mon_DTm {K : PySem.W.Frag} : Mon3 (DTm K) := fun x y c H H' e d => by
  obtain ⟨a, b, t, u, h1, h2, h3, h4, h5⟩ := d
  exact ⟨a, b, t, u, h1, h2, h3.on e, h4.on e, h5⟩
theorem eqX_tm (TT : OwnK X.K (TC X.K)) (M : OwM X.prog X.w X.K X.mg X.base (TC X.K) k "__eq__" (spTEq X.K)) : EqX X k (DTm X.K) := by
  refine EqX.imp ((eqX_own M).or (eqX_self.mono (Nat.zero_le k))) fun x y c H d => ?_
  obtain ⟨a, b, t, u, rfl, rfl, h3, h4, h5⟩ := d
  by_cases e : a = b
  · subst e
    obtain ⟨e1, e2⟩ := h3.func h4
    have e3 : t = u := by rw [← Prod.eta t, ← Prod.eta u, e1, e2]
    exact .inr ⟨a, rfl, rfl, by rw [h5, e3, decide_eq_true rfl]⟩
  · obtain ⟨⟨dx, tp, xs, g1, g2, g3⟩, l3⟩ := id h3
    obtain ⟨⟨dy, tp', xs', g4, g5, g6⟩, l4⟩ := id h4
    exact .inl ⟨a, dx, _, _, rfl, (fun z => e (by injection z with z; exact z.symm)), g1, TT.tyx g4, notFirst_self, a, t.1, t.2, _, rfl, h3, .inl ⟨b, u.1, u.2, rfl, h4, fun H' s => ⟨by rw [h5], s⟩⟩⟩
/-- what may be asked for in a catalog -/
def AskedC (K : PySem.W.Frag) (H : Hp) (v : V) : Prop := Asked K H v ∨ ∃ a nm rs, v = .ref a ∧ TmO K H a nm rs
theorem AskedC.on {K : PySem.W.Frag} {H H' : Hp} {v : V} (h : AskedC K H v) (e : Same H H') : AskedC K H' v := h.imp (fun h => h.on e) fun ⟨a, nm, rs, h1, h2⟩ => ⟨a, nm, rs, h1, h2.on e⟩
def rowsOf (ts : List Sheet) : List Row := ts.map fun t => (t.1, ([] : List Str), false)
def spCIn (K : PySem.W.Frag) : Sp := fun vs H Q _ => ∃ (a : Addr) (ks : List Row) (ts : List Sheet) (v : V), vs = [.ref a, v] ∧ CatO K H a ks ts ∧ AskedC K H v ∧ ∀ H', Same H H' → Q (.bl (askB (rowsOf ts) v)) H'
def DAskC (K : PySem.W.Frag) : Eq3 := fun x y c H => ∃ z, x = .str z ∧ AskedC K H y ∧ c = askB [(z, [], false)] y
theorem mon_DAskC {K : PySem.W.Frag} : Mon3 (DAskC K) := fun x y c H H' e d => by
  obtain ⟨z, h1, h2, h3⟩ := d
  exact ⟨z, h1, h2.on e, h3⟩
theorem eqX_askC {j : Nat} (KK : OwnK X.K (KC X.K)) (TT : OwnK X.K (TC X.K)) (MK : OwM X.prog X.w X.K X.mg X.base (KC X.K) k "__eq__" (spKEq X.K)) (M : OwM X.prog X.w X.K X.mg X.base (TC X.K) j "__eq__" (spTEq X.K)) (hk : k ≤ j) : EqX X j (DAskC X.K) := by
  refine EqX.imp (((eqX_ask KK MK).mono hk).or (eqX_strOwn M TT.nk)) fun x y c H d => ?_
  obtain ⟨z, rfl, h2, rfl⟩ := d
  rcases h2 with h | ⟨a, nm, rs, rfl, h⟩
  · exact .inl ⟨z, rfl, h, rfl⟩
  · obtain ⟨⟨dx, tp, xs, g1, g2, g3⟩, l3⟩ := id h
    exact .inr ⟨a, dx, _, z, rfl, rfl, g1, a, nm, rs, _, rfl, h, .inr ⟨(KindOf.str z).other TT, rfl, fun _ _ h => h⟩⟩
end
end Sm
/-! sheets: the templates of a law, as data -/
namespace Sm
open PySem PySem.Spec PyProof.Rows L2
def sheetD (t : Sheet) : PyData := .tuple [.str t.1, .list (vrows t.2)]
def sheetsD (ts : List Sheet) : List PyData := ts.map sheetD
/-- a row of a kind that makes one -/
structure AscRow (r : Row) : Prop where
  nm : wordB r.1 = true
  asc : AscS r.2.1
  ok : ∀ x ∈ r.2.1, wordB x = true
  l1 : 1 ≤ r.2.1.length
  l4 : r.2.1.length ≤ 4
theorem GoodRow.ascRow {r : Row} (g : GoodRow r) : AscRow r := ⟨allWords_word _ g.nm, g.asc, fun x hx => allWords_word x (g.sub x hx), g.l1, g.l4⟩
/-- the rows of kinds, as a law has them -/
structure OkK (ks : List Row) : Prop where
  nd : (ks.map (·.1)).Nodup
  pos : 1 ≤ ks.length
  len : ks.length ≤ 4
  row : ∀ r ∈ ks, AscRow r
/-- the sheets, as a law has them -/
structure OkS (ks : List Row) (ts : List Sheet) : Prop extends OkC ks ts where
  row : ∀ t ∈ ts, 1 ≤ t.2.length ∧ t.2.length ≤ 3 ∧ ∀ r ∈ t.2, AscV r
theorem sheet_inv {Z : Addr → Prop} {H : Hp} {v : V} {t : Sheet} (h : Dat Z H v (sheetD t)) : ∃ T l ls, v = .ref T ∧ H T = some (.tup [.str t.1, .ref l]) ∧ Z l ∧ H l = some (.lst ls) ∧ Dats Z H ls (vrows t.2) := by
  obtain ⟨T, xs, rfl, e, q⟩ := h.tup_inv
  cases q with
  | cons q0 q => cases q with
    | cons q1 q =>
      cases q
      cases q0
      obtain ⟨l, ls, rfl, z, e1, d1⟩ := q1.lst_inv
      exact ⟨T, l, ls, rfl, e, z, e1, d1⟩
theorem sheets_get {Z : Addr → Prop} {H : Hp} {ys : List V} {ts : List Sheet} (h : Dats Z H ys (sheetsD ts)) {i : Nat} {y : V} (e : ys[i]? = some y) : ∃ t, ts[i]? = some t ∧ Dat Z H y (sheetD t) := by
  obtain ⟨d, hd, q⟩ := h.get e
  unfold sheetsD at hd
  rw [List.getElem?_map] at hd
  obtain ⟨r, hr, rfl⟩ := Option.map_eq_some_iff.mp hd
  exact ⟨r, hr, q⟩
theorem sheets_len {Z : Addr → Prop} {H : Hp} {ys : List V} {ts : List Sheet} (h : Dats Z H ys (sheetsD ts)) : ys.length = ts.length := by
  rw [h.len]
  unfold sheetsD
  rw [List.length_map]
/-- rows as data make a template -/
theorem vsa_dat {K : PySem.W.Frag} {Z : Addr → Prop} {H : Hp} {v : V} {rs : List VRow} (h : Dat Z H v (.list (vrows rs))) (l1 : 1 ≤ rs.length) (l3 : rs.length ≤ 3) (asc : ∀ r ∈ rs, AscV r) : VsA K H v rs := by
  obtain ⟨a, xs, rfl, z, e, d⟩ := h.lst_inv
  refine ⟨⟨false, a, xs, rfl, e, by rw [d.len]; unfold vrows; rw [List.length_map], fun i x r hx hr => ?_⟩, l1, l3⟩
  obtain ⟨r', hr', dr⟩ := vrows_get d hx
  rw [hr] at hr'
  cases hr'
  obtain ⟨T, c1, c2, c3, rfl, hT, ⟨_, d1⟩, ⟨_, d2⟩, ⟨_, d3⟩⟩ := vrow_inv dr
  have g := asc r (List.mem_of_getElem? hr)
  have fsl : ∀ {b : Addr} {ws : List Str}, AscS ws → (∀ w ∈ ws, wordB w = true) → ws.length ≤ 60 → H b = some (.lst (ws.map V.str)) → FsA K H (.ref b) ws := fun {b ws} k1 k2 k3 h => ⟨k1, k2, k3, .inr ⟨b, ws, rfl, .inl h, k3, fun _ => Iff.rfl⟩⟩
  exact ⟨⟨true, T, .ref c1, .ref c2, .ref c3, rfl, hT, fsl g.a1 g.w1 g.len.1 d1, fsl g.a2 g.w2 g.len.2.1 d2, fsl g.a3 g.w3 g.len.2.2 d3⟩, g.wk⟩
theorem rowAt_kfa {K : PySem.W.Frag} {H : Hp} {c : Addr} {r : Row} (h : H c = some (.lst (r.2.1.map V.str))) (g : AscRow r) : KfA K H (.ref c) r.2.1 := ⟨g.asc, c, r.2.1, rfl, .inl h, g.asc.nodup, g.l1, g.l4, g.ok, fun _ => Iff.rfl⟩
theorem sheet_plain (t : Sheet) : plainD (sheetD t) = true := plain_tuple (plains_of fun d hd => by
  rcases List.mem_cons.mp hd with rfl | hd
  · rfl
  · rw [List.mem_singleton.mp hd]
    exact vrows_plain t.2)
theorem sheets_plain (ts : List Sheet) : plainD (.list (sheetsD ts)) = true := plain_list (plains_of fun d hd => by
  obtain ⟨t, _, rfl⟩ := List.mem_map.mp hd
  exact sheet_plain t)
theorem sheets_fit {ks : List Row} {ts : List Sheet} (o : OkS ks ts) : fits (.list (sheetsD ts)) 5 = true := by
  refine fits_list (by unfold sheetsD; rw [List.length_map]; have := o.len; omega) fun d hd => ?_
  obtain ⟨t, ht, rfl⟩ := List.mem_map.mp hd
  refine fits_tuple (by show 2 ≤ 10000; decide) fun d hd => ?_
  rcases List.mem_cons.mp hd with rfl | hd
  · unfold fits; exact word_okS (o.good t ht).wn
  · rw [List.mem_singleton.mp hd]
    obtain ⟨_, l3, a⟩ := o.row t ht
    exact vrows_fit (fun r hr => (a r hr).toOkV) (by omega)
/-! ### promises -/
def spKindAt : Sp := fun vs H Q _ => ∃ (LK : Addr) (ks : List Row) (i : Nat) (k : Row), vs = [.ref LK, .str k.1] ∧ RowsAt H LK ks ∧ (ks.map (·.1)).Nodup ∧ ks.length ≤ 4 ∧ ks[i]? = some k ∧ ∀ t H', Same H H' → RowAt H' t k → Q (.ref t) H'
def spSchemaOf (K : PySem.W.Frag) : Sp := fun vs H Q _ => ∃ (LK : Addr) (ks : List Row), vs = [.ref LK] ∧ RowsAt H LK ks ∧ OkK ks ∧ ∀ s H', H s = none → Same H H' → SchO K H' s ks → Q (.ref s) H'
def spCatalogOf (K : PySem.W.Frag) : Sp := fun vs H Q _ => ∃ (LK LS : Addr) (ks : List Row) (ts : List Sheet) (Z : Addr → Prop), vs = [.ref LK, .ref LS] ∧ RowsAt H LK ks ∧ OkK ks ∧ Dat Z H (.ref LS) (.list (sheetsD ts)) ∧ OkS ks ts ∧ ∀ a H', H a = none → Same H H' → CatO K H' a ks ts → Q (.ref a) H'
def spSheets : Sp := fun vs H Q _ => ∃ (p c LK : Addr) (n m : Nat) (ks : List Row), vs = [.ref p, .ref LK, .int (n : Int), .int (m : Int)] ∧ Dr H p c ∧ RowsAt H LK ks ∧ 1 ≤ ks.length ∧ ks.length ≤ 4 ∧ (ks.map (·.1)).Nodup ∧ (∀ r ∈ ks, GoodRow r) ∧ 1 ≤ n ∧ n ≤ 6 ∧ 1 ≤ m ∧ m ≤ 3 ∧
  ∀ L (ts : List Sheet) H', H L = none → Off p H H' → Dr H' p c → Dat (New H) H' (.ref L) (.list (sheetsD ts)) → ts.length = n → (∀ t ∈ ts, t.1 ∈ allWords ∧ ∀ r ∈ t.2, FitV ks r) → OkS ks ts → Q (.ref L) H'
theorem pe_kindAK {X : Cx} {K : PySem.W.Frag} {j : Nat} {t tk : TA} {e : Expr} {es : List Expr} {kws : List Keyword} {p pos : Pos} (M : MkKd X.prog X.w K X.mg X.base) (hr : Room j X.A) (hk : 6 ≤ j) (hg : Gl X "Kind") (ha : PA X (e :: es) t) (hkw : PK X kws tk) (hK : X.K = K := by rfl)
    (hall : (backToKw pos (keywordEach kws X.env)).all (·.1.isSome) = true := by rfl) (hks : (backToKw pos (keywordEach kws X.env)).filterMap (·.1) = (["single"] : List Str) := by rfl)
    (he : starEach (e :: es) X.env = (false, eval e X.env) :: starEach es X.env := by rfl) (hpl : ((backTo pos (starEach (e :: es) X.env)).any (·.1) || (backToKw pos (keywordEach kws X.env)).any (·.1.isNone)) = false := by rfl) :
    PE X (.Call (.Name "Kind" p) (e :: es) kws pos) (tKindA K t tk) := by
  subst hK
  exact pe_kindA M hr hk hg ha hkw hall hks he hpl
def tTm (K : PySem.W.Frag) (t : TA) : TE := fun σ H Q => t σ H fun vs H1 => ∃ nm v, vs = [.str nm, v] ∧ kTm K nm v H1 Q
theorem pe_tmAK {X : Cx} {K : PySem.W.Frag} {j k : Nat} {t : TA} {e : Expr} {es : List Expr} {p pos : Pos} (M : MkTm X.prog X.w K X.mg X.base k) (hr : Room j X.A) (hk : k + 1 ≤ j) (hg : Gl X "Template") (ha : PA X (e :: es) t) (hK : X.K = K := by rfl)
    (he : starEach (e :: es) X.env = (false, eval e X.env) :: starEach es X.env := by rfl) (hpl : (backTo pos (starEach es X.env)).any (·.1) = false := by rfl) :
    PE X (.Call (.Name "Template" p) (e :: es) [] pos) (tTm K t) := by
  subst hK
  exact pe_tmA M hr hk hg ha he hpl
end Sm
namespace Sm
open PySem PySem.Spec PyProof.Rows L2
abbrev s_law_kinds : Stmt := top 41
theorem sc_law_kinds : FnScope ["_law_state", "_law_most", "_law_found", "_law_called", "_law_cells"] ["_law_state", "_law_most"] (defScope s_law_kinds) := ⟨rfl, rfl, rfl, by decide +kernel, rfl, by decide +kernel, by decide +kernel⟩

structure TxtH (mg : Str → Option Value) : Prop where
  list : mg "list" = none
  tuple : mg "tuple" = none
  isinstance : mg "isinstance" = none
section
variable {P : Program} {w : World} {K : PySem.W.Frag} {mg : Str → Option Value} {base : Heap}
theorem ifT {c : Bool} {P R : Prop} (e : c = true) (h : P) : if c = true then P else R := by rw [if_pos e]; exact h
theorem ifF {c : Bool} {P R : Prop} (e : ¬ c = true) (h : R) : if c = true then P else R := by rw [if_neg e]; exact h
theorem word_okK {x : Str} (h : wordB x = true) : PyData.strOk x = true := by
  unfold wordB at h
  have h1 := (Bool.and_eq_true_iff.mp (Bool.and_eq_true_iff.mp h).2).1
  unfold Txt.isascii at h1
  unfold PyData.strOk
  rw [Array.all_eq_true] at h1 ⊢
  exact fun i hi => decide_eq_true (Nat.lt_trans (of_decide_eq_true (h1 i hi)) (by decide))
theorem ok_kinds {f : Addr} {fd : FuncData} (F : FnP K "_law_kinds" s_law_kinds f fd) (c_law_take : Cal P w K mg base CX0 2 "_law_take" spTake) (c_law_one : Cal P w K mg base CX0 3 "_law_one" (spOne K)) (c_law_some_words : Cal P w K mg base CX0 3 "_law_some_words" spSomeWords) (c_law_rising : Cal P w K mg base CX0 1 "_law_rising" (spRising K)) : FnOk P w K mg base CX0 4 f fd ["_law_state", "_law_most"] spKinds := by
  refine F.ok sc_law_kinds (fun vs H Q E h => ?_) (fun cdv A outer s H vs Q E hr h => ?_)
  · obtain ⟨p, c, m, rfl, _⟩ := h
    rfl
  · obtain ⟨p, c, m, rfl, D, m1, m4, kk⟩ := h
    refine ⟨_, PSs.nox (pss_cons (ps_set (i := 2) sc_law_kinds.nd rfl (Or.inl rfl) (pe_lst pa_nil))
  (pss_cons (ps_for PassesOwn.never rfl (pi_listK (K := K) (pe_c c_law_some_words hr (by first | decide | omega) (by rfl) (pa_cons (pv 0) (pa_cons (pe_op op_add pe_int (pe_c c_law_take hr (by first | decide | omega) (by rfl) (pa_cons (pv 0) (pa_cons (pv 1) pa_nil)))) pa_nil)))) (pg_name (i := 3) sc_law_kinds.nd rfl (Or.inl rfl)) (pss_cons (ps_set (i := 4) sc_law_kinds.nd rfl (Or.inl rfl) (pe_c c_law_rising hr (by first | decide | omega) (by rfl) (pa_cons (pe_c c_law_some_words hr (by first | decide | omega) (by rfl) (pa_cons (pv 0) (pa_cons (pe_c c_law_one hr (by first | decide | omega) (by rfl) (pa_cons (pv 0) (pa_cons (pe_lst (pa_cons pe_int (pa_cons pe_int (pa_cons pe_int (pa_cons pe_int (pa_cons pe_int pa_nil)))))) pa_nil))) pa_nil))) pa_nil)))
  (pss_one (ps_expr (pe_bmK (K := K) PySem.F.plainAttrs_list PySem.F.slot_list_append PySem.F.type_list_append mt_append (pv 2) (pa_cons (pe_tup (pa_cons (pv 3) (pa_cons (pv 4) (pa_cons (pe_cmpR op_eq (pe_c c_law_take hr (by first | decide | omega) (by rfl) (pa_cons (pv 0) (pa_cons pe_int pa_nil))) pe_int (nomark _)) pa_nil)))) pa_nil))))))
  (pss_one (ps_ret (pv 2))))), ?_⟩
    have mb : (m : Int).natAbs.log2 < 8000 := by
      rw [Int.natAbs_natCast]
      exact Nat.lt_of_le_of_lt (Nat.log2_le_self m) (by omega)
    refine st_seq2 (asg_lst (lst_ok (xs := []) (by decide) fun L H1 nL s1 hL => ?_))
    dsimp only
    have D1 := D.same s1
    have nLp : L ≠ p := D.ne nL
    have nLc : L ≠ c := D.nec nL
    refine st_seq2 ⟨_, rfl, _, rfl, _, rfl, p, c, _, rfl, D1, by omega, mb, fun d H2 d0 d1 o2 D2 => ?_⟩
    obtain ⟨n, rfl⟩ : ∃ n : Nat, d = (n : Int) := ⟨d.toNat, (Int.toNat_of_nonneg d0).symm⟩
    have en : (1 : Int) + (n : Int) = ((n + 1 : Nat) : Int) := by omega
    have hL2 : H2 L = some (.lst []) := o2 _ _ nLp hL
    refine ⟨_, _, rfl, rfl, ?_⟩
    refine ⟨p, c, n + 1, congrArg (fun z : Int => [V.ref p, V.int z]) en, D2, by omega, fun Lw ws H3 nw o3 D3 hw lw ndw mw => ⟨Lw, rfl, ⟨_, SqL.of hw⟩, ?_⟩⟩
    have nwp : Lw ≠ p := D2.ne nw
    have o03 : Off p H H3 := fun b o nb e => o3 b o nb (o2 b o nb (s1 _ _ e))
    have hL3 : H3 L = some (.lst []) := o3 _ _ nLp hL2
    refine for_it (walk_list (xs := ws.map V.str)) (fun i σ' H' => ∃ (rs : List Row) (v3 v4 : Option V), σ' = [some (.ref p), some (.int m), some (.ref L), v3, v4] ∧ Off p H H' ∧ H' Lw = some (.lst (ws.map V.str)) ∧ Dr H' p c ∧ RowsAt H' L rs ∧ rs.map (·.1) = ws.take i ∧ ∀ r ∈ rs, GoodRow r)
      ⟨[], none, none, rfl, o03, hw, D3, ⟨[], hL3, rfl, fun i t r h _ => (by cases h)⟩, rfl, fun r h => (by cases h)⟩ (fun i σ' H' _ q => by obtain ⟨_, _, _, _, _, hw', _⟩ := q; exact SqL.of hw') ?_ ?_
    · rintro i x σ' H0 H4 hi ⟨rs, v3, v4, rfl, o4, hw4, D4, ra4, f4, g4⟩ ⟨rfl, hx⟩
      obtain ⟨ts, hL4, e4, r4⟩ := id ra4
      rw [List.getElem?_map] at hx
      obtain ⟨z, hz, rfl⟩ := Option.map_eq_some_iff.mp hx
      have zm : z ∈ allWords := mw z (List.mem_of_getElem? hz)
      have hlen : rs.length ≤ 4 := by
        have := congrArg List.length f4
        rw [List.length_map] at this
        have h2 := List.length_take_le i ws
        have h3 : i < ws.length := (List.getElem?_eq_some_iff.mp hz).1
        omega
      refine st_seq2 (asg_any ⟨_, rfl, _, rfl, by decide, fun Lo no => ⟨p, c, Lo, _, rfl, D4.new no, SqL.of upd_same, (D4.ne no), by decide, by decide, fun x H5 hx o5 D5 => ?_⟩⟩)
      obtain ⟨k, rfl, k1, k4⟩ : ∃ k : Nat, x = .int (k : Int) ∧ 1 ≤ k ∧ k ≤ 4 := by
        rcases List.mem_cons.mp hx with rfl | hx
        · exact ⟨1, rfl, by decide, by decide⟩
        rcases List.mem_cons.mp hx with rfl | hx
        · exact ⟨2, rfl, by decide, by decide⟩
        rcases List.mem_cons.mp hx with rfl | hx
        · exact ⟨2, rfl, by decide, by decide⟩
        rcases List.mem_cons.mp hx with rfl | hx
        · exact ⟨3, rfl, by decide, by decide⟩
        rw [List.mem_singleton.mp hx]
        exact ⟨4, rfl, by decide, by decide⟩
      refine ⟨p, c, k, rfl, D5, by omega, fun Lc cs H6 nc o6 D6 hc lc ndc mc => ⟨Lc, cs, rfl, SqL.of hc, by omega, fun Lr H7 nr s7 hr => ?_⟩⟩
      dsimp only
      have o47 : Off p H4 H7 := fun b o nb e => s7 b o (o6 b o nb (o5 b o nb (Same.new no _ _ e)))
      have D7 : Dr H7 p c := D6.same s7
      have hL7 : H7 L = some (.lst (ts.map V.ref)) := o47 _ _ nLp hL4
      refine ⟨_, rfl, .inl ⟨rfl, _, SqL.of hL7⟩, ⟨_, rfl, _, rfl, ⟨_, rfl, p, c, _, rfl, D7, by decide, by decide, fun d H8 d0 d1 o8 D8 => ⟨rfl, (by show (3 : Nat) ≤ sizeLine; decide), fun T nT => ⟨L, ts.map V.ref, _, rfl, rfl, ?_, ?_, ?_⟩⟩⟩⟩⟩
      · rw [upd_ne (ne_of_none (o8 _ _ nLp hL7) nT)]
        exact o8 _ _ nLp hL7
      · rw [List.length_map]
        exact lenK (by omega)
      · have s9 : Same H8 (upd H8 T (.tup [.str z, .ref Lr, .bl (decide (V.int d = V.int 0))])) := Same.new nT
        have o49 : Off p H4 (upd H8 T (.tup [.str z, .ref Lr, .bl (decide (V.int d = V.int 0))])) := fun b o nb e => s9 b o (o8 b o nb (o47 b o nb e))
        have hr8 : H8 Lr = some (.lst ((rising cs).map V.str)) := o8 _ _ (D7.neStrs hr) hr
        have h9 := o49 _ _ nLp hL4
        have nwL : Lw ≠ L := fun e => by
          rw [e, o2 _ _ nLp hL] at nw
          cases nw
        have gr : GoodRow (z, rising cs, decide (V.int d = V.int 0)) := ⟨zm, asc_rising ndc, fun x hx => mc x ((mem_rising ndc x).mp hx), by show 1 ≤ (rising cs).length; rw [rising_len, lc]; exact k1, by show (rising cs).length ≤ 4; rw [rising_len, lc]; exact k4⟩
        refine ⟨rs ++ [(z, rising cs, decide (V.int d = V.int 0))], _, _, rfl, fun b o nb e => ?_, ?_, (D8.same s9).upd nLp nLc, ?_, ?_, ?_⟩
        · rw [upd_ne (ne_of_none e nL)]
          exact o49 b o nb (o4 b o nb e)
        · rw [upd_ne nwL]
          exact o49 _ _ nwp hw4
        · exact RowsAt.snoc h9 e4 (fun i t r ht hr => (r4 i t r ht hr).off D4 o49) (fun r hr => (g4 r hr).l1) ⟨Lr, upd_same, s9 _ _ hr8⟩ gr.l1
        · rw [List.map_append, f4, take_step hz]
          rfl
        · intro r hr
          rcases List.mem_append.mp hr with q | q
          · exact g4 r q
          · rw [List.mem_singleton.mp q]
            exact gr
    · rintro σ' H4 ⟨rs, v3, v4, rfl, o4, hw4, D4, ra4, f4, g4⟩
      have et : ws.take (ws.map V.str).length = ws := by rw [List.length_map, List.take_length]
      rw [et] at f4
      have el : rs.length = n + 1 := by rw [← lw, ← f4, List.length_map]
      exact ⟨_, rfl, kk L rs H4 nL o4 D4 ra4 (by omega) (by omega) (f4 ▸ ndw) g4⟩
end
end Sm
namespace Sm
open PySem PySem.Spec PyProof.Rows L2
abbrev s_law_kind_at : Stmt := top 42
theorem sc_law_kind_at : FnScope ["_law_kind_rows", "_law_called", "_law_row"] ["_law_kind_rows", "_law_called"] (defScope s_law_kind_at) := ⟨rfl, rfl, rfl, by decide +kernel, rfl, by decide +kernel, by decide +kernel⟩

abbrev s_law_schema_of : Stmt := top 43
theorem sc_law_schema_of : FnScope ["_law_kind_rows", "_law_called", "_law_cells", "_law_alone"] ["_law_kind_rows"] (defScope s_law_schema_of) := ⟨rfl, rfl, rfl, by decide +kernel, rfl, by decide +kernel, by decide +kernel⟩

section
variable {P : Program} {w : World} {K : PySem.W.Frag} {mg : Str → Option Value} {base : Heap}
theorem ok_kind_at {f : Addr} {fd : FuncData} (F : FnP K "_law_kind_at" s_law_kind_at f fd) : FnOk P w K mg base CX0 1 f fd ["_law_kind_rows", "_law_called"] spKindAt := by
  refine F.ok sc_law_kind_at (fun vs H Q E h => ?_) (fun cdv A outer s H vs Q E hr h => ?_)
  · obtain ⟨LK, ks, i, k, rfl, _⟩ := h
    rfl
  · obtain ⟨LK, ks, i, k, rfl, ra, nd, l4, hi, kk⟩ := h
    obtain ⟨ts, hLK, tl, tr⟩ := id ra
    refine ⟨_, PSs.nox (pss_one (ps_ret (pe_ix (ix_listK (K := K)) (pe_lc (own := [("_law_row", 2)]) (g := (gName 2)) rfl sc_law_kind_at.nd (pi_listK (K := K) (pv 0)) (blkOk_by (own := [("_law_row", 2)]) (N := ["_law_kind_rows", "_law_called", "_law_row"]) (sc := defScope s_law_kind_at) (by decide +kernel)) (fun _ _ _ _ _ => (pg_name (i := 2) sc_law_kind_at.nd rfl (Or.inl rfl) (hf := Or.inr rfl))) (fun _ _ _ _ _ => (pts_one (pt_cmpR op_eq (pe_ix (ix_tupK (K := K)) (pv 2) pe_int (fun _ _ => rfl)) (pv 1) (nomark _)))) (fun _ _ _ _ _ => (pv 2))) pe_int (fun _ _ => rfl)))), ?_⟩
    obtain ⟨t, ht⟩ : ∃ t, ts[i]? = some t := ⟨ts[i]'(by rw [tl]; exact (List.getElem?_eq_some_iff.mp hi).1), List.getElem?_eq_getElem _⟩
    refine ret_any ⟨_, rfl, LK, rfl, ⟨_, SqL.of hLK⟩, fun L nL => lc_list (xs := ts.map V.ref) (fun j H2 => Same H H2 ∧ H2 L = some (.lst (if i < j then [V.ref t] else []))) ⟨Same.new nL, by rw [upd_same, if_neg (Nat.not_lt_zero i)]⟩ (fun j H2 _ q => SqL.of (q.1 _ _ hLK)) ?_ ?_⟩
    · rintro j z H2 hz ⟨s2, hL⟩
      rw [List.getElem?_map] at hz
      obtain ⟨u, hu, rfl⟩ := Option.map_eq_some_iff.mp hz
      have j1 : j < ks.length := by rw [← tl]; exact (List.getElem?_eq_some_iff.mp hu).1
      have hr1 := List.getElem?_eq_getElem j1
      obtain ⟨ci, g1, g2⟩ := (tr j u _ hu hr1).on s2
      refine ⟨rfl, ?_⟩
      refine ⟨_, rfl, u, _, 0, .str ks[j].1, rfl, rfl, SqT.of g1, at_nat (n := 0) rfl, _, rfl, rfl, _, rfl, ?_⟩
      by_cases e : j = i
      · subst e
        rw [ht] at hu
        rw [hi] at hr1
        cases hu
        injection hr1 with hr1
        refine ifY (by rw [← hr1]; exact decide_eq_true rfl) ⟨_, rfl, _, hL, ?_, fun b o e => ?_, ?_⟩
        · rw [if_neg (Nat.lt_irrefl j)]
          exact lenK (by decide)
        · rw [upd_ne (ne_of_none e nL)]
          exact s2 b o e
        · rw [upd_same, if_neg (Nat.lt_irrefl j), if_pos (Nat.lt_succ_self j)]
          rfl
      · refine ifN (fun z => e ?_) ⟨s2, ?_⟩
        · have z := of_decide_eq_true z
          injection z with z
          have a1 : (ks.map (·.1))[j]? = some k.1 := by rw [List.getElem?_map, hr1, ← z]; rfl
          have a2 : (ks.map (·.1))[i]? = some k.1 := by rw [List.getElem?_map, hi]; rfl
          exact (List.getElem?_inj (by rw [List.length_map]; exact j1) nd).mp (a1.trans a2.symm)
        · by_cases q : i < j
          · rw [if_pos q] at hL
            rw [if_pos (by omega)]
            exact hL
          · rw [if_neg q] at hL
            rw [if_neg (by omega)]
            exact hL
    · rintro H2 ⟨s2, hL⟩
      rw [List.length_map, if_pos (by rw [tl]; exact (List.getElem?_eq_some_iff.mp hi).1)] at hL
      exact ⟨L, _, 0, _, rfl, rfl, SqL.of hL, at_nat (n := 0) rfl, kk t H2 s2 ((tr i t k ht hi).on s2)⟩
theorem ok_schema_of (cK : MkKd P w K mg base) (cS : MkC P w K mg base 3 "Schema" (SC K) (spSInit K) ["kinds"]) {f : Addr} {fd : FuncData} (F : FnP K "_law_schema_of" s_law_schema_of f fd) : FnOk P w K mg base CX0 7 f fd ["_law_kind_rows"] (spSchemaOf K) := by
  refine F.ok sc_law_schema_of (fun vs H Q E h => ?_) (fun cdv A outer s H vs Q E hr h => ?_)
  · obtain ⟨LK, ks, rfl, _⟩ := h
    rfl
  · obtain ⟨LK, ks, rfl, ra, ok, kk⟩ := h
    obtain ⟨ts, hLK, tl, tr⟩ := id ra
    refine ⟨_, PSs.nox (pss_one (ps_ret (pe_schema cS hr (by decide) (by rfl) (pa_cons (pe_lc (own := [("_law_called", 1), ("_law_cells", 2), ("_law_alone", 3)]) (g := (gTup K 3 (gCons (gName 1) (gCons (gName 2) (gCons (gName 3) gNil))))) rfl sc_law_schema_of.nd (pi_listK (K := K) (pv 0)) (blkOk_by (own := [("_law_called", 1), ("_law_cells", 2), ("_law_alone", 3)]) (N := ["_law_kind_rows", "_law_called", "_law_cells", "_law_alone"]) (sc := defScope s_law_schema_of) (by decide +kernel)) (fun _ _ _ _ _ => (pg_tupK (K := K) rfl (pgs_cons (pg_name (i := 1) sc_law_schema_of.nd rfl (Or.inl rfl) (hf := Or.inr rfl)) (pgs_cons (pg_name (i := 2) sc_law_schema_of.nd rfl (Or.inl rfl) (hf := Or.inr rfl)) (pgs_cons (pg_name (i := 3) sc_law_schema_of.nd rfl (Or.inl rfl) (hf := Or.inr rfl)) pgs_nil))))) (fun _ _ _ _ _ => pts_nil) (fun _ _ _ _ _ => (pe_kindAK cK hr (by decide) (by rfl) (pa_cons (pv 1) (pa_cons (pv 2) pa_nil)) (pk_cons (pv 3) pk_nil)))) pa_nil)))), ?_⟩
    refine ret_any ⟨_, rfl, LK, rfl, ⟨_, SqL.of hLK⟩, fun L nL => lc_list (xs := ts.map V.ref) (fun j H2 => Same H H2 ∧ ∃ xs : List Addr, H2 L = some (.lst (xs.map V.ref)) ∧ KindsAt K H2 xs (ks.take j)) ⟨Same.new nL, [], upd_same, rfl, fun i x r hx _ => by cases hx⟩ (fun j H2 _ q => SqL.of (q.1 _ _ hLK)) ?_ ?_⟩
    · rintro j z H2 hz ⟨s2, xs, hL, ka⟩
      rw [List.getElem?_map] at hz
      obtain ⟨u, hu, rfl⟩ := Option.map_eq_some_iff.mp hz
      have j1 : j < ks.length := by rw [← tl]; exact (List.getElem?_eq_some_iff.mp hu).1
      have hr1 := List.getElem?_eq_getElem j1
      obtain ⟨ci, g1, g2⟩ := (tr j u _ hu hr1).on s2
      have ar := ok.row _ (List.mem_of_getElem? hr1)
      refine ⟨u, _, rfl, SqT.of g1, rfl, _, _, rfl, _, _, rfl, _, _, rfl, rfl, rfl, ?_⟩
      refine ⟨_, rfl, _, rfl, _, rfl, ks[j].1, _, ks[j].2.1, ks[j].2.2, rfl, rfl, ar.nm, rowAt_kfa g2 ar, fun a H3 na s3 ko => ?_⟩
      have s23 := s2.trans s3
      refine ⟨_, s3 _ _ hL, ?_, fun b o e => ?_, xs ++ [a], ?_, ?_⟩
      · rw [List.length_map, ka.1]
        exact lenK (by have := List.length_take_le' j ks; have := ok.len; omega)
      · rw [upd_ne (ne_of_none e nL)]
        exact s23 b o e
      · rw [upd_same, List.map_append]
        rfl
      · rw [take_step hr1]
        have k2 := (ka.on s3).snoc ko
        exact ⟨k2.1, fun i x r hx hr => (k2.2 i x r hx hr).fr (Fr.put (X := [L]) (s3 _ _ hL) (List.mem_singleton.mpr rfl))⟩
    · rintro H2 ⟨s2, xs, hL, ka⟩
      rw [List.length_map, tl, List.take_length] at ka
      exact ⟨_, _, rfl, ⟨⟨L, xs, rfl, .inl hL, ka.1, ka.2⟩, ok.nd, ok.pos, ok.len⟩, fun a H3 na s3 so => kk a H3 (s2.free na) (s2.trans s3) so⟩
end
end Sm
/-! several clauses `except X as n`, all of one name -/
namespace Sm
open PySem PySem.Spec PyProof.Rows L2
/-- the ends of a suite whose name goes behind it -/
def goneEnds (i : Nat) (D : Ends) : Ends := { nx := fun τ G => D.nx (τ.set i none) G, rt := D.rt, bk := fun τ G => D.bk (τ.set i none) G, ct := fun τ G => D.ct (τ.set i none) G }
/-- what the clauses wish of an exception, the first one that fits taking it -/
def wEach (K : PySem.W.Frag) (i : Nat) (W0 : WX) (D : Ends) : List (Value × (Addr → Value → Option Addr → TS)) → WX
  | [] => W0
  | (c, ts) :: r => fun k d τ G => ∃ fits : Bool, PySem.W.exmOne K k c = some fits ∧ (fits = true → ∀ x, G x = none → ts x k d (goneEnds i D) (τ.set i (some (.ref x))) G) ∧ (fits = false → wEach K i W0 D r k d τ G)
inductive EachOk (X : Cx) (n : Str) : List ExceptHandler → List (Value × (Addr → Value → Option Addr → TS)) → Prop
  | nil : EachOk X n [] []
  | cons {y : Str} {c : Value} {ts : Addr → Value → Option Addr → TS} {st : Stmt} {sts : List Stmt} {p1 p2 : Pos} {rest : List ExceptHandler} {l : List (Value × (Addr → Value → Option Addr → TS))} (named : Names X y c)
      (suite : ∀ (x : Addr) (o : Obj) (k : Value) (d : Option Addr) (pn : List (Addr × Obj)), Zc k d o → (∃ vs, o.data = .fields vs) → PSs (X.suite x ((x, o) :: pn)) (st :: sts) (ts x k d)) (tail : EachOk X n rest l) :
      EachOk X n (.ExceptHandler (some (.Name y p1)) (some n) (st :: sts) p2 :: rest) ((c, ts) :: l)
section
variable {X : Cx} {n : Str} {i : Nat} {body : List Stmt} {g : ExceptHandler} {gs : List ExceptHandler} {l : List (Value × (Addr → Value → Option Addr → TS))} {pos : Pos} {tb : WX → TS} {W0 : WX}
theorem ps_try_each (hst : X.stack = X.env :: X.outer) (hfr : X.env.frame = some X.env.locals) (hnd : X.N.Nodup) (hix : X.N[i]? = some n) (hkd : X.env.kindOf n = some .local) (out : Takes X W0)
    (run : ∀ (W : WX) (pn : List (Addr × Obj)) (xe : Value → Shared → Prop), Takes (X.tr pn xe) W → PassesOwn (model X.prog X.w) X.A X.env xe → PSs (X.tr pn xe) body (tb W)) (each : EachOk X n (g :: gs) l) :
    PS X (.Try body (g :: gs) [] [] pos) (fun D τ G => tb (wEach X.K i W0 D l) D τ G) := by
  refine ⟨fun pins t τ G D inv wish => ?_⟩
  have okX := inv.ok
  have frames : X.A.frames = some (X.env :: X.outer) := okX.frames.trans (by rw [hst])
  refine wpAny_Try_except ?_
  let late : Value → Shared → Prop := fun e t1 => wpAny (model X.prog X.w) X.A (noteFrame e X.env) (fun _ t2 => wpAny (model X.prog X.w) X.A (setFlight e none) (fun _ t3 => wpAny (model X.prog X.w) X.A (handleBy e X.env (g :: gs)) (SP X pins D) X.xe t3) X.xe t2) X.xe t1
  have caught : Takes (X.tr (X.pn ++ pins) late) (wEach X.K i W0 D l) := by
    rintro u t' ⟨x, lim, tI, more, τ', G', k, d, rfl, jt, low, grow, seen, free, stands, agree, w⟩
    have j : Inv X pins τ' G' tI := jt.ofTry okX
    have seen' : Sky lim (X.env :: X.outer) x (Zc k d) X.env.locals t'.heap := by
      rw [hst] at seen
      exact seen
    show wpAny (model X.prog X.w) X.A (noteFrame (.ref x) X.env) _ _ _
    refine Sky.land Zc.steady frames hfr seen' fun h1 on1 grow1 => ?_
    have j1 : Inv X pins τ' G' { t' with heap := h1 } := j.landed low on1.1 (grow.trans grow1) stands agree
    obtain ⟨o1, fields1, at1, kind1, data1⟩ := on1.there
    have notFrame : x ∉ frs (X.env :: X.outer) := fun mem => by
      obtain ⟨_, o2, at2, no⟩ := on1.2.2.1.mem mem
      rw [at1] at at2
      cases at2
      exact no _ data1
    have notLocals : x ≠ X.env.locals := fun z => notFrame (List.mem_filterMap.mpr ⟨X.env, List.mem_cons_self, hfr.trans (congrArg some z.symm)⟩)
    have notOuter : x ∉ X.fs := fun mem => by
      obtain ⟨e, inOuter, q⟩ := List.mem_filterMap.mp mem
      exact notFrame (List.mem_filterMap.mpr ⟨e, .tail _ inOuter, q⟩)
    have within : Inv (X.suite x ((x, o1) :: (X.pn ++ pins))) [] τ' G' { t' with heap := h1 } := j1.suite at1 data1 free notLocals notOuter
    have kindOf : PySem.W.Looks (model X.prog X.w) h1 (typeOf (.ref x)) k := fun A Q E t2 keep q => wpAny_typeOf_ref (keep _ _ at1) (by
      rw [kind1.1]
      exact q)
    suffices all : ∀ {gs : List ExceptHandler} {l : List (Value × (Addr → Value → Option Addr → TS))}, EachOk X n gs l → wEach X.K i W0 D l k d τ' G' →
        wpAny (model X.prog X.w) X.A (handleBy (.ref x) X.env gs) (SP X pins D) X.xe { t' with heap := h1 } from all each w
    intro gs l ok
    induction ok with
    | nil =>
      intro w
      refine wpAny_handleBy_nil ?_
      obtain ⟨_, _, _, o2, flds, T, oT, tks, at2, zc2, data2, one2, _⟩ := id on1
      unfold PySem.passOn
      refine wpAny_bind (wpAny_field at2 data2 one2 ?_)
      have notNone : ¬ ((Value.ref T == Value.none) = true) := by simp
      rw [if_neg notNone]
      have leave : wpAny (model X.prog X.w) X.A (setFlight (.ref x) X.env.frame) (fun _ t4 => wpAny (model X.prog X.w) X.A (throw (.ref x) : Sem Flow) (SP X pins D) X.xe t4) X.xe { t' with heap := h1 } := by
        rw [hfr]
        refine HandSPX.setFlight_upZ on1 fun h4 seen4 grow4 => wpAny_throw (out _ _ ?_)
        exact ⟨x, lim, tI, pins, τ', G', k, d, rfl, j, low, (grow.trans grow1).trans grow4, .inr (.inr (hst ▸ seen4)), free, stands, agree, w⟩
      first
        | exact wpAny_bind leave
        | exact wpAny_bind (wpAny_pure (wpAny_bind leave))
    | @cons y c ts st sts p1 p2 rest l named suite tail ih =>
      rintro ⟨fits, is, yes, no⟩
      refine wpAny_handleBy_cons (codeAny_handlers_test ?_) nofun
      have asked := PySem.W.exm_one (M := model X.prog X.w) j1.kIn kindOf is
      have theClass : ∀ {Q E : Value → Shared → Prop}, Q c { t' with heap := h1 } → wpAny (model X.prog X.w) (X.A.mark (some (.ref x))) (eval (.Name y p1) X.env) Q E { t' with heap := h1 } := fun {Q E} q => by
        obtain ⟨glob, notDebug, here | ⟨absent, built, notName⟩⟩ := named
        · exact ld_glob (X := X.suite x ((x, o1) :: (X.pn ++ pins))) within glob here q notDebug
        · exact ld_blt (X := X.suite x ((x, o1) :: (X.pn ++ pins))) within glob absent built q notName notDebug
      refine theClass (asked.here ?_)
      cases fits with
      | false =>
        show wpAny _ X.A (handleBy (.ref x) X.env rest) _ _ _
        exact ih (no rfl)
      | true =>
        refine codeAny_handlers_suite_as (HandSPX.lands_againZ on1 fun h2 on2 grow2 => ?_)
        have j2 : Inv X pins τ' G' { t' with heap := h2 } := j.landed low on2.1 ((grow.trans grow1).trans grow2) stands agree
        obtain ⟨o2, fields2, at2, kind2, data2⟩ := on2.there
        have inside := j2.suite at2 data2 free notLocals notOuter
        refine store_ok (X := X.suite x ((x, o2) :: (X.pn ++ pins))) (v := .ref x) inside hnd hix (.inl hkd) rfl (fun t5 stored => ?_) (.inr hkd)
        refine wpAny_mono ((suite x o2 k d (X.pn ++ pins) kind2 ⟨_, data2⟩).run [] t5 _ G' _ stored (yes rfl x free)) (fun f t6 ended => ?_) (fun _ _ z => z.elim)
        have clear_ : ∀ {τ6 : L2.St} {G6 : Hp} {Q : Shared → Prop}, Inv (X.suite x ((x, o2) :: (X.pn ++ pins))) [] τ6 G6 t6 → (∀ t7, Inv X pins (τ6.set i none) G6 t7 → Q t7) →
            wpAny (model X.prog X.w) X.A (do bindName X.env n .none; unbindBehindTheSuite X.env n p2) (fun _ t7 => Q t7) X.xe t6 := fun {τ6 G6 Q} q6 hq => gone_ok (q6.unsuite okX) hnd hix hkd hq
        cases f with
        | ret u => exact ended.elim fun v q => q.elim fun τ6 q => q.elim fun G6 q => clear_ q.1 fun t7 q7 => ⟨v, _, _, q7, q.2⟩
        | next => exact ended.elim fun τ6 q => q.elim fun G6 q => clear_ q.1 fun t7 q7 => ⟨_, _, q7, q.2⟩
        | brk => exact ended.elim fun τ6 q => q.elim fun G6 q => clear_ q.1 fun t7 q7 => ⟨_, _, q7, q.2⟩
        | cont => exact ended.elim fun τ6 q => q.elim fun G6 q => clear_ q.1 fun t7 q7 => ⟨_, _, q7, q.2⟩
  refine wpAny_mono ((run _ (X.pn ++ pins) late caught PassesOwn.looking).run [] t τ G D (inv.toTry _) wish) (fun f t1 ended => ?_) fun _ _ z => z
  cases f with
  | next => exact ended.elim fun τ1 q => q.elim fun G1 q => wpAny_execs_nil ⟨τ1, G1, q.1.ofTry okX, q.2⟩
  | brk => exact ended.elim fun τ1 q => q.elim fun G1 q => ⟨τ1, G1, q.1.ofTry okX, q.2⟩
  | cont => exact ended.elim fun τ1 q => q.elim fun G1 q => ⟨τ1, G1, q.1.ofTry okX, q.2⟩
  | ret u => exact ended.elim fun v q => q.elim fun τ1 q => q.elim fun G1 q => ⟨v, τ1, G1, q.1.ofTry okX, q.2⟩
end
end Sm
/-! raise C(v), C an own error that stores what it is given -/
namespace Sm
open PySem PySem.Spec PyProof.Rows L2
/-- an __init__ that stores its one argument in the field f -/
def spR1 (C : Addr) (f : Str) : Sp := fun vs H Q _ => ∃ (a : Addr) (v : V), vs = [.ref a, v] ∧ H a = some (exo a C none) ∧ ∀ d, H d = none → d ≠ a → Q .non (upd (upd H d (exd d [(f, v)])) a (exo a C (some d)))
theorem read_R1 {K : PySem.W.Frag} {C : Addr} {f : Str} {N : List Str} {vs : List V} {H : Hp} {Q : VK} {E : XK} (hN : N.length = 2) (T : OexC K C) (no : PySem.W.findIn K (.ref C) f = some none) (h : spR1 C f vs H Q E) : tOst K f (tVar 0) (tVar 1) { nx := fun _ H' => Q .non H', rt := Q } (L2.start N vs) H := by
  obtain ⟨a, v, rfl, ha, q⟩ := h
  match N, hN with
  | [_, _], _ => exact ⟨v, rfl, .ref a, rfl, a, C, rfl, T, no, .inl ⟨ha, fun d nd ne => q d nd ne⟩⟩
/-- the error's class by its name -/
structure RzM (P : Program) (w : World) (K : PySem.W.Frag) (mg : Str → Option Value) (base : Heap) (x : Str) (C : Addr) (f : Str) : Prop where
  ex : ∃ (fI : Addr) (fd : FuncData) (ps : List Str), FnOk P w K mg base CX0 1 fI fd ps (spR1 C f) ∧ PySem.W.findIn K (.ref C) "__init__" = some (some (.ref fI)) ∧ PySem.W.typeIn K (.ref fI) = some (.type "function") ∧ Binds K fd ps []
  cls : OexC K C
  nm : mg x = some (.ref C)
section
variable {X : Cx} {W : WX} {x f : Str} {C : Addr} {j : Nat} {e : Expr} {ta : TA} {p pos pos' : Pos}
/-- the making of such an error, as its reading asks -/
theorem mk1_ok {v : V} {H1 : Hp} {Q : XK} (q : ∀ d, H1 d = none → Q (.ref C) (some d) (upd H1 d (.xd [(f, v)]))) : [v].length ≤ 1000 ∧ ∀ a, H1 a = none → spR1 C f (.ref a :: ([v] ++ [])) (upd H1 a (exo a C none))
    (fun u H2 => u = .non ∧ ∃ (d : Addr) (fs : List (Str × V)), H2 a = some (exo a C (some d)) ∧ H2 d = some (exd d fs) ∧ H1 d = none ∧ Q (.ref C) (some d) (upd (del H2 a) d (.xd fs))) (fun _ _ _ => False) := by
  refine ⟨(by show (1 : Nat) ≤ 1000; decide), fun a na => ⟨a, v, rfl, upd_same, fun d nd ne => ?_⟩⟩
  have nd1 : H1 d = none := by
    rw [upd_ne ne] at nd
    exact nd
  refine ⟨rfl, d, [(f, v)], upd_same, by rw [upd_ne ne, upd_same], nd1, ?_⟩
  have e0 : upd (del (upd (upd (upd H1 a (exo a C none)) d (exd d [(f, v)])) a (exo a C (some d))) a) d (.xd [(f, v)]) = upd H1 d (.xd [(f, v)]) := by
    funext b
    by_cases hb : b = d
    · rw [hb, upd_same, upd_same]
    · rw [upd_ne hb, upd_ne hb]
      by_cases ha : b = a
      · rw [ha, del_same, na]
      · rw [del_ne ha, upd_ne ha, upd_ne hb, upd_ne ha]
  rw [e0]
  exact q d nd1
/-- raise C(e) -/
theorem ps_raise1 (M : RzM X.prog X.w X.K X.mg X.base x C f) (hr : Room j X.A) (hk : 2 ≤ j) (hg : Gl X x) (calm : X.calm = true) (tk : Takes X W) (ha : PA X [e] ta) (hdb : (x == ("__debug__" : Str)) = false := by decide)
    (he : starEach [e] X.env = (false, eval e X.env) :: starEach [] X.env := by rfl) (hpl : (backTo pos (starEach [] X.env)).any (·.1) = false := by rfl) :
    PS X (.Raise (some (.Call (.Name x p) [e] [] pos)) none pos') (fun _ σ H => tMkO C (spR1 C f) [] ta σ H fun cls d H' => W cls d σ H') := by
  obtain ⟨fI, fd, ps, F, iC, tI, hB⟩ := M.ex
  exact ps_raise calm tk (pmk_oex M.cls iC tI F (hr.mono hk) hB .nil pass0 hg M.nm ha hdb he hpl)
end
end Sm
/-! promises of defs that raise an own error with one field -/
namespace Sm
open PySem PySem.Spec PyProof.Rows L2
/-- the way out by C(v), its field f -/
def Out1 (C : Addr) (f : Str) (v : V) (H : Hp) (E : XK) : Prop := ∀ d H', H d = none → Same H H' → H' d = some (.xd [(f, v)]) → E (.ref C) (some d) H'
/-- neither a list nor a tuple -/
def NoSeq (H : Hp) (v : V) : Prop := ∃ k : Knd, KindOf H v k ∧ k ≠ .lst ∧ k ≠ .tup
/-- no word -/
def NoWord (H : Hp) (x : V) : Prop := (∃ z : Str, x = .str z ∧ z.length ≤ sizeLine ∧ wordB z = false) ∨ ∃ k : Knd, KindOf H x k ∧ k ≠ .str
theorem NoWord.on {H H' : Hp} {x : V} (h : NoWord H x) (e : Same H H') : NoWord H' x := by
  rcases h with h | ⟨k, hk, n⟩
  · exact .inl h
  · exact .inr ⟨k, hk.on e, n⟩
/-- what Kind refuses as its fields: the first index that is wrong -/
inductive KfBad (H : Hp) : V → Nat → Prop
  | noSeq {v : V} (h : NoSeq H v) : KfBad H v 0
  | none {a : Addr} (h : H a = some (.lst []) ∨ H a = some (.tup [])) : KfBad H (.ref a) 0
  | at_ {a : Addr} {pre : List Str} {x : V} {rest : List V} (h : H a = some (.lst (pre.map V.str ++ x :: rest)) ∨ H a = some (.tup (pre.map V.str ++ x :: rest))) (nd : pre.Nodup) (ok : ∀ z ∈ pre, wordB z = true) (l : pre.length ≤ 4) (long : (pre.map V.str ++ x :: rest).length ≤ 1000)
      (bad : pre.length = 4 ∨ NoWord H x ∨ ∃ z, x = .str z ∧ wordB z = true ∧ z ∈ pre) : KfBad H (.ref a) pre.length
theorem KfBad.on {H H' : Hp} {v : V} {k : Nat} (h : KfBad H v k) (e : Same H H') : KfBad H' v k := by
  cases h with
  | noSeq h => exact let ⟨k, hk, n⟩ := h; .noSeq ⟨k, hk.on e, n⟩
  | none h => exact .none (h.imp (e _ _) (e _ _))
  | at_ h nd ok l long bad =>
    refine .at_ (h.imp (e _ _) (e _ _)) nd ok l long ?_
    rcases bad with b | b | b
    · exact .inl b
    · exact .inr (.inl (b.on e))
    · exact .inr (.inr b)
def spChkFX (K : PySem.W.Frag) : Sp := fun vs H Q E => ∃ v, vs = [v] ∧ ((∃ us, KfA K H v us ∧ ∀ H', Same H H' → Q .non H') ∨ ∃ k : Nat, KfBad H v k ∧ Out1 (He.ga K "BadField") "index" (.int k) H E)
end Sm
/-! any objects as resources; servers and copies -/
namespace Sm
open PySem PySem.Spec PyProof.Rows L2
abbrev SVC (K : PySem.W.Frag) : Addr := He.ga K "Server"
abbrev CPC (K : PySem.W.Frag) : Addr := He.ga K "Copy"
abbrev STC (K : PySem.W.Frag) : Addr := He.ga K "State"
/-- data, or an empty dict -/
def Thg (H : Hp) (v : V) (d : PyData) : Prop := Dat (fun _ => True) H v d ∨ d = .dict [] ∧ ∃ a, v = .ref a ∧ H a = some (.dK [])
theorem Thg.on {H H' : Hp} {v : V} {d : PyData} (h : Thg H v d) (e : Same H H') : Thg H' v d := h.imp (fun q => q.same e) fun q => ⟨q.1, let ⟨a, h1, h2⟩ := q.2; ⟨a, h1, e _ _ h2⟩⟩
def kD : PyData → Knd
  | .none => .non | .bool _ => .bl | .int _ => .int | .str _ => .str | .list _ => .lst | .tuple _ => .tup | .dict _ => .dic
theorem Thg.kind {H : Hp} {v : V} {d : PyData} (h : Thg H v d) : KindOf H v (kD d) := by
  rcases h with h | ⟨rfl, a, rfl, h⟩
  · cases h with
    | non => exact .non
    | bl b => exact .bl b
    | int i => exact .int i
    | str x => exact .str x
    | lst _ e _ => exact .lst e
    | tup e _ => exact .tup e
  · exact .dic h
mutual
/-- texts and lists are short -/
def shortD : PyData → Bool
  | .str x => decide (x.length ≤ 100)
  | .list ds => decide (ds.length ≤ 100) && shortAll ds
  | .tuple ds => decide (ds.length ≤ 100) && shortAll ds
  | _ => true
def shortAll : List PyData → Bool
  | [] => true
  | d :: ds => shortD d && shortAll ds
end
def pairD : PyData → Option (PyData × PyData)
  | .list [a, b] => some (a, b)
  | .tuple [a, b] => some (a, b)
  | _ => none
def rp2 : PyData → PyData → Option (Str × Int)
  | .str x, .int n => if wordB x = true ∧ 0 ≤ n then some (x, n) else none
  | _, _ => none
def rpD (d : PyData) : Option (Str × Int) := match pairD d with
  | some q => rp2 q.1 q.2
  | none => none
/-- whether a row of a kind has the resource -/
def resR (r : Row) (q : Str × Int) : Bool := decide (r.1 = q.1) && (decide (q.2 = 0) || !r.2.2)
def resD (ks : List Row) (d : PyData) : Option (Str × Int) := match rpD d with
  | some q => if ks.any (fun r => resR r q) = true then some q else none
  | none => none
def spIsPair : Sp := fun vs H Q _ => ∃ v d, vs = [v] ∧ Thg H v d ∧ ∀ H', Same H H' → Q (.bl (pairD d).isSome) H'
def spIsInt : Sp := fun vs H Q _ => ∃ v k, vs = [v] ∧ KindOf H v k ∧ Q (.bl (decide (k = .int))) H
def spIsNat : Sp := fun vs H Q _ => (∃ i : Int, vs = [.int i] ∧ Q (.bl (decide (0 ≤ i))) H) ∨ ∃ v k, vs = [v] ∧ KindOf H v k ∧ k ≠ .int ∧ Q (.bl false) H
def spIsResP : Sp := fun vs H Q _ => ∃ v d, vs = [v] ∧ Thg H v d ∧ shortD d = true ∧ ∀ H', Same H H' → Q (.bl (rpD d).isSome) H'
def spSIsRes (K : PySem.W.Frag) : Sp := fun vs H Q _ => ∃ a ks v d, vs = [.ref a, v] ∧ SchO K H a ks ∧ Thg H v d ∧ shortD d = true ∧ ∀ H', Same H H' → Q (.bl (resD ks d).isSome) H'
/-- a pair stands there as two items -/
theorem Thg.pair {H : Hp} {v : V} {d x y : PyData} (h : Thg H v d) (e : pairD d = some (x, y)) : ∃ (a : Addr) (u w : V), v = .ref a ∧ (H a = some (.lst [u, w]) ∨ H a = some (.tup [u, w])) ∧ Dat (fun _ => True) H u x ∧ Dat (fun _ => True) H w y := by
  rcases h with h | ⟨rfl, _⟩
  · cases h with
    | @lst a xs ds z hx q =>
      match ds, e with
      | [_, _], e =>
        cases e
        cases q with
        | cons q1 q => cases q with
          | cons q2 q => cases q; exact ⟨a, _, _, rfl, .inl hx, q1, q2⟩
    | @tup a xs ds hx q =>
      match ds, e with
      | [_, _], e =>
        cases e
        cases q with
        | cons q1 q => cases q with
          | cons q2 q => cases q; exact ⟨a, _, _, rfl, .inr hx, q1, q2⟩
    | _ => cases e
  · cases e
theorem pairD_len {d : PyData} {ds : List PyData} (h : d = .list ds ∨ d = .tuple ds) : (pairD d).isSome = decide (ds.length = 2) := by
  rcases h with rfl | rfl <;> match ds with
    | [] => rfl
    | [_] => rfl
    | [_, _] => rfl
    | _ :: _ :: _ :: r => exact (decide_eq_false (by simp)).symm
/-- x[i], x a list or a tuple -/
def rIxE (K : PySem.W.Frag) : R2 := fun x y H Q => ∃ p xs i v, x = .ref p ∧ y = .int i ∧ (SqL K H p xs ∨ SqT K H p xs) ∧ atI xs i = some v ∧ Q v H
theorem ix_both {X : Cx} {K : PySem.W.Frag} (h : X.K = K := by rfl) : IxR X (rIxE K) := by
  subst h
  intro value slice pins s σ H x y v u Q I rx ry q hs
  obtain ⟨p, xs, i, z, e1, e2, sq | sq, ha, q⟩ := q
  · exact ix_list value slice pins s σ H x y v u Q I rx ry ⟨p, xs, i, z, e1, e2, sq, ha, q⟩ hs
  · exact ix_tup value slice pins s σ H x y v u Q I rx ry ⟨p, xs, i, z, e1, e2, sq, ha, q⟩ hs
/-! ### states, copies, servers on which nothing was handled -/
def zeros (ws : List Str) : List (Key × V) := ws.map fun w => (.inr w, .int 0)
structure StO (K : PySem.W.Frag) (H : Hp) (a : Addr) (ws : List Str) : Prop where
  at_ : ∃ dy cd td, H a = some (.ins (STC K) dy [("contents", .ref cd), ("tallies", .ref td)]) ∧ H cd = some (.dK (zeros ws))
structure CpO (K : PySem.W.Frag) (H : Hp) (a : Addr) (q : Str × Int) (ws : List Str) : Prop where
  at_ : ∃ dx t st, H a = some (.ins (CPC K) dx [("resource", .ref t), ("moment", .int 0), ("state", .ref st)]) ∧ H t = some (.tup [.str q.1, .int q.2]) ∧ StO K H st ws
structure SvO (K : PySem.W.Frag) (H : Hp) (a : Addr) (ks : List Row) : Prop where
  at_ : ∃ dx s L D, H a = some (.ins (SVC K) dx [("schema", .ref s), ("updates", .ref L), ("states", .ref D)]) ∧ SchO K H s ks ∧ H L = some (.lst []) ∧ H D = some (.dT [])
  wl : ∀ r ∈ ks, r.2.1.length ≤ 1000
theorem StO.on {K : PySem.W.Frag} {H H' : Hp} {a : Addr} {ws : List Str} (h : StO K H a ws) (e : Same H H') : StO K H' a ws := by
  obtain ⟨dy, cd, td, h1, h2⟩ := h
  exact ⟨dy, cd, td, e _ _ h1, e _ _ h2⟩
theorem CpO.on {K : PySem.W.Frag} {H H' : Hp} {a : Addr} {q : Str × Int} {ws : List Str} (h : CpO K H a q ws) (e : Same H H') : CpO K H' a q ws := by
  obtain ⟨dx, t, st, h1, h2, h3⟩ := h
  exact ⟨dx, t, st, e _ _ h1, e _ _ h2, h3.on e⟩
theorem SvO.on {K : PySem.W.Frag} {H H' : Hp} {a : Addr} {ks : List Row} (h : SvO K H a ks) (e : Same H H') : SvO K H' a ks := by
  obtain ⟨⟨dx, s, L, D, h1, h2, h3, h4⟩, wl⟩ := h
  exact ⟨⟨dx, s, L, D, e _ _ h1, h2.on e, e _ _ h3, e _ _ h4⟩, wl⟩
def spStInit (K : PySem.W.Frag) : Sp := fun vs H Q _ => ∃ x dx u v, vs = [.ref x, u, v] ∧ H x = some (.ins (STC K) dx []) ∧ Q .non (upd H x (.ins (STC K) dx [("contents", u), ("tallies", v)]))
def spCpInit (K : PySem.W.Frag) : Sp := fun vs H Q _ => ∃ x dx u v z, vs = [.ref x, u, v, z] ∧ H x = some (.ins (CPC K) dx []) ∧ Q .non (upd H x (.ins (CPC K) dx [("resource", u), ("moment", v), ("state", z)]))
def spSvInit (K : PySem.W.Frag) : Sp := fun vs H Q _ => ∃ x dx s, vs = [.ref x, .ref s] ∧ H x = some (.ins (SVC K) dx []) ∧
  ∀ L D H', H L = none → H D = none → (∀ b o, b ≠ x → H b = some o → H' b = some o) → H' x = some (.ins (SVC K) dx [("schema", .ref s), ("updates", .ref L), ("states", .ref D)]) → H' L = some (.lst []) → H' D = some (.dT []) → Q .non H'
def spHandled (K : PySem.W.Frag) : Sp := fun vs H Q _ => ∃ a ks, vs = [.ref a] ∧ SvO K H a ks ∧ Q (.int 0) H
def spStateOf (K : PySem.W.Frag) : Sp := fun vs H Q _ => ∃ (a t : Addr) (ks : List Row) (q : Str × Int) (i : Nat) (r : Row), vs = [.ref a, .ref t] ∧ SvO K H a ks ∧ H t = some (.tup [.str q.1, .int q.2]) ∧ ks[i]? = some r ∧ r.1 = q.1 ∧ ∀ st H', H st = none → Same H H' → StO K H' st r.2.1 → Q (.ref st) H'
/-- a copy, or the way out -/
def spReadX (K : PySem.W.Frag) : Sp := fun vs H Q E => ∃ (a : Addr) (ks : List Row) (v : V) (d : PyData), vs = [.ref a, v] ∧ SvO K H a ks ∧ Thg H v d ∧ shortD d = true ∧
  ((∃ (q : Str × Int) (i : Nat) (r : Row), resD ks d = some q ∧ ks[i]? = some r ∧ r.1 = q.1 ∧ ∀ c H', H c = none → Same H H' → CpO K H' c q r.2.1 → Q (.ref c) H') ∨ (resD ks d = none ∧ Out1 (He.ga K "BadResource") "resource" v H E))
def spCpIn (K : PySem.W.Frag) : Sp := fun vs H Q _ => ∃ a q ws w, vs = [.ref a, .str w] ∧ CpO K H a q ws ∧ Q (.bl (decide (w ∈ ws))) H
def spCpGet (K : PySem.W.Frag) : Sp := fun vs H Q _ => ∃ a q ws w, vs = [.ref a, .str w] ∧ CpO K H a q ws ∧ w ∈ ws ∧ Q (.int 0) H
theorem zeros_get {ws : List Str} {w : Str} (h : w ∈ ws) : valV (zeros ws) (.inr w) = some (.int 0) := by
  induction ws with
  | nil => cases h
  | cons x r ih =>
    unfold zeros
    rw [List.map_cons]
    by_cases e : x = w
    · rw [valV_pos (by rw [e])]
    · rw [valV_neg (fun z => e (by injection z))]
      exact ih ((List.mem_cons.mp h).resolve_left (fun z => e z.symm))
theorem zeros_none {ws : List Str} {w : Str} (h : w ∉ ws) : valV (zeros ws) (.inr w) = none := by
  induction ws with
  | nil => rfl
  | cons x r ih =>
    unfold zeros
    rw [List.map_cons, valV_neg (fun z => h (by injection z with z; rw [z]; exact List.mem_cons_self ..))]
    exact ih (fun z => h (List.mem_cons_of_mem _ z))
/-- the row that has it -/
theorem resD_row {ks : List Row} {d : PyData} {q : Str × Int} (h : resD ks d = some q) : rpD d = some q ∧ ∃ (i : Nat) (r : Row), ks[i]? = some r ∧ r.1 = q.1 ∧ (decide (q.2 = 0) || !r.2.2) = true := by
  unfold resD at h
  cases e : rpD d with
  | none => rw [e] at h; cases h
  | some p =>
    rw [e] at h
    dsimp only at h
    by_cases c : ks.any (fun r => resR r p) = true
    · rw [if_pos c] at h
      cases h
      obtain ⟨r, hr, e2⟩ := List.any_eq_true.mp c
      obtain ⟨i, hi⟩ := List.mem_iff_getElem?.mp hr
      unfold resR at e2
      obtain ⟨e3, e4⟩ := Bool.and_eq_true_iff.mp e2
      exact ⟨rfl, i, r, hi, of_decide_eq_true e3, e4⟩
    · rw [if_neg c] at h; cases h
theorem rpD_pair {d : PyData} {x : Str} {n : Int} (h : rpD d = some (x, n)) : pairD d = some (.str x, .int n) ∧ wordB x = true ∧ 0 ≤ n := by
  unfold rpD at h
  cases e : pairD d with
  | none => rw [e] at h; cases h
  | some p =>
    rw [e] at h
    obtain ⟨u, v⟩ := p
    cases u <;> cases v <;> try (cases h)
    rename_i y m
    have h : (if wordB y = true ∧ 0 ≤ m then some (y, m) else none) = some (x, n) := h
    by_cases c : wordB y = true ∧ 0 ≤ m
    · rw [if_pos c] at h
      cases h
      exact ⟨rfl, c⟩
    · rw [if_neg c] at h; cases h
theorem zeros_len (ws : List Str) : (zeros ws).length = ws.length := by unfold zeros; rw [List.length_map]
theorem zeros_put {ws : List Str} {w : Str} (h : w ∉ ws) : putK (zeros ws) (.inr w) (.int 0) = zeros (ws ++ [w]) := by
  rw [putK_new _ (zeros_none h)]
  unfold zeros
  rw [List.map_append]
  rfl
/-- e.f, f a property that the class at C has -/
structure PropM (P : Program) (w : World) (K : PySem.W.Frag) (mg : Str → Option Value) (base : Heap) (C : Addr) (k : Nat) (x : Str) (sp : Sp) : Prop where
  ex : ∃ (p g : Addr) (fd : FuncData) (ps : List Str), PropOf K C x p g ∧ FnOk P w K mg base CX0 k g fd ps sp ∧ Binds K fd ps []
theorem pe_propO {X : Cx} {C : Addr} {k j : Nat} {f : Str} {sp : Sp} {e : Expr} {pos : Pos} {ta : TE} (M : PropM X.prog X.w X.K X.mg X.base C k f sp) (c : Cls X.K C) (hr : Room j X.A) (hk : k + 1 ≤ j) (he : PE X e ta)
    (hab : attributeBase e f X.env (eval e X.env) = eval e X.env := by rfl) : PE X (.Attribute e f pos) (tProp C sp [] E0 ta) := by
  obtain ⟨p, g, fd, ps, hp, F, hB⟩ := M.ex
  exact pe_prop he c hp F (hr.mono hk) hB .nil pass0 hab
/-! ### methods with a way out -/
/-- a method of the class at C by its name, with what it promises, its ways out too -/
structure OwMX (P : Program) (w : World) (K : PySem.W.Frag) (mg : Str → Option Value) (base : Heap) (C : Addr) (k : Nat) (x : Str) (sp : Sp) : Prop where
  ex : ∃ (f : Addr) (fd : FuncData) (ps : List Str), FnOk P w K mg base (L2.CX P w) k f fd ps sp ∧ PySem.W.findIn K (.ref C) x = some (some (.ref f)) ∧ PySem.W.isFn K (.ref f) = true ∧ PySem.W.keepIn K (.ref f) = true ∧ Binds K fd ps []
/-- where nothing is let out -/
theorem fnOk_zero {P : Program} {w : World} {K : PySem.W.Frag} {mg : Str → Option Value} {base : Heap} {k : Nat} {f : Addr} {fd : FuncData} {ps : List Str} {sp : Sp} (F : FnOk P w K mg base (L2.CX P w) k f fd ps sp) : FnOk P w K mg base CX0 k f fd ps (fun vs H Q _ => sp vs H Q E0) :=
  ⟨fun vs H Q E h => F.len vs H Q E0 h, fun A outer s H args us vs Q E hr e0 hb r h => codeAny_mono (F.run A outer s H args us vs Q E0 hr e0 hb r h) fun res s' q => by
    cases res with
    | ok fl => cases fl <;> exact q
    | error e =>
      obtain ⟨_, _, _, _, _, _, _, _, _, _, _, _, z⟩ := (show L2.CX P w outer H s E0 e s' from q)
      exact z.elim⟩
theorem OwMX.zero {P : Program} {w : World} {K : PySem.W.Frag} {mg : Str → Option Value} {base : Heap} {C : Addr} {k : Nat} {x : Str} {sp : Sp} (M : OwMX P w K mg base C k x sp) : OwM P w K mg base C k x (fun vs H Q _ => sp vs H Q E0) := by
  obtain ⟨f, fd, ps, F, h⟩ := M.ex
  exact ⟨f, fd, ps, fnOk_zero F, h⟩
section
variable {X : Cx} {C : Addr} {k j : Nat} {m : Str} {sp : Sp} {ta : TE} {t : TA} {o e : Expr} {es : List Expr} {apos pos : Pos} {E : XK}
theorem pe_omX {pl : Sem Bool} (he : PE X o ta) (c : Cls X.K C) (M : OwMX X.prog X.w X.K X.mg X.base C k m sp) (hr : Room j X.A) (hk : k ≤ j) (tk : Takes X (fun k d _ H => E k d H)) (ha : PA X (e :: es) t)
    (hst : starEach (e :: es) X.env = (false, eval e X.env) :: starEach es X.env := by rfl) (hpl : (backTo pos (starEach es X.env)).any (·.1) = false := by rfl)
    (ht : eval (.Call (.Attribute o m apos) (e :: es) [] pos) X.env = (do
      let ov ← eval o X.env
      standAt apos.atName
      let (f, first) ← holding [ov] (getMethod ov m pl)
      callWith pos f first (backTo pos (starEach (e :: es) X.env)) (backToKw pos (keywordEach [] X.env))) := by rfl) :
    PE X (.Call (.Attribute o m apos) (e :: es) [] pos) (tMeth C m sp [] E ta t) := by
  obtain ⟨f, fd, ps, F, h1, h2, h3, hB⟩ := M.ex
  exact pe_meth he c ⟨h1, h2, h3⟩ F (hr.mono hk) hB .nil (passes_call tk fun _ _ _ _ h => h) ha hst hpl ht
end
end Sm
namespace Sm
open PySem PySem.Spec PyProof.Rows L2
abbrev sis_pair : Stmt := top 4
theorem scis_pair : FnScope ["thing"] ["thing"] (defScope sis_pair) := ⟨rfl, rfl, rfl, by decide +kernel, rfl, by decide +kernel, by decide +kernel⟩

abbrev sis_int : Stmt := top 6
theorem scis_int : FnScope ["thing"] ["thing"] (defScope sis_int) := ⟨rfl, rfl, rfl, by decide +kernel, rfl, by decide +kernel, by decide +kernel⟩

abbrev sis_natural : Stmt := top 7
theorem scis_natural : FnScope ["thing"] ["thing"] (defScope sis_natural) := ⟨rfl, rfl, rfl, by decide +kernel, rfl, by decide +kernel, by decide +kernel⟩

abbrev sis_resource_pair : Stmt := top 8
theorem scis_resource_pair : FnScope ["thing"] ["thing"] (defScope sis_resource_pair) := ⟨rfl, rfl, rfl, by decide +kernel, rfl, by decide +kernel, by decide +kernel⟩

abbrev sSchema_is_resource : Stmt := inClass (top 26) 2
theorem scSchema_is_resource : FnScope ["self", "thing", "name", "number"] ["self", "thing"] (defScope sSchema_is_resource) := ⟨rfl, rfl, rfl, by decide +kernel, rfl, by decide +kernel, by decide +kernel⟩

structure TxtJ (mg : Str → Option Value) : Prop where
  isinstance : mg "isinstance" = none
  len : mg "len" = none
  int : mg "int" = none
  bool : mg "bool" = none
section
variable {P : Program} {w : World} {K : PySem.W.Frag} {mg : Str → Option Value} {base : Heap}
theorem ok_is_pair (T : TxtJ mg) {f : Addr} {fd : FuncData} (F : FnP K "is_pair" sis_pair f fd) (cis_list : Cal P w K mg base CX0 1 "is_list" spIsList) : FnOk P w K mg base CX0 2 f fd ["thing"] spIsPair := by
  refine F.ok scis_pair (fun vs H Q E h => ?_) (fun cdv A outer s H vs Q E hr h => ?_)
  · obtain ⟨v, d, rfl, _⟩ := h
    rfl
  · obtain ⟨v, d, rfl, hd, kk⟩ := h
    refine ⟨_, PSs.nox (pss_one (ps_ret (pe_and (pe_c cis_list hr (by first | decide | omega) (by rfl) (pa_cons (pv 0) pa_nil)) (pe_one (pe_cmpR op_eq (pe_callB (call_lenK (K := K)) (by rfl) T.len (by decide +kernel) (pa_cons (pv 0) pa_nil)) pe_int (nomark _)))))), ?_⟩
    refine ⟨_, rfl, v, _, rfl, hd.kind, fun H1 s1 => ⟨_, rfl, ?_⟩⟩
    have hd1 := hd.on s1
    rcases hd1 with hd1 | ⟨rfl, a, rfl, h⟩
    · cases hd1 with
      | @lst a xs ds z hx q =>
        refine ifT rfl ⟨_, rfl, a, xs, rfl, .inl (SqL.of hx), ?_⟩
        have e : decide (V.int (xs.length : Nat) = V.int 2) = decide (ds.length = 2) := by
          rw [q.len]
          exact decide_eq_decide.mpr ⟨fun z => by injection z with z; omega, fun z => by rw [z]; rfl⟩
        refine ⟨rfl, ?_⟩
        rw [e, ← pairD_len (.inl rfl)]
        exact kk _ s1
      | @tup a xs ds hx q =>
        refine ifT rfl ⟨_, rfl, a, xs, rfl, .inr (SqT.of hx), ?_⟩
        have e : decide (V.int (xs.length : Nat) = V.int 2) = decide (ds.length = 2) := by
          rw [q.len]
          exact decide_eq_decide.mpr ⟨fun z => by injection z with z; omega, fun z => by rw [z]; rfl⟩
        refine ⟨rfl, ?_⟩
        rw [e, ← pairD_len (.inr rfl)]
        exact kk _ s1
      | _ => exact ifF (by nofun) (kk _ s1)
    · exact ifF (by nofun) (kk _ s1)
theorem ok_is_int (T : TxtJ mg) {f : Addr} {fd : FuncData} (F : FnP K "is_int" sis_int f fd) : FnOk P w K mg base CX0 1 f fd ["thing"] spIsInt := by
  refine F.ok scis_int (fun vs H Q E h => ?_) (fun cdv A outer s H vs Q E hr h => ?_)
  · obtain ⟨v, d, rfl, _⟩ := h
    rfl
  · obtain ⟨v, k, rfl, hk, kk⟩ := h
    refine ⟨_, PSs.nox (pss_one (ps_ret (pe_and (pe_callB (call_isiK' (K := K)) (by rfl) T.isinstance (by decide +kernel) (pa_cons (pv 0) (pa_cons (pe_bltn (v := .ty "int") (u := .type "int") (by rfl) T.int (by decide +kernel) rfl) pa_nil))) (pe_one (pe_not (pe_callB (call_isiK' (K := K)) (by rfl) T.isinstance (by decide +kernel) (pa_cons (pv 0) (pa_cons (pe_bltn (v := .ty "bool") (u := .type "bool") (by rfl) T.bool (by decide +kernel) rfl) pa_nil)))))))), ?_⟩
    refine ⟨_, rfl, ⟨_, _, _, _, _, rfl, .ty _, (hk).ty, kit_knd _ .int, ⟨_, rfl, ?_⟩⟩⟩
    cases k with
    | int => exact ifT rfl ⟨_, rfl, ⟨_, _, _, _, _, rfl, .ty _, (hk).ty, kit_knd _ .bl, ⟨_, rfl, kk⟩⟩⟩
    | bl => exact ifT rfl ⟨_, rfl, ⟨_, _, _, _, _, rfl, .ty _, (hk).ty, kit_knd _ .bl, ⟨_, rfl, kk⟩⟩⟩
    | _ => exact ifF (by nofun) kk
theorem ok_is_natural (T : TxtJ mg) {f : Addr} {fd : FuncData} (F : FnP K "is_natural" sis_natural f fd) (cis_int : Cal P w K mg base CX0 1 "is_int" spIsInt) : FnOk P w K mg base CX0 2 f fd ["thing"] spIsNat := by
  refine F.ok scis_natural (fun vs H Q E h => ?_) (fun cdv A outer s H vs Q E hr h => ?_)
  · rcases h with ⟨v, rfl, _⟩ | ⟨v, d, rfl, _⟩ <;> rfl
  · refine ⟨_, PSs.nox (pss_one (ps_ret (pe_and (pe_c cis_int hr (by first | decide | omega) (by rfl) (pa_cons (pv 0) pa_nil)) (pe_one (pe_cmpR op_ge (pv 0) pe_int (nomark _)))))), ?_⟩
    rcases h with ⟨i, rfl, kk⟩ | ⟨v, k, rfl, hk, ne, kk⟩
    · exact ⟨_, rfl, _, _, rfl, .int i, _, rfl, ifT rfl ⟨_, rfl, _, _, rfl, rfl, kk⟩⟩
    · refine ⟨_, rfl, _, _, rfl, hk, _, rfl, ?_⟩
      rw [decide_eq_false ne]
      exact ifF (by nofun) kk
theorem ok_is_resource_pair {f : Addr} {fd : FuncData} (F : FnP K "is_resource_pair" sis_resource_pair f fd) (cis_pair : Cal P w K mg base CX0 2 "is_pair" spIsPair) (cis_word : Cal P w K mg base CX0 1 "is_word" spIsWord) (cis_natural : Cal P w K mg base CX0 2 "is_natural" spIsNat) : FnOk P w K mg base CX0 3 f fd ["thing"] spIsResP := by
  refine F.ok scis_resource_pair (fun vs H Q E h => ?_) (fun cdv A outer s H vs Q E hr h => ?_)
  · obtain ⟨v, d, rfl, _⟩ := h
    rfl
  · obtain ⟨v, d, rfl, hd, sh, kk⟩ := h
    refine ⟨_, PSs.nox (pss_one (ps_ret (pe_and (pe_c cis_pair hr (by first | decide | omega) (by rfl) (pa_cons (pv 0) pa_nil)) (pe_and (pe_c cis_word hr (by first | decide | omega) (by rfl) (pa_cons (pe_ix (ix_both (K := K)) (pv 0) pe_int (fun _ _ => rfl)) pa_nil)) (pe_one (pe_c cis_natural hr (by first | decide | omega) (by rfl) (pa_cons (pe_ix (ix_both (K := K)) (pv 0) pe_int (fun _ _ => rfl)) pa_nil))))))), ?_⟩
    refine ⟨_, rfl, v, d, rfl, hd, fun H1 s1 => ⟨_, rfl, ?_⟩⟩
    cases e : pairD d with
    | none =>
      have e2 : rpD d = none := by unfold rpD; rw [e]
      rw [e2] at kk
      exact ifF (by nofun) (kk _ s1)
    | some q =>
      obtain ⟨x, y⟩ := q
      obtain ⟨a, u, w', rfl, ha, hx, hy⟩ := (hd.on s1).pair e
      have sq : SqL K H1 a [u, w'] ∨ SqT K H1 a [u, w'] := ha.imp SqL.of SqT.of
      have i0 : ∀ Q : VK, Q u H1 → rIxE K (.ref a) (.int 0) H1 Q := fun Q q => ⟨a, _, 0, u, rfl, rfl, sq, rfl, q⟩
      have i1 : ∀ Q : VK, Q w' H1 → rIxE K (.ref a) (.int 1) H1 Q := fun Q q => ⟨a, _, 1, w', rfl, rfl, sq, rfl, q⟩
      have ex : rpD d = rp2 x y := by unfold rpD; rw [e]
      refine ifT rfl ⟨_, rfl, i0 _ ?_⟩
      have noW : ∀ k, KindOf H1 u k → k ≠ .str → rpD d = none → spIsWord [u] H1 (fun x H => ∃ c, x = .bl c ∧ if c = true then (tCall spIsNat [] E0 (tCons (tOp (rIxE K) (tVar 0) (tC (V.int 1))) tNil)) (L2.start ["thing"] [.ref a]) H Q else Q (.bl false) H) E0 := fun k hk ne e2 => .inr ⟨_, _, rfl, hk, ne, _, rfl, ifF (by nofun) (by rw [e2] at kk; exact kk _ s1)⟩
      cases hx with
      | str z =>
        have sz : z.length ≤ sizeLine := by
          have : z.length ≤ 100 := by
            cases d with
            | list ds => 
              match ds, e with
              | [_, _], e =>
                cases e
                unfold shortD shortAll shortAll shortD at sh
                simp only [Bool.and_eq_true, decide_eq_true_eq] at sh
                exact sh.2.1
            | tuple ds =>
              match ds, e with
              | [_, _], e =>
                cases e
                unfold shortD shortAll shortAll shortD at sh
                simp only [Bool.and_eq_true, decide_eq_true_eq] at sh
                exact sh.2.1
            | _ => cases e
          have e : sizeLine = 16777216 := sizeLine_eq
          omega
        refine .inl ⟨z, rfl, sz, _, rfl, ?_⟩
        cases hw : wordB z with
        | false =>
          have e2 : rpD d = none := by
            rw [ex]
            cases y with
            | int n => show (if wordB z = true ∧ 0 ≤ n then some (z, n) else none) = none; rw [hw]; exact if_neg (fun q => by cases q.1)
            | _ => rfl
          rw [e2] at kk
          exact ifF (by nofun) (kk _ s1)
        | true =>
          refine ifT rfl ⟨_, rfl, i1 _ ?_⟩
          cases hy with
          | int n =>
            refine .inl ⟨n, rfl, ?_⟩
            have e2 : (rpD d).isSome = decide (0 ≤ n) := by
              rw [ex]
              show (if wordB z = true ∧ 0 ≤ n then some (z, n) else none).isSome = _
              rw [hw]
              by_cases hn : 0 ≤ n
              · rw [if_pos ⟨rfl, hn⟩, decide_eq_true hn]; rfl
              · rw [if_neg (fun q => hn q.2), decide_eq_false hn]; rfl
            rw [e2] at kk
            exact kk _ s1
          | non => exact .inr ⟨_, _, rfl, .non, by nofun, by rw [ex] at kk; exact kk _ s1⟩
          | bl b => exact .inr ⟨_, _, rfl, .bl b, by nofun, by rw [ex] at kk; exact kk _ s1⟩
          | str b => exact .inr ⟨_, _, rfl, .str b, by nofun, by rw [ex] at kk; exact kk _ s1⟩
          | lst z e9 q => exact .inr ⟨_, _, rfl, .lst e9, by nofun, by rw [ex] at kk; exact kk _ s1⟩
          | tup e9 q => exact .inr ⟨_, _, rfl, .tup e9, by nofun, by rw [ex] at kk; exact kk _ s1⟩
      | non => exact noW _ .non (by nofun) ex
      | bl b => exact noW _ (.bl b) (by nofun) ex
      | int b => exact noW _ (.int b) (by nofun) ex
      | lst z e9 q => exact noW _ (.lst e9) (by nofun) ex
      | tup e9 q => exact noW _ (.tup e9) (by nofun) ex
end
end Sm
namespace Sm
open PySem PySem.Spec PyProof.Rows L2
abbrev sState_init : Stmt := inClass (top 29) 0
theorem scState_init : FnScope ["self", "contents", "tallies"] ["self", "contents", "tallies"] (defScope sState_init) := ⟨rfl, rfl, rfl, by decide +kernel, rfl, by decide +kernel, by decide +kernel⟩

abbrev sCopy_init : Stmt := inClass (top 30) 0
theorem scCopy_init : FnScope ["self", "resource", "moment", "state"] ["self", "resource", "moment", "state"] (defScope sCopy_init) := ⟨rfl, rfl, rfl, by decide +kernel, rfl, by decide +kernel, by decide +kernel⟩

abbrev sCopy_contains : Stmt := inClass (top 30) 2
theorem scCopy_contains : FnScope ["self", "x"] ["self", "x"] (defScope sCopy_contains) := ⟨rfl, rfl, rfl, by decide +kernel, rfl, by decide +kernel, by decide +kernel⟩

abbrev sCopy_getitem : Stmt := inClass (top 30) 3
theorem scCopy_getitem : FnScope ["self", "at"] ["self", "at"] (defScope sCopy_getitem) := ⟨rfl, rfl, rfl, by decide +kernel, rfl, by decide +kernel, by decide +kernel⟩

abbrev sServer_init : Stmt := inClass (top 31) 0
theorem scServer_init : FnScope ["self", "schema"] ["self", "schema"] (defScope sServer_init) := ⟨rfl, rfl, rfl, by decide +kernel, rfl, by decide +kernel, by decide +kernel⟩

abbrev sServer_handled : Stmt := inClass (top 31) 1
theorem scServer_handled : FnScope ["self"] ["self"] (defScope sServer_handled) := ⟨rfl, rfl, rfl, by decide +kernel, rfl, by decide +kernel, by decide +kernel⟩

abbrev sServer_state_of : Stmt := inClass (top 31) 8
theorem scServer_state_of : FnScope ["self", "resource", "fields", "word"] ["self", "resource"] (defScope sServer_state_of) := ⟨rfl, rfl, rfl, by decide +kernel, rfl, by decide +kernel, by decide +kernel⟩

section
variable {P : Program} {w : World} {K : PySem.W.Frag} {mg : Str → Option Value} {base : Heap}
theorem ok_Schema_is_resource (SS : OwnK K (SC K)) (KK : OwnK K (KC K)) (n2 : NoAttr K (KC K) "single") (hfn : ∀ f, PySem.W.findIn K (.ref (SC K)) "__getitem__" = some (some (.ref f)) → PySem.W.fnIn K f = true) {f : Addr} {fd : FuncData} (F : FunD K "is_resource" "Schema.is_resource" (defArgs sSchema_is_resource) (defBody sSchema_is_resource) (defScope sSchema_is_resource) [] [] f fd) (cis_resource_pair : Cal P w K mg base CX0 3 "is_resource_pair" spIsResP) (cS_in : OwM P w K mg base (SC K) 4 "__contains__" (spSIn K)) (cS_get : OwM P w K mg base (SC K) 1 "__getitem__" (spSGet K)) : FnOk P w K mg base CX0 5 f fd ["self", "thing"] (spSIsRes K) := by
  refine F.ok scSchema_is_resource (fun vs H Q E h => ?_) (fun cdv A outer s H vs Q E hr h => ?_)
  · obtain ⟨a, ks, v, d, rfl, _⟩ := h
    rfl
  · obtain ⟨a, ks, v, d, rfl, hS, hd, sh, kk⟩ := h
    refine ⟨_, PSs.nox (pss_cons (ps_if (pt_not (pt_val (pe_c cis_resource_pair hr (by first | decide | omega) (by rfl) (pa_cons (pv 1) pa_nil)))) (pss_one (ps_ret pe_bl)) pss_nil)
  (pss_cons (ps_asg (pv 1) (pg_seqB (K := K) rfl (pgs_cons (pg_name (i := 2) scSchema_is_resource.nd rfl (Or.inl rfl)) (pgs_cons (pg_name (i := 3) scSchema_is_resource.nd rfl (Or.inl rfl)) pgs_nil))))
  (pss_one (ps_ret (pe_and (pe_cmpR (op_ownIn cS_in (hr.mono (by decide))) (pv 2) (pv 0) (by rfl)) (pe_one (pe_or (pe_cmpR op_eq (pv 3) pe_int (nomark _)) (pe_one (pe_notT (pe_fldK (K := K) (pe_ownGet (pv 0) (pv 2) cS_get hfn (hr.mono (by decide)) (by intro _ _; with_unfolding_all rfl)))))))))))), ?_⟩
    refine st_seq2 ⟨_, rfl, v, d, rfl, hd, sh, fun H1 s1 => ⟨_, rfl, ?_⟩⟩
    cases e : rpD d with
    | none =>
      have e2 : resD ks d = none := by unfold resD; rw [e]
      rw [e2] at kk
      exact iteT (kk _ s1)
    | some q =>
      obtain ⟨x, n⟩ := q
      obtain ⟨ep, wx, n0⟩ := rpD_pair e
      obtain ⟨b, u, w', rfl, ha, hx, hy⟩ := (hd.on s1).pair ep
      cases hx
      cases hy
      have er : resD ks d = if ks.any (fun r => resR r (x, n)) = true then some (x, n) else none := by unfold resD; rw [e]
      have hS1 := hS.on s1
      obtain ⟨⟨dx, t, xs, hx1, _⟩, _, _⟩ := id hS1
      refine iteF ?_
      dsimp only [tNext]
      obtain ⟨bb, sqb⟩ : ∃ bb, SqB bb K H1 b [.str x, .int n] := ha.elim (fun h => ⟨false, .of h⟩) (fun h => ⟨true, .of h⟩)
      refine st_seq2 ⟨_, rfl, bb, b, _, rfl, sqb, rfl, _, _, rfl, _, _, rfl, rfl, ?_⟩
      dsimp only
      refine ⟨_, rfl, _, rfl, a, dx, _, rfl, hx1, a, ks, _, rfl, hS1, .inl rfl, fun H2 s2 => ⟨_, rfl, _, rfl, ?_⟩⟩
      have es : (false ^^ askB ks (.str x)) = decide (x ∈ ks.map (·.1)) := by rw [Bool.false_xor]; rfl
      rw [es]
      by_cases hm : x ∈ ks.map (·.1)
      · rw [decide_eq_true hm]
        obtain ⟨r, hr1, hr2⟩ := List.mem_map.mp hm
        obtain ⟨i, hi⟩ := List.mem_iff_getElem?.mp hr1
        have ea : ks.any (fun r => resR r (x, n)) = (decide (n = 0) || !r.2.2) := by
          cases ee : (decide (n = 0) || !r.2.2) with
          | true => exact List.any_eq_true.mpr ⟨r, hr1, by unfold resR; rw [decide_eq_true hr2, Bool.true_and]; exact ee⟩
          | false =>
            refine Bool.eq_false_iff.mpr fun z => ?_
            obtain ⟨r', m', z⟩ := List.any_eq_true.mp z
            unfold resR at z
            obtain ⟨z1, z2⟩ := Bool.and_eq_true_iff.mp z
            have z1 := of_decide_eq_true z1
            obtain ⟨j, hj⟩ := List.mem_iff_getElem?.mp m'
            have ij : i = j := by
              have a1 : (ks.map (·.1))[i]? = some x := by rw [List.getElem?_map, hi]; exact congrArg some hr2
              have a2 : (ks.map (·.1))[j]? = some x := by rw [List.getElem?_map, hj]; exact congrArg some z1
              exact (List.getElem?_inj (by rw [List.length_map]; exact (List.getElem?_eq_some_iff.mp hi).1) hS.nd).mp (a1.trans a2.symm)
            subst ij
            rw [hi] at hj
            cases hj
            rw [ee] at z2
            cases z2
        have eQ : (resD ks d).isSome = (decide (n = 0) || !r.2.2) := by
          rw [er, ea]
          cases (decide (n = 0) || !r.2.2) <;> rfl
        rw [eQ] at kk
        refine ifT rfl ⟨_, rfl, ⟨rfl, _, rfl, ?_⟩⟩
        have en : decide (V.int n = V.int 0) = decide (n = 0) := decide_eq_decide.mpr ⟨fun z => by injection z, fun z => by rw [z]⟩
        rw [en]
        by_cases hn : n = 0
        · rw [decide_eq_true hn, Bool.true_or] at kk
          rw [decide_eq_true hn]
          exact ifT rfl (kk _ (s1.trans s2))
        · rw [decide_eq_false hn, Bool.false_or] at kk
          rw [decide_eq_false hn]
          refine ifF (by nofun) ⟨_, rfl, _, rfl, a, dx, _, rfl, s2 _ _ hx1, a, ks, i, r, by rw [hr2], hS1.on s2, hi, fun y ky => ?_⟩
          obtain ⟨dy, fy, hy1, hy2⟩ := ky
          exact ⟨y, _, dy, _, _, rfl, hy1, KK.cls, n2, rfl, _, rfl, kk _ (s1.trans s2)⟩
      · rw [decide_eq_false hm]
        have e2 : resD ks d = none := by
          rw [er]
          refine if_neg fun z => ?_
          obtain ⟨r', m', z⟩ := List.any_eq_true.mp z
          unfold resR at z
          exact hm (List.mem_map.mpr ⟨r', m', of_decide_eq_true (Bool.and_eq_true_iff.mp z).1⟩)
        rw [e2] at kk
        exact ifF (by nofun) (kk _ (s1.trans s2))
theorem ok_State_init (ST : OwnK K (STC K)) (n1 : NoAttr K (STC K) "contents") (n2 : NoAttr K (STC K) "tallies") {f : Addr} {fd : FuncData} (F : FunD K "__init__" "State.__init__" (defArgs sState_init) (defBody sState_init) (defScope sState_init) [] [] f fd) : FnOk P w K mg base CX0 1 f fd ["self", "contents", "tallies"] (spStInit K) := by
  refine F.ok scState_init (fun vs H Q E h => ?_) (fun cdv A outer s H vs Q E hr h => ?_)
  · obtain ⟨x, dx, u, v, rfl, _⟩ := h
    rfl
  · obtain ⟨x, dx, u, v, rfl, hx, kk⟩ := h
    refine ⟨_, PSs.nox (pss_cons (ps_fld (pv 0) (pv 1) rfl)
  (pss_one (ps_fld (pv 0) (pv 2) rfl))), ?_⟩
    refine st_seq2 ⟨_, rfl, _, rfl, x, _, dx, _, rfl, hx, ST.cls, n1, by decide, ?_⟩
    refine ⟨_, rfl, _, rfl, x, _, dx, _, rfl, upd_same, ST.cls, n2, (by show (1 : Nat) < 1000; decide), ?_⟩
    rw [upd_upd]
    exact kk
theorem ok_Copy_init (CP : OwnK K (CPC K)) (n1 : NoAttr K (CPC K) "resource") (n2 : NoAttr K (CPC K) "moment") (n3 : NoAttr K (CPC K) "state") {f : Addr} {fd : FuncData} (F : FunD K "__init__" "Copy.__init__" (defArgs sCopy_init) (defBody sCopy_init) (defScope sCopy_init) [] [] f fd) : FnOk P w K mg base CX0 1 f fd ["self", "resource", "moment", "state"] (spCpInit K) := by
  refine F.ok scCopy_init (fun vs H Q E h => ?_) (fun cdv A outer s H vs Q E hr h => ?_)
  · obtain ⟨x, dx, u, v, z, rfl, _⟩ := h
    rfl
  · obtain ⟨x, dx, u, v, z, rfl, hx, kk⟩ := h
    refine ⟨_, PSs.nox (pss_cons (ps_fld (pv 0) (pv 1) rfl)
  (pss_cons (ps_fld (pv 0) (pv 2) rfl)
  (pss_one (ps_fld (pv 0) (pv 3) rfl)))), ?_⟩
    refine st_seq2 ⟨_, rfl, _, rfl, x, _, dx, _, rfl, hx, CP.cls, n1, by decide, ?_⟩
    refine st_seq2 ⟨_, rfl, _, rfl, x, _, dx, _, rfl, upd_same, CP.cls, n2, (by show (1 : Nat) < 1000; decide), ?_⟩
    refine ⟨_, rfl, _, rfl, x, _, dx, _, rfl, upd_same, CP.cls, n3, (by show (2 : Nat) < 1000; decide), ?_⟩
    rw [upd_upd, upd_upd]
    exact kk
theorem ok_Copy_in (T : TxtI mg) (CP : OwnK K (CPC K)) (ST : OwnK K (STC K)) (n3 : NoAttr K (CPC K) "state") (n1 : NoAttr K (STC K) "contents") {f : Addr} {fd : FuncData} (F : FunD K "__contains__" "Copy.__contains__" (defArgs sCopy_contains) (defBody sCopy_contains) (defScope sCopy_contains) [] [] f fd) : FnOk P w K mg base CX0 1 f fd ["self", "x"] (spCpIn K) := by
  refine F.ok scCopy_contains (fun vs H Q E h => ?_) (fun cdv A outer s H vs Q E hr h => ?_)
  · obtain ⟨a, q, ws, w, rfl, _⟩ := h
    rfl
  · obtain ⟨a, q, ws, w, rfl, hc, kk⟩ := h
    refine ⟨_, PSs.nox (pss_one (ps_ret (pe_and (pe_callB (call_isiK' (K := K)) (by rfl) T.isinstance (by decide +kernel) (pa_cons (pv 1) (pa_cons (pe_bltn (v := .ty "str") (u := .type "str") (by rfl) T.str (by decide +kernel) rfl) pa_nil))) (pe_one (pe_cmpR (op_inDict (hu_of hr)) (pv 1) (pe_fldK (K := K) (pe_fldK (K := K) (pv 0))) (by rfl)))))), ?_⟩
    obtain ⟨dx, t, st, h1, h2, dy, cd, td, h3, h4⟩ := hc
    refine ⟨_, rfl, ⟨_, _, _, _, _, rfl, .ty _, (KindOf.str w).ty, kit_knd _ .str, ⟨_, rfl, ifT rfl ⟨_, rfl, _, rfl, a, _, dx, _, _, rfl, h1, CP.cls, n3, rfl, st, _, dy, _, _, rfl, h3, ST.cls, n1, rfl, cd, _, rfl, DGet.k (k := Sum.inr w) h4, ?_⟩⟩⟩⟩
    have e : (valV (zeros ws) (.inr w)).isSome = decide (w ∈ ws) := by
      by_cases hw : w ∈ ws
      · rw [zeros_get hw, decide_eq_true hw]; rfl
      · rw [zeros_none hw, decide_eq_false hw]; rfl
    rw [e]
    exact kk
theorem ok_Copy_get (CP : OwnK K (CPC K)) (ST : OwnK K (STC K)) (n3 : NoAttr K (CPC K) "state") (n1 : NoAttr K (STC K) "contents") {f : Addr} {fd : FuncData} (F : FunD K "__getitem__" "Copy.__getitem__" (defArgs sCopy_getitem) (defBody sCopy_getitem) (defScope sCopy_getitem) [] [] f fd) (cCp_in : OwM P w K mg base (CPC K) 1 "__contains__" (spCpIn K)) : FnOk P w K mg base CX0 2 f fd ["self", "at"] (spCpGet K) := by
  refine F.ok scCopy_getitem (fun vs H Q E h => ?_) (fun cdv A outer s H vs Q E hr h => ?_)
  · obtain ⟨a, q, ws, w, rfl, _⟩ := h
    rfl
  · obtain ⟨a, q, ws, w, rfl, hc, hw, kk⟩ := h
    refine ⟨_, PSs.nox (pss_cons (ps_if (pt_cmpR (op_ownNotIn cCp_in (hr.mono (by decide))) (pv 1) (pv 0) (by rfl)) (pss_one ps_dead) pss_nil)
  (pss_one (ps_ret (pe_dget (hu_of hr) (pe_fldK (K := K) (pe_fldK (K := K) (pv 0))) (pv 1) (fun _ _ => rfl))))), ?_⟩
    obtain ⟨dx, t, st, h1, h2, dy, cd, td, h3, h4⟩ := id hc
    refine st_seq2 ⟨_, rfl, _, rfl, a, dx, _, rfl, h1, a, q, ws, w, rfl, hc, _, rfl, ?_⟩
    rw [decide_eq_true hw]
    refine ⟨_, rfl, iteF ?_⟩
    dsimp only [tNext]
    exact ⟨_, rfl, a, _, dx, _, _, rfl, h1, CP.cls, n3, rfl, st, _, dy, _, _, rfl, h3, ST.cls, n1, rfl, _, rfl, cd, _, rfl, zeros_get hw ▸ DGet.k (k := Sum.inr w) h4, kk⟩
theorem ok_Server_init (SV : OwnK K (SVC K)) (n1 : NoAttr K (SVC K) "schema") (n2 : NoAttr K (SVC K) "updates") (n3 : NoAttr K (SVC K) "states") {f : Addr} {fd : FuncData} (F : FunD K "__init__" "Server.__init__" (defArgs sServer_init) (defBody sServer_init) (defScope sServer_init) [] [] f fd) : FnOk P w K mg base CX0 1 f fd ["self", "schema"] (spSvInit K) := by
  refine F.ok scServer_init (fun vs H Q E h => ?_) (fun cdv A outer s H vs Q E hr h => ?_)
  · obtain ⟨x, dx, u, rfl, _⟩ := h
    rfl
  · obtain ⟨x, dx, u, rfl, hx, kk⟩ := h
    refine ⟨_, PSs.nox (pss_cons (ps_fld (pv 0) (pv 1) rfl)
  (pss_cons (ps_fld (pv 0) (pe_lst pa_nil) rfl)
  (pss_one (ps_fld (pv 0) pe_dnewT rfl)))), ?_⟩
    refine st_seq2 ⟨_, rfl, _, rfl, x, _, dx, _, rfl, hx, SV.cls, n1, by decide, ?_⟩
    refine st_seq2 ⟨(by show 0 ≤ sizeLine; exact Nat.zero_le _), fun L nL => ⟨_, rfl, x, _, dx, _, rfl, by rw [upd_ne (ne_of_none upd_same nL)]; exact upd_same, SV.cls, n2, (by show (1 : Nat) < 1000; decide), ?_⟩⟩
    have xL : x ≠ L := ne_of_none upd_same nL
    have nL0 : H L = none := by rw [upd_ne xL.symm] at nL; exact nL
    refine fun D nD => ⟨_, rfl, x, _, dx, _, rfl, by rw [upd_ne (ne_of_none upd_same nD)]; exact upd_same, SV.cls, n3, (by show (2 : Nat) < 1000; decide), ?_⟩
    have xD : x ≠ D := ne_of_none upd_same nD
    have hL : (upd (upd (upd H x (.ins (SVC K) dx (putF "schema" (.ref u) []))) L (.lst [])) x (.ins (SVC K) dx (putF "updates" (.ref L) (putF "schema" (.ref u) [])))) L = some (.lst []) := by rw [upd_ne xL.symm, upd_same]
    have LD : L ≠ D := ne_of_none hL nD
    have nD0 : H D = none := by rw [upd_ne xD.symm, upd_ne LD.symm, upd_ne xD.symm] at nD; exact nD
    refine kk L D _ nL0 nD0 (fun b o ne e => ?_) upd_same ?_ ?_
    · rw [upd_ne ne, upd_ne (ne_of_none e nD0), upd_ne ne, upd_ne (ne_of_none e nL0), upd_ne ne]
      exact e
    · rw [upd_ne xL.symm, upd_ne LD]
      exact hL
    · rw [upd_ne xD.symm, upd_same]
theorem ok_Server_handled (T : TxtJ mg) (SV : OwnK K (SVC K)) (n2 : NoAttr K (SVC K) "updates") {f : Addr} {fd : FuncData} (F : FunD K "handled" "Server.handled" (defArgs sServer_handled) (defBody sServer_handled) (defScope sServer_handled) [] [] f fd) : FnOk P w K mg base CX0 1 f fd ["self"] (spHandled K) := by
  refine F.ok scServer_handled (fun vs H Q E h => ?_) (fun cdv A outer s H vs Q E hr h => ?_)
  · obtain ⟨a, ks, rfl, _⟩ := h
    rfl
  · obtain ⟨a, ks, rfl, hs, kk⟩ := h
    refine ⟨_, PSs.nox (pss_one (ps_ret (pe_callB (call_lenK (K := K)) (by rfl) T.len (by decide +kernel) (pa_cons (pe_fldK (K := K) (pv 0)) pa_nil)))), ?_⟩
    obtain ⟨⟨dx, u, L, D, h1, h2, h3, h4⟩, wl⟩ := hs
    exact ⟨_, rfl, a, _, dx, _, _, rfl, h1, SV.cls, n2, rfl, L, _, rfl, .inl (SqL.of h3), kk⟩
theorem ok_Server_state_of (SV : OwnK K (SVC K)) (n1 : NoAttr K (SVC K) "schema") (n3 : NoAttr K (SVC K) "states") (KK : OwnK K (KC K)) (FK : FlK K) (hfn : ∀ f, PySem.W.findIn K (.ref (SC K)) "__getitem__" = some (some (.ref f)) → PySem.W.fnIn K f = true) {f : Addr} {fd : FuncData} (F : FunD K "state_of" "Server.state_of" (defArgs sServer_state_of) (defBody sServer_state_of) (defScope sServer_state_of) [] [] f fd) (cS_get : OwM P w K mg base (SC K) 1 "__getitem__" (spSGet K)) (cK_fields : OwM P w K mg base (KC K) 1 "fields" (spKFields K)) (cF_words : OwM P w K mg base (FC K) 1 "words" (spFWords K)) (cSt : MkC P w K mg base 1 "State" (STC K) (spStInit K) ["contents", "tallies"]) : FnOk P w K mg base CX0 3 f fd ["self", "resource"] (spStateOf K) := by
  refine F.ok scServer_state_of (fun vs H Q E h => ?_) (fun cdv A outer s H vs Q E hr h => ?_)
  · obtain ⟨a, t, ks, q, i, r, rfl, _⟩ := h
    rfl
  · obtain ⟨a, t, ks, q, i, r, rfl, hs, ht, hi, e, kk⟩ := h
    refine ⟨_, PSs.nox (pss_cons (ps_if (pt_cmpR (op_inDict (hu_of hr)) (pv 1) (pe_fldK (K := K) (pv 0)) (by rfl)) (pss_one (ps_ret (pe_dget (hu_of hr) (pe_fldK (K := K) (pv 0)) (pv 1) (fun _ _ => rfl)))) pss_nil)
  (pss_cons (ps_set (i := 2) scServer_state_of.nd rfl (Or.inl rfl) (pe_om0 (pe_ownGet (pe_fldK (K := K) (pv 0)) (pe_ix (ix_tupK (K := K)) (pv 1) pe_int (fun _ _ => rfl)) cS_get hfn (hr.mono (by decide)) (by intro _ _; with_unfolding_all rfl)) KK.cls cK_fields hr (by decide)))
  (pss_one (ps_ret (pe_mkK cSt hr (by decide) (by rfl) (pa_cons (pe_dc (own := [("word", 3)]) (g := (gName 3)) rfl scServer_state_of.nd (pi_listK (K := K) (pe_om0 (pv 2) FK.cls cF_words hr (by decide))) (blkOk_by (own := [("word", 3)]) (N := ["self", "resource", "fields", "word"]) (sc := defScope sServer_state_of) (by decide +kernel)) (fun _ _ _ _ _ => (pg_name (i := 3) scServer_state_of.nd rfl (Or.inl rfl) (hf := Or.inr rfl))) (fun _ _ _ _ _ => pts_nil) (fun _ _ _ _ _ => (pv 3)) (fun _ _ _ _ _ => pe_int)) (pa_cons pe_dnewK pa_nil))))))), ?_⟩
    obtain ⟨⟨dx, u, L, D, h1, h2, h3, h4⟩, wl⟩ := id hs
    have g0 : DGet H D (.ref t) none := DGet.t (k := [.inr q.1, .inl q.2]) h4 ht
    refine st_seq2 ⟨_, rfl, _, rfl, a, _, dx, _, _, rfl, h1, SV.cls, n3, rfl, D, _, rfl, g0, _, rfl, iteF ?_⟩
    dsimp only [tNext]
    obtain ⟨⟨du, tu, xu, hu1, _⟩, _, _⟩ := id h2
    refine st_seq2 (asg_any ⟨_, rfl, a, _, dx, _, _, rfl, h1, SV.cls, n1, rfl, _, rfl, t, _, 0, _, rfl, rfl, SqT.of ht, rfl, u, du, _, rfl, hu1, u, ks, i, r, by rw [e], h2, hi, fun y ky => ?_⟩)
    obtain ⟨dy, fy, hy1, hy2⟩ := id ky
    refine ⟨y, dy, _, rfl, hy1, rfl, y, r, rfl, ky, fun ff hf => ?_⟩
    dsimp only
    obtain ⟨⟨df, hh, hf1, hf2⟩, _, _⟩ := id hf
    refine ⟨_, rfl, ff, df, _, rfl, hf1, rfl, ff, r.2.1, rfl, hf, fun L H1 nL s1 hL => ⟨L, rfl, ⟨_, SqL.of hL⟩, fun D1 hD => dc_it (walk_list (xs := r.2.1.map V.str)) (fun i H2 => Same H1 H2 ∧ H2 D1 = some (.dK (zeros (r.2.1.take i)))) ⟨Same.new hD, upd_same⟩ (fun i H2 _ q => SqL.of (q.1 _ _ hL)) ?_ ?_⟩⟩
    · rintro i' y H2 H3 hi' ⟨s2, h2⟩ ⟨rfl, hy⟩
      rw [List.getElem?_map] at hy
      obtain ⟨z, hz, rfl⟩ := Option.map_eq_some_iff.mp hy
      refine ⟨rfl, ?_⟩
      refine ⟨_, rfl, zeros (r.2.1.take i'), Sum.inr z, rfl, h2, ?_, ?_, ?_⟩
      · rw [zeros_len]
        have := wl r (List.mem_of_getElem? hi)
        have e : sizeLine = 16777216 := sizeLine_eq
        have := List.length_take_le' i' r.2.1
        omega
      · exact fun b o e => by
          rw [upd_ne (ne_of_none e hD)]
          exact s2 b o e
      · rw [upd_same, zeros_put (not_mem_take hf.asc.nodup hz), ← take_step hz]
    · rintro H2 ⟨s2, h2⟩
      have e : r.2.1.take (r.2.1.map V.str).length = r.2.1 := by rw [List.length_map, List.take_length]
      rw [e] at h2
      refine fun T nT x dx' nx nd nn => ?_
      have nx0 : H2 x = none := by
        by_cases q : x = T
        · rw [q, upd_same] at nx; cases nx
        · rw [upd_ne q] at nx; exact nx
      have nd0 : H2 dx' = none := by
        by_cases q : dx' = T
        · rw [q, upd_same] at nd; cases nd
        · rw [upd_ne q] at nd; exact nd
      refine ⟨x, dx', _, _, rfl, upd_same, rfl, ?_⟩
      rw [upd_upd]
      have s3 : Same H2 (upd (upd (upd H2 T (.dK [])) dx' (.own x)) x (.ins (STC K) dx' [("contents", .ref D1), ("tallies", .ref T)])) := fun b o e => by
        rw [upd_ne (ne_of_none e nx0), upd_ne (ne_of_none e nd0), upd_ne (ne_of_none e nT)]
        exact e
      exact kk x _ (s1.free (s2.free nx0)) ((s1.trans s2).trans s3) ⟨dx', D1, T, upd_same, s3 _ _ h2⟩
end
end Sm
namespace Sm
open PySem PySem.Spec PyProof.Rows L2
abbrev sServer_read : Stmt := inClass (top 31) 2
theorem scServer_read : FnScope ["self", "resource", "place"] ["self", "resource"] (defScope sServer_read) := ⟨rfl, rfl, rfl, by decide +kernel, rfl, by decide +kernel, by decide +kernel⟩

abbrev sServer_latest : Stmt := inClass (top 31) 3
theorem scServer_latest : FnScope ["self", "resource"] ["self", "resource"] (defScope sServer_latest) := ⟨rfl, rfl, rfl, by decide +kernel, rfl, by decide +kernel, by decide +kernel⟩

section
variable {P : Program} {w : World} {K : PySem.W.Frag} {mg : Str → Option Value} {base : Heap}
theorem ok_Server_read (tt : mg "tuple" = none) (SV : OwnK K (SVC K)) (SS : OwnK K (SC K)) (n1 : NoAttr K (SVC K) "schema") {f : Addr} {fd : FuncData} (F : FunD K "read" "Server.read" (defArgs sServer_read) (defBody sServer_read) (defScope sServer_read) [] [] f fd) (rB : RzM P w K mg base "BadResource" (He.ga K "BadResource") "resource") (cS_isres : OwM P w K mg base (SC K) 5 "is_resource" (spSIsRes K)) (cSv_handled : PropM P w K mg base (SVC K) 1 "handled" (spHandled K)) (cSv_state : OwM P w K mg base (SVC K) 3 "state_of" (spStateOf K)) (cCp : MkC P w K mg base 1 "Copy" (CPC K) (spCpInit K) ["resource", "moment", "state"]) : FnOk P w K mg base (L2.CX P w) 6 f fd ["self", "resource"] (spReadX K) := by
  refine F.ok scServer_read (fun vs H Q E h => ?_) (fun cdv A outer s H vs Q E hr h => ?_)
  · obtain ⟨a, ks, v, d, rfl, _⟩ := h
    rfl
  · obtain ⟨a, ks, v, d, rfl, hs, hd, sh, h⟩ := h
    refine ⟨_, (pss_cons (ps_if (pt_not (pt_truth (pe_om (pe_fldK (K := K) (pv 0)) SS.cls cS_isres hr (by decide) (pa_cons (pv 1) pa_nil)) (by intro _; rfl))) (pss_one (ps_raise1 rB hr (by decide) (by rfl) rfl (takes_of rfl rfl rfl rfl) (pa_cons (pv 1) pa_nil))) pss_nil)
  (pss_cons (ps_set (i := 2) scServer_read.nd rfl (Or.inl rfl) (pe_callTy (call_tupleK (K := K)) (by rfl) tt (by decide +kernel) (pa_cons (pv 1) pa_nil)))
  (pss_one (ps_ret (pe_mkK cCp hr (by decide) (by rfl) (pa_cons (pv 2) (pa_cons (pe_propO cSv_handled SV.cls hr (by decide) (pv 0)) (pa_cons (pe_om (pv 0) SV.cls cSv_state hr (by decide) (pa_cons (pv 2) pa_nil)) pa_nil)))))))), ?_⟩
    obtain ⟨⟨dx, u, L, D, h1, h2, h3, h4⟩, wl⟩ := id hs
    refine st_seq2 ⟨_, rfl, a, _, dx, _, _, rfl, h1, SV.cls, n1, rfl, ?_⟩
    obtain ⟨⟨du, tu, xu, hu1, _⟩, _, _⟩ := id h2
    refine ⟨u, du, _, rfl, hu1, rfl, _, rfl, u, ks, v, d, rfl, h2, hd, sh, fun H1 s1 => ⟨_, rfl, ?_⟩⟩
    rcases h with ⟨q, i, r, eq, hi, er, kk⟩ | ⟨eq, out⟩
    · rw [eq]
      refine iteF ?_
      dsimp only [tNext]
      obtain ⟨x, n⟩ := q
      obtain ⟨ep, wx, n0⟩ := rpD_pair (resD_row eq).1
      obtain ⟨b, y, z, rfl, ha, hx, hy⟩ := (hd.on s1).pair ep
      cases hx
      cases hy
      have last : ∀ (t : Addr) (H2 : Hp), Same H H2 → H2 t = some (.tup [.str x, .int n]) → (tRet (tMk (CPC K) (spCpInit K) (tCons (tVar 2) (tCons (tProp (SVC K) (spHandled K) [] E0 (tVar 0)) (tCons (tMeth (SVC K) "state_of" (spStateOf K) [] E0 (tVar 0) (tCons (tVar 2) tNil)) tNil))))) { nx := fun _ H' => Q .non H', rt := Q } [some (.ref a), some (.ref b), some (.ref t)] H2 := fun t H2 s2 ht => by
        have hs2 := hs.on s2
        have h12 := s2 _ _ h1
        refine ⟨_, rfl, _, rfl, a, dx, _, rfl, h12, a, ks, rfl, hs2, _, rfl, a, dx, _, rfl, h12, rfl, _, rfl, a, t, ks, (x, n), i, r, rfl, hs2, ht, hi, er, fun st H3 nst s3 hst => fun c dc nc ndc nn => ⟨c, dc, _, _, _, rfl, upd_same, rfl, ?_⟩⟩
        rw [upd_upd]
        have s4 : Same H3 (upd (upd H3 dc (.own c)) c (.ins (CPC K) dc [("resource", .ref t), ("moment", .int 0), ("state", .ref st)])) := fun b o e => by
          rw [upd_ne (ne_of_none e nc), upd_ne (ne_of_none e ndc)]
          exact e
        have s24 := (s2.trans s3).trans s4
        refine kk c _ ((s2.trans s3).free nc) s24 ⟨dc, t, st, upd_same, s4 _ _ (s3 _ _ ht), hst.on s4⟩
      rcases ha with ha | ha
      · refine st_seq2 (asg_any ⟨_, rfl, b, _, rfl, .inl ⟨SqL.of ha, fun t nt => ?_⟩⟩)
        exact last t _ (s1.trans (Same.new nt)) upd_same
      · refine st_seq2 (asg_any ⟨_, rfl, b, _, rfl, .inr ⟨SqT.of ha, ?_⟩⟩)
        exact last b _ s1 ha
    · rw [eq]
      exact iteT ⟨_, rfl, mk1_ok fun d nd => out d _ (s1.free nd) (s1.trans (Same.new nd)) upd_same⟩
theorem ok_Server_latest (SV : OwnK K (SVC K)) {f : Addr} {fd : FuncData} (F : FunD K "latest" "Server.latest" (defArgs sServer_latest) (defBody sServer_latest) (defScope sServer_latest) [] [] f fd) (cSv_readX : OwMX P w K mg base (SVC K) 6 "read" (spReadX K)) : FnOk P w K mg base (L2.CX P w) 7 f fd ["self", "resource"] (spReadX K) := by
  refine F.ok scServer_latest (fun vs H Q E h => ?_) (fun cdv A outer s H vs Q E hr h => ?_)
  · obtain ⟨a, ks, v, d, rfl, _⟩ := h
    rfl
  · obtain ⟨a, ks, v, d, rfl, hs, hd, sh, h⟩ := h
    refine ⟨_, (pss_one (ps_ret (pe_omX (pv 0) SV.cls cSv_readX hr (by decide) (takes_of rfl rfl rfl rfl) (pa_cons (pv 1) pa_nil)))), ?_⟩
    obtain ⟨⟨dx, u, L, D, h1, h2, h3, h4⟩, wl⟩ := id hs
    exact ⟨_, rfl, a, dx, _, rfl, h1, rfl, _, rfl, a, ks, v, d, rfl, hs, hd, sh, h⟩
end
end Sm
/-! what `_law_tried` makes of what it asks -/
namespace Sm
open PySem PySem.Spec PyProof.Rows L2
/-- the ways out: (class, its field, the word that it is told with) -/
def EchT (K : PySem.W.Frag) (Q : VK) : List (Addr × Str × Str) → XK
  | [] => fun _ _ _ => False
  | q :: r => fun k d G => ∃ fits : Bool, PySem.W.exmOne K k (.ref q.1) = some fits ∧ (fits = true → ∃ dd fs v, k = .ref q.1 ∧ d = some dd ∧ G dd = some (.xd fs) ∧ fs.lookup q.2.1 = some v ∧ ∀ T, G T = none → Q (.ref T) (upd G T (.tup [.str q.2.2, v]))) ∧
      (fits = false → EchT K Q r k d G)
def TTried (K : PySem.W.Frag) (good : Str) (l : List (Addr × Str × Str)) : (XK → Hp → VK → Prop) → Hp → VK → Prop := fun tl H Q => ∀ T0, H T0 = none →
  tl (EchT K Q l) (upd H T0 (.tup [.str "odd"])) fun v H' => ∀ T, H' T = none → Q (.ref T) (upd H' T (.tup [.str good, v]))
/-- the slots are as many as the names -/
theorem takes_len {X : Cx} {W : WX} (tk : Takes X W) : Takes X (fun k d τ G => τ.length = X.N.length → W k d τ G) := by
  rintro u t ⟨a, B, tI, pins, τ, G, k, d, e, J, h1, h2, h3, h4, h5, h6, w⟩
  exact tk u t ⟨a, B, tI, pins, τ, G, k, d, e, J, h1, h2, h3, h4, h5, h6, w J.len⟩
/-- an expression's reading, its wish made weaker -/
theorem PE.up {X : Cx} {e : Expr} {t : TE} (h : PE X e t) : PE X e (fun σ H Q => ∃ Q0 : VK, t σ H Q0 ∧ ∀ v H', Q0 v H' → Q v H') := ⟨fun pins s σ H Q I ⟨Q0, q, up⟩ => thn (h.run pins s σ H Q0 I q) fun u s' got => by
  obtain ⟨v, H', J, rv, q'⟩ := got
  exact ⟨v, H', J, rv, up v H' q'⟩⟩
end Sm
/-! what a catalog tells -/
namespace Sm
open PySem PySem.Spec PyProof.Rows L2
def spIsTold (K : PySem.W.Frag) : Sp := fun vs H Q _ => ∃ (a LK LS : Addr) (ks : List Row) (ts : List Sheet) (Z : Addr → Prop), vs = [.ref a, .ref LK, .ref LS] ∧ CatO K H a ks ts ∧ RowsAt H LK ks ∧ OkK ks ∧ Dat Z H (.ref LS) (.list (sheetsD ts)) ∧ OkS ks ts ∧ (∀ t ∈ ts, t.1 ∈ allWords) ∧ ∀ H', Same H H' → Q (.bl true) H'
mutual
theorem fits_mono : ∀ (d : PyData) (n m : Nat), n ≤ m → fits d n = true → fits d m = true
  | .none, _, _, _, _ => by unfold fits; rfl
  | .bool _, _, _, _, _ => by unfold fits; rfl
  | .int _, _, _, _, _ => by unfold fits; rfl
  | .str x, _, _, _, h => by unfold fits at h ⊢; exact h
  | .list _, 0, _, _, h => by unfold fits at h; cases h
  | .list ds, n + 1, 0, l, _ => absurd l (by omega)
  | .list ds, n + 1, m + 1, l, h => by
    unfold fits at h ⊢
    obtain ⟨h1, h2⟩ := Bool.and_eq_true_iff.mp h
    rw [h1, Bool.true_and]
    exact fitsAll_mono ds n m (by omega) h2
  | .tuple _, 0, _, _, h => by unfold fits at h; cases h
  | .tuple ds, n + 1, 0, l, _ => absurd l (by omega)
  | .tuple ds, n + 1, m + 1, l, h => by
    unfold fits at h ⊢
    obtain ⟨h1, h2⟩ := Bool.and_eq_true_iff.mp h
    rw [h1, Bool.true_and]
    exact fitsAll_mono ds n m (by omega) h2
  | .dict _, _, _, _, h => by unfold fits at h; cases h
theorem fitsAll_mono : ∀ (ds : List PyData) (n m : Nat), n ≤ m → fitsAll ds n = true → fitsAll ds m = true
  | [], _, _, _, _ => by unfold fitsAll; rfl
  | d :: ds, n, m, l, h => by
    unfold fitsAll at h ⊢
    obtain ⟨h1, h2⟩ := Bool.and_eq_true_iff.mp h
    rw [fits_mono d n m l h1, Bool.true_and]
    exact fitsAll_mono ds n m l h2
end
theorem all_true {α : Type} (l : List α) : (l.map fun _ => true).all id = true := by
  rw [List.all_map, List.all_eq_true]
  exact fun _ _ => rfl
theorem any_false {α : Type} (l : List α) : (l.map fun _ => false).any id = false := by
  rw [List.any_map, List.any_eq_false]
  exact fun _ _ h => by cases h
/-- covers of a row that a law tries -/
structure CovO (k : Row) (r : VRow) (o : List Str) : Prop where
  asc : AscS o
  sub : ∀ w ∈ o, w ∈ k.2.1
  or_ : (∀ w ∈ o, w ∈ r.2.1) ∨ o = k.2.1
  len : o.length ≤ 10
def spCovers : Sp := fun vs H Q _ => ∃ (LK T : Addr) (ks : List Row) (Z : Addr → Prop) (i : Nat) (k : Row) (r : VRow), vs = [.ref LK, .ref T] ∧ RowsAt H LK ks ∧ OkK ks ∧ Dat Z H (.ref T) (vrow r) ∧ ks[i]? = some k ∧ r.1 = k.1 ∧ AscV r ∧ (∀ w ∈ r.2.1, w ∈ k.2.1) ∧
  ∀ L ys (os : List (List Str)) H', H L = none → Same H H' → H' L = some (.lst ys) → Dats (New H) H' ys (os.map fun o => .list (sds o)) → (∀ o ∈ os, CovO k r o) → os.length ≤ 20 → Q (.ref L) H'
end Sm
/-! things with the lists that are theirs alone; what stays where tables grow -/
namespace Sm
open PySem PySem.Spec PyProof.Rows L2
mutual
inductive DatC (H : Hp) : V → PyData → List Addr → Prop
  | non : DatC H .non .none []
  | bl (b : Bool) : DatC H (.bl b) (.bool b) []
  | int (i : Int) : DatC H (.int i) (.int i) []
  | str (x : Str) : DatC H (.str x) (.str x) []
  | lst {a : Addr} {xs : List V} {ds : List PyData} {cs : List Addr} : H a = some (.lst xs) → DatsC H xs ds cs → DatC H (.ref a) (.list ds) (a :: cs)
  | tup {a : Addr} {xs : List V} {ds : List PyData} {cs : List Addr} : H a = some (.tup xs) → DatsC H xs ds cs → DatC H (.ref a) (.tuple ds) cs
inductive DatsC (H : Hp) : List V → List PyData → List Addr → Prop
  | nil : DatsC H [] [] []
  | cons {v : V} {d : PyData} {c1 : List Addr} {vs : List V} {ds : List PyData} {c2 : List Addr} : DatC H v d c1 → DatsC H vs ds c2 → DatsC H (v :: vs) (d :: ds) (c1 ++ c2)
end
inductive ThC (H : Hp) : V → PyData → List Addr → Prop
  | dat {v : V} {d : PyData} {cs : List Addr} : DatC H v d cs → ThC H v d cs
  | dic {a : Addr} : H a = some (.dK []) → ThC H (.ref a) (.dict []) []
inductive ThsC (H : Hp) : List V → List PyData → List Addr → Prop
  | nil : ThsC H [] [] []
  | cons {v : V} {d : PyData} {c1 : List Addr} {vs : List V} {ds : List PyData} {c2 : List Addr} : ThC H v d c1 → ThsC H vs ds c2 → ThsC H (v :: vs) (d :: ds) (c1 ++ c2)
mutual
theorem DatC.go {H H' : Hp} (ht : ∀ a xs, H a = some (.tup xs) → H' a = some (.tup xs)) : ∀ (d : PyData) (v : V) (cs : List Addr), (∀ a ∈ cs, ∀ xs, H a = some (.lst xs) → H' a = some (.lst xs)) → DatC H v d cs → DatC H' v d cs
  | .none, _, _, _, h => by cases h; exact .non
  | .bool b, _, _, _, h => by cases h; exact .bl b
  | .int i, _, _, _, h => by cases h; exact .int i
  | .str x, _, _, _, h => by cases h; exact .str x
  | .list ds, _, _, hl, h => by
    cases h with
    | lst e q => exact .lst (hl _ (List.mem_cons_self ..) _ e) (DatsC.go ht ds _ _ (fun a m => hl a (List.mem_cons_of_mem _ m)) q)
  | .tuple ds, _, _, hl, h => by
    cases h with
    | tup e q => exact .tup (ht _ _ e) (DatsC.go ht ds _ _ hl q)
  | .dict _, _, _, _, h => by cases h
theorem DatsC.go {H H' : Hp} (ht : ∀ a xs, H a = some (.tup xs) → H' a = some (.tup xs)) : ∀ (ds : List PyData) (vs : List V) (cs : List Addr), (∀ a ∈ cs, ∀ xs, H a = some (.lst xs) → H' a = some (.lst xs)) → DatsC H vs ds cs → DatsC H' vs ds cs
  | [], _, _, _, h => by cases h; exact .nil
  | d :: ds, _, _, hl, h => by
    cases h with
    | cons a b => exact .cons (DatC.go ht d _ _ (fun x m => hl x (List.mem_append_left _ m)) a) (DatsC.go ht ds _ _ (fun x m => hl x (List.mem_append_right _ m)) b)
end
/-- the tuples and the lists cs stay, dicts too -/
def Kp (cs : List Addr) (H H' : Hp) : Prop := ∀ b o, H b = some o → (∀ ps, o ≠ .tbl ps) → (b ∉ cs → ∀ xs, o ≠ .lst xs) → H' b = some o
theorem ThC.go {H H' : Hp} {v : V} {d : PyData} {cs cs' : List Addr} (h : ThC H v d cs) (k : Kp cs' H H') (s : ∀ a ∈ cs, a ∈ cs') : ThC H' v d cs := by
  cases h with
  | dat h => exact .dat (DatC.go (fun a xs e => k a _ e (fun _ z => by cases z) (fun _ _ z => by cases z)) _ _ _ (fun a m xs e => k a _ e (fun _ z => by cases z) (fun q => absurd (s a m) q)) h)
  | dic e => exact .dic (k _ _ e (fun _ z => by cases z) (fun _ _ z => by cases z))
theorem ThsC.go {H H' : Hp} {cs' : List Addr} (k : Kp cs' H H') : ∀ {vs : List V} {ds : List PyData} {cs : List Addr}, (∀ a ∈ cs, a ∈ cs') → ThsC H vs ds cs → ThsC H' vs ds cs
  | _, _, _, _, .nil => .nil
  | _, _, _, s, .cons a b => .cons (a.go k fun x m => s x (List.mem_append_left _ m)) (ThsC.go k (fun x m => s x (List.mem_append_right _ m)) b)
theorem Kp.of_same {cs : List Addr} {H H' : Hp} (e : Same H H') : Kp cs H H' := fun b o h _ _ => e b o h
theorem Kp.of_ext {cs : List Addr} {H H' : Hp} (e : LamX.ExtN H H') : Kp cs H H' := fun b o h n _ => e b o h n
theorem Kp.of_off {cs : List Addr} {H H' : Hp} {p : Addr} (e : Off p H H') (n : p ∉ cs) (hp : ∃ xs, H p = some (.lst xs)) : Kp cs H H' := fun b o h _ q => e b o (fun z => by
  obtain ⟨xs, hx⟩ := hp
  rw [z, hx] at h
  cases h
  exact q (by rw [z]; exact n) xs rfl) h
theorem Kp.put {cs : List Addr} {H : Hp} {a : Addr} {xs ys : List V} (h : H a = some (.lst xs)) (n : a ∉ cs) : Kp cs H (upd H a (.lst ys)) := fun b o e _ q => by
  by_cases z : b = a
  · rw [z, h] at e
    cases e
    exact absurd rfl (q (by rw [z]; exact n) xs)
  · rw [upd_ne z]; exact e
mutual
theorem DatC.dat {H : Hp} : ∀ (d : PyData) (v : V) (cs : List Addr), DatC H v d cs → Dat (fun _ => True) H v d
  | .none, _, _, h => by cases h; exact .non
  | .bool b, _, _, h => by cases h; exact .bl b
  | .int i, _, _, h => by cases h; exact .int i
  | .str x, _, _, h => by cases h; exact .str x
  | .list ds, _, _, h => by
    cases h with
    | lst e q => exact .lst trivial e (DatsC.dats ds _ _ q)
  | .tuple ds, _, _, h => by
    cases h with
    | tup e q => exact .tup e (DatsC.dats ds _ _ q)
  | .dict _, _, _, h => by cases h
theorem DatsC.dats {H : Hp} : ∀ (ds : List PyData) (vs : List V) (cs : List Addr), DatsC H vs ds cs → Dats (fun _ => True) H vs ds
  | [], _, _, h => by cases h; exact .nil
  | d :: ds, _, _, h => by
    cases h with
    | cons a b => exact .cons (DatC.dat d _ _ a) (DatsC.dats ds _ _ b)
end
theorem ThC.thg {H : Hp} {v : V} {d : PyData} {cs : List Addr} (h : ThC H v d cs) : Thg H v d := by
  cases h with
  | dat h => exact .inl (DatC.dat _ _ _ h)
  | dic e => exact .inr ⟨rfl, _, rfl, e⟩
def fitT : PyData → Bool
  | .dict [] => true
  | d => fits d 5
def okT (d : PyData) : Bool := shortD d && fitT d
/-- the thing is like itself -/
theorem Thg.same {H : Hp} {v : V} {d : PyData} {n : Nat} (h : Thg H v d) (f : fitT d = true) (hn : 5 ≤ n) : SameB H (n + 1) v v true := by
  rcases h with h | ⟨rfl, a, rfl, e⟩
  · refine same_dat d n v v ?_ h h
    cases h <;> exact fits_mono _ 5 n hn f
  · exact .dic e (fun p hp => by cases hp) (fun p hp => by cases hp)
/-! ### where tables grow -/
theorem Dr.en {H H' : Hp} {p c : Addr} (d : Dr H p c) (e : LamX.ExtN H H') : Dr H' p c := let ⟨ns, n, l, m, D⟩ := d; ⟨ns, n, l, m, ⟨e _ _ D.st (fun _ z => by cases z), e _ _ D.ce (fun _ z => by cases z), D.sz⟩⟩
theorem RowAt.en {H H' : Hp} {t : Addr} {r : Row} (h : RowAt H t r) (e : LamX.ExtN H H') : RowAt H' t r := by
  obtain ⟨c, h1, h2⟩ := h
  exact ⟨c, e _ _ h1 (fun _ z => by cases z), e _ _ h2 (fun _ z => by cases z)⟩
theorem RowsAt.en {H H' : Hp} {L : Addr} {rs : List Row} (h : RowsAt H L rs) (e : LamX.ExtN H H') : RowsAt H' L rs := by
  obtain ⟨ts, h1, h2, h3⟩ := h
  exact ⟨ts, e _ _ h1 (fun _ z => by cases z), h2, fun i t r ht hr => (h3 i t r ht hr).en e⟩
theorem Fl.en {K : PySem.W.Frag} {H H' : Hp} {a : Addr} {ws : List Str} (h : Fl K H a ws) (e : LamX.ExtN H H') : Fl K H' a ws := by
  obtain ⟨⟨dx, d, h1, h2⟩, b, c⟩ := h
  exact ⟨⟨dx, d, e _ _ h1 (fun _ z => by cases z), e _ _ h2 (fun _ z => by cases z)⟩, b, c⟩
theorem KindO.en {K : PySem.W.Frag} {H H' : Hp} {a : Addr} {r : Row} (h : KindO K H a r) (e : LamX.ExtN H H') : KindO K H' a r := by
  obtain ⟨dy, f, h1, h2⟩ := h
  exact ⟨dy, f, e _ _ h1 (fun _ z => by cases z), h2.en e⟩
theorem SchO.en {K : PySem.W.Frag} {H H' : Hp} {a : Addr} {rs : List Row} (h : SchO K H a rs) (e : LamX.ExtN H H') : SchO K H' a rs := by
  obtain ⟨⟨dx, t, xs, h1, h2, h3, h4⟩, b, c⟩ := h
  exact ⟨⟨dx, t, xs, e _ _ h1 (fun _ z => by cases z), e _ _ h2 (fun _ z => by cases z), h3, fun i x r hx hr => (h4 i x r hx hr).en e⟩, b, c⟩
theorem StO.en {K : PySem.W.Frag} {H H' : Hp} {a : Addr} {ws : List Str} (h : StO K H a ws) (e : LamX.ExtN H H') : StO K H' a ws := by
  obtain ⟨dy, cd, td, h1, h2⟩ := h
  exact ⟨dy, cd, td, e _ _ h1 (fun _ z => by cases z), e _ _ h2 (fun _ z => by cases z)⟩
theorem CpO.en {K : PySem.W.Frag} {H H' : Hp} {a : Addr} {q : Str × Int} {ws : List Str} (h : CpO K H a q ws) (e : LamX.ExtN H H') : CpO K H' a q ws := by
  obtain ⟨dx, t, st, h1, h2, h3⟩ := h
  exact ⟨dx, t, st, e _ _ h1 (fun _ z => by cases z), e _ _ h2 (fun _ z => by cases z), h3.en e⟩
theorem SvO.en {K : PySem.W.Frag} {H H' : Hp} {a : Addr} {ks : List Row} (h : SvO K H a ks) (e : LamX.ExtN H H') : SvO K H' a ks := by
  obtain ⟨⟨dx, s, L, D, h1, h2, h3, h4⟩, wl⟩ := h
  exact ⟨⟨dx, s, L, D, e _ _ h1 (fun _ z => by cases z), h2.en e, e _ _ h3 (fun _ z => by cases z), e _ _ h4 (fun _ z => by cases z)⟩, wl⟩
/-! ### promises -/
def spIsResL : Sp := fun vs H Q _ => ∃ LK ks v d, vs = [.ref LK, v] ∧ RowsAt H LK ks ∧ (∀ r ∈ ks, wordB r.1 = true) ∧ ks.length ≤ 4 ∧ Thg H v d ∧ ∀ H', Same H H' → Q (.bl (resD ks d).isSome) H'
def spThings : Sp := fun vs H Q _ => ∃ (p c LK : Addr) (ks : List Row), vs = [.ref p, .ref LK] ∧ Dr H p c ∧ RowsAt H LK ks ∧ 1 ≤ ks.length ∧ ks.length ≤ 4 ∧ (∀ r ∈ ks, wordB r.1 = true) ∧
  ∀ L xs (ds : List PyData) (cs : List Addr) H', H L = none → Off p H H' → Dr H' p c → H' L = some (.lst xs) → ThsC H' xs ds cs → cs.Nodup → (∀ a ∈ cs, H a = none ∧ a ≠ L) → (∀ d ∈ ds, okT d = true) → ds.length ≤ 100 → Q (.ref L) H'
theorem tup_ok {Q : Addr → Hp → Prop} {xs : List V} {H1 : Hp} (hz : xs.length ≤ 1000) (k : ∀ p H', H1 p = none → Same H1 H' → H' p = some (.tup xs) → Q p H') : xs.length ≤ sizeLine ∧ ∀ p, H1 p = none → Q p (upd H1 p (.tup xs)) :=
  ⟨Nat.le_trans hz (by decide), fun p hp => k p _ hp (Same.new hp) upd_same⟩
theorem new_ok {Q : Addr → Hp → Prop} {o : HO} {H1 : Hp} (k : ∀ p H', H1 p = none → Same H1 H' → H' p = some o → Q p H') : ∀ p, H1 p = none → Q p (upd H1 p o) := fun p hp => k p _ hp (Same.new hp) upd_same
theorem Off.free' {H G : Hp} {p c a : Addr} (e : Off p H G) (D : Dr G p c) (h : G a = none) : H a = none := by
  cases q : H a with
  | none => rfl
  | some o =>
    have := e a o (D.ne h) q
    rw [h] at this
    cases this
theorem app_le {x y : Str} {m n : Nat} (h : x.length ≤ m) (g : y.length ≤ n) : (x ++ y).length ≤ m + n := by
  have e : (x ++ y).length = x.length + y.length := by
    show (x ++ y).cps.size = x.cps.size + y.cps.size
    exact Array.size_append ..
  omega
theorem strOk_app {x y : Str} (h : PyData.strOk x = true) (g : PyData.strOk y = true) : PyData.strOk (x ++ y) = true := by
  unfold PyData.strOk at h g ⊢
  have e : (x ++ y).cps = x.cps ++ y.cps := rfl
  rw [e, Array.all_append, h, g]
  rfl
theorem okT_of {d : PyData} (s : shortD d = true) (f : fits d 5 = true) : okT d = true := by
  unfold okT
  rw [s]
  cases d with
  | dict kvs => unfold fits at f; cases f
  | _ => exact f
theorem okT_short {d : PyData} (h : okT d = true) : shortD d = true := (Bool.and_eq_true_iff.mp h).1
theorem okT_fits {d : PyData} (h : okT d = true) : fitT d = true := (Bool.and_eq_true_iff.mp h).2
end Sm
namespace Sm
open PySem PySem.Spec PyProof.Rows L2
abbrev s_law_things : Stmt := top 45
theorem sc_law_things : FnScope ["_law_state", "_law_kind_rows", "_law_every", "_law_called", "_law_number", "_law_found", "_law_kind"] ["_law_state", "_law_kind_rows"] (defScope s_law_things) := ⟨rfl, rfl, rfl, by decide +kernel, rfl, by decide +kernel, by decide +kernel⟩

abbrev s_law_is_resource : Stmt := top 46
theorem sc_law_is_resource : FnScope ["_law_kind_rows", "_law_x", "_law_kind"] ["_law_kind_rows", "_law_x"] (defScope s_law_is_resource) := ⟨rfl, rfl, rfl, by decide +kernel, rfl, by decide +kernel, by decide +kernel⟩

structure TxtL (mg : Str → Option Value) : Prop where
  isinstance : mg "isinstance" = none
  list : mg "list" = none
  tuple : mg "tuple" = none
  str : mg "str" = none
  len : mg "len" = none
  int : mg "int" = none
  bool : mg "bool" = none
  any : mg "any" = none
section
variable {P : Program} {w : World} {K : PySem.W.Frag} {mg : Str → Option Value} {base : Heap}
theorem ok_is_resourceL (T : TxtL mg) {f : Addr} {fd : FuncData} (F : FnP K "_law_is_resource" s_law_is_resource f fd) : FnOk P w K mg base CX0 1 f fd ["_law_kind_rows", "_law_x"] spIsResL := by
  refine F.ok sc_law_is_resource (fun vs H Q E h => ?_) (fun cdv A outer s H vs Q E hr h => ?_)
  · obtain ⟨LK, ks, v, d, rfl, _⟩ := h
    rfl
  · obtain ⟨LK, ks, v, d, rfl, ra, wk, l4, hd, kk⟩ := h
    refine ⟨_, PSs.nox (pss_cons (ps_if (PW.pt (pw_or (pt_not (pt_val (pe_callB (call_isiTK (K := K)) (by rfl) T.isinstance (by decide +kernel) (pa_cons (pv 1) (pa_cons (pe_tup (pa_cons (pe_bltn (v := .ty "list") (u := .type "list") (by rfl) T.list (by decide +kernel) rfl) (pa_cons (pe_bltn (v := .ty "tuple") (u := .type "tuple") (by rfl) T.tuple (by decide +kernel) rfl) pa_nil))) pa_nil))))) (pw_or (pt_cmpR op_ne (pe_callB (call_lenK (K := K)) (by rfl) T.len (by decide +kernel) (pa_cons (pv 1) pa_nil)) pe_int (nomark _)) (pw_or1 (pt_not (pt_val (pe_callB (call_isiK' (K := K)) (by rfl) T.isinstance (by decide +kernel) (pa_cons (pe_ix (ix_both (K := K)) (pv 1) pe_int (fun _ _ => rfl)) (pa_cons (pe_bltn (v := .ty "str") (u := .type "str") (by rfl) T.str (by decide +kernel) rfl) pa_nil))))))))) (pss_one (ps_ret pe_bl)) pss_nil)
  (pss_cons (ps_if (PW.pt (pw_or (pt_not (pt_val (pe_callB (call_isiK' (K := K)) (by rfl) T.isinstance (by decide +kernel) (pa_cons (pe_ix (ix_both (K := K)) (pv 1) pe_int (fun _ _ => rfl)) (pa_cons (pe_bltn (v := .ty "int") (u := .type "int") (by rfl) T.int (by decide +kernel) rfl) pa_nil))))) (pw_or (pt_val (pe_callB (call_isiK' (K := K)) (by rfl) T.isinstance (by decide +kernel) (pa_cons (pe_ix (ix_both (K := K)) (pv 1) pe_int (fun _ _ => rfl)) (pa_cons (pe_bltn (v := .ty "bool") (u := .type "bool") (by rfl) T.bool (by decide +kernel) rfl) pa_nil)))) (pw_or1 (pt_cmpR op_lt (pe_ix (ix_both (K := K)) (pv 1) pe_int (fun _ _ => rfl)) pe_int (nomark _)))))) (pss_one (ps_ret pe_bl)) pss_nil)
  (pss_one (ps_ret (pe_callB (call_anyK (K := K) rfl) (by rfl) T.any (by decide +kernel) (pa_cons (pe_lc (own := [("_law_kind", 2)]) (g := (gName 2)) rfl sc_law_is_resource.nd (pi_listK (K := K) (pv 0)) (blkOk_by (own := [("_law_kind", 2)]) (N := ["_law_kind_rows", "_law_x", "_law_kind"]) (sc := defScope s_law_is_resource) (by decide +kernel)) (fun _ _ _ _ _ => (pg_name (i := 2) sc_law_is_resource.nd rfl (Or.inl rfl) (hf := Or.inr rfl))) (fun _ _ _ _ _ => pts_nil) (fun _ _ _ _ _ => (pe_and (pe_cmpR op_eq (pe_ix (ix_tupK (K := K)) (pv 2) pe_int (fun _ _ => rfl)) (pe_ix (ix_both (K := K)) (pv 1) pe_int (fun _ _ => rfl)) (nomark _)) (pe_one (pe_not (pe_and (pe_ix (ix_tupK (K := K)) (pv 2) pe_int (fun _ _ => rfl)) (pe_one (pe_cmpR op_gt (pe_ix (ix_both (K := K)) (pv 1) pe_int (fun _ _ => rfl)) pe_int (nomark _))))))))) pa_nil)))))), ?_⟩
    refine st_seq2 ⟨_, rfl, (by show 2 ≤ sizeLine; decide), fun tp htp => ⟨_, _, _, _, _, _, rfl, upd_same, cls_all [.lst, .tup], (hd.kind.on (Same.new htp)).ty, kit_any _ [.lst, .tup], ⟨_, rfl, ?_⟩⟩⟩
    have s1 : Same H (upd H tp (.tup [.ty "list", .ty "tuple"])) := Same.new htp
    have hd1 := hd.on s1
    show (if (!isiAny (kD d) [.lst, .tup]) = true then _ else _ : Prop)
    generalize upd H tp (.tup [.ty "list", .ty "tuple"]) = H1 at *
    have noneK : ∀ {d : PyData}, pairD d = none → resD ks d = none := fun e => by unfold resD rpD; rw [e]
    have seq : (isiAny (kD d) [.lst, .tup] = false ∧ pairD d = none) ∨ isiAny (kD d) [.lst, .tup] = true ∧ ∃ a xs ds, v = .ref a ∧ (H1 a = some (.lst xs) ∨ H1 a = some (.tup xs)) ∧ Dats (fun _ => True) H1 xs ds ∧ (d = .list ds ∨ d = .tuple ds) := by
      rcases hd1 with h | ⟨rfl, _⟩
      · cases h with
        | lst z e q => exact .inr ⟨rfl, _, _, _, rfl, .inl e, q, .inl rfl⟩
        | tup e q => exact .inr ⟨rfl, _, _, _, rfl, .inr e, q, .inr rfl⟩
        | _ => exact .inl ⟨rfl, rfl⟩
      · exact .inl ⟨rfl, rfl⟩
    rcases seq with ⟨e1, e2⟩ | ⟨e1, a, xs, ds, rfl, sq, q, hds⟩
    · rw [e1]
      rw [noneK e2] at kk
      exact iteT (kk _ s1)
    · rw [e1]
      refine iteF ⟨_, rfl, a, xs, rfl, sq.imp SqL.of SqT.of, rfl, _, rfl, ?_⟩
      have el : decide (V.int (xs.length : Nat) = V.int 2) = decide (ds.length = 2) := by
        rw [q.len]
        exact decide_eq_decide.mpr ⟨fun z => by injection z with z; omega, fun z => by rw [z]; rfl⟩
      rw [el]
      by_cases h2 : ds.length = 2
      · rw [decide_eq_true h2]
        obtain ⟨x, y, rfl⟩ : ∃ x y, ds = [x, y] := by
          match ds, h2 with
          | [x, y], _ => exact ⟨x, y, rfl⟩
        obtain ⟨u, u2, rfl⟩ : ∃ u u2, xs = [u, u2] := by
          have l2 := q.len
          match xs, l2 with
          | [u, u2], _ => exact ⟨u, u2, rfl⟩
        have hx : Dat (fun _ => True) H1 u x := by cases q with | cons a b => exact a
        have hy : Dat (fun _ => True) H1 u2 y := by cases q with | cons a b => cases b with | cons a b => exact a
        have ep : pairD d = some (x, y) := by rcases hds with rfl | rfl <;> rfl
        have i0 : ∀ (H' : Hp) (Q : VK), Same H1 H' → Q u H' → rIxE K (.ref a) (.int 0) H' Q := fun H' Q s q => ⟨a, _, 0, u, rfl, rfl, sq.imp (fun z => SqL.of (s _ _ z)) (fun z => SqT.of (s _ _ z)), rfl, q⟩
        have i1 : ∀ (H' : Hp) (Q : VK), Same H1 H' → Q u2 H' → rIxE K (.ref a) (.int 1) H' Q := fun H' Q s q => ⟨a, _, 1, u2, rfl, rfl, sq.imp (fun z => SqL.of (s _ _ z)) (fun z => SqT.of (s _ _ z)), rfl, q⟩
        have kx : KindOf H1 u (kD x) := (show Thg H1 u x from .inl hx).kind
        have ky : KindOf H1 u2 (kD y) := (show Thg H1 u2 y from .inl hy).kind
        refine iteF ⟨_, rfl, i0 _ _ (fun _ _ e => e) (⟨_, _, _, _, _, rfl, .ty _, (kx).ty, kit_knd _ .str, ⟨_, rfl, ?_⟩⟩)⟩
        have er : rpD d = rp2 x y := by unfold rpD; rw [ep]
        have no : rp2 x y = none → Q (.bl false) H1 := fun e => by
          have e2 : resD ks d = none := by unfold resD; rw [er, e]
          rw [e2] at kk
          exact kk _ s1
        cases x with
        | str z =>
          refine iteF ?_
          dsimp only [tNext]
          refine st_seq2 ⟨_, rfl, i1 _ _ (fun _ _ e => e) (⟨_, _, _, _, _, rfl, .ty _, (ky).ty, kit_knd _ .int, ⟨_, rfl, ?_⟩⟩)⟩
          cases y with
          | int n =>
            cases hy
            refine iteF ⟨_, rfl, i1 _ _ (fun _ _ e => e) (⟨_, _, _, _, _, rfl, .ty _, (ky).ty, kit_knd _ .bl, ⟨_, rfl, iteF ?_⟩⟩)⟩
            refine ⟨_, rfl, ?_⟩
            dsimp only [tC]
            refine i1 H1 _ (fun _ _ e => e) ?_
            refine ⟨_, _, rfl, rfl, _, rfl, ?_⟩
            cases hx
            by_cases hn : n < 0
            · rw [decide_eq_true hn]
              refine iteT (no ?_)
              show (if wordB z = true ∧ 0 ≤ n then some (z, n) else none) = none
              exact if_neg (fun q => by omega)
            · rw [decide_eq_false hn]
              refine iteF ?_
              dsimp only [tNext]
              obtain ⟨ts, hLK, tl, tr⟩ := id ra
              refine ⟨_, rfl, LK, rfl, ⟨_, SqL.of (s1 _ _ hLK)⟩, fun L nL => lc_list (xs := ts.map V.ref) (fun j H2 => Same H1 H2 ∧ H2 L = some (.lst ((((ks.take j).map fun r => decide (r.1 = z) && !(r.2.2 && decide (0 < n))).map V.bl)))) ⟨Same.new nL, upd_same⟩ (fun j H2 _ q => SqL.of (q.1 _ _ (s1 _ _ hLK))) ?_ ?_⟩
              · rintro j t H2 hz ⟨s2, hL⟩
                rw [List.getElem?_map] at hz
                obtain ⟨u', hu, rfl⟩ := Option.map_eq_some_iff.mp hz
                have j1 : j < ks.length := by rw [← tl]; exact (List.getElem?_eq_some_iff.mp hu).1
                have hr1 := List.getElem?_eq_getElem j1
                obtain ⟨ci, g1, g2⟩ := (tr j u' _ hu hr1).on (s1.trans s2)
                refine ⟨rfl, ?_⟩
                have fin : ∀ b : Bool, b = (decide (ks[j].1 = z) && !(ks[j].2.2 && decide (0 < n))) → ∃ xs, H2 L = some (.lst xs) ∧ xs.length + 1 ≤ sizeLine ∧ (Same H1 (upd H2 L (.lst (xs ++ [V.bl b]))) ∧ (upd H2 L (.lst (xs ++ [V.bl b]))) L = some (.lst ((((ks.take (j + 1)).map fun r => decide (r.1 = z) && !(r.2.2 && decide (0 < n))).map V.bl)))) := fun b hb => by
                  refine ⟨_, hL, ?_, fun b o e => ?_, ?_⟩
                  · rw [List.length_map, List.length_map]
                    have := List.length_take_le' j ks
                    exact lenK (by omega)
                  · rw [upd_ne (ne_of_none e nL)]
                    exact s2 b o e
                  · rw [upd_same, take_step hr1, List.map_append, List.map_append, hb]
                    rfl
                refine ⟨_, rfl, u', _, 0, _, rfl, rfl, SqT.of g1, rfl, _, rfl, ?_⟩
                dsimp only [tC]
                refine i0 H2 _ s2 ⟨rfl, _, rfl, ?_⟩
                have e0 : decide (V.str ks[j].1 = V.str z) = decide (ks[j].1 = z) := decide_eq_decide.mpr ⟨fun z => by injection z, fun z => by rw [z]⟩
                rw [e0]
                cases e1 : decide (ks[j].1 = z) with
                | false =>
                  obtain ⟨xs, f1, f2, f3⟩ := fin false (by rw [e1]; rfl)
                  exact ifF (by nofun) ⟨xs, f1, f2, f3⟩
                | true =>
                  refine ifT rfl ⟨_, rfl, u', _, 2, _, rfl, rfl, SqT.of g1, rfl, _, rfl, ?_⟩
                  cases e2 : ks[j].2.2 with
                  | false =>
                    obtain ⟨xs, f1, f2, f3⟩ := fin true (by rw [e1, e2]; rfl)
                    exact ifF (by nofun) ⟨_, rfl, xs, f1, f2, f3⟩
                  | true =>
                    refine ifT rfl ⟨_, rfl, ?_⟩
                    dsimp only [tC]
                    refine i1 H2 _ s2 ⟨_, _, rfl, rfl, _, rfl, ?_⟩
                    obtain ⟨xs, f1, f2, f3⟩ := fin (!decide (0 < n)) (by rw [e1, e2]; rfl)
                    exact ⟨xs, f1, f2, f3⟩
              · rintro H2 ⟨s2, hL⟩
                rw [List.length_map, tl, List.take_length] at hL
                refine ⟨L, _, rfl, SqL.of hL, ?_⟩
                have e2 : (resD ks d).isSome = (ks.map fun r => decide (r.1 = z) && !(r.2.2 && decide (0 < n))).any id := by
                  rw [List.any_map]
                  unfold resD
                  rw [er]
                  show (match (if wordB z = true ∧ 0 ≤ n then some (z, n) else none : Option (Str × Int)) with | some q => if ks.any (fun r => resR r q) = true then some q else none | none => none : Option (Str × Int)).isSome = _
                  have eqr : ∀ r : Row, resR r (z, n) = (id ∘ fun r : Row => decide (r.1 = z) && !(r.2.2 && decide (0 < n))) r := fun r => by
                    show (decide (r.1 = z) && (decide (n = 0) || !r.2.2)) = (decide (r.1 = z) && !(r.2.2 && decide (0 < n)))
                    congr 1
                    have : decide (0 < n) = !decide (n = 0) := by
                      by_cases h0 : n = 0
                      · rw [h0]; rfl
                      · rw [decide_eq_false h0, decide_eq_true (by omega)]; rfl
                    rw [this]
                    cases r.2.2 <;> cases decide (n = 0) <;> rfl
                  by_cases hw : wordB z = true
                  · rw [if_pos ⟨hw, by omega⟩]
                    have e3 : ks.any (fun r => resR r (z, n)) = ks.any (id ∘ fun r : Row => decide (r.1 = z) && !(r.2.2 && decide (0 < n))) := by
                      congr 1
                      exact funext eqr
                    dsimp only
                    rw [e3]
                    cases ks.any (id ∘ fun r : Row => decide (r.1 = z) && !(r.2.2 && decide (0 < n))) <;> rfl
                  · rw [if_neg (fun q => hw q.1)]
                    refine (Bool.eq_false_iff.mpr fun q => ?_).symm
                    obtain ⟨r, hr, e4⟩ := List.any_eq_true.mp q
                    have e5 := of_decide_eq_true (Bool.and_eq_true_iff.mp e4).1
                    exact hw (e5 ▸ wk r hr)
                rw [← e2]
                exact kk _ (s1.trans s2)
          | bool b => exact iteF ⟨_, rfl, i1 _ _ (fun _ _ e => e) (⟨_, _, _, _, _, rfl, .ty _, (ky).ty, kit_knd _ .bl, ⟨_, rfl, iteT (no rfl)⟩⟩)⟩
          | _ => exact iteT (no rfl)
        | _ => exact iteT (no rfl)
      · rw [decide_eq_false h2]
        have e2 : pairD d = none := by
          have := pairD_len hds
          rw [decide_eq_false h2] at this
          cases hh : pairD d with
          | none => rfl
          | some _ => rw [hh] at this; cases this
        rw [noneK e2] at kk
        exact iteT (kk _ s1)
theorem ok_things {f : Addr} {fd : FuncData} (F : FnP K "_law_things" s_law_things f fd) (c_law_one : Cal P w K mg base CX0 3 "_law_one" (spOne K)) : FnOk P w K mg base CX0 4 f fd ["_law_state", "_law_kind_rows"] spThings := by
  refine F.ok sc_law_things (fun vs H Q E h => ?_) (fun cdv A outer s H vs Q E hr h => ?_)
  · obtain ⟨p, c, LK, ks, rfl, _⟩ := h
    rfl
  · obtain ⟨p, c, LK, ks, rfl, D, ra, k1, k4, wk, kk⟩ := h
    refine ⟨_, PSs.nox (pss_cons (ps_setLc (i := 2) (own := [("_law_kind", 6)]) (g := (gName 6)) rfl sc_law_things.nd rfl rfl (sw_true rfl rfl rfl (by decide +kernel)) (pi_listK (K := K) (pv 1)) (blkOk_by (own := [("_law_kind", 6)]) (N := ["_law_state", "_law_kind_rows", "_law_every", "_law_called", "_law_number", "_law_found", "_law_kind"]) (sc := defScope s_law_things) (by decide +kernel)) (fun _ _ _ _ _ => (pg_name (i := 6) sc_law_things.nd rfl (Or.inl rfl) (hf := Or.inr rfl))) (fun _ _ _ _ _ => pts_nil) (fun _ _ _ _ _ => (pe_ix (ix_tupK (K := K)) (pv 6) pe_int (fun _ _ => rfl))))
  (pss_cons (ps_set (i := 3) sc_law_things.nd rfl (Or.inl rfl) (pe_c c_law_one hr (by first | decide | omega) (by rfl) (pa_cons (pv 0) (pa_cons (pe_op op_cat (pv 2) (pe_lst (pa_cons pe_str pa_nil))) pa_nil))))
  (pss_cons (ps_set (i := 4) sc_law_things.nd rfl (Or.inl rfl) (pe_c c_law_one hr (by first | decide | omega) (by rfl) (pa_cons (pv 0) (pa_cons (pe_lst (pa_cons pe_int (pa_cons pe_int (pa_cons pe_int (pa_cons (pe_op op_pow pe_int pe_int) (pa_cons (pe_un un_neg pe_int) (pa_cons pe_bl (pa_cons pe_bl (pa_cons pe_non (pa_cons pe_str pa_nil)))))))))) pa_nil))))
  (pss_cons (ps_set (i := 5) sc_law_things.nd rfl (Or.inl rfl) (pe_lst (pa_cons (pe_tup (pa_cons (pv 3) (pa_cons (pv 4) pa_nil))) (pa_cons (pe_lst (pa_cons (pv 3) (pa_cons (pv 4) pa_nil))) (pa_cons (pe_tup (pa_cons (pv 3) pa_nil)) (pa_cons (pe_tup (pa_cons (pv 3) (pa_cons (pv 4) (pa_cons pe_int pa_nil)))) pa_nil))))))
  (pss_cons (ps_set (i := 5) sc_law_things.nd rfl (Or.inl rfl) (pe_op op_cat (pv 5) (pe_lst (pa_cons (pv 3) (pa_cons (pv 4) (pa_cons pe_non (pa_cons pe_dnewK (pa_cons (pe_lst (pa_cons (pv 3) (pa_cons (pe_lst (pa_cons (pv 4) pa_nil)) pa_nil))) pa_nil))))))))
  (pss_cons (ps_set (i := 5) sc_law_things.nd rfl (Or.inl rfl) (pe_op op_cat (pv 5) (pe_lst (pa_cons (pe_tup (pa_cons (pe_ix (ix_listK (K := K)) (pv 2) pe_int (fun _ _ => rfl)) (pa_cons pe_int pa_nil))) (pa_cons (pe_lst (pa_cons (pe_ix (ix_listK (K := K)) (pv 2) (pe_un un_neg pe_int) (fun _ _ => rfl)) (pa_cons pe_int pa_nil))) (pa_cons (pe_tup (pa_cons (pe_lst (pa_cons (pe_ix (ix_listK (K := K)) (pv 2) pe_int (fun _ _ => rfl)) pa_nil)) (pa_cons pe_int pa_nil))) pa_nil))))))
  (pss_one (ps_ret (pe_op op_cat (pv 5) (pe_lst (pa_cons (pe_tup (pa_cons (pe_op op_add_str (pe_ix (ix_listK (K := K)) (pv 2) pe_int (fun _ _ => rfl)) pe_str) (pa_cons pe_int pa_nil))) (pa_cons (pe_tup (pa_cons pe_int (pa_cons (pe_ix (ix_listK (K := K)) (pv 2) pe_int (fun _ _ => rfl)) pa_nil))) (pa_cons (pe_tup pa_nil) (pa_cons (pe_lst pa_nil) pa_nil)))))))))))))), ?_⟩
    obtain ⟨ts, hLK, tl, tr⟩ := id ra
    refine st_seq2 (asg_any ⟨_, rfl, LK, rfl, ⟨_, SqL.of hLK⟩, fun EV nEV => lc_list (xs := ts.map V.ref) (fun j H2 => Same H H2 ∧ H2 EV = some (.lst ((ks.take j).map fun r => V.str r.1))) ⟨Same.new nEV, upd_same⟩ (fun j H2 _ q => SqL.of (q.1 _ _ hLK)) ?_ ?_⟩)
    · rintro j z H2 hz ⟨s2, hL⟩
      rw [List.getElem?_map] at hz
      obtain ⟨u, hu, rfl⟩ := Option.map_eq_some_iff.mp hz
      have j1 : j < ks.length := by rw [← tl]; exact (List.getElem?_eq_some_iff.mp hu).1
      have hr1 := List.getElem?_eq_getElem j1
      obtain ⟨ci, g1, g2⟩ := (tr j u _ hu hr1).on s2
      refine ⟨rfl, ?_⟩
      refine ⟨_, rfl, u, _, 0, _, rfl, rfl, SqT.of g1, rfl, _, hL, ?_, fun b o e => ?_, ?_⟩
      · rw [List.length_map]
        have := List.length_take_le' j ks
        exact lenK (by omega)
      · rw [upd_ne (ne_of_none e nEV)]
        exact s2 b o e
      · rw [upd_same, take_step hr1, List.map_append]
        rfl
    rintro H1 ⟨s1, hEV⟩
    rw [List.length_map, tl, List.take_length] at hEV
    dsimp only
    -- the first name and the last one
    obtain ⟨e0, x0, w0⟩ : ∃ e0, atI (ks.map fun r => V.str r.1) 0 = some (.str e0) ∧ wordB e0 = true := by
      match ks, k1 with
      | r :: q, _ => exact ⟨r.1, at_nat (n := 0) rfl, wk r (List.mem_cons_self ..)⟩
    obtain ⟨eL, xL, wL⟩ : ∃ eL, atI (ks.map fun r => V.str r.1) (-1) = some (.str eL) ∧ wordB eL = true := by
      have hn : 0 < ks.length := k1
      have hi := List.getElem?_eq_getElem (l := ks) (i := ks.length - 1) (by omega)
      refine ⟨(ks[ks.length - 1]'(by omega)).1, ?_, wk _ (List.getElem_mem _)⟩
      unfold atI ixN
      rw [List.length_map, if_neg (by decide), if_pos (by omega)]
      show (ks.map fun r => V.str r.1)[((-1 : Int) + (ks.length : Int)).toNat]? = _
      rw [show ((-1 : Int) + (ks.length : Int)).toNat = ks.length - 1 by omega, List.getElem?_map, hi]
      rfl
    have el : (ks.map fun r => V.str r.1).length ≤ 4 := by rw [List.length_map]; exact k4
    have pEV : EV ≠ p := D.ne nEV
    refine st_seq2 (asg_any ⟨_, rfl, _, rfl, rcat_lst (zs := [.str "nokind"]) hEV (by show _ + 1 ≤ 1000; omega) fun B H3 nB s3 hB => ⟨p, c, B, _, rfl, (D.same s1).same s3, SqL.of hB, (D.same s1).ne nB, by simp, by rw [List.length_append]; show _ + 1 ≤ 100000; omega, fun x H4 hx o4 D4 => ?_⟩⟩)
    obtain ⟨cd, rfl, wcd⟩ : ∃ cd, x = .str cd ∧ wordB cd = true := by
      rcases List.mem_append.mp hx with hx | hx
      · obtain ⟨r, hr, rfl⟩ := List.mem_map.mp hx
        exact ⟨_, rfl, wk r hr⟩
      · rw [List.mem_singleton.mp hx]
        exact ⟨_, rfl, by decide +kernel⟩
    dsimp only
    have hEV4 := o4 EV _ pEV (s3 _ _ hEV)
    have o04 : Off p H H4 := (Same.off (s1.trans s3)).trans o4
    clear hx o4 hB nB s3 H3
    refine st_seq2 (asg_any ⟨_, rfl, 10, 8, rfl, rfl, ⟨by decide, by decide, by decide⟩, 1, rfl, lst_ok (by show 9 ≤ 1000; decide) fun A H5 nA s5 hA => ⟨p, c, A, _, rfl, D4.same s5, SqL.of hA, D4.ne nA, by simp, by show 9 ≤ 100000; decide, fun x H6 hx o6 D6 => ?_⟩⟩)
    have hEV6 := o6 EV _ pEV (s5 _ _ hEV4)
    have o06 : Off p H H6 := (o04.trans (Same.off s5)).trans o6
    have okx : ∃ num : PyData, (∀ H, DatC H x num []) ∧ shortD num = true ∧ (∀ n, fits num n = true) := by
      simp only [List.mem_cons, List.not_mem_nil, or_false] at hx
      have s0 : PyData.strOk ("0" : Str) = true := by decide +kernel
      rcases hx with rfl | rfl | rfl | rfl | rfl | rfl | rfl | rfl | rfl
      · exact ⟨.int _, fun H => .int _, rfl, fun n => by unfold fits; rfl⟩
      · exact ⟨.int _, fun H => .int _, rfl, fun n => by unfold fits; rfl⟩
      · exact ⟨.int _, fun H => .int _, rfl, fun n => by unfold fits; rfl⟩
      · exact ⟨.int _, fun H => .int _, rfl, fun n => by unfold fits; rfl⟩
      · exact ⟨.int _, fun H => .int _, rfl, fun n => by unfold fits; rfl⟩
      · exact ⟨.bool _, fun H => .bl _, rfl, fun n => by unfold fits; rfl⟩
      · exact ⟨.bool _, fun H => .bl _, rfl, fun n => by unfold fits; rfl⟩
      · exact ⟨.none, fun H => .non, rfl, fun n => by unfold fits; rfl⟩
      · exact ⟨.str _, fun H => .str _, by decide +kernel, fun n => by unfold fits; exact s0⟩
    obtain ⟨num, hnum, snum, fnum⟩ := okx
    dsimp only
    clear hx o6 hA nA s5 H5 o04 hEV4 D4 H4
    have l8 : ∀ {z : Str}, wordB z = true → z.length ≤ 8 := fun {z} h => by
      unfold wordB at h
      have h1 := (Bool.and_eq_true_iff.mp h).1
      have h2 : ¬ (8 : Int) < (z.length : Int) := by simpa using h1
      omega
    refine st_seq2 (asg_any ?_)
    dsimp only [tVar, tCons, tNil, tTup, tLst, tC, tOp, tDNewK, tUn]
    refine ⟨_, rfl, _, rfl, (by show 2 ≤ sizeLine; decide), fun T1 n1 => ?_⟩
    have s1' := Same.new (o := .tup [.str cd, x]) n1
    have hT1 : (upd H6 T1 (.tup [.str cd, x])) T1 = some (.tup [.str cd, x]) := upd_same
    generalize upd H6 T1 (.tup [.str cd, x]) = G1 at *
    refine ⟨_, rfl, _, rfl, (by show 2 ≤ sizeLine; decide), fun A1 n2 => ?_⟩
    have s2 := Same.new (o := .lst [.str cd, x]) n2
    have hA1 : (upd G1 A1 (.lst [.str cd, x])) A1 = some (.lst [.str cd, x]) := upd_same
    generalize upd G1 A1 (.lst [.str cd, x]) = G2 at *
    refine ⟨_, rfl, (by show 1 ≤ sizeLine; decide), fun T2 n3 => ?_⟩
    have s3 := Same.new (o := .tup [.str cd]) n3
    have hT2 : (upd G2 T2 (.tup [.str cd])) T2 = some (.tup [.str cd]) := upd_same
    generalize upd G2 T2 (.tup [.str cd]) = G3 at *
    refine ⟨_, rfl, _, rfl, (by show 3 ≤ sizeLine; decide), fun T3 n4 => ?_⟩
    have s4 := Same.new (o := .tup [.str cd, x, .int 0]) n4
    have hT3 : (upd G3 T3 (.tup [.str cd, x, .int 0])) T3 = some (.tup [.str cd, x, .int 0]) := upd_same
    generalize upd G3 T3 (.tup [.str cd, x, .int 0]) = G4 at *
    refine ⟨(by show 4 ≤ sizeLine; decide), fun F1 n5 => ?_⟩
    have s5 := Same.new (o := .lst [.ref T1, .ref A1, .ref T2, .ref T3]) n5
    have hF1 : (upd G4 F1 (.lst [.ref T1, .ref A1, .ref T2, .ref T3])) F1 = some (.lst [.ref T1, .ref A1, .ref T2, .ref T3]) := upd_same
    generalize upd G4 F1 (.lst [.ref T1, .ref A1, .ref T2, .ref T3]) = G5 at *
    refine st_seq2 (asg_any ?_)
    dsimp only [tVar, tCons, tNil, tTup, tLst, tC, tOp, tDNewK, tUn]
    refine ⟨_, rfl, _, rfl, _, rfl, fun DD n6 => ?_⟩
    have s6 := Same.new (o := .dK []) n6
    have hDD : (upd G5 DD (.dK [])) DD = some (.dK []) := upd_same
    generalize upd G5 DD (.dK []) = G6 at *
    refine ⟨_, rfl, _, rfl, (by show 1 ≤ sizeLine; decide), fun B8 n7 => ?_⟩
    have s7 := Same.new (o := .lst [x]) n7
    have hB8 : (upd G6 B8 (.lst [x])) B8 = some (.lst [x]) := upd_same
    generalize upd G6 B8 (.lst [x]) = G7 at *
    refine ⟨(by show 2 ≤ sizeLine; decide), fun A8 n8 => ?_⟩
    have s8 := Same.new (o := .lst [.str cd, .ref B8]) n8
    have hA8 : (upd G7 A8 (.lst [.str cd, .ref B8])) A8 = some (.lst [.str cd, .ref B8]) := upd_same
    generalize upd G7 A8 (.lst [.str cd, .ref B8]) = G8 at *
    refine rcat_lst (s8 _ _ (s7 _ _ (s6 _ _ hF1))) (by show 4 + 5 ≤ 1000; decide) fun F2 G9 n9 s9 hF2 => ?_
    have e69 := ((s1'.trans s2).trans (s3.trans s4)).trans (s5.trans (s6.trans (s7.trans (s8.trans s9))))
    have hEV9 := e69 _ _ hEV6
    refine st_seq2 (asg_any ?_)
    dsimp only [tVar, tCons, tNil, tTup, tLst, tC, tOp, tDNewK, tUn]
    refine ⟨_, rfl, _, rfl, EV, _, 0, _, rfl, rfl, SqL.of (hEV9), x0, (by show 2 ≤ sizeLine; decide), fun T4 n10 => ?_⟩
    have s10 := Same.new (o := .tup [.str e0, .int 0]) n10
    have hT4 : (upd G9 T4 (.tup [.str e0, .int 0])) T4 = some (.tup [.str e0, .int 0]) := upd_same
    generalize upd G9 T4 (.tup [.str e0, .int 0]) = G10 at *
    refine ⟨_, rfl, 1, rfl, EV, _, -1, _, rfl, rfl, SqL.of (s10 _ _ hEV9), xL, (by show 2 ≤ sizeLine; decide), fun A10 n11 => ?_⟩
    have s11 := Same.new (o := .lst [.str eL, .int 0]) n11
    have hA10 : (upd G10 A10 (.lst [.str eL, .int 0])) A10 = some (.lst [.str eL, .int 0]) := upd_same
    generalize upd G10 A10 (.lst [.str eL, .int 0]) = G11 at *
    refine ⟨_, rfl, EV, _, 0, _, rfl, rfl, SqL.of (s11 _ _ (s10 _ _ hEV9)), x0, (by show 1 ≤ sizeLine; decide), fun B11 n12 => ?_⟩
    have s12 := Same.new (o := .lst [.str e0]) n12
    have hB11 : (upd G11 B11 (.lst [.str e0])) B11 = some (.lst [.str e0]) := upd_same
    generalize upd G11 B11 (.lst [.str e0]) = G12 at *
    refine ⟨(by show 2 ≤ sizeLine; decide), fun T5 n13 => ?_⟩
    have s13 := Same.new (o := .tup [.ref B11, .int 0]) n13
    have hT5 : (upd G12 T5 (.tup [.ref B11, .int 0])) T5 = some (.tup [.ref B11, .int 0]) := upd_same
    generalize upd G12 T5 (.tup [.ref B11, .int 0]) = G13 at *
    refine rcat_lst (s13 _ _ (s12 _ _ (s11 _ _ (s10 _ _ hF2)))) (by show 9 + 3 ≤ 1000; decide) fun F3 G14 n14 s14 hF3 => ?_
    have e914 := s10.trans (s11.trans (s12.trans (s13.trans s14)))
    have hEV14 := e914 _ _ hEV9
    have na : ("a" : Str).length = 1 := by decide +kernel
    refine ret_any ?_
    dsimp only [tVar, tCons, tNil, tTup, tLst, tC, tOp, tDNewK, tUn]
    refine ⟨_, rfl, _, rfl, EV, _, 0, _, rfl, rfl, SqL.of (hEV14), x0, _, _, rfl, rfl, (by have := l8 w0; have e : sizeLine = 16777216 := sizeLine_eq; omega), (by show 2 ≤ sizeLine; decide), fun T6 n15 => ?_⟩
    have s15 := Same.new (o := .tup [.str (e0 ++ "a"), .int 0]) n15
    have hT6 : (upd G14 T6 (.tup [.str (e0 ++ "a"), .int 0])) T6 = some (.tup [.str (e0 ++ "a"), .int 0]) := upd_same
    generalize upd G14 T6 (.tup [.str (e0 ++ "a"), .int 0]) = G15 at *
    refine ⟨_, rfl, EV, _, 0, _, rfl, rfl, SqL.of (s15 _ _ hEV14), x0, (by show 2 ≤ sizeLine; decide), fun T7 n16 => ?_⟩
    have s16 := Same.new (o := .tup [.int 0, .str e0]) n16
    have hT7 : (upd G15 T7 (.tup [.int 0, .str e0])) T7 = some (.tup [.int 0, .str e0]) := upd_same
    generalize upd G15 T7 (.tup [.int 0, .str e0]) = G16 at *
    refine ⟨(by show 0 ≤ sizeLine; decide), fun T8 n17 => ?_⟩
    have s17 := Same.new (o := .tup []) n17
    have hT8 : (upd G16 T8 (.tup [])) T8 = some (.tup []) := upd_same
    generalize upd G16 T8 (.tup []) = G17 at *
    refine ⟨(by show 0 ≤ sizeLine; decide), fun A15 n18 => ?_⟩
    have s18 := Same.new (o := .lst []) n18
    have hA15 : (upd G17 A15 (.lst [])) A15 = some (.lst []) := upd_same
    generalize upd G17 A15 (.lst []) = G18 at *
    refine rcat_lst (s18 _ _ (s17 _ _ (s16 _ _ (s15 _ _ hF3)))) (by show 12 + 4 ≤ 1000; decide) fun F4 G19 n19 s19 hF4 => ?_
    have c18 := s19
    have c17 := s18.trans c18
    have c16 := s17.trans c17
    have c15 := s16.trans c16
    have c14 := s15.trans c15
    have c13 := s14.trans c14
    have c12 := s13.trans c13
    have c11 := s12.trans c12
    have c10 := s11.trans c11
    have c9 := s10.trans c10
    have c8 := s9.trans c9
    have c7 := s8.trans c8
    have c6 := s7.trans c7
    have c5 := s6.trans c6
    have c4 := s5.trans c5
    have c3 := s4.trans c4
    have c2 := s3.trans c3
    have c1 := s2.trans c2
    have c0 := s1'.trans c1
    have hT : ∃ cs, ThsC G19 _ [.tuple [.str cd, num], .list [.str cd, num], .tuple [.str cd], .tuple [.str cd, num, .int 0], .str cd, num, .none, .dict [], .list [.str cd, .list [num]], .tuple [.str e0, .int 0], .list [.str eL, .int 0], .tuple [.list [.str e0], .int 0], .tuple [.str (e0 ++ "a"), .int 0], .tuple [.int 0, .str e0], .tuple [], .list []] cs ∧ cs = [A1, A8, B8, A10, B11, A15] :=
      ⟨_, .cons (.dat (.tup (c1 _ _ hT1) (.cons (.str _) (.cons (hnum _) .nil)))) (.cons (.dat (.lst (c2 _ _ hA1) (.cons (.str _) (.cons (hnum _) .nil)))) (.cons (.dat (.tup (c3 _ _ hT2) (.cons (.str _) .nil))) (.cons (.dat (.tup (c4 _ _ hT3) (.cons (.str _) (.cons (hnum _) (.cons (.int _) .nil))))) (.cons (.dat (.str _)) (.cons (.dat (hnum _)) (.cons (.dat .non) (.cons (.dic (c6 _ _ hDD))
        (.cons (.dat (.lst (c8 _ _ hA8) (.cons (.str _) (.cons (.lst (c7 _ _ hB8) (.cons (hnum _) .nil)) .nil)))) (.cons (.dat (.tup (c10 _ _ hT4) (.cons (.str _) (.cons (.int _) .nil)))) (.cons (.dat (.lst (c11 _ _ hA10) (.cons (.str _) (.cons (.int _) .nil)))) (.cons (.dat (.tup (c13 _ _ hT5) (.cons (.lst (c12 _ _ hB11) (.cons (.str _) .nil)) (.cons (.int _) .nil))))
        (.cons (.dat (.tup (c15 _ _ hT6) (.cons (.str _) (.cons (.int _) .nil)))) (.cons (.dat (.tup (c16 _ _ hT7) (.cons (.int _) (.cons (.str _) .nil)))) (.cons (.dat (.tup (c17 _ _ hT8) .nil)) (.cons (.dat (.lst (c18 _ _ hA15) .nil)) .nil))))))))))))))), rfl⟩
    obtain ⟨cs, hT, rfl⟩ := hT
    have fr : ∀ {a : Addr} {G : Hp}, Same H6 G → G a = none → H a = none := fun {a G} s n => o06.free' D6 (s.free n)
    have q2 := s1'
    have q7 := s1'.trans (s2.trans (s3.trans (s4.trans (s5.trans s6))))
    have q8 := q7.trans s7
    have q11 := e69.trans s10
    have q12 := q11.trans s11
    have q18 := (e69.trans e914).trans (s15.trans (s16.trans s17))
    have kT := kk F4 _ _ _ G19 (fr (q18.trans s18) n19) (o06.trans (Same.off c0)) (D6.same c0) hF4 hT
    refine kT ?_ ?_ ?_ (by show 16 ≤ 100; decide)
    · have d1 : A1 ≠ B8 := ne_of_none ((s3.trans (s4.trans (s5.trans s6))) _ _ hA1) n7
      have d2 : A1 ≠ A8 := ne_of_none ((s3.trans (s4.trans (s5.trans (s6.trans s7)))) _ _ hA1) n8
      have a9 := (s3.trans (s4.trans (s5.trans (s6.trans (s7.trans (s8.trans s9)))))) _ _ hA1
      have b9 := (s8.trans s9) _ _ hB8
      have h9 := s9 _ _ hA8
      have d3 : A1 ≠ A10 := ne_of_none (s10 _ _ a9) n11
      have d4 : A1 ≠ B11 := ne_of_none (s11 _ _ (s10 _ _ a9)) n12
      have d5 : A1 ≠ A15 := ne_of_none (s17 _ _ (s16 _ _ (s15 _ _ (e914 _ _ a9)))) n18
      have d6 : B8 ≠ A8 := ne_of_none hB8 n8
      have d7 : A8 ≠ A10 := ne_of_none (s10 _ _ h9) n11
      have d8 : A8 ≠ B11 := ne_of_none (s11 _ _ (s10 _ _ h9)) n12
      have d9 : A8 ≠ A15 := ne_of_none (s17 _ _ (s16 _ _ (s15 _ _ (e914 _ _ h9)))) n18
      have d10 : B8 ≠ A10 := ne_of_none (s10 _ _ b9) n11
      have d11 : B8 ≠ B11 := ne_of_none (s11 _ _ (s10 _ _ b9)) n12
      have d12 : B8 ≠ A15 := ne_of_none (s17 _ _ (s16 _ _ (s15 _ _ (e914 _ _ b9)))) n18
      have d13 : A10 ≠ B11 := ne_of_none hA10 n12
      have t14 := (s12.trans (s13.trans s14)) _ _ hA10
      have d14 : A10 ≠ A15 := ne_of_none (s17 _ _ (s16 _ _ (s15 _ _ t14))) n18
      have u14 := (s13.trans s14) _ _ hB11
      have d15 : B11 ≠ A15 := ne_of_none (s17 _ _ (s16 _ _ (s15 _ _ u14))) n18
      simp only [List.nodup_cons, List.mem_cons, List.not_mem_nil, or_false, not_or, List.nodup_nil, not_false_eq_true, and_true]
      exact ⟨⟨d2, d1, d3, d4, d5⟩, ⟨d6.symm, d7, d8, d9⟩, ⟨d10, d11, d12⟩, ⟨d13, d14⟩, d15⟩
    · intro a ha
      simp only [List.mem_cons, List.not_mem_nil, or_false] at ha
      have nF : ∀ {a : Addr} {xs : List V}, G18 a = some (.lst xs) → a ≠ F4 := fun h => ne_of_none h n19
      rcases ha with rfl | rfl | rfl | rfl | rfl | rfl
      · exact ⟨fr q2 n2, nF ((s3.trans (s4.trans (s5.trans (s6.trans (s7.trans (s8.trans (s9.trans (e914.trans (s15.trans (s16.trans (s17.trans s18))))))))))) _ _ hA1)⟩
      · exact ⟨fr q8 n8, nF ((s9.trans (e914.trans (s15.trans (s16.trans (s17.trans s18))))) _ _ hA8)⟩
      · exact ⟨fr q7 n7, nF ((s8.trans (s9.trans (e914.trans (s15.trans (s16.trans (s17.trans s18)))))) _ _ hB8)⟩
      · exact ⟨fr q11 n11, nF ((s12.trans (s13.trans (s14.trans (s15.trans (s16.trans (s17.trans s18)))))) _ _ hA10)⟩
      · exact ⟨fr q12 n12, nF ((s13.trans (s14.trans (s15.trans (s16.trans (s17.trans s18))))) _ _ hB11)⟩
      · exact ⟨fr q18 n18, nF hA15⟩
    · intro d hd
      have o1 := l8 wcd
      have o2 := l8 w0
      have o3 := l8 wL
      have lc : (e0 ++ ("a" : Str)).length ≤ 100 := by have := app_le o2 (Nat.le_of_eq na); omega
      have f1 := word_okS wcd
      have f2 := word_okS w0
      have f3 := word_okS wL
      have f4 : PyData.strOk (e0 ++ ("a" : Str)) = true := strOk_app f2 (by decide +kernel)
      have k1 : decide (cd.length ≤ 100) = true := decide_eq_true (by omega)
      have k2 : decide (e0.length ≤ 100) = true := decide_eq_true (by omega)
      have k3 : decide (eL.length ≤ 100) = true := decide_eq_true (by omega)
      have k4 : decide ((e0 ++ ("a" : Str)).length ≤ 100) = true := decide_eq_true lc
      have fl : ∀ (n : Nat), fits num n = true := fnum
      simp only [List.mem_cons, List.not_mem_nil, or_false] at hd
      rcases hd with rfl | rfl | rfl | rfl | rfl | rfl | rfl | rfl | rfl | rfl | rfl | rfl | rfl | rfl | rfl | rfl
      all_goals first
        | rfl
        | exact okT_of snum (fnum 5)
        | (simp [okT, fitT, shortD, shortAll, fits, fitsAll, snum, fl, f1, f2, f3, f4, k1, k2, k3, k4, o1]; done)
        | (simp [okT, fitT, shortD, shortAll, fits, fitsAll, snum, fl, f1, f2, f3, f4]; omega)
        | skip

end
end Sm
namespace Sm
open PySem PySem.Spec PyProof.Rows L2
abbrev s_law_tried : Stmt := top 44
theorem sc_law_tried : FnScope ["_law_ask", "_law_found", "_law_told", "e"] ["_law_ask"] (defScope s_law_tried) := ⟨rfl, rfl, rfl, by decide +kernel, rfl, by decide +kernel, by decide +kernel⟩

/-- what it makes of a lambda: the fields of a copy, or the error's -/
def TTcp (K : PySem.W.Frag) : (XK → Hp → VK → Prop) → Hp → VK → Prop := fun tl H Q => ∀ T0, H T0 = none →
  tl (EchT K Q [(He.ga K "BadResource", "resource", "refused")]) (upd H T0 (.tup [.str "odd"])) fun v H' => ∃ a dx t m st, v = .ref a ∧ H' a = some (.ins (CPC K) dx [("resource", t), ("moment", m), ("state", st)]) ∧ ∀ T, H' T = none → Q (.ref T) (upd H' T (.tup [.str "copy", t, m]))
section
variable {X : Cx} {g : Addr} {cdg : Value} {q : Str}
theorem tried_gives (CP : OwnK X.K (CPC X.K)) (p1 : NoAttr X.K (CPC X.K) "resource") (p2 : NoAttr X.K (CPC X.K) "moment") (m0 : X.mg "BadResource" = some (.ref (He.ga X.K "BadResource"))) (x0 : XfC X.K (He.ga X.K "BadResource")) (n0 : PySem.W.findIn X.K (.ref (He.ga X.K "BadResource")) "resource" = some none) :
    LamX.GivesTo X ["_law_ask", "_law_found", "_law_told", "e"] "_law_tried" (defScope s_law_tried) g cdg (defBody s_law_tried) "_law_ask" q (TTcp X.K) := by
  intro f c' s H Q tl act hc h
  refine ⟨_, pss_cons (ps_set (i := 1) sc_law_tried.nd rfl (Or.inl rfl) (pe_tup (pa_cons pe_str pa_nil))) (pss_cons (ps_try_each (n := "e") (i := 3) (W0 := fun _ _ _ _ => False)
    (tb := fun W D τ G => ∃ (Ech : XK) (Q0 : VK), (∀ k d τ' G', Ech k d G' → τ'.length = 4 → W k d τ' G') ∧ τ[0]? = some (some (.ref f)) ∧ τ.length = 4 ∧ G c' = some (LamX.CodeO c' q) ∧ tl Ech G Q0 ∧ ∀ v G', Q0 v G' → ∃ a dx t m st, v = .ref a ∧ G' a = some (.ins (CPC X.K) dx [("resource", t), ("moment", m), ("state", st)]) ∧ ∀ T, G' T = none → D.nx ((τ.set 2 (some v)).set 1 (some (.ref T))) (upd G' T (.tup [.str "copy", t, m])))
    rfl rfl sc_law_tried.nd rfl rfl LamX.takes0 (fun W pn xe tk _ => ?_) (.cons (c := .ref (He.ga X.K "BadResource")) ⟨rfl, by decide, .inl m0⟩ (fun x o k d pn hz hf => pss_one (ps_set (i := 1) sc_law_tried.nd rfl (Or.inl rfl) (pe_tup (pa_cons pe_str (pa_cons (pe_xf x0 n0 hz hf (pv 3)) pa_nil))))) .nil)) (pss_one (ps_ret (pv 1)))), ?_⟩
  · refine ⟨fun pins s' σ H' D I h' => ?_⟩
    obtain ⟨Ech, Q0, hW, h1, hl, h2, h3, h4⟩ := h'
    refine (pss_cons (ps_set (i := 2) sc_law_tried.nd rfl (Or.inl rfl) (PE.up (act (fun k d τ G => τ.length = 4 → W k d τ G) pn xe Ech _ _ (takes_len tk) hW))) (pss_one (ps_set (i := 1) sc_law_tried.nd rfl (Or.inl rfl) (pe_tup (pa_cons pe_str (pa_cons (pe_fldK (K := X.K) (pv 2)) (pa_cons (pe_fldK (K := X.K) (pv 2)) pa_nil))))))).run pins s' σ H' D I ?_
    refine ⟨Q0, ⟨h1, h2, h3⟩, fun v G' q0 => ?_⟩
    obtain ⟨a, dx, t, m, st, rfl, ha, hT⟩ := h4 v G' q0
    match σ, hl with
    | [t0, t1, t2, t3], _ => exact ⟨_, rfl, a, _, dx, _, _, rfl, ha, CP.cls, p1, rfl, _, rfl, a, _, dx, _, _, rfl, ha, CP.cls, p2, rfl, (by show (3 : Nat) ≤ sizeLine; decide), fun T nT => hT T nT⟩
  · refine st_seq2 (asg_any ⟨(by show (1 : Nat) ≤ sizeLine; decide), fun T0 n0 => ?_⟩)
    dsimp only
    refine ⟨EchT X.K Q [(He.ga X.K "BadResource", "resource", "refused")], _, fun k d τ' G' ech hl => ?_, rfl, rfl, Same.new n0 _ _ hc, h T0 n0, fun v G' q0 => ?_⟩
    · match τ', hl with
      | [t0, t1, t2, t3], _ => ?_
      obtain ⟨fits0, is0, yes0, no0⟩ := ech
      refine ⟨fits0, is0, fun hb x nx => ?_, fun hb => ?_⟩
      · obtain ⟨dd, fs, v, rfl, rfl, hd, hl, q⟩ := yes0 hb
        exact ⟨_, rfl, rfl, rfl, dd, fs, v, rfl, hd, hl, (by show (2 : Nat) ≤ sizeLine; decide), fun T nT => ⟨_, rfl, q T nT⟩⟩
      have ech := no0 hb
      exact ech.elim
    · obtain ⟨a, dx, t, m, st, rfl, ha, hT⟩ := q0
      exact ⟨a, dx, t, m, st, rfl, ha, fun T nT => ⟨_, rfl, hT T nT⟩⟩
end
end Sm
/-! laws with lambdas: the def that gets one, the end with tables -/
namespace Sm
open PySem PySem.Spec PyProof.Rows L2
section
variable {P : Program} {w : World} {K : PySem.W.Frag} {mg : Str → Option Value} {base : Heap} {x qual : Str} {params : Arguments} {body : List Stmt} {scope : Scope} {dvs : List V} {kws : List (Str × V)} {f : Addr} {fd : FuncData}
/-- a def's promise, its code object told -/
theorem okCode {CX : CXT} {N ps : List Str} {k : Nat} {sp : Sp} (F : FunD K x qual params body scope dvs kws f fd) (S : FnScope N ps scope) (len : ∀ vs H Q E, sp vs H Q E → vs.length = ps.length)
    (hbody : ∀ (cdv : Value) (A : Around) (outer : List Env) (s : Shared) (H : Hp) (vs : List V) (Q : VK) (E : XK), cdv = fd.code → Room k (A.deeper (envOfC qual scope s.heap.objs.size f cdv)) → sp vs H Q E →
      ∃ t, PSs (cxOf CX P w K mg base N qual scope f cdv A outer s H E) body t ∧ t { nx := fun _ H' => Q .non H', rt := Q } (L2.start N vs) H) : FnOk P w K mg base CX (k + 1) f fd ps sp := by
  obtain ⟨oc, od, dV, kV, doc, pm, an, cdv, ct, osl, rfl, lk, hcd, _, _⟩ := F.ex
  exact fn_of lk hcd S len fun A outer s H vs Q E hr hsp => hbody cdv A outer s H vs Q E rfl hr hsp
end
section
variable {X : Cx} {K : PySem.W.Frag}
/-- g(lambda: body), g a def without defaults -/
theorem pe_lamTo {T : List (Addr × Str)} {TT : (XK → Hp → VK → Prop) → Hp → VK → Prop} {x a : Str} {g c P : Addr} {gd : FuncData} {k : Nat} {pg : Arguments} {bg : List Stmt} {sg : Scope} {Ng : List Str}
    {params : Arguments} {body : Expr} {scope : Scope} {t : XK → TE} {p lpos pos : Pos} (hK : X.K = K) (F : FunD K x x pg bg sg [] [] g gd) (hB : L2.Binds K gd [a] []) (hm : X.mg x = some (.ref g)) (hg : Gl X x) (Sg : FnScope Ng [a] sg) (hNg : Ng[0]? = some a) (hva : Vis sg a)
    (hG : ∀ cdv : Value, LamX.GivesTo X Ng x sg g cdv bg a (X.env.qual ++ "<lambda>") TT) (TB : LamX.TabB X.base X.mg c P) (hcode : X.env.code = .ref c) (hmT : (P, X.env.qual ++ "<lambda>") ∈ T) (hu : ∀ p ∈ T, p.1 = P → p.2 = X.env.qual ++ "<lambda>") (hr : Room (k + 2) X.A)
    (hbody : ∀ (A : Around) (outer : List Env) (s : Shared) (H : Hp) (E : XK) (f c' : Addr), Room k (A.deeper (LamX.lamEnv X scope s.heap.objs.size f c')) → PE (LamX.lamCx X A outer s H E scope f c') body (t E))
    (hL : LamX.lamSB X.env.scope scope = true := by decide) (hdef : defaultsOf params X.env = ([], []) := by rfl)
    (hbind : ∀ (q : Str) (cl : List (Str × Addr)) (pm cv ctv : Value), bindArgs (PySem.W.kla_fn "<lambda>" q params body scope cl pm cv ctv) ⟨[], []⟩ = pure [] := by intros; rfl)
    (hdb : (x == ("__debug__" : Str)) = false := by decide) (hd : (a == ("__debug__" : Str)) = false := by decide) (hcd : (a == ("__classdict__" : Str)) = false := by decide) :
    PE X (.Call (.Name x p) [.Lambda params body scope lpos] [] pos) (LamX.tLam T TT t) := by
  subst hK
  obtain ⟨oc, od, dV, kV, doc, pm, an, cdv, ct, osl, rfl, lk, hcg, _, _⟩ := F.ex
  exact LamX.pe_lamcall hg hm F.kp lk hcg hB Sg hNg hva (hG cdv) TB hcode hmT hu hr (LamX.lamS_by hL) hdef hbind hbody hdb hd hcd
/-- o.m(k = v), with a way out -/
structure OwMKX (P : Program) (w : World) (K : PySem.W.Frag) (mg : Str → Option Value) (base : Heap) (C : Addr) (k : Nat) (x : Str) (sp : Sp) (ks : List Str) : Prop where
  ex : ∃ (f : Addr) (fd : FuncData) (ps : List Str), FnOk P w K mg base (L2.CX P w) k f fd ps sp ∧ Meth K C x f ∧ KBn K fd ps 1 ks (fun us ws => us ++ ws) (fun vs zs => vs ++ zs)
theorem pe_omkX {C : Addr} {k j : Nat} {m : Str} {sp : Sp} {ta : TE} {tk : TA} {o : Expr} {apos pos : Pos} {E : XK} {pl : Sem Bool} {ks : List Str} {kws : List Keyword} (he : PE X o ta) (c : Cls X.K C) (M : OwMKX X.prog X.w X.K X.mg X.base C k m sp ks) (hr : Room j X.A) (hk : k ≤ j) (tkk : Takes X (fun k d _ H => E k d H)) (hkw : PK X kws tk)
    (hall : (backToKw pos (keywordEach kws X.env)).all (·.1.isSome) = true := by rfl) (hks : (backToKw pos (keywordEach kws X.env)).filterMap (·.1) = ks := by rfl)
    (hpl : ((backTo pos (starEach [] X.env)).any (·.1) || (backToKw pos (keywordEach kws X.env)).any (·.1.isNone)) = false := by rfl)
    (ht : eval (.Call (.Attribute o m apos) [] kws pos) X.env = (do
      let ov ← eval o X.env
      standAt apos.atName
      let (f, first) ← holding [ov] (getMethod ov m pl)
      callWith pos f first (backTo pos (starEach [] X.env)) (backToKw pos (keywordEach kws X.env))) := by rfl) :
    PE X (.Call (.Attribute o m apos) [] kws pos) (fun σ H Q => ta σ H fun x H1 => ∃ a dx fs, x = .ref a ∧ H1 a = some (.ins C dx fs) ∧ fs.lookup m = none ∧ tk σ H1 fun zs H2 => zs.length = ks.length ∧ sp (x :: zs) H2 Q E) := by
  obtain ⟨f, fd, ps, F, hm, hB⟩ := M.ex
  refine ⟨fun pins s σ H Q I h => ?_⟩
  refine PySem.W.methodCall_KW (pl := pl) (thn (he.run pins s σ H _ I h) fun u s1 ⟨x, H1, I1, rx, a, dx, fs, ex, ea, l, q⟩ => ?_) ht
  subst ex
  obtain rfl : u = Value.ref a := rx
  refine getmeth_ok I1 ea c hm l ?_
  refine PySem.W.callWith_KW0 (first := [.ref a]) (h₀ := X.base) I1.ok.mod.kin hm.kp hall ?_ hpl
  refine thn (hkw.run pos pins s1 σ H1 _ I1 q) fun ws s2 ⟨zs, H2, I2, rz, l2, q2⟩ => ⟨I2.kIn, ?_⟩
  rw [hks]
  exact run_fnN (us := [.ref a]) (vs := [.ref a]) F (hr.mono hk) hB (passes_call tkk fun _ _ _ _ h => h) I2 (.cons rfl .nil) rz rfl l2 q2
end
/-- a law with lambdas: the tables at hand, empty -/
def spLawT (K : PySem.W.Frag) (cs : List (Addr × Addr)) : Sp := fun vs H Q _ => ∃ (a : Addr) (ns : List Int), vs = [.ref a] ∧ SqL K H a (ns.map V.int) ∧ ns.length ≤ 63 ∧ (∀ p ∈ cs, H p.2 = some (.tbl #[])) ∧ ∀ H', Q (.bl true) H'
/-- the end of a law with tables: F gives the written part, too -/
theorem walk_ofTE {l : PySem.W.OpenLaw} {n k : Nat} {q : Program} {loose : List Str} {XP : (Str → Option Value) → Heap → Prop} {YP : World → Heap → Prop} {d : DefRec} {CX : World → CXT} {x : Str}
    (hn : l.most = some n) (hn2 : n ≤ sizeLine) (hdf : d.params.defaults = []) (hr : Room k callerA)
    (F : ∀ (w : World) (mg : Str → Option Value) (fa : Addr) (h : Heap), YP w h → h.Ns mainGlobals mg → mg d.name = some (.ref fa) → ∃ K : PySem.W.Frag, K.In h ∧ LamX.LawAtS l w K (CX w) k n x mg fa h)
    (hCX : ∀ (w : World) (H : Hp) (s : Shared) (e : Value) (s' : Shared), CX w [] H s (fun _ _ _ => False) e s' → False) :
    PySem.W.WalkO q loose XP YP l.row.toRowW d [] (fun f vs => PySem.call f vs) := by
  refine Att.attach_callB hn hdf fun w s₀ s₁ mg mb fa o pm cd doc a vs ns G Y ho hd hcd hmg hobj hints hlen hbits hg => ?_
  obtain ⟨K, KX, fd, cs, sp, hT, nT, C, hb, hsp, hF⟩ := F w mg fa _ Y G.T.g hmg
  exact LamX.law_callTs KX G.T.g G.T.b G.T.builtins G.T.nolimit hg hT nT C G.T.bmain hobj hints (Nat.le_trans hlen hn2) hr hF hb (fun H hH hS => hsp H a ns hlen hbits hH hS) fun H e s' => hCX w H s₁ e s'
/-! ### frames -/
/-- all but lists stays -/
def Nl (H H' : Hp) : Prop := ∀ b o, H b = some o → (∀ xs, o ≠ .lst xs) → H' b = some o
theorem tabs_nl {T : List (Addr × Str)} {H H' : Hp} (t : LamX.Tabs T H) (e : Nl H H') : LamX.Tabs T H' := fun p hp => by
  obtain ⟨ps, h1, h2, h3⟩ := t p hp
  refine ⟨ps, e _ _ h1 (fun _ z => by cases z), h2, fun pos cv hc => ?_⟩
  obtain ⟨c, e1, e2⟩ := h3 pos cv hc
  exact ⟨c, e1, e _ _ e2 (fun _ z => by unfold LamX.CodeO at z; cases z)⟩
theorem Nl.off {H H' : Hp} {p c : Addr} (D : Dr H p c) (e : Off p H H') : Nl H H' := fun b o h n => e b o (fun z => by
  obtain ⟨_, _, _, _, DD⟩ := D
  rw [z, DD.st] at h
  cases h
  exact n _ rfl) h
theorem Nl.put {H : Hp} {a : Addr} {xs ys : List V} (h : H a = some (.lst xs)) : Nl H (upd H a (.lst ys)) := fun b o e n => by
  by_cases z : b = a
  · rw [z, h] at e
    cases e
    exact absurd rfl (n _)
  · rw [upd_ne z]; exact e
theorem tabs_nil {H : Hp} {P : Addr} {q : Str} (h : H P = some (.tbl #[])) : LamX.Tabs [(P, q)] H := fun p hp => by
  rw [List.mem_singleton.mp hp]
  exact LamX.TabS.nil h
/-- all stays but p and tables -/
def Fz (p : Addr) (H H' : Hp) : Prop := ∀ b o, b ≠ p → H b = some o → (∀ ps, o ≠ .tbl ps) → H' b = some o
theorem Fz.split {p : Addr} {H H' : Hp} (h : Fz p H H') : ∃ G, Off p H G ∧ LamX.ExtN G H' := by
  classical
  refine ⟨fun b => if (∃ ps, H b = some (.tbl ps)) ∧ b ≠ p then H b else H' b, fun b o ne e => ?_, fun b o e n => ?_⟩
  · dsimp only
    by_cases c : (∃ ps, H b = some (.tbl ps)) ∧ b ≠ p
    · rw [if_pos c]; exact e
    · rw [if_neg c]
      exact h b o ne e fun ps z => c ⟨⟨ps, z ▸ e⟩, ne⟩
  · dsimp only at e
    by_cases c : (∃ ps, H b = some (.tbl ps)) ∧ b ≠ p
    · rw [if_pos c] at e
      obtain ⟨⟨ps, hp⟩, _⟩ := c
      rw [hp] at e
      cases e
      exact absurd rfl (n _)
    · rw [if_neg c] at e
      exact e
theorem Fz.of_off {p : Addr} {H H' : Hp} (e : Off p H H') : Fz p H H' := fun b o ne h _ => e b o ne h
theorem Fz.same {p : Addr} {H H1 H2 : Hp} (h : Fz p H H1) (e : Same H1 H2) : Fz p H H2 := fun b o ne hb n => e _ _ (h b o ne hb n)
theorem Fz.ext {p : Addr} {H H1 H2 : Hp} (h : Fz p H H1) (e : LamX.ExtN H1 H2) : Fz p H H2 := fun b o ne hb n => e _ _ (h b o ne hb n) n
theorem Fz.put {p a : Addr} {H H1 : Hp} {o : HO} (h : Fz p H H1) (n : H a = none) : Fz p H (upd H1 a o) := fun b u ne hb nn => by
  rw [upd_ne (ne_of_none hb n)]
  exact h b u ne hb nn
theorem StO.off {K : PySem.W.Frag} {H H' : Hp} {a p c : Addr} {ws : List Str} (h : StO K H a ws) (D : Dr H p c) (e : Off p H H') : StO K H' a ws := by
  obtain ⟨dy, cd, td, h1, h2⟩ := h
  obtain ⟨_, _, _, _, DD⟩ := D
  exact ⟨dy, cd, td, e _ _ (ne_of h1 DD.st (by intro z; cases z)) h1, e _ _ (ne_of h2 DD.st (by intro z; cases z)) h2⟩
theorem SvO.off {K : PySem.W.Frag} {H H' : Hp} {a p c : Addr} {ks : List Row} (h : SvO K H a ks) (D : Dr H p c) (e : Off p H H') : SvO K H' a ks := by
  obtain ⟨⟨dx, s, L, T, h1, h2, h3, h4⟩, wl⟩ := h
  have h5 := h2.off D e
  obtain ⟨_, _, _, _, DD⟩ := D
  exact ⟨⟨dx, s, L, T, e _ _ (ne_of h1 DD.st (by intro z; cases z)) h1, h5, e _ _ (ne_of h3 DD.st (by intro z; cases z)) h3, e _ _ (ne_of h4 DD.st (by intro z; cases z)) h4⟩, wl⟩
theorem ThsC.uncons {H : Hp} {vs : List V} {ds : List PyData} {cs : List Addr} {v : V} {rest : List V} (h : ThsC H vs ds cs) (e : vs = v :: rest) : ∃ d dr c1 c2, ds = d :: dr ∧ cs = c1 ++ c2 ∧ ThC H v d c1 ∧ ThsC H rest dr c2 := by
  cases h with
  | nil => cases e
  | cons a b => cases e; exact ⟨_, _, _, _, rfl, rfl, a, b⟩
/-! ### what is told of a thing -/
def ResT (ks : List Row) (d : PyData) (x : V) (H : Hp) (T : Addr) : Prop := match resD ks d with
  | some q => ∃ t, H T = some (.tup [.str "copy", .ref t, .int 0]) ∧ H t = some (.tup [.str q.1, .int q.2])
  | none => H T = some (.tup [.str "refused", x])
theorem ResT.go {ks : List Row} {d : PyData} {x : V} {H H' : Hp} {T : Addr} (h : ResT ks d x H T) (ht : ∀ a xs, H a = some (.tup xs) → H' a = some (.tup xs)) : ResT ks d x H' T := by
  unfold ResT at h ⊢
  cases e : resD ks d with
  | some q =>
    rw [e] at h
    obtain ⟨t, h1, h2⟩ := h
    exact ⟨t, ht _ _ h1, ht _ _ h2⟩
  | none =>
    rw [e] at h
    exact ht _ _ h
theorem resT_same {ks : List Row} {d d' : PyData} {x : V} {H : Hp} {T M : Addr} (h : ResT ks d x H T) (g : ResT ks d x H M) (wk : ∀ r ∈ ks, wordB r.1 = true) (hx : Thg H x d') (f : fitT d' = true) : SameB H 7 (.ref T) (.ref M) true := by
  unfold ResT at h g
  cases e : resD ks d with
  | some q =>
    rw [e] at h g
    obtain ⟨t, h1, h2⟩ := h
    obtain ⟨u, g1, g2⟩ := g
    obtain ⟨_, i, r, hi, er, _⟩ := resD_row e
    have wq : PyData.strOk q.1 = true := word_okS (er ▸ wk r (List.mem_of_getElem? hi))
    have cq : PyData.strOk ("copy" : Str) = true := by decide +kernel
    refine same_dat (Z := fun _ => True) (Z' := fun _ => True) (.tuple [.str "copy", .tuple [.str q.1, .int q.2], .int 0]) 6 _ _ ?_ (.tup h1 (.cons (.str _) (.cons (.tup h2 (.cons (.str _) (.cons (.int _) .nil))) (.cons (.int _) .nil)))) (.tup g1 (.cons (.str _) (.cons (.tup g2 (.cons (.str _) (.cons (.int _) .nil))) (.cons (.int _) .nil))))
    simp [fits, fitsAll, wq, cq]
  | none =>
    rw [e] at h g
    have q : SameB H 7 (.ref T) (.ref M) ([true, true].all id) := SameB.tup h g rfl rfl (by show 2 ≤ 10000; decide) (fun i y z b hy hz hb => by
      match i, hy, hz, hb with
      | 0, hy, hz, hb =>
        cases hy
        cases hz
        cases hb
        have q : SameB H 6 (.str "refused") (.str "refused") (decide (V.str "refused" = V.str "refused")) := .sc rfl rfl
        rw [decide_eq_true rfl] at q
        exact q
      | 1, hy, hz, hb =>
        cases hy
        cases hz
        cases hb
        exact hx.same f (Nat.le_refl 5))
    exact q
theorem resTs_same {ks : List Row} {d d' : PyData} {x : V} {H : Hp} {F A T1 T2 M : Addr} (hF : H F = some (.lst [.ref T1, .ref T2])) (hA : H A = some (.lst [.ref M, .ref M])) (h1 : ResT ks d x H T1) (h2 : ResT ks d x H T2) (g : ResT ks d x H M) (wk : ∀ r ∈ ks, wordB r.1 = true) (hx : Thg H x d') (f : fitT d' = true) : SameB H 8 (.ref F) (.ref A) true := by
  have q : SameB H 8 (.ref F) (.ref A) ([true, true].all id) := SameB.lst hF hA rfl rfl (by show 2 ≤ 10000; decide) (fun i y z b hy hz hb => by
    match i, hy, hz, hb with
    | 0, hy, hz, hb =>
      cases hy
      cases hz
      cases hb
      exact resT_same h1 g wk hx f
    | 1, hy, hz, hb =>
      cases hy
      cases hz
      cases hb
      exact resT_same h2 g wk hx f)
  exact q
/-- with one more item -/
theorem more_thg {H : Hp} {a : Addr} {xs : List V} {ds : List PyData} {cs : List Addr} (q : DatsC H xs ds cs) (n : a ∉ cs) (h : H a = some (.lst xs)) (sh : shortD (.list ds) = true) (f : fitT (.list ds) = true) : Thg (upd H a (.lst (xs ++ [.str "more"]))) (.ref a) (.list (ds ++ [.str "more"])) ∧ fitT (.list (ds ++ [.str "more"])) = true := by
  have q2 : DatsC (upd H a (.lst (xs ++ [.str "more"]))) xs ds cs := DatsC.go (fun b ys e => by
    rw [upd_ne (ne_of e h (by intro z; cases z))]; exact e) _ _ _ (fun b m ys e => by
    have nb : b ≠ a := fun z => n (by rw [← z]; exact m)
    rw [upd_ne nb]; exact e) q
  refine ⟨.inl (.lst trivial upd_same ((DatsC.dats _ _ _ q2).app (.cons (.str _) .nil))), ?_⟩
  unfold shortD at sh
  have l1 := of_decide_eq_true (Bool.and_eq_true_iff.mp sh).1
  have f : fits (.list ds) 5 = true := f
  show fits (.list (ds ++ [.str "more"])) 5 = true
  unfold fits at f ⊢
  have f2 := (Bool.and_eq_true_iff.mp f).2
  refine Bool.and_eq_true_iff.mpr ⟨decide_eq_true (by rw [List.length_append]; show ds.length + 1 ≤ 10000; omega), fitsAll_of fun z hz => ?_⟩
  rcases List.mem_append.mp hz with hz | hz
  · obtain ⟨i, hi⟩ := List.mem_iff_getElem?.mp hz
    exact fitsAll_get f2 hi
  · rw [List.mem_singleton.mp hz]
    unfold fits
    decide +kernel
mutual
theorem DatC.cell {H : Hp} : ∀ (d : PyData) (v : V) (cs : List Addr), DatC H v d cs → ∀ a ∈ cs, H a ≠ none
  | .none, _, _, h => by cases h; intro a m; cases m
  | .bool b, _, _, h => by cases h; intro a m; cases m
  | .int i, _, _, h => by cases h; intro a m; cases m
  | .str x, _, _, h => by cases h; intro a m; cases m
  | .list ds, _, _, h => by
    cases h with
    | lst e q =>
      intro a m
      rcases List.mem_cons.mp m with rfl | m
      · rw [e]; nofun
      · exact DatsC.cell ds _ _ q a m
  | .tuple ds, _, _, h => by
    cases h with
    | tup e q => exact DatsC.cell ds _ _ q
  | .dict _, _, _, h => by cases h
theorem DatsC.cell {H : Hp} : ∀ (ds : List PyData) (vs : List V) (cs : List Addr), DatsC H vs ds cs → ∀ a ∈ cs, H a ≠ none
  | [], _, _, h => by cases h; intro a m; cases m
  | d :: ds, _, _, h => by
    cases h with
    | cons x y =>
      intro a m
      rcases List.mem_append.mp m with m | m
      · exact DatC.cell d _ _ x a m
      · exact DatsC.cell ds _ _ y a m
end
theorem ThC.cell {H : Hp} {v : V} {d : PyData} {cs : List Addr} (h : ThC H v d cs) : ∀ a ∈ cs, H a ≠ none := by
  cases h with
  | dat h => exact DatC.cell _ _ _ h
  | dic e => intro a m; cases m
theorem ThsC.cell {H : Hp} : ∀ {vs : List V} {ds : List PyData} {cs : List Addr}, ThsC H vs ds cs → ∀ a ∈ cs, H a ≠ none
  | _, _, _, .nil => by intro a m; cases m
  | _, _, _, .cons x y => by
    intro a m
    rcases List.mem_append.mp m with m | m
    · exact x.cell a m
    · exact y.cell a m
theorem Fz.putN {p a : Addr} {H0 G H : Hp} {o : HO} (h : Fz p H0 H) (g : Fz p H0 G) (n : G a = none) : Fz p H0 (upd H a o) := fun b u ne hb nn => by
  by_cases z : b = a
  · have := g b u ne hb nn
    rw [z, n] at this
    cases this
  · rw [upd_ne z]
    exact h b u ne hb nn
theorem tup_put {H : Hp} {a : Addr} {xs ys : List V} (h : H a = some (.lst xs)) : ∀ b zs, H b = some (.tup zs) → (upd H a (.lst ys)) b = some (.tup zs) := fun b zs e => by
  rw [upd_ne (ne_of e h (by intro z; cases z))]
  exact e
end Sm
namespace Sm
open PySem PySem.Spec PyProof.Rows L2
abbrev slaw : Stmt := top 47
theorem sclaw : FnScope ["_law_script", "_law_state", "_law_turn", "_law_kind_rows", "_law_schema", "_law_due", "_law_told", "_law_cells", "_law_found", "_law_server", "_law_x", "_law_cell"] ["_law_script"] (defScope slaw) := ⟨rfl, rfl, rfl, by decide +kernel, rfl, by decide +kernel, by decide +kernel⟩

abbrev sBadResource_init : Stmt := inClass (top 16) 0
theorem scBadResource_init : FnScope ["self", "resource"] ["self", "resource"] (defScope sBadResource_init) := ⟨rfl, rfl, rfl, by decide +kernel, rfl, by decide +kernel, by decide +kernel⟩

abbrev QN : Str := (("law" : Str) ++ (".<locals>." : Str)) ++ ("<lambda>" : Str)
structure TxtM (mg : Str → Option Value) : Prop where
  range : mg "range" = none
  tuple : mg "tuple" = none
  all : mg "all" = none
  isinstance : mg "isinstance" = none
  list : mg "list" = none
section
variable {P : Program} {w : World} {K : PySem.W.Frag} {mg : Str → Option Value} {base : Heap}
theorem ok_BadResource_init (T : OexC K (He.ga K "BadResource")) (no : PySem.W.findIn K (.ref (He.ga K "BadResource")) "resource" = some none) {f : Addr} {fd : FuncData} (F : FunD K "__init__" "BadResource.__init__" (defArgs sBadResource_init) (defBody sBadResource_init) (defScope sBadResource_init) [] [] f fd) : FnOk P w K mg base CX0 1 f fd ["self", "resource"] (spR1 (He.ga K "BadResource") "resource") :=
  F.ok scBadResource_init (fun vs H Q E h => by
    obtain ⟨a, v, rfl, _⟩ := h
    rfl) fun cdv A outer s H vs Q E hr h => ⟨_, PSs.nox (pss_one (ps_ost (pv 0) (pv 1))), read_R1 rfl T no h⟩
theorem ok_law (T : TxtM mg) (SV : OwnK K (SVC K)) (SS : OwnK K (SC K)) (CP : OwnK K (CPC K)) (p1 : NoAttr K (CPC K) "resource") (p2 : NoAttr K (CPC K) "moment") (m0 : mg "BadResource" = some (.ref (He.ga K "BadResource"))) (x0 : XfC K (He.ga K "BadResource")) (n0 : PySem.W.findIn K (.ref (He.ga K "BadResource")) "resource" = some none)
    (ex : PySem.W.exmOne K (.ref (He.ga K "BadResource")) (.ref (He.ga K "BadResource")) = some true) (hfnCp : ∀ f, PySem.W.findIn K (.ref (CPC K)) "__getitem__" = some (some (.ref f)) → PySem.W.fnIn K f = true) {ft : Addr} {fdt : FuncData} (Ft : FnP K "_law_tried" s_law_tried ft fdt) (hBt : Binds K fdt ["_law_ask"] []) (hmt : mg "_law_tried" = some (.ref ft))
    {f : Addr} {fd : FuncData} (F : FnP K "law" slaw f fd) {ct Pt : Addr} (hcd : fd.code = .ref ct) (TB : LamX.TabB base mg ct Pt)
    (c_law_fresh : Cal P w K mg base CX0 1 "_law_fresh" (spFresh K)) (c_law_kinds : Cal P w K mg base CX0 4 "_law_kinds" spKinds) (c_law_schema_of : Cal P w K mg base CX0 7 "_law_schema_of" (spSchemaOf K)) (c_law_things : Cal P w K mg base CX0 4 "_law_things" spThings) (c_law_is_resource : Cal P w K mg base CX0 1 "_law_is_resource" spIsResL)
    (c_law_kind_at : Cal P w K mg base CX0 1 "_law_kind_at" spKindAt) (c_law_same : Cal P w K mg base CX0 8 "_law_same" (spSame 8)) (cSv : MkC P w K mg base 1 "Server" (SVC K) (spSvInit K) ["schema"]) (cSv_handled : PropM P w K mg base (SVC K) 1 "handled" (spHandled K)) (cS_isres : OwM P w K mg base (SC K) 5 "is_resource" (spSIsRes K))
    (cSv_readX : OwMX P w K mg base (SVC K) 6 "read" (spReadX K)) (cSv_latestX : OwMKX P w K mg base (SVC K) 7 "latest" (spReadX K) ["resource"]) (cCp_get : OwM P w K mg base (CPC K) 2 "__getitem__" (spCpGet K)) :
    FnOk P w K mg base CX0 12 f fd ["_law_script"] (spLawT K [(ct, Pt)]) := by
  refine okCode F sclaw (fun vs H Q E h => ?_) (fun cdv A outer s H vs Q E hcode hr h => ?_)
  · obtain ⟨a, ns, rfl, _⟩ := h
    rfl
  · rw [hcd] at hcode
    obtain ⟨a, ns, rfl, hS, hl, hP, kk⟩ := h
    refine ⟨_, PSs.nox (pss_cons (ps_set (i := 1) sclaw.nd rfl (Or.inl rfl) (pe_c c_law_fresh hr (by first | decide | omega) (by rfl) (pa_cons (pv 0) pa_nil)))
  (pss_cons (ps_for PassesOwn.never rfl (pi_range1 (by rfl) T.range (pa_cons pe_int pa_nil)) (pg_name (i := 2) sclaw.nd rfl (Or.inl rfl)) (pss_cons (ps_set (i := 3) sclaw.nd rfl (Or.inl rfl) (pe_c c_law_kinds hr (by first | decide | omega) (by rfl) (pa_cons (pv 1) (pa_cons pe_int pa_nil))))
  (pss_cons (ps_set (i := 4) sclaw.nd rfl (Or.inl rfl) (pe_c c_law_schema_of hr (by first | decide | omega) (by rfl) (pa_cons (pv 3) pa_nil)))
  (pss_cons (ps_set (i := 9) sclaw.nd rfl (Or.inr rfl) (pe_mkK cSv hr (by decide) (by rfl) (pa_cons (pv 4) pa_nil)))
  (pss_one (ps_for PassesOwn.never rfl (pi_listK (K := K) (pe_c c_law_things hr (by first | decide | omega) (by rfl) (pa_cons (pv 1) (pa_cons (pv 3) pa_nil)))) (pg_name (i := 10) sclaw.nd rfl (Or.inr rfl)) (pss_cons (ps_set (i := 5) sclaw.nd rfl (Or.inl rfl) (pe_c c_law_is_resource hr (by first | decide | omega) (by rfl) (pa_cons (pv 3) (pa_cons (pv 10) pa_nil))))
  (pss_cons (ps_if (pt_not (pt_val (pe_c c_law_same hr (by first | decide | omega) (by rfl) (pa_cons (pe_lst (pa_cons (pe_om (pv 4) SS.cls cS_isres hr (by decide) (pa_cons (pv 10) pa_nil)) (pa_cons (pe_propO cSv_handled SV.cls hr (by decide) (pv 9)) pa_nil))) (pa_cons (pe_lst (pa_cons (pv 5) (pa_cons pe_int pa_nil))) pa_nil))))) (pss_one (ps_ret pe_bl)) pss_nil)
  (pss_cons (ps_set (i := 6) sclaw.nd rfl (Or.inl rfl) (pe_ifExp (pt_val (pv 5)) (pe_tup (pa_cons pe_str (pa_cons (pe_callTy (call_tupleK (K := K)) (by rfl) T.tuple (by decide +kernel) (pa_cons (pv 10) pa_nil)) (pa_cons pe_int pa_nil)))) (pe_tup (pa_cons pe_str (pa_cons (pv 10) pa_nil)))))
  (pss_cons (ps_set (i := 7) sclaw.nd rfl (Or.inl rfl) (pe_ifExp (pt_val (pv 5)) (pe_ix (ix_tupK (K := K)) (pe_c c_law_kind_at hr (by first | decide | omega) (by rfl) (pa_cons (pv 3) (pa_cons (pe_ix (ix_both (K := K)) (pv 10) pe_int (fun _ _ => rfl)) pa_nil))) pe_int (fun _ _ => rfl)) (pe_lst pa_nil)))
  (pss_cons (ps_if (pt_not (pt_val (pe_callB (call_allK (K := K) rfl) (by rfl) T.all (by decide +kernel) (pa_cons (pe_lc (own := [("_law_cell", 11)]) (g := (gName 11)) rfl sclaw.nd (pi_listK (K := K) (pv 7)) (blkOk_by (own := [("_law_cell", 11)]) (N := ["_law_script", "_law_state", "_law_turn", "_law_kind_rows", "_law_schema", "_law_due", "_law_told", "_law_cells", "_law_found", "_law_server", "_law_x", "_law_cell"]) (sc := defScope slaw) (by decide +kernel)) (fun _ _ _ _ _ => (pg_name (i := 11) sclaw.nd rfl (Or.inl rfl) (hf := Or.inr rfl))) (fun _ _ _ _ _ => pts_nil) (fun _ _ _ _ _ => (pe_cmpR op_eq (pe_ownGet (pe_om (pv 9) SV.cls cSv_readX.zero hr (by decide) (pa_cons (pv 10) pa_nil)) (pv 11) cCp_get hfnCp (hr.mono (by decide)) (by intro _ _; with_unfolding_all rfl)) pe_int (nomark _)))) pa_nil)))) (pss_one (ps_ret pe_bl)) pss_nil)
  (pss_cons (ps_set (i := 8) sclaw.nd rfl (Or.inl rfl) (pe_lst (pa_cons (pe_lamTo (K := K) (k := 8) (T := [(Pt, QN)]) rfl Ft hBt hmt (by rfl) sc_law_tried rfl (.inl rfl) (fun cdv => tried_gives CP p1 p2 m0 x0 n0) TB hcode (List.mem_singleton.mpr (congrArg (fun z : Str => (Pt, z ++ ("<lambda>" : Str))) (rfl : _ = ("law" : Str) ++ (".<locals>." : Str)))) (fun p hp _ => (congrArg Prod.snd (List.mem_singleton.mp hp)).trans (congrArg (fun z : Str => z ++ ("<lambda>" : Str)) (rfl : ("law" : Str) ++ (".<locals>." : Str) = _))) (hr.mono (by decide)) (fun A outer s H E f c' hr2 => (pe_omX (pv 9) SV.cls cSv_readX hr2 (by decide) (takes_of rfl rfl rfl rfl) (pa_cons (pv 10) pa_nil))) (by show LamX.lamSB (defScope slaw) _ = true; decide +kernel)) pa_nil)))
  (pss_cons (ps_expr (pe_bmK (K := K) PySem.F.plainAttrs_list PySem.F.slot_list_append PySem.F.type_list_append mt_append (pv 8) (pa_cons (pe_lamTo (K := K) (k := 8) (T := [(Pt, QN)]) rfl Ft hBt hmt (by rfl) sc_law_tried rfl (.inl rfl) (fun cdv => tried_gives CP p1 p2 m0 x0 n0) TB hcode (List.mem_singleton.mpr (congrArg (fun z : Str => (Pt, z ++ ("<lambda>" : Str))) (rfl : _ = ("law" : Str) ++ (".<locals>." : Str)))) (fun p hp _ => (congrArg Prod.snd (List.mem_singleton.mp hp)).trans (congrArg (fun z : Str => z ++ ("<lambda>" : Str)) (rfl : ("law" : Str) ++ (".<locals>." : Str) = _))) (hr.mono (by decide)) (fun A outer s H E f c' hr2 => (pe_omkX (pv 9) SV.cls cSv_latestX hr2 (by decide) (takes_of rfl rfl rfl rfl) (pk_cons (pv 10) pk_nil))) (by show LamX.lamSB (defScope slaw) _ = true; decide +kernel)) pa_nil)))
  (pss_cons (ps_if (pt_val (pe_callB (call_isiK' (K := K)) (by rfl) T.isinstance (by decide +kernel) (pa_cons (pv 10) (pa_cons (pe_bltn (v := .ty "list") (u := .type "list") (by rfl) T.list (by decide +kernel) rfl) pa_nil)))) (pss_one (ps_expr (pe_bmK (K := K) PySem.F.plainAttrs_list PySem.F.slot_list_append PySem.F.type_list_append mt_append (pv 10) (pa_cons pe_str pa_nil)))) pss_nil)
  (pss_one (ps_if (pt_not (pt_val (pe_c c_law_same hr (by first | decide | omega) (by rfl) (pa_cons (pv 8) (pa_cons (pe_lst (pa_cons (pv 6) (pa_cons (pv 6) pa_nil))) pa_nil))))) (pss_one (ps_ret pe_bl)) pss_nil))))))))))))))))
  (pss_one (ps_ret pe_bl)))), ?_⟩
    refine st_seq2 (asg_any ⟨_, rfl, a, ns, rfl, hS, hl, fun p c H1 n1' n2' s1 D1 => ?_⟩)
    dsimp only
    have tb1 : LamX.Tabs [(Pt, QN)] H1 := (tabs_nil (hP _ (List.mem_singleton.mpr rfl))).ext s1
    clear hS hl hP n1' n2' s1
    refine st_seq2 ⟨(5 : Int), rfl, by decide, by decide, for_range (lo := 0) (n := 5) (fun i σ' H' => (∃ v2 v3 v4 v5 v6 v7 v8 v9 v10 v11 : Option V, σ' = [some (.ref a), some (.ref p), v2, v3, v4, v5, v6, v7, v8, v9, v10, v11]) ∧ Dr H' p c ∧ LamX.Tabs [(Pt, QN)] H') ⟨⟨_, _, _, _, _, _, _, _, _, _, rfl⟩, D1, tb1⟩ ?_ ?_⟩
    · rintro i σ' H2 hi ⟨⟨v2, v3, v4, v5, v6, v7, v8, v9, v10, v11, rfl⟩, D2, tb2⟩
      refine st_seq2 (asg_any ⟨_, rfl, p, c, 3, rfl, D2, by decide, by decide, fun LK ks H3 n3 o3 D3 ra k1 k4 nd gk => ?_⟩)
      dsimp only
      have tb3 := tabs_nl tb2 (Nl.off D2 o3)
      have wk : ∀ r ∈ ks, wordB r.1 = true := fun r hr => (gk r hr).ascRow.nm
      refine st_seq2 (asg_any ⟨_, rfl, LK, ks, rfl, ra, ⟨nd, k1, k4, fun r h => (gk r h).ascRow⟩, fun S H4 nS s4 so => ?_⟩)
      dsimp only
      refine st_seq2 (asg_any ⟨_, rfl, fun sv dx nsv ndx ne => ⟨sv, dx, S, rfl, upd_same, fun Lu Ds H5 nLu nDs keep hx hLu hDs => ⟨rfl, ?_⟩⟩⟩)
      dsimp only
      have s45 : Same H4 H5 := fun b o e => keep b o (ne_of_none e nsv) (by rw [upd_ne (ne_of_none e nsv), upd_ne (ne_of_none e ndx)]; exact e)
      have ra5 := (ra.on s4).on s45
      have so5 := so.on s45
      have D5 := (D3.same s4).same s45
      have tb5 := (tb3.ext s4).ext s45
      have svo : SvO K H5 sv ks := ⟨⟨dx, S, Lu, Ds, hx, so5, hLu, hDs⟩, fun r hr => by have := (gk r hr).ascRow.l4; omega⟩
      clear hx hLu hDs keep nLu nDs nsv ndx ne so s4 s45 nS ra D3 tb3 o3 D2 tb2 n3 Lu Ds dx H4 H3 H2
      refine ⟨_, rfl, _, rfl, p, c, LK, ks, rfl, D5, ra5, k1, k4, wk, fun L xs ds cs H6 nL o6 D6 hL th nod new ok16 l16 => ⟨L, rfl, ⟨_, SqL.of hL⟩, for_list (xs := xs) (fun j σ' H' => (∃ v2 v5 v6 v7 v8 v10 v11 : Option V, σ' = [some (.ref a), some (.ref p), v2, some (.ref LK), some (.ref S), v5, v6, v7, v8, some (.ref sv), v10, v11]) ∧ Fz p H5 H' ∧ Dr H' p c ∧ LamX.Tabs [(Pt, QN)] H' ∧ H' L = some (.lst xs) ∧ ∃ dr cr, ThsC H' (xs.drop j) dr cr ∧ cr.Nodup ∧ (∀ a ∈ cr, a ∈ cs) ∧ (∀ d ∈ dr, okT d = true))
        ⟨⟨_, _, _, _, _, _, _, rfl⟩, Fz.of_off o6, D6, tabs_nl tb5 (Nl.off D5 o6), hL, ds, cs, by rw [List.drop_zero]; exact th, nod, fun a h => h, ok16⟩ (fun j σ' H' _ q => SqL.of q.2.2.2.2.1) ?_ ?_⟩⟩
      · rintro j x σ' H7 hz ⟨⟨v2, v5, v6, v7, v8, v10, v11, rfl⟩, fz7, D7, tb7, hL7, dr, cr, th7, nod7, sub7, ok7⟩
        have hj := (List.getElem?_eq_some_iff.mp hz).1
        have ed : xs.drop j = x :: xs.drop (j + 1) := by
          rw [List.drop_eq_getElem_cons hj]
          congr 1
          exact Option.some.inj ((List.getElem?_eq_getElem hj).symm.trans hz)
        obtain ⟨d, dr', c1, c2, rfl, rfl, tx, trest⟩ := th7.uncons ed
        have okd := ok7 d (List.mem_cons_self ..)
        have sh := okT_short okd
        have fd' := okT_fits okd
        -- what stands at any heap
        have at_ : ∀ {H'}, Fz p H5 H' → RowsAt H' LK ks ∧ SchO K H' S ks ∧ SvO K H' sv ks := fun {H'} fz => by
          obtain ⟨G, e1, e2⟩ := fz.split
          exact ⟨(ra5.off D5 e1).en e2, (so5.off D5 e1).en e2, (svo.off D5 e1).en e2⟩
        dsimp only
        obtain ⟨ra7, so7, sv7⟩ := at_ fz7
        refine st_seq2 (asg_any ⟨_, rfl, _, rfl, LK, ks, x, d, rfl, ra7, wk, k4, tx.thg, fun Ha sa => ?_⟩)
        dsimp only
        have fza := fz7.same sa
        obtain ⟨raa, soa, sva⟩ := at_ fza
        have txa := tx.go (Kp.of_same sa (cs := c1)) (fun _ h => h)
        obtain ⟨⟨du, tu, xu, hu1, _⟩, _, _⟩ := id soa
        have svb' : ∀ {H'}, Fz p H5 H' → ∃ dxs fs, H' sv = some (.ins (SVC K) dxs fs) ∧ List.lookup ("read" : Str) fs = none ∧ List.lookup ("latest" : Str) fs = none := fun {H'} fz => by
          obtain ⟨_, _, ⟨dxs, uS, uL, uD, hsv, _⟩, _⟩ := at_ fz
          exact ⟨dxs, _, hsv, rfl, rfl⟩
        refine st_seq2 ⟨_, rfl, S, du, _, rfl, hu1, rfl, _, rfl, S, ks, x, d, rfl, soa, txa.thg, sh, fun Hb sb => ?_⟩
        have fzb := fza.same sb
        obtain ⟨rab, sob, svb⟩ := at_ fzb
        obtain ⟨⟨dxs, uS, uL, uD, hsv, _⟩, _⟩ := id svb
        refine ⟨_, rfl, sv, dxs, _, rfl, hsv, sv, ks, rfl, svb, (by show 2 ≤ sizeLine; decide), fun A1 nA1 => ⟨_, rfl, (by show 2 ≤ sizeLine; decide), fun A2 nA2 => ⟨_, _, true, rfl, same_dat (Z := fun _ => True) (Z' := fun _ => True) (.list [.bool (resD ks d).isSome, .int 0]) 7 _ _ rfl (.lst trivial (by rw [upd_ne (ne_of_none upd_same nA2)]; exact upd_same) (.cons (.bl _) (.cons (.int _) .nil))) (.lst trivial upd_same (.cons (.bl _) (.cons (.int _) .nil))), fun Hc sc => ⟨_, rfl, ifN (by nofun) ?_⟩⟩⟩⟩
        dsimp only [tNext]
        have s7c : Same Ha Hc := sb.trans ((Same.new nA1).trans ((Same.new nA2).trans sc))
        have fzc := fza.same s7c
        have txc := txa.go (Kp.of_same s7c (cs := c1)) (fun _ h => h)
        have tbc := (tb7.ext sa).ext s7c
        have Dc := (D7.same sa).same s7c
        have hLc := s7c _ _ (sa _ _ hL7)
        have thc := (trest.go (Kp.of_same sa (cs := c2)) (fun _ h => h)).go (Kp.of_same s7c) (fun _ h => h)
        clear hsv hu1
        -- what is due
        have told : ∀ (σ : L2.St) (Q : VK), σ[5]? = some (some (.bl (resD ks d).isSome)) → σ[10]? = some (some x) → (∀ M H8, Same Hc H8 → ResT ks d x H8 M → Q (.ref M) H8) →
            tIf (tB (tVar 5)) (tTup (tCons (tC (V.str "copy")) (tCons (tCB (rTupOf K) (tCons (tVar 10) tNil)) (tCons (tC (V.int 0)) tNil)))) (tTup (tCons (tC (V.str "refused")) (tCons (tVar 10) tNil))) σ Hc Q := by
          intro σ Q h5 h10 k
          refine ⟨_, h5, _, rfl, ?_⟩
          cases e : resD ks d with
          | some q =>
            obtain ⟨b, u, w', ex, ha, hx, hy⟩ := txc.thg.pair (rpD_pair (resD_row e).1).1
            obtain ⟨qx, qn⟩ := q
            cases hx
            cases hy
            refine ifY rfl ⟨x, h10, b, [.str qx, .int qn], by rw [ex], ?_⟩
            rcases ha with ha | ha
            · exact .inl ⟨SqL.of ha, fun t nt => ⟨(by show 3 ≤ sizeLine; decide), fun M nM => k M _ ((Same.new nt).trans (Same.new nM)) (by unfold ResT; rw [e]; exact ⟨t, upd_same, (Same.new nM) _ _ upd_same⟩)⟩⟩
            · exact .inr ⟨SqT.of ha, ⟨(by show 3 ≤ sizeLine; decide), fun M nM => k M _ (Same.new nM) (by unfold ResT; rw [e]; exact ⟨b, upd_same, (Same.new nM) _ _ ha⟩)⟩⟩
          | none => exact ifN (by nofun) ⟨x, h10, (by show 2 ≤ sizeLine; decide), fun M nM => k M _ (Same.new nM) (by unfold ResT; rw [e]; exact upd_same)⟩
        refine st_seq2 (asg_any (told _ _ rfl rfl fun M H8 s8 rM => ?_))
        clear told
        have fz8 := fzc.same s8
        have tx8 := txc.go (Kp.of_same s8 (cs := c1)) (fun _ h => h)
        obtain ⟨ra8, so8, sv8⟩ := at_ fz8
        have cells : ∀ (σ : L2.St) (Q : VK), σ[5]? = some (some (.bl (resD ks d).isSome)) → σ[10]? = some (some x) → σ[3]? = some (some (.ref LK)) → (∀ (Lc : Addr) (ws : List Str) (H9 : Hp), Same H8 H9 → H9 Lc = some (.lst (ws.map V.str)) → (ws = [] ∨ ∃ (q : Str × Int) (i : Nat) (r : Row), resD ks d = some q ∧ ks[i]? = some r ∧ r.1 = q.1 ∧ ws = r.2.1) → Q (.ref Lc) H9) →
            tIf (tB (tVar 5)) (tOp (rIxT K) (tCall spKindAt [] E0 (tCons (tVar 3) (tCons (tOp (rIxE K) (tVar 10) (tC (V.int 0))) tNil))) (tC (V.int 1))) (tLst tNil) σ H8 Q := by
          intro σ Q h5 h10 h3 k
          refine ⟨_, h5, _, rfl, ?_⟩
          cases e : resD ks d with
          | some q =>
            obtain ⟨e1, i, r, hi, er, _⟩ := resD_row e
            obtain ⟨b, u, w', ex, ha, hx, hy⟩ := tx8.thg.pair (rpD_pair e1).1
            obtain ⟨qx, qn⟩ := q
            cases hx
            cases hy
            refine ifY rfl ⟨_, h3, x, h10, b, _, 0, _, by rw [ex], rfl, ha.imp SqL.of SqT.of, rfl, LK, ks, i, r, (by rw [er]; rfl), ra8, nd, k4, hi, fun t H9 s9 rt => ?_⟩
            obtain ⟨ci, g1, g2⟩ := rt
            exact ⟨t, _, 1, _, rfl, rfl, SqT.of g1, rfl, k ci r.2.1 H9 s9 g2 (.inr ⟨_, i, r, e, hi, er, rfl⟩)⟩
          | none => exact ifN (by nofun) ⟨(by show 0 ≤ sizeLine; decide), fun A nA => k A [] _ (Same.new nA) upd_same (.inl rfl)⟩
        refine st_seq2 (asg_any (cells _ _ rfl rfl rfl fun Lc ws H9 s9 hLc9 hws => ?_))
        clear cells
        have fz9 := fz8.same s9
        obtain ⟨ra9, so9, sv9⟩ := at_ fz9
        have tx9 := tx8.go (Kp.of_same s9 (cs := c1)) (fun _ h => h)
        refine st_seq2 ⟨_, rfl, Lc, rfl, ⟨_, SqL.of hLc9⟩, fun B nB => lc_list (xs := ws.map V.str) (fun j H10 => Same H9 H10 ∧ H10 B = some (.lst (((ws.take j).map fun _ => true).map V.bl))) ⟨Same.new nB, upd_same⟩ (fun j H10 _ q => SqL.of (q.1 _ _ hLc9)) ?_ ?_⟩
        · rintro j' z H10 hz' ⟨s10, hB⟩
          rw [List.getElem?_map] at hz'
          obtain ⟨wd, hwd, rfl⟩ := Option.map_eq_some_iff.mp hz'
          obtain ⟨q, i0, r, eq, hi0, er, rfl⟩ : ∃ (q : Str × Int) (i : Nat) (r : Row), resD ks d = some q ∧ ks[i]? = some r ∧ r.1 = q.1 ∧ ws = r.2.1 := by
            rcases hws with e | h
            · rw [e] at hwd; cases hwd
            · exact h
          have fz10 := fz9.same s10
          obtain ⟨_, _, sv10⟩ := at_ fz10
          obtain ⟨dxs, fs, hsv, l1, _⟩ := svb' fz10
          refine ⟨rfl, ?_⟩
          refine ⟨_, rfl, sv, dxs, fs, rfl, hsv, l1, _, rfl, sv, ks, x, d, rfl, sv10, (tx9.go (Kp.of_same s10 (cs := c1)) (fun _ h => h)).thg, sh, .inl ⟨q, i0, r, eq, hi0, er, fun cp H11 ncp s11 hcp => ?_⟩⟩
          obtain ⟨dxc, tc, st, hc1, hc2, hc3⟩ := id hcp
          refine ⟨_, rfl, cp, dxc, _, rfl, hc1, cp, q, r.2.1, wd, rfl, hcp, List.mem_of_getElem? hwd, ⟨rfl, _, s11 _ _ hB, ?_, fun b o e => ?_, ?_⟩⟩
          · rw [List.length_map, List.length_map]
            have := List.length_take_le' j' r.2.1
            have := (gk r (List.mem_of_getElem? hi0)).ascRow.l4
            exact lenK (by omega)
          · rw [upd_ne (ne_of_none e nB)]
            exact s11 _ _ (s10 b o e)
          · rw [upd_same, take_step hwd, List.map_append, List.map_append]
            rfl
        rintro H10 ⟨s10, hB⟩
        rw [List.length_map, List.take_length] at hB
        refine ⟨B, _, rfl, SqL.of hB, _, rfl, ?_⟩
        rw [all_true]
        refine ifN (by nofun) ?_
        dsimp only [tNext]
        have s8x := s8.trans (s9.trans s10)
        have fz10 := fzc.same s8x
        have tx10 := txc.go (Kp.of_same s8x (cs := c1)) (fun _ h => h)
        have tb10 := tbc.ext s8x
        have D10 := Dc.same s8x
        have hL10 := s8x _ _ hLc
        have th10 := thc.go (Kp.of_same s8x (cs := c2)) (fun _ h => h)
        have rM10 := rM.go (fun _ _ h => (s9.trans s10) _ _ h)
        -- a lambda's call
        have core : ∀ (H G : Hp) (Q : VK) (T0 : Addr), H T0 = none → G = upd H T0 (.tup [.str "odd"]) → SvO K H sv ks → Thg H x d → (∀ T H', Same H H' → ResT ks d x H' T → Q (.ref T) H') → spReadX K [.ref sv, x] G (fun v H' => ∃ a dx t m st, v = .ref a ∧ H' a = some (.ins (CPC K) dx [("resource", t), ("moment", m), ("state", st)]) ∧ ∀ T, H' T = none → Q (.ref T) (upd H' T (.tup [.str "copy", t, m]))) (EchT K Q [(He.ga K "BadResource", "resource", "refused")]) := by
          intro H G Q T0 nT0 eG hs ht k
          have s0 : Same H G := by rw [eG]; exact Same.new nT0
          refine ⟨sv, ks, x, d, rfl, hs.on s0, ht.on s0, sh, ?_⟩
          cases e : resD ks d with
          | some q =>
            obtain ⟨_, i', r, hi', er, _⟩ := resD_row e
            refine .inl ⟨q, i', r, rfl, hi', er, fun cp H' nc sc hcp => ?_⟩
            obtain ⟨dxc, t, st, h1, h2, h3⟩ := hcp
            exact ⟨cp, dxc, .ref t, .int 0, .ref st, rfl, h1, fun T nT => k T _ ((s0.trans sc).trans (Same.new nT)) (by unfold ResT; rw [e]; exact ⟨t, upd_same, (Same.new nT) _ _ h2⟩)⟩
          | none => exact .inr ⟨rfl, fun dd H' nd' s' hd' => ⟨true, ex, fun _ => ⟨dd, _, x, rfl, rfl, hd', rfl, fun T nT => k T _ ((s0.trans s').trans (Same.new nT)) (by unfold ResT; rw [e]; exact upd_same)⟩, fun h => by cases h⟩⟩
        have coreR : ∀ (σ : L2.St) (H : Hp) (Q : VK), σ[9]? = some (some (.ref sv)) → σ[10]? = some (some x) → Fz p H5 H → ThC H x d c1 → (∀ T H', Same H H' → ResT ks d x H' T → Q (.ref T) H') → TTcp K (fun E H' Q' => tMeth (SVC K) "read" (spReadX K) [] E (tVar 9) (tCons (tVar 10) tNil) σ H' Q') H Q := by
          intro σ H Q h9 h10 fz tx k T0 nT0
          obtain ⟨dx1, fs1, hsv1, lr1, _⟩ := svb' fz
          obtain ⟨_, _, sv1⟩ := at_ fz
          exact ⟨_, h9, sv, dx1, fs1, rfl, (Same.new nT0) _ _ hsv1, lr1, _, h10, core H _ Q T0 nT0 rfl sv1 tx.thg k⟩
        have coreL : ∀ (σ : L2.St) (H : Hp) (Q : VK), σ[9]? = some (some (.ref sv)) → σ[10]? = some (some x) → Fz p H5 H → ThC H x d c1 → (∀ T H', Same H H' → ResT ks d x H' T → Q (.ref T) H') →
            TTcp K (fun E H' Q' => tVar 9 σ H' fun x H1 => ∃ a dx fs, x = V.ref a ∧ H1 a = some (HO.ins (SVC K) dx fs) ∧ List.lookup ("latest" : Str) fs = none ∧ tCons (tVar 10) tNil σ H1 fun zs H2 => zs.length = (["resource"] : List Str).length ∧ spReadX K (x :: zs) H2 Q' E) H Q := by
          intro σ H Q h9 h10 fz tx k T0 nT0
          obtain ⟨dx1, fs1, hsv1, _, lr1⟩ := svb' fz
          obtain ⟨_, _, sv1⟩ := at_ fz
          exact ⟨_, h9, sv, dx1, fs1, rfl, (Same.new nT0) _ _ hsv1, lr1, _, h10, rfl, core H _ Q T0 nT0 rfl sv1 tx.thg k⟩
        refine st_seq2 (asg_any ?_)
        refine ⟨tb10, fun H12 en11 tb12 => coreR _ _ _ rfl rfl (fz10.ext en11) (tx10.go (Kp.of_ext en11 (cs := c1)) (fun _ h => h)) fun T1 H13 s13 r1 => ⟨(by show 1 ≤ sizeLine; decide), fun F nF => ?_⟩⟩
        dsimp only
        have s14 : Same H12 (upd H13 F (.lst [.ref T1])) := s13.trans (Same.new nF)
        have hF : (upd H13 F (.lst [.ref T1])) F = some (.lst [.ref T1]) := upd_same
        have r14 := r1.go (fun _ _ h => (Same.new (o := .lst [.ref T1]) nF) _ _ h)
        generalize upd H13 F (.lst [.ref T1]) = H14 at *
        have fz14 := (fz10.ext en11).same s14
        have tx14 := (tx10.go (Kp.of_ext en11 (cs := c1)) (fun _ h => h)).go (Kp.of_same s14) (fun _ h => h)
        have tb14 := tb12.ext s14
        have D14 := (D10.en en11).same s14
        have hL14 := s14 _ _ (en11 _ _ hL10 (fun _ z => by cases z))
        have th14 := (th10.go (Kp.of_ext en11 (cs := c2)) (fun _ h => h)).go (Kp.of_same s14) (fun _ h => h)
        have rM14 := rM10.go (fun _ _ h => s14 _ _ (en11 _ _ h (fun _ z => by cases z)))
        have fz13 : Fz p H5 H13 := (fz10.ext en11).same s13
        have F2 : F ∉ c2 := fun m => ((th10.go (Kp.of_ext en11 (cs := c2)) (fun _ h => h)).go (Kp.of_same s13) (fun _ h => h)).cell F m nF
        have F1 : F ∉ c1 := fun m => ((tx10.go (Kp.of_ext en11 (cs := c1)) (fun _ h => h)).go (Kp.of_same s13) (fun _ h => h)).cell F m nF
        have D13 := (D10.en en11).same s13
        have Fp := D13.ne nF
        have Fc := D13.nec nF
        have FL : F ≠ L := fun z => by
          have := s13 _ _ (en11 _ _ hL10 (fun _ z => by cases z))
          rw [← z, nF] at this
          cases this
        refine st_seq2 ⟨_, rfl, .inl ⟨rfl, _, SqL.of hF⟩, ⟨tb14, fun H15 en15 tb15 => coreL _ _ _ rfl rfl (fz14.ext en15) (tx14.go (Kp.of_ext en15 (cs := c1)) (fun _ h => h)) fun T2 H16 s16 r2 => ⟨F, [.ref T1], .ref T2, rfl, rfl, s16 _ _ (en15 _ _ hF (fun _ z => by cases z)), lenK (by show 1 ≤ 1000; decide), ?_⟩⟩⟩
        have hF16 := s16 _ _ (en15 _ _ hF (fun _ z => by cases z))
        have fz17 : Fz p H5 (upd H16 F (.lst ([.ref T1] ++ [.ref T2]))) := ((fz14.ext en15).same s16).putN fz13 nF
        have tx17 : ThC (upd H16 F (.lst ([.ref T1] ++ [.ref T2]))) x d c1 := ((tx14.go (Kp.of_ext en15 (cs := c1)) (fun _ h => h)).go (Kp.of_same s16) (fun _ h => h)).go (Kp.put hF16 F1) (fun _ h => h)
        have th17 : ThsC (upd H16 F (.lst ([.ref T1] ++ [.ref T2]))) (xs.drop (j + 1)) dr' c2 := ((th14.go (Kp.of_ext en15 (cs := c2)) (fun _ h => h)).go (Kp.of_same s16) (fun _ h => h)).go (Kp.put hF16 F2) (fun _ h => h)
        have tb17 : LamX.Tabs [(Pt, QN)] (upd H16 F (.lst ([.ref T1] ++ [.ref T2]))) := tabs_nl (tb15.ext s16) (Nl.put hF16)
        have D17 : Dr (upd H16 F (.lst ([.ref T1] ++ [.ref T2]))) p c := ((D14.en en15).same s16).upd Fp Fc
        have hL17 : (upd H16 F (.lst ([.ref T1] ++ [.ref T2]))) L = some (.lst xs) := by
          rw [upd_ne FL.symm]
          exact s16 _ _ (en15 _ _ hL14 (fun _ z => by cases z))
        have rM17 : ResT ks d x (upd H16 F (.lst ([.ref T1] ++ [.ref T2]))) M := (rM14.go (fun _ _ h => s16 _ _ (en15 _ _ h (fun _ z => by cases z)))).go (tup_put hF16)
        have r117 : ResT ks d x (upd H16 F (.lst ([.ref T1] ++ [.ref T2]))) T1 := (r14.go (fun _ _ h => s16 _ _ (en15 _ _ h (fun _ z => by cases z)))).go (tup_put hF16)
        have r217 : ResT ks d x (upd H16 F (.lst ([.ref T1] ++ [.ref T2]))) T2 := r2.go (tup_put hF16)
        have hF17 : (upd H16 F (.lst ([.ref T1] ++ [.ref T2]))) F = some (.lst [.ref T1, .ref T2]) := upd_same
        generalize upd H16 F (.lst ([.ref T1] ++ [.ref T2])) = H17 at *
        have nod2 : c2.Nodup := (List.nodup_append.mp nod7).2.1
        have sub2 : ∀ a ∈ c2, a ∈ cs := fun a m => sub7 a (List.mem_append_right _ m)
        have ok2 : ∀ d ∈ dr', okT d = true := fun d m => ok7 d (List.mem_cons_of_mem _ m)
        refine st_seq2 ⟨_, rfl, ⟨_, _, _, _, _, rfl, .ty _, (tx17.thg.kind).ty, kit_knd _ .lst, ⟨_, rfl, ?_⟩⟩⟩
        by_cases kl : kD d = .lst
        · rw [kl]
          refine iteT ?_
          cases tx17 with
          | dic e => cases kl
          | dat tx17 =>
            cases tx17 with
            | @lst a0 xs0 ds0 cs0 ha0 q0 =>
              have a0c : a0 ∈ cs := sub7 a0 (List.mem_append_left _ (List.mem_cons_self ..))
              have n1 : a0 ∉ cs0 := (List.nodup_cons.mp (List.nodup_append.mp nod7).1).1
              have n2 : a0 ∉ c2 := fun m => (List.nodup_append.mp nod7).2.2 a0 (List.mem_cons_self ..) a0 m rfl
              have nP := D5.ne (new a0 a0c).1
              have nC := D5.nec (new a0 a0c).1
              have nL0 := (new a0 a0c).2
              have sl : xs0.length ≤ 1000 := by
                have e := (DatsC.dats _ _ _ q0).len
                unfold shortD at sh
                have l1 := of_decide_eq_true (Bool.and_eq_true_iff.mp sh).1
                omega
              obtain ⟨m1, m2⟩ := more_thg q0 n1 ha0 sh fd'
              have nF0 : a0 ≠ F := fun z => F1 (z ▸ List.mem_cons_self ..)
              refine ⟨_, rfl, .inl ⟨rfl, _, SqL.of ha0⟩, ⟨a0, xs0, .str "more", rfl, rfl, ha0, lenK sl, ?_⟩⟩
              have f1 : (upd H17 a0 (.lst (xs0 ++ [.str "more"]))) F = some (.lst [.ref T1, .ref T2]) := by rw [upd_ne nF0.symm]; exact hF17
              refine ⟨_, rfl, _, rfl, _, rfl, (by show 2 ≤ sizeLine; decide), fun A nA => ⟨_, _, true, rfl, resTs_same (d' := .list (ds0 ++ [.str "more"])) ((Same.new nA) _ _ f1) upd_same ((r117.go (tup_put ha0)).go (fun _ _ h => (Same.new nA) _ _ h)) ((r217.go (tup_put ha0)).go (fun _ _ h => (Same.new nA) _ _ h)) ((rM17.go (tup_put ha0)).go (fun _ _ h => (Same.new nA) _ _ h)) wk (m1.on (Same.new nA)) m2, fun Hz sz => ⟨_, rfl, ifN (by nofun) ?_⟩⟩⟩
              have sz' := (Same.new nA).trans sz
              exact ⟨⟨_, _, _, _, _, _, _, rfl⟩, (fz17.put (new a0 a0c).1).same sz', (D17.upd nP nC).same sz', (tabs_nl tb17 (Nl.put ha0)).ext sz', sz' _ _ (by rw [upd_ne nL0.symm]; exact hL17), dr', c2, (th17.go (Kp.put ha0 n2) (fun _ h => h)).go (Kp.of_same sz') (fun _ h => h), nod2, sub2, ok2⟩
            | _ => cases kl
        · have e0 : isi (kD d) .lst = false := by
            cases hk : kD d <;> first | rfl | exact absurd hk kl
          rw [e0]
          refine iteF ?_
          refine ⟨_, rfl, _, rfl, _, rfl, (by show 2 ≤ sizeLine; decide), fun A nA => ⟨_, _, true, rfl, resTs_same ((Same.new nA) _ _ hF17) upd_same (r117.go (fun _ _ h => (Same.new nA) _ _ h)) (r217.go (fun _ _ h => (Same.new nA) _ _ h)) (rM17.go (fun _ _ h => (Same.new nA) _ _ h)) wk (tx17.thg.on (Same.new nA)) fd', fun Hz sz => ⟨_, rfl, ifN (by nofun) ?_⟩⟩⟩
          have sz' := (Same.new nA).trans sz
          exact ⟨⟨_, _, _, _, _, _, _, rfl⟩, fz17.same sz', D17.same sz', tb17.ext sz', sz' _ _ hL17, dr', c2, th17.go (Kp.of_same sz') (fun _ h => h), nod2, sub2, ok2⟩
      · rintro σ' H' ⟨⟨v2, v5, v6, v7, v8, v10, v11, rfl⟩, fz, D', tb', _⟩
        exact ⟨⟨_, _, _, _, _, _, _, _, _, _, rfl⟩, D', tb'⟩
    · rintro σ' H' ⟨⟨v2, v3, v4, v5, v6, v7, v8, v9, v10, v11, rfl⟩, D', tb'⟩
      exact kk H'
end
end Sm
/-! own errors with one field: what the head tells of them -/
namespace Sm
open PySem PySem.Spec PyProof.Rows L2
/-! ### the head: what the classes must say, as one Bool -/
def exoB (C : Addr) (o : Obj) : Bool :=
  match o.cls, o.data, o.slots with
  | .type t, .cls cd, ⟨[_, _, _, _, some (.builtin b), _]⟩ => decide (t = "type") && (decide (b = "ValueError.__new__") && (cd.hasDict && ((!cd.hasDel) && (match cd.mro with
    | .ref m :: bm => decide (m = C) && PySem.HandSPX.refsVE bm
    | _ => false))))
  | _, _, _ => false
theorem exoB_ok {C : Addr} {o : Obj} (h : exoB C o = true) : ∃ nm q N bs bm sn sub ab col dd k0 k1 k2 k3 k5, o = PySem.excClassObj nm q C N bs bm true sn sub ab col dd k0 k1 k2 k3 k5 "ValueError.__new__" ∧ PySem.HandSPX.refsVE bm = true := by
  obtain ⟨oc, dd, da, sl⟩ := o
  unfold exoB at h
  dsimp only at h
  split at h
  · rename_i t cd k0 k1 k2 k3 b k5
    obtain ⟨h1, h⟩ := He.ba h
    obtain ⟨h2, h⟩ := He.ba h
    obtain ⟨h3, h⟩ := He.ba h
    obtain ⟨h4, h⟩ := He.ba h
    obtain ⟨nm, bs, mro, ns, qn, hdct, sn, sub, ab, col, del⟩ := cd
    dsimp only at h h3 h4
    split at h
    · rename_i m bm
      obtain ⟨h5, h6⟩ := He.ba h
      have e1 := of_decide_eq_true h1
      have e2 := of_decide_eq_true h2
      have e5 := of_decide_eq_true h5
      cases del with
      | true => cases h4
      | false =>
        subst e1 e2 e5 h3
        exact ⟨_, _, _, _, _, _, _, _, _, _, _, _, _, _, _, rfl, h6⟩
    · cases h
  · cases h
def oexB (K : PySem.W.Frag) (C : Addr) : Bool := (match List.lookup C K with
    | some o => exoB C o
    | none => false) && (He.eqO (PySem.W.findIn K (.ref C) "__setattr__") (some (some (.builtin "object.__setattr__"))) && (decide (PySem.W.subIn K (.ref C) (.type "BaseException") = some true) && (decide (PySem.W.typeIn K (.ref C) = some (.type "type")) && PySem.W.keepIn K (.ref C))))
theorem oexB_ok {K : PySem.W.Frag} {C : Addr} (h : oexB K C = true) : OexC K C := by
  obtain ⟨h1, h⟩ := He.ba h
  obtain ⟨h2, h⟩ := He.ba h
  obtain ⟨h3, h⟩ := He.ba h
  obtain ⟨h4, h5⟩ := He.ba h
  refine ⟨?_, He.eqO_ok h2, of_decide_eq_true h3, of_decide_eq_true h4, h5⟩
  split at h1
  · rename_i o ho
    obtain ⟨nm, q, N, bs, bm, sn, sub, ab, col, dd, k0, k1, k2, k3, k5, e, hb⟩ := exoB_ok h1
    subst e
    exact ⟨nm, q, N, bs, bm, sn, sub, ab, col, dd, k0, k1, k2, k3, k5, ho, hb⟩
  · cases h1
def iniB (K : PySem.W.Frag) (x : Str) : Bool := He.eqO (PySem.W.findIn K (.ref (He.ga K x)) "__init__") (some (some (.ref (He.ma K (He.ga K x) "__init__")))) && decide (PySem.W.typeIn K (.ref (He.ma K (He.ga K x) "__init__")) = some (.type "function"))
/-- the error's class x, that stores its one argument in f -/
def rzB (K : PySem.W.Frag) (x f : Str) : Bool := oexB K (He.ga K x) && (xfB K (He.ga K x) && (iniB K x && (He.eqO (PySem.W.findIn K (.ref (He.ga K x)) f) (some none) && decide (PySem.W.exmOne K (.ref (He.ga K x)) (.ref (He.ga K x)) = some true))))
structure RzF (K : PySem.W.Frag) (x f : Str) : Prop where
  oex : OexC K (He.ga K x)
  xf : XfC K (He.ga K x)
  ini : PySem.W.findIn K (.ref (He.ga K x)) "__init__" = some (some (.ref (He.ma K (He.ga K x) "__init__")))
  fty : PySem.W.typeIn K (.ref (He.ma K (He.ga K x) "__init__")) = some (.type "function")
  no : PySem.W.findIn K (.ref (He.ga K x)) f = some none
  exm : PySem.W.exmOne K (.ref (He.ga K x)) (.ref (He.ga K x)) = some true
theorem rzB_ok {K : PySem.W.Frag} {x f : Str} (h : rzB K x f = true) : RzF K x f := by
  obtain ⟨h1, h⟩ := He.ba h
  obtain ⟨h2, h⟩ := He.ba h
  obtain ⟨h3, h⟩ := He.ba h
  obtain ⟨h4, h5⟩ := He.ba h
  obtain ⟨h6, h7⟩ := He.ba h3
  exact ⟨oexB_ok h1, xfB_ok h2, He.eqO_ok h6, of_decide_eq_true h7, He.eqO_ok h4, of_decide_eq_true h5⟩
end Sm
namespace Sm
open PySem PySem.Spec PyProof.Rows L2
def propB (K : PySem.W.Frag) (C : Addr) (m : Str) : Bool := He.eqO (PySem.W.findIn K (.ref C) m) (some (some (.ref (He.ma K C m)))) && (He.eqO (PySem.W.specialIn K (.ref (He.ma K C m)) "__get__") (some (some (.builtin "property.__get__"))) && (decide (PySem.W.takesIn K (.ref (He.ma K C m)) = some true) && (match PySem.W.recIn K (He.ma K C m) "property" with
    | some (.ref _ :: _) => true
    | _ => false)))
theorem propB_ok {K : PySem.W.Frag} {C : Addr} {m : Str} (h : propB K C m = true) : PropOf K C m (He.ma K C m) (He5.wf K C "property" m) := by
  obtain ⟨h1, h⟩ := He.ba h
  obtain ⟨h2, h⟩ := He.ba h
  obtain ⟨h3, h4⟩ := He.ba h
  refine ⟨He.eqO_ok h1, He.eqO_ok h2, of_decide_eq_true h3, ?_⟩
  unfold He5.wf
  split at h4
  · rename_i f rest e
    rw [e]
    exact ⟨rest, rfl⟩
  · cases h4
def lawCd (K : PySem.W.Frag) : Addr := match K.lookup (He.ga K "law") with
  | some ⟨_, _, .func fd, _⟩ => (match fd.code with
    | .ref c => c
    | _ => 0)
  | _ => 0
def lawTb (K : PySem.W.Frag) : Addr := match K.lookup (lawCd K) with
  | some ⟨_, _, .fields vs, _⟩ => (match vs.getD 11 .none with
    | .ref p => p
    | _ => 0)
  | _ => 0
def cdRow (c p : Addr) (vs : Array Value) : Bool := (match (vs[11]? : Option Value) with
    | some (.ref q) => decide (q = p)
    | _ => false) && ((match vs.getD 18 .none with
    | .str _ _ => true
    | _ => false) && ((match vs.getD 7 .none with
    | .int _ _ => true
    | _ => false) && ((match vs.getD 9 .none with
    | .bool _ => true
    | _ => false) && ((match vs.getD 10 .none with
    | .int _ _ => true
    | _ => false) && decide (c ≠ p)))))
def cdB (K : PySem.W.Frag) : Bool := (match K.lookup (He.ga K "law") with
    | some ⟨_, _, .func fd, _⟩ => (match fd.code with
      | .ref _ => true
      | _ => false)
    | _ => false) && ((match K.lookup (lawCd K) with
    | some ⟨.type t, _, .fields vs, _⟩ => decide (t = "code") && cdRow (lawCd K) (lawTb K) vs
    | _ => false) && (K.lookup (lawTb K)).isNone)
theorem cdB_head {K : PySem.W.Frag} {h : Heap} (b : cdB K = true) (X : K.In h) : PySem.W.CodeHd h (lawCd K) (lawTb K) ∧ K.lookup (lawTb K) = none := by
  obtain ⟨_, b⟩ := He.ba b
  obtain ⟨b1, b2⟩ := He.ba b
  refine ⟨?_, Option.isNone_iff_eq_none.mp b2⟩
  split at b1
  · rename_i t dd vs sl e
    obtain ⟨b3, b4⟩ := He.ba b1
    have e3 := of_decide_eq_true b3
    subst e3
    unfold cdRow at b4
    obtain ⟨r1, b4⟩ := He.ba b4
    obtain ⟨r2, b4⟩ := He.ba b4
    obtain ⟨r3, b4⟩ := He.ba b4
    obtain ⟨r4, b4⟩ := He.ba b4
    obtain ⟨r5, r6⟩ := He.ba b4
    have r6 := of_decide_eq_true r6
    split at r1
    · rename_i q eq
      have r1 := of_decide_eq_true r1
      subst r1
      split at r2
      · rename_i f2 t2 e2
        split at r3
        · rename_i f3 t3 e3
          split at r4
          · rename_i f4 e4
            split at r5
            · rename_i f5 t5 e5
              exact ⟨_, vs, f2, t2, f3, t3, f4, f5, t5, X _ _ e, rfl, rfl, eq, by rw [Array.getD_eq_getD_getElem?, eq]; rfl, e2, e3, e4, e5, r6⟩
            · cases r5
          · cases r4
        · cases r3
      · cases r2
    · cases r1
  · cases b1
theorem cdB_code {K : PySem.W.Frag} {x qual : Str} {params : Arguments} {body : List Stmt} {scope : Scope} {fd : FuncData} (b : cdB K = true) (F : FunD K x qual params body scope [] [] (He.ga K "law") fd) : fd.code = .ref (lawCd K) := by
  obtain ⟨b1, _⟩ := He.ba b
  obtain ⟨oc, od, dV, kV, doc, pm, an, cdv, ct, osl, e, lk, _⟩ := F.ex
  rw [lk] at b1
  unfold lawCd
  rw [lk]
  dsimp only at b1 ⊢
  split at b1
  · rename_i cc ec
    rw [ec]
  · cases b1
def dS : He5.DefA := ⟨fun K => He5.wf K (SVC K) "property" "handled", "handled", "Server.handled", defArgs sServer_handled, defBody sServer_handled, defScope sServer_handled, [], []⟩
def exB (K : PySem.W.Frag) : Bool := ownB K (FC K) && (ownB K (KC K) && (ownB K (SC K) && (ownB K (STC K) && (ownB K (CPC K) && (ownB K (SVC K) && (PySem.W.fnIn K (He.ma K (SC K) "__getitem__") && (PySem.W.fnIn K (He.ma K (CPC K) "__getitem__") && (propB K (SVC K) "handled" && (dS.ok K && (rzB K "BadResource" "resource" && cdB K))))))))))
def d__law_fresh : He.DefD := ⟨("_law_fresh", none), "_law_fresh", "_law_fresh", defArgs s_law_fresh, defBody s_law_fresh, defScope s_law_fresh, [], []⟩
def d__law_fill : He.DefD := ⟨("_law_fill", none), "_law_fill", "_law_fill", defArgs s_law_fill, defBody s_law_fill, defScope s_law_fill, [], []⟩
def d__law_take : He.DefD := ⟨("_law_take", none), "_law_take", "_law_take", defArgs s_law_take, defBody s_law_take, defScope s_law_take, [], []⟩
def d__law_one : He.DefD := ⟨("_law_one", none), "_law_one", "_law_one", defArgs s_law_one, defBody s_law_one, defScope s_law_one, [], []⟩
def d__law_same : He.DefD := ⟨("_law_same", none), "_law_same", "_law_same", defArgs s_law_same, defBody s_law_same, defScope s_law_same, [], []⟩
def d__law_all_words : He.DefD := ⟨("_law_all_words", none), "_law_all_words", "_law_all_words", defArgs s_law_all_words, defBody s_law_all_words, defScope s_law_all_words, [], []⟩
def d__law_some_words : He.DefD := ⟨("_law_some_words", none), "_law_some_words", "_law_some_words", defArgs s_law_some_words, defBody s_law_some_words, defScope s_law_some_words, [], []⟩
def d__law_rising : He.DefD := ⟨("_law_rising", none), "_law_rising", "_law_rising", defArgs s_law_rising, defBody s_law_rising, defScope s_law_rising, [], []⟩
def d_is_list : He.DefD := ⟨("is_list", none), "is_list", "is_list", defArgs sis_list, defBody sis_list, defScope sis_list, [], []⟩
def d_is_word : He.DefD := ⟨("is_word", none), "is_word", "is_word", defArgs sis_word, defBody sis_word, defScope sis_word, [], []⟩
def d_ascending_words : He.DefD := ⟨("ascending_words", none), "ascending_words", "ascending_words", defArgs sascending_words, defBody sascending_words, defScope sascending_words, [], []⟩
def d_is_pair : He.DefD := ⟨("is_pair", none), "is_pair", "is_pair", defArgs sis_pair, defBody sis_pair, defScope sis_pair, [], []⟩
def d_is_int : He.DefD := ⟨("is_int", none), "is_int", "is_int", defArgs sis_int, defBody sis_int, defScope sis_int, [], []⟩
def d_is_natural : He.DefD := ⟨("is_natural", none), "is_natural", "is_natural", defArgs sis_natural, defBody sis_natural, defScope sis_natural, [], []⟩
def d_is_resource_pair : He.DefD := ⟨("is_resource_pair", none), "is_resource_pair", "is_resource_pair", defArgs sis_resource_pair, defBody sis_resource_pair, defScope sis_resource_pair, [], []⟩
def d_check_kind_fields : He.DefD := ⟨("check_kind_fields", none), "check_kind_fields", "check_kind_fields", defArgs scheck_kind_fields, defBody scheck_kind_fields, defScope scheck_kind_fields, [], []⟩
def d_check_kinds : He.DefD := ⟨("check_kinds", none), "check_kinds", "check_kinds", defArgs scheck_kinds, defBody scheck_kinds, defScope scheck_kinds, [], []⟩
def d__law_kinds : He.DefD := ⟨("_law_kinds", none), "_law_kinds", "_law_kinds", defArgs s_law_kinds, defBody s_law_kinds, defScope s_law_kinds, [], []⟩
def d__law_kind_at : He.DefD := ⟨("_law_kind_at", none), "_law_kind_at", "_law_kind_at", defArgs s_law_kind_at, defBody s_law_kind_at, defScope s_law_kind_at, [], []⟩
def d__law_schema_of : He.DefD := ⟨("_law_schema_of", none), "_law_schema_of", "_law_schema_of", defArgs s_law_schema_of, defBody s_law_schema_of, defScope s_law_schema_of, [], []⟩
def d__law_things : He.DefD := ⟨("_law_things", none), "_law_things", "_law_things", defArgs s_law_things, defBody s_law_things, defScope s_law_things, [], []⟩
def d__law_is_resource : He.DefD := ⟨("_law_is_resource", none), "_law_is_resource", "_law_is_resource", defArgs s_law_is_resource, defBody s_law_is_resource, defScope s_law_is_resource, [], []⟩
def d__law_tried : He.DefD := ⟨("_law_tried", none), "_law_tried", "_law_tried", defArgs s_law_tried, defBody s_law_tried, defScope s_law_tried, [], []⟩
def d_law : He.DefD := ⟨("law", none), "law", "law", defArgs slaw, defBody slaw, defScope slaw, [], []⟩
def d_Fields_init : He.DefD := ⟨("Fields", some "__init__"), "__init__", "Fields.__init__", defArgs sFields_init, defBody sFields_init, defScope sFields_init, [], []⟩
def d_Fields_words : He.DefD := ⟨("Fields", some "words"), "words", "Fields.words", defArgs sFields_words, defBody sFields_words, defScope sFields_words, [], []⟩
def d_Fields_eq : He.DefD := ⟨("Fields", some "__eq__"), "__eq__", "Fields.__eq__", defArgs sFields_eq, defBody sFields_eq, defScope sFields_eq, [], []⟩
def d_Kind_init : He.DefD := ⟨("Kind", some "__init__"), "__init__", "Kind.__init__", defArgs sKind_init, defBody sKind_init, defScope sKind_init, [], [("single", He.Dv.bl false)]⟩
def d_Kind_fields : He.DefD := ⟨("Kind", some "fields"), "fields", "Kind.fields", defArgs sKind_fields, defBody sKind_fields, defScope sKind_fields, [], []⟩
def d_Kind_eq : He.DefD := ⟨("Kind", some "__eq__"), "__eq__", "Kind.__eq__", defArgs sKind_eq, defBody sKind_eq, defScope sKind_eq, [], []⟩
def d_Schema_init : He.DefD := ⟨("Schema", some "__init__"), "__init__", "Schema.__init__", defArgs sSchema_init, defBody sSchema_init, defScope sSchema_init, [], []⟩
def d_Schema_names : He.DefD := ⟨("Schema", some "names"), "names", "Schema.names", defArgs sSchema_names, defBody sSchema_names, defScope sSchema_names, [], []⟩
def d_Schema_contains : He.DefD := ⟨("Schema", some "__contains__"), "__contains__", "Schema.__contains__", defArgs sSchema_contains, defBody sSchema_contains, defScope sSchema_contains, [], []⟩
def d_Schema_getitem : He.DefD := ⟨("Schema", some "__getitem__"), "__getitem__", "Schema.__getitem__", defArgs sSchema_getitem, defBody sSchema_getitem, defScope sSchema_getitem, [], []⟩
def d_Schema_is_resource : He.DefD := ⟨("Schema", some "is_resource"), "is_resource", "Schema.is_resource", defArgs sSchema_is_resource, defBody sSchema_is_resource, defScope sSchema_is_resource, [], []⟩
def d_State_init : He.DefD := ⟨("State", some "__init__"), "__init__", "State.__init__", defArgs sState_init, defBody sState_init, defScope sState_init, [], []⟩
def d_Copy_init : He.DefD := ⟨("Copy", some "__init__"), "__init__", "Copy.__init__", defArgs sCopy_init, defBody sCopy_init, defScope sCopy_init, [], []⟩
def d_Copy_contains : He.DefD := ⟨("Copy", some "__contains__"), "__contains__", "Copy.__contains__", defArgs sCopy_contains, defBody sCopy_contains, defScope sCopy_contains, [], []⟩
def d_Copy_getitem : He.DefD := ⟨("Copy", some "__getitem__"), "__getitem__", "Copy.__getitem__", defArgs sCopy_getitem, defBody sCopy_getitem, defScope sCopy_getitem, [], []⟩
def d_Server_init : He.DefD := ⟨("Server", some "__init__"), "__init__", "Server.__init__", defArgs sServer_init, defBody sServer_init, defScope sServer_init, [], []⟩
def d_Server_state_of : He.DefD := ⟨("Server", some "state_of"), "state_of", "Server.state_of", defArgs sServer_state_of, defBody sServer_state_of, defScope sServer_state_of, [], []⟩
def d_Server_read : He.DefD := ⟨("Server", some "read"), "read", "Server.read", defArgs sServer_read, defBody sServer_read, defScope sServer_read, [], []⟩
def d_Server_latest : He.DefD := ⟨("Server", some "latest"), "latest", "Server.latest", defArgs sServer_latest, defBody sServer_latest, defScope sServer_latest, [], []⟩
def d_BadResource_init : He.DefD := ⟨("BadResource", some "__init__"), "__init__", "BadResource.__init__", defArgs sBadResource_init, defBody sBadResource_init, defScope sBadResource_init, [], []⟩
def fn : List He.DefD := [d__law_fresh, d__law_fill, d__law_take, d__law_one, d__law_same, d__law_all_words, d__law_some_words, d__law_rising, d_is_list, d_is_word, d_ascending_words, d_is_pair, d_is_int, d_is_natural, d_is_resource_pair, d_check_kind_fields, d_check_kinds, d__law_kinds, d__law_kind_at, d__law_schema_of, d__law_things, d__law_is_resource, d__law_tried, d_law, d_Fields_init, d_Fields_words, d_Fields_eq, d_Kind_init, d_Kind_fields, d_Kind_eq, d_Schema_init, d_Schema_names, d_Schema_contains, d_Schema_getitem, d_Schema_is_resource, d_State_init, d_Copy_init, d_Copy_contains, d_Copy_getitem, d_Server_init, d_Server_state_of, d_Server_read, d_Server_latest, d_BadResource_init]
def frees : List Str := (["len", "int", "enumerate", "bool", "list", "tuple", "all", "any", "zip", "isinstance", "range", "str", "sorted", "set"] : List Str)
def owns : List Str := (["_law_fresh", "_law_fill", "_law_take", "_law_one", "_law_same", "_law_all_words", "_law_some_words", "_law_rising", "is_list", "is_word", "ascending_words", "is_pair", "is_int", "is_natural", "is_resource_pair", "check_kind_fields", "check_kinds", "_law_kinds", "_law_kind_at", "_law_schema_of", "_law_things", "_law_is_resource", "_law_tried", "law", "BadResource", "Fields", "Kind", "Schema", "State", "Copy"] : List Str) ++ (["Server"] : List Str)
def meths : List (Str × Str) := [("Fields", "__init__"), ("Fields", "words"), ("Fields", "__eq__"), ("Kind", "__init__"), ("Kind", "fields"), ("Kind", "__eq__"), ("Schema", "__init__"), ("Schema", "names"), ("Schema", "__contains__"), ("Schema", "__getitem__"), ("Schema", "is_resource"), ("State", "__init__"), ("Copy", "__init__"), ("Copy", "__contains__"), ("Copy", "__getitem__"), ("Server", "__init__"), ("Server", "state_of"), ("Server", "read"), ("Server", "latest"), ("BadResource", "__init__")]
def noats : List (Str × Str) := [("Fields", "held"), ("Kind", "name"), ("Kind", "single"), ("Kind", "field_set"), ("Schema", "kinds"), ("State", "contents"), ("State", "tallies"), ("Copy", "resource"), ("Copy", "moment"), ("Copy", "state"), ("Server", "schema"), ("Server", "updates"), ("Server", "states")]
def numsI : List (Str × Int) := [("LONGEST_WORD", 8), ("MOST_FIELDS", 4), ("MOST_KINDS", 4)]
def clss : List Str := (["Fields", "Kind", "Schema", "State", "Copy", "Server"] : List Str)
def fa : List He.Fa := owns.map He.Fa.glo ++ (frees.map He.Fa.free ++ (meths.map (fun q => He.Fa.meth q.1 q.2) ++ (noats.map (fun q => He.Fa.noat q.1 q.2) ++ (numsI.map (fun q => He.Fa.int q.1 q.2) ++ (clss.map He.Fa.cls ++ clss.map He.Fa.mkr)))))
section
variable {P : Program} {w : World} {K : PySem.W.Frag} {mg : Str → Option Value} {base : Heap}
theorem gl_own {h : Heap} (X : K.In h) (G : h.Ns mainGlobals mg) (c : He.SaysD fa fn K) : ∀ x ∈ owns, mg x = some (.ref (He.ga K x)) := fun x hx => He.glo_ok X G (c.facts (List.mem_append_left _ (List.mem_map_of_mem hx)))
theorem gl_free {h : Heap} (X : K.In h) (G : h.Ns mainGlobals mg) (c : He.SaysD fa fn K) : ∀ x ∈ frees, mg x = none := fun x hx => He.free_ok X G (c.facts (List.mem_append_right _ (List.mem_append_left _ (List.mem_map_of_mem hx))))
theorem gl_meth (c : He.SaysD fa fn K) : ∀ q ∈ meths, Meth K (He.ga K q.1) q.2 (He.ma K (He.ga K q.1) q.2) := fun q hq => He.meth_ok (c.facts (List.mem_append_right _ (List.mem_append_right _ (List.mem_append_left _ (List.mem_map_of_mem (f := fun q : Str × Str => He.Fa.meth q.1 q.2) hq)))))
theorem gl_noat (c : He.SaysD fa fn K) : ∀ q ∈ noats, NoAttr K (He.ga K q.1) q.2 := fun q hq => He.noat_ok (c.facts (List.mem_append_right _ (List.mem_append_right _ (List.mem_append_right _ (List.mem_append_left _ (List.mem_map_of_mem (f := fun q : Str × Str => He.Fa.noat q.1 q.2) hq))))))
theorem gl_numI {h : Heap} (X : K.In h) (G : h.Ns mainGlobals mg) (c : He.SaysD fa fn K) : ∀ q ∈ numsI, ∃ t, mg q.1 = some (.int q.2 t) := fun q hq => He.int_ok X G (c.facts (List.mem_append_right _ (List.mem_append_right _ (List.mem_append_right _ (List.mem_append_right _ (List.mem_append_left _ (List.mem_map_of_mem (f := fun q : Str × Int => He.Fa.int q.1 q.2) hq)))))))
theorem gl_cls (c : He.SaysD fa fn K) : ∀ x ∈ clss, Cls K (He.ga K x) := fun x hx => He.cls_ok (c.facts (List.mem_append_right _ (List.mem_append_right _ (List.mem_append_right _ (List.mem_append_right _ (List.mem_append_right _ (List.mem_append_left _ (List.mem_map_of_mem hx))))))))
theorem gl_mkr (c : He.SaysD fa fn K) : ∀ x ∈ clss, Mk K (He.ga K x) (He.ma K (He.ga K x) "__init__") := fun x hx => He.mkr_ok (c.facts (List.mem_append_right _ (List.mem_append_right _ (List.mem_append_right _ (List.mem_append_right _ (List.mem_append_right _ (List.mem_append_right _ (List.mem_map_of_mem hx))))))))
theorem facts {h : Heap} {f : Addr} (X : K.In h) (G : h.Ns mainGlobals mg) (hfa : mg ("law" : Str) = some (.ref f)) (c : He.SaysD fa fn K) (S : exB K = true) (SF : He5.fnA K (dS.at_ K) = dS.val) :
    ∃ fd : FuncData, (∀ (s : Shared) (v : Value), BindsTo s fd ⟨[v], []⟩ [("_law_script", v)]) ∧ ∀ base : Heap, K.In base → base.Ns mainGlobals mg → LamX.TabB base mg (lawCd K) (lawTb K) → FnOk P w K mg base CX0 12 f fd ["_law_script"] (spLawT K [(lawCd K, lawTb K)]) := by
  have go := gl_own X G c
  have gf := gl_free X G c
  have gm := gl_meth c
  have gi := gl_numI X G c
  obtain ⟨fd0, F0⟩ := c.def_ 0 (d := d__law_fresh) rfl
  obtain ⟨fd1, F1⟩ := c.def_ 1 (d := d__law_fill) rfl
  obtain ⟨fd2, F2⟩ := c.def_ 2 (d := d__law_take) rfl
  obtain ⟨fd3, F3⟩ := c.def_ 3 (d := d__law_one) rfl
  obtain ⟨fd4, F4⟩ := c.def_ 4 (d := d__law_same) rfl
  obtain ⟨fd5, F5⟩ := c.def_ 5 (d := d__law_all_words) rfl
  obtain ⟨fd6, F6⟩ := c.def_ 6 (d := d__law_some_words) rfl
  obtain ⟨fd7, F7⟩ := c.def_ 7 (d := d__law_rising) rfl
  obtain ⟨fd8, F8⟩ := c.def_ 8 (d := d_is_list) rfl
  obtain ⟨fd9, F9⟩ := c.def_ 9 (d := d_is_word) rfl
  obtain ⟨fd10, F10⟩ := c.def_ 10 (d := d_ascending_words) rfl
  obtain ⟨fd11, F11⟩ := c.def_ 11 (d := d_is_pair) rfl
  obtain ⟨fd12, F12⟩ := c.def_ 12 (d := d_is_int) rfl
  obtain ⟨fd13, F13⟩ := c.def_ 13 (d := d_is_natural) rfl
  obtain ⟨fd14, F14⟩ := c.def_ 14 (d := d_is_resource_pair) rfl
  obtain ⟨fd15, F15⟩ := c.def_ 15 (d := d_check_kind_fields) rfl
  obtain ⟨fd16, F16⟩ := c.def_ 16 (d := d_check_kinds) rfl
  obtain ⟨fd17, F17⟩ := c.def_ 17 (d := d__law_kinds) rfl
  obtain ⟨fd18, F18⟩ := c.def_ 18 (d := d__law_kind_at) rfl
  obtain ⟨fd19, F19⟩ := c.def_ 19 (d := d__law_schema_of) rfl
  obtain ⟨fd20, F20⟩ := c.def_ 20 (d := d__law_things) rfl
  obtain ⟨fd21, F21⟩ := c.def_ 21 (d := d__law_is_resource) rfl
  obtain ⟨fd22, F22⟩ := c.def_ 22 (d := d__law_tried) rfl
  obtain ⟨fd23, F23⟩ := c.def_ 23 (d := d_law) rfl
  obtain ⟨fd24, F24⟩ := c.def_ 24 (d := d_Fields_init) rfl
  obtain ⟨fd25, F25⟩ := c.def_ 25 (d := d_Fields_words) rfl
  obtain ⟨fd26, F26⟩ := c.def_ 26 (d := d_Fields_eq) rfl
  obtain ⟨fd27, F27⟩ := c.def_ 27 (d := d_Kind_init) rfl
  obtain ⟨fd28, F28⟩ := c.def_ 28 (d := d_Kind_fields) rfl
  obtain ⟨fd29, F29⟩ := c.def_ 29 (d := d_Kind_eq) rfl
  obtain ⟨fd30, F30⟩ := c.def_ 30 (d := d_Schema_init) rfl
  obtain ⟨fd31, F31⟩ := c.def_ 31 (d := d_Schema_names) rfl
  obtain ⟨fd32, F32⟩ := c.def_ 32 (d := d_Schema_contains) rfl
  obtain ⟨fd33, F33⟩ := c.def_ 33 (d := d_Schema_getitem) rfl
  obtain ⟨fd34, F34⟩ := c.def_ 34 (d := d_Schema_is_resource) rfl
  obtain ⟨fd35, F35⟩ := c.def_ 35 (d := d_State_init) rfl
  obtain ⟨fd36, F36⟩ := c.def_ 36 (d := d_Copy_init) rfl
  obtain ⟨fd37, F37⟩ := c.def_ 37 (d := d_Copy_contains) rfl
  obtain ⟨fd38, F38⟩ := c.def_ 38 (d := d_Copy_getitem) rfl
  obtain ⟨fd39, F39⟩ := c.def_ 39 (d := d_Server_init) rfl
  obtain ⟨fd40, F40⟩ := c.def_ 40 (d := d_Server_state_of) rfl
  obtain ⟨fd41, F41⟩ := c.def_ 41 (d := d_Server_read) rfl
  obtain ⟨fd42, F42⟩ := c.def_ 42 (d := d_Server_latest) rfl
  obtain ⟨fd43, F43⟩ := c.def_ 43 (d := d_BadResource_init) rfl
  have e := hfa.symm.trans (go "law" (by decide +kernel))
  cases e
  have b := FunD.bindsA (ps := ["_law_script"]) F23 fun _ _ _ _ _ _ us hl => match us, hl with | [_], _ => rfl
  refine ⟨fd23, fun s v => b s [v] rfl, fun base _ _ TBL => ?_⟩
  have TB : TxtB mg := ⟨gf "len" (by decide +kernel), gf "int" (by decide +kernel), gf "enumerate" (by decide +kernel)⟩
  have TS : TxtS mg := ⟨gf "len" (by decide +kernel), gf "int" (by decide +kernel), gf "bool" (by decide +kernel), gf "list" (by decide +kernel), gf "tuple" (by decide +kernel), gf "all" (by decide +kernel), gf "zip" (by decide +kernel), gf "isinstance" (by decide +kernel)⟩
  have TW : TxtW mg := ⟨gf "len" (by decide +kernel), gf "range" (by decide +kernel)⟩
  have TI : TxtI mg := ⟨gf "isinstance" (by decide +kernel), gf "list" (by decide +kernel), gf "tuple" (by decide +kernel), gf "str" (by decide +kernel), gf "len" (by decide +kernel), gi ("LONGEST_WORD", 8) (by decide +kernel)⟩
  have TF : TxtF mg := ⟨gf "isinstance" (by decide +kernel), gf "enumerate" (by decide +kernel), gf "sorted" (by decide +kernel), gf "set" (by decide +kernel), gf "list" (by decide +kernel), gf "len" (by decide +kernel), gf "bool" (by decide +kernel), gf "any" (by decide +kernel), gf "all" (by decide +kernel), gf "str" (by decide +kernel)⟩
  have TK : TxtK mg := ⟨gf "isinstance" (by decide +kernel), gf "enumerate" (by decide +kernel), gf "len" (by decide +kernel), gf "tuple" (by decide +kernel), gi ("MOST_FIELDS", 4) (by decide +kernel), gi ("MOST_KINDS", 4) (by decide +kernel)⟩
  have TJ : TxtJ mg := ⟨gf "isinstance" (by decide +kernel), gf "len" (by decide +kernel), gf "int" (by decide +kernel), gf "bool" (by decide +kernel)⟩
  have TL : TxtL mg := ⟨gf "isinstance" (by decide +kernel), gf "list" (by decide +kernel), gf "tuple" (by decide +kernel), gf "str" (by decide +kernel), gf "len" (by decide +kernel), gf "int" (by decide +kernel), gf "bool" (by decide +kernel), gf "any" (by decide +kernel)⟩
  have TM : TxtM mg := ⟨gf "range" (by decide +kernel), gf "tuple" (by decide +kernel), gf "all" (by decide +kernel), gf "isinstance" (by decide +kernel), gf "list" (by decide +kernel)⟩
  obtain ⟨oF, S⟩ := He.ba S
  obtain ⟨oK, S⟩ := He.ba S
  obtain ⟨oS, S⟩ := He.ba S
  obtain ⟨oST, S⟩ := He.ba S
  obtain ⟨oCP, S⟩ := He.ba S
  obtain ⟨oSV, S⟩ := He.ba S
  obtain ⟨ofn, S⟩ := He.ba S
  obtain ⟨ofnCp, S⟩ := He.ba S
  obtain ⟨oPr, S⟩ := He.ba S
  obtain ⟨oSok, S⟩ := He.ba S
  obtain ⟨oRz, oCd⟩ := He.ba S
  have RF := rzB_ok oRz
  have gB := go "BadResource" (by decide +kernel)
  have rB : RzM P w K mg base "BadResource" (He.ga K "BadResource") "resource" := ⟨⟨_, _, _, ok_BadResource_init RF.oex RF.no F43, RF.ini, RF.fty, F43.bindsN (ps := ["self", "resource"]) (fun _ _ _ _ _ _ us hl => match us, hl with | [_, _], _ => rfl)⟩, RF.oex, gB⟩
  have FK : FlK K := flK_of oF (gl_cls c "Fields" (by decide +kernel)) (gl_noat c ("Fields", "held") (by decide +kernel))
  have KK : OwnK K (KC K) := ownK_of oK (gl_cls c "Kind" (by decide +kernel))
  have SS : OwnK K (SC K) := ownK_of oS (gl_cls c "Schema" (by decide +kernel))
  have ST : OwnK K (STC K) := ownK_of oST (gl_cls c "State" (by decide +kernel))
  have CP : OwnK K (CPC K) := ownK_of oCP (gl_cls c "Copy" (by decide +kernel))
  have SV : OwnK K (SVC K) := ownK_of oSV (gl_cls c "Server" (by decide +kernel))
  have nK1 := gl_noat c ("Kind", "name") (by decide +kernel)
  have nK2 := gl_noat c ("Kind", "single") (by decide +kernel)
  have nK3 := gl_noat c ("Kind", "field_set") (by decide +kernel)
  have nS1 := gl_noat c ("Schema", "kinds") (by decide +kernel)
  have nSt1 := gl_noat c ("State", "contents") (by decide +kernel)
  have nSt2 := gl_noat c ("State", "tallies") (by decide +kernel)
  have nCp1 := gl_noat c ("Copy", "resource") (by decide +kernel)
  have nCp2 := gl_noat c ("Copy", "moment") (by decide +kernel)
  have nCp3 := gl_noat c ("Copy", "state") (by decide +kernel)
  have nSv1 := gl_noat c ("Server", "schema") (by decide +kernel)
  have nSv2 := gl_noat c ("Server", "updates") (by decide +kernel)
  have nSv3 := gl_noat c ("Server", "states") (by decide +kernel)
  have gF := go "Fields" (by decide +kernel)
  have gK := go "Kind" (by decide +kernel)
  have gS := go "Schema" (by decide +kernel)
  have hfn : ∀ f, PySem.W.findIn K (.ref (SC K)) "__getitem__" = some (some (.ref f)) → PySem.W.fnIn K f = true := fun f e => by
    have e2 := (gm ("Schema", "__getitem__") (by decide +kernel)).at_
    rw [e] at e2
    cases e2
    exact ofn
  have hfnCp : ∀ f, PySem.W.findIn K (.ref (CPC K)) "__getitem__" = some (some (.ref f)) → PySem.W.fnIn K f = true := fun f e => by
    have e2 := (gm ("Copy", "__getitem__") (by decide +kernel)).at_
    rw [e] at e2
    cases e2
    exact ofnCp
  have c_law_fresh : Cal P w K mg base CX0 1 "_law_fresh" (spFresh K) := ⟨_, _, _, ok_fresh F0, go "_law_fresh" (by decide +kernel), F0.kp, F0.bindsN (ps := ["_law_script"]) (fun _ _ _ _ _ _ us hl => match us, hl with | [_], _ => rfl)⟩
  have c_law_fill : Cal P w K mg base CX0 1 "_law_fill" (spFill) := ⟨_, _, _, ok_fill TB F1, go "_law_fill" (by decide +kernel), F1.kp, F1.bindsN (ps := ["_law_state"]) (fun _ _ _ _ _ _ us hl => match us, hl with | [_], _ => rfl)⟩
  have c_law_take : Cal P w K mg base CX0 2 "_law_take" (spTake) := ⟨_, _, _, ok_take TB F2 c_law_fill, go "_law_take" (by decide +kernel), F2.kp, F2.bindsN (ps := ["_law_state", "_law_many"]) (fun _ _ _ _ _ _ us hl => match us, hl with | [_, _], _ => rfl)⟩
  have c_law_one : Cal P w K mg base CX0 3 "_law_one" (spOne K) := ⟨_, _, _, ok_one TB F3 c_law_take, go "_law_one" (by decide +kernel), F3.kp, F3.bindsN (ps := ["_law_state", "_law_things_here"]) (fun _ _ _ _ _ _ us hl => match us, hl with | [_, _], _ => rfl)⟩
  have same_n : ∀ n, Cal P w K mg base CX0 n "_law_same" (spSame n) := fun n => by
    induction n with
    | zero => exact ⟨_, _, _, ok_same0 F4, go "_law_same" (by decide +kernel), F4.kp, F4.bindsN (ps := ["_law_found", "_law_due"]) (fun _ _ _ _ _ _ us hl => match us, hl with | [_, _], _ => rfl)⟩
    | succ n ih => exact ⟨_, _, _, ok_same TS F4 ih, go "_law_same" (by decide +kernel), F4.kp, F4.bindsN (ps := ["_law_found", "_law_due"]) (fun _ _ _ _ _ _ us hl => match us, hl with | [_, _], _ => rfl)⟩
  have c_law_all_words : Cal P w K mg base CX0 1 "_law_all_words" (spWords) := ⟨_, _, _, ok_all_words F5, go "_law_all_words" (by decide +kernel), F5.kp, F5.bindsN (ps := []) (fun _ _ _ _ _ _ us hl => match us, hl with | [], _ => rfl)⟩
  have c_law_some_words : Cal P w K mg base CX0 3 "_law_some_words" (spSomeWords) := ⟨_, _, _, ok_some_words TW F6 c_law_all_words c_law_take, go "_law_some_words" (by decide +kernel), F6.kp, F6.bindsN (ps := ["_law_state", "_law_many"]) (fun _ _ _ _ _ _ us hl => match us, hl with | [_, _], _ => rfl)⟩
  have c_law_rising : Cal P w K mg base CX0 1 "_law_rising" (spRising K) := ⟨_, _, _, ok_rising TW F7, go "_law_rising" (by decide +kernel), F7.kp, F7.bindsN (ps := ["_law_some"]) (fun _ _ _ _ _ _ us hl => match us, hl with | [_], _ => rfl)⟩
  have cis_list : Cal P w K mg base CX0 1 "is_list" (spIsList) := ⟨_, _, _, ok_is_list TI F8, go "is_list" (by decide +kernel), F8.kp, F8.bindsN (ps := ["thing"]) (fun _ _ _ _ _ _ us hl => match us, hl with | [_], _ => rfl)⟩
  have cis_word : Cal P w K mg base CX0 1 "is_word" (spIsWord) := ⟨_, _, _, ok_is_word TI F9, go "is_word" (by decide +kernel), F9.kp, F9.bindsN (ps := ["thing"]) (fun _ _ _ _ _ _ us hl => match us, hl with | [_], _ => rfl)⟩
  have cF_words : OwM P w K mg base (He.ga K "Fields") 1 "words" (spFWords K) := ⟨_, fd25, _, ok_F_words TF FK F25, (gm ("Fields", "words") (by decide +kernel)).at_, (gm ("Fields", "words") (by decide +kernel)).fn, (gm ("Fields", "words") (by decide +kernel)).kp, F25.bindsN (ps := ["self"]) (fun _ _ _ _ _ _ us hl => match us, hl with | [_], _ => rfl)⟩
  have cascending_words : Cal P w K mg base CX0 2 "ascending_words" (spAscW K) := ⟨_, _, _, ok_ascending_words TF FK gF F10 cF_words cis_list cis_word, go "ascending_words" (by decide +kernel), F10.kp, F10.bindsN (ps := ["words"]) (fun _ _ _ _ _ _ us hl => match us, hl with | [_], _ => rfl)⟩
  have cF : MkC P w K mg base 3 "Fields" (He.ga K "Fields") (spFInit K) ["words"] := ⟨_, fd24, ["self", "words"], gl_mkr c "Fields" (by decide +kernel), ok_F_init TF FK F24 cascending_words, go "Fields" (by decide +kernel), F24.bindsN (ps := ["self", "words"]) (fun _ _ _ _ _ _ us hl => match us, hl with | [_, _], _ => rfl), kbn_of F24 (fun _ _ _ _ _ _ us ws h1 h2 => match us, ws, h1, h2 with | [_], [_], _, _ => rfl) fun a b => a.append b⟩
  have cF_eq : OwM P w K mg base (He.ga K "Fields") 1 "__eq__" (spFEq K) := ⟨_, fd26, _, ok_F_eq TF FK gF F26, (gm ("Fields", "__eq__") (by decide +kernel)).at_, (gm ("Fields", "__eq__") (by decide +kernel)).fn, (gm ("Fields", "__eq__") (by decide +kernel)).kp, F26.bindsN (ps := ["self", "other"]) (fun _ _ _ _ _ _ us hl => match us, hl with | [_, _], _ => rfl)⟩
  have ccheck_kind_fields : Cal P w K mg base CX0 2 "check_kind_fields" (spChkF K) := ⟨_, _, _, ok_check_kind_fields TK F15 cis_list cis_word, go "check_kind_fields" (by decide +kernel), F15.kp, F15.bindsN (ps := ["fields"]) (fun _ _ _ _ _ _ us hl => match us, hl with | [_], _ => rfl)⟩
  have cK : MkKd P w K mg base := by
    obtain ⟨mv, hB⟩ := FunD.kbinds0 (ps := ["self", "name", "fields", "single"]) F27 1 ["fields", "name"] [("single", .bl false)] (fun us mv ws => kbB us mv ws) (by intro z; cases z) (fun q h => h) (fun a b c => a.append ((c.drop 1).append ((c.take 1).append b)))
      (fun D doc pm an cdv ct us mv ws h1 h2 h3 => match us, mv, ws, h1, h2, h3 with | [_], [_], [_, _], _, _, _ => ⟨_, _, _, _, _, _, rfl, rfl, rfl⟩)
    obtain ⟨_, hA⟩ := FunD.kbinds0 (ps := ["self", "name", "fields", "single"]) F27 3 ["single"] [] (fun us _ ws => us ++ ws) (by intro z; cases z) (fun q h => by cases h) (fun a _ c => a.append c)
      (fun D doc pm an cdv ct us mv ws h1 h2 h3 => match us, mv, ws, h1, h2, h3 with | [_, _, _], [], [_], _, _, _ => rfl)
    exact ⟨_, _, ["self", "name", "fields", "single"], mv, gl_mkr c "Kind" (by decide +kernel), ok_Kind_init TK FK KK nK1 nK2 nK3 F27 cF cis_word ccheck_kind_fields, gK, hA, hB⟩
  have cK_fields : OwM P w K mg base (He.ga K "Kind") 1 "fields" (spKFields K) := ⟨_, fd28, _, ok_Kind_fields KK nK3 F28, (gm ("Kind", "fields") (by decide +kernel)).at_, (gm ("Kind", "fields") (by decide +kernel)).fn, (gm ("Kind", "fields") (by decide +kernel)).kp, F28.bindsN (ps := ["self"]) (fun _ _ _ _ _ _ us hl => match us, hl with | [_], _ => rfl)⟩
  have cK_eq : OwM P w K mg base (He.ga K "Kind") 2 "__eq__" (spKEq K) := ⟨_, fd29, _, ok_Kind_eq TK FK KK nK1 nK2 nK3 gK F29 cF_eq, (gm ("Kind", "__eq__") (by decide +kernel)).at_, (gm ("Kind", "__eq__") (by decide +kernel)).fn, (gm ("Kind", "__eq__") (by decide +kernel)).kp, F29.bindsN (ps := ["self", "other"]) (fun _ _ _ _ _ _ us hl => match us, hl with | [_, _], _ => rfl)⟩
  have ccheck_kinds : Cal P w K mg base CX0 2 "check_kinds" (spChkK K) := ⟨_, _, _, ok_check_kinds TK KK nK1 gK F16 cis_list, go "check_kinds" (by decide +kernel), F16.kp, F16.bindsN (ps := ["kinds"]) (fun _ _ _ _ _ _ us hl => match us, hl with | [_], _ => rfl)⟩
  have cS : MkC P w K mg base 3 "Schema" (He.ga K "Schema") (spSInit K) ["kinds"] := ⟨_, fd30, ["self", "kinds"], gl_mkr c "Schema" (by decide +kernel), ok_Schema_init TK SS nS1 F30 ccheck_kinds, go "Schema" (by decide +kernel), F30.bindsN (ps := ["self", "kinds"]) (fun _ _ _ _ _ _ us hl => match us, hl with | [_, _], _ => rfl), kbn_of F30 (fun _ _ _ _ _ _ us ws h1 h2 => match us, ws, h1, h2 with | [_], [_], _, _ => rfl) fun a b => a.append b⟩
  have cS_names : OwM P w K mg base (He.ga K "Schema") 1 "names" (spSNames K) := ⟨_, fd31, _, ok_Schema_names SS KK nK1 nS1 F31, (gm ("Schema", "names") (by decide +kernel)).at_, (gm ("Schema", "names") (by decide +kernel)).fn, (gm ("Schema", "names") (by decide +kernel)).kp, F31.bindsN (ps := ["self"]) (fun _ _ _ _ _ _ us hl => match us, hl with | [_], _ => rfl)⟩
  have cS_in : OwM P w K mg base (He.ga K "Schema") 4 "__contains__" (spSIn K) := ⟨_, fd32, _, ok_Schema_in KK SS F32 cK_eq cS_names, (gm ("Schema", "__contains__") (by decide +kernel)).at_, (gm ("Schema", "__contains__") (by decide +kernel)).fn, (gm ("Schema", "__contains__") (by decide +kernel)).kp, F32.bindsN (ps := ["self", "x"]) (fun _ _ _ _ _ _ us hl => match us, hl with | [_, _], _ => rfl)⟩
  have cS_get : OwM P w K mg base (He.ga K "Schema") 1 "__getitem__" (spSGet K) := ⟨_, fd33, _, ok_Schema_get SS KK nK1 nS1 F33, (gm ("Schema", "__getitem__") (by decide +kernel)).at_, (gm ("Schema", "__getitem__") (by decide +kernel)).fn, (gm ("Schema", "__getitem__") (by decide +kernel)).kp, F33.bindsN (ps := ["self", "at"]) (fun _ _ _ _ _ _ us hl => match us, hl with | [_, _], _ => rfl)⟩
  have cis_pair : Cal P w K mg base CX0 2 "is_pair" (spIsPair) := ⟨_, _, _, ok_is_pair TJ F11 cis_list, go "is_pair" (by decide +kernel), F11.kp, F11.bindsN (ps := ["thing"]) (fun _ _ _ _ _ _ us hl => match us, hl with | [_], _ => rfl)⟩
  have cis_int : Cal P w K mg base CX0 1 "is_int" (spIsInt) := ⟨_, _, _, ok_is_int TJ F12, go "is_int" (by decide +kernel), F12.kp, F12.bindsN (ps := ["thing"]) (fun _ _ _ _ _ _ us hl => match us, hl with | [_], _ => rfl)⟩
  have cis_natural : Cal P w K mg base CX0 2 "is_natural" (spIsNat) := ⟨_, _, _, ok_is_natural TJ F13 cis_int, go "is_natural" (by decide +kernel), F13.kp, F13.bindsN (ps := ["thing"]) (fun _ _ _ _ _ _ us hl => match us, hl with | [_], _ => rfl)⟩
  have cis_resource_pair : Cal P w K mg base CX0 3 "is_resource_pair" (spIsResP) := ⟨_, _, _, ok_is_resource_pair F14 cis_pair cis_word cis_natural, go "is_resource_pair" (by decide +kernel), F14.kp, F14.bindsN (ps := ["thing"]) (fun _ _ _ _ _ _ us hl => match us, hl with | [_], _ => rfl)⟩
  have cS_isres : OwM P w K mg base (He.ga K "Schema") 5 "is_resource" (spSIsRes K) := ⟨_, fd34, _, ok_Schema_is_resource SS KK nK2 hfn F34 cis_resource_pair cS_in cS_get, (gm ("Schema", "is_resource") (by decide +kernel)).at_, (gm ("Schema", "is_resource") (by decide +kernel)).fn, (gm ("Schema", "is_resource") (by decide +kernel)).kp, F34.bindsN (ps := ["self", "thing"]) (fun _ _ _ _ _ _ us hl => match us, hl with | [_, _], _ => rfl)⟩
  have cSt : MkC P w K mg base 1 "State" (He.ga K "State") (spStInit K) ["contents", "tallies"] := ⟨_, fd35, ["self", "contents", "tallies"], gl_mkr c "State" (by decide +kernel), ok_State_init ST nSt1 nSt2 F35, go "State" (by decide +kernel), F35.bindsN (ps := ["self", "contents", "tallies"]) (fun _ _ _ _ _ _ us hl => match us, hl with | [_, _, _], _ => rfl), kbn_of F35 (fun _ _ _ _ _ _ us ws h1 h2 => match us, ws, h1, h2 with | [_], [_, _], _, _ => rfl) fun a b => a.append b⟩
  have cCp : MkC P w K mg base 1 "Copy" (He.ga K "Copy") (spCpInit K) ["resource", "moment", "state"] := ⟨_, fd36, ["self", "resource", "moment", "state"], gl_mkr c "Copy" (by decide +kernel), ok_Copy_init CP nCp1 nCp2 nCp3 F36, go "Copy" (by decide +kernel), F36.bindsN (ps := ["self", "resource", "moment", "state"]) (fun _ _ _ _ _ _ us hl => match us, hl with | [_, _, _, _], _ => rfl), kbn_of F36 (fun _ _ _ _ _ _ us ws h1 h2 => match us, ws, h1, h2 with | [_], [_, _, _], _, _ => rfl) fun a b => a.append b⟩
  have cSv : MkC P w K mg base 1 "Server" (He.ga K "Server") (spSvInit K) ["schema"] := ⟨_, fd39, ["self", "schema"], gl_mkr c "Server" (by decide +kernel), ok_Server_init SV nSv1 nSv2 nSv3 F39, go "Server" (by decide +kernel), F39.bindsN (ps := ["self", "schema"]) (fun _ _ _ _ _ _ us hl => match us, hl with | [_, _], _ => rfl), kbn_of F39 (fun _ _ _ _ _ _ us ws h1 h2 => match us, ws, h1, h2 with | [_], [_], _, _ => rfl) fun a b => a.append b⟩
  have cCp_in : OwM P w K mg base (He.ga K "Copy") 1 "__contains__" (spCpIn K) := ⟨_, fd37, _, ok_Copy_in TI CP ST nCp3 nSt1 F37, (gm ("Copy", "__contains__") (by decide +kernel)).at_, (gm ("Copy", "__contains__") (by decide +kernel)).fn, (gm ("Copy", "__contains__") (by decide +kernel)).kp, F37.bindsN (ps := ["self", "x"]) (fun _ _ _ _ _ _ us hl => match us, hl with | [_, _], _ => rfl)⟩
  have cCp_get : OwM P w K mg base (He.ga K "Copy") 2 "__getitem__" (spCpGet K) := ⟨_, fd38, _, ok_Copy_get CP ST nCp3 nSt1 F38 cCp_in, (gm ("Copy", "__getitem__") (by decide +kernel)).at_, (gm ("Copy", "__getitem__") (by decide +kernel)).fn, (gm ("Copy", "__getitem__") (by decide +kernel)).kp, F38.bindsN (ps := ["self", "at"]) (fun _ _ _ _ _ _ us hl => match us, hl with | [_, _], _ => rfl)⟩
  have cSv_state : OwM P w K mg base (He.ga K "Server") 3 "state_of" (spStateOf K) := ⟨_, fd40, _, ok_Server_state_of SV nSv1 nSv3 KK FK hfn F40 cS_get cK_fields cF_words cSt, (gm ("Server", "state_of") (by decide +kernel)).at_, (gm ("Server", "state_of") (by decide +kernel)).fn, (gm ("Server", "state_of") (by decide +kernel)).kp, F40.bindsN (ps := ["self", "resource"]) (fun _ _ _ _ _ _ us hl => match us, hl with | [_, _], _ => rfl)⟩
  obtain ⟨fdS, FS0⟩ := He5.DefA.funD (d := dS) SF oSok
  have cSv_handled : PropM P w K mg base (SVC K) 1 "handled" (spHandled K) := ⟨_, _, fdS, ["self"], propB_ok oPr, ok_Server_handled TJ SV nSv2 FS0, FS0.bindsN (ps := ["self"]) (fun _ _ _ _ _ _ us hl => match us, hl with | [_], _ => rfl)⟩
  have cSv_readX : OwMX P w K mg base (SVC K) 6 "read" (spReadX K) := ⟨_, _, _, ok_Server_read (gf "tuple" (by decide +kernel)) SV SS nSv1 F41 rB cS_isres cSv_handled cSv_state cCp, (gm ("Server", "read") (by decide +kernel)).at_, (gm ("Server", "read") (by decide +kernel)).fn, (gm ("Server", "read") (by decide +kernel)).kp, F41.bindsN (ps := ["self", "resource"]) (fun _ _ _ _ _ _ us hl => match us, hl with | [_, _], _ => rfl)⟩
  have cSv_latestX : OwMKX P w K mg base (SVC K) 7 "latest" (spReadX K) ["resource"] := ⟨_, _, ["self", "resource"], ok_Server_latest SV F42 cSv_readX, gm ("Server", "latest") (by decide +kernel), kbn_of F42 (fun _ _ _ _ _ _ us ws h1 h2 => match us, ws, h1, h2 with | [_], [_], _, _ => rfl) fun a b => a.append b⟩
  have c_law_kinds : Cal P w K mg base CX0 4 "_law_kinds" (spKinds) := ⟨_, _, _, ok_kinds F17 c_law_take c_law_one c_law_some_words c_law_rising, go "_law_kinds" (by decide +kernel), F17.kp, F17.bindsN (ps := ["_law_state", "_law_most"]) (fun _ _ _ _ _ _ us hl => match us, hl with | [_, _], _ => rfl)⟩
  have c_law_kind_at : Cal P w K mg base CX0 1 "_law_kind_at" (spKindAt) := ⟨_, _, _, ok_kind_at F18, go "_law_kind_at" (by decide +kernel), F18.kp, F18.bindsN (ps := ["_law_kind_rows", "_law_called"]) (fun _ _ _ _ _ _ us hl => match us, hl with | [_, _], _ => rfl)⟩
  have c_law_schema_of : Cal P w K mg base CX0 7 "_law_schema_of" (spSchemaOf K) := ⟨_, _, _, ok_schema_of cK cS F19, go "_law_schema_of" (by decide +kernel), F19.kp, F19.bindsN (ps := ["_law_kind_rows"]) (fun _ _ _ _ _ _ us hl => match us, hl with | [_], _ => rfl)⟩
  have c_law_things : Cal P w K mg base CX0 4 "_law_things" (spThings) := ⟨_, _, _, ok_things F20 c_law_one, go "_law_things" (by decide +kernel), F20.kp, F20.bindsN (ps := ["_law_state", "_law_kind_rows"]) (fun _ _ _ _ _ _ us hl => match us, hl with | [_, _], _ => rfl)⟩
  have c_law_is_resource : Cal P w K mg base CX0 1 "_law_is_resource" (spIsResL) := ⟨_, _, _, ok_is_resourceL TL F21, go "_law_is_resource" (by decide +kernel), F21.kp, F21.bindsN (ps := ["_law_kind_rows", "_law_x"]) (fun _ _ _ _ _ _ us hl => match us, hl with | [_, _], _ => rfl)⟩
  exact ok_law TM SV SS CP nCp1 nCp2 gB RF.xf RF.no RF.exm hfnCp F22 (F22.bindsN (ps := ["_law_ask"]) (fun _ _ _ _ _ _ us hl => match us, hl with | [_], _ => rfl)) (go "_law_tried" (by decide +kernel)) F23 (cdB_code oCd F23) TBL c_law_fresh c_law_kinds c_law_schema_of c_law_things c_law_is_resource c_law_kind_at (same_n 8) cSv cSv_handled cS_isres cSv_readX cSv_latestX cCp_get
end
end Sm
namespace Sm
open PySem PySem.W PySem.Spec PyProof.Rows L2
abbrev R : PySem.W.OpenRow := PySem.W.OpenLaw.row PySem.Challenge.rw_seenmarks_k06_resources
/-- the objects of the top that are looked at -/
def asl : List Addr := ([3, 6, 4, 21, 28, 35, 42, 49, 56, 63, 73, 93, 112, 131, 150, 169, 188, 197, 313, 324, 331, 363, 431, 442, 471, 520, 617, 628, 635, 642] : List Addr) ++ ([649, 654, 659, 666, 671, 678, 683, 688, 695, 700, 705, 710, 0, 20, 27, 34, 41, 48, 55, 62, 72, 92, 111, 130, 149, 168, 187, 196, 312, 323] : List Addr) ++ ([330, 362, 430, 441, 470, 519, 616, 627, 634, 641, 648, 653, 658, 665, 670, 677, 682, 687, 694, 699, 704, 709, 15, 16, 17, 18, 19, 22, 23, 24] : List Addr) ++ ([25, 26, 29, 30, 31, 32, 33, 36, 37, 38, 39, 40, 43, 44, 45, 46, 47, 50, 51, 52, 53, 54, 57, 58, 59, 60, 61, 71, 74, 90] : List Addr) ++ ([91, 109, 110, 128, 129, 147, 148, 166, 167, 185, 186, 191, 192, 193, 194, 195, 209, 216, 223, 230, 237, 244, 251, 258, 265, 270, 275, 282, 289, 296] : List Addr) ++ ([303, 310, 311, 314, 315, 318, 319, 320, 321, 322, 325, 326, 327, 328, 329, 346, 353, 360, 361, 364, 365, 381, 386, 393, 400, 407, 414, 421, 428, 429] : List Addr) ++ ([432, 433, 436, 437, 438, 439, 440, 456, 463, 468, 469, 472, 473, 489, 496, 503, 510, 517, 518, 521, 522, 538, 546, 553, 560, 567, 574, 581, 588, 593] : List Addr) ++ ([600, 607, 614, 615, 618, 619, 622, 623, 624, 625, 626, 629, 630, 631, 632, 633, 636, 637, 638, 639, 640, 643, 644, 645, 646, 647, 650, 651, 652, 655] : List Addr) ++ ([656, 657, 660, 661, 662, 663, 664, 667, 668, 669, 672, 673, 674, 675, 676, 679, 680, 681, 684, 685, 686, 689, 690, 691, 692, 693, 696, 697, 698, 701] : List Addr) ++ ([702, 703, 706, 708, 89, 108, 127, 146, 165, 184, 208, 215, 222, 229, 236, 243, 250, 257, 264, 269, 274, 281, 288, 295, 302, 309, 345, 339, 352, 359] : List Addr) ++ ([380, 385, 392, 399, 406, 413, 420, 427, 455, 462, 467, 488, 495, 502, 509, 516, 537, 545, 552, 559, 566, 573, 580, 587, 592, 599, 606, 613, 84, 85] : List Addr) ++ ([86, 87, 88, 103, 104, 105, 106, 107, 122, 123, 124, 125, 126, 141, 142, 143, 144, 145, 160, 161, 162, 163, 164, 179, 180, 181, 182, 183, 205, 206] : List Addr) ++ ([207, 210, 211, 212, 213, 214, 217, 218, 219, 220, 221, 224, 225, 226, 227, 228, 231, 232, 233, 234, 235, 238, 239, 240, 241, 242, 245, 246, 247, 248] : List Addr) ++ ([249, 252, 253, 254, 255, 256, 259, 260, 261, 262, 263, 266, 267, 268, 271, 272, 273, 276, 277, 278, 279, 280, 283, 284, 285, 286, 287, 290, 291, 292] : List Addr) ++ ([293, 294, 297, 298, 299, 300, 301, 304, 305, 306, 307, 308, 340, 341, 342, 343, 344, 347, 348, 349, 350, 351, 354, 355, 356, 357, 358, 375, 376, 377] : List Addr) ++ ([378, 379, 382, 383, 384, 387, 388, 389, 390, 391, 394, 395, 396, 397, 398, 401, 402, 403, 404, 405, 408, 409, 410, 411, 412, 415, 416, 417, 418, 419] : List Addr) ++ ([422, 423, 424, 425, 426, 450, 451, 452, 453, 454, 457, 458, 459, 460, 461, 464, 465, 466, 483, 484, 485, 486, 487, 490, 491, 492, 493, 494, 497, 498] : List Addr) ++ ([499, 500, 501, 504, 505, 506, 507, 508, 511, 512, 513, 514, 515, 532, 533, 534, 535, 536, 544, 547, 548, 549, 550, 551, 554, 555, 556, 557, 558, 561] : List Addr) ++ ([562, 563, 564, 565, 568, 569, 570, 571, 572, 575, 576, 577, 578, 579, 582, 583, 584, 585, 586, 589, 590, 591, 594, 595, 596, 597, 598, 601, 602, 603] : List Addr) ++ ([604, 605, 608, 609, 610, 611, 612] : List Addr)
def kg (g : Addr → Option Obj) : PySem.W.Frag := He.frT g asl
def tbO (g : Addr → Option Obj) (K : PySem.W.Frag) : Bool := match g (lawTb K) with
  | some ⟨.none, none, .fields ⟨[]⟩, ⟨[]⟩⟩ => true
  | _ => false
theorem tbO_ok {g : Addr → Option Obj} {K : PySem.W.Frag} (h : tbO g K = true) : g (lawTb K) = some { cls := .none, data := .fields #[] } := by
  unfold tbO at h
  split at h
  · rename_i e
    exact e
  · cases h
def Says7 (w : World) (h : Heap) : Prop := ∃ K : PySem.W.Frag, K.In h ∧ He.SaysX fa fn [] [] exB w h K ∧ He5.fnA K (dS.at_ K) = dS.val ∧ h.get? (lawTb K) = some { cls := .none, data := .fields #[] }
abbrev A7 : Type := (He.AlX × He5.FnW) × Bool
theorem sx {w : World} {h : Heap} (e : ((((He.obsT fa fn [] (kg h.get?), exB (kg h.get?)), He5.fnA (kg h.get?) (dS.at_ (kg h.get?))), tbO h.get? (kg h.get?)) : A7) = (((He.valX fn [] w, dS.val), true) : A7)) : Says7 w h := by
  obtain ⟨e0, e5⟩ := Prod.mk.inj e
  obtain ⟨e1, e2⟩ := Prod.mk.inj e0
  obtain ⟨e3, e4⟩ := Prod.mk.inj e1
  refine ⟨kg h.get?, He.frT_in, ⟨e3, e4, ?_, ?_, ?_⟩, e2, tbO_ok e5⟩ <;> exact fun _ hp => absurd hp List.not_mem_nil
theorem sk {w : World} {h h' : Heap} (x : Says7 w h) (k : ∀ K : PySem.W.Frag, K.In h → K.In h') : Says7 w h' := by
  obtain ⟨K, hK, c, sf, tb⟩ := x
  refine ⟨K, k K hK, ⟨c.t, c.more, c.hd, c.out, fun _ hp => absurd hp List.not_mem_nil⟩, sf, ?_⟩
  have q : PySem.W.Frag.In ([(lawTb K, { cls := .none, data := .fields #[] })] : PySem.W.Frag) h := fun b o e => by
    rw [List.lookup_cons] at e
    by_cases z : (b == lawTb K) = true
    · rw [z] at e
      cases e
      rw [beq_iff_eq.mp z]
      exact tb
    · rw [Bool.not_eq_true _ |>.mp z] at e
      cases e
  exact k _ q _ _ (by rw [List.lookup_cons, beq_self_eq_true])
abbrev hk : PySem.W.Hook where
  α := A7
  obs := fun s => (((He.obsT fa fn [] (kg s.heap.get?), exB (kg s.heap.get?)), He5.fnA (kg s.heap.get?) (dS.at_ (kg s.heap.get?))), tbO s.heap.get? (kg s.heap.get?))
  val := fun w => ((He.valX fn [] w, dS.val), true)
  says := fun w h => Says7 w h
  of := fun w h e => sx e
  keeps := fun w h h' x k => sk x fun K hK => PySem.W.Frag.In.keeps hK k
def kf (s : PySem.W.SharedT) : PySem.W.Frag := kg (HandSHeadRun.getT s)
def ob (s : PySem.W.SharedT) : A7 := (((He.obsT fa fn [] (kf s), exB (kf s)), He5.fnA (kf s) (dS.at_ (kf s))), tbO (HandSHeadRun.getT s) (kf s))
theorem ob_eq (s : PySem.W.SharedT) : ob s = hk.obs s.abs := by
  have e : HandSHeadRun.getT s = s.abs.heap.get? := funext (HandSHeadRun.getT_eq s)
  show (((He.obsT fa fn [] (kg (HandSHeadRun.getT s)), exB (kg (HandSHeadRun.getT s))), He5.fnA (kg (HandSHeadRun.getT s)) (dS.at_ (kg (HandSHeadRun.getT s)))), tbO (HandSHeadRun.getT s) (kg (HandSHeadRun.getT s))) = _
  rw [e] <;> rfl
theorem some3 {α β γ : Type} {a a' : α} {b b' : β} {c c' : γ} (h1 : a = a') (h2 : b = b') (h3 : c = c') : some (a, b, c) = some (a', b', c') := by rw [h1, h2, h3]
theorem run_join {E : Option PySem.W.SharedT} {α : Type} (fA : PySem.W.SharedT → Bool) (fB : PySem.W.SharedT → α) (g : α) (w : World) (h0 : E.map (fun s => (fA s, fB s)) = some (true, g)) (h1 : E.map (fun s => fa.all fun f => f.ok (kf s)) = some true)
    (h2 : E.map (fun s => (fn.all (fun d => d.ok (kf s)), exB (kf s))) = some (true, true)) (h3 : E.map (fun s => ((fn.map fun d => He.fnW (kf s) d.at_, He5.fnA (kf s) (dS.at_ (kf s))), tbO (HandSHeadRun.getT s) (kf s))) = some ((fn.map He.DefD.val, dS.val), true)) : E.map (fun s => (fA s, fB s, ob s)) = some (true, g, hk.val w) := by
  cases E with
  | none => cases h0
  | some s =>
    have e0 : (fA s, fB s) = (true, g) := Option.some.inj h0
    have e1 : (fa.all fun f => f.ok (kf s)) = true := Option.some.inj h1
    have e2 : (fn.all (fun d => d.ok (kf s)), exB (kf s)) = (true, true) := Option.some.inj h2
    have e3 : ((fn.map fun d => He.fnW (kf s) d.at_, He5.fnA (kf s) (dS.at_ (kf s))), tbO (HandSHeadRun.getT s) (kf s)) = ((fn.map He.DefD.val, dS.val), true) := Option.some.inj h3
    obtain ⟨e2, e4⟩ := Prod.mk.inj e2
    obtain ⟨e3, e9⟩ := Prod.mk.inj e3
    obtain ⟨e3, e8⟩ := Prod.mk.inj e3
    obtain ⟨e5, e6⟩ := Prod.mk.inj e0
    have eo : ob s = hk.val w := by
      show ((((((fa.all fun f => f.ok (kf s)) && fn.all fun d => d.ok (kf s), fn.map fun d => He.fnW (kf s) d.at_), []), exB (kf s)), He5.fnA (kf s) (dS.at_ (kf s))), tbO (HandSHeadRun.getT s) (kf s)) = (((((true, fn.map He.DefD.val), []), true), dS.val), true)
      rw [e1, e2, e3, e4, e8, e9, Bool.and_self]
    exact some3 e5 e6 eo
def loose : List Str := (["_wall", "LONGEST_WORD", "is_list", "is_pair", "is_word", "is_int", "is_natural", "is_resource_pair", "SeenError", "BadField", "UnknownField", "BadWord", "BadKind", "UnknownKind", "BadResource", "ascending_words", "Fields", "MOST_FIELDS", "MOST_KINDS", "check_kind_fields", "check_kinds", "Kind", "Schema", "pairs_by_resource", "State", "Copy", "Server", "_law_fresh", "_law_fill", "_law_take"] : List Str) ++ (["_law_one", "_law_same", "_law_all_words", "_law_some_words", "_law_rising", "_law_kinds", "_law_kind_at", "_law_schema_of", "_law_tried", "_law_things", "_law_is_resource"] : List Str)
noncomputable def EE (w : World) (os : OsState) : Option PySem.W.SharedT := HandSHeadRun.endF (HandSHeadRun.stepQ (HandSHeadRun.denQ HandSHeadRun.tabQ) R.prog w) 20000 R.prog w os
theorem runA (w : World) (os : OsState) : (EE w os).map (fun s => (HandSHeadRun.looksF R.prog (boot_heap w.params) s.abs, HandSHeadRun.seenQ (PySem.W.view R.prog [47]) loose (importedModules R.prog.main.body) (fun s => PySem.W.xlAt (PySem.W.view R.prog [47]) [] s && PySem.W.recOk R.toRowW.records s) s.abs)) = some ((true, PySem.W.openGood (PySem.W.view R.prog [47]) loose)) := by
  kernel_rfl
theorem runB (w : World) (os : OsState) : (EE w os).map (fun s => fa.all fun f => f.ok (kf s)) = some (true) := by
  kernel_rfl
theorem runC (w : World) (os : OsState) : (EE w os).map (fun s => (fn.all (fun d => d.ok (kf s)), exB (kf s))) = some ((true, true)) := by
  kernel_rfl
theorem runD (w : World) (os : OsState) : (EE w os).map (fun s => ((fn.map fun d => He.fnW (kf s) d.at_, He5.fnA (kf s) (dS.at_ (kf s))), tbO (HandSHeadRun.getT s) (kf s))) = some (((fn.map He.DefD.val, dS.val), true)) := by
  kernel_rfl
theorem run (w : World) : HandSHeadRun.RunEq R (PySem.W.view R.prog [47]) hk ob 20000 loose w := by
  unfold HandSHeadRun.RunEq
  intro os
  have z := run_join (fun s => HandSHeadRun.looksF R.prog (boot_heap w.params) s.abs) (fun s => HandSHeadRun.seenQ (PySem.W.view R.prog [47]) loose (importedModules R.prog.main.body) (fun s => PySem.W.xlAt (PySem.W.view R.prog [47]) [] s && PySem.W.recOk R.toRowW.records s) s.abs) (PySem.W.openGood (PySem.W.view R.prog [47]) loose) w (runA w os) (runB w os) (runC w os) (runD w os)
  unfold EE at z
  exact z
end Sm
namespace Sm
open PySem PySem.Spec PyProof.Rows L2
theorem exB_cd {K : PySem.W.Frag} (S : exB K = true) : cdB K = true := by
  obtain ⟨_, S⟩ := He.ba S
  obtain ⟨_, S⟩ := He.ba S
  obtain ⟨_, S⟩ := He.ba S
  obtain ⟨_, S⟩ := He.ba S
  obtain ⟨_, S⟩ := He.ba S
  obtain ⟨_, S⟩ := He.ba S
  obtain ⟨_, S⟩ := He.ba S
  obtain ⟨_, S⟩ := He.ba S
  obtain ⟨_, S⟩ := He.ba S
  obtain ⟨_, S⟩ := He.ba S
  obtain ⟨_, S⟩ := He.ba S
  exact S
end Sm
open PySem PySem.W PySem.Calls PyProof.Rows
theorem PySem.Challenge.cw_seenmarks_k06_resources_holds : PySem.Challenge.rw_seenmarks_k06_resources.Holds := by
  w_on; o_law
  refine HandSHeadRun.head_any (r := OpenLaw.row PySem.Challenge.rw_seenmarks_k06_resources) (q := view (OpenLaw.row PySem.Challenge.rw_seenmarks_k06_resources).prog [47]) (H := Sm.hk) (ob := Sm.ob) (M := 20000) (loose := Sm.loose) (d := HandSHeadRun.topDef (OpenLaw.row PySem.Challenge.rw_seenmarks_k06_resources).prog 47) (kwd := []) Sm.ob_eq
    (by kernel_rfl) (fun s => by kernel_rfl) Sm.run (by kernel_rfl) (by kernel_rfl) (by kernel_rfl) (by rfl) (by first | assumption | decide +kernel) (by decide +kernel) ⟨rfl, rfl, rfl, rfl, rfl, by decide +kernel⟩ ?hw ?hc
  case hw => w_witness2
  case hc =>
    refine Sm.walk_ofTE (l := PySem.Challenge.rw_seenmarks_k06_resources) (n := 63) (k := 12) (x := "_law_script") (CX := fun _ => L2.CX0) rfl (by decide) (by kernel_rfl) ⟨rfl, by decide, by decide⟩ ?F (fun _ _ _ _ _ z => z)
    intro w mg fa h Y G hmg0
    obtain ⟨K, KX, c, sf, tb⟩ := Y
    have hmg : mg ("law" : PySem.Str) = some (.ref fa) := by
      have e : (HandSHeadRun.topDef (OpenLaw.row PySem.Challenge.rw_seenmarks_k06_resources).prog 47).name = ("law" : PySem.Str) := by kernel_rfl
      rw [← e]
      exact hmg0
    have cd := Sm.exB_cd c.more
    obtain ⟨fd, hb, hF⟩ := Sm.facts (P := (PySem.Challenge.rw_seenmarks_k06_resources).prog) (w := w) KX G hmg c.t.d c.more sf
    refine ⟨K, KX, fd, [(Sm.lawCd K, Sm.lawTb K)], Sm.spLawT K [(Sm.lawCd K, Sm.lawTb K)], fun p hp => ?_, fun p hp => ?_, fun p hp => ?_, hb, fun H a ns hl _ hP hS => ⟨a, ns, rfl, hS, hl, hP, fun _ => rfl⟩, fun base hB hN hT => hF base hB hN (hT _ (List.mem_singleton.mpr rfl))⟩
    · rw [List.mem_singleton.mp hp]
      exact tb
    · rw [List.mem_singleton.mp hp]
      exact (Sm.cdB_head cd KX).2
    · rw [List.mem_singleton.mp hp]
      exact (Sm.cdB_head cd KX).1
