import PyProof.Rows.All
import Wide.All
import OpenK.AllK
import Wide.FinOn
import KE.KStateDown
import HandS.ForMost
import HandS.Walk
import HandS.Wide
import HandS.WideBits
import KE.GoesEnum
import HandS.Codes
import HandS.Style
import HandS.Flow
import HandS.IsInst
import HandS.HeadHook2
import HandS.EndBits
import HandS.DeepEq
import HandS.Zip
import HandS.TupLe
import HandS.ForExc
import HandS.ExcInit
import HandS.ExcIs
import HandS.ExcValue
import HandS.MakeKwOnly
import PySem.Challenge.RW_seenmarks_k01_errors_made
import HandS.Head0
import HandS.Head1
import HandS.Head2
import HandS.HeadEnd
import HandS.HeadHook1
import HandS.HeadHook3
import HandS.HeadHook4
set_option Elab.async false
set_option linter.all false
set_option maxRecDepth 100000
set_option maxHeartbeats 0
/-! enumerate over a tuple -/
namespace PySem
theorem meets_enum1 {v : Value} {o : Obj} {H : Heap → Prop} (B : Begins v o H) :
    Meets (Builtin.«enumerate.__new__» ⟨[.type "enumerate", v], []⟩) (fun _ R s => H s.heap ∧
      R (.ok (.ret (.ref (s.heap.push o).objs.size))) { s with heap := (s.heap.push o).push { cls := .type "enumerate", data := .fields #[.none, .bool false, .ref s.heap.objs.size, rawInt 0, .none, .none] } }) :=
  .of_wp fun prog w A R s h => by
    obtain ⟨hp, g, d, tk, os⟩ := s; obtain ⟨h1, h⟩ := h
    have hsub := sub_enumerate
    have q1 : ∀ {A' : Around} {E : Value → Shared → Prop} {Q : Value → Shared → Prop}, Q (.ref hp.objs.size) ⟨hp.push o, g, d, tk, os⟩ → wpAny (model prog w) A' (pyIter v) Q E ⟨hp, g, d, tk, os⟩ :=
      fun q => B.iter prog w _ _ ⟨hp, g, d, tk, os⟩ _ h1 q
    wp_walk using q1
    refine wpAny_stack_any fun st => wpAny_pure ?_
    split
    · rename_i c _ _ _ _ _
      cases (c == Value.type "enumerate")
      · wp_walk using q1
        exact ⟨_, rfl, h⟩
      · wp_walk using q1
        exact ⟨_, rfl, h⟩
    · wp_walk using q1
      exact ⟨_, rfl, h⟩
theorem enum1_begins {prog : Program} {w : World} {A : Around} {E : Value → Shared → Prop} {s : Shared} {v : Value} {o : Obj} {H : Heap → Prop} {Q : Value → Shared → Prop} (B : Begins v o H) (h1 : H s.heap)
    (h : ∀ h', IsEnum h' (s.heap.objs.size + 1) s.heap.objs.size 0 .none → h'.get? s.heap.objs.size = some o → h'.objs.size = s.heap.objs.size + 2 →
      (∀ b o, s.heap.get? b = some o → h'.get? b = some o) → Q (.ref (s.heap.objs.size + 1)) { s with heap := h' }) :
    wpAny (model prog w) A (call (.type "enumerate") [v]) Q E s := by
  refine callType_new F.called_enumerate (by decide) (F.typeCall_enumerate_1 _) (F.newCall_enumerate_1 _) (fun obj => F.args_object_init_2 obj _) F.entry_enumerate_new
    (meets_enum1 B) ⟨h1, ?_⟩
  have hz : (s.heap.push o).objs.size = s.heap.objs.size + 1 := Heap.size_push ..
  show _ ∧ _
  rw [hz]
  have he : IsEnum ((s.heap.push o).push { cls := .type "enumerate", data := .fields #[.none, .bool false, .ref s.heap.objs.size, rawInt 0, .none, .none] }) (s.heap.objs.size + 1) s.heap.objs.size 0 .none := by
    have := Heap.get?_push_size (s.heap.push o) (o := { cls := .type "enumerate", data := .fields #[.none, .bool false, .ref s.heap.objs.size, rawInt 0, .none, .none] }) rfl
    rw [hz] at this; exact this
  refine ⟨⟨_, he, rfl⟩, h _ he (Heap.get?_push_of_some _ (Heap.get?_push_size _ B.free)) (by rw [Heap.size_push, hz]) fun b o x => Heap.get?_push_of_some _ (Heap.get?_push_of_some _ x)⟩
end PySem
namespace L2
open PySem PySem.Spec PyProof.Rows
/-- the tuple at a, each item in a new pair -/
def IteT (K : PySem.W.Frag) (a : Addr) : It :=
  ⟨fun i H => ∃ (xs : List V) (x : V), SqT K H a xs ∧ xs[i]? = some x, fun i H v H' => ∃ T x, v = .ref T ∧ H T = none ∧ H' = upd H T (.tup [.int (i : Nat), x]) ∧ ∀ xs, SqT K H a xs → xs[i]? = some x, fun i H => ∃ xs : List V, SqT K H a xs ∧ xs.length = i⟩
theorem turn_enumT {P : Program} {w : World} {K : PySem.W.Frag} {elts : List Expr} {kk : Nat} {tpos : Pos} (a e it : Addr) :
    Turn P w K (.Tuple elts kk tpos) (IteT K a) [e, it] e (fun i h => (∃ old, IsEnum h e it ((i : Nat) : Int) old) ∧ h.IsTupleIter it a i ∧ e ≠ it) where
  mem := by simp
  obj := fun i h st b hb => by
    obtain ⟨⟨old, he⟩, ⟨o, ho, hc, hd⟩, _⟩ := st
    have e' : b = e ∨ b = it := by simpa using hb
    rcases e' with z | z
    · rw [z]; exact ⟨_, he, fun v q => nomatch q⟩
    · rw [z]; exact ⟨o, ho, fun v q => by rw [hd] at q; cases q⟩
  keep := fun i h h' st k => let ⟨⟨old, he⟩, hi, hne⟩ := st; ⟨⟨old, k e (by simp) _ he⟩, hi.at fun o q => k it (by simp) o q, hne⟩
  item := by
    intro X hP hw hK hc i pins s σ H E I hf st hg
    subst hP hw hK
    obtain ⟨⟨old, he⟩, hit, hne⟩ := st
    obtain ⟨xs, x, hq, hx⟩ := hg
    obtain ⟨its, rv, p, hz⟩ := I.tuple hq
    obtain ⟨u, hu, ru⟩ := rv.get hx
    have hel : e < s.heap.objs.size := Heap.lt_size he
    have hil : it < s.heap.objs.size := by obtain ⟨_, q, _⟩ := hit; exact Heap.lt_size q
    have hp : s.heap.IsTuple a its.toArray := p
    have hia : a ≠ it := by
      rintro rfl
      obtain ⟨o1, q1, c1, d1⟩ := hit
      obtain ⟨o2, q2, c2, _⟩ := hp
      rw [q1] at q2
      cases q2
      rw [c1] at c2
      exact absurd c2 (by decide)
    have hea : a ≠ e := by
      rintro rfl
      obtain ⟨o2, q2, c2, _⟩ := hp
      rw [he] at q2
      cases q2
      have c3 : Value.type "enumerate" = Value.type "tuple" := c2
      exact absurd c3 (by decide)
    have D : Draws X.prog X.w X.A.in1 it [it, a] its.toArray.size (fun i v => its.toArray[i]? = some v) (fun i h => h.IsTupleIter it a i ∧ h.IsTuple a its.toArray) := Draws.tuple (A := X.A.in1) (show X.A.in1.handled = none from I.ok.hd hc) it a hia _
    have hlt : i < its.toArray.size := by
      have := (List.getElem?_eq_some_iff.mp hu).1
      simpa using this
    refine wpAny_pyNext_enum_itemD D he ⟨hit, hp⟩ hlt hne (by simp [hne, Ne.symm hea]) fun x' h' tk hP ho hst hT hsz hk => ?_
    have ex : x' = u := by
      have q : its.toArray[i]? = some u := by simpa using hu
      rw [q] at hP
      exact (Option.some.inj hP).symm
    subst ex
    refine ⟨_, rfl, wpAny_letOwnedTupleGo_enum (s := { s with heap := h', toks := tk + 1 }) ho fun h'' he' sb => ?_⟩
    have hT2 : h''.get? s.heap.objs.size = some { cls := .type "tuple", data := .seq #[.int i tk, x'] } := (sb.2 _ (Nat.ne_of_gt hel)).trans hT
    have new : ObjOk X.prog X.w (upd H s.heap.objs.size (.tup [.int (i : Nat), x])) h'' s.heap.objs.size (.tup [.int (i : Nat), x]) :=
      ⟨by show 2 ≤ sizeLine; decide, [.int i tk, x'], .cons ⟨_, rfl⟩ (.cons ru .nil), ⟨_, hT2, rfl, _, rfl⟩⟩
    have I1 : Inv X pins σ (upd H s.heap.objs.size (.tup [.int (i : Nat), x])) { s with heap := h'', toks := tk + 1 } :=
      I.turnedNew (ch := [e, it]) (fun b ob hb q => (sb.2 b (fun z => hb (by simp [z]))).trans (hk b ob (fun z => hb (by simp [z])) (fun z => hb (by simp [z])) q)) hf (Nat.le_refl _) new
    refine ⟨.ref s.heap.objs.size, _, I1, rfl, ⟨_, x, rfl, I.hok.fresh (Nat.le_refl _), rfl, fun ys hy => by rw [I.tuple_inj hy hq]; exact hx⟩, ⟨⟨x', ?_⟩, hst.1.at fun o q => (sb.2 it (Ne.symm hne)).trans q, hne⟩, fun b hb => ?_⟩
    · have e1 : ((i + 1 : Nat) : Int) = (i : Int) + 1 := by omega
      rw [e1]; exact he'
    · have hb' : b < s.heap.objs.size := by
        have e' : b = e ∨ b = it := by simpa using hb
        rcases e' with z | z
        · rw [z]; exact hel
        · rw [z]; exact hil
      rw [upd_ne (Nat.ne_of_lt hb')]
      exact (hf b hb).1
  done := by
    intro X hP hw hK hc i pins s σ H E I hf st hg
    subst hP hw hK
    obtain ⟨⟨old, he⟩, hit, hne⟩ := st
    obtain ⟨xs, hq, hx⟩ := hg
    obtain ⟨its, rv, p, hz⟩ := I.tuple hq
    obtain ⟨f0, f1, f2, f3, f4, f5⟩ := hf it (by simp)
    have hl := rv.length
    have hp : s.heap.IsTuple a its.toArray := p
    have hia : a ≠ it := by
      rintro rfl
      obtain ⟨o1, q1, c1, d1⟩ := hit
      obtain ⟨o2, q2, c2, _⟩ := hp
      rw [q1] at q2
      cases q2
      rw [c1] at c2
      exact absurd c2 (by decide)
    have D : Draws X.prog X.w X.A.in1 it [it, a] its.toArray.size (fun i v => its.toArray[i]? = some v) (fun i h => h.IsTupleIter it a i ∧ h.IsTuple a its.toArray) := Draws.tuple (A := X.A.in1) (show X.A.in1.handled = none from I.ok.hd hc) it a hia _
    have ei : its.toArray.size = i := by simp; omega
    exact wpAny_pyNext_enum_endD D he ⟨by rw [ei]; exact hit, hp⟩ fun h' eb => ⟨rfl, I.turned (t' := s.toks) (fun b o hb q => eb b o hb q) f0 f1 f3 f4 f5⟩
  self := fun A i s Q E st h => let ⟨⟨_, he⟩, _⟩ := st; wpAny_pyIter_enum he h
def iEnumT (K : PySem.W.Frag) (ta : TA) : TI := fun σ H R => ta σ H fun vs H1 => ∃ a xs, vs = [.ref a] ∧ SqT K H1 a xs ∧ R (IteT K a) H1
theorem pi_enumT {X : Cx} {e : Expr} {ta : TA} {p pos tpos : Pos} {elts : List Expr} {kk : Nat} (hg : Gl X "enumerate") (hm : X.mg "enumerate" = none) (ha : PA X [e] ta) (hs : starEach [e] X.env = [(false, eval e X.env)] := by rfl) :
    PI X (.Tuple elts kk tpos) (.Call (.Name "enumerate" p) [e] [] pos) (iEnumT X.K ta) := by
  refine ⟨fun pins s σ H R I h => ?_⟩
  refine Call_ (ld_blt I hg hm boot_enumerate (PyProof.Rows.callWith_type1 (thn (ha.run pos pins s σ H _ I h) fun us s1 ⟨vs, H1, I1, r1, q1⟩ => ?_) hs rfl))
  obtain ⟨a, xs, ex, hq, q⟩ := q1
  subst ex
  cases r1 with
  | cons r rr =>
    cases rr
    cases r
    obtain ⟨its, rv, p', hz⟩ := I1.tuple hq
    refine enum1_begins (begins_tuple a its.toArray) p' fun h' he hit hsz hk => wpAny_pyIter_enum he ?_
    have I2 : Inv X pins σ H1 { s1 with heap := h' } := I1.kept (t' := s1.toks) hk
    refine ⟨s1.heap.objs.size + 1, [s1.heap.objs.size + 1, s1.heap.objs.size], _, _, H1, rfl, I2, turn_enumT a (s1.heap.objs.size + 1) s1.heap.objs.size, ⟨⟨.none, he⟩, ⟨_, hit, rfl, rfl⟩, Nat.succ_ne_self _⟩, fun b hb => ?_, q⟩
    have e' : b = s1.heap.objs.size + 1 ∨ b = s1.heap.objs.size := by simpa using hb
    have hle : s1.heap.objs.size ≤ b := by
      rcases e' with z | z
      · rw [z]; exact Nat.le_add_right _ _
      · rw [z]; exact Nat.le_refl _
    exact I1.fpOk hle (I1.hok.fresh hle)
theorem walk_enumT {K : PySem.W.Frag} {a : Addr} {xs : List V} : Walk (IteT K a) xs.length (fun H => SqT K H a xs) (YPair (fun i => some (.int (i : Nat))) (fun i => xs[i]?)) := by
  refine ⟨fun i _ hi q => ⟨xs, xs[i], q, by simp [hi]⟩, fun _ q => ⟨xs, q, rfl⟩, fun i H v H' _ q y => ?_⟩
  obtain ⟨T, x, h1, h2, h3, h4⟩ := y
  exact ⟨T, .int (i : Nat), x, h1, h2, h3, rfl, h4 xs q⟩
end L2
namespace Sm
open PySem PySem.Spec PyProof.Rows L2
/-- all but p stands as it stood -/
def Off (p : Addr) (H H' : Hp) : Prop := ∀ b o, b ≠ p → H b = some o → H' b = some o
theorem Off.refl {p : Addr} {H : Hp} : Off p H H := fun _ _ _ h => h
theorem Off.trans {p : Addr} {H H1 H2 : Hp} (a : Off p H H1) (b : Off p H1 H2) : Off p H H2 := fun c o n h => b c o n (a c o n h)
theorem Off.new {p q : Addr} {H : Hp} {o : HO} (h : H q = none) : Off p H (upd H q o) := fun b u _ e => by
  rw [upd_ne (ne_of_none e h)]
  exact e
theorem Off.put {p : Addr} {H : Hp} {o : HO} : Off p H (upd H p o) := fun b u n e => by
  rw [upd_ne n]
  exact e
theorem Off.seq {K : PySem.W.Frag} {p a : Addr} {H H' : Hp} {xs : List V} (e : Off p H H') (n : a ≠ p) (h : SqL K H a xs) : SqL K H' a xs := by
  rcases h with (h | ⟨o, h⟩) | h
  · exact .inl (.inl (e _ _ n h))
  · exact .inl (.inr ⟨o, e _ _ n h⟩)
  · exact .inr h
/-- what is new behind was new ahead, but for p -/
theorem Off.free {p a : Addr} {H H' : Hp} (e : Off p H H') (n : a ≠ p) (h : H' a = none) : H a = none := by
  cases q : H a with
  | none => rfl
  | some o =>
    rw [e a o n q] at h
    cases h
/-- the state for draws at p: its cells, the next one, what is left, whether it is mixed -/
structure DrAt (H : Hp) (p c : Addr) (ns : List Int) (n l : Int) (m : Bool) : Prop where
  st : H p = some (.lst [.ref c, .int n, .int l, .bl m])
  ce : H c = some (.lst (ns.map V.int))
  sz : ns.length ≤ 63
def Dr (H : Hp) (p c : Addr) : Prop := ∃ (ns : List Int) (n l : Int) (m : Bool), DrAt H p c ns n l m
theorem DrAt.ne {H : Hp} {p c : Addr} {ns : List Int} {n l : Int} {m : Bool} (d : DrAt H p c ns n l m) : c ≠ p := by
  rintro rfl
  have h := d.ce
  rw [d.st] at h
  have h2 := HO.lst.inj (Option.some.inj h)
  cases ns with
  | nil => cases h2
  | cons a r => cases h2
theorem Dr.some {H : Hp} {p c : Addr} (d : Dr H p c) : ∃ o, H p = some o := let ⟨_, _, _, _, d⟩ := d; ⟨_, d.st⟩
theorem Dr.ne {H : Hp} {p c a : Addr} (d : Dr H p c) (h : H a = none) : a ≠ p := by
  rintro rfl
  obtain ⟨o, e⟩ := d.some
  rw [e] at h
  cases h
theorem Dr.nec {H : Hp} {p c a : Addr} (d : Dr H p c) (h : H a = none) : a ≠ c := by
  rintro rfl
  obtain ⟨_, _, _, _, D⟩ := d
  rw [D.ce] at h
  cases h
theorem Dr.pc {H : Hp} {p c : Addr} (d : Dr H p c) : c ≠ p := by
  obtain ⟨_, _, _, _, D⟩ := d
  rintro rfl
  have h := D.ce
  rw [D.st] at h
  have h2 := HO.lst.inj (Option.some.inj h)
  rename_i ns _ _ _
  cases ns with
  | nil => cases h2
  | cons a r => cases h2
/-- another object is laid or changed -/
theorem DrAt.off {H H' : Hp} {p c q : Addr} {ns : List Int} {n l : Int} {m : Bool} (d : DrAt H p c ns n l m) (e : Off q H H') (hp : p ≠ q) (hc : c ≠ q) : DrAt H' p c ns n l m := ⟨e _ _ hp d.st, e _ _ hc d.ce, d.sz⟩
theorem DrAt.new {H : Hp} {p c q : Addr} {ns : List Int} {n l : Int} {m : Bool} {o : HO} (d : DrAt H p c ns n l m) (h : H q = none) : DrAt (upd H q o) p c ns n l m :=
  ⟨by rw [upd_ne (ne_of_none d.st h)]; exact d.st, by rw [upd_ne (ne_of_none d.ce h)]; exact d.ce, d.sz⟩
theorem DrAt.put {H : Hp} {p c : Addr} {ns : List Int} {n l n' l' : Int} {m m' : Bool} (d : DrAt H p c ns n l m) : DrAt (upd H p (.lst [.ref c, .int n', .int l', .bl m'])) p c ns n' l' m' :=
  ⟨upd_same, by rw [upd_ne d.ne]; exact d.ce, d.sz⟩
theorem Dr.off {H H' : Hp} {p c q : Addr} (d : Dr H p c) (e : Off q H H') (hp : p ≠ q) (hc : c ≠ q) : Dr H' p c := let ⟨ns, n, l, m, D⟩ := d; ⟨ns, n, l, m, D.off e hp hc⟩
theorem Dr.new {H : Hp} {p c q : Addr} {o : HO} (d : Dr H p c) (h : H q = none) : Dr (upd H q o) p c := let ⟨ns, n, l, m, D⟩ := d; ⟨ns, n, l, m, D.new h⟩
theorem Dr.same {H H' : Hp} {p c : Addr} (d : Dr H p c) (e : Same H H') : Dr H' p c := let ⟨ns, n, l, m, D⟩ := d; ⟨ns, n, l, m, ⟨e _ _ D.st, e _ _ D.ce, D.sz⟩⟩
/-- a tracked object but p changes -/
theorem Dr.upd {H : Hp} {p c q : Addr} {o : HO} (d : Dr H p c) (hp : q ≠ p) (hc : q ≠ c) : Dr (upd H q o) p c := d.off (Off.put (p := q)) (Ne.symm hp) (Ne.symm hc)
theorem Same.off {p : Addr} {H H' : Hp} (e : Same H H') : Off p H H' := fun b o _ h => e b o h
/-- the promises -/
def spFresh (K : PySem.W.Frag) : Sp := fun vs H Q _ => ∃ (a : Addr) (ns : List Int), vs = [.ref a] ∧ SqL K H a (ns.map V.int) ∧ ns.length ≤ 63 ∧ ∀ p c H', H p = none → H c = none → Same H H' → Dr H' p c → Q (.ref p) H'
def spFill : Sp := fun vs H Q _ => ∃ p c : Addr, vs = [.ref p] ∧ Dr H p c ∧ ∀ H', Off p H H' → Dr H' p c → Q .non H'
def spTake : Sp := fun vs H Q _ => ∃ (p c : Addr) (k : Int), vs = [.ref p, .int k] ∧ Dr H p c ∧ 0 < k ∧ k.natAbs.log2 < 8000 ∧ ∀ (d : Int) H', 0 ≤ d → d < k → Off p H H' → Dr H' p c → Q (.int d) H'
def spOne (K : PySem.W.Frag) : Sp := fun vs H Q _ => ∃ (p c a : Addr) (xs : List V), vs = [.ref p, .ref a] ∧ Dr H p c ∧ SqL K H a xs ∧ a ≠ p ∧ xs ≠ [] ∧ xs.length ≤ 100000 ∧ ∀ (x : V) H', x ∈ xs → Off p H H' → Dr H' p c → Q x H'
/-- a statement, then the rest, with a word of one's own between them -/
def tCut (t u : TS) : TS := fun D σ H => ∃ Mid : L2.St → Hp → Prop, t { D with nx := Mid } σ H ∧ ∀ σ' H', Mid σ' H' → u D σ' H'
theorem pss_cut {X : Cx} {st : Stmt} {rest : List Stmt} {t u : TS} (h1 : PS X st t) (h2 : PSs X rest u) : PSs X (st :: rest) (tCut t u) := by
  refine ⟨fun pins s σ H D I h => ?_⟩
  obtain ⟨Mid, hm, hu⟩ := h
  refine wpAny_execs_cons (thn (h1.run pins s σ H { D with nx := Mid } I hm) fun f s1 q => ?_)
  cases f with
  | next =>
    obtain ⟨σ', H', I', q⟩ := q
    exact h2.run pins s1 σ' H' D I' (hu σ' H' q)
  | ret v => exact q
  | brk => exact q
  | cont => exact q
/-- a def of the module by its name, with what it promises -/
structure Cal (P : Program) (w : World) (K : PySem.W.Frag) (mg : Str → Option Value) (base : Heap) (CX : CXT) (k : Nat) (x : Str) (sp : Sp) : Prop where
  ex : ∃ (f : Addr) (fd : FuncData) (ps : List Str), FnOk P w K mg base CX k f fd ps sp ∧ mg x = some (.ref f) ∧ PySem.W.keepIn K (.ref f) = true ∧ Binds K fd ps []
theorem Cal.imp {P : Program} {w : World} {K : PySem.W.Frag} {mg : Str → Option Value} {base : Heap} {CX : CXT} {k : Nat} {x : Str} {sp sp' : Sp} (c : Cal P w K mg base CX k x sp) (h : ∀ vs H Q E, sp' vs H Q E → sp vs H Q E) : Cal P w K mg base CX k x sp' := by
  obtain ⟨f, fd, ps, F, a, b, d⟩ := c.ex
  exact ⟨f, fd, ps, F.imp h, a, b, d⟩
theorem pe_c {X : Cx} {j k : Nat} {x : Str} {sp : Sp} {p pos : Pos} {e : Expr} {es : List Expr} {t : TA} (c : Cal X.prog X.w X.K X.mg X.base CX0 k x sp) (hr : Room j X.A) (hk : k ≤ j) (hg : Gl X x) (ha : PA X (e :: es) t)
    (hdb : (x == ("__debug__" : Str)) = false := by decide) (he : starEach (e :: es) X.env = (false, eval e X.env) :: starEach es X.env := by rfl) (hpl : (backTo pos (starEach es X.env)).any (·.1) = false := by rfl) :
    PE X (.Call (.Name x p) (e :: es) [] pos) (tCall sp [] E0 t) := by
  obtain ⟨f, fd, ps, F, hm, kp, b⟩ := c.ex
  exact pe_call F (hr.mono hk) hg hm kp b .nil pass0 ha hdb he hpl
/-- a test that answers something and leaves the heap -/
def Any (t : TT) (σ : L2.St) (H : Hp) : Prop := ∀ Q : Bool → Hp → Prop, (∀ b, Q b H) → t σ H Q
theorem any_or {t u : TT} {σ : L2.St} {H : Hp} (h1 : Any t σ H) (h2 : Any u σ H) : Any (tOr t u) σ H := fun Q q => h1 _ fun b => by
  cases b with
  | true => exact iteT (q true)
  | false => exact iteF (h2 Q q)
theorem any_and {t u : TT} {σ : L2.St} {H : Hp} (h1 : Any t σ H) (h2 : Any u σ H) : Any (tAnd t u) σ H := fun Q q => h1 _ fun b => by
  cases b with
  | true => exact iteT (h2 Q q)
  | false => exact iteF (q false)
theorem fmod_small {a q : Int} (h : 0 < q) (h2 : q < 2 ^ 31) : (a.fmod q).natAbs < 2 ^ 64 := by
  have h3 := Int.fmod_nonneg_of_pos a h
  have h4 := Int.fmod_lt_of_pos a h
  omega

theorem log2_lt_of {k : Int} {n : Nat} (h0 : 0 < k) (hn : 0 < n) (h : k < 2 ^ n) : k.natAbs.log2 < n := by
  refine PySem.Flt.log2_lt_of hn ?_
  have e : ((k.natAbs : Nat) : Int) = k := Int.natAbs_of_nonneg (Int.le_of_lt h0)
  have e2 : ((2 ^ n : Nat) : Int) = 2 ^ n := by simp
  omega
end Sm
namespace Sm
open PySem PySem.Spec PyProof.Rows L2
section
variable {X : Cx}
theorem op_orR {f : Value → Value → Sem Value} {r r' : R2} (h : OpR X f r) (h' : OpR X f r') : OpR X f (fun x y H Q => r x y H Q ∨ r' x y H Q) := fun pins s σ H x y v u Q I rx ry q => q.elim (h pins s σ H x y v u Q I rx ry) (h' pins s σ H x y v u Q I rx ry)
theorem call_or {f : Value} {r r' : List V → Hp → VK → Prop} (h : CallR X f r) (h' : CallR X f r') : CallR X f (fun xs H Q => r xs H Q ∨ r' xs H Q) := fun pins s σ H xs us Q I rr q => q.elim (h pins s σ H xs us Q I rr) (h' pins s σ H xs us Q I rr)
end
theorem hu64_of {A : Around} {k : Nat} (hr : Room k A) : A.units + 64 < cLine := by
  have := hr.un
  omega
/-- the kinds of what is told apart -/
inductive Knd where
  | non | bl | int | str | lst | tup | dic
  deriving DecidableEq
def Knd.name : Knd → String
  | .non => "NoneType" | .bl => "bool" | .int => "int" | .str => "str" | .lst => "list" | .tup => "tuple" | .dic => "dict"
inductive KindOf (H : Hp) : V → Knd → Prop
  | non : KindOf H .non .non
  | bl (b : Bool) : KindOf H (.bl b) .bl
  | int (i : Int) : KindOf H (.int i) .int
  | str (x : Str) : KindOf H (.str x) .str
  | lst {a : Addr} {xs : List V} (h : H a = some (.lst xs)) : KindOf H (.ref a) .lst
  | tup {a : Addr} {xs : List V} (h : H a = some (.tup xs)) : KindOf H (.ref a) .tup
  | dic {a : Addr} {kvs : List (Key × V)} (h : H a = some (.dK kvs)) : KindOf H (.ref a) .dic
def isi (k T : Knd) : Bool := decide (k = T) || (decide (k = .bl) && decide (T = .int))
theorem kit_knd {K : PySem.W.Frag} (k T : Knd) : PySem.W.kitOne K (.type k.name) (.type T.name) = some (isi k T) := by
  cases k <;> cases T <;> exact kit_ty (by decide +kernel)
theorem KindOf.ty {K : PySem.W.Frag} {H : Hp} {x : V} {k : Knd} (h : KindOf H x k) : TyX K H x (.type k.name) := by
  cases h with
  | non => exact .base .non
  | bl b => exact .base (.bl b)
  | int i => exact .base (.int i)
  | str x => exact .base (.str x)
  | lst h => exact .base (.lst h)
  | tup h => exact .base (.tup h)
  | dic h => exact .base (.dK h)
theorem KindOf.on {H H' : Hp} {x : V} {k : Knd} (h : KindOf H x k) (e : Same H H') : KindOf H' x k := by
  cases h with
  | non => exact .non
  | bl b => exact .bl b
  | int i => exact .int i
  | str x => exact .str x
  | lst h => exact .lst (e _ _ h)
  | tup h => exact .tup (e _ _ h)
  | dic h => exact .dic (e _ _ h)
theorem Same.new {H : Hp} {p : Addr} {o : HO} (h : H p = none) : Same H (upd H p o) := fun a u e => by
  rw [upd_ne (ne_of_none e h)]
  exact e
def isiAny (k : Knd) (Ts : List Knd) : Bool := Ts.any (isi k)
theorem kit_any {K : PySem.W.Frag} (k : Knd) : ∀ Ts : List Knd, PySem.W.kitAny K (.type k.name) (Ts.map fun T => .type T.name) = some (isiAny k Ts)
  | [] => rfl
  | T :: Ts => kitAny_cons (kit_knd k T) (fun e => by
      have q := kit_any (K := K) k Ts
      rw [q]
      show some (Ts.any (isi k)) = some (isi k T || Ts.any (isi k))
      rw [e, Bool.false_or]) (fun e => by
      show (isi k T || Ts.any (isi k)) = true
      rw [e, Bool.true_or])
theorem cls_all : ∀ Ts : List Knd, Paired ClsV (Ts.map fun T => V.ty T.name) (Ts.map fun T => Value.type T.name)
  | [] => .nil
  | _ :: Ts => .cons (.ty _) (cls_all Ts)
theorem walk_zipT {K : PySem.W.Frag} {a b : Addr} {xs ys : List V} {n : Nat} (hn : n = min xs.length ys.length) : Walk (RZ.ItzT K a b) n (fun H => SqT K H a xs ∧ SqT K H b ys) (YPair (fun i => xs[i]?) (fun i => ys[i]?)) := by
  subst hn
  refine ⟨fun i _ hi q => ?_, fun _ q => ⟨xs, ys, q.1, q.2, by omega⟩, fun i H v H' _ q y => ?_⟩
  · have h1 : i < xs.length := by omega
    have h2 : i < ys.length := by omega
    exact ⟨xs, ys, xs[i], ys[i], q.1, q.2, by simp [h1], by simp [h2]⟩
  · obtain ⟨T, x, z, h1, h2, h3, h4, h5⟩ := y
    exact ⟨T, x, z, h1, h2, h3, h4 xs q.1, h5 ys q.2⟩
/-- whether x and y are alike down to kinds: b; of nesting below n -/
inductive SameB (H : Hp) : Nat → V → V → Bool → Prop
  | sc {n : Nat} {x y : V} (hx : flatV x = true) (hy : flatV y = true) : SameB H (n + 1) x y (decide (x = y))
  | dic {n : Nat} {a : Addr} {kvs : List (Key × V)} (h : H a = some (.dK kvs)) (hk : ∀ p ∈ kvs, valV kvs p.1 = some p.2) (hf : ∀ p ∈ kvs, flatV p.2 = true ∨ ∃ c, p.2 = .ref c) : SameB H (n + 1) (.ref a) (.ref a) true
  | lst {n : Nat} {a c : Addr} {xs ys : List V} {bs : List Bool} (hx : H a = some (.lst xs)) (hy : H c = some (.lst ys)) (hl : xs.length = ys.length) (hb : xs.length = bs.length) (hz : xs.length ≤ 10000)
      (h : ∀ (i : Nat) (x y : V) (b : Bool), xs[i]? = some x → ys[i]? = some y → bs[i]? = some b → SameB H n x y b) : SameB H (n + 1) (.ref a) (.ref c) (bs.all id)
  | tup {n : Nat} {a c : Addr} {xs ys : List V} {bs : List Bool} (hx : H a = some (.tup xs)) (hy : H c = some (.tup ys)) (hl : xs.length = ys.length) (hb : xs.length = bs.length) (hz : xs.length ≤ 10000)
      (h : ∀ (i : Nat) (x y : V) (b : Bool), xs[i]? = some x → ys[i]? = some y → bs[i]? = some b → SameB H n x y b) : SameB H (n + 1) (.ref a) (.ref c) (bs.all id)
  | lstN {n : Nat} {a c : Addr} {xs ys : List V} (hx : H a = some (.lst xs)) (hy : H c = some (.lst ys)) (hl : xs.length ≠ ys.length) : SameB H (n + 1) (.ref a) (.ref c) false
  | tupN {n : Nat} {a c : Addr} {xs ys : List V} (hx : H a = some (.tup xs)) (hy : H c = some (.tup ys)) (hl : xs.length ≠ ys.length) : SameB H (n + 1) (.ref a) (.ref c) false
  | mis {n : Nat} {x y : V} {k l : Knd} (hx : KindOf H x k) (hy : KindOf H y l) (hl : l = .lst ∨ l = .tup) (hk : k ≠ l) : SameB H (n + 1) x y false
  | misS {n : Nat} {x y : V} {k : Knd} (hx : KindOf H x k) (hy : flatV y = true) (hk : k = .lst ∨ k = .tup) : SameB H (n + 1) x y false
def spSame (n : Nat) : Sp := fun vs H Q _ => ∃ (x y : V) (b : Bool), vs = [x, y] ∧ SameB H n x y b ∧ ∀ H', Same H H' → Q (.bl b) H'
theorem SameB.on {H H' : Hp} (e : Same H H') : ∀ {n : Nat} {x y : V} {b : Bool}, SameB H n x y b → SameB H' n x y b := by
  intro n
  induction n with
  | zero => intro x y b h; cases h
  | succ n ih =>
    intro x y b h
    cases h with
    | sc hx hy => exact .sc hx hy
    | dic h hk hf => exact .dic (e _ _ h) hk hf
    | lst hx hy hl hb hz h => exact .lst (e _ _ hx) (e _ _ hy) hl hb hz fun i x y b p q r => ih (h i x y b p q r)
    | tup hx hy hl hb hz h => exact .tup (e _ _ hx) (e _ _ hy) hl hb hz fun i x y b p q r => ih (h i x y b p q r)
    | lstN hx hy hl => exact .lstN (e _ _ hx) (e _ _ hy) hl
    | tupN hx hy hl => exact .tupN (e _ _ hx) (e _ _ hy) hl
    | mis hx hy hl hk => exact .mis (hx.on e) (hy.on e) hl hk
    | misS hx hy hk => exact .misS (hx.on e) hy hk
theorem flat_kind {H : Hp} {x : V} (h : flatV x = true) : ∃ k, KindOf H x k ∧ k ≠ .lst ∧ k ≠ .tup ∧ k ≠ .dic := by
  cases x with
  | non => exact ⟨_, .non, by decide, by decide, by decide⟩
  | bl b => exact ⟨_, .bl b, by decide, by decide, by decide⟩
  | int i => exact ⟨_, .int i, by decide, by decide, by decide⟩
  | str s => exact ⟨_, .str s, by decide, by decide, by decide⟩
  | _ => cases h
def kndOf : V → Knd
  | .non => .non | .bl _ => .bl | .int _ => .int | .str _ => .str | _ => .dic
theorem flat_knd {H : Hp} {x : V} (h : flatV x = true) : KindOf H x (kndOf x) := by
  cases x with
  | non => exact .non
  | bl b => exact .bl b
  | int i => exact .int i
  | str s => exact .str s
  | _ => cases h
/-- the tests that tell kinds apart never fail -/
theorem ne_bl {K : PySem.W.Frag} {H : Hp} {x y : Bool} {Q : VK} (q : Q (.bl (!decide (V.bl x = V.bl y))) H) : rNe (.bl x) (.bl y) H Q := ⟨rfl, q⟩
end Sm
/-! the rules with the written part told by a name of its own, so that they may stand under a comprehension -/
namespace Sm
open PySem PySem.Spec PyProof.Rows L2
def rLenSq (K : PySem.W.Frag) : List V → Hp → VK → Prop := fun xs H Q => ∃ p ys, xs = [.ref p] ∧ (SqL K H p ys ∨ SqT K H p ys) ∧ Q (.int ys.length) H
def rListOf (K : PySem.W.Frag) : List V → Hp → VK → Prop := fun xs H Q => ∃ p ys, xs = [.ref p] ∧ (SqL K H p ys ∨ SqT K H p ys) ∧ ∀ l, H l = none → Q (.ref l) (upd H l (.lst ys))
def rTupOf (K : PySem.W.Frag) : List V → Hp → VK → Prop := fun xs H Q => ∃ p ys, xs = [.ref p] ∧ ((SqL K H p ys ∧ ∀ l, H l = none → Q (.ref l) (upd H l (.tup ys))) ∨ (SqT K H p ys ∧ Q (.ref p) H))
section
variable {X : Cx} {K : PySem.W.Frag}
theorem ix_listK (h : X.K = K := by rfl) : IxR X (rIxL K) := by subst h; exact ix_list
theorem ix_tupK (h : X.K = K := by rfl) : IxR X (rIxT K) := by subst h; exact ix_tup
theorem sl_listK (h : X.K = K := by rfl) : SlR X (rSlL K) := by subst h; exact sl_list
theorem sl_tupK (h : X.K = K := by rfl) : SlR X (rSlT K) := by subst h; exact sl_tup
theorem op_catTK (h : X.K = K := by rfl) : OpR X (binaryOp .Add) (rCatT K) := by subst h; exact op_catT
theorem op_inK (h : X.K = K := by rfl) : OpR X (compareOp .In) (rIn K false) := by subst h; exact op_in_seq
theorem op_notInK (h : X.K = K := by rfl) : OpR X (compareOp .NotIn) (rIn K true) := by subst h; exact op_notIn_seq
theorem op_eqDK (hu : X.A.units + 64 < cLine) (h : X.K = K := by rfl) : OpR X (compareOp .Eq) (rEqD K) := by subst h; exact op_eqD hu
theorem op_neDK (hu : X.A.units + 64 < cLine) (h : X.K = K := by rfl) : OpR X (compareOp .NotEq) (rNeD K) := by subst h; exact op_neD hu
theorem op_eqVK (hu : X.A.units + 64 < cLine) (h : X.K = K := by rfl) : OpR X (compareOp .Eq) (rEqV K) := by subst h; exact op_eqV hu
theorem call_lenK (h : X.K = K := by rfl) : CallR X (.builtin "len") (rLenSq K) := by subst h; exact call_len_seq
theorem call_listK (h : X.K = K := by rfl) : CallR X (.type "list") (rListOf K) := by subst h; exact call_list_of
theorem call_tupleK (h : X.K = K := by rfl) : CallR X (.type "tuple") (rTupOf K) := by subst h; exact call_tuple_of
theorem call_isiK' (h : X.K = K := by rfl) : CallR X (.builtin "isinstance") (rIsi K) := by subst h; exact call_isi
theorem call_isiTK (h : X.K = K := by rfl) : CallR X (.builtin "isinstance") (rIsiT K) := by subst h; exact call_isiT
theorem call_allK (hc : X.calm = true) (h : X.K = K := by rfl) : CallR X (.builtin "all") (rAll K) := by subst h; exact cr_all hc
theorem call_anyK (hc : X.calm = true) (h : X.K = K := by rfl) : CallR X (.builtin "any") (rAny K) := by subst h; exact cr_any hc
variable {tg e e2 o : Expr} {es : List Expr} {tl te ta to : TE} {t : TA} {pos tpos p : Pos} {f : Str}
theorem pi_listK (hl : PE X e tl) (h : X.K = K := by rfl) : PI X tg e (iList K tl) := by subst h; exact pi_list hl
theorem pi_tupK (hl : PE X e tl) (h : X.K = K := by rfl) : PI X tg e (iTup K tl) := by subst h; exact pi_tup hl
theorem pi_enumK {elts : List Expr} {kk : Nat} (hg : Gl X "enumerate") (hm : X.mg "enumerate" = none) (ha : PA X [e] t) (h : X.K = K := by rfl) (hs : starEach [e] X.env = [(false, eval e X.env)] := by rfl) : PI X (.Tuple elts kk tpos) (.Call (.Name "enumerate" p) [e] [] pos) (iEnum K t) := by subst h; exact pi_enum hg hm ha hs
theorem pi_enumTK {elts : List Expr} {kk : Nat} (hg : Gl X "enumerate") (hm : X.mg "enumerate" = none) (ha : PA X [e] t) (h : X.K = K := by rfl) (hs : starEach [e] X.env = [(false, eval e X.env)] := by rfl) : PI X (.Tuple elts kk tpos) (.Call (.Name "enumerate" p) [e] [] pos) (iEnumT K t) := by subst h; exact pi_enumT hg hm ha hs
theorem pi_zipK {elts : List Expr} {kk : Nat} (hg : Gl X "zip") (hm : X.mg "zip" = none) (ha : PA X [e, e2] t) (h : X.K = K := by rfl)
    (hs : starEach [e, e2] X.env = (false, eval e X.env) :: starEach [e2] X.env := by rfl) (hpl : (backTo pos (starEach [e2] X.env)).any (·.1) = false := by rfl) : PI X (.Tuple elts kk tpos) (.Call (.Name "zip" p) [e, e2] [] pos) (RZ.iZipA K t) := by subst h; exact RZ.pi_zipA hg hm ha hs hpl
theorem pg_tupK {n : Nat} {ts : TGs} {k : Nat} (hc : X.calm = true) (hh : PGs X es ts) (h : X.K = K := by rfl)
    (hn : (assignEach es X.env).length = n := by rfl) (hst : (assignEach es X.env).findIdx? (·.1) = none := by rfl) : PG X (.Tuple es k pos) (gTup K n ts) := by subst h; exact pg_tup hc hh hn hst
theorem pe_fldK (he : PE X o to) (h : X.K = K := by rfl) (hb : attributeBase o f X.env (eval o X.env) = eval o X.env := by rfl) : PE X (.Attribute o f pos) (tFld K to f) := by subst h; exact pe_fld he hb
theorem pe_bmK {T id : String} {name : Str} {apos cpos : Pos} {r : V → List V → Hp → VK → Prop} (pa : PlainAttrs T) (slot : Slot T name id) (hty : typeOf (.builtin id) = pure (.type "method_descriptor")) (hm : MtR X id r) (ho : PE X o to) (ha : PA X (e :: es) t) (h : X.K = K := by rfl)
    (hbase : attributeBase o name X.env (eval o X.env) = eval o X.env := by rfl)
    (hfew : ((backTo cpos (starEach (e :: es) X.env)).all (fun x => !x.1) && (backToKw cpos (keywordEach [] X.env)).all (fun x => x.1.isSome)
      && decide ((e :: es).length + ([] : List Keyword).length + (if ([] : List Keyword).isEmpty then 0 else 1) < 30)) = true := by rfl)
    (hline : (apos.endLine == cpos.line) = true := by rfl) (hs : starEach (e :: es) X.env = (false, eval e X.env) :: starEach es X.env := by rfl) (hplain : (backTo cpos (starEach es X.env)).any (·.1) = false := by rfl) :
    PE X (.Call (.Attribute o name apos) (e :: es) [] cpos) (tBM K T r to t) := by subst h; exact pe_bm pa slot hty hm ho ha hbase hfew hline hs hplain
theorem pe_bm0K {T id : String} {name : Str} {apos cpos : Pos} {r : V → List V → Hp → VK → Prop} (pa : PlainAttrs T) (slot : Slot T name id) (hty : typeOf (.builtin id) = pure (.type "method_descriptor")) (hm : MtR X id r) (ho : PE X o to) (h : X.K = K := by rfl)
    (hbase : attributeBase o name X.env (eval o X.env) = eval o X.env := by rfl) (hline : (apos.endLine == cpos.line) = true := by rfl) : PE X (.Call (.Attribute o name apos) [] [] cpos) (tBM0 K T r to) := by subst h; exact pe_bm0 pa slot hty hm ho hbase hline
end
section
variable {D : Ends} {σ : L2.St} {H : Hp} {t u : TS} {ta : TA} {te : TE} {i : Nat}
theorem st_seq2 (h : t { D with nx := u D } σ H) : tSeq t u D σ H := h
theorem asg_lst (h : ta σ H fun xs H1 => xs.length ≤ sizeLine ∧ ∀ p, H1 p = none → D.nx (σ.set i (some (.ref p))) (upd H1 p (.lst xs))) : tAsg (tLst ta) (gName i) D σ H := h
theorem asg_any (h : te σ H fun v H1 => D.nx (σ.set i (some v)) H1) : tAsg te (gName i) D σ H := h
theorem ret_any (h : te σ H D.rt) : tRet te D σ H := h
theorem lst_any {Q : VK} (h : ta σ H fun xs H1 => xs.length ≤ sizeLine ∧ ∀ p, H1 p = none → Q (.ref p) (upd H1 p (.lst xs))) : tLst ta σ H Q := h
/-- a name's list + [..] -/
theorem cat_lst {Q : VK} {l : Addr} {xs : List V} (hv : σ[i]? = some (some (.ref l))) (h : ta σ H fun zs H1 => H1 l = some (.lst xs) ∧ xs.length + zs.length ≤ 1000 ∧ ∀ p H2, H1 p = none → Same H1 H2 → H2 p = some (.lst (xs ++ zs)) → Q (.ref p) H2)
    (mono : ∀ Q Q' : List V → Hp → Prop, (∀ zs H1, Q zs H1 → Q' zs H1) → ta σ H Q → ta σ H Q') : tOp rCat (tVar i) (tLst ta) σ H Q := by
  refine ⟨_, hv, mono _ _ (fun zs H1 q => ?_) h⟩
  obtain ⟨hl, hz, k⟩ := q
  refine ⟨Nat.le_trans (Nat.le_trans (Nat.le_add_left _ _) hz) (by decide), fun b hb => ⟨l, b, xs, zs, rfl, rfl, ?_, upd_same, Nat.le_trans hz (by decide), fun p hp => ?_⟩⟩
  · rw [upd_ne (ne_of_none hl hb)]
    exact hl
  · have hp1 : H1 p = none := by
      have nb : p ≠ b := fun e => by
        rw [e, upd_same] at hp
        cases hp
      rw [upd_ne nb] at hp
      exact hp
    exact k p _ hp1 ((Same.new hb).trans (Same.new hp)) upd_same
end
end Sm
namespace PySem
namespace SmX
open Builtin Builtin.ObjectAttr HandSPX
section
variable {M : Model} {A : Around} {E : Value → Shared → Prop} {h : Heap} {g : Array GenState} {d : Drawn} {t : Nat} {os : OsState}
variable {nm q : Str} {C N : Addr} {bs bm bmB : List Value} {hdct : Bool} {sn : List Str} {sub : List Value} {ab : Bool} {col : Option Bool} {dd : Option Addr} {k0 k1 k2 k3 k5 : Option Value} {B newId initId : String}
theorem check_newK (F : ExcBaseFacts B newId initId bmB) (hT : ∀ X : String, bm.contains (.type X) = bmB.contains (.type X)) {rest : List Value} {kw : List (Str × Value)} {Q : Unit → Shared → Prop}
    (hC : h.get? C = some (excClassObj nm q C N bs bm hdct sn sub ab col dd k0 k1 k2 k3 k5 newId)) (hq : Q () ⟨h, g, d, t, os⟩) : wpAny M A (checkBuiltinCall newId ⟨.ref C :: rest, kw⟩) Q E ⟨h, g, d, t, os⟩ := by
  have hcont : (Value.ref C :: bm).contains (.type B) = true := by rw [List.contains_cons, hT, F.hasB, Bool.or_true]
  have hstar := F.noStar
  simp only [checkBuiltinCall, F.newKind, F.newSplit, F.newRow]
  repeat (first | refine wpAny_loadPart_at hC ?_ | (refine wpAny_isSubtype_exc hC ?_; rw [hcont]) | refine wpAny_staticBase_exc hC ?_ | refine wpAny_madeBy_exc hC ?_ | simp only [bne_self_eq_false, Bool.false_eq_true, if_false] | wp_step)
  exact hq
end
section
variable {prog : Program} {w : World} {A : Around} {E : Value → Shared → Prop} {R : Result → Shared → Prop} {h : Heap} {g : Array GenState} {d : Drawn} {t : Nat} {os : OsState}
variable {nm q : Str} {C N : Addr} {bs bm bmB : List Value} {hdct : Bool} {sn : List Str} {sub : List Value} {ab : Bool} {col : Option Bool} {dd : Option Addr} {k0 k1 k2 k3 k5 : Option Value} {B newId initId : String}
theorem newK (F : ExcBaseFacts B newId initId bmB) (hT : ∀ X : String, bm.contains (.type X) = bmB.contains (.type X)) {rest : List Value} {kw : List (Str × Value)}
    (hC : h.get? C = some (excClassObj nm q C N bs bm hdct sn sub ab col dd k0 k1 k2 k3 k5 newId))
    (hq : R (.ok (.ret (.ref (h.objs.size + 1)))) ⟨(h.push { cls := .type "tuple", data := .seq rest.toArray }).push
      { cls := .ref C, data := .fields #[.ref h.objs.size, .none, .none, .none, .bool false, .none] }, g, d, t, os⟩) (hrest : rest.length ≤ sizeLine) :
    codeAny (model prog w) A (.builtin newId ⟨.ref C :: rest, kw⟩) R ⟨h, g, d, t, os⟩ := by
  have hends := F.ends
  have hcB : (Value.ref C :: bm).contains (.type B) = true := by rw [List.contains_cons, hT, F.hasB, Bool.or_true]
  have hcA : (Value.ref C :: bm).contains (.type "AttributeError") = false := by rw [List.contains_cons, hT, F.noAttr]; rfl
  have hcN : (Value.ref C :: bm).contains (.type "NameError") = false := by rw [List.contains_cons, hT, F.noName]; rfl
  refine codeAny_builtinAt F.entry ?_
  unfold Builtin.«BaseException.__new__»
  refine wpAt_bind ?_
  show wpAt _ _ _ (stack >>= _) _ _ _
  refine wpAt_bind (wpAt_stack fun p below => wpAt_of_wpAny ?_)
  wp_walk
  refine wpAt_of_wpAny ?_
  rw [F.owner]
  repeat (first | with_reducible refine wpAny_madeHere_exc F.canon hC ?_ | with_reducible refine wpAny_loadPart_at hC ?_ | (with_reducible refine wpAny_isSubtype_exc hC ?_; first | rw [hcB] | rw [hcA] | rw [hcN]) | wp_step)
  show R _ _
  rw [Heap.size_push]
  exact hq
theorem type_callK (F : ExcBaseFacts B newId initId bmB) (hT : ∀ X : String, bm.contains (.type X) = bmB.contains (.type X)) {rest : List Value} {kw : List (Str × Value)} {fI : Addr} {Q : Fin → Shared → Prop}
    (hC : h.get? C = some (excClassObj nm q C N bs bm hdct sn sub ab col dd k0 k1 k2 k3 k5 newId))
    (hi : W.Looks (model prog w) h (typeLookup (.ref C) "__init__") (some (.ref fI))) (hb : ∀ self, W.Looks (model prog w) h (bindSpecial (.ref fI) self) (.ref fI, [self])) (hrest : rest.length ≤ sizeLine)
    (hq : codeAny (model prog w) A (.call (.ref fI) ⟨.ref (h.objs.size + 1) :: rest, kw⟩)
      (fun r s' => match r with | .ok (.ret v) => v = .none ∧ Q (.done (.ret (.ref (h.objs.size + 1)))) s' | .ok _ => False | .error e => E e s')
      ⟨(h.push (W.kdv_tup rest)).push (excO C h.objs.size), g, d, t, os⟩) :
    wpAny (model prog w) A (Builtin.«type.__call__» ⟨.ref C :: rest, kw⟩) Q E ⟨h, g, d, t, os⟩ := by
  repeat (first | with_reducible refine wpAny_loadPart_at hC ?_ | with_reducible refine wpAny_madeBy_exc hC ?_ | wp_step)
  refine codeAny_call_builtin_code (Code.quiet_builtin _ F.quiet) (check_newK F hT hC ?_)
  refine newK F hT hC ?_ hrest
  show wpAny _ _ _ _ _ _
  have k : ∀ b o, h.get? b = some o → ((h.push (W.kdv_tup rest)).push (excO C h.objs.size)).get? b = some o := fun b o e => Heap.get?_push_of_some _ (Heap.get?_push_of_some _ e)
  have hC₁ := k _ _ hC
  have hget : ((h.push (W.kdv_tup rest)).push (excO C h.objs.size)).get? (h.objs.size + 1) = some (excO C h.objs.size) := by heap_get
  have hcC : (Value.ref C :: bm).contains (.ref C) = true := by simp
  have i1 := hi.keeps k
  have b1 := (hb (.ref (h.objs.size + 1))).keeps k
  unfold isInstance
  repeat (first | with_reducible refine wpAny_loadPart_at hget ?_ | (with_reducible refine wpAny_isSubtype_exc hC₁ ?_; rw [hcC]) | wp_step)
  show wpAny _ _ (typeLookup (.ref C) _) _ _ _
  refine i1.at ?_
  refine wpAny_holding (wpAny_bind (b1.at ?_))
  refine wpAny_bind (wpAny_call (codeAny_mono hq fun r s' z => ?_))
  rcases r with e | (v | _ | _ | _) <;> first | exact z | exact z.elim | skip
  obtain ⟨rfl, z⟩ := z
  first
    | exact wpAny_pure (wpAny_pure z)
    | (wp_walk; exact z)
theorem call_ownK (F : ExcBaseFacts B newId initId bmB) (hT : ∀ X : String, bm.contains (.type X) = bmB.contains (.type X)) {rest : List Value} {kw : List (Str × Value)} {fI : Addr}
    (hC : h.get? C = some (excClassObj nm q C N bs bm hdct sn sub ab col dd k0 k1 k2 k3 k5 newId))
    (hi : W.Looks (model prog w) h (typeLookup (.ref C) "__init__") (some (.ref fI))) (hb : ∀ self, W.Looks (model prog w) h (bindSpecial (.ref fI) self) (.ref fI, [self])) (hrest : rest.length ≤ sizeLine)
    (hq : codeAny (model prog w) (A.under (.builtin "type.__call__" ⟨.ref C :: rest, kw⟩)) (.call (.ref fI) ⟨.ref (h.objs.size + 1) :: rest, kw⟩) (W.InitBack (h.objs.size + 1) R)
      ⟨(h.push (W.kdv_tup rest)).push (excO C h.objs.size), g, d, t, os⟩) :
    codeAny (model prog w) A (.call (.ref C) ⟨rest, kw⟩) R ⟨h, g, d, t, os⟩ := by
  have f1 := tc_lookup
  have f2 := tc_bind (.ref C)
  have hTy : (⟨h, g, d, t, os⟩ : Shared).TypeIs (.ref C) "type" := ⟨_, hC, rfl⟩
  refine codeAny_of_tree ?_
  show wpAny _ _ (callAny (.ref C) _) _ _ _
  repeat (any_goals (first | assumption | with_reducible refine wpAny_loadPart_at hC ?_ | wp_step))
  refine ⟨rfl, ?_⟩
  refine codeAny_call_builtin_at (Code.quiet_builtin _ (by decide +kernel)) entry_typeCall (wpAny_check_type_call_sub hC (type_callK F hT hC hi hb hrest ?_))
  refine codeAny_mono hq fun r s' z => ?_
  rcases r with e | (v | _ | _ | _) <;> exact z
end
end SmX
end PySem

namespace PySem.W
open PySem PySem.Spec PySem.Calls PyProof.Rows
section
variable {prog : Program} {w : World} {A : Around} {E : Value → Shared → Prop} {s : Shared} {K : Frag} {x D : Addr} {ox : Obj} {od : Option Obj}
theorem smFindData {C : Addr} {name : Str} {a g : Value} (hc : (clsIn K C).isSome = true) (ha : findIn K (.ref C) name = some (some a)) (hg : specialIn K a "__get__" = some (some g)) (ht : takesIn K a = some true) : findObj K C od name = some (.bind g a) := by
  obtain ⟨cd, hc⟩ := Option.isSome_iff_exists.mp hc
  unfold findObj
  rw [hc, Option.bind_some, ha, Option.bind_some]
  simp [hg, ht]
theorem smClassE {Q : Option Value → Shared → Prop} (hga : findIn K (.ref D) "__getattribute__" = some (some (.builtin "BaseException.__getattribute__"))) (hgt : findIn K (.ref D) "__getattr__" = some none) (hsub : subIn K (.ref D) (.type "BaseException") = some true)
    (hdct : hasDictIn K D = true) (ha : findIn K (.ref D) "__class__" = some (some (.builtin "object.__class__")))
    (hn : specialIn K (.builtin "object.__class__") "__get__" = some (some (.builtin "getset_descriptor.__get__"))) (htk : takesIn K (.builtin "object.__class__") = some true) (hm : mroIn K D (.type "object") = some true)
    (X : K.In s.heap) (I : InstAt s.heap x ox D od) (h : Q (some (.ref D)) { s with toks := s.toks + 1 }) : wpAny (model prog w) A (getAttr? (.ref x) "__class__") Q E s := by
  have hf : findObj K D od "__class__" = some (.bind (.builtin "getset_descriptor.__get__") (.builtin "object.__class__")) := smFindData (by obtain ⟨cd, hc, _⟩ := any_some hdct; rw [hc]; rfl) ha hn htk
  obtain ⟨hp, g, d, t, os⟩ := s
  have L0 := I.type (M := model prog w)
  have L1 := looks_findIn (M := model prog w) X hga
  have L2 := looks_findIn (M := model prog w) X hgt
  have L3 := looks_find (M := model prog w) X I hf
  have sub : Looks (model prog w) hp (isInstance (.ref x) (.type "BaseException")) true := L0.andThen (looks_subIn X hsub)
  have hx0 : (false && onTheHeap (Value.builtin "BaseException.__getattribute__")) = false := rfl
  have hx2 : (Value.builtin "BaseException.__getattribute__" == Value.builtin "object.__getattribute__") = false := by decide +kernel
  have hx1 : (onTheHeap (Value.ref D) && Value.builtin "BaseException.__getattribute__" == Value.builtin "object.__getattribute__") = false := by rw [hx2]; rfl
  unfold getAttr? getAttrBy? getAttrBy
  refine wpAny_bind (wpAny_mkText (wpAny_bind (wpAny_attempt (wpAny_holding (wpAny_bind (L0.at (wpAny_bind (L1.at ?_))))))))
  show wpAny _ _ (if (onTheHeap (Value.ref D) && Value.builtin "BaseException.__getattribute__" == Value.builtin "object.__getattribute__") = true then _ else _) _ _ _
  rw [hx1, if_neg Bool.false_ne_true]
  unfold getAttrByItsOwn hookBefore
  refine wpAny_bind ?_
  rw [if_pos (show onTheHeap (Value.ref D) = true from rfl)]
  refine L2.at ?_
  refine wpAny_bind (wpAny_attempt (wpAny_holding ?_))
  unfold callGetattribute
  rw [hx0, if_neg Bool.false_ne_true]
  unfold boundAndCalled
  rw [PySem.F.excAttr_ValueError.ga.bind (.ref x)]
  refine wpAny_bind (wpAny_pure ?_)
  show wpAny _ _ (call (.builtin "BaseException.__getattribute__") [.ref x, .str "__class__" t]) _ _ _
  refine wpAny_call (codeAny_call_builtin PySem.F.excAttr_ValueError.ga.plain PySem.F.entry_bexc_ga ?_)
  refine @check_slot (model prog w) _ _ ⟨hp, g, d, t + 1, os⟩ "BaseException.__getattribute__" "BaseException" "__getattribute__" (.ref x) [.str "__class__" t] [] _ (by decide +kernel) (by decide +kernel) sub (PySem.F.args_bexc_ga (.ref x) (.str "__class__" t)) ?_
  unfold Builtin.«object.__getattribute__»
  refine wpAny_bind (wpAny_of_eq (a := ((Value.ref x : Value), [Value.str "__class__" t])) (by first | rfl | (simp only [slotArgs]; rfl)) ?_)
  refine wpAny_bind (wpAny_pure (wpAny_bind (L0.at (wpAny_bind (L3.at ?_)))))
  show wpAny _ _ (holding [Value.builtin "object.__class__"] (call (.builtin "getset_descriptor.__get__") [.builtin "object.__class__", .ref x, .ref D]) >>= ret) _ _ _
  refine wpAny_bind (wpAny_holding (wpAny_call (class_get (s := ⟨hp, g, d, t + 1, os⟩) (ox := ox) (od := od) X I hm ?_)))
  refine wpAny_pure ?_
  show wpAny _ _ (handedOut (.ref D)) _ _ _
  rw [handedOut_of (v := .ref D) rfl]
  first
    | exact wpAny_pure (wpAny_pure h)
    | exact wpAny_pure h
    | exact wpAny_pure (wpAny_bind (wpAny_pure (wpAny_pure h)))
theorem smKitExc (hga : findIn K (.ref D) "__getattribute__" = some (some (.builtin "BaseException.__getattribute__"))) (hgt : findIn K (.ref D) "__getattr__" = some none) (hsub : subIn K (.ref D) (.type "BaseException") = some true) (hdct : hasDictIn K D = true) (ha : findIn K (.ref D) "__class__" = some (some (.builtin "object.__class__")))
    (hn : specialIn K (.builtin "object.__class__") "__get__" = some (some (.builtin "getset_descriptor.__get__"))) (htk : takesIn K (.builtin "object.__class__") = some true) (hm : mroIn K D (.type "object") = some true) :
    KitX K (.ref x) (.ref D) (fun h => InstAt h x ox D od) where
  ty := fun _ _ _ I => I.type
  it := fun _ _ X _ => by
    obtain ⟨cdD, hcD, _⟩ := any_some hdct
    unfold clsIn at hcD
    split at hcD
    · rename_i c' d' cd' sl' ho
      intro A' Q' E' s' k q
      unfold isType loadHead
      exact wpAny_bind (wpAny_loadPart (k _ _ (X _ _ ho)) (wpAny_pure q))
    · cases hcD
  ne := fun h tp dd its n sl X htp => by
    obtain ⟨cdD, hcD, _⟩ := any_some hdct
    refine Bool.eq_false_iff.mpr fun q => ?_
    have e : D = tp := Value.ref.inj (beq_iff_eq.mp q)
    subst e
    unfold clsIn at hcD
    split at hcD
    · rename_i c' d' cd' sl' ho
      have z := (X _ _ ho).symm.trans htp
      cases z
    · cases hcD
  ca := fun X I k => smClassE hga hgt hsub hdct ha hn htk hm X I k
end
end PySem.W
namespace Sm
open PySem PySem.Spec PyProof.Rows L2
/-- an exception object at a, of the class at C, its dict at d -/
structure ExAt (H : Hp) (a C d : Addr) (fs : List (Str × V)) : Prop where
  ob : H a = some (exo a C (some d))
  di : H d = some (exd d fs)
/-- what the class of an exception that is held as a value must say -/
structure ExK (K : PySem.W.Frag) (C : Addr) : Prop where
  o : OexC K C
  e : ExcC K C
section
variable {X : Cx}
/-- C(e, ..), held as a value -/
def tMkE (C : Addr) (sp : Sp) (t : TA) : TE := fun σ H Q => t σ H fun vs H1 => vs.length ≤ 1000 ∧ ∀ a, H1 a = none → sp (.ref a :: vs) (upd H1 a (exo a C none)) (fun v H2 => v = .non ∧ Q (.ref a) H2) E0
theorem run_mkE {pins : List (Addr × Obj)} {σ : L2.St} {H : Hp} {s : Shared} {Q : VK} {us ws : List Value} {vs zs : List V} {C fI : Addr} {k n : Nat} {fd : FuncData} {ps ks : List Str} {sp : Sp} {g : List Value → List Value → List Value} {gV : List V → List V → List V}
    (T : OexC X.K C) (iC : PySem.W.findIn X.K (.ref C) "__init__" = some (some (.ref fI))) (tI : PySem.W.typeIn X.K (.ref fI) = some (.type "function"))
    (F1 : FnOk X.prog X.w X.K X.mg X.base CX0 k fI fd ps sp) (hr : Room (k + 1) X.A) (hb : KBn X.K fd ps (n + 1) ks g gV) (I : Inv X pins σ H s) (r : Vals vs us) (rz : Vals zs ws) (l1 : vs.length = n) (l2 : zs.length = ks.length) (hl : vs.length ≤ 1000)
    (h : ∀ a, H a = none → sp (gV (.ref a :: vs) zs) (upd H a (exo a C none)) (fun v H2 => v = .non ∧ Q (.ref a) H2) E0) :
    wpAny (model X.prog X.w) X.A (call (.ref C) us (ks.zip ws)) (EP X pins σ Q) X.xe s := by
  obtain ⟨nm, q, N, bs, bm, sn, sub, ab, col, dd, k0, k1, k2, k3, k5, hC, hbm⟩ := T.cls
  obtain ⟨hp, g0, dr, tk, os⟩ := s
  have hsz : hp.objs.size ≤ hp.objs.size + 1 := Nat.le_succ _
  have hn : H (hp.objs.size + 1) = none := I.hok.fresh hsz
  have hq := h (hp.objs.size + 1) hn
  have kk : ∀ b o, hp.get? b = some o → ((hp.push (PySem.W.kdv_tup us)).push (PySem.HandSPX.excO C hp.objs.size)).get? b = some o := fun b o e => Heap.get?_push_of_some _ (Heap.get?_push_of_some _ e)
  have hget : ((hp.push (PySem.W.kdv_tup us)).push (PySem.HandSPX.excO C hp.objs.size)).get? (hp.objs.size + 1) = some (PySem.HandSPX.excO C hp.objs.size) := by heap_get
  have I2 : Inv X pins σ (upd H (hp.objs.size + 1) (exo (hp.objs.size + 1) C none)) ⟨(hp.push (PySem.W.kdv_tup us)).push (PySem.HandSPX.excO C hp.objs.size), g0, dr, tk, os⟩ :=
    I.laid (t' := tk) (a := hp.objs.size + 1) (o := exo (hp.objs.size + 1) C none) (h' := (hp.push (PySem.W.kdv_tup us)).push (PySem.HandSPX.excO C hp.objs.size)) kk hsz (exo_ok hget)
  have r1 : Vals (V.ref (hp.objs.size + 1) :: vs) (Value.ref (hp.objs.size + 1) :: us) := .cons rfl r
  have r2 := hb.rel r1 rz
  have n1 : (Value.ref (hp.objs.size + 1) :: us).length = n + 1 := by
    rw [List.length_cons, ← r.length, l1]
  have hus : us.length ≤ sizeLine := by
    rw [← Paired.length r, sizeLine_eq]
    omega
  refine wpAny_call (PySem.SmX.call_ownK F.excBase_ValueError (fun Y => PySem.HandSPX.refsVE_contains Y bm hbm) (I.kIn _ _ hC) (PySem.W.looks_findIn I.kIn iC) (fun self => PySem.W.bind_fn I.kIn self tI) hus
    (codeAny_mono (F1.run _ X.stack _ _ ⟨Value.ref (hp.objs.size + 1) :: us, ks.zip ws⟩ (g (Value.ref (hp.objs.size + 1) :: us) ws) _ _ E0 (hr.make C us (ks.zip ws)) (I2.env0.make C us (ks.zip ws)) (hb.to _ (Value.ref (hp.objs.size + 1) :: us) ws I2.kIn n1 (rz.length.symm.trans l2)) r2 hq) fun r s' hq' => ?_))
  cases r with
  | error er => exact pass0 (X := X) pins σ _ _ er s' I2 hq'
  | ok fl =>
    cases fl with
    | ret u =>
      obtain ⟨v, H', I3, rv, ev, q3⟩ := I2.after hq'
      subst ev
      exact ⟨rv, ⟨V.ref (hp.objs.size + 1), H', I3, rfl, q3⟩⟩
    | next => exact False.elim hq'
    | brk => exact False.elim hq'
    | cont => exact False.elim hq'
/-- the class x at C, its __init__ with what it promises: called by place, by keywords -/
structure ExM (P : Program) (w : World) (K : PySem.W.Frag) (mg : Str → Option Value) (base : Heap) (x : Str) (C : Addr) (n : Nat) (ks : List Str) (gV : List V → List V → List V) (sp : Sp) : Prop where
  T : OexC K C
  mgC : mg x = some (.ref C)
  ex : ∃ (fI : Addr) (fd : FuncData) (ps : List Str) (g : List Value → List Value → List Value), PySem.W.findIn K (.ref C) "__init__" = some (some (.ref fI)) ∧ PySem.W.typeIn K (.ref fI) = some (.type "function") ∧ FnOk P w K mg base CX0 1 fI fd ps sp ∧ KBn K fd ps (n + 1) ks g gV
variable {x : Str} {C : Addr} {n : Nat} {ks : List Str} {gV : List V → List V → List V} {sp : Sp} {p pos : Pos} {e : Expr} {es : List Expr} {kws : List Keyword} {t tk : TA} {j : Nat}
def tMkEK (C : Addr) (n m : Nat) (gV : List V → List V → List V) (sp : Sp) (t tk : TA) : TE := fun σ H Q => t σ H fun vs H1 => tk σ H1 fun zs H2 => vs.length = n ∧ zs.length = m ∧ vs.length ≤ 1000 ∧ ∀ a, H2 a = none → sp (gV (.ref a :: vs) zs) (upd H2 a (exo a C none)) (fun v H3 => v = .non ∧ Q (.ref a) H3) E0
theorem pe_mkE (M : ExM X.prog X.w X.K X.mg X.base x C n [] gV sp) (hr : Room j X.A) (hk : 2 ≤ j) (hg : Gl X x) (ha : PA X (e :: es) t)
    (hdb : (x == ("__debug__" : Str)) = false := by decide) (he : starEach (e :: es) X.env = (false, eval e X.env) :: starEach es X.env := by rfl) (hpl : (backTo pos (starEach es X.env)).any (·.1) = false := by rfl) :
    PE X (.Call (.Name x p) (e :: es) [] pos) (tMkEK C n 0 gV sp t tNil) := by
  obtain ⟨fI, fd, ps, g, iC, tI, F1, hb⟩ := M.ex
  refine ⟨fun pins s σ H Q I h => ?_⟩
  refine wpAny_Call_Name_kw (ld_glob I hg M.mgC ?_ hdb)
  refine PySem.W.callWith_K (h₀ := X.base) I.ok.mod.kin M.T.kC (thn (ha.run pos pins s σ H _ I h) fun us s1 ⟨vs, H1, I1, r, l1, l2, hl, q⟩ => ⟨I1.kIn, ?_⟩) he hpl
  exact run_mkE (ws := []) (zs := []) M.T iC tI F1 (hr.mono hk) hb I1 r .nil l1 rfl hl q
theorem pe_mkEK (M : ExM X.prog X.w X.K X.mg X.base x C 0 ks gV sp) (hr : Room j X.A) (hk : 2 ≤ j) (hg : Gl X x) (hkw : PK X kws tk)
    (hall : (backToKw pos (keywordEach kws X.env)).all (·.1.isSome) = true := by rfl) (hks : (backToKw pos (keywordEach kws X.env)).filterMap (·.1) = ks := by rfl) (hdb : (x == ("__debug__" : Str)) = false := by decide)
    (hpl : ((backTo pos (starEach [] X.env)).any (·.1) || (backToKw pos (keywordEach kws X.env)).any (·.1.isNone)) = false := by rfl) :
    PE X (.Call (.Name x p) [] kws pos) (tMkEK C 0 ks.length gV sp tNil tk) := by
  obtain ⟨fI, fd, ps, g, iC, tI, F1, hb⟩ := M.ex
  refine ⟨fun pins s σ H Q I h => ?_⟩
  refine wpAny_Call_Name_kw (ld_glob I hg M.mgC ?_ hdb)
  refine PySem.W.callWith_KW0 (h₀ := X.base) I.ok.mod.kin M.T.kC hall ?_ hpl
  refine thn (hkw.run pos pins s σ H _ I h) fun ws s2 ⟨zs, H2, I2, rz, l1, l2, hl, q2⟩ => ⟨I2.kIn, ?_⟩
  rw [hks]
  exact run_mkE (us := []) (vs := []) M.T iC tI F1 (hr.mono hk) hb I2 .nil rz rfl l2 hl q2
/-- e.f of an exception that is held -/
def tExf (K : PySem.W.Frag) (te : TE) (f : Str) : TE := fun σ H Q => te σ H fun x H1 => ∃ (a C d : Addr) (fs : List (Str × V)) (v : V), x = .ref a ∧ ExAt H1 a C d fs ∧ ExK K C ∧ PySem.W.findIn K (.ref C) f = some none ∧ fs.lookup f = some v ∧ Q v H1
theorem pe_exf {o : Expr} {to : TE} {f : Str} (ho : PE X o to) (hb : attributeBase o f X.env (eval o X.env) = eval o X.env := by rfl) : PE X (.Attribute o f pos) (tExf X.K to f) := by
  refine ⟨fun pins s σ H Q I h => ?_⟩
  refine attr_of hb (thn (ho.run pins s σ H _ I h) fun u s1 hh => ?_)
  obtain ⟨x, H1, I1, rx, a, C, d, fs, v, ex, ea, T, hno, hl, q⟩ := hh
  subst ex
  obtain rfl : u = Value.ref a := rx
  obtain ⟨t1, hoe⟩ := exo_at I1.hok ea.ob
  obtain ⟨mA, hns, hr⟩ := exd_at I1.hok ea.di
  obtain ⟨od, hod, hlk⟩ := lookIn_ns hns
  obtain ⟨u, hu, ru⟩ := RelO.some_of (v := v) (o := mA f) (by rw [← hl]; exact hr f)
  have J : PySem.W.InstAt s1.heap a _ C (some od) := ⟨hoe, rfl, by unfold PySem.W.notCls; rfl, hod⟩
  exact HandSPX.exc_get I1.kIn J T.e.hg T.e.hk T.e.hs (PySem.W.findObj_own T.e.hd hno rfl (by rw [hlk, hu])) (handed_of ru) ⟨v, H1, I1.tok _, ru, q⟩
/-- isinstance(e, c) of an exception that is held -/
def rIsEx (K : PySem.W.Frag) : List V → Hp → VK → Prop := fun xs H Q => ∃ (a C : Addr) (od : Option Addr) (c : V) (u : Value) (b : Bool), xs = [.ref a, c] ∧ H a = some (exo a C od) ∧ (∀ d, od = some d → ∃ fs, H d = some (exd d fs)) ∧ ExK K C ∧ ClsV c u ∧ PySem.W.kitOne K (.ref C) u = some b ∧ Q (.bl b) H
theorem call_isEx : CallR X (.builtin "isinstance") (rIsEx X.K) := by
  intro pins s σ H xs us Q I r h
  obtain ⟨a, C, od, c, u, b, rfl, ea, hd, T, k, e, q⟩ := h
  obtain ⟨u1, u2, rfl, r1, r2⟩ := vals2 r
  have e2 := k.eq r2
  subst e2
  cases (show u1 = Value.ref a from r1)
  obtain ⟨t1, hoe⟩ := exo_at I.hok ea
  have J : ∃ oo, PySem.W.InstAt s.heap a { cls := .ref C, dict := od, data := .fields #[.ref t1, .none, .none, .none, .bool false, .none] } C oo := by
    cases od with
    | none => exact ⟨none, hoe, rfl, rfl, trivial⟩
    | some d =>
      obtain ⟨fs, ed⟩ := hd d rfl
      obtain ⟨mA, ⟨o, es, ep, ho, _⟩, hr⟩ := exd_at I.hok ed
      exact ⟨some o, hoe, rfl, rfl, ho⟩
  obtain ⟨oo, J⟩ := J
  exact PySem.W.kia_one (PySem.W.smKitExc T.e.hg T.e.hk T.e.hs T.e.hd T.e.ha T.e.hn T.e.ht T.e.hm) I.kIn J e (fun z => nomatch z) fun tk => ⟨.bl b, H, I.tok tk, rfl, q⟩
end
/-! ### what an __init__ of such a class promises -/
/-- an exception object with these fields -/
def E1 (H : Hp) (a C : Addr) (fs : List (Str × V)) : Prop := ∃ d, ExAt H a C d fs
theorem E1.on {H H' : Hp} {a C : Addr} {fs : List (Str × V)} (e : Same H H') (h : E1 H a C fs) : E1 H' a C fs := let ⟨d, x⟩ := h; ⟨d, e _ _ x.ob, e _ _ x.di⟩
def spI1 (K : PySem.W.Frag) (C : Addr) (f : Str) : Sp := fun vs H Q _ => ∃ (a : Addr) (v : V), vs = [.ref a, v] ∧ OexC K C ∧ PySem.W.findIn K (.ref C) f = some none ∧ H a = some (exo a C none) ∧ ∀ H', Off a H H' → E1 H' a C [(f, v)] → Q .non H'
def spI2 (K : PySem.W.Frag) (C : Addr) (f g : Str) : Sp := fun vs H Q _ => ∃ (a : Addr) (v u : V), vs = [.ref a, v, u] ∧ OexC K C ∧ PySem.W.findIn K (.ref C) f = some none ∧ PySem.W.findIn K (.ref C) g = some none ∧ H a = some (exo a C none) ∧ ∀ H', Off a H H' → E1 H' a C [(g, u), (f, v)] → Q .non H'
theorem kbn_of {K : PySem.W.Frag} {x qual : Str} {params : Arguments} {body : List Stmt} {scope : Scope} {f : Addr} {fd : FuncData} {ps ks : List Str} {n : Nat} {g : List Value → List Value → List Value} {gV : List V → List V → List V}
    (F : FunD K x qual params body scope [] [] f fd) (h : ∀ (kV doc pm : Value) (an : Option Addr) (cdv ct : Value) (us ws : List Value), us.length = n → ws.length = ks.length → bindArgs (PySem.W.fnOf x qual params body scope .none kV doc pm an cdv ct) ⟨us, ks.zip ws⟩ = pure (ps.zip (g us ws)))
    (hrel : ∀ {vs : List V} {us : List Value} {zs : List V} {ws : List Value}, Vals vs us → Vals zs ws → Vals (gV vs zs) (g us ws)) : KBn K fd ps n ks g gV := by
  obtain ⟨oc, od, dV, kV, doc, pm, an, cdv, ct, osl, rfl, lk, hcd, hD, hK⟩ := F.ex
  rcases hD with ⟨_, rfl⟩ | ⟨e, _⟩
  · exact ⟨fun s us ws _ l1 l2 => BindsTo.of_eq (h kV doc pm an cdv ct us ws l1 l2), hrel⟩
  · exact absurd rfl e
/-- the two readings of such a body -/
theorem read_I1 {K : PySem.W.Frag} {C : Addr} {f : Str} {N : List Str} {vs : List V} {H : Hp} {Q : VK} {E : XK} (hN : N.length = 2) (h : spI1 K C f vs H Q E) : tOst K f (tVar 0) (tVar 1) { nx := fun _ H' => Q .non H', rt := Q } (L2.start N vs) H := by
  obtain ⟨a, v, rfl, T, hno, ha, k⟩ := h
  have e : L2.start N [V.ref a, v] = [some (V.ref a), some v] := by
    unfold L2.start
    rw [hN]
    rfl
  rw [e]
  refine ⟨v, rfl, _, rfl, a, C, rfl, T, hno, .inl ⟨ha, fun d hd ne => k _ (fun b o nb eb => ?_) ⟨d, upd_same, ?_⟩⟩⟩
  · rw [upd_ne nb, upd_ne (ne_of_none eb hd)]
    exact eb
  · rw [upd_ne ne, upd_same]
theorem read_I2 {K : PySem.W.Frag} {C : Addr} {f g : Str} {N : List Str} {vs : List V} {H : Hp} {Q : VK} {E : XK} (hN : N.length = 3) (h : spI2 K C f g vs H Q E) : tSeq (tOst K f (tVar 0) (tVar 1)) (tOst K g (tVar 0) (tVar 2)) { nx := fun _ H' => Q .non H', rt := Q } (L2.start N vs) H := by
  obtain ⟨a, v, u, rfl, T, hno, hno2, ha, k⟩ := h
  have e : L2.start N [V.ref a, v, u] = [some (V.ref a), some v, some u] := by
    unfold L2.start
    rw [hN]
    rfl
  rw [e]
  refine ⟨v, rfl, _, rfl, a, C, rfl, T, hno, .inl ⟨ha, fun d hd ne => ?_⟩⟩
  refine ⟨u, rfl, _, rfl, a, C, rfl, T, hno2, .inr ⟨d, _, upd_same, by rw [upd_ne ne, upd_same], by show 1 ≤ 900; decide, k _ (fun b o nb eb => ?_) ⟨d, by rw [upd_ne (Ne.symm ne), upd_same], upd_same⟩⟩⟩
  have nbd : b ≠ d := ne_of_none eb hd
  rw [upd_ne nbd, upd_ne nb, upd_ne nbd]
  exact eb
/-! ### rows of them -/
/-- what is known of a class with one field -/
structure K1 (K : PySem.W.Frag) (q : Str × Str) : Prop where
  e : ExK K (He.ga K q.1)
  no : PySem.W.findIn K (.ref (He.ga K q.1)) q.2 = some none
def gK1 : List V → List V → List V := fun vs zs => vs ++ zs
theorem mk_same {H H1 H2 : Hp} {a C : Addr} (ha : H a = none) (e : H1 = upd H a (exo a C none)) (o : Off a H1 H2) : Same H H2 := fun b u h => by
  have nb : b ≠ a := ne_of_none h ha
  refine o b u nb ?_
  rw [e, upd_ne nb]
  exact h
def tMks (K : PySem.W.Frag) (i : Nat) : List (Str × Str) → TA
  | [] => tNil
  | q :: r => tCons (tMkEK (He.ga K q.1) 0 1 gK1 (spI1 K (He.ga K q.1) q.2) tNil (tCons (tVar i) tNil)) (tMks K i r)
def tMksP (K : PySem.W.Frag) (i : Nat) : List (Str × Str) → TA
  | [] => tNil
  | q :: r => tCons (tMkEK (He.ga K q.1) 1 0 gK1 (spI1 K (He.ga K q.1) q.2) (tCons (tVar i) tNil) tNil) (tMksP K i r)
/-- each of the row's errors, holding v -/
abbrev Row1 (K : PySem.W.Frag) (H : Hp) (v : V) : List (Str × Str) → List V → Prop := Paired fun q u => ∃ a, u = .ref a ∧ E1 H a (He.ga K q.1) [(q.2, v)]
theorem Row1.on {K : PySem.W.Frag} {H H' : Hp} {v : V} {qs : List (Str × Str)} {us : List V} (e : Same H H') (h : Row1 K H v qs us) : Row1 K H' v qs us := Paired.mapP h fun q u ⟨a, e1, x⟩ => ⟨a, e1, x.on e⟩
theorem mks_ok {K : PySem.W.Frag} {i : Nat} {v : V} {σ : L2.St} (hv : σ[i]? = some (some v)) : ∀ {qs : List (Str × Str)} {H : Hp} {Q : List V → Hp → Prop}, (∀ q ∈ qs, K1 K q) → (∀ us H', Same H H' → Row1 K H' v qs us → Q us H') → tMks K i qs σ H Q
  | [], H, Q, _, k => k [] H (Same.refl H) .nil
  | q :: r, H, Q, h, k => by
    refine ⟨v, hv, rfl, rfl, Nat.zero_le _, fun a ha => ⟨a, v, rfl, (h q List.mem_cons_self).e.o, (h q List.mem_cons_self).no, upd_same, fun H1 o1 e1 => ⟨rfl, ?_⟩⟩⟩
    have s1 : Same H H1 := mk_same ha rfl o1
    exact mks_ok hv (fun p hp => h p (List.mem_cons_of_mem _ hp)) fun us H2 s2 x => k _ H2 (s1.trans s2) (.cons ⟨a, rfl, e1.on s2⟩ x)
theorem mksP_ok {K : PySem.W.Frag} {i : Nat} {v : V} {σ : L2.St} (hv : σ[i]? = some (some v)) : ∀ {qs : List (Str × Str)} {H : Hp} {Q : List V → Hp → Prop}, (∀ q ∈ qs, K1 K q) → (∀ us H', Same H H' → Row1 K H' v qs us → Q us H') → tMksP K i qs σ H Q
  | [], H, Q, _, k => k [] H (Same.refl H) .nil
  | q :: r, H, Q, h, k => by
    refine ⟨v, hv, rfl, rfl, by show 1 ≤ 1000; decide, fun a ha => ⟨a, v, rfl, (h q List.mem_cons_self).e.o, (h q List.mem_cons_self).no, upd_same, fun H1 o1 e1 => ⟨rfl, ?_⟩⟩⟩
    have s1 : Same H H1 := mk_same ha rfl o1
    exact mksP_ok hv (fun p hp => h p (List.mem_cons_of_mem _ hp)) fun us H2 s2 x => k _ H2 (s1.trans s2) (.cons ⟨a, rfl, e1.on s2⟩ x)
/-- made[j].f, made[j + 1].g, .. -/
def tHeld (K : PySem.W.Frag) (i : Nat) : Nat → List (Str × Str) → TA
  | _, [] => tNil
  | j, q :: r => tCons (tExf K (tOp (rIxL K) (tVar i) (tC (.int (j : Int)))) q.2) (tHeld K i (j + 1) r)
theorem held_ok {K : PySem.W.Frag} {i : Nat} {v : V} {σ : L2.St} {l : Addr} {us : List V} {H : Hp} (hv : σ[i]? = some (some (.ref l))) (hl : SqL K H l us) : ∀ {qs : List (Str × Str)} {j : Nat} {Q : List V → Hp → Prop}, (∀ q ∈ qs, K1 K q) → Row1 K H v qs ((us.drop j).take qs.length) →
    Q (List.replicate qs.length v) H → tHeld K i j qs σ H Q
  | [], j, Q, _, _, k => k
  | q :: r, j, Q, h, x, k => by
    cases e : us.drop j with
    | nil =>
      rw [e] at x
      cases x
    | cons u rest =>
      rw [e] at x
      have x2 : Row1 K H v (q :: r) (u :: rest.take r.length) := x
      cases x2 with
      | cons hu hr =>
        obtain ⟨a, rfl, d, ea⟩ := hu
        have hj : us[j]? = some (V.ref a) := by
          have z : (us.drop j)[0]? = some (V.ref a) := by rw [e]; rfl
          rw [List.getElem?_drop] at z
          exact z
        have er : us.drop (j + 1) = rest := by
          rw [← List.drop_drop, e]
          rfl
        refine ⟨_, hv, l, us, _, _, rfl, rfl, hl, atI_nat hj, a, _, d, _, v, rfl, ea, (h q List.mem_cons_self).e, (h q List.mem_cons_self).no, by simp [List.lookup], ?_⟩
        exact held_ok hv hl (fun p hp => h p (List.mem_cons_of_mem _ hp)) (by rw [er]; exact hr) k
/-- isinstance(e, C), isinstance(e, D), .. -/
def tCls (K : PySem.W.Frag) (i : Nat) : List Str → TA
  | [] => tNil
  | x :: r => tCons (tCB (rIsEx K) (tCons (tVar i) (tCons (tC (.ref (He.ga K x))) tNil))) (tCls K i r)
theorem cls_ok {K : PySem.W.Frag} {i : Nat} {σ : L2.St} {H : Hp} {a C : Addr} {od : Option Addr} {b : Str → Bool} (hv : σ[i]? = some (some (.ref a))) (ha : H a = some (exo a C od)) (hd : ∀ d, od = some d → ∃ fs, H d = some (exd d fs)) (T : ExK K C) :
    ∀ {xs : List Str} {Q : List V → Hp → Prop}, (∀ x ∈ xs, PySem.W.kitOne K (.ref C) (.ref (He.ga K x)) = some (b x)) → Q (xs.map fun x => .bl (b x)) H → tCls K i xs σ H Q
  | [], Q, _, k => k
  | x :: r, Q, h, k => ⟨_, hv, a, C, od, _, _, _, rfl, ha, hd, T, .own _, h x List.mem_cons_self, cls_ok hv ha hd T (fun y hy => h y (List.mem_cons_of_mem _ hy)) k⟩
end Sm
namespace Sm
open PySem PySem.Spec PyProof.Rows L2
section
variable {X : Cx}
/-- C(), an own exception class without an __init__ of its own, held as a value -/
def tMk0 (C : Addr) : TE := fun σ H Q => ∀ a, H a = none → Q (.ref a) (upd H a (exo a C none))
theorem pe_mk0 {C : Addr} {bmB : List Value} {B newId initId : String} {x : Str} {p pos : Pos} (F : ExcBaseFacts B newId initId bmB) (q : PySem.W.excIn X.K C bmB newId = true) (gC : X.mg x = some (.ref C)) (kC : PySem.W.keepIn X.K (.ref C) = true) (hg : Gl X x)
    (hdb : (x == ("__debug__" : Str)) = false := by decide) : PE X (.Call (.Name x p) [] [] pos) (tMk0 C) := by
  refine ⟨fun pins s σ H Q I h => ?_⟩
  refine wpAny_Call_Name_kw (ld_glob I hg gC ?_ hdb)
  refine PySem.W.callWith_K0 I.kIn kC ?_
  show wpAny _ _ (call (.ref C) []) _ _ _
  obtain ⟨bm, N, nm, qn, bs, hdct, sn, sub, ab, col, dd, k0, k1, k2, k3, k5, mN, hC, hN, hni, T⟩ := exc_obj I.kIn q
  refine wpAny_call_exc_subT F T hC hN hni (fun h' a hm => ?_) (Nat.zero_le _)
  have hn : H a = none := I.hok.gone hm.new
  obtain ⟨t, ht, _, _⟩ := hm.there
  exact ⟨.ref a, upd H a (exo a C none), I.laidN hm.keeps hm.new hn (exo_ok ht), rfl, h a hn⟩
theorem call_isExK {K : PySem.W.Frag} (h : X.K = K := by rfl) : CallR X (.builtin "isinstance") (rIsEx K) := by subst h; exact call_isEx
theorem pe_exfK {K : PySem.W.Frag} {o : Expr} {to : TE} {f : Str} {pos : Pos} (ho : PE X o to) (h : X.K = K := by rfl) (hb : attributeBase o f X.env (eval o X.env) = eval o X.env := by rfl) : PE X (.Attribute o f pos) (tExf K to f) := by subst h; exact pe_exf ho hb
end
end Sm
namespace Sm
open PySem PySem.Spec PyProof.Rows L2
theorem rcat_ok {Q : VK} {l b : Addr} {xs zs : List V} {H2 : Hp} (hl : H2 l = some (.lst xs)) (hz : xs.length + zs.length ≤ 1000) (k : ∀ p H', H2 p = none → Same H2 H' → H' p = some (.lst (xs ++ zs)) → Q (.ref p) H') (hb : H2 b = none) :
    rCat (.ref l) (.ref b) (upd H2 b (.lst zs)) Q := by
  refine ⟨l, b, xs, zs, rfl, rfl, ?_, upd_same, Nat.le_trans hz (by decide), fun p hp => ?_⟩
  · rw [upd_ne (ne_of_none hl hb)]
    exact hl
  · have hp1 : H2 p = none := by
      have nb : p ≠ b := fun e => by
        rw [e, upd_same] at hp
        cases hp
      rw [upd_ne nb] at hp
      exact hp
    exact k p _ hp1 ((Same.new hb).trans (Same.new hp)) upd_same
theorem lst_ok {Q : Addr → Hp → Prop} {xs : List V} {H1 : Hp} (hz : xs.length ≤ 1000) (k : ∀ p H', H1 p = none → Same H1 H' → H' p = some (.lst xs) → Q p H') : xs.length ≤ sizeLine ∧ ∀ p, H1 p = none → Q p (upd H1 p (.lst xs)) :=
  ⟨Nat.le_trans hz (by decide), fun p hp => k p _ hp (Same.new hp) upd_same⟩
theorem rcat_lst {Q : VK} {l : Addr} {xs zs : List V} {H2 : Hp} (hl : H2 l = some (.lst xs)) (hz : xs.length + zs.length ≤ 1000) (k : ∀ p H', H2 p = none → Same H2 H' → H' p = some (.lst (xs ++ zs)) → Q (.ref p) H') :
    zs.length ≤ sizeLine ∧ ∀ b, H2 b = none → rCat (.ref l) (.ref b) (upd H2 b (.lst zs)) Q :=
  ⟨Nat.le_trans (Nat.le_trans (Nat.le_add_left _ _) hz) (by decide), fun b hb => rcat_ok hl hz k hb⟩
theorem Row1.append {K : PySem.W.Frag} {H : Hp} {v : V} : ∀ {qs rs : List (Str × Str)} {us ws : List V}, Row1 K H v qs us → Row1 K H v rs ws → Row1 K H v (qs ++ rs) (us ++ ws)
  | _, _, _, _, .nil, b => b
  | _, _, _, _, .cons h t, b => .cons h (Row1.append t b)
theorem Row1.drop {K : PySem.W.Frag} {H : Hp} {v : V} : ∀ {qs : List (Str × Str)} {us : List V} (n : Nat), Row1 K H v qs us → Row1 K H v (qs.drop n) (us.drop n)
  | _, _, 0, h => h
  | _, _, _ + 1, .nil => .nil
  | _, _, n + 1, .cons _ t => Row1.drop n t
theorem Row1.take {K : PySem.W.Frag} {H : Hp} {v : V} : ∀ {qs : List (Str × Str)} {us : List V} (n : Nat), Row1 K H v qs us → Row1 K H v (qs.take n) (us.take n)
  | _, _, 0, _ => .nil
  | _, _, _ + 1, .nil => .nil
  | _, _, n + 1, .cons h t => .cons h (Row1.take n t)
theorem Row1.seg {K : PySem.W.Frag} {H : Hp} {v : V} {qs : List (Str × Str)} {us : List V} (j n : Nat) (h : Row1 K H v qs us) : Row1 K H v ((qs.drop j).take n) ((us.drop j).take n) := (h.drop j).take n
end Sm
namespace Sm
open PySem PySem.Spec PyProof.Rows L2
/-! ### rows of errors with two fields -/
structure K2c (K : PySem.W.Frag) (q : Str × Str × Str) : Prop where
  e : ExK K (He.ga K q.1)
  n1 : PySem.W.findIn K (.ref (He.ga K q.1)) q.2.1 = some none
  n2 : PySem.W.findIn K (.ref (He.ga K q.1)) q.2.2 = some none
abbrev Row2 (K : PySem.W.Frag) (H : Hp) (x y : V) : List (Str × Str × Str) → List V → Prop := Paired fun q u => ∃ a, u = .ref a ∧ E1 H a (He.ga K q.1) [(q.2.2, y), (q.2.1, x)]
theorem Row2.on {K : PySem.W.Frag} {H H' : Hp} {x y : V} {qs : List (Str × Str × Str)} {us : List V} (e : Same H H') (h : Row2 K H x y qs us) : Row2 K H' x y qs us := Paired.mapP h fun q u ⟨a, e1, z⟩ => ⟨a, e1, z.on e⟩
def tMk2P (K : PySem.W.Frag) (i j : Nat) : List (Str × Str × Str) → TA
  | [] => tNil
  | q :: r => tCons (tMkEK (He.ga K q.1) 2 0 gK1 (spI2 K (He.ga K q.1) q.2.1 q.2.2) (tCons (tVar i) (tCons (tVar j) tNil)) tNil) (tMk2P K i j r)
def tMk2K (K : PySem.W.Frag) (i j : Nat) : List (Str × Str × Str) → TA
  | [] => tNil
  | q :: r => tCons (tMkEK (He.ga K q.1) 0 2 (fun vs zs => vs ++ zs.reverse) (spI2 K (He.ga K q.1) q.2.1 q.2.2) tNil (tCons (tVar j) (tCons (tVar i) tNil))) (tMk2K K i j r)
theorem mk2P_ok {K : PySem.W.Frag} {i j : Nat} {x y : V} {σ : L2.St} (hx : σ[i]? = some (some x)) (hy : σ[j]? = some (some y)) : ∀ {qs : List (Str × Str × Str)} {H : Hp} {Q : List V → Hp → Prop}, (∀ q ∈ qs, K2c K q) → (∀ us H', Same H H' → Row2 K H' x y qs us → Q us H') → tMk2P K i j qs σ H Q
  | [], H, Q, _, k => k [] H (Same.refl H) .nil
  | q :: r, H, Q, h, k => by
    refine ⟨x, hx, y, hy, rfl, rfl, by show 2 ≤ 1000; decide, fun a ha => ⟨a, x, y, rfl, (h q List.mem_cons_self).e.o, (h q List.mem_cons_self).n1, (h q List.mem_cons_self).n2, upd_same, fun H1 o1 e1 => ⟨rfl, ?_⟩⟩⟩
    have s1 : Same H H1 := mk_same ha rfl o1
    exact mk2P_ok hx hy (fun p hp => h p (List.mem_cons_of_mem _ hp)) fun us H2 s2 z => k _ H2 (s1.trans s2) (.cons ⟨a, rfl, e1.on s2⟩ z)
theorem mk2K_ok {K : PySem.W.Frag} {i j : Nat} {x y : V} {σ : L2.St} (hx : σ[i]? = some (some x)) (hy : σ[j]? = some (some y)) : ∀ {qs : List (Str × Str × Str)} {H : Hp} {Q : List V → Hp → Prop}, (∀ q ∈ qs, K2c K q) → (∀ us H', Same H H' → Row2 K H' x y qs us → Q us H') → tMk2K K i j qs σ H Q
  | [], H, Q, _, k => k [] H (Same.refl H) .nil
  | q :: r, H, Q, h, k => by
    refine ⟨y, hy, x, hx, rfl, rfl, Nat.zero_le _, fun a ha => ⟨a, x, y, rfl, (h q List.mem_cons_self).e.o, (h q List.mem_cons_self).n1, (h q List.mem_cons_self).n2, upd_same, fun H1 o1 e1 => ⟨rfl, ?_⟩⟩⟩
    have s1 : Same H H1 := mk_same ha rfl o1
    exact mk2K_ok hx hy (fun p hp => h p (List.mem_cons_of_mem _ hp)) fun us H2 s2 z => k _ H2 (s1.trans s2) (.cons ⟨a, rfl, e1.on s2⟩ z)
/-! ### all of them, by class -/
def IsEx (H : Hp) (u : V) (C : Addr) : Prop := ∃ (a : Addr) (od : Option Addr), u = .ref a ∧ H a = some (exo a C od) ∧ ∀ d, od = some d → ∃ fs, H d = some (exd d fs)
abbrev RowC (K : PySem.W.Frag) (H : Hp) : List Str → List V → Prop := Paired fun x u => IsEx H u (He.ga K x)
theorem IsEx.on {H H' : Hp} {u : V} {C : Addr} (e : Same H H') (h : IsEx H u C) : IsEx H' u C := let ⟨a, od, h1, h2, h3⟩ := h; ⟨a, od, h1, e _ _ h2, fun d z => let ⟨fs, k⟩ := h3 d z; ⟨fs, e _ _ k⟩⟩
theorem E1.is {H : Hp} {a C : Addr} {fs : List (Str × V)} (h : E1 H a C fs) : IsEx H (.ref a) C := let ⟨d, z⟩ := h; ⟨a, some d, rfl, z.ob, fun d' e => by cases e; exact ⟨fs, z.di⟩⟩
theorem RowC.on {K : PySem.W.Frag} {H H' : Hp} {xs : List Str} {us : List V} (e : Same H H') (h : RowC K H xs us) : RowC K H' xs us := Paired.mapP h fun _ _ z => z.on e
theorem RowC.append {K : PySem.W.Frag} {H : Hp} : ∀ {xs ys : List Str} {us ws : List V}, RowC K H xs us → RowC K H ys ws → RowC K H (xs ++ ys) (us ++ ws)
  | _, _, _, _, .nil, b => b
  | _, _, _, _, .cons h t, b => .cons h (RowC.append t b)
theorem Row1.toC {K : PySem.W.Frag} {H : Hp} {v : V} : ∀ {qs : List (Str × Str)} {us : List V}, Row1 K H v qs us → RowC K H (qs.map (·.1)) us
  | _, _, .nil => .nil
  | _, _, .cons ⟨a, e, z⟩ t => .cons (by rw [e]; exact z.is) (Row1.toC t)
theorem paired_get {α β : Type} {F : α → β → Prop} : ∀ {xs : List α} {us : List β} {i : Nat} {u : β}, Paired F xs us → us[i]? = some u → ∃ x, xs[i]? = some x ∧ F x u
  | _, _, _, _, .nil, e => by simp at e
  | _, _, 0, _, .cons r _, e => by simp at e; subst e; exact ⟨_, rfl, r⟩
  | _, _, i + 1, u, .cons _ t, e => by
    obtain ⟨x, h1, h2⟩ := paired_get (i := i) (u := u) t (by simpa using e)
    exact ⟨x, by simpa using h1, h2⟩
theorem paired_at {α β : Type} {F : α → β → Prop} : ∀ {xs : List α} {us : List β} {i : Nat} {x : α}, Paired F xs us → xs[i]? = some x → ∃ u, us[i]? = some u ∧ F x u
  | _, _, _, _, .nil, e => by simp at e
  | _, _, 0, _, .cons r _, e => by simp at e; subst e; exact ⟨_, rfl, r⟩
  | _, _, i + 1, x, .cons _ t, e => by
    obtain ⟨u, h1, h2⟩ := paired_at (i := i) (x := x) t (by simpa using e)
    exact ⟨u, by simpa using h1, h2⟩
/-! ### lists that grow -/
/-- all stands, but lists at which G holds may be other lists -/
def Grow (G : Addr → Prop) (H H' : Hp) : Prop := ∀ b o, H b = some o → H' b = some o ∨ (G b ∧ ∃ xs ys, o = .lst xs ∧ H' b = some (.lst ys))
theorem Grow.refl {G : Addr → Prop} {H : Hp} : Grow G H H := fun _ _ h => .inl h
theorem Grow.same {G : Addr → Prop} {H H' : Hp} (e : Same H H') : Grow G H H' := fun b o h => .inl (e b o h)
theorem Grow.trans {G : Addr → Prop} {H H1 H2 : Hp} (a : Grow G H H1) (b : Grow G H1 H2) : Grow G H H2 := fun c o h => by
  rcases a c o h with q | ⟨g, xs, ys, rfl, q⟩
  · exact b c o q
  · rcases b c _ q with r | ⟨_, _, zs, _, r⟩
    · exact .inr ⟨g, xs, ys, rfl, r⟩
    · exact .inr ⟨g, xs, zs, rfl, r⟩
theorem Grow.put {G : Addr → Prop} {H : Hp} {b : Addr} {xs ys : List V} (g : G b) (h : H b = some (.lst xs)) : Grow G H (upd H b (.lst ys)) := fun c o e => by
  by_cases z : c = b
  · subst z
    rw [h] at e
    cases e
    exact .inr ⟨g, xs, ys, rfl, upd_same⟩
  · rw [upd_ne z]
    exact .inl e
/-- what is no such list stands -/
theorem Grow.at {G : Addr → Prop} {H H' : Hp} {b : Addr} {o : HO} (e : Grow G H H') (h : H b = some o) (n : (∀ xs, o ≠ .lst xs) ∨ ¬ G b) : H' b = some o := by
  rcases e b o h with q | ⟨g, xs, ys, rfl, q⟩
  · exact q
  · rcases n with n | n
    · exact absurd rfl (n xs)
    · exact absurd g n
theorem exo_lst {e C : Addr} {d : Option Addr} (xs : List V) : exo e C d ≠ .lst xs := fun z => by
  have z' : HO.ext _ = HO.lst xs := z
  cases z'
theorem exd_lst {e : Addr} {fs : List (Str × V)} (xs : List V) : exd e fs ≠ .lst xs := fun z => by
  have z' : HO.ext _ = HO.lst xs := z
  cases z'
theorem E1.grow {G : Addr → Prop} {H H' : Hp} {a C : Addr} {fs : List (Str × V)} (e : Grow G H H') (h : E1 H a C fs) : E1 H' a C fs := let ⟨d, x⟩ := h; ⟨d, e.at x.ob (.inl exo_lst), e.at x.di (.inl exd_lst)⟩
theorem IsEx.grow {G : Addr → Prop} {H H' : Hp} {u : V} {C : Addr} (e : Grow G H H') (h : IsEx H u C) : IsEx H' u C := let ⟨a, od, h1, h2, h3⟩ := h; ⟨a, od, h1, e.at h2 (.inl exo_lst), fun d z => let ⟨fs, k⟩ := h3 d z; ⟨fs, e.at k (.inl exd_lst)⟩⟩
theorem Row1.grow {G : Addr → Prop} {K : PySem.W.Frag} {H H' : Hp} {v : V} {qs : List (Str × Str)} {us : List V} (e : Grow G H H') (h : Row1 K H v qs us) : Row1 K H' v qs us := Paired.mapP h fun q u ⟨a, e1, x⟩ => ⟨a, e1, x.grow e⟩
theorem Row2.grow {G : Addr → Prop} {K : PySem.W.Frag} {H H' : Hp} {x y : V} {qs : List (Str × Str × Str)} {us : List V} (e : Grow G H H') (h : Row2 K H x y qs us) : Row2 K H' x y qs us := Paired.mapP h fun q u ⟨a, e1, z⟩ => ⟨a, e1, z.grow e⟩
theorem RowC.grow {G : Addr → Prop} {K : PySem.W.Frag} {H H' : Hp} {xs : List Str} {us : List V} (e : Grow G H H') (h : RowC K H xs us) : RowC K H' xs us := Paired.mapP h fun _ _ z => z.grow e
theorem SameB.up {H : Hp} : ∀ {n : Nat} {x y : V} {b : Bool}, SameB H n x y b → ∀ m, n ≤ m → SameB H m x y b := by
  intro n
  induction n with
  | zero => intro x y b h; cases h
  | succ n ih =>
    intro x y b h m hm
    obtain ⟨m, rfl⟩ : ∃ k, m = k + 1 := ⟨m - 1, by omega⟩
    cases h with
    | sc hx hy => exact .sc hx hy
    | dic h hk hf => exact .dic h hk hf
    | lst hx hy hl hb hz h => exact .lst hx hy hl hb hz fun i x y b p q r => ih (h i x y b p q r) m (by omega)
    | tup hx hy hl hb hz h => exact .tup hx hy hl hb hz fun i x y b p q r => ih (h i x y b p q r) m (by omega)
    | lstN hx hy hl => exact .lstN hx hy hl
    | tupN hx hy hl => exact .tupN hx hy hl
    | mis hx hy hl hk => exact .mis hx hy hl hk
    | misS hx hy hk => exact .misS hx hy hk
end Sm
namespace Sm
open PySem PySem.Spec PyProof.Rows L2
theorem exf_ok {K : PySem.W.Frag} {σ : L2.St} {H : Hp} {i : Nat} {l : Addr} {us : List V} (j : Nat) {f : Str} {v : V} {Q : VK} (hv : σ[i]? = some (some (.ref l))) (hl : SqL K H l us)
    (hu : ∃ (a C : Addr) (fs : List (Str × V)), us[j]? = some (.ref a) ∧ E1 H a C fs ∧ ExK K C ∧ PySem.W.findIn K (.ref C) f = some none ∧ fs.lookup f = some v) (k : Q v H) : tExf K (tOp (rIxL K) (tVar i) (tC (.int (j : Int)))) f σ H Q := by
  obtain ⟨a, C, fs, h1, ⟨d, h2⟩, h3, h4, h5⟩ := hu
  exact ⟨_, hv, l, us, _, _, rfl, rfl, hl, atI_nat h1, a, C, d, fs, v, rfl, h2, h3, h4, h5, k⟩
theorem row2_at {K : PySem.W.Frag} {H : Hp} {x y : V} {qs : List (Str × Str × Str)} {us : List V} (r : Row2 K H x y qs us) (hk : ∀ q ∈ qs, K2c K q) (hn : ∀ q ∈ qs, q.2.1 ≠ q.2.2) {i : Nat} {q : Str × Str × Str} (hq : qs[i]? = some q) :
    (∃ (a C : Addr) (fs : List (Str × V)), us[i]? = some (.ref a) ∧ E1 H a C fs ∧ ExK K C ∧ PySem.W.findIn K (.ref C) q.2.1 = some none ∧ fs.lookup q.2.1 = some x) ∧
    (∃ (a C : Addr) (fs : List (Str × V)), us[i]? = some (.ref a) ∧ E1 H a C fs ∧ ExK K C ∧ PySem.W.findIn K (.ref C) q.2.2 = some none ∧ fs.lookup q.2.2 = some y) := by
  obtain ⟨u, hu, a, rfl, e⟩ := paired_at r hq
  have m : q ∈ qs := List.mem_of_getElem? hq
  have k := hk q m
  refine ⟨⟨a, _, _, hu, e, k.e, k.n1, ?_⟩, ⟨a, _, _, hu, e, k.e, k.n2, ?_⟩⟩
  · rw [lookup_put, if_neg (hn q m), lookup_put, if_pos rfl]
  · rw [lookup_put, if_pos rfl]
theorem flat_isi {z : V} (h : flatV z = true) : isi (kndOf z) .lst = false := by
  cases z with
  | non => rfl
  | bl b => rfl
  | int i => rfl
  | str s => rfl
  | _ => cases h
end Sm
namespace Sm
open PySem PySem.Spec PyProof.Rows L2
theorem dp_bools {K : PySem.W.Frag} {H : Hp} : ∀ bs : List Bool, DpAll K H (bs.map V.bl) (bs.map PyData.bool)
  | [] => .nil
  | b :: bs => .cons (.bl b) (dp_bools bs)
/-- two equal lists of truths are told apart: they are not -/
theorem ne_bools {K : PySem.W.Frag} {H : Hp} {a b : Addr} {bs : List Bool} {Q : Bool → Hp → Prop} (ha : H a = some (.lst (bs.map V.bl))) (hb : H b = some (.lst (bs.map V.bl))) (hs : SeqAt.shaped (.list (bs.map PyData.bool)) = true) (he : PyData.eqv (.list (bs.map PyData.bool)) (.list (bs.map PyData.bool)) = true) (q : Q false H) :
    rNeD K (.ref a) (.ref b) H fun x H' => ∃ k, x = .bl k ∧ Q k H' :=
  ⟨_, _, .lst (SqL.of ha) (dp_bools bs), .lst (SqL.of hb) (dp_bools bs), hs, hs, _, rfl, by rw [he]; exact q⟩
end Sm
namespace Sm
open PySem PySem.Spec PyProof.Rows L2
def top (i : Nat) : Stmt := PySem.Challenge.pw_seenmarks_k01_errors_made.main.body.getD i (.Pass ⟨0, 0, 0, 0⟩)

structure TxtB (mg : Str → Option Value) : Prop where
  len : mg "len" = none
  int : mg "int" = none
  enumerate : mg "enumerate" = none
abbrev s_law_fresh : Stmt := top 26
theorem sc_law_fresh : FnScope ["_law_script"] ["_law_script"] (defScope s_law_fresh) := ⟨rfl, rfl, rfl, by decide +kernel, rfl, by decide +kernel, by decide +kernel⟩

abbrev s_law_fill : Stmt := top 27
theorem sc_law_fill : FnScope ["_law_state", "_law_cells", "_law_nth", "_law_seed", "_law_k", "_law_prime", "_law_far"] ["_law_state"] (defScope s_law_fill) := ⟨rfl, rfl, rfl, by decide +kernel, rfl, by decide +kernel, by decide +kernel⟩

abbrev s_law_take : Stmt := top 28
theorem sc_law_take : FnScope ["_law_state", "_law_many", "_law_laps", "_law_digit"] ["_law_state", "_law_many"] (defScope s_law_take) := ⟨rfl, rfl, rfl, by decide +kernel, rfl, by decide +kernel, by decide +kernel⟩

abbrev s_law_one : Stmt := top 29
theorem sc_law_one : FnScope ["_law_state", "_law_things"] ["_law_state", "_law_things"] (defScope s_law_one) := ⟨rfl, rfl, rfl, by decide +kernel, rfl, by decide +kernel, by decide +kernel⟩

section
variable {P : Program} {w : World} {K : PySem.W.Frag} {mg : Str → Option Value} {base : Heap}
abbrev FnP (K : PySem.W.Frag) (x : Str) (st : Stmt) (f : Addr) (fd : FuncData) : Prop := FunD K x x (defArgs st) (defBody st) (defScope st) [] [] f fd
theorem ok_fresh {f : Addr} {fd : FuncData} (F : FnP K "_law_fresh" s_law_fresh f fd) : FnOk P w K mg base CX0 1 f fd ["_law_script"] (spFresh K) := by
  refine F.ok sc_law_fresh (fun vs H Q E h => ?_) (fun cdv A outer s H vs Q E hr h => ?_)
  · obtain ⟨a, ns, rfl, _⟩ := h
    rfl
  · obtain ⟨a, ns, rfl, hS, hl, k⟩ := h
    refine ⟨_, PSs.nox (pss_one (ps_ret (pe_lst (pa_cons (pe_slice (sl_listK (K := K)) (pv 0) po_none (po_some pe_int)) (pa_cons pe_int (pa_cons pe_int (pa_cons pe_bl pa_nil))))))), ?_⟩
    refine ⟨_, rfl, _, rfl, a, _, rfl, hS, fun c hc => ⟨by show 4 ≤ sizeLine; decide, fun p hp => ?_⟩⟩
    have ncp : c ≠ p := ne_of_none upd_same hp
    have hp0 : H p = none := by
      rw [upd_ne ncp.symm] at hp
      exact hp
    have ec : cutV (ns.map V.int) none (some 63) = (ns.take (HT.sIx (ns.map V.int).length (ns.map V.int).length (some 63) - HT.sIx (ns.map V.int).length 0 none)).map V.int := by
      unfold cutV
      have e0 : HT.sIx (ns.map V.int).length 0 none = 0 := rfl
      rw [e0, List.drop_zero, List.map_take]
    refine k p c _ hp0 hc (fun b o e => ?_) ⟨ns.take (HT.sIx (ns.map V.int).length (ns.map V.int).length (some 63) - HT.sIx (ns.map V.int).length 0 none), 0, 0, false, upd_same, ?_, ?_⟩
    · rw [upd_ne (ne_of_none e hp0), upd_ne (ne_of_none e hc)]
      exact e
    · rw [upd_ne ncp, upd_same, ec]
    · rw [List.length_take]
      exact Nat.le_trans (Nat.min_le_right _ _) hl
def primes : List V := [.int 2147483647, .int 2147483629, .int 2147483587, .int 2147483579, .int 2147483563]
theorem primes_at {i : Nat} {y : V} (h : primes[i]? = some y) : ∃ q : Int, y = .int q ∧ 0 < q ∧ q < 2 ^ 31 := by
  match i, h with
  | 0, h => exact ⟨_, (Option.some.inj h).symm, by decide, by decide⟩
  | 1, h => exact ⟨_, (Option.some.inj h).symm, by decide, by decide⟩
  | 2, h => exact ⟨_, (Option.some.inj h).symm, by decide, by decide⟩
  | 3, h => exact ⟨_, (Option.some.inj h).symm, by decide, by decide⟩
  | 4, h => exact ⟨_, (Option.some.inj h).symm, by decide, by decide⟩
  | i + 5, h =>
    have h2 : (none : Option V) = some y := h
    cases h2
theorem ok_fill (T : TxtB mg) {f : Addr} {fd : FuncData} (F : FnP K "_law_fill" s_law_fill f fd) : FnOk P w K mg base CX0 1 f fd ["_law_state"] spFill := by
  refine F.ok sc_law_fill (fun vs H Q E h => ?_) (fun cdv A outer s H vs Q E hr h => ?_)
  · obtain ⟨p, c, rfl, _⟩ := h
    rfl
  · obtain ⟨p, c, rfl, ⟨ns, n, l, m, D⟩, k⟩ := h
    have hu := hu_of hr
    refine ⟨_, PSs.nox (pss_cons (ps_par (i := 1) (j := 2) rfl sc_law_fill.nd rfl rfl (by decide) rfl rfl (pa_cons (pe_ix (ix_listK (K := K)) (pv 0) pe_int (fun _ _ => rfl)) (pa_cons (pe_ix (ix_listK (K := K)) (pv 0) pe_int (fun _ _ => rfl)) pa_nil)) (by rfl))
  (pss_cons (ps_set (i := 3) sc_law_fill.nd rfl (Or.inl rfl) (pe_op op_add (pe_op op_mul pe_int (pv 2)) pe_int))
  (pss_cut (ps_if (pt_cmpR op_gt (pe_callB (call_lenK (K := K)) (by rfl) T.len (by decide +kernel) (pa_cons (pv 1) pa_nil)) pe_int (nomark _)) (pss_one (ps_set (i := 3) sc_law_fill.nd rfl (Or.inl rfl) (pe_op op_add (pe_op op_mul pe_int (pe_op op_fdivW (pv 2) (pe_callB (call_lenK (K := K)) (by rfl) T.len (by decide +kernel) (pa_cons (pv 1) pa_nil)))) (pe_ix (ix_listK (K := K)) (pv 1) (pe_op op_modN (pe_callTy call_int1 (by rfl) T.int (by decide +kernel) (pa_cons (pv 2) pa_nil)) (pe_callB (call_lenK (K := K)) (by rfl) T.len (by decide +kernel) (pa_cons (pv 1) pa_nil))) (fun _ _ => rfl))))) pss_nil)
  (pss_cons (ps_asg (pe_op op_add (pv 2) pe_int) (pg_sub (pv 0) pe_int set_list))
  (pss_cut (ps_asg (pe_or (pe_cmpR op_ge (pv 2) (pe_callB (call_lenK (K := K)) (by rfl) T.len (by decide +kernel) (pa_cons (pv 1) pa_nil)) (nomark _)) (pe_one (pe_cmpR op_lt (pv 3) (pe_op op_pow pe_int pe_int) (nomark _)))) (pg_sub (pv 0) pe_int set_list))
  (pss_cons (ps_asg (pe_op op_sub (pv 3) (pe_op op_pow pe_int pe_int)) (pg_sub (pv 0) pe_int set_list))
  (pss_one (ps_if (pt_val (pe_ix (ix_listK (K := K)) (pv 0) pe_int (fun _ _ => rfl))) (pss_cons (ps_asg pe_int (pg_sub (pv 0) pe_int set_list))
  (pss_one (ps_for PassesOwn.never rfl (pi_enumTK (K := K) (by rfl) T.enumerate (pa_cons (pe_tup (pa_cons pe_int (pa_cons pe_int (pa_cons pe_int (pa_cons pe_int (pa_cons pe_int pa_nil)))))) pa_nil)) (pg_tupK (K := K) rfl (pgs_cons (pg_name (i := 4) sc_law_fill.nd rfl (Or.inl rfl)) (pgs_cons (pg_name (i := 5) sc_law_fill.nd rfl (Or.inl rfl)) pgs_nil))) (pss_cons (ps_set (i := 6) sc_law_fill.nd rfl (Or.inl rfl) (pe_op op_modN (pe_callTy call_int1 (by rfl) T.int (by decide +kernel) (pa_cons (pe_op op_mul (pe_op op_add (pe_op op_add (pv 3) (pe_op op_mul (pe_op op_mul pe_int (pv 4)) (pv 4))) (pe_op op_mul pe_int (pv 4))) (pe_op op_add pe_int (pe_op op_mul pe_int (pv 4)))) pa_nil)) (pv 5)))
  (pss_one (ps_asg (pe_op op_add (pe_op op_mul (pe_ix (ix_listK (K := K)) (pv 0) pe_int (fun _ _ => rfl)) (pv 5)) (pe_op op_modN (pe_callTy call_int1 (by rfl) T.int (by decide +kernel) (pa_cons (pe_op op_pow (pv 6) pe_int) pa_nil)) (pv 5))) (pg_sub (pv 0) pe_int set_list))))))) pss_nil)))))))), ?_⟩
    refine ⟨_, rfl, p, _, 0, _, rfl, rfl, SqL.of D.st, rfl, _, rfl, p, _, 1, _, rfl, rfl, SqL.of D.st, rfl, _, _, rfl, ?_⟩
    -- seed = 31 * nth + 7
    refine ⟨_, rfl, _, _, rfl, rfl, .inl ⟨by decide, by decide⟩, _, _, rfl, rfl, ?_⟩
    -- if len(cells) > 0
    refine ⟨fun σ' H' => ∃ seed : Int, σ' = [some (.ref p), some (.ref c), some (.int n), some (.int seed), none, none, none] ∧ H' = H, ⟨_, rfl, c, _, rfl, .inl (SqL.of D.ce), _, _, rfl, rfl, _, rfl, ite2 (fun hc => ?_) (fun _ => ⟨_, rfl, rfl⟩)⟩, ?_⟩
    · have hlen : 0 < ns.length := by
        have := of_decide_eq_true hc
        rw [List.length_map] at this
        omega
      have el : ((ns.map V.int).length : Int) = (ns.length : Int) := by rw [List.length_map]
      have h63 := D.sz
      have j0 : (0 : Int) < ((ns.map V.int).length : Int) := by omega
      refine ⟨_, rfl, _, rfl, c, _, rfl, .inl (SqL.of D.ce), _, _, rfl, rfl, ⟨j0, Nat.lt_trans (log2_lt_of (n := 6) j0 (by decide) (by omega)) (by decide)⟩, _, _, rfl, rfl, .inl ⟨by decide, by decide⟩, ?_⟩
      refine ⟨_, rfl, _, rfl, .inl ⟨_, rfl, ?_⟩⟩
      refine ⟨_, rfl, c, _, rfl, .inl (SqL.of D.ce), _, _, rfl, rfl, by omega, ?_⟩
      have hm0 : 0 ≤ n.fmod ((ns.map V.int).length : Int) := Int.fmod_nonneg_of_pos _ j0
      have hm1 : n.fmod ((ns.map V.int).length : Int) < ((ns.map V.int).length : Int) := Int.fmod_lt_of_pos _ j0
      obtain ⟨i, hi⟩ := Int.eq_ofNat_of_zero_le hm0
      have hil : i < ns.length := by omega
      refine ⟨c, _, _, V.int (ns[i]'hil), rfl, rfl, SqL.of D.ce, ?_, _, _, rfl, rfl, ⟨_, rfl, rfl⟩⟩
      rw [hi]
      exact atI_nat (by rw [List.getElem?_map, List.getElem?_eq_getElem hil]; rfl)
    · rintro σ' H' ⟨seed, rfl, rfl⟩
      -- state[1] = nth + 1; state[3] = nth >= len(cells) or seed < 10 ** 18; state[2] = seed - 10 ** 18
      refine ⟨_, rfl, _, _, rfl, rfl, _, rfl, p, _, 1, 1, rfl, rfl, D.st, rfl, ?_⟩
      have D1 : DrAt (upd H' p (.lst [.ref c, .int (n + 1), .int l, .bl m])) p c ns (n + 1) l m := D.put
      refine ⟨fun σ2 H2 => ∃ m2 : Bool, σ2 = [some (.ref p), some (.ref c), some (.int n), some (.int seed), none, none, none] ∧ Off p H' H2 ∧ DrAt H2 p c ns (n + 1) l m2,
        ⟨_, rfl, _, rfl, c, _, rfl, .inl (SqL.of D1.ce), _, _, rfl, rfl, _, rfl, ite2 (fun _ => ?_) (fun _ => ?_)⟩, ?_⟩
      · exact ⟨_, rfl, p, _, 3, 3, rfl, rfl, D1.st, rfl, _, rfl, Off.put.trans Off.put, D1.put⟩
      · exact ⟨_, rfl, _, _, rfl, rfl, ⟨by decide, by decide, by decide⟩, _, _, rfl, rfl, _, rfl, p, _, 3, 3, rfl, rfl, D1.st, rfl, _, rfl, Off.put.trans Off.put, D1.put⟩
      · rintro σ2 H2 ⟨m2, rfl, o2, D2⟩
        refine ⟨_, rfl, _, _, rfl, rfl, ⟨by decide, by decide, by decide⟩, _, _, rfl, rfl, _, rfl, p, _, 2, 2, rfl, rfl, D2.st, rfl, ?_⟩
        have D3 : DrAt (upd H2 p (.lst [.ref c, .int (n + 1), .int (seed - 10 ^ Int.toNat 18), .bl m2])) p c ns (n + 1) (seed - 10 ^ Int.toNat 18) m2 := D2.put
        refine ⟨_, rfl, p, _, 3, _, rfl, rfl, SqL.of D3.st, rfl, _, rfl, ite2 (fun _ => ?_) (fun _ => ?_)⟩
        · -- state[2] = 0
          refine ⟨_, rfl, p, _, 2, 2, rfl, rfl, D3.st, rfl, ?_⟩
          have D4 : DrAt (upd (upd H2 p (.lst [.ref c, .int (n + 1), .int (seed - 10 ^ Int.toNat 18), .bl m2])) p (.lst [.ref c, .int (n + 1), .int 0, .bl m2])) p c ns (n + 1) 0 m2 := D3.put
          have o4 : Off p H' (upd (upd H2 p (.lst [.ref c, .int (n + 1), .int (seed - 10 ^ Int.toNat 18), .bl m2])) p (.lst [.ref c, .int (n + 1), .int 0, .bl m2])) := (o2.trans Off.put).trans Off.put
          refine ⟨by show 5 ≤ sizeLine; decide, fun t ht => ?_⟩
          have htp : t ≠ p := fun e => by
            rw [e, upd_same] at ht
            cases ht
          refine ⟨t, _, rfl, SqT.of upd_same, for_it (walk_enumT (xs := primes)) (fun i σ' H'' => ∃ (vk vp vf : Option V) (left : Int), σ' = [some (.ref p), some (.ref c), some (.int n), some (.int seed), vk, vp, vf] ∧ Off p H' H'' ∧ DrAt H'' p c ns (n + 1) left m2 ∧ H'' t = some (.tup primes))
            ⟨none, none, none, 0, rfl, o4.trans (Off.new ht), D4.new ht, upd_same⟩ (fun i σ' H'' _ ⟨_, _, _, _, _, _, _, ht'⟩ => SqT.of ht') ?_ ?_⟩
          · rintro i x σ' H3 H4 hi ⟨vk, vp, vf, left, rfl, o3, D5, ht3⟩ ⟨T', x', y, rfl, hT, rfl, hx, hy⟩
            cases hx
            obtain ⟨q, rfl, q0, q1⟩ := primes_at hy
            have D6 : DrAt (upd H3 T' (.tup [.int (i : Nat), .int q])) p c ns (n + 1) left m2 := D5.new hT
            have ht6 : (upd H3 T' (.tup [.int (i : Nat), .int q])) t = some (.tup primes) := by
              rw [upd_ne (ne_of_none ht3 hT)]
              exact ht3
            have o6 : Off p H' (upd H3 T' (.tup [.int (i : Nat), .int q])) := o3.trans (Off.new hT)
            refine ⟨T', _, rfl, SqT.of upd_same, rfl, _, _, rfl, _, _, rfl, rfl, ?_⟩
            -- far = ..
            have i5 : i < 5 := hi
            refine ⟨_, rfl, _, rfl, _, _, rfl, rfl, .inl ⟨by decide, by decide⟩, _, rfl, _, _, rfl, rfl, .inl ⟨by omega, by omega⟩, _, _, rfl, rfl, ?_⟩
            refine ⟨_, rfl, _, _, rfl, rfl, .inl ⟨by decide, by decide⟩, _, _, rfl, rfl, _, rfl, _, _, rfl, rfl, .inl ⟨by decide, by decide⟩, _, _, rfl, rfl, _, _, rfl, rfl, .inr ⟨by omega, by omega⟩, .inl ⟨_, rfl, ?_⟩⟩
            refine ⟨_, rfl, _, _, rfl, rfl, by omega, ?_⟩
            -- state[2] = state[2] * prime + int(far ** 5) % prime
            refine ⟨_, rfl, p, _, 2, _, rfl, rfl, SqL.of D6.st, rfl, _, rfl, _, _, rfl, rfl, .inr ⟨by omega, by omega⟩, ?_⟩
            refine ⟨_, rfl, _, _, rfl, rfl, ⟨by decide, by decide, ?_⟩, .inl ⟨_, rfl, ?_⟩⟩
            · exact fmod_small q0 q1
            refine ⟨_, rfl, _, _, rfl, rfl, by omega, _, _, rfl, rfl, _, rfl, p, _, 2, 2, rfl, rfl, D6.st, rfl, ?_⟩
            exact ⟨_, _, _, _, rfl, o6.trans Off.put, D6.put, by rw [upd_ne htp]; exact ht6⟩
          · rintro σ' H3 ⟨vk, vp, vf, left, rfl, o3, D5, ht3⟩
            exact k H3 o3 ⟨_, _, _, _, D5⟩
        · exact k _ (o2.trans Off.put) ⟨_, _, _, _, D3⟩
theorem ok_take (T : TxtB mg) {f : Addr} {fd : FuncData} (F : FnP K "_law_take" s_law_take f fd) (c_law_fill : Cal P w K mg base CX0 1 "_law_fill" spFill) : FnOk P w K mg base CX0 2 f fd ["_law_state", "_law_many"] spTake := by
  refine F.ok sc_law_take (fun vs H Q E h => ?_) (fun cdv A outer s H vs Q E hr h => ?_)
  · obtain ⟨p, c, k, rfl, _⟩ := h
    rfl
  · obtain ⟨p, c, k, rfl, D0, k0, k1, kk⟩ := h
    refine ⟨_, PSs.nox (pss_cons (ps_set (i := 2) sc_law_take.nd rfl (Or.inl rfl) pe_int)
  (pss_cut (ps_while PassesOwn.never (PW.pt (pw_and (pt_cmpR op_lt (pv 2) pe_int (nomark _)) (pw_and1 (PW.pt (pw_or (pt_cmpR op_eq (pe_ix (ix_listK (K := K)) (pv 0) pe_int (fun _ _ => rfl)) pe_int (nomark _)) (pw_or1 (PW.pt (pw_and (pt_val (pe_ix (ix_listK (K := K)) (pv 0) pe_int (fun _ _ => rfl))) (pw_and1 (pt_cmpR op_lt (pe_ix (ix_listK (K := K)) (pv 0) pe_int (fun _ _ => rfl)) (pe_op op_mul (pv 1) pe_int) (nomark _))))))))))) (pss_cons (ps_expr (pe_c c_law_fill hr (by first | decide | omega) (by rfl) (pa_cons (pv 0) pa_nil)))
  (pss_cons (ps_aug (i := 2) sc_law_take.nd rfl (Or.inl rfl) pe_int ip_add)
  (pss_one (ps_if (PW.pt (pw_and (pt_val (pe_ix (ix_listK (K := K)) (pv 0) pe_int (fun _ _ => rfl))) (pw_and1 (pt_cmpR op_lt (pe_ix (ix_listK (K := K)) (pv 0) pe_int (fun _ _ => rfl)) (pe_op op_mul (pv 1) pe_int) (nomark _))))) (pss_one (ps_asg (pe_op op_add (pe_ix (ix_listK (K := K)) (pv 0) pe_int (fun _ _ => rfl)) (pe_op op_mul (pe_op op_mul (pv 1) pe_int) (pe_op op_add pe_int (pe_op op_modN (pe_callTy call_int1 (by rfl) T.int (by decide +kernel) (pa_cons (pe_ix (ix_listK (K := K)) (pv 0) pe_int (fun _ _ => rfl)) pa_nil)) pe_int)))) (pg_sub (pv 0) pe_int set_list))) pss_nil)))))
  (pss_cons (ps_set (i := 3) sc_law_take.nd rfl (Or.inl rfl) (pe_op op_modN (pe_callTy call_int1 (by rfl) T.int (by decide +kernel) (pa_cons (pe_ix (ix_listK (K := K)) (pv 0) pe_int (fun _ _ => rfl)) pa_nil)) (pv 1)))
  (pss_cons (ps_asg (pe_op op_fdivW (pe_ix (ix_listK (K := K)) (pv 0) pe_int (fun _ _ => rfl)) (pv 1)) (pg_sub (pv 0) pe_int set_list))
  (pss_one (ps_ret (pv 3))))))), ?_⟩
    have anyT : ∀ {σ' : L2.St} {H1 : Hp} {laps : Int}, σ' = [some (.ref p), some (.int k), some (.int laps), none] → Dr H1 p c → ∀ (K' : PySem.W.Frag), Any (tTest (tOp rEq (tOp (rIxL K') (tVar 0) (tC (.int 2))) (tC (.int 0)))) σ' H1 ∧
        Any (tAnd (tB (tOp (rIxL K') (tVar 0) (tC (.int 3)))) (tTest (tOp (rI0 fun i j => .bl (decide (i < j))) (tOp (rIxL K') (tVar 0) (tC (.int 2))) (tOp (rI CMul fun i j => .int (i * j)) (tVar 1) (tC (.int 4096)))))) σ' H1 := by
      rintro σ' H1 laps rfl ⟨ns, n, l, mx, D⟩ K'
      refine ⟨fun Q q => ⟨_, rfl, p, _, 2, _, rfl, rfl, SqL.of D.st, rfl, rfl, _, rfl, q _⟩, any_and (fun Q q => ⟨_, rfl, p, _, 3, _, rfl, rfl, SqL.of D.st, rfl, _, rfl, q _⟩) fun Q q => ?_⟩
      exact ⟨_, rfl, p, _, 2, _, rfl, rfl, SqL.of D.st, rfl, _, rfl, _, _, rfl, rfl, .inr ⟨by decide, by decide⟩, _, _, rfl, rfl, _, rfl, q _⟩
    refine ⟨fun σ' H' => ∃ laps : Nat, σ' = [some (.ref p), some (.int k), some (.int (laps : Int)), none] ∧ Off p H H' ∧ Dr H' p c,
      ⟨fun m σ' H' => ∃ laps : Nat, σ' = [some (.ref p), some (.int k), some (.int (laps : Int)), none] ∧ m = 64 - laps ∧ Off p H H' ∧ Dr H' p c, ⟨64, 0, rfl, rfl, Off.refl, D0⟩, ?_⟩, ?_⟩
    · rintro m σ' H1 ⟨laps, rfl, rfl, o1, D1⟩
      refine ⟨_, rfl, _, _, rfl, rfl, _, rfl, ite2 (fun hl => ?_) (fun _ => iteF ⟨laps, rfl, o1, D1⟩)⟩
      refine any_or (anyT rfl D1 _).1 (anyT rfl D1 _).2 _ fun b => ?_
      cases b with
      | false => exact iteF ⟨laps, rfl, o1, D1⟩
      | true =>
        have hl2 := of_decide_eq_true hl
        refine iteT ⟨fun σ' H' => ∃ laps' : Nat, σ' = [some (.ref p), some (.int k), some (.int (laps' : Int)), none] ∧ laps' = laps + 1 ∧ Off p H H' ∧ Dr H' p c, ?_, ?_⟩
        · rintro σ' H' ⟨laps', rfl, rfl, o2, D2⟩
          exact ⟨64 - (laps + 1), by omega, laps + 1, rfl, rfl, o2, D2⟩
        · refine ⟨_, rfl, p, c, rfl, D1, fun H2 o2 D2 => ?_⟩
          refine ⟨_, rfl, _, _, rfl, rfl, ?_⟩
          refine (anyT (laps := (laps : Int) + 1) rfl D2 _).2 _ fun b => ?_
          obtain ⟨ns, n, l, mx, D⟩ := id D2
          cases b with
          | false => exact iteF ⟨laps + 1, rfl, rfl, o1.trans o2, D2⟩
          | true =>
            refine iteT ?_
            refine ⟨_, rfl, p, _, 2, _, rfl, rfl, SqL.of D.st, rfl, _, rfl, _, _, rfl, rfl, .inr ⟨by decide, by decide⟩, ?_⟩
            refine ⟨_, rfl, p, _, 2, _, rfl, rfl, SqL.of D.st, rfl, .inl ⟨_, rfl, _, _, rfl, rfl, (show (4093 : Int) ≠ 0 by decide), _, _, rfl, rfl, _, _, rfl, rfl, .inr ?_, _, _, rfl, rfl, ?_⟩⟩
            · have h1 := Int.fmod_nonneg_of_pos l (show (0 : Int) < 4093 by decide)
              have h2 := Int.fmod_lt_of_pos l (show (0 : Int) < 4093 by decide)
              exact ⟨by omega, by omega⟩
            · exact ⟨_, rfl, p, _, 2, 2, rfl, rfl, D.st, rfl, laps + 1, rfl, rfl, (o1.trans o2).trans Off.put, ⟨_, _, _, _, D.put⟩⟩
    · rintro σ' H1 ⟨laps, rfl, o1, D1⟩
      obtain ⟨ns, n, l, mx, D⟩ := id D1
      -- digit = int(state[2]) % many; state[2] = state[2] // many; return digit
      refine ⟨_, rfl, p, _, 2, _, rfl, rfl, SqL.of D.st, rfl, .inl ⟨_, rfl, _, rfl, _, _, rfl, rfl, by omega, ?_⟩⟩
      refine ⟨_, rfl, p, _, 2, _, rfl, rfl, SqL.of D.st, rfl, _, rfl, _, _, rfl, rfl, ⟨k0, Nat.lt_trans k1 (by decide)⟩, _, rfl, p, _, 2, 2, rfl, rfl, D.st, rfl, ?_⟩
      exact ⟨_, rfl, kk _ _ (Int.fmod_nonneg_of_pos l k0) (Int.fmod_lt_of_pos l k0) (o1.trans Off.put) ⟨_, _, _, _, D.put⟩⟩
theorem ok_one (T : TxtB mg) {f : Addr} {fd : FuncData} (F : FnP K "_law_one" s_law_one f fd) (c_law_take : Cal P w K mg base CX0 2 "_law_take" spTake) : FnOk P w K mg base CX0 3 f fd ["_law_state", "_law_things"] (spOne K) := by
  refine F.ok sc_law_one (fun vs H Q E h => ?_) (fun cdv A outer s H vs Q E hr h => ?_)
  · obtain ⟨p, c, a, xs, rfl, _⟩ := h
    rfl
  · obtain ⟨p, c, a, xs, rfl, D0, ha, nap, nx, hl, kk⟩ := h
    refine ⟨_, PSs.nox (pss_one (ps_ret (pe_ix (ix_listK (K := K)) (pv 1) (pe_c c_law_take hr (by first | decide | omega) (by rfl) (pa_cons (pv 0) (pa_cons (pe_callB (call_lenK (K := K)) (by rfl) T.len (by decide +kernel) (pa_cons (pv 1) pa_nil)) pa_nil))) (fun _ _ => rfl)))), ?_⟩
    have h0 : 0 < xs.length := List.length_pos_iff.mpr nx
    have j0 : (0 : Int) < (xs.length : Int) := by omega
    refine ⟨_, rfl, _, rfl, _, rfl, a, _, rfl, .inl ha, p, c, _, rfl, D0, j0, Nat.lt_trans (log2_lt_of (n := 20) j0 (by decide) (by omega)) (by decide), fun d H1 d0 d1 o1 D1 => ?_⟩
    obtain ⟨i, rfl⟩ := Int.eq_ofNat_of_zero_le d0
    have hi : i < xs.length := by omega
    exact ⟨a, _, _, xs[i]'hi, rfl, rfl, o1.seq nap ha, atI_nat (List.getElem?_eq_getElem hi), kk _ _ (List.getElem_mem hi) o1 D1⟩
end
end Sm
namespace Sm
open PySem PySem.Spec PyProof.Rows L2
abbrev s_law_same : Stmt := top 30
theorem sc_law_same : FnScope ["_law_found", "_law_due", "_law_a", "_law_b"] ["_law_found", "_law_due"] (defScope s_law_same) := ⟨rfl, rfl, rfl, by decide +kernel, rfl, by decide +kernel, by decide +kernel⟩

structure TxtS (mg : Str → Option Value) : Prop where
  len : mg "len" = none
  int : mg "int" = none
  bool : mg "bool" = none
  list : mg "list" = none
  tuple : mg "tuple" = none
  all : mg "all" = none
  zip : mg "zip" = none
  isinstance : mg "isinstance" = none
section
variable {P : Program} {w : World} {K : PySem.W.Frag} {mg : Str → Option Value} {base : Heap}
theorem ok_same0 {f : Addr} {fd : FuncData} (F : FnP K "_law_same" s_law_same f fd) : FnOk P w K mg base CX0 0 f fd ["_law_found", "_law_due"] (spSame 0) :=
  ⟨fun vs H Q E h => by
    obtain ⟨x, y, b, rfl, _⟩ := h
    rfl, fun A outer s H args us vs Q E hr h0 hb r h => by
    obtain ⟨x, y, b, _, h, _⟩ := h
    cases h⟩
theorem ok_same (T : TxtS mg) {f : Addr} {fd : FuncData} {n : Nat} (F : FnP K "_law_same" s_law_same f fd) (c_law_same : Cal P w K mg base CX0 n "_law_same" (spSame n)) : FnOk P w K mg base CX0 (n + 1) f fd ["_law_found", "_law_due"] (spSame (n + 1)) := by
  refine F.ok sc_law_same (fun vs H Q E h => ?_) (fun cdv A outer s H vs Q E hr h => ?_)
  · obtain ⟨x, y, b, rfl, _⟩ := h
    rfl
  · obtain ⟨x, y, b, rfl, h, kk⟩ := h
    have hu : A.units + 1 < cLine := by
      have := hr.un
      have e : (A.deeper (envOfC "_law_same" (defScope s_law_same) s.heap.objs.size f cdv)).units = A.units + 3 := rfl
      omega
    refine ⟨_, PSs.nox (pss_cons (ps_if (pt_val (pe_callB (call_isiTK (K := K)) (by rfl) T.isinstance (by decide +kernel) (pa_cons (pv 1) (pa_cons (pe_tup (pa_cons (pe_bltn (v := .ty "list") (u := .type "list") (by rfl) T.list (by decide +kernel) rfl) (pa_cons (pe_bltn (v := .ty "tuple") (u := .type "tuple") (by rfl) T.tuple (by decide +kernel) rfl) pa_nil))) pa_nil)))) (pss_cons (ps_if (PW.pt (pw_or (pt_cmpR op_ne (pe_callB (call_isiK' (K := K)) (by rfl) T.isinstance (by decide +kernel) (pa_cons (pv 0) (pa_cons (pe_bltn (v := .ty "list") (u := .type "list") (by rfl) T.list (by decide +kernel) rfl) pa_nil))) (pe_callB (call_isiK' (K := K)) (by rfl) T.isinstance (by decide +kernel) (pa_cons (pv 1) (pa_cons (pe_bltn (v := .ty "list") (u := .type "list") (by rfl) T.list (by decide +kernel) rfl) pa_nil))) (nomark _)) (pw_or1 (pt_cmpR op_ne (pe_callB (call_isiK' (K := K)) (by rfl) T.isinstance (by decide +kernel) (pa_cons (pv 0) (pa_cons (pe_bltn (v := .ty "tuple") (u := .type "tuple") (by rfl) T.tuple (by decide +kernel) rfl) pa_nil))) (pe_callB (call_isiK' (K := K)) (by rfl) T.isinstance (by decide +kernel) (pa_cons (pv 1) (pa_cons (pe_bltn (v := .ty "tuple") (u := .type "tuple") (by rfl) T.tuple (by decide +kernel) rfl) pa_nil))) (nomark _))))) (pss_one (ps_ret pe_bl)) pss_nil)
  (pss_one (ps_ret (pe_and (pe_cmpR op_eq (pe_callB (call_lenK (K := K)) (by rfl) T.len (by decide +kernel) (pa_cons (pv 0) pa_nil)) (pe_callB (call_lenK (K := K)) (by rfl) T.len (by decide +kernel) (pa_cons (pv 1) pa_nil)) (nomark _)) (pe_one (pe_callB (call_allK (K := K) rfl) (by rfl) T.all (by decide +kernel) (pa_cons (pe_lc (own := [("_law_a", 2), ("_law_b", 3)]) (g := (gTup K 2 (gCons (gName 2) (gCons (gName 3) gNil)))) rfl sc_law_same.nd (pi_zipK (K := K) (by rfl) T.zip (pa_cons (pv 0) (pa_cons (pv 1) pa_nil))) (blkOk_by (own := [("_law_a", 2), ("_law_b", 3)]) (N := ["_law_found", "_law_due", "_law_a", "_law_b"]) (sc := defScope s_law_same) (by decide +kernel)) (fun _ _ _ _ _ => (pg_tupK (K := K) rfl (pgs_cons (pg_name (i := 2) sc_law_same.nd rfl (Or.inl rfl) (hf := Or.inr rfl)) (pgs_cons (pg_name (i := 3) sc_law_same.nd rfl (Or.inl rfl) (hf := Or.inr rfl)) pgs_nil)))) (fun _ _ _ _ _ => pts_nil) (fun _ _ _ _ _ => (pe_c c_law_same hr (by first | decide | omega) (by rfl) (pa_cons (pv 2) (pa_cons (pv 3) pa_nil))))) pa_nil))))))) pss_nil)
  (pss_cons (ps_if (pt_val (pe_callB (call_isiK' (K := K)) (by rfl) T.isinstance (by decide +kernel) (pa_cons (pv 1) (pa_cons (pe_bltn (v := .ty "int") (u := .type "int") (by rfl) T.int (by decide +kernel) rfl) pa_nil)))) (pss_one (ps_ret (pe_and (pe_callB (call_isiK' (K := K)) (by rfl) T.isinstance (by decide +kernel) (pa_cons (pv 0) (pa_cons (pe_bltn (v := .ty "int") (u := .type "int") (by rfl) T.int (by decide +kernel) rfl) pa_nil))) (pe_and (pe_cmpR op_eq (pe_callB (call_isiK' (K := K)) (by rfl) T.isinstance (by decide +kernel) (pa_cons (pv 0) (pa_cons (pe_bltn (v := .ty "bool") (u := .type "bool") (by rfl) T.bool (by decide +kernel) rfl) pa_nil))) (pe_callB (call_isiK' (K := K)) (by rfl) T.isinstance (by decide +kernel) (pa_cons (pv 1) (pa_cons (pe_bltn (v := .ty "bool") (u := .type "bool") (by rfl) T.bool (by decide +kernel) rfl) pa_nil))) (nomark _)) (pe_one (pe_cmpR (op_orR op_eq (op_eqVK (K := K) (hu64_of hr))) (pv 0) (pv 1) (nomark _))))))) pss_nil)
  (pss_one (ps_ret (pe_and (pe_cmpR op_is_bl (pe_callB (call_isiTK (K := K)) (by rfl) T.isinstance (by decide +kernel) (pa_cons (pv 0) (pa_cons (pe_tup (pa_cons (pe_bltn (v := .ty "bool") (u := .type "bool") (by rfl) T.bool (by decide +kernel) rfl) (pa_cons (pe_bltn (v := .ty "int") (u := .type "int") (by rfl) T.int (by decide +kernel) rfl) (pa_cons (pe_bltn (v := .ty "list") (u := .type "list") (by rfl) T.list (by decide +kernel) rfl) (pa_cons (pe_bltn (v := .ty "tuple") (u := .type "tuple") (by rfl) T.tuple (by decide +kernel) rfl) pa_nil))))) pa_nil))) pe_bl (nomark _)) (pe_one (pe_cmpR (op_orR op_eq (op_eqVK (K := K) (hu64_of hr))) (pv 0) (pv 1) (nomark _)))))))), ?_⟩
    have on2 : ∀ {tp : Addr} {o : HO}, H tp = none → Same H (upd H tp o) := fun h => Same.new h
    -- what follows where both are lists, both are tuples
    have whole : ∀ {a c : Addr} {xs ys : List V} {bs : List Bool} {H1 : Hp} {Qr : Addr → Hp → Prop} {J : It} {K' : PySem.W.Frag}, Same H H1 → (Walk J xs.length (fun H2 => Same H1 H2) (YPair (fun i => xs[i]?) (fun i => ys[i]?))) → xs.length = bs.length → xs.length ≤ 10000 →
        (∀ (i : Nat) (x y : V) (b : Bool), xs[i]? = some x → ys[i]? = some y → bs[i]? = some b → SameB H n x y b) → (∀ D H2, Same H1 H2 → H2 D = some (.lst (bs.map V.bl)) → Qr D H2) →
        ∀ D, H1 D = none → ∃ W : Nat → Nat → Hp → Prop, (∃ m, W 0 m (upd H1 D (.lst []))) ∧ ∀ i m H, W i m H → (J.stop i H ∧ Qr D H) ∨ (J.go i H ∧ ∃ Nx : Hp → Prop, (∀ H', Nx H' → ∃ m', m' < m ∧ W (i + 1) m' H') ∧
          ∀ x H', J.yld i H x H' → gTup K' 2 (gCons (gName 2) (gCons (gName 3) gNil)) x (wipe (start ["_law_found", "_law_due", "_law_a", "_law_b"] [.ref a, .ref c]) [2, 3]) H' fun σ2 H2 => wipe σ2 [2, 3] = wipe (start ["_law_found", "_law_due", "_law_a", "_law_b"] [.ref a, .ref c]) [2, 3] ∧
            tYes σ2 H2 fun b H3 => if b = true then tCall (spSame n) [] E0 (tCons (tVar 2) (tCons (tVar 3) tNil)) σ2 H3 fun y H4 => ∃ acc, H4 D = some (.lst acc) ∧ acc.length < sizeLine ∧ Nx (upd H4 D (.lst (acc ++ [y]))) else Nx H3) := by
      intro a c xs ys bs H1 Qr J K' s1 w hb hz hh hq D hD
      refine lc_it w (fun i H' => Same H1 H' ∧ H' D = some (.lst ((bs.take i).map V.bl))) ⟨Same.new hD, upd_same⟩ (fun i H' _ p => p.1) ?_ (fun H' p => hq D H' p.1 (by rw [p.2, hb, List.take_length]))
      rintro i x H2 H3 hi ⟨s2, hD2⟩ ⟨T', u, v, rfl, hT, rfl, hu, hv⟩
      have hD3 : (upd H2 T' (.tup [u, v])) D = some (.lst ((bs.take i).map V.bl)) := by
        rw [upd_ne (ne_of_none hD2 hT)]
        exact hD2
      have s3 : Same H1 (upd H2 T' (.tup [u, v])) := s2.trans (Same.new hT)
      have hib : i < bs.length := by omega
      refine ⟨T', _, rfl, SqT.of upd_same, rfl, _, _, rfl, _, _, rfl, rfl, rfl, ?_⟩
      show tCall (spSame n) [] E0 (tCons (tVar 2) (tCons (tVar 3) tNil)) _ _ _
      refine ⟨_, rfl, _, rfl, u, v, bs[i]'hib, rfl, ?_, fun H5 s5 => ⟨_, s5 _ _ hD3, ?_, ?_, ?_⟩⟩
      · exact (hh i u v _ hu hv (List.getElem?_eq_getElem hib)).on (s1.trans s3)
      · rw [List.length_map, List.length_take]
        exact Nat.lt_of_le_of_lt (Nat.min_le_left _ _) (Nat.lt_trans (by omega) (show 10000 < sizeLine by decide))
      · exact fun b o e => by
          have nb : b ≠ D := fun z => by
            rw [z, hD] at e
            cases e
          rw [upd_ne nb]
          exact s5 b o (s3 b o e)
      · rw [upd_same, List.take_succ, List.getElem?_eq_getElem hib, List.map_append]
        rfl
    -- isinstance(due, (list, tuple))
    have first : ∀ {l : Knd} {y : V}, KindOf H y l → True := fun _ => trivial
    cases h with
    | lst hx hy hl hb hz hh =>
      refine ⟨_, rfl, by show 2 ≤ sizeLine; decide, fun tp htp => ⟨_, _, _, _, _, _, rfl, upd_same, cls_all [.lst, .tup], (KindOf.lst ((on2 htp) _ _ hy)).ty, kit_any _ [.lst, .tup], ⟨_, rfl, iteT ?_⟩⟩⟩
      have hx' := on2 (o := .tup [V.ty "list", V.ty "tuple"]) htp _ _ hx
      have hy' := on2 (o := .tup [V.ty "list", V.ty "tuple"]) htp _ _ hy
      refine ⟨_, rfl, ⟨_, _, _, _, _, rfl, .ty _, (KindOf.lst hx').ty, kit_knd _ .lst, ⟨_, rfl, ⟨_, _, _, _, _, rfl, .ty _, (KindOf.lst hy').ty, kit_knd _ .lst, ⟨rfl, _, rfl, iteF ?_⟩⟩⟩⟩⟩
      refine ⟨_, rfl, ⟨_, _, _, _, _, rfl, .ty _, (KindOf.lst hx').ty, kit_knd _ .tup, ⟨_, rfl, ⟨_, _, _, _, _, rfl, .ty _, (KindOf.lst hy').ty, kit_knd _ .tup, ⟨rfl, _, rfl, iteF ?_⟩⟩⟩⟩⟩
      refine ⟨_, rfl, _, _, rfl, .inl (SqL.of hx'), _, rfl, _, _, rfl, .inl (SqL.of hy'), rfl, _, rfl, ite2 (fun _ => ?_) (fun ne => absurd (decide_eq_true (by rw [hl])) ne)⟩
      refine ⟨_, rfl, _, rfl, _, _, _, _, rfl, .inl ⟨SqL.of hx', SqL.of hy', whole (on2 htp) ?_ hb hz hh ?_⟩⟩
      · exact (walk_zip (by rw [hl, Nat.min_self])).mono (fun H2 s2 => ⟨SqL.of (s2 _ _ hx'), SqL.of (s2 _ _ hy')⟩) fun _ _ _ _ _ _ y => y
      · exact fun D H2 s2 hD => ⟨D, _, rfl, SqL.of hD, kk H2 ((on2 htp).trans s2)⟩
    | tup hx hy hl hb hz hh =>
      refine ⟨_, rfl, by show 2 ≤ sizeLine; decide, fun tp htp => ⟨_, _, _, _, _, _, rfl, upd_same, cls_all [.lst, .tup], (KindOf.tup ((on2 htp) _ _ hy)).ty, kit_any _ [.lst, .tup], ⟨_, rfl, iteT ?_⟩⟩⟩
      have hx' := on2 (o := .tup [V.ty "list", V.ty "tuple"]) htp _ _ hx
      have hy' := on2 (o := .tup [V.ty "list", V.ty "tuple"]) htp _ _ hy
      refine ⟨_, rfl, ⟨_, _, _, _, _, rfl, .ty _, (KindOf.tup hx').ty, kit_knd _ .lst, ⟨_, rfl, ⟨_, _, _, _, _, rfl, .ty _, (KindOf.tup hy').ty, kit_knd _ .lst, ⟨rfl, _, rfl, iteF ?_⟩⟩⟩⟩⟩
      refine ⟨_, rfl, ⟨_, _, _, _, _, rfl, .ty _, (KindOf.tup hx').ty, kit_knd _ .tup, ⟨_, rfl, ⟨_, _, _, _, _, rfl, .ty _, (KindOf.tup hy').ty, kit_knd _ .tup, ⟨rfl, _, rfl, iteF ?_⟩⟩⟩⟩⟩
      refine ⟨_, rfl, _, _, rfl, .inr (SqT.of hx'), _, rfl, _, _, rfl, .inr (SqT.of hy'), rfl, _, rfl, ite2 (fun _ => ?_) (fun ne => absurd (decide_eq_true (by rw [hl])) ne)⟩
      refine ⟨_, rfl, _, rfl, _, _, _, _, rfl, .inr ⟨SqT.of hx', SqT.of hy', whole (on2 htp) ?_ hb hz hh ?_⟩⟩
      · exact (walk_zipT (by rw [hl, Nat.min_self])).mono (fun H2 s2 => ⟨SqT.of (s2 _ _ hx'), SqT.of (s2 _ _ hy')⟩) fun _ _ _ _ _ _ y => y
      · exact fun D H2 s2 hD => ⟨D, _, rfl, SqL.of hD, kk H2 ((on2 htp).trans s2)⟩
    | lstN hx hy hl =>
      refine ⟨_, rfl, by show 2 ≤ sizeLine; decide, fun tp htp => ⟨_, _, _, _, _, _, rfl, upd_same, cls_all [.lst, .tup], (KindOf.lst ((on2 htp) _ _ hy)).ty, kit_any _ [.lst, .tup], ⟨_, rfl, iteT ?_⟩⟩⟩
      have hx' := on2 (o := .tup [V.ty "list", V.ty "tuple"]) htp _ _ hx
      have hy' := on2 (o := .tup [V.ty "list", V.ty "tuple"]) htp _ _ hy
      refine ⟨_, rfl, ⟨_, _, _, _, _, rfl, .ty _, (KindOf.lst hx').ty, kit_knd _ .lst, ⟨_, rfl, ⟨_, _, _, _, _, rfl, .ty _, (KindOf.lst hy').ty, kit_knd _ .lst, ⟨rfl, _, rfl, iteF ?_⟩⟩⟩⟩⟩
      refine ⟨_, rfl, ⟨_, _, _, _, _, rfl, .ty _, (KindOf.lst hx').ty, kit_knd _ .tup, ⟨_, rfl, ⟨_, _, _, _, _, rfl, .ty _, (KindOf.lst hy').ty, kit_knd _ .tup, ⟨rfl, _, rfl, iteF ?_⟩⟩⟩⟩⟩
      refine ⟨_, rfl, _, _, rfl, .inl (SqL.of hx'), _, rfl, _, _, rfl, .inl (SqL.of hy'), rfl, _, rfl, ite2 (fun e => absurd (Int.ofNat.inj (V.int.inj (of_decide_eq_true e))) hl) (fun _ => kk _ (on2 htp))⟩
    | tupN hx hy hl =>
      refine ⟨_, rfl, by show 2 ≤ sizeLine; decide, fun tp htp => ⟨_, _, _, _, _, _, rfl, upd_same, cls_all [.lst, .tup], (KindOf.tup ((on2 htp) _ _ hy)).ty, kit_any _ [.lst, .tup], ⟨_, rfl, iteT ?_⟩⟩⟩
      have hx' := on2 (o := .tup [V.ty "list", V.ty "tuple"]) htp _ _ hx
      have hy' := on2 (o := .tup [V.ty "list", V.ty "tuple"]) htp _ _ hy
      refine ⟨_, rfl, ⟨_, _, _, _, _, rfl, .ty _, (KindOf.tup hx').ty, kit_knd _ .lst, ⟨_, rfl, ⟨_, _, _, _, _, rfl, .ty _, (KindOf.tup hy').ty, kit_knd _ .lst, ⟨rfl, _, rfl, iteF ?_⟩⟩⟩⟩⟩
      refine ⟨_, rfl, ⟨_, _, _, _, _, rfl, .ty _, (KindOf.tup hx').ty, kit_knd _ .tup, ⟨_, rfl, ⟨_, _, _, _, _, rfl, .ty _, (KindOf.tup hy').ty, kit_knd _ .tup, ⟨rfl, _, rfl, iteF ?_⟩⟩⟩⟩⟩
      refine ⟨_, rfl, _, _, rfl, .inr (SqT.of hx'), _, rfl, _, _, rfl, .inr (SqT.of hy'), rfl, _, rfl, ite2 (fun e => absurd (Int.ofNat.inj (V.int.inj (of_decide_eq_true e))) hl) (fun _ => kk _ (on2 htp))⟩
    | @mis _ _ _ k l hx hy hl hk =>
      refine ⟨_, rfl, by show 2 ≤ sizeLine; decide, fun tp htp => ⟨_, _, _, _, _, _, rfl, upd_same, cls_all [.lst, .tup], (hy.on (on2 htp)).ty, kit_any _ [.lst, .tup], ⟨_, rfl, ?_⟩⟩⟩
      have hx' := hx.on (on2 (o := .tup [V.ty "list", V.ty "tuple"]) htp)
      have hy' := hy.on (on2 (o := .tup [V.ty "list", V.ty "tuple"]) htp)
      rcases hl with rfl | rfl
      · refine iteT ⟨_, rfl, ⟨_, _, _, _, _, rfl, .ty _, (hx').ty, kit_knd _ .lst, ⟨_, rfl, ⟨_, _, _, _, _, rfl, .ty _, (hy').ty, kit_knd _ .lst, ⟨rfl, _, rfl, ?_⟩⟩⟩⟩⟩
        cases k <;> first | exact absurd rfl hk | exact iteT (iteT (kk _ (on2 htp)))
      · refine iteT ⟨_, rfl, ⟨_, _, _, _, _, rfl, .ty _, (hx').ty, kit_knd _ .lst, ⟨_, rfl, ⟨_, _, _, _, _, rfl, .ty _, (hy').ty, kit_knd _ .lst, ⟨rfl, _, rfl, ?_⟩⟩⟩⟩⟩
        cases k <;> first | exact absurd rfl hk | exact iteT (iteT (kk _ (on2 htp))) | (refine iteF ⟨_, rfl, ⟨_, _, _, _, _, rfl, .ty _, (hx').ty, kit_knd _ .tup, ⟨_, rfl, ⟨_, _, _, _, _, rfl, .ty _, (hy').ty, kit_knd _ .tup, ⟨rfl, _, rfl, iteT (kk _ (on2 htp))⟩⟩⟩⟩⟩)
    | sc hx hy =>
      refine ⟨_, rfl, by show 2 ≤ sizeLine; decide, fun tp htp => ⟨_, _, _, _, _, _, rfl, upd_same, cls_all [.lst, .tup], (flat_knd hy).ty, kit_any _ [.lst, .tup], ⟨_, rfl, ?_⟩⟩⟩
      have s1 := on2 (o := .tup [V.ty "list", V.ty "tuple"]) htp
      cases y with
      | byt _ => cases hy
      | flt _ => cases hy
      | ref _ => cases hy
      | ty _ => cases hy
      | non =>
        refine iteF ⟨_, rfl, ⟨_, _, _, _, _, rfl, .ty _, (flat_knd hy).ty, kit_knd _ .int, ⟨_, rfl, iteF ?_⟩⟩⟩
        refine ⟨_, rfl, by show 4 ≤ sizeLine; decide, fun tq htq => ⟨_, _, _, _, _, _, rfl, upd_same, cls_all [.bl, .int, .lst, .tup], (flat_knd hx).ty, kit_any _ [.bl, .int, .lst, .tup], ⟨_, _, rfl, rfl, _, rfl, ?_⟩⟩⟩
        have s2 := s1.trans (Same.new (o := .tup [V.ty "bool", V.ty "int", V.ty "list", V.ty "tuple"]) htq)
        cases x with
        | byt _ => cases hx
        | flt _ => cases hx
        | ref _ => cases hx
        | ty _ => cases hx
        | non => exact iteT ⟨_, rfl, _, rfl, .inl ⟨rfl, kk _ s2⟩⟩
        | str _ => exact iteT ⟨_, rfl, _, rfl, .inl ⟨rfl, kk _ s2⟩⟩
        | bl _ => exact iteF (kk _ s2)
        | int _ => exact iteF (kk _ s2)
      | str _ =>
        refine iteF ⟨_, rfl, ⟨_, _, _, _, _, rfl, .ty _, (flat_knd hy).ty, kit_knd _ .int, ⟨_, rfl, iteF ?_⟩⟩⟩
        refine ⟨_, rfl, by show 4 ≤ sizeLine; decide, fun tq htq => ⟨_, _, _, _, _, _, rfl, upd_same, cls_all [.bl, .int, .lst, .tup], (flat_knd hx).ty, kit_any _ [.bl, .int, .lst, .tup], ⟨_, _, rfl, rfl, _, rfl, ?_⟩⟩⟩
        have s2 := s1.trans (Same.new (o := .tup [V.ty "bool", V.ty "int", V.ty "list", V.ty "tuple"]) htq)
        cases x with
        | byt _ => cases hx
        | flt _ => cases hx
        | ref _ => cases hx
        | ty _ => cases hx
        | non => exact iteT ⟨_, rfl, _, rfl, .inl ⟨rfl, kk _ s2⟩⟩
        | str _ => exact iteT ⟨_, rfl, _, rfl, .inl ⟨rfl, kk _ s2⟩⟩
        | bl _ => exact iteF (kk _ s2)
        | int _ => exact iteF (kk _ s2)
      | bl _ =>
        refine iteF ⟨_, rfl, ⟨_, _, _, _, _, rfl, .ty _, (flat_knd hy).ty, kit_knd _ .int, ⟨_, rfl, iteT ?_⟩⟩⟩
        refine ⟨_, rfl, ⟨_, _, _, _, _, rfl, .ty _, (flat_knd hx).ty, kit_knd _ .int, ⟨_, rfl, ?_⟩⟩⟩
        cases x with
        | byt _ => cases hx
        | flt _ => cases hx
        | ref _ => cases hx
        | ty _ => cases hx
        | non => exact iteF (kk _ s1)
        | str _ => exact iteF (kk _ s1)
        | bl _ => exact iteT ⟨_, rfl, ⟨_, _, _, _, _, rfl, .ty _, (flat_knd hx).ty, kit_knd _ .bl, ⟨_, rfl, ⟨_, _, _, _, _, rfl, .ty _, (flat_knd hy).ty, kit_knd _ .bl, ⟨rfl, _, rfl, iteT ⟨_, rfl, _, rfl, .inl ⟨rfl, kk _ s1⟩⟩⟩⟩⟩⟩⟩
        | int _ => exact iteT ⟨_, rfl, ⟨_, _, _, _, _, rfl, .ty _, (flat_knd hx).ty, kit_knd _ .bl, ⟨_, rfl, ⟨_, _, _, _, _, rfl, .ty _, (flat_knd hy).ty, kit_knd _ .bl, ⟨rfl, _, rfl, iteF (kk _ s1)⟩⟩⟩⟩⟩
      | int _ =>
        refine iteF ⟨_, rfl, ⟨_, _, _, _, _, rfl, .ty _, (flat_knd hy).ty, kit_knd _ .int, ⟨_, rfl, iteT ?_⟩⟩⟩
        refine ⟨_, rfl, ⟨_, _, _, _, _, rfl, .ty _, (flat_knd hx).ty, kit_knd _ .int, ⟨_, rfl, ?_⟩⟩⟩
        cases x with
        | byt _ => cases hx
        | flt _ => cases hx
        | ref _ => cases hx
        | ty _ => cases hx
        | non => exact iteF (kk _ s1)
        | str _ => exact iteF (kk _ s1)
        | int _ => exact iteT ⟨_, rfl, ⟨_, _, _, _, _, rfl, .ty _, (flat_knd hx).ty, kit_knd _ .bl, ⟨_, rfl, ⟨_, _, _, _, _, rfl, .ty _, (flat_knd hy).ty, kit_knd _ .bl, ⟨rfl, _, rfl, iteT ⟨_, rfl, _, rfl, .inl ⟨rfl, kk _ s1⟩⟩⟩⟩⟩⟩⟩
        | bl _ => exact iteT ⟨_, rfl, ⟨_, _, _, _, _, rfl, .ty _, (flat_knd hx).ty, kit_knd _ .bl, ⟨_, rfl, ⟨_, _, _, _, _, rfl, .ty _, (flat_knd hy).ty, kit_knd _ .bl, ⟨rfl, _, rfl, iteF (kk _ s1)⟩⟩⟩⟩⟩
    | dic h hk hf =>
      refine ⟨_, rfl, by show 2 ≤ sizeLine; decide, fun tp htp => ⟨_, _, _, _, _, _, rfl, upd_same, cls_all [.lst, .tup], (KindOf.dic ((on2 htp) _ _ h)).ty, kit_any _ [.lst, .tup], ⟨_, rfl, iteF ?_⟩⟩⟩
      have s1 := on2 (o := .tup [V.ty "list", V.ty "tuple"]) htp
      refine ⟨_, rfl, ⟨_, _, _, _, _, rfl, .ty _, (KindOf.dic (s1 _ _ h)).ty, kit_knd _ .int, ⟨_, rfl, iteF ?_⟩⟩⟩
      refine ⟨_, rfl, by show 4 ≤ sizeLine; decide, fun tq htq => ⟨_, _, _, _, _, _, rfl, upd_same, cls_all [.bl, .int, .lst, .tup], (KindOf.dic ((Same.new htq) _ _ (s1 _ _ h))).ty, kit_any _ [.bl, .int, .lst, .tup], ⟨_, _, rfl, rfl, _, rfl, iteT ?_⟩⟩⟩
      have s2 := s1.trans (Same.new (o := .tup [V.ty "bool", V.ty "int", V.ty "list", V.ty "tuple"]) htq)
      refine ⟨_, rfl, _, rfl, .inr ⟨1, by decide, .inr ⟨_, _, _, _, rfl, rfl, s2 _ _ h, s2 _ _ h, rfl, fun p hp => ⟨p.2, hk p hp, ?_⟩⟩, kk _ s2⟩⟩
      rcases hf p hp with q | ⟨c, q⟩
      · refine .inl ⟨rfl, ?_⟩
        generalize p.2 = v at q
        cases v <;> first | rfl | cases q
      · exact .inr (.inl ⟨c, q, q⟩)
    | @misS _ _ _ k hx hy hk =>
      refine ⟨_, rfl, by show 2 ≤ sizeLine; decide, fun tp htp => ⟨_, _, _, _, _, _, rfl, upd_same, cls_all [.lst, .tup], (flat_knd hy).ty, kit_any _ [.lst, .tup], ⟨_, rfl, ?_⟩⟩⟩
      have s1 := on2 (o := .tup [V.ty "list", V.ty "tuple"]) htp
      have hx' := hx.on s1
      have e1 : isi k .int = false := by rcases hk with rfl | rfl <;> rfl
      have e2 : isiAny k [.bl, .int, .lst, .tup] = true := by rcases hk with rfl | rfl <;> rfl
      cases y with
      | byt _ => cases hy
      | flt _ => cases hy
      | ref _ => cases hy
      | ty _ => cases hy
      | non =>
        refine iteF ⟨_, rfl, ⟨_, _, _, _, _, rfl, .ty _, (flat_knd hy).ty, kit_knd _ .int, ⟨_, rfl, iteF ?_⟩⟩⟩
        refine ⟨_, rfl, by show 4 ≤ sizeLine; decide, fun tq htq => ⟨_, _, _, _, _, _, rfl, upd_same, cls_all [.bl, .int, .lst, .tup], (hx'.on (Same.new htq)).ty, kit_any _ [.bl, .int, .lst, .tup], ⟨_, _, rfl, rfl, _, rfl, ?_⟩⟩⟩
        rw [e2]
        exact iteF (kk _ (s1.trans (Same.new htq)))
      | str _ =>
        refine iteF ⟨_, rfl, ⟨_, _, _, _, _, rfl, .ty _, (flat_knd hy).ty, kit_knd _ .int, ⟨_, rfl, iteF ?_⟩⟩⟩
        refine ⟨_, rfl, by show 4 ≤ sizeLine; decide, fun tq htq => ⟨_, _, _, _, _, _, rfl, upd_same, cls_all [.bl, .int, .lst, .tup], (hx'.on (Same.new htq)).ty, kit_any _ [.bl, .int, .lst, .tup], ⟨_, _, rfl, rfl, _, rfl, ?_⟩⟩⟩
        rw [e2]
        exact iteF (kk _ (s1.trans (Same.new htq)))
      | bl _ =>
        refine iteF ⟨_, rfl, ⟨_, _, _, _, _, rfl, .ty _, (flat_knd hy).ty, kit_knd _ .int, ⟨_, rfl, iteT ?_⟩⟩⟩
        refine ⟨_, rfl, ⟨_, _, _, _, _, rfl, .ty _, (hx').ty, kit_knd _ .int, ⟨_, rfl, ?_⟩⟩⟩
        rw [e1]
        exact iteF (kk _ s1)
      | int _ =>
        refine iteF ⟨_, rfl, ⟨_, _, _, _, _, rfl, .ty _, (flat_knd hy).ty, kit_knd _ .int, ⟨_, rfl, iteT ?_⟩⟩⟩
        refine ⟨_, rfl, ⟨_, _, _, _, _, rfl, .ty _, (hx').ty, kit_knd _ .int, ⟨_, rfl, ?_⟩⟩⟩
        rw [e1]
        exact iteF (kk _ s1)
end
end Sm
namespace Sm
open PySem PySem.Spec PyProof.Rows L2
abbrev s_law_any : Stmt := top 31
theorem sc_law_any : FnScope ["_law_state", "_law_deep", "_law_way", "_law_inner", "_law_k"] ["_law_state", "_law_deep"] (defScope s_law_any) := ⟨rfl, rfl, rfl, by decide +kernel, rfl, by decide +kernel, by decide +kernel⟩

/-- what _law_any gives: its lists, tuples and dicts stand at addresses of which G holds -/
inductive AnyD (G : Addr → Prop) (H : Hp) (L : Nat) : Nat → V → Prop
  | flat {n : Nat} {v : V} (h : flatV v = true) : AnyD G H L n v
  | lst {n : Nat} {a : Addr} {xs : List V} (g : G a) (h : H a = some (.lst xs)) (hl : xs.length ≤ L) (hx : ∀ v ∈ xs, AnyD G H L n v) : AnyD G H L (n + 1) (.ref a)
  | tup {n : Nat} {a : Addr} {xs : List V} (g : G a) (h : H a = some (.tup xs)) (hl : xs.length ≤ L) (hx : ∀ v ∈ xs, AnyD G H L n v) : AnyD G H L (n + 1) (.ref a)
  | dic {n : Nat} {a c : Addr} (g : G a) (h : H a = some (.dK [(.inr "inner", .ref c)])) : AnyD G H L (n + 1) (.ref a)
theorem AnyD.on {G G' : Addr → Prop} {H H' : Hp} {L : Nat} (e : ∀ a o, G a → H a = some o → G' a ∧ H' a = some o) {n : Nat} {v : V} (h : AnyD G H L n v) : AnyD G' H' L n v := by
  induction h with
  | flat h => exact .flat h
  | lst g h hl hx ih => exact .lst (e _ _ g h).1 (e _ _ g h).2 hl ih
  | tup g h hl hx ih => exact .tup (e _ _ g h).1 (e _ _ g h).2 hl ih
  | dic g h => exact .dic (e _ _ g h).1 (e _ _ g h).2
/-- a list grows by a text -/
theorem AnyD.app {G : Addr → Prop} {H : Hp} {L : Nat} {b : Addr} {ys : List V} {z : V} (hz : flatV z = true) (hb : H b = some (.lst ys)) {n : Nat} {v : V} (h : AnyD G H L n v) : AnyD G (upd H b (.lst (ys ++ [z]))) (L + 1) n v := by
  induction h with
  | flat h => exact .flat h
  | @lst n a xs g h hl hx ih =>
    by_cases e : a = b
    · subst e
      rw [hb] at h
      cases h
      refine .lst g upd_same (by rw [List.length_append]; exact Nat.succ_le_succ hl) fun v hv => ?_
      rcases List.mem_append.mp hv with q | q
      · exact ih v q
      · rw [List.mem_singleton.mp q]
        exact .flat hz
    · exact .lst g (by rw [upd_ne e]; exact h) (Nat.le_succ_of_le hl) ih
  | @tup n a xs g h hl hx ih =>
    have e : a ≠ b := ne_of h hb (by intro q; cases q)
    exact .tup g (by rw [upd_ne e]; exact h) (Nat.le_succ_of_le hl) ih
  | @dic n a c g h =>
    have e : a ≠ b := ne_of h hb (by intro q; cases q)
    exact .dic g (by rw [upd_ne e]; exact h)
theorem AnyD.more {G : Addr → Prop} {H : Hp} {L M : Nat} (hm : L ≤ M) {n : Nat} {v : V} (h : AnyD G H L n v) : AnyD G H M n v := by
  induction h with
  | flat h => exact .flat h
  | lst g h hl hx ih => exact .lst g h (Nat.le_trans hl hm) ih
  | tup g h hl hx ih => exact .tup g h (Nat.le_trans hl hm) ih
  | dic g h => exact .dic g h
theorem AnyD.up {G : Addr → Prop} {H : Hp} {L : Nat} {n : Nat} {v : V} (h : AnyD G H L n v) : ∀ m, n ≤ m → AnyD G H L m v := by
  induction h with
  | flat h => exact fun m _ => .flat h
  | lst g h hl hx ih =>
    intro m hm
    obtain ⟨m, rfl⟩ : ∃ k, m = k + 1 := ⟨m - 1, by omega⟩
    exact .lst g h hl fun v hv => ih v hv m (by omega)
  | tup g h hl hx ih =>
    intro m hm
    obtain ⟨m, rfl⟩ : ∃ k, m = k + 1 := ⟨m - 1, by omega⟩
    exact .tup g h hl fun v hv => ih v hv m (by omega)
  | dic g h =>
    intro m hm
    obtain ⟨m, rfl⟩ : ∃ k, m = k + 1 := ⟨m - 1, by omega⟩
    exact .dic g h
/-- told of itself: alike -/
theorem AnyD.same {G : Addr → Prop} {H : Hp} {L : Nat} {n : Nat} {v : V} (hL : L ≤ 10000) (h : AnyD G H L n v) : SameB H (n + 1) v v true := by
  have all1 : ∀ xs : List V, ((List.replicate xs.length true).all id) = true := fun xs => List.all_eq_true.mpr fun b hb => by rw [(List.mem_replicate.mp hb).2]; rfl
  have gen : ∀ {xs : List V} {m : Nat}, (∀ v ∈ xs, SameB H m v v true) → ∀ (i : Nat) (x y : V) (b : Bool), xs[i]? = some x → xs[i]? = some y → (List.replicate xs.length true)[i]? = some b → SameB H m x y b := fun {xs m} ih i x y b p q r => by
    rw [p] at q
    cases q
    have hb : b = true := (List.mem_replicate.mp (List.mem_of_getElem? r)).2
    rw [hb]
    exact ih x (List.mem_of_getElem? p)
  induction h with
  | @flat n v h =>
    have q := SameB.sc (H := H) (n := n) h h
    rw [decide_eq_true rfl] at q
    exact q
  | @lst n a xs g h hl hx ih =>
    have q := SameB.lst (n := n + 1) (bs := List.replicate xs.length true) h h rfl (by rw [List.length_replicate]) (Nat.le_trans hl hL) (gen ih)
    rw [all1] at q
    exact q
  | @tup n a xs g h hl hx ih =>
    have q := SameB.tup (n := n + 1) (bs := List.replicate xs.length true) h h rfl (by rw [List.length_replicate]) (Nat.le_trans hl hL) (gen ih)
    rw [all1] at q
    exact q
  | dic g h =>
    refine .dic h (fun p hp => ?_) fun p hp => ?_
    · rw [List.mem_singleton.mp hp]
      rfl
    · rw [List.mem_singleton.mp hp]
      exact .inr ⟨_, rfl⟩
def spAny : Nat → Sp
  | 0 => fun _ _ _ _ => False
  | n + 1 => fun vs H Q _ => ∃ p c : Addr, vs = [.ref p, .int (n : Int)] ∧ Dr H p c ∧ ∀ x H', Off p H H' → Dr H' p c → AnyD (fun a => H a = none) H' 2 n x → Q x H'
structure TxtA (mg : Str → Option Value) : Prop where
  range : mg "range" = none
  tuple : mg "tuple" = none
section
variable {P : Program} {w : World} {K : PySem.W.Frag} {mg : Str → Option Value} {base : Heap}
theorem fn_never {CX : CXT} {f : Addr} {fd : FuncData} {ps : List Str} : FnOk P w K mg base CX 0 f fd ps (fun _ _ _ _ => False) := ⟨fun _ _ _ _ h => h.elim, fun _ _ _ _ _ _ _ _ _ _ _ _ _ h => h.elim⟩
theorem ok_any (T : TxtA mg) {f : Addr} {fd : FuncData} {n : Nat} (F : FnP K "_law_any" s_law_any f fd) (c_law_take : Cal P w K mg base CX0 2 "_law_take" spTake) (c_law_one : Cal P w K mg base CX0 3 "_law_one" (spOne K)) (c_law_any : Cal P w K mg base CX0 (n + 3) "_law_any" (spAny n)) : FnOk P w K mg base CX0 (n + 4) f fd ["_law_state", "_law_deep"] (spAny (n + 1)) := by
  refine F.ok sc_law_any (fun vs H Q E h => ?_) (fun cdv A outer s H vs Q E hr h => ?_)
  · obtain ⟨p, c, rfl, _⟩ := h
    rfl
  · obtain ⟨p, c, rfl, D0, kk⟩ := h
    refine ⟨_, PSs.nox (pss_cut (ps_set (i := 2) sc_law_any.nd rfl (Or.inl rfl) (pe_c c_law_take hr (by first | decide | omega) (by rfl) (pa_cons (pv 0) (pa_cons (pe_ifExp (pt_cmpR op_gt (pv 1) pe_int (nomark _)) pe_int pe_int) pa_nil))))
  (pss_cons (ps_if (pt_cmpR op_lt (pv 2) pe_int (nomark _)) (pss_one (ps_ret (pe_ix (ix_listK (K := K)) (pe_lst (pa_cons (pe_c c_law_take hr (by first | decide | omega) (by rfl) (pa_cons (pv 0) (pa_cons (pe_op op_pow pe_int pe_int) pa_nil))) (pa_cons pe_bl (pa_cons pe_non (pa_cons (pe_c c_law_one hr (by first | decide | omega) (by rfl) (pa_cons (pv 0) (pa_cons (pe_lst (pa_cons pe_str (pa_cons pe_str (pa_cons pe_str (pa_cons pe_str pa_nil))))) pa_nil))) (pa_cons (pe_un un_neg pe_int) pa_nil)))))) (pv 2) (fun _ _ => rfl)))) pss_nil)
  (pss_cons (ps_setLc (i := 3) (own := [("_law_k", 4)]) (g := (gName 4)) rfl sc_law_any.nd rfl rfl (sw_true rfl rfl rfl (by decide +kernel)) (pi_range1 (by rfl) T.range (pa_cons (pe_c c_law_take hr (by first | decide | omega) (by rfl) (pa_cons (pv 0) (pa_cons pe_int pa_nil))) pa_nil)) (blkOk_by (own := [("_law_k", 4)]) (N := ["_law_state", "_law_deep", "_law_way", "_law_inner", "_law_k"]) (sc := defScope s_law_any) (by decide +kernel)) (fun _ _ _ _ _ => (pg_name (i := 4) sc_law_any.nd rfl (Or.inl rfl) (hf := Or.inr rfl))) (fun _ _ _ _ _ => pts_nil) (fun _ _ _ _ _ => (pe_c c_law_any hr (by first | decide | omega) (by rfl) (pa_cons (pv 0) (pa_cons (pe_op op_sub (pv 1) pe_int) pa_nil)))))
  (pss_one (ps_ret (pe_ix (ix_listK (K := K)) (pe_lst (pa_cons (pv 3) (pa_cons (pe_callTy (call_tupleK (K := K)) (by rfl) T.tuple (by decide +kernel) (pa_cons (pv 3) pa_nil)) (pa_cons (pe_disp (pps_cons pe_str (pv 3) pps_nil) (by rfl) (by rfl) (fun z => by cases z) (by decide)) pa_nil)))) (pe_op op_sub (pv 2) pe_int) (fun _ _ => rfl))))))), ?_⟩
    -- way = take(state, 8 if deep > 0 else 5)
    refine ⟨fun σ' H' => ∃ d : Int, σ' = [some (.ref p), some (.int (n : Int)), some (.int d), none, none] ∧ 0 ≤ d ∧ d < 8 ∧ (5 ≤ d → 0 < n) ∧ Off p H H' ∧ Dr H' p c, ⟨_, rfl, _, rfl, _, _, rfl, rfl, _, rfl, ite2 (fun hc => ?_) (fun hc => ?_)⟩, ?_⟩
    · have c2 := of_decide_eq_true hc
      exact ⟨p, c, 8, rfl, D0, by decide, by decide, fun d H1 d0 d1 o1 D1 => ⟨d, rfl, d0, d1, fun _ => by omega, o1, D1⟩⟩
    · exact ⟨p, c, 5, rfl, D0, by decide, by decide, fun d H1 d0 d1 o1 D1 => ⟨d, rfl, d0, by omega, fun _ => by omega, o1, D1⟩⟩
    rintro σ' H1 ⟨d, rfl, d0, d8, dn, o1, D1⟩
    refine ⟨_, rfl, _, _, rfl, rfl, _, rfl, ite2 (fun hc => ?_) (fun hc => ?_)⟩
    · -- return [take(state, 10 ** 9), True, None, one(state, [..]), -1][way]
      have d5 := of_decide_eq_true hc
      refine ⟨_, rfl, _, _, rfl, rfl, ⟨by decide, by decide, by decide⟩, p, c, _, rfl, D1, by decide, by decide, fun e H2 _ _ o2 D2 => ?_⟩
      refine ⟨_, rfl, by show 4 ≤ sizeLine; decide, fun a ha => ?_⟩
      have nap : a ≠ p := D2.ne ha
      refine ⟨p, c, a, _, rfl, D2.new ha, SqL.of upd_same, nap, by simp, by decide, fun x H3 hx o3 D3 => ?_⟩
      refine ⟨_, rfl, by show 5 ≤ sizeLine; decide, fun l hl => ?_⟩
      obtain ⟨i, rfl⟩ := Int.eq_ofNat_of_zero_le d0
      have i5 : i < 5 := by omega
      have hxs : flatV x = true := by
        simp only [List.mem_cons, List.not_mem_nil, or_false] at hx
        rcases hx with rfl | rfl | rfl | rfl <;> rfl
      have hall : ∀ v ∈ [V.int e, V.bl true, V.non, x, V.int (-1)], flatV v = true := by
        intro v hv
        simp only [List.mem_cons, List.not_mem_nil, or_false] at hv
        rcases hv with rfl | rfl | rfl | rfl | rfl <;> first | rfl | exact hxs
      refine ⟨_, rfl, l, _, _, ([V.int e, V.bl true, V.non, x, V.int (-1)])[i]'i5, rfl, rfl, SqL.of upd_same, atI_nat (List.getElem?_eq_getElem i5), kk _ _ ?_ ?_ (.flat (hall _ (List.getElem_mem i5)))⟩
      · exact (((o1.trans o2).trans (Off.new ha)).trans o3).trans (Off.new hl)
      · exact D3.new hl
    · -- inner = [any(state, deep - 1) for k in range(take(state, 3))]
      have d5 : 5 ≤ d := by
        have := mt decide_eq_true hc
        omega
      obtain ⟨m, rfl⟩ : ∃ m, n = m + 1 := ⟨n - 1, by have := dn d5; omega⟩
      refine ⟨_, rfl, p, c, _, rfl, D1, by decide, by decide, fun e H2 e0 e1 o2 D2 => ⟨e, rfl, by omega, by omega, fun L hL => lc_range (lo := 0) (n := e.toNat) (fun i H' => ∃ acc : List V, H' L = some (.lst acc) ∧ acc.length = i ∧ Off p H2 H' ∧ Dr H' p c ∧ ∀ v ∈ acc, AnyD (fun a => H2 a = none ∧ a ≠ L) H' 2 m v) ?_ ?_ ?_⟩⟩
      · exact ⟨[], upd_same, rfl, Off.new hL, D2.new hL, fun v hv => by cases hv⟩
      · rintro i H' hi ⟨acc, hA, hl, o3, D3, hall⟩
        have e2 : (((m + 1 : Nat) : Int) - 1) = (m : Int) := by omega
        have nLp : L ≠ p := D2.ne hL
        refine ⟨rfl, ?_⟩
        show tCall (spAny (m + 1)) [] E0 (tCons (tVar 0) (tCons (tOp (rI0 fun i j => V.int (i - j)) (tVar 1) (tC (V.int 1))) tNil)) _ _ _
        refine ⟨_, rfl, _, rfl, _, _, rfl, rfl, p, c, by show [V.ref p, V.int (((m + 1 : Nat) : Int) - 1)] = _; rw [e2], D3, fun x H4 o4 D4 hx => ⟨acc, o4 _ _ nLp hA, ?_, acc ++ [x], upd_same, by rw [List.length_append, hl]; rfl, ?_, ?_, ?_⟩⟩
        · exact Nat.lt_of_lt_of_le (show acc.length < 100 by omega) (by decide)
        · exact fun b o nb e => by
            have nbL : b ≠ L := fun z => by rw [z, hL] at e; cases e
            rw [upd_ne nbL]
            exact o4 b o nb (o3 b o nb e)
        · exact D4.upd nLp (D2.nec hL)
        · intro v hv
          have keep : ∀ {G : Addr → Prop} {u : V}, AnyD G H4 2 m u → (∀ a, G a → H2 a = none ∧ a ≠ L) → AnyD (fun a => H2 a = none ∧ a ≠ L) (upd H4 L (.lst (acc ++ [x]))) 2 m u := fun hu hg => hu.on fun a o g e => ⟨hg a g, by rw [upd_ne (hg a g).2]; exact e⟩
          rcases List.mem_append.mp hv with q | q
          · refine keep ((hall v q).on (G' := fun a => H2 a = none ∧ a ≠ L) fun a o g e => ⟨g, o4 a o (D2.ne g.1) e⟩) fun a g => g
          · rw [List.mem_singleton.mp q]
            refine keep hx fun a g => ⟨?_, ?_⟩
            · cases z : H2 a with
              | none => rfl
              | some o =>
                by_cases hap : a = p
                · rw [hap] at g
                  obtain ⟨o', e'⟩ := D3.some
                  rw [e'] at g
                  cases g
                · rw [o3 a o hap z] at g
                  cases g
            · rintro rfl
              rw [hA] at g
              cases g
      · rintro H' ⟨acc, hA, hl, o3, D3, hall⟩
        have nLp : L ≠ p := D2.ne hL
        have o12 : Off p H H2 := o1.trans o2
        have fr : ∀ a, H2 a = none → H a = none := fun a h => o12.free (D2.ne h) h
        -- return [inner, tuple(inner), {"inner": inner}][way - 5]
        refine ⟨_, rfl, _, rfl, L, acc, rfl, .inl ⟨SqL.of hA, fun t ht => ?_⟩⟩
        refine fun q hq => ⟨_, rfl, upd_same, [(.inr "inner", .ref L)], rfl, by show 1 ≤ 15; decide, ?_⟩
        refine ⟨by show 3 ≤ sizeLine; decide, fun l hl2 => ?_⟩
        rw [upd_upd] at hl2 ⊢
        have nLt : L ≠ t := ne_of_none hA ht
        have hA1 : (upd H' t (.tup acc)) L = some (.lst acc) := by rw [upd_ne nLt]; exact hA
        have nLq : L ≠ q := ne_of_none hA1 hq
        have ntq : t ≠ q := ne_of_none upd_same hq
        have hq0 : H' q = none := by rw [upd_ne ntq.symm] at hq; exact hq
        have hA2 : (upd (upd H' t (.tup acc)) q (.dK (mergeK [] [(.inr "inner", .ref L)]))) L = some (.lst acc) := by rw [upd_ne nLq]; exact hA1
        have ht2 : (upd (upd H' t (.tup acc)) q (.dK (mergeK [] [(.inr "inner", .ref L)]))) t = some (.tup acc) := by rw [upd_ne ntq]; exact upd_same
        have nLl : L ≠ l := ne_of_none hA2 hl2
        have ntl : t ≠ l := ne_of_none ht2 hl2
        have nql : q ≠ l := ne_of_none upd_same hl2
        have s3 : Same H' (upd (upd (upd H' t (.tup acc)) q (.dK (mergeK [] [(.inr "inner", .ref L)]))) l (.lst [V.ref L, V.ref t, V.ref q])) := ((Same.new ht).trans (Same.new hq)).trans (Same.new hl2)
        have hacc : ∀ v ∈ acc, AnyD (fun a => H a = none) (upd (upd (upd H' t (.tup acc)) q (.dK (mergeK [] [(.inr "inner", .ref L)]))) l (.lst [V.ref L, V.ref t, V.ref q])) 2 m v :=
          fun v hv => (hall v hv).on fun a o g e => ⟨fr a g.1, s3 a o e⟩
        have hlen : acc.length ≤ 2 := by omega
        have z : ∀ a, H' a = none → a ≠ p → H a = none := fun a h n => (o12.trans o3).free n h
        have g0 : H L = none := fr L hL
        have gt : H t = none := z t ht (D3.ne ht)
        have gq : H q = none := z q hq0 (D3.ne hq0)
        obtain ⟨i, hi⟩ : ∃ i : Nat, d = (i : Int) + 5 := ⟨(d - 5).toNat, by omega⟩
        have i3 : i < 3 := by omega
        have ed : d - 5 = (i : Int) := by omega
        have items : ∀ v ∈ [V.ref L, V.ref t, V.ref q], AnyD (fun a => H a = none) (upd (upd (upd H' t (.tup acc)) q (.dK (mergeK [] [(.inr "inner", .ref L)]))) l (.lst [V.ref L, V.ref t, V.ref q])) 2 (m + 1) v := by
          intro v hv
          simp only [List.mem_cons, List.not_mem_nil, or_false] at hv
          rcases hv with rfl | rfl | rfl
          · exact .lst g0 (by rw [upd_ne nLl]; exact hA2) hlen hacc
          · exact .tup gt (by rw [upd_ne ntl]; exact ht2) hlen hacc
          · exact .dic (c := L) gq (by rw [upd_ne nql, upd_same]; rfl)
        refine ⟨_, rfl, _, _, rfl, rfl, l, _, _, ([V.ref L, V.ref t, V.ref q])[i]'i3, rfl, rfl, SqL.of upd_same, by rw [ed]; exact atI_nat (List.getElem?_eq_getElem i3), kk _ _ ((o12.trans o3).trans (Sm.Same.off s3)) (D3.same s3) (items _ (List.getElem_mem i3))⟩
end
end Sm
namespace Sm
open PySem PySem.Spec PyProof.Rows L2
theorem rev_vals : ∀ {vs : List V} {us : List Value}, Vals vs us → Vals vs.reverse us.reverse
  | _, _, .nil => .nil
  | _, _, .cons r t => by
    rw [List.reverse_cons, List.reverse_cons]
    exact (rev_vals t).append (.cons r .nil)
section
variable {P : Program} {w : World} {K : PySem.W.Frag} {mg : Str → Option Value} {base : Heap}
def ones : List (Str × Str) := [("BadField", "index"), ("UnknownField", "field"), ("BadWord", "word"), ("BadKind", "index"), ("UnknownKind", "name"), ("BadResource", "resource"), ("BadCount", "count"), ("BadTag", "thing"), ("BadValue", "value"), ("Unlabelled", "number"), ("BadFlag", "flag"), ("BadCopies", "index"), ("UnknownTemplate", "name"), ("BadVariable", "variable"), ("BadStep", "index"), ("BadText", "line")]

abbrev sBadField_init : Stmt := inClass (top 2) 0
theorem scBadField_init : FnScope ["self", "index"] ["self", "index"] (defScope sBadField_init) := ⟨rfl, rfl, rfl, by decide +kernel, rfl, by decide +kernel, by decide +kernel⟩

theorem ok_BadField_init {f : Addr} {fd : FuncData} (F : FunD K "__init__" "BadField.__init__" (defArgs sBadField_init) (defBody sBadField_init) (defScope sBadField_init) [] [] f fd) : FnOk P w K mg base CX0 1 f fd ["self", "index"] (spI1 K (He.ga K "BadField") "index") :=
  F.ok scBadField_init (fun vs H Q E h => by
    obtain ⟨a, v, rfl, _⟩ := h
    rfl) fun cdv A outer s H vs Q E hr h => ⟨_, PSs.nox (pss_one (ps_ost (pv 0) (pv 1))), read_I1 rfl h⟩
theorem kw_BadField_init {f : Addr} {fd : FuncData} (F : FunD K "__init__" "BadField.__init__" (defArgs sBadField_init) (defBody sBadField_init) (defScope sBadField_init) [] [] f fd) : KBn K fd ["self", "index"] 1 ["index"] (fun us ws => us ++ ws) gK1 :=
  kbn_of F (fun _ _ _ _ _ _ us ws h1 h2 => match us, ws, h1, h2 with | [_], [_], _, _ => rfl) fun a b => a.append b
theorem pl_BadField_init {f : Addr} {fd : FuncData} (F : FunD K "__init__" "BadField.__init__" (defArgs sBadField_init) (defBody sBadField_init) (defScope sBadField_init) [] [] f fd) : KBn K fd ["self", "index"] 2 [] (fun us ws => us ++ ws) gK1 :=
  kbn_of F (fun _ _ _ _ _ _ us ws h1 h2 => match us, ws, h1, h2 with | [_, _], [], _, _ => rfl) fun a b => a.append b

abbrev sUnknownField_init : Stmt := inClass (top 3) 0
theorem scUnknownField_init : FnScope ["self", "field"] ["self", "field"] (defScope sUnknownField_init) := ⟨rfl, rfl, rfl, by decide +kernel, rfl, by decide +kernel, by decide +kernel⟩

theorem ok_UnknownField_init {f : Addr} {fd : FuncData} (F : FunD K "__init__" "UnknownField.__init__" (defArgs sUnknownField_init) (defBody sUnknownField_init) (defScope sUnknownField_init) [] [] f fd) : FnOk P w K mg base CX0 1 f fd ["self", "field"] (spI1 K (He.ga K "UnknownField") "field") :=
  F.ok scUnknownField_init (fun vs H Q E h => by
    obtain ⟨a, v, rfl, _⟩ := h
    rfl) fun cdv A outer s H vs Q E hr h => ⟨_, PSs.nox (pss_one (ps_ost (pv 0) (pv 1))), read_I1 rfl h⟩
theorem kw_UnknownField_init {f : Addr} {fd : FuncData} (F : FunD K "__init__" "UnknownField.__init__" (defArgs sUnknownField_init) (defBody sUnknownField_init) (defScope sUnknownField_init) [] [] f fd) : KBn K fd ["self", "field"] 1 ["field"] (fun us ws => us ++ ws) gK1 :=
  kbn_of F (fun _ _ _ _ _ _ us ws h1 h2 => match us, ws, h1, h2 with | [_], [_], _, _ => rfl) fun a b => a.append b
theorem pl_UnknownField_init {f : Addr} {fd : FuncData} (F : FunD K "__init__" "UnknownField.__init__" (defArgs sUnknownField_init) (defBody sUnknownField_init) (defScope sUnknownField_init) [] [] f fd) : KBn K fd ["self", "field"] 2 [] (fun us ws => us ++ ws) gK1 :=
  kbn_of F (fun _ _ _ _ _ _ us ws h1 h2 => match us, ws, h1, h2 with | [_, _], [], _, _ => rfl) fun a b => a.append b

abbrev sBadWord_init : Stmt := inClass (top 4) 0
theorem scBadWord_init : FnScope ["self", "word"] ["self", "word"] (defScope sBadWord_init) := ⟨rfl, rfl, rfl, by decide +kernel, rfl, by decide +kernel, by decide +kernel⟩

theorem ok_BadWord_init {f : Addr} {fd : FuncData} (F : FunD K "__init__" "BadWord.__init__" (defArgs sBadWord_init) (defBody sBadWord_init) (defScope sBadWord_init) [] [] f fd) : FnOk P w K mg base CX0 1 f fd ["self", "word"] (spI1 K (He.ga K "BadWord") "word") :=
  F.ok scBadWord_init (fun vs H Q E h => by
    obtain ⟨a, v, rfl, _⟩ := h
    rfl) fun cdv A outer s H vs Q E hr h => ⟨_, PSs.nox (pss_one (ps_ost (pv 0) (pv 1))), read_I1 rfl h⟩
theorem kw_BadWord_init {f : Addr} {fd : FuncData} (F : FunD K "__init__" "BadWord.__init__" (defArgs sBadWord_init) (defBody sBadWord_init) (defScope sBadWord_init) [] [] f fd) : KBn K fd ["self", "word"] 1 ["word"] (fun us ws => us ++ ws) gK1 :=
  kbn_of F (fun _ _ _ _ _ _ us ws h1 h2 => match us, ws, h1, h2 with | [_], [_], _, _ => rfl) fun a b => a.append b
theorem pl_BadWord_init {f : Addr} {fd : FuncData} (F : FunD K "__init__" "BadWord.__init__" (defArgs sBadWord_init) (defBody sBadWord_init) (defScope sBadWord_init) [] [] f fd) : KBn K fd ["self", "word"] 2 [] (fun us ws => us ++ ws) gK1 :=
  kbn_of F (fun _ _ _ _ _ _ us ws h1 h2 => match us, ws, h1, h2 with | [_, _], [], _, _ => rfl) fun a b => a.append b

abbrev sBadKind_init : Stmt := inClass (top 5) 0
theorem scBadKind_init : FnScope ["self", "index"] ["self", "index"] (defScope sBadKind_init) := ⟨rfl, rfl, rfl, by decide +kernel, rfl, by decide +kernel, by decide +kernel⟩

theorem ok_BadKind_init {f : Addr} {fd : FuncData} (F : FunD K "__init__" "BadKind.__init__" (defArgs sBadKind_init) (defBody sBadKind_init) (defScope sBadKind_init) [] [] f fd) : FnOk P w K mg base CX0 1 f fd ["self", "index"] (spI1 K (He.ga K "BadKind") "index") :=
  F.ok scBadKind_init (fun vs H Q E h => by
    obtain ⟨a, v, rfl, _⟩ := h
    rfl) fun cdv A outer s H vs Q E hr h => ⟨_, PSs.nox (pss_one (ps_ost (pv 0) (pv 1))), read_I1 rfl h⟩
theorem kw_BadKind_init {f : Addr} {fd : FuncData} (F : FunD K "__init__" "BadKind.__init__" (defArgs sBadKind_init) (defBody sBadKind_init) (defScope sBadKind_init) [] [] f fd) : KBn K fd ["self", "index"] 1 ["index"] (fun us ws => us ++ ws) gK1 :=
  kbn_of F (fun _ _ _ _ _ _ us ws h1 h2 => match us, ws, h1, h2 with | [_], [_], _, _ => rfl) fun a b => a.append b
theorem pl_BadKind_init {f : Addr} {fd : FuncData} (F : FunD K "__init__" "BadKind.__init__" (defArgs sBadKind_init) (defBody sBadKind_init) (defScope sBadKind_init) [] [] f fd) : KBn K fd ["self", "index"] 2 [] (fun us ws => us ++ ws) gK1 :=
  kbn_of F (fun _ _ _ _ _ _ us ws h1 h2 => match us, ws, h1, h2 with | [_, _], [], _, _ => rfl) fun a b => a.append b

abbrev sUnknownKind_init : Stmt := inClass (top 6) 0
theorem scUnknownKind_init : FnScope ["self", "name"] ["self", "name"] (defScope sUnknownKind_init) := ⟨rfl, rfl, rfl, by decide +kernel, rfl, by decide +kernel, by decide +kernel⟩

theorem ok_UnknownKind_init {f : Addr} {fd : FuncData} (F : FunD K "__init__" "UnknownKind.__init__" (defArgs sUnknownKind_init) (defBody sUnknownKind_init) (defScope sUnknownKind_init) [] [] f fd) : FnOk P w K mg base CX0 1 f fd ["self", "name"] (spI1 K (He.ga K "UnknownKind") "name") :=
  F.ok scUnknownKind_init (fun vs H Q E h => by
    obtain ⟨a, v, rfl, _⟩ := h
    rfl) fun cdv A outer s H vs Q E hr h => ⟨_, PSs.nox (pss_one (ps_ost (pv 0) (pv 1))), read_I1 rfl h⟩
theorem kw_UnknownKind_init {f : Addr} {fd : FuncData} (F : FunD K "__init__" "UnknownKind.__init__" (defArgs sUnknownKind_init) (defBody sUnknownKind_init) (defScope sUnknownKind_init) [] [] f fd) : KBn K fd ["self", "name"] 1 ["name"] (fun us ws => us ++ ws) gK1 :=
  kbn_of F (fun _ _ _ _ _ _ us ws h1 h2 => match us, ws, h1, h2 with | [_], [_], _, _ => rfl) fun a b => a.append b
theorem pl_UnknownKind_init {f : Addr} {fd : FuncData} (F : FunD K "__init__" "UnknownKind.__init__" (defArgs sUnknownKind_init) (defBody sUnknownKind_init) (defScope sUnknownKind_init) [] [] f fd) : KBn K fd ["self", "name"] 2 [] (fun us ws => us ++ ws) gK1 :=
  kbn_of F (fun _ _ _ _ _ _ us ws h1 h2 => match us, ws, h1, h2 with | [_, _], [], _, _ => rfl) fun a b => a.append b

abbrev sBadResource_init : Stmt := inClass (top 7) 0
theorem scBadResource_init : FnScope ["self", "resource"] ["self", "resource"] (defScope sBadResource_init) := ⟨rfl, rfl, rfl, by decide +kernel, rfl, by decide +kernel, by decide +kernel⟩

theorem ok_BadResource_init {f : Addr} {fd : FuncData} (F : FunD K "__init__" "BadResource.__init__" (defArgs sBadResource_init) (defBody sBadResource_init) (defScope sBadResource_init) [] [] f fd) : FnOk P w K mg base CX0 1 f fd ["self", "resource"] (spI1 K (He.ga K "BadResource") "resource") :=
  F.ok scBadResource_init (fun vs H Q E h => by
    obtain ⟨a, v, rfl, _⟩ := h
    rfl) fun cdv A outer s H vs Q E hr h => ⟨_, PSs.nox (pss_one (ps_ost (pv 0) (pv 1))), read_I1 rfl h⟩
theorem kw_BadResource_init {f : Addr} {fd : FuncData} (F : FunD K "__init__" "BadResource.__init__" (defArgs sBadResource_init) (defBody sBadResource_init) (defScope sBadResource_init) [] [] f fd) : KBn K fd ["self", "resource"] 1 ["resource"] (fun us ws => us ++ ws) gK1 :=
  kbn_of F (fun _ _ _ _ _ _ us ws h1 h2 => match us, ws, h1, h2 with | [_], [_], _, _ => rfl) fun a b => a.append b
theorem pl_BadResource_init {f : Addr} {fd : FuncData} (F : FunD K "__init__" "BadResource.__init__" (defArgs sBadResource_init) (defBody sBadResource_init) (defScope sBadResource_init) [] [] f fd) : KBn K fd ["self", "resource"] 2 [] (fun us ws => us ++ ws) gK1 :=
  kbn_of F (fun _ _ _ _ _ _ us ws h1 h2 => match us, ws, h1, h2 with | [_, _], [], _, _ => rfl) fun a b => a.append b

abbrev sBadCount_init : Stmt := inClass (top 8) 0
theorem scBadCount_init : FnScope ["self", "count"] ["self", "count"] (defScope sBadCount_init) := ⟨rfl, rfl, rfl, by decide +kernel, rfl, by decide +kernel, by decide +kernel⟩

theorem ok_BadCount_init {f : Addr} {fd : FuncData} (F : FunD K "__init__" "BadCount.__init__" (defArgs sBadCount_init) (defBody sBadCount_init) (defScope sBadCount_init) [] [] f fd) : FnOk P w K mg base CX0 1 f fd ["self", "count"] (spI1 K (He.ga K "BadCount") "count") :=
  F.ok scBadCount_init (fun vs H Q E h => by
    obtain ⟨a, v, rfl, _⟩ := h
    rfl) fun cdv A outer s H vs Q E hr h => ⟨_, PSs.nox (pss_one (ps_ost (pv 0) (pv 1))), read_I1 rfl h⟩
theorem kw_BadCount_init {f : Addr} {fd : FuncData} (F : FunD K "__init__" "BadCount.__init__" (defArgs sBadCount_init) (defBody sBadCount_init) (defScope sBadCount_init) [] [] f fd) : KBn K fd ["self", "count"] 1 ["count"] (fun us ws => us ++ ws) gK1 :=
  kbn_of F (fun _ _ _ _ _ _ us ws h1 h2 => match us, ws, h1, h2 with | [_], [_], _, _ => rfl) fun a b => a.append b
theorem pl_BadCount_init {f : Addr} {fd : FuncData} (F : FunD K "__init__" "BadCount.__init__" (defArgs sBadCount_init) (defBody sBadCount_init) (defScope sBadCount_init) [] [] f fd) : KBn K fd ["self", "count"] 2 [] (fun us ws => us ++ ws) gK1 :=
  kbn_of F (fun _ _ _ _ _ _ us ws h1 h2 => match us, ws, h1, h2 with | [_, _], [], _, _ => rfl) fun a b => a.append b

abbrev sBadTag_init : Stmt := inClass (top 9) 0
theorem scBadTag_init : FnScope ["self", "thing"] ["self", "thing"] (defScope sBadTag_init) := ⟨rfl, rfl, rfl, by decide +kernel, rfl, by decide +kernel, by decide +kernel⟩

theorem ok_BadTag_init {f : Addr} {fd : FuncData} (F : FunD K "__init__" "BadTag.__init__" (defArgs sBadTag_init) (defBody sBadTag_init) (defScope sBadTag_init) [] [] f fd) : FnOk P w K mg base CX0 1 f fd ["self", "thing"] (spI1 K (He.ga K "BadTag") "thing") :=
  F.ok scBadTag_init (fun vs H Q E h => by
    obtain ⟨a, v, rfl, _⟩ := h
    rfl) fun cdv A outer s H vs Q E hr h => ⟨_, PSs.nox (pss_one (ps_ost (pv 0) (pv 1))), read_I1 rfl h⟩
theorem kw_BadTag_init {f : Addr} {fd : FuncData} (F : FunD K "__init__" "BadTag.__init__" (defArgs sBadTag_init) (defBody sBadTag_init) (defScope sBadTag_init) [] [] f fd) : KBn K fd ["self", "thing"] 1 ["thing"] (fun us ws => us ++ ws) gK1 :=
  kbn_of F (fun _ _ _ _ _ _ us ws h1 h2 => match us, ws, h1, h2 with | [_], [_], _, _ => rfl) fun a b => a.append b
theorem pl_BadTag_init {f : Addr} {fd : FuncData} (F : FunD K "__init__" "BadTag.__init__" (defArgs sBadTag_init) (defBody sBadTag_init) (defScope sBadTag_init) [] [] f fd) : KBn K fd ["self", "thing"] 2 [] (fun us ws => us ++ ws) gK1 :=
  kbn_of F (fun _ _ _ _ _ _ us ws h1 h2 => match us, ws, h1, h2 with | [_, _], [], _, _ => rfl) fun a b => a.append b

abbrev sBadValue_init : Stmt := inClass (top 10) 0
theorem scBadValue_init : FnScope ["self", "value"] ["self", "value"] (defScope sBadValue_init) := ⟨rfl, rfl, rfl, by decide +kernel, rfl, by decide +kernel, by decide +kernel⟩

theorem ok_BadValue_init {f : Addr} {fd : FuncData} (F : FunD K "__init__" "BadValue.__init__" (defArgs sBadValue_init) (defBody sBadValue_init) (defScope sBadValue_init) [] [] f fd) : FnOk P w K mg base CX0 1 f fd ["self", "value"] (spI1 K (He.ga K "BadValue") "value") :=
  F.ok scBadValue_init (fun vs H Q E h => by
    obtain ⟨a, v, rfl, _⟩ := h
    rfl) fun cdv A outer s H vs Q E hr h => ⟨_, PSs.nox (pss_one (ps_ost (pv 0) (pv 1))), read_I1 rfl h⟩
theorem kw_BadValue_init {f : Addr} {fd : FuncData} (F : FunD K "__init__" "BadValue.__init__" (defArgs sBadValue_init) (defBody sBadValue_init) (defScope sBadValue_init) [] [] f fd) : KBn K fd ["self", "value"] 1 ["value"] (fun us ws => us ++ ws) gK1 :=
  kbn_of F (fun _ _ _ _ _ _ us ws h1 h2 => match us, ws, h1, h2 with | [_], [_], _, _ => rfl) fun a b => a.append b
theorem pl_BadValue_init {f : Addr} {fd : FuncData} (F : FunD K "__init__" "BadValue.__init__" (defArgs sBadValue_init) (defBody sBadValue_init) (defScope sBadValue_init) [] [] f fd) : KBn K fd ["self", "value"] 2 [] (fun us ws => us ++ ws) gK1 :=
  kbn_of F (fun _ _ _ _ _ _ us ws h1 h2 => match us, ws, h1, h2 with | [_, _], [], _, _ => rfl) fun a b => a.append b

abbrev sUnlabelled_init : Stmt := inClass (top 13) 0
theorem scUnlabelled_init : FnScope ["self", "number"] ["self", "number"] (defScope sUnlabelled_init) := ⟨rfl, rfl, rfl, by decide +kernel, rfl, by decide +kernel, by decide +kernel⟩

theorem ok_Unlabelled_init {f : Addr} {fd : FuncData} (F : FunD K "__init__" "Unlabelled.__init__" (defArgs sUnlabelled_init) (defBody sUnlabelled_init) (defScope sUnlabelled_init) [] [] f fd) : FnOk P w K mg base CX0 1 f fd ["self", "number"] (spI1 K (He.ga K "Unlabelled") "number") :=
  F.ok scUnlabelled_init (fun vs H Q E h => by
    obtain ⟨a, v, rfl, _⟩ := h
    rfl) fun cdv A outer s H vs Q E hr h => ⟨_, PSs.nox (pss_one (ps_ost (pv 0) (pv 1))), read_I1 rfl h⟩
theorem kw_Unlabelled_init {f : Addr} {fd : FuncData} (F : FunD K "__init__" "Unlabelled.__init__" (defArgs sUnlabelled_init) (defBody sUnlabelled_init) (defScope sUnlabelled_init) [] [] f fd) : KBn K fd ["self", "number"] 1 ["number"] (fun us ws => us ++ ws) gK1 :=
  kbn_of F (fun _ _ _ _ _ _ us ws h1 h2 => match us, ws, h1, h2 with | [_], [_], _, _ => rfl) fun a b => a.append b
theorem pl_Unlabelled_init {f : Addr} {fd : FuncData} (F : FunD K "__init__" "Unlabelled.__init__" (defArgs sUnlabelled_init) (defBody sUnlabelled_init) (defScope sUnlabelled_init) [] [] f fd) : KBn K fd ["self", "number"] 2 [] (fun us ws => us ++ ws) gK1 :=
  kbn_of F (fun _ _ _ _ _ _ us ws h1 h2 => match us, ws, h1, h2 with | [_, _], [], _, _ => rfl) fun a b => a.append b

abbrev sBadFlag_init : Stmt := inClass (top 14) 0
theorem scBadFlag_init : FnScope ["self", "flag"] ["self", "flag"] (defScope sBadFlag_init) := ⟨rfl, rfl, rfl, by decide +kernel, rfl, by decide +kernel, by decide +kernel⟩

theorem ok_BadFlag_init {f : Addr} {fd : FuncData} (F : FunD K "__init__" "BadFlag.__init__" (defArgs sBadFlag_init) (defBody sBadFlag_init) (defScope sBadFlag_init) [] [] f fd) : FnOk P w K mg base CX0 1 f fd ["self", "flag"] (spI1 K (He.ga K "BadFlag") "flag") :=
  F.ok scBadFlag_init (fun vs H Q E h => by
    obtain ⟨a, v, rfl, _⟩ := h
    rfl) fun cdv A outer s H vs Q E hr h => ⟨_, PSs.nox (pss_one (ps_ost (pv 0) (pv 1))), read_I1 rfl h⟩
theorem kw_BadFlag_init {f : Addr} {fd : FuncData} (F : FunD K "__init__" "BadFlag.__init__" (defArgs sBadFlag_init) (defBody sBadFlag_init) (defScope sBadFlag_init) [] [] f fd) : KBn K fd ["self", "flag"] 1 ["flag"] (fun us ws => us ++ ws) gK1 :=
  kbn_of F (fun _ _ _ _ _ _ us ws h1 h2 => match us, ws, h1, h2 with | [_], [_], _, _ => rfl) fun a b => a.append b
theorem pl_BadFlag_init {f : Addr} {fd : FuncData} (F : FunD K "__init__" "BadFlag.__init__" (defArgs sBadFlag_init) (defBody sBadFlag_init) (defScope sBadFlag_init) [] [] f fd) : KBn K fd ["self", "flag"] 2 [] (fun us ws => us ++ ws) gK1 :=
  kbn_of F (fun _ _ _ _ _ _ us ws h1 h2 => match us, ws, h1, h2 with | [_, _], [], _, _ => rfl) fun a b => a.append b

abbrev sBadCopies_init : Stmt := inClass (top 17) 0
theorem scBadCopies_init : FnScope ["self", "index"] ["self", "index"] (defScope sBadCopies_init) := ⟨rfl, rfl, rfl, by decide +kernel, rfl, by decide +kernel, by decide +kernel⟩

theorem ok_BadCopies_init {f : Addr} {fd : FuncData} (F : FunD K "__init__" "BadCopies.__init__" (defArgs sBadCopies_init) (defBody sBadCopies_init) (defScope sBadCopies_init) [] [] f fd) : FnOk P w K mg base CX0 1 f fd ["self", "index"] (spI1 K (He.ga K "BadCopies") "index") :=
  F.ok scBadCopies_init (fun vs H Q E h => by
    obtain ⟨a, v, rfl, _⟩ := h
    rfl) fun cdv A outer s H vs Q E hr h => ⟨_, PSs.nox (pss_one (ps_ost (pv 0) (pv 1))), read_I1 rfl h⟩
theorem kw_BadCopies_init {f : Addr} {fd : FuncData} (F : FunD K "__init__" "BadCopies.__init__" (defArgs sBadCopies_init) (defBody sBadCopies_init) (defScope sBadCopies_init) [] [] f fd) : KBn K fd ["self", "index"] 1 ["index"] (fun us ws => us ++ ws) gK1 :=
  kbn_of F (fun _ _ _ _ _ _ us ws h1 h2 => match us, ws, h1, h2 with | [_], [_], _, _ => rfl) fun a b => a.append b
theorem pl_BadCopies_init {f : Addr} {fd : FuncData} (F : FunD K "__init__" "BadCopies.__init__" (defArgs sBadCopies_init) (defBody sBadCopies_init) (defScope sBadCopies_init) [] [] f fd) : KBn K fd ["self", "index"] 2 [] (fun us ws => us ++ ws) gK1 :=
  kbn_of F (fun _ _ _ _ _ _ us ws h1 h2 => match us, ws, h1, h2 with | [_, _], [], _, _ => rfl) fun a b => a.append b

abbrev sUnknownTemplate_init : Stmt := inClass (top 20) 0
theorem scUnknownTemplate_init : FnScope ["self", "name"] ["self", "name"] (defScope sUnknownTemplate_init) := ⟨rfl, rfl, rfl, by decide +kernel, rfl, by decide +kernel, by decide +kernel⟩

theorem ok_UnknownTemplate_init {f : Addr} {fd : FuncData} (F : FunD K "__init__" "UnknownTemplate.__init__" (defArgs sUnknownTemplate_init) (defBody sUnknownTemplate_init) (defScope sUnknownTemplate_init) [] [] f fd) : FnOk P w K mg base CX0 1 f fd ["self", "name"] (spI1 K (He.ga K "UnknownTemplate") "name") :=
  F.ok scUnknownTemplate_init (fun vs H Q E h => by
    obtain ⟨a, v, rfl, _⟩ := h
    rfl) fun cdv A outer s H vs Q E hr h => ⟨_, PSs.nox (pss_one (ps_ost (pv 0) (pv 1))), read_I1 rfl h⟩
theorem kw_UnknownTemplate_init {f : Addr} {fd : FuncData} (F : FunD K "__init__" "UnknownTemplate.__init__" (defArgs sUnknownTemplate_init) (defBody sUnknownTemplate_init) (defScope sUnknownTemplate_init) [] [] f fd) : KBn K fd ["self", "name"] 1 ["name"] (fun us ws => us ++ ws) gK1 :=
  kbn_of F (fun _ _ _ _ _ _ us ws h1 h2 => match us, ws, h1, h2 with | [_], [_], _, _ => rfl) fun a b => a.append b
theorem pl_UnknownTemplate_init {f : Addr} {fd : FuncData} (F : FunD K "__init__" "UnknownTemplate.__init__" (defArgs sUnknownTemplate_init) (defBody sUnknownTemplate_init) (defScope sUnknownTemplate_init) [] [] f fd) : KBn K fd ["self", "name"] 2 [] (fun us ws => us ++ ws) gK1 :=
  kbn_of F (fun _ _ _ _ _ _ us ws h1 h2 => match us, ws, h1, h2 with | [_, _], [], _, _ => rfl) fun a b => a.append b

abbrev sBadVariable_init : Stmt := inClass (top 21) 0
theorem scBadVariable_init : FnScope ["self", "variable"] ["self", "variable"] (defScope sBadVariable_init) := ⟨rfl, rfl, rfl, by decide +kernel, rfl, by decide +kernel, by decide +kernel⟩

theorem ok_BadVariable_init {f : Addr} {fd : FuncData} (F : FunD K "__init__" "BadVariable.__init__" (defArgs sBadVariable_init) (defBody sBadVariable_init) (defScope sBadVariable_init) [] [] f fd) : FnOk P w K mg base CX0 1 f fd ["self", "variable"] (spI1 K (He.ga K "BadVariable") "variable") :=
  F.ok scBadVariable_init (fun vs H Q E h => by
    obtain ⟨a, v, rfl, _⟩ := h
    rfl) fun cdv A outer s H vs Q E hr h => ⟨_, PSs.nox (pss_one (ps_ost (pv 0) (pv 1))), read_I1 rfl h⟩
theorem kw_BadVariable_init {f : Addr} {fd : FuncData} (F : FunD K "__init__" "BadVariable.__init__" (defArgs sBadVariable_init) (defBody sBadVariable_init) (defScope sBadVariable_init) [] [] f fd) : KBn K fd ["self", "variable"] 1 ["variable"] (fun us ws => us ++ ws) gK1 :=
  kbn_of F (fun _ _ _ _ _ _ us ws h1 h2 => match us, ws, h1, h2 with | [_], [_], _, _ => rfl) fun a b => a.append b
theorem pl_BadVariable_init {f : Addr} {fd : FuncData} (F : FunD K "__init__" "BadVariable.__init__" (defArgs sBadVariable_init) (defBody sBadVariable_init) (defScope sBadVariable_init) [] [] f fd) : KBn K fd ["self", "variable"] 2 [] (fun us ws => us ++ ws) gK1 :=
  kbn_of F (fun _ _ _ _ _ _ us ws h1 h2 => match us, ws, h1, h2 with | [_, _], [], _, _ => rfl) fun a b => a.append b

abbrev sBadStep_init : Stmt := inClass (top 23) 0
theorem scBadStep_init : FnScope ["self", "index"] ["self", "index"] (defScope sBadStep_init) := ⟨rfl, rfl, rfl, by decide +kernel, rfl, by decide +kernel, by decide +kernel⟩

theorem ok_BadStep_init {f : Addr} {fd : FuncData} (F : FunD K "__init__" "BadStep.__init__" (defArgs sBadStep_init) (defBody sBadStep_init) (defScope sBadStep_init) [] [] f fd) : FnOk P w K mg base CX0 1 f fd ["self", "index"] (spI1 K (He.ga K "BadStep") "index") :=
  F.ok scBadStep_init (fun vs H Q E h => by
    obtain ⟨a, v, rfl, _⟩ := h
    rfl) fun cdv A outer s H vs Q E hr h => ⟨_, PSs.nox (pss_one (ps_ost (pv 0) (pv 1))), read_I1 rfl h⟩
theorem kw_BadStep_init {f : Addr} {fd : FuncData} (F : FunD K "__init__" "BadStep.__init__" (defArgs sBadStep_init) (defBody sBadStep_init) (defScope sBadStep_init) [] [] f fd) : KBn K fd ["self", "index"] 1 ["index"] (fun us ws => us ++ ws) gK1 :=
  kbn_of F (fun _ _ _ _ _ _ us ws h1 h2 => match us, ws, h1, h2 with | [_], [_], _, _ => rfl) fun a b => a.append b
theorem pl_BadStep_init {f : Addr} {fd : FuncData} (F : FunD K "__init__" "BadStep.__init__" (defArgs sBadStep_init) (defBody sBadStep_init) (defScope sBadStep_init) [] [] f fd) : KBn K fd ["self", "index"] 2 [] (fun us ws => us ++ ws) gK1 :=
  kbn_of F (fun _ _ _ _ _ _ us ws h1 h2 => match us, ws, h1, h2 with | [_, _], [], _, _ => rfl) fun a b => a.append b

abbrev sBadText_init : Stmt := inClass (top 24) 0
theorem scBadText_init : FnScope ["self", "line"] ["self", "line"] (defScope sBadText_init) := ⟨rfl, rfl, rfl, by decide +kernel, rfl, by decide +kernel, by decide +kernel⟩

theorem ok_BadText_init {f : Addr} {fd : FuncData} (F : FunD K "__init__" "BadText.__init__" (defArgs sBadText_init) (defBody sBadText_init) (defScope sBadText_init) [] [] f fd) : FnOk P w K mg base CX0 1 f fd ["self", "line"] (spI1 K (He.ga K "BadText") "line") :=
  F.ok scBadText_init (fun vs H Q E h => by
    obtain ⟨a, v, rfl, _⟩ := h
    rfl) fun cdv A outer s H vs Q E hr h => ⟨_, PSs.nox (pss_one (ps_ost (pv 0) (pv 1))), read_I1 rfl h⟩
theorem kw_BadText_init {f : Addr} {fd : FuncData} (F : FunD K "__init__" "BadText.__init__" (defArgs sBadText_init) (defBody sBadText_init) (defScope sBadText_init) [] [] f fd) : KBn K fd ["self", "line"] 1 ["line"] (fun us ws => us ++ ws) gK1 :=
  kbn_of F (fun _ _ _ _ _ _ us ws h1 h2 => match us, ws, h1, h2 with | [_], [_], _, _ => rfl) fun a b => a.append b
theorem pl_BadText_init {f : Addr} {fd : FuncData} (F : FunD K "__init__" "BadText.__init__" (defArgs sBadText_init) (defBody sBadText_init) (defScope sBadText_init) [] [] f fd) : KBn K fd ["self", "line"] 2 [] (fun us ws => us ++ ws) gK1 :=
  kbn_of F (fun _ _ _ _ _ _ us ws h1 h2 => match us, ws, h1, h2 with | [_, _], [], _, _ => rfl) fun a b => a.append b

abbrev sNoWrite_init : Stmt := inClass (top 11) 0
theorem scNoWrite_init : FnScope ["self", "resource", "field"] ["self", "resource", "field"] (defScope sNoWrite_init) := ⟨rfl, rfl, rfl, by decide +kernel, rfl, by decide +kernel, by decide +kernel⟩

theorem ok_NoWrite_init {f : Addr} {fd : FuncData} (F : FunD K "__init__" "NoWrite.__init__" (defArgs sNoWrite_init) (defBody sNoWrite_init) (defScope sNoWrite_init) [] [] f fd) : FnOk P w K mg base CX0 1 f fd ["self", "resource", "field"] (spI2 K (He.ga K "NoWrite") "resource" "field") :=
  F.ok scNoWrite_init (fun vs H Q E h => by
    obtain ⟨a, v, u, rfl, _⟩ := h
    rfl) fun cdv A outer s H vs Q E hr h => ⟨_, PSs.nox (pss_cons (ps_ost (pv 0) (pv 1)) (pss_one (ps_ost (pv 0) (pv 2)))), read_I2 rfl h⟩
theorem kw_NoWrite_init {f : Addr} {fd : FuncData} (F : FunD K "__init__" "NoWrite.__init__" (defArgs sNoWrite_init) (defBody sNoWrite_init) (defScope sNoWrite_init) [] [] f fd) : KBn K fd ["self", "resource", "field"] 1 ["field", "resource"] (fun us ws => us ++ ws.reverse) (fun vs zs => vs ++ zs.reverse) :=
  kbn_of F (fun _ _ _ _ _ _ us ws h1 h2 => match us, ws, h1, h2 with | [_], [_, _], _, _ => rfl) fun a b => a.append (rev_vals b)
theorem pl_NoWrite_init {f : Addr} {fd : FuncData} (F : FunD K "__init__" "NoWrite.__init__" (defArgs sNoWrite_init) (defBody sNoWrite_init) (defScope sNoWrite_init) [] [] f fd) : KBn K fd ["self", "resource", "field"] 3 [] (fun us ws => us ++ ws) gK1 :=
  kbn_of F (fun _ _ _ _ _ _ us ws h1 h2 => match us, ws, h1, h2 with | [_, _, _], [], _, _ => rfl) fun a b => a.append b

abbrev sRejected_init : Stmt := inClass (top 12) 0
theorem scRejected_init : FnScope ["self", "number", "stale"] ["self", "number", "stale"] (defScope sRejected_init) := ⟨rfl, rfl, rfl, by decide +kernel, rfl, by decide +kernel, by decide +kernel⟩

theorem ok_Rejected_init {f : Addr} {fd : FuncData} (F : FunD K "__init__" "Rejected.__init__" (defArgs sRejected_init) (defBody sRejected_init) (defScope sRejected_init) [] [] f fd) : FnOk P w K mg base CX0 1 f fd ["self", "number", "stale"] (spI2 K (He.ga K "Rejected") "number" "stale") :=
  F.ok scRejected_init (fun vs H Q E h => by
    obtain ⟨a, v, u, rfl, _⟩ := h
    rfl) fun cdv A outer s H vs Q E hr h => ⟨_, PSs.nox (pss_cons (ps_ost (pv 0) (pv 1)) (pss_one (ps_ost (pv 0) (pv 2)))), read_I2 rfl h⟩
theorem kw_Rejected_init {f : Addr} {fd : FuncData} (F : FunD K "__init__" "Rejected.__init__" (defArgs sRejected_init) (defBody sRejected_init) (defScope sRejected_init) [] [] f fd) : KBn K fd ["self", "number", "stale"] 1 ["stale", "number"] (fun us ws => us ++ ws.reverse) (fun vs zs => vs ++ zs.reverse) :=
  kbn_of F (fun _ _ _ _ _ _ us ws h1 h2 => match us, ws, h1, h2 with | [_], [_, _], _, _ => rfl) fun a b => a.append (rev_vals b)
theorem pl_Rejected_init {f : Addr} {fd : FuncData} (F : FunD K "__init__" "Rejected.__init__" (defArgs sRejected_init) (defBody sRejected_init) (defScope sRejected_init) [] [] f fd) : KBn K fd ["self", "number", "stale"] 3 [] (fun us ws => us ++ ws) gK1 :=
  kbn_of F (fun _ _ _ _ _ _ us ws h1 h2 => match us, ws, h1, h2 with | [_, _, _], [], _, _ => rfl) fun a b => a.append b

abbrev sBadTemplate_init : Stmt := inClass (top 16) 0
theorem scBadTemplate_init : FnScope ["self", "index", "reason"] ["self", "index", "reason"] (defScope sBadTemplate_init) := ⟨rfl, rfl, rfl, by decide +kernel, rfl, by decide +kernel, by decide +kernel⟩

theorem ok_BadTemplate_init {f : Addr} {fd : FuncData} (F : FunD K "__init__" "BadTemplate.__init__" (defArgs sBadTemplate_init) (defBody sBadTemplate_init) (defScope sBadTemplate_init) [] [] f fd) : FnOk P w K mg base CX0 1 f fd ["self", "index", "reason"] (spI2 K (He.ga K "BadTemplate") "index" "reason") :=
  F.ok scBadTemplate_init (fun vs H Q E h => by
    obtain ⟨a, v, u, rfl, _⟩ := h
    rfl) fun cdv A outer s H vs Q E hr h => ⟨_, PSs.nox (pss_cons (ps_ost (pv 0) (pv 1)) (pss_one (ps_ost (pv 0) (pv 2)))), read_I2 rfl h⟩
theorem kw_BadTemplate_init {f : Addr} {fd : FuncData} (F : FunD K "__init__" "BadTemplate.__init__" (defArgs sBadTemplate_init) (defBody sBadTemplate_init) (defScope sBadTemplate_init) [] [] f fd) : KBn K fd ["self", "index", "reason"] 1 ["reason", "index"] (fun us ws => us ++ ws.reverse) (fun vs zs => vs ++ zs.reverse) :=
  kbn_of F (fun _ _ _ _ _ _ us ws h1 h2 => match us, ws, h1, h2 with | [_], [_, _], _, _ => rfl) fun a b => a.append (rev_vals b)
theorem pl_BadTemplate_init {f : Addr} {fd : FuncData} (F : FunD K "__init__" "BadTemplate.__init__" (defArgs sBadTemplate_init) (defBody sBadTemplate_init) (defScope sBadTemplate_init) [] [] f fd) : KBn K fd ["self", "index", "reason"] 3 [] (fun us ws => us ++ ws) gK1 :=
  kbn_of F (fun _ _ _ _ _ _ us ws h1 h2 => match us, ws, h1, h2 with | [_, _, _], [], _, _ => rfl) fun a b => a.append b

abbrev sBadCatalog_init : Stmt := inClass (top 19) 0
theorem scBadCatalog_init : FnScope ["self", "index", "reason"] ["self", "index", "reason"] (defScope sBadCatalog_init) := ⟨rfl, rfl, rfl, by decide +kernel, rfl, by decide +kernel, by decide +kernel⟩

theorem ok_BadCatalog_init {f : Addr} {fd : FuncData} (F : FunD K "__init__" "BadCatalog.__init__" (defArgs sBadCatalog_init) (defBody sBadCatalog_init) (defScope sBadCatalog_init) [] [] f fd) : FnOk P w K mg base CX0 1 f fd ["self", "index", "reason"] (spI2 K (He.ga K "BadCatalog") "index" "reason") :=
  F.ok scBadCatalog_init (fun vs H Q E h => by
    obtain ⟨a, v, u, rfl, _⟩ := h
    rfl) fun cdv A outer s H vs Q E hr h => ⟨_, PSs.nox (pss_cons (ps_ost (pv 0) (pv 1)) (pss_one (ps_ost (pv 0) (pv 2)))), read_I2 rfl h⟩
theorem kw_BadCatalog_init {f : Addr} {fd : FuncData} (F : FunD K "__init__" "BadCatalog.__init__" (defArgs sBadCatalog_init) (defBody sBadCatalog_init) (defScope sBadCatalog_init) [] [] f fd) : KBn K fd ["self", "index", "reason"] 1 ["reason", "index"] (fun us ws => us ++ ws.reverse) (fun vs zs => vs ++ zs.reverse) :=
  kbn_of F (fun _ _ _ _ _ _ us ws h1 h2 => match us, ws, h1, h2 with | [_], [_, _], _, _ => rfl) fun a b => a.append (rev_vals b)
theorem pl_BadCatalog_init {f : Addr} {fd : FuncData} (F : FunD K "__init__" "BadCatalog.__init__" (defArgs sBadCatalog_init) (defBody sBadCatalog_init) (defScope sBadCatalog_init) [] [] f fd) : KBn K fd ["self", "index", "reason"] 3 [] (fun us ws => us ++ ws) gK1 :=
  kbn_of F (fun _ _ _ _ _ _ us ws h1 h2 => match us, ws, h1, h2 with | [_, _, _], [], _, _ => rfl) fun a b => a.append b
end
end Sm
namespace Sm
open PySem PySem.Spec PyProof.Rows L2
abbrev s_law_with_one : Stmt := top 32
theorem sc_law_with_one : FnScope ["_law_x", "_law_found"] ["_law_x"] (defScope s_law_with_one) := ⟨rfl, rfl, rfl, by decide +kernel, rfl, by decide +kernel, by decide +kernel⟩

abbrev s_law_by_place : Stmt := top 33
theorem sc_law_by_place : FnScope ["_law_x", "_law_found"] ["_law_x"] (defScope s_law_by_place) := ⟨rfl, rfl, rfl, by decide +kernel, rfl, by decide +kernel, by decide +kernel⟩

abbrev s_law_held : Stmt := top 34
theorem sc_law_held : FnScope ["_law_made", "_law_found"] ["_law_made"] (defScope s_law_held) := ⟨rfl, rfl, rfl, by decide +kernel, rfl, by decide +kernel, by decide +kernel⟩

abbrev s_law_classes : Stmt := top 35
theorem sc_law_classes : FnScope ["_law_e", "_law_found"] ["_law_e"] (defScope s_law_classes) := ⟨rfl, rfl, rfl, by decide +kernel, rfl, by decide +kernel, by decide +kernel⟩

def twos : List (Str × Str × Str) := [("NoWrite", "resource", "field"), ("Rejected", "number", "stale"), ("BadTemplate", "index", "reason"), ("BadCatalog", "index", "reason")]
def bare0 : List Str := ["Offline", "BadValues", "BadCover", "SeenError"]
def all23 : List Str := ["BadField", "UnknownField", "BadWord", "BadKind", "UnknownKind", "BadResource", "BadCount", "BadTag", "BadValue", "Unlabelled", "BadFlag", "BadCopies", "UnknownTemplate", "BadVariable", "BadStep", "BadText", "NoWrite", "Rejected", "Offline", "BadTemplate", "BadValues", "BadCatalog", "BadCover"]
def all24 : List Str := all23 ++ [("SeenError" : Str)]
/-- what is known of the classes -/
structure TxtE (P : Program) (w : World) (K : PySem.W.Frag) (mg : Str → Option Value) (base : Heap) : Prop where
  MK : ∀ (i : Nat) (q : Str × Str), ones[i]? = some q → ExM P w K mg base q.1 (He.ga K q.1) 0 [q.2] gK1 (spI1 K (He.ga K q.1) q.2)
  MP : ∀ (i : Nat) (q : Str × Str), ones[i]? = some q → ExM P w K mg base q.1 (He.ga K q.1) 1 [] gK1 (spI1 K (He.ga K q.1) q.2)
  K1 : ∀ q ∈ ones, K1 K q
def spRow (K : PySem.W.Frag) : Sp := fun vs H Q _ => ∃ v : V, vs = [v] ∧ ∀ L us H', H L = none → Same H H' → H' L = some (.lst us) → Row1 K H' v ones us → us.length = 16 → Q (.ref L) H'
section
variable {P : Program} {w : World} {K : PySem.W.Frag} {mg : Str → Option Value} {base : Heap}
theorem ones_sub (n m : Nat) {q : Str × Str} (h : q ∈ (ones.drop n).take m) : q ∈ ones := List.mem_of_mem_drop (List.mem_of_mem_take h)
theorem ok_with_one (T : TxtE P w K mg base) {f : Addr} {fd : FuncData} (F : FnP K "_law_with_one" s_law_with_one f fd) : FnOk P w K mg base CX0 3 f fd ["_law_x"] (spRow K) := by
  have MK := T.MK
  have MP := T.MP
  refine F.ok sc_law_with_one (fun vs H Q E h => ?_) (fun cdv A outer s H vs Q E hr h => ?_)
  · obtain ⟨v, rfl, _⟩ := h
    rfl
  · obtain ⟨v, rfl, kk⟩ := h
    have hk := T.K1
    refine ⟨_, PSs.nox (pss_cons (ps_set (i := 1) sc_law_with_one.nd rfl (Or.inl rfl) (pe_lst (pa_cons (pe_mkEK (MK 0 ("BadField", "index") rfl) hr (by decide) (by rfl) (pk_cons (pv 0) pk_nil)) (pa_cons (pe_mkEK (MK 1 ("UnknownField", "field") rfl) hr (by decide) (by rfl) (pk_cons (pv 0) pk_nil)) (pa_cons (pe_mkEK (MK 2 ("BadWord", "word") rfl) hr (by decide) (by rfl) (pk_cons (pv 0) pk_nil)) (pa_cons (pe_mkEK (MK 3 ("BadKind", "index") rfl) hr (by decide) (by rfl) (pk_cons (pv 0) pk_nil)) (pa_cons (pe_mkEK (MK 4 ("UnknownKind", "name") rfl) hr (by decide) (by rfl) (pk_cons (pv 0) pk_nil)) pa_nil)))))))
  (pss_cons (ps_set (i := 1) sc_law_with_one.nd rfl (Or.inl rfl) (pe_op op_cat (pv 1) (pe_lst (pa_cons (pe_mkEK (MK 5 ("BadResource", "resource") rfl) hr (by decide) (by rfl) (pk_cons (pv 0) pk_nil)) (pa_cons (pe_mkEK (MK 6 ("BadCount", "count") rfl) hr (by decide) (by rfl) (pk_cons (pv 0) pk_nil)) (pa_cons (pe_mkEK (MK 7 ("BadTag", "thing") rfl) hr (by decide) (by rfl) (pk_cons (pv 0) pk_nil)) (pa_cons (pe_mkEK (MK 8 ("BadValue", "value") rfl) hr (by decide) (by rfl) (pk_cons (pv 0) pk_nil)) pa_nil)))))))
  (pss_cons (ps_set (i := 1) sc_law_with_one.nd rfl (Or.inl rfl) (pe_op op_cat (pv 1) (pe_lst (pa_cons (pe_mkEK (MK 9 ("Unlabelled", "number") rfl) hr (by decide) (by rfl) (pk_cons (pv 0) pk_nil)) (pa_cons (pe_mkEK (MK 10 ("BadFlag", "flag") rfl) hr (by decide) (by rfl) (pk_cons (pv 0) pk_nil)) (pa_cons (pe_mkEK (MK 11 ("BadCopies", "index") rfl) hr (by decide) (by rfl) (pk_cons (pv 0) pk_nil)) (pa_cons (pe_mkEK (MK 12 ("UnknownTemplate", "name") rfl) hr (by decide) (by rfl) (pk_cons (pv 0) pk_nil)) pa_nil)))))))
  (pss_one (ps_ret (pe_op op_cat (pv 1) (pe_lst (pa_cons (pe_mkEK (MK 13 ("BadVariable", "variable") rfl) hr (by decide) (by rfl) (pk_cons (pv 0) pk_nil)) (pa_cons (pe_mkEK (MK 14 ("BadStep", "index") rfl) hr (by decide) (by rfl) (pk_cons (pv 0) pk_nil)) (pa_cons (pe_mkEK (MK 15 ("BadText", "line") rfl) hr (by decide) (by rfl) (pk_cons (pv 0) pk_nil)) pa_nil)))))))))), ?_⟩
    refine st_seq2 (asg_lst (mks_ok (K := K) (i := 0) (v := v) (qs := [("BadField", "index"), ("UnknownField", "field"), ("BadWord", "word"), ("BadKind", "index"), ("UnknownKind", "name")]) rfl (fun q hq => hk q (ones_sub 0 5 hq)) fun us1 G1 t1 r1 => lst_ok (by rw [← r1.length]; decide) fun l1 H1 n1 s1 h1 => ?_))
    have r1 := r1.on s1
    have s1 := t1.trans s1
    have n1 : H l1 = none := t1.free n1
    dsimp only
    refine st_seq2 ((asg_any ⟨_, rfl, lst_any (mks_ok (K := K) (i := 0) (v := v) (qs := [("BadResource", "resource"), ("BadCount", "count"), ("BadTag", "thing"), ("BadValue", "value")]) rfl (fun q hq => hk q (ones_sub 5 4 hq)) fun us2 G2 t2 w2 => rcat_lst (t2 _ _ h1) (by rw [← w2.length, ← (r1).length]; decide) fun l2 H2 n2 s2 h2 => ?_)⟩))
    have r2 := Row1.append (r1.on (t2.trans s2)) (w2.on s2)
    have s2 := (s1.trans t2).trans s2
    have n2 : H l2 = none := (s1.trans t2).free n2
    dsimp only
    refine st_seq2 ((asg_any ⟨_, rfl, lst_any (mks_ok (K := K) (i := 0) (v := v) (qs := [("Unlabelled", "number"), ("BadFlag", "flag"), ("BadCopies", "index"), ("UnknownTemplate", "name")]) rfl (fun q hq => hk q (ones_sub 9 4 hq)) fun us3 G3 t3 w3 => rcat_lst (t3 _ _ h2) (by rw [← w3.length, ← (r2).length]; decide) fun l3 H3 n3 s3 h3 => ?_)⟩))
    have r3 := Row1.append (r2.on (t3.trans s3)) (w3.on s3)
    have s3 := (s2.trans t3).trans s3
    have n3 : H l3 = none := (s2.trans t3).free n3
    dsimp only
    refine (ret_any ⟨_, rfl, lst_any (mks_ok (K := K) (i := 0) (v := v) (qs := [("BadVariable", "variable"), ("BadStep", "index"), ("BadText", "line")]) rfl (fun q hq => hk q (ones_sub 13 3 hq)) fun us4 G4 t4 w4 => rcat_lst (t4 _ _ h3) (by rw [← w4.length, ← (r3).length]; decide) fun l4 H4 n4 s4 h4 => ?_)⟩)
    have r4 := Row1.append (r3.on (t4.trans s4)) (w4.on s4)
    have s4 := (s3.trans t4).trans s4
    have n4 : H l4 = none := (s3.trans t4).free n4
    exact kk _ _ _ n4 s4 h4 r4 (by rw [← r4.length]; rfl)
theorem ok_by_place (T : TxtE P w K mg base) {f : Addr} {fd : FuncData} (F : FnP K "_law_by_place" s_law_by_place f fd) : FnOk P w K mg base CX0 3 f fd ["_law_x"] (spRow K) := by
  have MK := T.MK
  have MP := T.MP
  refine F.ok sc_law_by_place (fun vs H Q E h => ?_) (fun cdv A outer s H vs Q E hr h => ?_)
  · obtain ⟨v, rfl, _⟩ := h
    rfl
  · obtain ⟨v, rfl, kk⟩ := h
    have hk := T.K1
    refine ⟨_, PSs.nox (pss_cons (ps_set (i := 1) sc_law_by_place.nd rfl (Or.inl rfl) (pe_lst (pa_cons (pe_mkE (MP 0 ("BadField", "index") rfl) hr (by decide) (by rfl) (pa_cons (pv 0) pa_nil)) (pa_cons (pe_mkE (MP 1 ("UnknownField", "field") rfl) hr (by decide) (by rfl) (pa_cons (pv 0) pa_nil)) (pa_cons (pe_mkE (MP 2 ("BadWord", "word") rfl) hr (by decide) (by rfl) (pa_cons (pv 0) pa_nil)) (pa_cons (pe_mkE (MP 3 ("BadKind", "index") rfl) hr (by decide) (by rfl) (pa_cons (pv 0) pa_nil)) (pa_cons (pe_mkE (MP 4 ("UnknownKind", "name") rfl) hr (by decide) (by rfl) (pa_cons (pv 0) pa_nil)) (pa_cons (pe_mkE (MP 5 ("BadResource", "resource") rfl) hr (by decide) (by rfl) (pa_cons (pv 0) pa_nil)) (pa_cons (pe_mkE (MP 6 ("BadCount", "count") rfl) hr (by decide) (by rfl) (pa_cons (pv 0) pa_nil)) pa_nil)))))))))
  (pss_cons (ps_set (i := 1) sc_law_by_place.nd rfl (Or.inl rfl) (pe_op op_cat (pv 1) (pe_lst (pa_cons (pe_mkE (MP 7 ("BadTag", "thing") rfl) hr (by decide) (by rfl) (pa_cons (pv 0) pa_nil)) (pa_cons (pe_mkE (MP 8 ("BadValue", "value") rfl) hr (by decide) (by rfl) (pa_cons (pv 0) pa_nil)) (pa_cons (pe_mkE (MP 9 ("Unlabelled", "number") rfl) hr (by decide) (by rfl) (pa_cons (pv 0) pa_nil)) (pa_cons (pe_mkE (MP 10 ("BadFlag", "flag") rfl) hr (by decide) (by rfl) (pa_cons (pv 0) pa_nil)) (pa_cons (pe_mkE (MP 11 ("BadCopies", "index") rfl) hr (by decide) (by rfl) (pa_cons (pv 0) pa_nil)) (pa_cons (pe_mkE (MP 12 ("UnknownTemplate", "name") rfl) hr (by decide) (by rfl) (pa_cons (pv 0) pa_nil)) pa_nil)))))))))
  (pss_one (ps_ret (pe_op op_cat (pv 1) (pe_lst (pa_cons (pe_mkE (MP 13 ("BadVariable", "variable") rfl) hr (by decide) (by rfl) (pa_cons (pv 0) pa_nil)) (pa_cons (pe_mkE (MP 14 ("BadStep", "index") rfl) hr (by decide) (by rfl) (pa_cons (pv 0) pa_nil)) (pa_cons (pe_mkE (MP 15 ("BadText", "line") rfl) hr (by decide) (by rfl) (pa_cons (pv 0) pa_nil)) pa_nil))))))))), ?_⟩
    refine st_seq2 (asg_lst (mksP_ok (K := K) (i := 0) (v := v) (qs := [("BadField", "index"), ("UnknownField", "field"), ("BadWord", "word"), ("BadKind", "index"), ("UnknownKind", "name"), ("BadResource", "resource"), ("BadCount", "count")]) rfl (fun q hq => hk q (ones_sub 0 7 hq)) fun us1 G1 t1 r1 => lst_ok (by rw [← r1.length]; decide) fun l1 H1 n1 s1 h1 => ?_))
    have r1 := r1.on s1
    have s1 := t1.trans s1
    have n1 : H l1 = none := t1.free n1
    dsimp only
    refine st_seq2 ((asg_any ⟨_, rfl, lst_any (mksP_ok (K := K) (i := 0) (v := v) (qs := [("BadTag", "thing"), ("BadValue", "value"), ("Unlabelled", "number"), ("BadFlag", "flag"), ("BadCopies", "index"), ("UnknownTemplate", "name")]) rfl (fun q hq => hk q (ones_sub 7 6 hq)) fun us2 G2 t2 w2 => rcat_lst (t2 _ _ h1) (by rw [← w2.length, ← (r1).length]; decide) fun l2 H2 n2 s2 h2 => ?_)⟩))
    have r2 := Row1.append (r1.on (t2.trans s2)) (w2.on s2)
    have s2 := (s1.trans t2).trans s2
    have n2 : H l2 = none := (s1.trans t2).free n2
    dsimp only
    refine (ret_any ⟨_, rfl, lst_any (mksP_ok (K := K) (i := 0) (v := v) (qs := [("BadVariable", "variable"), ("BadStep", "index"), ("BadText", "line")]) rfl (fun q hq => hk q (ones_sub 13 3 hq)) fun us3 G3 t3 w3 => rcat_lst (t3 _ _ h2) (by rw [← w3.length, ← (r2).length]; decide) fun l3 H3 n3 s3 h3 => ?_)⟩)
    have r3 := Row1.append (r2.on (t3.trans s3)) (w3.on s3)
    have s3 := (s2.trans t3).trans s3
    have n3 : H l3 = none := (s2.trans t3).free n3
    exact kk _ _ _ n3 s3 h3 r3 (by rw [← r3.length]; rfl)
theorem all_sub (n m : Nat) {q : Str} (h : q ∈ (all23.drop n).take m) : q ∈ all23 := List.mem_of_mem_drop (List.mem_of_mem_take h)
def spHeld (K : PySem.W.Frag) : Sp := fun vs H Q _ => ∃ (l : Addr) (us : List V) (v : V), vs = [.ref l] ∧ H l = some (.lst us) ∧ Row1 K H v ones us ∧ ∀ L H', H L = none → Same H H' → H' L = some (.lst (List.replicate 16 v)) → Q (.ref L) H'
theorem ok_held (T : TxtE P w K mg base) {f : Addr} {fd : FuncData} (F : FnP K "_law_held" s_law_held f fd) : FnOk P w K mg base CX0 3 f fd ["_law_made"] (spHeld K) := by
  refine F.ok sc_law_held (fun vs H Q E h => ?_) (fun cdv A outer s H vs Q E hr h => ?_)
  · obtain ⟨l, us, v, rfl, _⟩ := h
    rfl
  · obtain ⟨l, us, v, rfl, hl, hR, kk⟩ := h
    have hk := T.K1
    refine ⟨_, PSs.nox (pss_cons (ps_set (i := 1) sc_law_held.nd rfl (Or.inl rfl) (pe_lst (pa_cons (pe_exfK (K := K) (pe_ix (ix_listK (K := K)) (pv 0) pe_int (fun _ _ => rfl))) (pa_cons (pe_exfK (K := K) (pe_ix (ix_listK (K := K)) (pv 0) pe_int (fun _ _ => rfl))) (pa_cons (pe_exfK (K := K) (pe_ix (ix_listK (K := K)) (pv 0) pe_int (fun _ _ => rfl))) (pa_cons (pe_exfK (K := K) (pe_ix (ix_listK (K := K)) (pv 0) pe_int (fun _ _ => rfl))) (pa_cons (pe_exfK (K := K) (pe_ix (ix_listK (K := K)) (pv 0) pe_int (fun _ _ => rfl))) (pa_cons (pe_exfK (K := K) (pe_ix (ix_listK (K := K)) (pv 0) pe_int (fun _ _ => rfl))) pa_nil))))))))
  (pss_cons (ps_set (i := 1) sc_law_held.nd rfl (Or.inl rfl) (pe_op op_cat (pv 1) (pe_lst (pa_cons (pe_exfK (K := K) (pe_ix (ix_listK (K := K)) (pv 0) pe_int (fun _ _ => rfl))) (pa_cons (pe_exfK (K := K) (pe_ix (ix_listK (K := K)) (pv 0) pe_int (fun _ _ => rfl))) (pa_cons (pe_exfK (K := K) (pe_ix (ix_listK (K := K)) (pv 0) pe_int (fun _ _ => rfl))) (pa_cons (pe_exfK (K := K) (pe_ix (ix_listK (K := K)) (pv 0) pe_int (fun _ _ => rfl))) (pa_cons (pe_exfK (K := K) (pe_ix (ix_listK (K := K)) (pv 0) pe_int (fun _ _ => rfl))) (pa_cons (pe_exfK (K := K) (pe_ix (ix_listK (K := K)) (pv 0) pe_int (fun _ _ => rfl))) pa_nil)))))))))
  (pss_one (ps_ret (pe_op op_cat (pv 1) (pe_lst (pa_cons (pe_exfK (K := K) (pe_ix (ix_listK (K := K)) (pv 0) pe_int (fun _ _ => rfl))) (pa_cons (pe_exfK (K := K) (pe_ix (ix_listK (K := K)) (pv 0) pe_int (fun _ _ => rfl))) (pa_cons (pe_exfK (K := K) (pe_ix (ix_listK (K := K)) (pv 0) pe_int (fun _ _ => rfl))) (pa_cons (pe_exfK (K := K) (pe_ix (ix_listK (K := K)) (pv 0) pe_int (fun _ _ => rfl))) pa_nil)))))))))), ?_⟩
    refine st_seq2 (asg_lst (held_ok (K := K) (i := 0) (v := v) (qs := [("BadField", "index"), ("UnknownField", "field"), ("BadWord", "word"), ("BadKind", "index"), ("UnknownKind", "name"), ("BadResource", "resource")]) (j := 0) rfl (SqL.of hl) (fun q hq => hk q (ones_sub 0 6 hq)) (Row1.seg 0 6 hR) (lst_ok (by simp) fun l1 H1 n1 s1 h1 => ?_)))
    dsimp only
    refine st_seq2 ((asg_any ⟨_, rfl, lst_any (held_ok (K := K) (i := 0) (v := v) (qs := [("BadCount", "count"), ("BadTag", "thing"), ("BadValue", "value"), ("Unlabelled", "number"), ("BadFlag", "flag"), ("BadCopies", "index")]) (j := 6) rfl (SqL.of (s1 _ _ hl)) (fun q hq => hk q (ones_sub 6 6 hq)) (Row1.seg 6 6 (hR.on s1)) (rcat_lst h1 (by simp) fun l2 H2 n2 s2 h2 => ?_))⟩))
    have n2 : H l2 = none := (s1).free n2
    have s2 := s1.trans s2
    dsimp only
    refine (ret_any ⟨_, rfl, lst_any (held_ok (K := K) (i := 0) (v := v) (qs := [("UnknownTemplate", "name"), ("BadVariable", "variable"), ("BadStep", "index"), ("BadText", "line")]) (j := 12) rfl (SqL.of (s2 _ _ hl)) (fun q hq => hk q (ones_sub 12 4 hq)) (Row1.seg 12 4 (hR.on s2)) (rcat_lst h2 (by simp) fun l3 H3 n3 s3 h3 => ?_))⟩)
    have n3 : H l3 = none := (s2).free n3
    have s3 := s2.trans s3
    exact kk _ _ n3 s3 h3
structure TxtC (K : PySem.W.Frag) (mg : Str → Option Value) : Prop where
  TG : ∀ (i : Nat) (x : Str), all24[i]? = some x → mg x = some (.ref (He.ga K x))
  isinstance : mg "isinstance" = none
def spCls (K : PySem.W.Frag) : Sp := fun vs H Q _ => ∃ (a C : Addr) (od : Option Addr) (b : Str → Bool), vs = [.ref a] ∧ H a = some (exo a C od) ∧ (∀ d, od = some d → ∃ fs, H d = some (exd d fs)) ∧ ExK K C ∧ (∀ x ∈ all23, PySem.W.kitOne K (.ref C) (.ref (He.ga K x)) = some (b x)) ∧
  ∀ L H', H L = none → Same H H' → H' L = some (.lst (all23.map fun x => .bl (b x))) → Q (.ref L) H'
theorem ok_classes (T : TxtC K mg) {f : Addr} {fd : FuncData} (F : FnP K "_law_classes" s_law_classes f fd) : FnOk P w K mg base CX0 3 f fd ["_law_e"] (spCls K) := by
  have TG := T.TG
  refine F.ok sc_law_classes (fun vs H Q E h => ?_) (fun cdv A outer s H vs Q E hr h => ?_)
  · obtain ⟨a, C, od, b, rfl, _⟩ := h
    rfl
  · obtain ⟨a, C, od, b, rfl, ha, hd, hT, hb, kk⟩ := h
    refine ⟨_, PSs.nox (pss_cons (ps_set (i := 1) sc_law_classes.nd rfl (Or.inl rfl) (pe_lst (pa_cons (pe_callB (call_isExK (K := K)) (by rfl) T.isinstance (by decide +kernel) (pa_cons (pv 0) (pa_cons (pe_glob (v := .ref (He.ga K "BadField")) (by rfl) (TG 0 _ rfl) rfl) pa_nil))) (pa_cons (pe_callB (call_isExK (K := K)) (by rfl) T.isinstance (by decide +kernel) (pa_cons (pv 0) (pa_cons (pe_glob (v := .ref (He.ga K "UnknownField")) (by rfl) (TG 1 _ rfl) rfl) pa_nil))) (pa_cons (pe_callB (call_isExK (K := K)) (by rfl) T.isinstance (by decide +kernel) (pa_cons (pv 0) (pa_cons (pe_glob (v := .ref (He.ga K "BadWord")) (by rfl) (TG 2 _ rfl) rfl) pa_nil))) (pa_cons (pe_callB (call_isExK (K := K)) (by rfl) T.isinstance (by decide +kernel) (pa_cons (pv 0) (pa_cons (pe_glob (v := .ref (He.ga K "BadKind")) (by rfl) (TG 3 _ rfl) rfl) pa_nil))) pa_nil))))))
  (pss_cons (ps_set (i := 1) sc_law_classes.nd rfl (Or.inl rfl) (pe_op op_cat (pv 1) (pe_lst (pa_cons (pe_callB (call_isExK (K := K)) (by rfl) T.isinstance (by decide +kernel) (pa_cons (pv 0) (pa_cons (pe_glob (v := .ref (He.ga K "UnknownKind")) (by rfl) (TG 4 _ rfl) rfl) pa_nil))) (pa_cons (pe_callB (call_isExK (K := K)) (by rfl) T.isinstance (by decide +kernel) (pa_cons (pv 0) (pa_cons (pe_glob (v := .ref (He.ga K "BadResource")) (by rfl) (TG 5 _ rfl) rfl) pa_nil))) (pa_cons (pe_callB (call_isExK (K := K)) (by rfl) T.isinstance (by decide +kernel) (pa_cons (pv 0) (pa_cons (pe_glob (v := .ref (He.ga K "BadCount")) (by rfl) (TG 6 _ rfl) rfl) pa_nil))) pa_nil))))))
  (pss_cons (ps_set (i := 1) sc_law_classes.nd rfl (Or.inl rfl) (pe_op op_cat (pv 1) (pe_lst (pa_cons (pe_callB (call_isExK (K := K)) (by rfl) T.isinstance (by decide +kernel) (pa_cons (pv 0) (pa_cons (pe_glob (v := .ref (He.ga K "BadTag")) (by rfl) (TG 7 _ rfl) rfl) pa_nil))) (pa_cons (pe_callB (call_isExK (K := K)) (by rfl) T.isinstance (by decide +kernel) (pa_cons (pv 0) (pa_cons (pe_glob (v := .ref (He.ga K "BadValue")) (by rfl) (TG 8 _ rfl) rfl) pa_nil))) (pa_cons (pe_callB (call_isExK (K := K)) (by rfl) T.isinstance (by decide +kernel) (pa_cons (pv 0) (pa_cons (pe_glob (v := .ref (He.ga K "Unlabelled")) (by rfl) (TG 9 _ rfl) rfl) pa_nil))) pa_nil))))))
  (pss_cons (ps_set (i := 1) sc_law_classes.nd rfl (Or.inl rfl) (pe_op op_cat (pv 1) (pe_lst (pa_cons (pe_callB (call_isExK (K := K)) (by rfl) T.isinstance (by decide +kernel) (pa_cons (pv 0) (pa_cons (pe_glob (v := .ref (He.ga K "BadFlag")) (by rfl) (TG 10 _ rfl) rfl) pa_nil))) (pa_cons (pe_callB (call_isExK (K := K)) (by rfl) T.isinstance (by decide +kernel) (pa_cons (pv 0) (pa_cons (pe_glob (v := .ref (He.ga K "BadCopies")) (by rfl) (TG 11 _ rfl) rfl) pa_nil))) (pa_cons (pe_callB (call_isExK (K := K)) (by rfl) T.isinstance (by decide +kernel) (pa_cons (pv 0) (pa_cons (pe_glob (v := .ref (He.ga K "UnknownTemplate")) (by rfl) (TG 12 _ rfl) rfl) pa_nil))) pa_nil))))))
  (pss_cons (ps_set (i := 1) sc_law_classes.nd rfl (Or.inl rfl) (pe_op op_cat (pv 1) (pe_lst (pa_cons (pe_callB (call_isExK (K := K)) (by rfl) T.isinstance (by decide +kernel) (pa_cons (pv 0) (pa_cons (pe_glob (v := .ref (He.ga K "BadVariable")) (by rfl) (TG 13 _ rfl) rfl) pa_nil))) (pa_cons (pe_callB (call_isExK (K := K)) (by rfl) T.isinstance (by decide +kernel) (pa_cons (pv 0) (pa_cons (pe_glob (v := .ref (He.ga K "BadStep")) (by rfl) (TG 14 _ rfl) rfl) pa_nil))) (pa_cons (pe_callB (call_isExK (K := K)) (by rfl) T.isinstance (by decide +kernel) (pa_cons (pv 0) (pa_cons (pe_glob (v := .ref (He.ga K "BadText")) (by rfl) (TG 15 _ rfl) rfl) pa_nil))) pa_nil))))))
  (pss_cons (ps_set (i := 1) sc_law_classes.nd rfl (Or.inl rfl) (pe_op op_cat (pv 1) (pe_lst (pa_cons (pe_callB (call_isExK (K := K)) (by rfl) T.isinstance (by decide +kernel) (pa_cons (pv 0) (pa_cons (pe_glob (v := .ref (He.ga K "NoWrite")) (by rfl) (TG 16 _ rfl) rfl) pa_nil))) (pa_cons (pe_callB (call_isExK (K := K)) (by rfl) T.isinstance (by decide +kernel) (pa_cons (pv 0) (pa_cons (pe_glob (v := .ref (He.ga K "Rejected")) (by rfl) (TG 17 _ rfl) rfl) pa_nil))) (pa_cons (pe_callB (call_isExK (K := K)) (by rfl) T.isinstance (by decide +kernel) (pa_cons (pv 0) (pa_cons (pe_glob (v := .ref (He.ga K "Offline")) (by rfl) (TG 18 _ rfl) rfl) pa_nil))) pa_nil))))))
  (pss_cons (ps_set (i := 1) sc_law_classes.nd rfl (Or.inl rfl) (pe_op op_cat (pv 1) (pe_lst (pa_cons (pe_callB (call_isExK (K := K)) (by rfl) T.isinstance (by decide +kernel) (pa_cons (pv 0) (pa_cons (pe_glob (v := .ref (He.ga K "BadTemplate")) (by rfl) (TG 19 _ rfl) rfl) pa_nil))) (pa_cons (pe_callB (call_isExK (K := K)) (by rfl) T.isinstance (by decide +kernel) (pa_cons (pv 0) (pa_cons (pe_glob (v := .ref (He.ga K "BadValues")) (by rfl) (TG 20 _ rfl) rfl) pa_nil))) (pa_cons (pe_callB (call_isExK (K := K)) (by rfl) T.isinstance (by decide +kernel) (pa_cons (pv 0) (pa_cons (pe_glob (v := .ref (He.ga K "BadCatalog")) (by rfl) (TG 21 _ rfl) rfl) pa_nil))) pa_nil))))))
  (pss_one (ps_ret (pe_op op_cat (pv 1) (pe_lst (pa_cons (pe_callB (call_isExK (K := K)) (by rfl) T.isinstance (by decide +kernel) (pa_cons (pv 0) (pa_cons (pe_glob (v := .ref (He.ga K "BadCover")) (by rfl) (TG 22 _ rfl) rfl) pa_nil))) pa_nil)))))))))))), ?_⟩
    refine st_seq2 (asg_lst (cls_ok (K := K) (i := 0) (b := b) (xs := ["BadField", "UnknownField", "BadWord", "BadKind"]) rfl ha hd hT (fun x hx => hb x (all_sub 0 4 hx)) (lst_ok (by simp) fun l1 H1 n1 s1 h1 => ?_)))
    dsimp only
    refine st_seq2 ((asg_any ⟨_, rfl, lst_any (cls_ok (K := K) (i := 0) (b := b) (xs := ["UnknownKind", "BadResource", "BadCount"]) rfl (s1 _ _ ha) (fun d e => let ⟨fs, z⟩ := hd d e; ⟨fs, s1 _ _ z⟩) hT (fun x hx => hb x (all_sub 4 3 hx)) (rcat_lst h1 (by simp) fun l2 H2 n2 s2 h2 => ?_))⟩))
    have n2 : H l2 = none := (s1).free n2
    have s2 := s1.trans s2
    dsimp only
    refine st_seq2 ((asg_any ⟨_, rfl, lst_any (cls_ok (K := K) (i := 0) (b := b) (xs := ["BadTag", "BadValue", "Unlabelled"]) rfl (s2 _ _ ha) (fun d e => let ⟨fs, z⟩ := hd d e; ⟨fs, s2 _ _ z⟩) hT (fun x hx => hb x (all_sub 7 3 hx)) (rcat_lst h2 (by simp) fun l3 H3 n3 s3 h3 => ?_))⟩))
    have n3 : H l3 = none := (s2).free n3
    have s3 := s2.trans s3
    dsimp only
    refine st_seq2 ((asg_any ⟨_, rfl, lst_any (cls_ok (K := K) (i := 0) (b := b) (xs := ["BadFlag", "BadCopies", "UnknownTemplate"]) rfl (s3 _ _ ha) (fun d e => let ⟨fs, z⟩ := hd d e; ⟨fs, s3 _ _ z⟩) hT (fun x hx => hb x (all_sub 10 3 hx)) (rcat_lst h3 (by simp) fun l4 H4 n4 s4 h4 => ?_))⟩))
    have n4 : H l4 = none := (s3).free n4
    have s4 := s3.trans s4
    dsimp only
    refine st_seq2 ((asg_any ⟨_, rfl, lst_any (cls_ok (K := K) (i := 0) (b := b) (xs := ["BadVariable", "BadStep", "BadText"]) rfl (s4 _ _ ha) (fun d e => let ⟨fs, z⟩ := hd d e; ⟨fs, s4 _ _ z⟩) hT (fun x hx => hb x (all_sub 13 3 hx)) (rcat_lst h4 (by simp) fun l5 H5 n5 s5 h5 => ?_))⟩))
    have n5 : H l5 = none := (s4).free n5
    have s5 := s4.trans s5
    dsimp only
    refine st_seq2 ((asg_any ⟨_, rfl, lst_any (cls_ok (K := K) (i := 0) (b := b) (xs := ["NoWrite", "Rejected", "Offline"]) rfl (s5 _ _ ha) (fun d e => let ⟨fs, z⟩ := hd d e; ⟨fs, s5 _ _ z⟩) hT (fun x hx => hb x (all_sub 16 3 hx)) (rcat_lst h5 (by simp) fun l6 H6 n6 s6 h6 => ?_))⟩))
    have n6 : H l6 = none := (s5).free n6
    have s6 := s5.trans s6
    dsimp only
    refine st_seq2 ((asg_any ⟨_, rfl, lst_any (cls_ok (K := K) (i := 0) (b := b) (xs := ["BadTemplate", "BadValues", "BadCatalog"]) rfl (s6 _ _ ha) (fun d e => let ⟨fs, z⟩ := hd d e; ⟨fs, s6 _ _ z⟩) hT (fun x hx => hb x (all_sub 19 3 hx)) (rcat_lst h6 (by simp) fun l7 H7 n7 s7 h7 => ?_))⟩))
    have n7 : H l7 = none := (s6).free n7
    have s7 := s6.trans s7
    dsimp only
    refine (ret_any ⟨_, rfl, lst_any (cls_ok (K := K) (i := 0) (b := b) (xs := ["BadCover"]) rfl (s7 _ _ ha) (fun d e => let ⟨fs, z⟩ := hd d e; ⟨fs, s7 _ _ z⟩) hT (fun x hx => hb x (all_sub 22 1 hx)) (rcat_lst h7 (by simp) fun l8 H8 n8 s8 h8 => ?_))⟩)
    have n8 : H l8 = none := (s7).free n8
    have s8 := s7.trans s8
    exact kk _ _ n8 s8 h8
end
end Sm
namespace Sm
open PySem PySem.Spec PyProof.Rows L2
abbrev slaw : Stmt := top 36
theorem sclaw : FnScope ["_law_script", "_law_state", "_law_turn", "_law_x", "_law_y", "_law_ones", "_law_twos", "_law_named", "_law_bare", "_law_z", "_law_made", "_law_row", "_law_pairs", "_law_k", "_law_e", "_law_base", "_law_told", "_law_pair", "_law_at"] ["_law_script"] (defScope slaw) := ⟨rfl, rfl, rfl, by decide +kernel, rfl, by decide +kernel, by decide +kernel⟩

structure TxtL (P : Program) (w : World) (K : PySem.W.Frag) (mg : Str → Option Value) (base : Heap) : Prop where
  MP2 : ∀ (i : Nat) (q : Str × Str × Str), twos[i]? = some q → ExM P w K mg base q.1 (He.ga K q.1) 2 [] gK1 (spI2 K (He.ga K q.1) q.2.1 q.2.2)
  MK2 : ∀ (i : Nat) (q : Str × Str × Str), twos[i]? = some q → ExM P w K mg base q.1 (He.ga K q.1) 0 [q.2.2, q.2.1] (fun vs zs => vs ++ zs.reverse) (spI2 K (He.ga K q.1) q.2.1 q.2.2)
  T0 : ∀ (i : Nat) (x : Str), bare0[i]? = some x → PySem.W.excIn K (He.ga K x) He.veBase "ValueError.__new__" = true ∧ mg x = some (.ref (He.ga K x)) ∧ PySem.W.keepIn K (.ref (He.ga K x)) = true
  K2 : ∀ q ∈ twos, ExK K (He.ga K q.1) ∧ PySem.W.findIn K (.ref (He.ga K q.1)) q.2.1 = some none ∧ PySem.W.findIn K (.ref (He.ga K q.1)) q.2.2 = some none
  Ke : ∀ x ∈ all24, ExK K (He.ga K x)
  isC : ∀ x ∈ all24, ∀ y ∈ all23, PySem.W.kitOne K (.ref (He.ga K x)) (.ref (He.ga K y)) = some (decide (x = y))
  isS : ∀ x ∈ all24, PySem.W.kitOne K (.ref (He.ga K x)) (.ref (He.ga K "SeenError")) = some true
  isV : ∀ x ∈ all24, PySem.W.kitOne K (.ref (He.ga K x)) (.type "ValueError") = some true
structure TxtM (mg : Str → Option Value) : Prop where
  range : mg "range" = none
  list : mg "list" = none
  len : mg "len" = none
  all : mg "all" = none
  any : mg "any" = none
  isinstance : mg "isinstance" = none
  enumerate : mg "enumerate" = none
  ValueError : mg "ValueError" = none
theorem cls_lists : ∀ (j : Nat), j < 23 → ∀ (nm : Str), all23[j]? = some nm → (all23.map fun y => decide (nm = y)) = ((List.range 23).map fun (i : Nat) => decide (V.int (0 + (i : Int)) = V.int (j : Int))) ∧
    SeqAt.shaped (.list (((List.range 23).map fun (i : Nat) => decide (V.int (0 + (i : Int)) = V.int (j : Int))).map PyData.bool)) = true ∧
    PyData.eqv (.list (((List.range 23).map fun (i : Nat) => decide (V.int (0 + (i : Int)) = V.int (j : Int))).map PyData.bool)) (.list (((List.range 23).map fun (i : Nat) => decide (V.int (0 + (i : Int)) = V.int (j : Int))).map PyData.bool)) = true := by
  intro j hj nm hnm
  have h : ∀ (j : Nat), j < 23 → (all23.map fun y => decide (all23.getD j "" = y)) = ((List.range 23).map fun (i : Nat) => decide (V.int (0 + (i : Int)) = V.int (j : Int))) ∧
    SeqAt.shaped (.list (((List.range 23).map fun (i : Nat) => decide (V.int (0 + (i : Int)) = V.int (j : Int))).map PyData.bool)) = true ∧
    PyData.eqv (.list (((List.range 23).map fun (i : Nat) => decide (V.int (0 + (i : Int)) = V.int (j : Int))).map PyData.bool)) (.list (((List.range 23).map fun (i : Nat) => decide (V.int (0 + (i : Int)) = V.int (j : Int))).map PyData.bool)) = true := by decide +kernel
  have e : all23.getD j "" = nm := by
    rw [List.getD_eq_getElem?_getD, hnm]
    rfl
  have q := h j hj
  rw [e] at q
  exact q
theorem base_none : ((all23.map fun y => decide (("SeenError" : Str) = y)).any id) = false := by decide +kernel
/-- what a turn has made -/
structure Made (K : PySem.W.Frag) (G : Addr → Prop) (H : Hp) (x y : V) (l5 l6 l7 l8 L1 L2 : Addr) (us1 us2 us3 us4 us5 : List V) : Prop where
  h5 : H l5 = some (.lst [.ref L1, .ref L2])
  h6 : H l6 = some (.lst us3)
  h7 : H l7 = some (.lst us4)
  h8 : H l8 = some (.lst us5)
  h1 : H L1 = some (.lst us1)
  h2 : H L2 = some (.lst us2)
  r1 : Row1 K H x ones us1
  r2 : Row1 K H x ones us2
  r3 : Row2 K H x y twos us3
  r4 : Row2 K H x y twos us4
  r5 : RowC K H ["Offline", "BadValues", "BadCover"] us5
  ng : ¬ G l5 ∧ ¬ G l6 ∧ ¬ G l7 ∧ ¬ G l8 ∧ ¬ G L1 ∧ ¬ G L2
theorem Made.grow {K : PySem.W.Frag} {G : Addr → Prop} {H H' : Hp} {x y : V} {l5 l6 l7 l8 L1 L2 : Addr} {us1 us2 us3 us4 us5 : List V} (e : Grow G H H') (m : Made K G H x y l5 l6 l7 l8 L1 L2 us1 us2 us3 us4 us5) : Made K G H' x y l5 l6 l7 l8 L1 L2 us1 us2 us3 us4 us5 :=
  ⟨e.at m.h5 (.inr m.ng.1), e.at m.h6 (.inr m.ng.2.1), e.at m.h7 (.inr m.ng.2.2.1), e.at m.h8 (.inr m.ng.2.2.2.1), e.at m.h1 (.inr m.ng.2.2.2.2.1), e.at m.h2 (.inr m.ng.2.2.2.2.2), m.r1.grow e, m.r2.grow e, m.r3.grow e, m.r4.grow e, m.r5.grow e, m.ng⟩
def spLaw (K : PySem.W.Frag) : Sp := fun vs H Q _ => ∃ (a : Addr) (ns : List Int), vs = [.ref a] ∧ SqL K H a (ns.map V.int) ∧ ns.length ≤ 63 ∧ ∀ H', Q (.bl true) H'
section
variable {P : Program} {w : World} {K : PySem.W.Frag} {mg : Str → Option Value} {base : Heap}
theorem ok_law (T : TxtM mg) (TL : TxtL P w K mg base) (TC : TxtC K mg) {f : Addr} {fd : FuncData} (F : FnP K "law" slaw f fd) (c_law_fresh : Cal P w K mg base CX0 1 "_law_fresh" (spFresh K)) (c_law_any : Cal P w K mg base CX0 6 "_law_any" (spAny 3))
    (c_law_with_one : Cal P w K mg base CX0 3 "_law_with_one" (spRow K)) (c_law_by_place : Cal P w K mg base CX0 3 "_law_by_place" (spRow K)) (c_law_held : Cal P w K mg base CX0 3 "_law_held" (spHeld K)) (c_law_classes : Cal P w K mg base CX0 3 "_law_classes" (spCls K))
    (c_law_same : Cal P w K mg base CX0 5 "_law_same" (spSame 5)) : FnOk P w K mg base CX0 8 f fd ["_law_script"] (spLaw K) := by
  have MP2 := TL.MP2
  have MK2 := TL.MK2
  have T0 := TL.T0
  have TG := TC.TG
  refine F.ok sclaw (fun vs H Q E h => ?_) (fun cdv A outer s H vs Q E hr h => ?_)
  · obtain ⟨a, ns, rfl, _⟩ := h
    rfl
  · obtain ⟨a, ns, rfl, hS, hlen, kk⟩ := h
    refine ⟨_, PSs.nox (pss_cons (ps_set (i := 1) sclaw.nd rfl (Or.inl rfl) (pe_c c_law_fresh hr (by first | decide | omega) (by rfl) (pa_cons (pv 0) pa_nil)))
  (pss_cut (ps_for PassesOwn.never rfl (pi_range1 (by rfl) T.range (pa_cons pe_int pa_nil)) (pg_name (i := 2) sclaw.nd rfl (Or.inl rfl)) (pss_cut (ps_asg (pe_tup (pa_cons (pe_c c_law_any hr (by first | decide | omega) (by rfl) (pa_cons (pv 1) (pa_cons pe_int pa_nil))) (pa_cons (pe_c c_law_any hr (by first | decide | omega) (by rfl) (pa_cons (pv 1) (pa_cons pe_int pa_nil))) pa_nil))) (pg_tupK (K := K) rfl (pgs_cons (pg_name (i := 3) sclaw.nd rfl (Or.inr rfl)) (pgs_cons (pg_name (i := 4) sclaw.nd rfl (Or.inr rfl)) pgs_nil))))
  (pss_cons (ps_set (i := 5) sclaw.nd rfl (Or.inl rfl) (pe_lst (pa_cons (pe_c c_law_with_one hr (by first | decide | omega) (by rfl) (pa_cons (pv 3) pa_nil)) (pa_cons (pe_c c_law_by_place hr (by first | decide | omega) (by rfl) (pa_cons (pv 3) pa_nil)) pa_nil))))
  (pss_cons (ps_set (i := 6) sclaw.nd rfl (Or.inl rfl) (pe_lst (pa_cons (pe_mkE (MP2 0 ("NoWrite", "resource", "field") rfl) hr (by decide) (by rfl) (pa_cons (pv 3) (pa_cons (pv 4) pa_nil))) (pa_cons (pe_mkE (MP2 1 ("Rejected", "number", "stale") rfl) hr (by decide) (by rfl) (pa_cons (pv 3) (pa_cons (pv 4) pa_nil))) (pa_cons (pe_mkE (MP2 2 ("BadTemplate", "index", "reason") rfl) hr (by decide) (by rfl) (pa_cons (pv 3) (pa_cons (pv 4) pa_nil))) (pa_cons (pe_mkE (MP2 3 ("BadCatalog", "index", "reason") rfl) hr (by decide) (by rfl) (pa_cons (pv 3) (pa_cons (pv 4) pa_nil))) pa_nil))))))
  (pss_cons (ps_set (i := 7) sclaw.nd rfl (Or.inl rfl) (pe_lst (pa_cons (pe_mkEK (MK2 0 ("NoWrite", "resource", "field") rfl) hr (by decide) (by rfl) (pk_cons (pv 4) (pk_cons (pv 3) pk_nil))) (pa_cons (pe_mkEK (MK2 1 ("Rejected", "number", "stale") rfl) hr (by decide) (by rfl) (pk_cons (pv 4) (pk_cons (pv 3) pk_nil))) (pa_cons (pe_mkEK (MK2 2 ("BadTemplate", "index", "reason") rfl) hr (by decide) (by rfl) (pk_cons (pv 4) (pk_cons (pv 3) pk_nil))) pa_nil)))))
  (pss_cons (ps_expr (pe_bmK (K := K) PySem.F.plainAttrs_list PySem.F.slot_list_append PySem.F.type_list_append mt_append (pv 7) (pa_cons (pe_mkEK (MK2 3 ("BadCatalog", "index", "reason") rfl) hr (by decide) (by rfl) (pk_cons (pv 4) (pk_cons (pv 3) pk_nil))) pa_nil)))
  (pss_cut (ps_set (i := 8) sclaw.nd rfl (Or.inl rfl) (pe_lst (pa_cons (pe_mk0 PySem.F.excBase_ValueError (T0 0 "Offline" rfl).1 (T0 0 "Offline" rfl).2.1 (T0 0 "Offline" rfl).2.2 (by rfl)) (pa_cons (pe_mk0 PySem.F.excBase_ValueError (T0 1 "BadValues" rfl).1 (T0 1 "BadValues" rfl).2.1 (T0 1 "BadValues" rfl).2.2 (by rfl)) (pa_cons (pe_mk0 PySem.F.excBase_ValueError (T0 2 "BadCover" rfl).1 (T0 2 "BadCover" rfl).2.1 (T0 2 "BadCover" rfl).2.2 (by rfl)) pa_nil)))))
  (pss_cut (ps_for PassesOwn.never rfl (pi_listK (K := K) (pe_lst (pa_cons (pv 3) (pa_cons (pv 4) pa_nil)))) (pg_name (i := 9) sclaw.nd rfl (Or.inl rfl)) (pss_one (ps_if (pt_val (pe_callB (call_isiK' (K := K)) (by rfl) T.isinstance (by decide +kernel) (pa_cons (pv 9) (pa_cons (pe_bltn (v := .ty "list") (u := .type "list") (by rfl) T.list (by decide +kernel) rfl) pa_nil)))) (pss_one (ps_expr (pe_bmK (K := K) PySem.F.plainAttrs_list PySem.F.slot_list_append PySem.F.type_list_append mt_append (pv 9) (pa_cons pe_str pa_nil)))) pss_nil)))
  (pss_cut (ps_for PassesOwn.never rfl (pi_listK (K := K) (pv 5)) (pg_name (i := 10) sclaw.nd rfl (Or.inl rfl)) (pss_one (ps_if (pt_not (pt_val (pe_callB (call_allK (K := K) rfl) (by rfl) T.all (by decide +kernel) (pa_cons (pe_lc (own := [("_law_told", 16)]) (g := (gName 16)) rfl sclaw.nd (pi_listK (K := K) (pe_c c_law_held hr (by first | decide | omega) (by rfl) (pa_cons (pv 10) pa_nil))) (blkOk_by (own := [("_law_told", 16)]) (N := ["_law_script", "_law_state", "_law_turn", "_law_x", "_law_y", "_law_ones", "_law_twos", "_law_named", "_law_bare", "_law_z", "_law_made", "_law_row", "_law_pairs", "_law_k", "_law_e", "_law_base", "_law_told", "_law_pair", "_law_at"]) (sc := defScope slaw) (by decide +kernel)) (fun _ _ _ _ _ => (pg_name (i := 16) sclaw.nd rfl (Or.inl rfl) (hf := Or.inr rfl))) (fun _ _ _ _ _ => pts_nil) (fun _ _ _ _ _ => (pe_c c_law_same hr (by first | decide | omega) (by rfl) (pa_cons (pv 16) (pa_cons (pv 3) pa_nil))))) pa_nil)))) (pss_one (ps_ret pe_bl)) pss_nil)))
  (pss_cut (ps_for PassesOwn.never rfl (pi_listK (K := K) (pe_lst (pa_cons (pv 6) (pa_cons (pv 7) pa_nil)))) (pg_name (i := 11) sclaw.nd rfl (Or.inl rfl)) (pss_cons (ps_set (i := 12) sclaw.nd rfl (Or.inl rfl) (pe_lst (pa_cons (pe_tup (pa_cons (pe_exfK (K := K) (pe_ix (ix_listK (K := K)) (pv 11) pe_int (fun _ _ => rfl))) (pa_cons (pe_exfK (K := K) (pe_ix (ix_listK (K := K)) (pv 11) pe_int (fun _ _ => rfl))) pa_nil))) (pa_cons (pe_tup (pa_cons (pe_exfK (K := K) (pe_ix (ix_listK (K := K)) (pv 11) pe_int (fun _ _ => rfl))) (pa_cons (pe_exfK (K := K) (pe_ix (ix_listK (K := K)) (pv 11) pe_int (fun _ _ => rfl))) pa_nil))) pa_nil))))
  (pss_cons (ps_set (i := 12) sclaw.nd rfl (Or.inl rfl) (pe_op op_cat (pv 12) (pe_lst (pa_cons (pe_tup (pa_cons (pe_exfK (K := K) (pe_ix (ix_listK (K := K)) (pv 11) pe_int (fun _ _ => rfl))) (pa_cons (pe_exfK (K := K) (pe_ix (ix_listK (K := K)) (pv 11) pe_int (fun _ _ => rfl))) pa_nil))) (pa_cons (pe_tup (pa_cons (pe_exfK (K := K) (pe_ix (ix_listK (K := K)) (pv 11) pe_int (fun _ _ => rfl))) (pa_cons (pe_exfK (K := K) (pe_ix (ix_listK (K := K)) (pv 11) pe_int (fun _ _ => rfl))) pa_nil))) pa_nil)))))
  (pss_one (ps_if (pt_not (pt_val (pe_callB (call_allK (K := K) rfl) (by rfl) T.all (by decide +kernel) (pa_cons (pe_lc (own := [("_law_pair", 17)]) (g := (gName 17)) rfl sclaw.nd (pi_listK (K := K) (pv 12)) (blkOk_by (own := [("_law_pair", 17)]) (N := ["_law_script", "_law_state", "_law_turn", "_law_x", "_law_y", "_law_ones", "_law_twos", "_law_named", "_law_bare", "_law_z", "_law_made", "_law_row", "_law_pairs", "_law_k", "_law_e", "_law_base", "_law_told", "_law_pair", "_law_at"]) (sc := defScope slaw) (by decide +kernel)) (fun _ _ _ _ _ => (pg_name (i := 17) sclaw.nd rfl (Or.inl rfl) (hf := Or.inr rfl))) (fun _ _ _ _ _ => pts_nil) (fun _ _ _ _ _ => (pe_c c_law_same hr (by first | decide | omega) (by rfl) (pa_cons (pv 17) (pa_cons (pe_tup (pa_cons (pv 3) (pa_cons (pv 4) pa_nil))) pa_nil))))) pa_nil)))) (pss_one (ps_ret pe_bl)) pss_nil)))))
  (pss_cons (ps_set (i := 10) sclaw.nd rfl (Or.inl rfl) (pe_op op_cat (pe_ix (ix_listK (K := K)) (pv 5) pe_int (fun _ _ => rfl)) (pe_lst (pa_cons (pe_ix (ix_listK (K := K)) (pv 6) pe_int (fun _ _ => rfl)) (pa_cons (pe_ix (ix_listK (K := K)) (pv 6) pe_int (fun _ _ => rfl)) (pa_cons (pe_ix (ix_listK (K := K)) (pv 8) pe_int (fun _ _ => rfl)) (pa_cons (pe_ix (ix_listK (K := K)) (pv 6) pe_int (fun _ _ => rfl)) (pa_cons (pe_ix (ix_listK (K := K)) (pv 8) pe_int (fun _ _ => rfl)) (pa_cons (pe_ix (ix_listK (K := K)) (pv 6) pe_int (fun _ _ => rfl)) (pa_cons (pe_ix (ix_listK (K := K)) (pv 8) pe_int (fun _ _ => rfl)) pa_nil))))))))))
  (pss_cut (ps_for PassesOwn.never rfl (pi_enumK (K := K) (by rfl) T.enumerate (pa_cons (pv 10) pa_nil)) (pg_tupK (K := K) rfl (pgs_cons (pg_name (i := 13) sclaw.nd rfl (Or.inr rfl)) (pgs_cons (pg_name (i := 14) sclaw.nd rfl (Or.inl rfl)) pgs_nil))) (pss_cut (ps_if (PW.pt (pw_or (pt_not (pt_val (pe_callB (call_isExK (K := K)) (by rfl) T.isinstance (by decide +kernel) (pa_cons (pv 14) (pa_cons (pe_glob (v := .ref (He.ga K "SeenError")) (by rfl) (TG 23 "SeenError" rfl) rfl) pa_nil))))) (pw_or1 (pt_not (pt_val (pe_callB (call_isExK (K := K)) (by rfl) T.isinstance (by decide +kernel) (pa_cons (pv 14) (pa_cons (pe_bltn (v := .ty "ValueError") (u := .type "ValueError") (by rfl) T.ValueError (by decide +kernel) rfl) pa_nil)))))))) (pss_one (ps_ret pe_bl)) pss_nil)
  (pss_one (ps_if (pt_cmpR (op_neDK (K := K) (hu64_of hr)) (pe_c c_law_classes hr (by first | decide | omega) (by rfl) (pa_cons (pv 14) pa_nil)) (pe_lc (own := [("_law_at", 18)]) (g := (gName 18)) rfl sclaw.nd (pi_range1 (by rfl) T.range (pa_cons (pe_callB (call_lenK (K := K)) (by rfl) T.len (by decide +kernel) (pa_cons (pv 10) pa_nil)) pa_nil)) (blkOk_by (own := [("_law_at", 18)]) (N := ["_law_script", "_law_state", "_law_turn", "_law_x", "_law_y", "_law_ones", "_law_twos", "_law_named", "_law_bare", "_law_z", "_law_made", "_law_row", "_law_pairs", "_law_k", "_law_e", "_law_base", "_law_told", "_law_pair", "_law_at"]) (sc := defScope slaw) (by decide +kernel)) (fun _ _ _ _ _ => (pg_name (i := 18) sclaw.nd rfl (Or.inl rfl) (hf := Or.inr rfl))) (fun _ _ _ _ _ => pts_nil) (fun _ _ _ _ _ => (pe_cmpR op_eq (pv 18) (pv 13) (nomark _)))) (nomark _)) (pss_one (ps_ret pe_bl)) pss_nil))))
  (pss_cons (ps_set (i := 15) sclaw.nd rfl (Or.inl rfl) (pe_mk0 PySem.F.excBase_ValueError (T0 3 "SeenError" rfl).1 (T0 3 "SeenError" rfl).2.1 (T0 3 "SeenError" rfl).2.2 (by rfl)))
  (pss_one (ps_if (PW.pt (pw_or (pt_val (pe_callB (call_anyK (K := K) rfl) (by rfl) T.any (by decide +kernel) (pa_cons (pe_c c_law_classes hr (by first | decide | omega) (by rfl) (pa_cons (pv 15) pa_nil)) pa_nil))) (pw_or1 (pt_not (pt_val (pe_callB (call_isExK (K := K)) (by rfl) T.isinstance (by decide +kernel) (pa_cons (pv 15) (pa_cons (pe_bltn (v := .ty "ValueError") (u := .type "ValueError") (by rfl) T.ValueError (by decide +kernel) rfl) pa_nil)))))))) (pss_one (ps_ret pe_bl)) pss_nil)))))))))))))))
  (pss_one (ps_ret pe_bl)))), ?_⟩
    -- state = fresh(script)
    refine ⟨_, rfl, a, ns, rfl, hS, hlen, fun p c H1 np nc s1 D1 => ?_⟩
    -- for turn in range(3)
    refine ⟨fun _ _ => True, ⟨3, rfl, by decide, by decide, for_range (lo := 0) (n := 3) (fun i σ' H' => (∃ v2 v3 v4 v5 v6 v7 v8 v9 v10 v11 v12 v13 v14 v15 v16 v17 v18 : Option V, σ' = [some (.ref a), some (.ref p), v2, v3, v4, v5, v6, v7, v8, v9, v10, v11, v12, v13, v14, v15, v16, v17, v18]) ∧ Dr H' p c) ⟨⟨none, none, none, none, none, none, none, none, none, none, none, none, none, none, none, none, none, rfl⟩, D1⟩ ?_ (fun _ _ _ => trivial)⟩, fun σ' H' _ => kk H'⟩
    rintro i σ' Hs hi ⟨⟨v2, v3, v4, v5, v6, v7, v8, v9, v10, v11, v12, v13, v14, v15, v16, v17, v18, rfl⟩, Ds⟩
    -- x, y = any(state, 2), any(state, 2)
    refine ⟨fun σ' H' => ∃ x y : V, σ' = [some (.ref a), some (.ref p), some (.int (0 + (i : Int))), some x, some y, v5, v6, v7, v8, v9, v10, v11, v12, v13, v14, v15, v16, v17, v18] ∧ Dr H' p c ∧ (∃ G : Addr → Prop, (∀ b, G b → Hs b = none) ∧ (∀ b, G b → ∃ o, H' b = some o) ∧ AnyD G H' 2 2 x ∧ AnyD G H' 2 2 y), ⟨_, rfl, p, c, rfl, Ds, fun x H2 o2 D2 ax => ⟨_, rfl, p, c, rfl, D2, fun y H3 o3 D3 ay => ⟨by show 2 ≤ sizeLine; decide, fun t ht => ⟨t, _, rfl, SqT.of upd_same, rfl, _, _, rfl, _, _, rfl, rfl, x, y, rfl, D3.new ht, ?_⟩⟩⟩⟩, ?_⟩
    · refine ⟨fun b => Hs b = none ∧ ∃ o, (upd H3 t (.tup [x, y])) b = some o, fun b g => g.1, fun b g => g.2, ?_, ?_⟩
      · refine ax.on fun b o g e => ?_
        have e3 : H3 b = some o := o3 b o (Ds.ne g) e
        have e4 : (upd H3 t (.tup [x, y])) b = some o := by rw [upd_ne (ne_of_none e3 ht)]; exact e3
        exact ⟨⟨g, o, e4⟩, e4⟩
      · refine ay.on fun b o g e => ?_
        have e4 : (upd H3 t (.tup [x, y])) b = some o := by rw [upd_ne (ne_of_none e ht)]; exact e
        exact ⟨⟨o2.free (D2.ne g) g, o, e4⟩, e4⟩
    rintro σ' H4 ⟨x, y, rfl, D4, G, gS, g4, ax, ay⟩
    -- ones = [with_one(x), by_place(x)]
    have nG : ∀ {l : Addr}, H4 l = none → ¬ G l := fun h g => by
      obtain ⟨o, e⟩ := g4 _ g
      rw [h] at e
      cases e
    have k2 : ∀ q ∈ twos, K2c K q := fun q hq => ⟨(TL.K2 q hq).1, (TL.K2 q hq).2.1, (TL.K2 q hq).2.2⟩
    refine st_seq2 (asg_lst ⟨_, rfl, x, rfl, fun L1 us1 H5 n1 s5 h1 r1 z1 => ⟨_, rfl, x, rfl, fun L2 us2 H6 n2 s6 h2 r2 z2 => lst_ok (by simp) fun l5 H7 n5 s7 h5 => ?_⟩⟩)
    have h1 := s7 _ _ (s6 _ _ h1)
    have h2 := s7 _ _ h2
    have r1 := (r1.on s6).on s7
    have r2 := r2.on s7
    have s7 := (s5.trans s6).trans s7
    have n2 := nG (s5.free n2)
    have n5 := nG ((s5.trans s6).free n5)
    have n1 := nG n1
    -- twos
    dsimp only
    refine st_seq2 (asg_lst (mk2P_ok (K := K) (i := 3) (j := 4) (x := x) (y := y) (qs := [("NoWrite", "resource", "field"), ("Rejected", "number", "stale"), ("BadTemplate", "index", "reason"), ("BadCatalog", "index", "reason")]) rfl rfl k2 fun us3 H8 s8 r3 => lst_ok (by rw [← r3.length]; decide) fun l6 H9 n6 s9 h6 => ?_))
    have s9' := s8.trans s9
    have n6 := nG ((s7.trans s8).free n6)
    have h1 := s9' _ _ h1
    have h2 := s9' _ _ h2
    have h5 := s9' _ _ h5
    have r1 := r1.on s9'
    have r2 := r2.on s9'
    have r3 := r3.on s9
    have s9 := s7.trans s9'
    -- named
    dsimp only
    refine st_seq2 (asg_lst (mk2K_ok (K := K) (i := 3) (j := 4) (x := x) (y := y) (qs := [("NoWrite", "resource", "field"), ("Rejected", "number", "stale"), ("BadTemplate", "index", "reason")]) rfl rfl (fun q hq => k2 q (List.mem_of_mem_take (i := 3) hq)) fun us4 Ha sa r4 => lst_ok (by rw [← r4.length]; decide) fun l7 Hb n7 sb h7 => ?_))
    have sb' := sa.trans sb
    have n7' := nG ((s9.trans sa).free n7)
    have d1 : L1 ≠ l7 := ne_of_none (sa _ _ h1) n7
    have d2 : L2 ≠ l7 := ne_of_none (sa _ _ h2) n7
    have d5 : l5 ≠ l7 := ne_of_none (sa _ _ h5) n7
    have d6 : l6 ≠ l7 := ne_of_none (sa _ _ h6) n7
    have h1 := sb' _ _ h1
    have h2 := sb' _ _ h2
    have h5 := sb' _ _ h5
    have h6 := sb' _ _ h6
    have r1 := r1.on sb'
    have r2 := r2.on sb'
    have r3 := r3.on sb'
    have r4 := r4.on sb
    have sb := s9.trans sb'
    -- named.append(BadCatalog(reason=y, index=x))
    dsimp only
    have k2c := k2 ("BadCatalog", "index", "reason") (by decide)
    refine st_seq2 ⟨_, rfl, .inl ⟨rfl, _, SqL.of h7⟩, y, rfl, x, rfl, rfl, rfl, by show 0 ≤ 1000; decide, fun e4 ne4 => ⟨e4, x, y, rfl, k2c.e.o, k2c.n1, k2c.n2, upd_same, fun Hc oc ec => ⟨rfl, l7, us4, _, rfl, rfl, ?_, ?_, ?_⟩⟩⟩
    · exact mk_same ne4 rfl oc _ _ h7
    · rw [← r4.length]; decide
    have sc := mk_same ne4 rfl oc
    have h7 := sc _ _ h7
    have gr : Grow (fun b => b = l7) Hc (upd Hc l7 (.lst (us4 ++ [.ref e4]))) := Grow.put rfl h7
    have r4 : Row2 K (upd Hc l7 (.lst (us4 ++ [.ref e4]))) x y twos (us4 ++ [.ref e4]) := by
      have q1 := (r4.on sc).grow gr
      have q2 : Row2 K (upd Hc l7 (.lst (us4 ++ [.ref e4]))) x y [("BadCatalog", "index", "reason")] [.ref e4] := .cons ⟨e4, rfl, ec.grow gr⟩ .nil
      cases q1 with
      | cons z1 t1 =>
        cases t1 with
        | cons z2 t2 =>
          cases t2 with
          | cons z3 t3 =>
            cases t3
            exact .cons z1 (.cons z2 (.cons z3 q2))
    have h1 := gr.at (sc _ _ h1) (.inr d1)
    have h2 := gr.at (sc _ _ h2) (.inr d2)
    have h5 := gr.at (sc _ _ h5) (.inr d5)
    have h6 := gr.at (sc _ _ h6) (.inr d6)
    have r1 := (r1.on sc).grow gr
    have r2 := (r2.on sc).grow gr
    have r3 := (r3.on sc).grow gr
    have g4c : Grow (fun b => b = l7) H4 (upd Hc l7 (.lst (us4 ++ [.ref e4]))) := (Grow.same (sb.trans sc)).trans gr
    have h7 : (upd Hc l7 (.lst (us4 ++ [.ref e4]))) l7 = some (.lst (us4 ++ [.ref e4])) := upd_same
    have l7n : H4 l7 = none := (s9.trans sa).free n7
    have s4c : Same H4 (upd Hc l7 (.lst (us4 ++ [.ref e4]))) := fun b o e => g4c.at e (.inr (ne_of_none e l7n))
    clear gr g4c
    generalize upd Hc l7 (.lst (us4 ++ [.ref e4])) = Hee at *
    -- bare = [Offline(), BadValues(), BadCover()]
    dsimp only
    refine ⟨fun σ' H' => ∃ l5 l6 l7 l8 L1 L2 us1 us2 us3 us4 us5, σ' = [some (.ref a), some (.ref p), some (.int (0 + (i : Int))), some x, some y, some (.ref l5), some (.ref l6), some (.ref l7), some (.ref l8), v9, v10, v11, v12, v13, v14, v15, v16, v17, v18] ∧ Same H4 H' ∧ Made K G H' x y l5 l6 l7 l8 L1 L2 us1 us2 us3 us4 us5, asg_lst (fun a1 q1 a2 q2 a3 q3 => lst_ok (by simp) fun l8 Hf n8 sf h8 => ?_), ?_⟩
    · have t1 := Same.new (o := exo a1 (He.ga K "Offline") none) q1
      have t2 := Same.new (o := exo a2 (He.ga K "BadValues") none) q2
      have t3 := Same.new (o := exo a3 (He.ga K "BadCover") none) q3
      have t := ((t1.trans t2).trans t3).trans sf
      refine ⟨l5, l6, l7, l8, L1, L2, us1, us2, us3, _, _, rfl, s4c.trans t, ⟨t _ _ h5, t _ _ h6, t _ _ h7, h8, t _ _ h1, t _ _ h2, r1.on t, r2.on t, r3.on t, r4.on t, ?_, n5, n6, n7', nG ((s4c.trans ((t1.trans t2).trans t3)).free n8), n1, n2⟩⟩
      exact .cons ⟨a1, none, rfl, sf _ _ (t3 _ _ (t2 _ _ upd_same)), fun d e => by cases e⟩ (.cons ⟨a2, none, rfl, sf _ _ (t3 _ _ upd_same), fun d e => by cases e⟩ (.cons ⟨a3, none, rfl, sf _ _ upd_same, fun d e => by cases e⟩ .nil))
    clear h1 h2 h5 h6 h7 r1 r2 r3 r4 n1 n2 n5 n6 n7' d1 d2 d5 d6
    rintro σ' Hm ⟨l5, l6, l7, l8, L1, L2, us1, us2, us3, us4, us5, rfl, sm, M⟩
    -- for z in [x, y]: if isinstance(z, list): z.append("more")
    have gp : ∀ {b : Addr}, G b → b ≠ p ∧ b ≠ c := fun g => ⟨Ds.ne (gS _ g), Ds.nec (gS _ g)⟩
    refine ⟨fun σ' H' => (∃ v9 v10 v11 v12 v13 v14 v15 v16 v17 v18 : Option V, σ' = [some (.ref a), some (.ref p), some (.int (0 + (i : Int))), some x, some y, some (.ref l5), some (.ref l6), some (.ref l7), some (.ref l8), v9, v10, v11, v12, v13, v14, v15, v16, v17, v18]) ∧ Grow G Hm H' ∧ AnyD G H' 4 2 x ∧ AnyD G H' 4 2 y ∧ Dr H' p c, ⟨_, rfl, _, rfl, by show 2 ≤ sizeLine; decide, fun zl hz => ⟨zl, rfl, ⟨_, SqL.of upd_same⟩,
      for_list (xs := [x, y]) (fun j σ' H' => (∃ v9 v10 v11 v12 v13 v14 v15 v16 v17 v18 : Option V, σ' = [some (.ref a), some (.ref p), some (.int (0 + (i : Int))), some x, some y, some (.ref l5), some (.ref l6), some (.ref l7), some (.ref l8), v9, v10, v11, v12, v13, v14, v15, v16, v17, v18]) ∧ Grow G Hm H' ∧ H' zl = some (.lst [x, y]) ∧ AnyD G H' (2 + j) 2 x ∧ AnyD G H' (2 + j) 2 y ∧ Dr H' p c) ?_ (fun j σ' H' _ q => SqL.of q.2.2.1) ?_ ?_⟩⟩, ?_⟩
    · refine ⟨⟨_, _, _, _, _, _, _, _, _, _, rfl⟩, Grow.same (Same.new hz), upd_same, ?_, ?_, (D4.same sm).new hz⟩
      · exact ax.on fun b o g e => ⟨g, by rw [upd_ne (ne_of_none (sm _ _ e) hz)]; exact sm _ _ e⟩
      · exact ay.on fun b o g e => ⟨g, by rw [upd_ne (ne_of_none (sm _ _ e) hz)]; exact sm _ _ e⟩
    · rintro j z σ' H' hj ⟨⟨v9, v10, v11, v12, v13, v14, v15, v16, v17, v18, rfl⟩, gw, hzl, bx, bY, D'⟩
      have az : AnyD G H' (2 + j) 2 z := by
        match j, hj with
        | 0, hj =>
          cases hj
          exact bx
        | 1, hj =>
          cases hj
          exact bY
        | j + 2, hj =>
          have e : (none : Option V) = some z := hj
          cases e
      have zg : ¬ G zl := fun g => by
        obtain ⟨o, e⟩ := g4 _ g
        rw [sm _ _ e] at hz
        cases hz
      have step : ∀ {H2 : Hp}, Grow G H' H2 → (∀ {v : V}, AnyD G H' (2 + j) 2 v → AnyD G H2 (2 + (j + 1)) 2 v) → Dr H2 p c → Grow G Hm H2 ∧ H2 zl = some (.lst [x, y]) ∧ AnyD G H2 (2 + (j + 1)) 2 x ∧ AnyD G H2 (2 + (j + 1)) 2 y ∧ Dr H2 p c :=
        fun a b d => ⟨gw.trans a, a.at hzl (.inr zg), b bx, b bY, d⟩
      have more : ∀ {v : V}, AnyD G H' (2 + j) 2 v → AnyD G H' (2 + (j + 1)) 2 v := fun h => h.more (by omega)
      cases az with
      | flat h =>
        refine ⟨_, rfl, ⟨_, _, _, _, _, rfl, .ty _, (flat_knd h).ty, kit_knd _ .lst, ⟨_, rfl, ?_⟩⟩⟩
        rw [flat_isi h]
        exact iteF ⟨⟨_, _, _, _, _, _, _, _, _, _, rfl⟩, step Grow.refl more D'⟩
      | lst g h hl hx =>
        refine ⟨_, rfl, ⟨_, _, _, _, _, rfl, .ty _, (KindOf.lst h).ty, kit_knd _ .lst, ⟨_, rfl, iteT ?_⟩⟩⟩
        refine ⟨_, rfl, .inl ⟨rfl, _, SqL.of h⟩, _, _, _, rfl, rfl, h, Nat.lt_of_le_of_lt hl (Nat.lt_of_lt_of_le (show 2 + j < 100000 by have := (List.getElem?_eq_some_iff.mp hj).1; simp at this; omega) (by decide)), ⟨_, _, _, _, _, _, _, _, _, _, rfl⟩, step (Grow.put g h) (fun q => q.app rfl h) (D'.upd (gp g).1 (gp g).2)⟩
      | tup g h hl hx =>
        exact ⟨_, rfl, ⟨_, _, _, _, _, rfl, .ty _, (KindOf.tup h).ty, kit_knd _ .lst, ⟨_, rfl, iteF ⟨⟨_, _, _, _, _, _, _, _, _, _, rfl⟩, step Grow.refl more D'⟩⟩⟩⟩
      | dic g h =>
        exact ⟨_, rfl, ⟨_, _, _, _, _, rfl, .ty _, (KindOf.dic h).ty, kit_knd _ .lst, ⟨_, rfl, iteF ⟨⟨_, _, _, _, _, _, _, _, _, _, rfl⟩, step Grow.refl more D'⟩⟩⟩⟩
    · rintro σ' H' ⟨e, gw, _, bx, bY, D'⟩
      exact ⟨e, gw, bx, bY, D'⟩
    rintro σ' Hn ⟨⟨v9, v10, v11, v12, v13, v14, v15, v16, v17, v18, rfl⟩, gn, bx, bY, Dn⟩
    have M := M.grow gn
    clear gn
    have sx : SameB Hn 5 x x true := (bx.same (by decide)).up 5 (by decide)
    have sy : SameB Hn 5 y y true := (bY.same (by decide)).up 5 (by decide)
    have sx4 : SameB Hn 4 x x true := (bx.same (by decide)).up 4 (by decide)
    have sy4 : SameB Hn 4 y y true := (bY.same (by decide)).up 4 (by decide)
    -- for made in ones
    refine ⟨fun σ' H' => (∃ v9 v10 v11 v12 v13 v14 v15 v16 v17 v18 : Option V, σ' = [some (.ref a), some (.ref p), some (.int (0 + (i : Int))), some x, some y, some (.ref l5), some (.ref l6), some (.ref l7), some (.ref l8), v9, v10, v11, v12, v13, v14, v15, v16, v17, v18]) ∧ Same Hn H', ⟨_, rfl, l5, rfl, ⟨_, SqL.of M.h5⟩, for_list (xs := [.ref L1, .ref L2]) (fun j σ' H' => (∃ v9 v10 v11 v12 v13 v14 v15 v16 v17 v18 : Option V, σ' = [some (.ref a), some (.ref p), some (.int (0 + (i : Int))), some x, some y, some (.ref l5), some (.ref l6), some (.ref l7), some (.ref l8), v9, v10, v11, v12, v13, v14, v15, v16, v17, v18]) ∧ Same Hn H') ⟨⟨_, _, _, _, _, _, _, _, _, _, rfl⟩, Same.refl _⟩ (fun j σ' H' _ q => SqL.of (q.2 _ _ M.h5)) ?_ (fun σ' H' q => q)⟩, ?_⟩
    · rintro j z σ' H' hj ⟨⟨v9, v10, v11, v12, v13, v14, v15, v16, v17, v18, rfl⟩, sh⟩
      obtain ⟨L, us, rfl, hL, hR⟩ : ∃ (L : Addr) (us : List V), z = .ref L ∧ Hn L = some (.lst us) ∧ Row1 K Hn x ones us := by
        match j, hj with
        | 0, hj =>
          cases hj
          exact ⟨L1, us1, rfl, M.h1, M.r1⟩
        | 1, hj =>
          cases hj
          exact ⟨L2, us2, rfl, M.h2, M.r2⟩
        | j + 2, hj =>
          have e : (none : Option V) = some z := hj
          cases e
      refine ⟨_, rfl, L, us, x, rfl, sh _ _ hL, hR.on sh, fun Lh Hh nh sh2 hh => ⟨Lh, rfl, ⟨_, SqL.of hh⟩, fun D hD => lc_list (xs := List.replicate 16 x) (fun k H2 => Same Hh H2 ∧ H2 D = some (.lst ((List.replicate k true).map V.bl))) ⟨Same.new hD, upd_same⟩ (fun k H2 _ q => SqL.of (q.1 _ _ hh)) ?_ ?_⟩⟩
      · rintro k u H2 hu ⟨s2, hD2⟩
        have eu : u = x := (List.mem_replicate.mp (List.mem_of_getElem? hu)).2
        have hk16 : k < 16 := by
          have := (List.getElem?_eq_some_iff.mp hu).1
          simpa using this
        subst eu
        refine ⟨rfl, ?_⟩
        show tCall (spSame 5) [] E0 (tCons (tVar 16) (tCons (tVar 3) tNil)) _ _ _
        refine ⟨_, rfl, _, rfl, u, u, true, rfl, sx.on ((sh.trans sh2).trans s2), fun H5 s5 => ⟨_, s5 _ _ hD2, ?_, ?_, ?_⟩⟩
        · rw [List.length_map, List.length_replicate]
          exact Nat.lt_of_lt_of_le (show k < 100 by omega) (by decide)
        · exact fun b o e => by
            have nb : b ≠ D := ne_of_none e hD
            rw [upd_ne nb]
            exact s5 b o (s2 b o e)
        · rw [upd_same, List.replicate_succ', List.map_append]
          rfl
      · rintro H2 ⟨s2, hD2⟩
        refine ⟨D, _, rfl, SqL.of hD2, _, rfl, ?_⟩
        exact iteF ⟨⟨_, _, _, _, _, _, _, _, _, _, rfl⟩, (sh.trans sh2).trans s2⟩
    rintro σ' Ho ⟨⟨v9, v10, v11, v12, v13, v14, v15, v16, v17, v18, rfl⟩, so⟩
    have n2w : ∀ q ∈ twos, q.2.1 ≠ q.2.2 := by decide +kernel
    -- for row in [twos, named]
    refine ⟨fun σ' H' => (∃ v9 v10 v11 v12 v13 v14 v15 v16 v17 v18 : Option V, σ' = [some (.ref a), some (.ref p), some (.int (0 + (i : Int))), some x, some y, some (.ref l5), some (.ref l6), some (.ref l7), some (.ref l8), v9, v10, v11, v12, v13, v14, v15, v16, v17, v18]) ∧ Same Hn H', ⟨_, rfl, _, rfl, by show 2 ≤ sizeLine; decide, fun zl hz => ⟨zl, rfl, ⟨_, SqL.of upd_same⟩, for_list (xs := [.ref l6, .ref l7]) (fun j σ' H' => (∃ v9 v10 v11 v12 v13 v14 v15 v16 v17 v18 : Option V, σ' = [some (.ref a), some (.ref p), some (.int (0 + (i : Int))), some x, some y, some (.ref l5), some (.ref l6), some (.ref l7), some (.ref l8), v9, v10, v11, v12, v13, v14, v15, v16, v17, v18]) ∧ Same Hn H' ∧ H' zl = some (.lst [.ref l6, .ref l7])) ⟨⟨_, _, _, _, _, _, _, _, _, _, rfl⟩, so.trans (Same.new hz), upd_same⟩ (fun j σ' H' _ q => SqL.of q.2.2) ?_ (fun σ' H' q => ⟨q.1, q.2.1⟩)⟩⟩, ?_⟩
    · rintro j z σ' H' hj ⟨⟨v9, v10, v11, v12, v13, v14, v15, v16, v17, v18, rfl⟩, sh, hzl⟩
      obtain ⟨L, us, rfl, hL, hR⟩ : ∃ (L : Addr) (us : List V), z = .ref L ∧ Hn L = some (.lst us) ∧ Row2 K Hn x y twos us := by
        match j, hj with
        | 0, hj =>
          cases hj
          exact ⟨l6, us3, rfl, M.h6, M.r3⟩
        | 1, hj =>
          cases hj
          exact ⟨l7, us4, rfl, M.h7, M.r4⟩
        | j + 2, hj =>
          have e : (none : Option V) = some z := hj
          cases e
      have hLs : ∀ {H2 : Hp}, Same H' H2 → SqL K H2 L us := fun s2 => SqL.of (s2 _ _ (sh _ _ hL))
      have at2 : ∀ {H2 : Hp}, Same H' H2 → ∀ {i : Nat} {q : Str × Str × Str}, twos[i]? = some q → _ := fun {H2} s2 {i q} hq => row2_at (hR.on (sh.trans s2)) k2 n2w hq
      -- pairs = [(row[0].resource, row[0].field), (row[1].number, row[1].stale)]
      refine st_seq2 (asg_lst (exf_ok 0 rfl (hLs (Same.refl _)) (at2 (Same.refl _) (i := 0) (q := ("NoWrite", "resource", "field")) rfl).1 (exf_ok 0 rfl (hLs (Same.refl _)) (at2 (Same.refl _) (i := 0) (q := ("NoWrite", "resource", "field")) rfl).2 ⟨by show 2 ≤ sizeLine; decide, fun t0 q0 => ?_⟩)))
      have w0 := Same.new (o := .tup [x, y]) q0
      refine exf_ok 1 rfl (hLs w0) (at2 w0 (i := 1) (q := ("Rejected", "number", "stale")) rfl).1 (exf_ok 1 rfl (hLs w0) (at2 w0 (i := 1) (q := ("Rejected", "number", "stale")) rfl).2 ⟨by show 2 ≤ sizeLine; decide, fun t1 q1 => lst_ok (by simp) fun lp Hp1 np sp hp => ?_⟩)
      have w1 := (w0.trans (Same.new (o := .tup [x, y]) q1)).trans sp
      have ht0 : Hp1 t0 = some (.tup [x, y]) := sp _ _ ((Same.new q1) _ _ upd_same)
      have ht1 : Hp1 t1 = some (.tup [x, y]) := sp _ _ upd_same
      -- pairs = pairs + [..]
      dsimp only
      refine st_seq2 (asg_any ⟨_, rfl, lst_any (exf_ok 2 rfl (hLs w1) (at2 w1 (i := 2) (q := ("BadTemplate", "index", "reason")) rfl).1 (exf_ok 2 rfl (hLs w1) (at2 w1 (i := 2) (q := ("BadTemplate", "index", "reason")) rfl).2 ⟨by show 2 ≤ sizeLine; decide, fun t2 q2 => ?_⟩))⟩)
      have w2 := Same.new (o := .tup [x, y]) q2
      refine exf_ok 3 rfl (hLs (w1.trans w2)) (at2 (w1.trans w2) (i := 3) (q := ("BadCatalog", "index", "reason")) rfl).1 (exf_ok 3 rfl (hLs (w1.trans w2)) (at2 (w1.trans w2) (i := 3) (q := ("BadCatalog", "index", "reason")) rfl).2 ⟨by show 2 ≤ sizeLine; decide, fun t3 q3 => rcat_lst (l := lp) (xs := [.ref t0, .ref t1]) ?_ (by simp) fun lq Hq nq sq hq => ?_⟩)
      · exact (w2.trans (Same.new q3)) _ _ hp
      have w3 := (w2.trans (Same.new (o := .tup [x, y]) q3)).trans sq
      have ht0 := w3 _ _ ht0
      have ht1 := w3 _ _ ht1
      have ht2 : Hq t2 = some (.tup [x, y]) := sq _ _ ((Same.new q3) _ _ upd_same)
      have ht3 : Hq t3 = some (.tup [x, y]) := sq _ _ upd_same
      have hall : ∀ u ∈ [V.ref t0, V.ref t1, V.ref t2, V.ref t3], ∃ t, u = .ref t ∧ Hq t = some (.tup [x, y]) := by
        intro u hu
        simp only [List.mem_cons, List.not_mem_nil, or_false] at hu
        rcases hu with rfl | rfl | rfl | rfl <;> exact ⟨_, rfl, by assumption⟩
      have sq' := (sh.trans w1).trans w3
      -- all(same(pair, (x, y)) ..)
      dsimp only
      refine ⟨_, rfl, lq, rfl, ⟨_, SqL.of hq⟩, fun D hD => lc_list (xs := [V.ref t0, V.ref t1, V.ref t2, V.ref t3]) (fun k H2 => Same Hq H2 ∧ H2 D = some (.lst ((List.replicate k true).map V.bl))) ⟨Same.new hD, upd_same⟩ (fun k H2 _ q => SqL.of (q.1 _ _ hq)) ?_ ?_⟩
      · rintro k u H2 hu ⟨s2, hD2⟩
        obtain ⟨t, rfl, ht⟩ := hall u (List.mem_of_getElem? hu)
        have hk4 : k < 4 := (List.getElem?_eq_some_iff.mp hu).1
        refine ⟨rfl, ?_⟩
        show tCall (spSame 5) [] E0 (tCons (tVar 17) (tCons (tTup (tCons (tVar 3) (tCons (tVar 4) tNil))) tNil)) _ _ _
        refine ⟨_, rfl, _, rfl, _, rfl, by show 2 ≤ sizeLine; decide, fun tn hn => ⟨_, _, true, rfl, ?_, fun H5 s5 => ⟨_, s5 _ _ ((Same.new hn) _ _ hD2), ?_, ?_, ?_⟩⟩⟩
        · have sa2 : Same Hn (upd H2 tn (.tup [x, y])) := (sq'.trans s2).trans (Same.new hn)
          have q := SameB.tup (n := 4) (bs := [true, true]) ((Same.new (o := .tup [x, y]) hn) _ _ (s2 _ _ ht)) (upd_same (H := H2) (a := tn) (o := .tup [x, y])) rfl rfl (by show 2 ≤ 10000; decide) (by
            intro i u v b h1 h2 h3
            match i, h1, h2, h3 with
            | 0, h1, h2, h3 =>
              cases h1; cases h2; cases h3
              exact sx4.on sa2
            | 1, h1, h2, h3 =>
              cases h1; cases h2; cases h3
              exact sy4.on sa2
            | i + 2, h1, h2, h3 =>
              have e : (none : Option V) = some u := h1
              cases e)
          exact q
        · rw [List.length_map, List.length_replicate]
          exact Nat.lt_of_lt_of_le (show k < 100 by omega) (by decide)
        · exact fun b o e => by
            have nb : b ≠ D := ne_of_none e hD
            rw [upd_ne nb]
            exact s5 b o ((Same.new hn) b o (s2 b o e))
        · rw [upd_same, List.replicate_succ', List.map_append]
          rfl
      · rintro H2 ⟨s2, hD2⟩
        refine ⟨D, _, rfl, SqL.of hD2, _, rfl, ?_⟩
        exact iteF ⟨⟨_, _, _, _, _, _, _, _, _, _, rfl⟩, sq'.trans s2, s2 _ _ (w3 _ _ (w1 _ _ hzl))⟩
    rintro σ' Hr ⟨⟨v9, v10, v11, v12, v13, v14, v15, v16, v17, v18, rfl⟩, sr⟩
    -- made = ones[0] + [..]
    have rC1 := M.r1.toC
    have h8 := M.h8
    have h6 := M.h6
    obtain ⟨w0, w1, w2, rfl, c0, c1, c2⟩ : ∃ w0 w1 w2 : V, us5 = [w0, w1, w2] ∧ IsEx Hn w0 (He.ga K "Offline") ∧ IsEx Hn w1 (He.ga K "BadValues") ∧ IsEx Hn w2 (He.ga K "BadCover") := by
      have r5 := M.r5
      cases r5 with
      | cons c0 r5 =>
      cases r5 with
      | cons c1 r5 =>
      cases r5 with
      | cons c2 r5 =>
      cases r5
      exact ⟨_, _, _, rfl, c0, c1, c2⟩
    have isE : ∀ {q : Str × Str × Str} {u : V}, (∃ a, u = .ref a ∧ E1 Hn a (He.ga K q.1) [(q.2.2, y), (q.2.1, x)]) → IsEx Hn u (He.ga K q.1) := fun ⟨a, e, z⟩ => by
      rw [e]
      exact z.is
    obtain ⟨u0, u1, u2, u3, rfl, e0, e1, e2, e3⟩ : ∃ u0 u1 u2 u3 : V, us3 = [u0, u1, u2, u3] ∧ IsEx Hn u0 (He.ga K "NoWrite") ∧ IsEx Hn u1 (He.ga K "Rejected") ∧ IsEx Hn u2 (He.ga K "BadTemplate") ∧ IsEx Hn u3 (He.ga K "BadCatalog") := by
      have r3 := M.r3
      cases r3 with
      | cons e0 r3 =>
      cases r3 with
      | cons e1 r3 =>
      cases r3 with
      | cons e2 r3 =>
      cases r3 with
      | cons e3 r3 =>
      cases r3
      exact ⟨_, _, _, _, rfl, isE e0, isE e1, isE e2, isE e3⟩
    have rC : RowC K Hn all23 (us1 ++ [u0, u1, w0, u2, w1, u3, w2]) :=
      RowC.append (ys := ["NoWrite", "Rejected", "Offline", "BadTemplate", "BadValues", "BadCatalog", "BadCover"]) rC1 (.cons e0 (.cons e1 (.cons c0 (.cons e2 (.cons c1 (.cons e3 (.cons c2 .nil)))))))
    have len1 : us1.length = 16 := by rw [← M.r1.length]; rfl
    have h5r := sr _ _ M.h5
    have h1r := sr _ _ M.h1
    have h6r := sr _ _ h6
    have h8r := sr _ _ h8
    refine st_seq2 (asg_any ⟨_, rfl, l5, _, _, _, rfl, rfl, SqL.of h5r, rfl, lst_any ⟨_, rfl, l6, _, _, _, rfl, rfl, SqL.of h6r, rfl, _, rfl, l6, _, _, _, rfl, rfl, SqL.of h6r, rfl, _, rfl, l8, _, _, _, rfl, rfl, SqL.of h8r, rfl, _, rfl, l6, _, _, _, rfl, rfl, SqL.of h6r, rfl,
      _, rfl, l8, _, _, _, rfl, rfl, SqL.of h8r, rfl, _, rfl, l6, _, _, _, rfl, rfl, SqL.of h6r, rfl, _, rfl, l8, _, _, _, rfl, rfl, SqL.of h8r, rfl, rcat_lst h1r (by rw [len1]; show 16 + 7 ≤ 1000; decide) fun lm Ht nt st hm => ?_⟩⟩)
    have rC := (rC.on sr).on st
    have sn := sr.trans st
    -- for k, e in enumerate(made)
    dsimp only
    have lenA : (us1 ++ [u0, u1, w0, u2, w1, u3, w2]).length = 23 := by rw [List.length_append, len1]; rfl
    refine ⟨fun σ' H' => (∃ v9 v11 v12 v13 v14 v15 v16 v17 v18 : Option V, σ' = [some (.ref a), some (.ref p), some (.int (0 + (i : Int))), some x, some y, some (.ref l5), some (.ref l6), some (.ref l7), some (.ref l8), v9, some (.ref lm), v11, v12, v13, v14, v15, v16, v17, v18]) ∧ Same Ht H', ⟨_, rfl, lm, _, rfl, SqL.of hm, for_it (walk_enum (xs := us1 ++ [u0, u1, w0, u2, w1, u3, w2])) (fun j σ' H' => (∃ v9 v11 v12 v13 v14 v15 v16 v17 v18 : Option V, σ' = [some (.ref a), some (.ref p), some (.int (0 + (i : Int))), some x, some y, some (.ref l5), some (.ref l6), some (.ref l7), some (.ref l8), v9, some (.ref lm), v11, v12, v13, v14, v15, v16, v17, v18]) ∧ Same Ht H') ⟨⟨_, _, _, _, _, _, _, _, _, rfl⟩, Same.refl _⟩ (fun j σ' H' _ q => SqL.of (q.2 _ _ hm)) ?_ (fun σ' H' q => q)⟩, ?_⟩
    · rintro j z σ' G1 G2 hj ⟨⟨v9, v11, v12, v13, v14, v15, v16, v17, v18, rfl⟩, sg⟩ ⟨T', kx, e, rfl, hT, rfl, hk, he⟩
      cases hk
      rw [lenA] at hj
      obtain ⟨nm, hnm, hex⟩ := paired_get rC he
      have st2 := Same.new (o := .tup [.int (j : Nat), e]) hT
      have hex2 := (hex.on sg).on st2
      obtain ⟨ea, od, rfl, x1, x2⟩ := hex2
      have m23 : nm ∈ all23 := List.mem_of_getElem? hnm
      have m24 : nm ∈ all24 := List.mem_append_left _ m23
      refine ⟨T', _, rfl, SqT.of upd_same, rfl, _, _, rfl, _, _, rfl, rfl, ?_⟩
      -- if not isinstance(e, SeenError) or not isinstance(e, ValueError)
      refine ⟨fun σ2 H2 => σ2 = [some (.ref a), some (.ref p), some (.int (0 + (i : Int))), some x, some y, some (.ref l5), some (.ref l6), some (.ref l7), some (.ref l8), v9, some (.ref lm), v11, v12, some (.int (j : Nat)), some (.ref ea), v15, v16, v17, v18] ∧ H2 = upd G1 T' (.tup [.int (j : Nat), .ref ea]), ?_, ?_⟩
      · refine ⟨_, rfl, ea, _, od, _, _, true, rfl, x1, x2, TL.Ke nm m24, .own _, TL.isS nm m24, _, rfl, iteF ?_⟩
        exact ⟨_, rfl, ea, _, od, _, _, true, rfl, x1, x2, TL.Ke nm m24, .ty _, TL.isV nm m24, _, rfl, iteF ⟨rfl, rfl⟩⟩
      rintro σ2 H2 ⟨rfl, rfl⟩
      -- if classes(e) != [at == k for at in range(len(made))]
      refine ⟨_, rfl, ea, _, od, fun y => decide (nm = y), rfl, x1, x2, TL.Ke nm m24, fun y hy => TL.isC nm m24 y hy, fun Lc Hc nc sc hc => ?_⟩
      have s2c := (sg.trans st2).trans sc
      refine ⟨_, rfl, lm, _, rfl, .inl (SqL.of (s2c _ _ hm)), _, rfl, by rw [lenA]; decide, by rw [lenA]; decide, fun D hD => lc_range (lo := 0) (fun k H2 => Same Hc H2 ∧ H2 D = some (.lst (((List.range k).map fun (i : Nat) => decide (V.int (0 + (i : Int)) = V.int (j : Int))).map V.bl))) ⟨Same.new hD, upd_same⟩ ?_ ?_⟩
      · rintro k H2 hk2 ⟨s2, hD2⟩
        rw [lenA] at hk2
        have k23 : k < 23 := hk2
        refine ⟨rfl, ?_⟩
        show tOp rEq (tVar 18) (tVar 13) _ _ _
        refine ⟨_, rfl, _, rfl, rfl, _, hD2, ?_, ?_, ?_⟩
        · rw [List.length_map, List.length_map, List.length_range]
          exact Nat.lt_of_lt_of_le (show k < 100 by omega) (by decide)
        · exact fun b o e => by
            have nb : b ≠ D := ne_of_none e hD
            rw [upd_ne nb]
            exact s2 b o e
        · rw [upd_same, List.range_succ, List.map_append, List.map_append]
          rfl
      · rintro H2 ⟨s2, hD2⟩
        have en : ((us1 ++ [u0, u1, w0, u2, w1, u3, w2]).length : Int).toNat = 23 := by rw [lenA]; rfl
        rw [en] at hD2
        have key := cls_lists j hj nm hnm
        have hc2 : H2 Lc = some (.lst (((List.range 23).map fun (i : Nat) => decide (V.int (0 + (i : Int)) = V.int (j : Int))).map V.bl)) := by
          have q := s2 _ _ hc
          rw [← key.1, List.map_map]
          exact q
        exact ne_bools hc2 hD2 key.2.1 key.2.2 (iteF ⟨⟨_, _, _, _, _, _, _, _, _, rfl⟩, s2c.trans s2⟩)
    rintro σ' Hv ⟨⟨v9, v11, v12, v13, v14, v15, v16, v17, v18, rfl⟩, sv⟩
    -- base = SeenError()
    refine st_seq2 (asg_any fun ab nb => ?_)
    have mS : ("SeenError" : Str) ∈ all24 := by decide
    dsimp only
    have xb : (upd Hv ab (exo ab (He.ga K "SeenError") none)) ab = some (exo ab (He.ga K "SeenError") none) := upd_same
    have sb2 := Same.new (o := exo ab (He.ga K "SeenError") none) nb
    refine ⟨_, rfl, ab, _, none, fun y => decide (("SeenError" : Str) = y), rfl, xb, (fun d e => by cases e), TL.Ke _ mS, fun y hy => TL.isC _ mS y hy, fun Lc Hc nc sc hc => ?_⟩
    refine ⟨Lc, all23.map fun y => decide (("SeenError" : Str) = y), rfl, SqL.of (by rw [List.map_map]; exact hc), _, rfl, ?_⟩
    rw [base_none]
    refine iteF ⟨_, rfl, ab, _, none, _, _, true, rfl, sc _ _ xb, (fun d e => by cases e), TL.Ke _ mS, .ty _, TL.isV _ mS, _, rfl, iteF ?_⟩
    exact ⟨⟨_, _, _, _, _, _, _, _, _, _, _, _, _, _, _, _, _, rfl⟩, Dn.same ((((sn.trans sv).trans sb2).trans sc))⟩
end
end Sm
namespace Sm
open PySem PySem.Spec PyProof.Rows L2
/-! ### the head: what the classes must say, as one Bool -/
def exoB (C : Addr) (o : Obj) : Bool :=
  match o.cls, o.data, o.slots with
  | .type t, .cls cd, ⟨[_, _, _, _, some (.builtin b), _]⟩ => decide (t = "type") && (decide (b = "ValueError.__new__") && (cd.hasDict && ((!cd.hasDel) && (match cd.mro with
    | .ref m :: bm => decide (m = C) && PySem.HandSPX.refsVE bm
    | _ => false))))
  | _, _, _ => false
theorem exoB_ok {C : Addr} {o : Obj} (h : exoB C o = true) : ∃ nm q N bs bm sn sub ab col dd k0 k1 k2 k3 k5, o = PySem.excClassObj nm q C N bs bm true sn sub ab col dd k0 k1 k2 k3 k5 "ValueError.__new__" ∧ PySem.HandSPX.refsVE bm = true := by
  obtain ⟨oc, dd, da, sl⟩ := o
  unfold exoB at h
  dsimp only at h
  split at h
  · rename_i t cd k0 k1 k2 k3 b k5
    obtain ⟨h1, h⟩ := He.ba h
    obtain ⟨h2, h⟩ := He.ba h
    obtain ⟨h3, h⟩ := He.ba h
    obtain ⟨h4, h⟩ := He.ba h
    obtain ⟨nm, bs, mro, ns, qn, hdct, sn, sub, ab, col, del⟩ := cd
    dsimp only at h h3 h4
    split at h
    · rename_i m bm
      obtain ⟨h5, h6⟩ := He.ba h
      have e1 := of_decide_eq_true h1
      have e2 := of_decide_eq_true h2
      have e5 := of_decide_eq_true h5
      cases del with
      | true => cases h4
      | false =>
        subst e1 e2 e5 h3
        exact ⟨_, _, _, _, _, _, _, _, _, _, _, _, _, _, _, rfl, h6⟩
    · cases h
  · cases h
def oexB (K : PySem.W.Frag) (C : Addr) : Bool := (match List.lookup C K with
    | some o => exoB C o
    | none => false) && (He.eqO (PySem.W.findIn K (.ref C) "__setattr__") (some (some (.builtin "object.__setattr__"))) && (decide (PySem.W.subIn K (.ref C) (.type "BaseException") = some true) && (decide (PySem.W.typeIn K (.ref C) = some (.type "type")) && PySem.W.keepIn K (.ref C))))
theorem oexB_ok {K : PySem.W.Frag} {C : Addr} (h : oexB K C = true) : OexC K C := by
  obtain ⟨h1, h⟩ := He.ba h
  obtain ⟨h2, h⟩ := He.ba h
  obtain ⟨h3, h⟩ := He.ba h
  obtain ⟨h4, h5⟩ := He.ba h
  refine ⟨?_, He.eqO_ok h2, of_decide_eq_true h3, of_decide_eq_true h4, h5⟩
  split at h1
  · rename_i o ho
    obtain ⟨nm, q, N, bs, bm, sn, sub, ab, col, dd, k0, k1, k2, k3, k5, e, hb⟩ := exoB_ok h1
    subst e
    exact ⟨nm, q, N, bs, bm, sn, sub, ab, col, dd, k0, k1, k2, k3, k5, ho, hb⟩
  · cases h1
def excB (K : PySem.W.Frag) (D : Addr) : Bool :=
  He.eqO (PySem.W.findIn K (.ref D) "__getattribute__") (some (some (.builtin "BaseException.__getattribute__"))) && (He.eqO (PySem.W.findIn K (.ref D) "__getattr__") (some none) && (decide (PySem.W.subIn K (.ref D) (.type "BaseException") = some true) && (PySem.W.hasDictIn K D &&
    (He.eqO (PySem.W.findIn K (.ref D) "__class__") (some (some (.builtin "object.__class__"))) && (He.eqO (PySem.W.specialIn K (.builtin "object.__class__") "__get__") (some (some (.builtin "getset_descriptor.__get__"))) && (decide (PySem.W.takesIn K (.builtin "object.__class__") = some true) && decide (PySem.W.mroIn K D (.type "object") = some true)))))))
theorem excB_ok {K : PySem.W.Frag} {D : Addr} (h : excB K D = true) : ExcC K D := by
  obtain ⟨h1, h⟩ := He.ba h
  obtain ⟨h2, h⟩ := He.ba h
  obtain ⟨h3, h⟩ := He.ba h
  obtain ⟨h4, h⟩ := He.ba h
  obtain ⟨h5, h⟩ := He.ba h
  obtain ⟨h6, h⟩ := He.ba h
  obtain ⟨h7, h8⟩ := He.ba h
  exact ⟨He.eqO_ok h1, He.eqO_ok h2, of_decide_eq_true h3, h4, He.eqO_ok h5, He.eqO_ok h6, of_decide_eq_true h7, of_decide_eq_true h8⟩
def clsB (K : PySem.W.Frag) (x : Str) : Bool := oexB K (He.ga K x) && (excB K (He.ga K x) && (decide (PySem.W.kitOne K (.ref (He.ga K x)) (.ref (He.ga K "SeenError")) = some true) && (decide (PySem.W.kitOne K (.ref (He.ga K x)) (.type "ValueError") = some true) && (all23.all fun y => decide (PySem.W.kitOne K (.ref (He.ga K x)) (.ref (He.ga K y)) = some (decide (x = y)))))))
def iniB (K : PySem.W.Frag) (x : Str) : Bool := He.eqO (PySem.W.findIn K (.ref (He.ga K x)) "__init__") (some (some (.ref (He.ma K (He.ga K x) "__init__")))) && decide (PySem.W.typeIn K (.ref (He.ma K (He.ga K x) "__init__")) = some (.type "function"))
def oneB (K : PySem.W.Frag) (q : Str × Str) : Bool := iniB K q.1 && He.eqO (PySem.W.findIn K (.ref (He.ga K q.1)) q.2) (some none)
def twoB (K : PySem.W.Frag) (q : Str × Str × Str) : Bool := iniB K q.1 && (He.eqO (PySem.W.findIn K (.ref (He.ga K q.1)) q.2.1) (some none) && He.eqO (PySem.W.findIn K (.ref (He.ga K q.1)) q.2.2) (some none))
def exB (K : PySem.W.Frag) : Bool := (all24.all fun x => clsB K x) && ((ones.all fun q => oneB K q) && (twos.all fun q => twoB K q))
theorem iniB_ok {K : PySem.W.Frag} {x : Str} (h : iniB K x = true) : PySem.W.findIn K (.ref (He.ga K x)) "__init__" = some (some (.ref (He.ma K (He.ga K x) "__init__"))) ∧ PySem.W.typeIn K (.ref (He.ma K (He.ga K x) "__init__")) = some (.type "function") := by
  obtain ⟨h1, h2⟩ := He.ba h
  exact ⟨He.eqO_ok h1, of_decide_eq_true h2⟩
/-- the Bool in words -/
structure Says (K : PySem.W.Frag) : Prop where
  Ke : ∀ x ∈ all24, ExK K (He.ga K x)
  isC : ∀ x ∈ all24, ∀ y ∈ all23, PySem.W.kitOne K (.ref (He.ga K x)) (.ref (He.ga K y)) = some (decide (x = y))
  isS : ∀ x ∈ all24, PySem.W.kitOne K (.ref (He.ga K x)) (.ref (He.ga K "SeenError")) = some true
  isV : ∀ x ∈ all24, PySem.W.kitOne K (.ref (He.ga K x)) (.type "ValueError") = some true
  I1 : ∀ q ∈ ones, (PySem.W.findIn K (.ref (He.ga K q.1)) "__init__" = some (some (.ref (He.ma K (He.ga K q.1) "__init__"))) ∧ PySem.W.typeIn K (.ref (He.ma K (He.ga K q.1) "__init__")) = some (.type "function")) ∧ PySem.W.findIn K (.ref (He.ga K q.1)) q.2 = some none
  I2 : ∀ q ∈ twos, (PySem.W.findIn K (.ref (He.ga K q.1)) "__init__" = some (some (.ref (He.ma K (He.ga K q.1) "__init__"))) ∧ PySem.W.typeIn K (.ref (He.ma K (He.ga K q.1) "__init__")) = some (.type "function")) ∧ PySem.W.findIn K (.ref (He.ga K q.1)) q.2.1 = some none ∧ PySem.W.findIn K (.ref (He.ga K q.1)) q.2.2 = some none
theorem exB_ok {K : PySem.W.Frag} (h : exB K = true) : Says K := by
  obtain ⟨h1, h⟩ := He.ba h
  obtain ⟨h2, h3⟩ := He.ba h
  have c1 : ∀ x ∈ all24, clsB K x = true := fun x hx => List.all_eq_true.mp h1 x hx
  have cc : ∀ x ∈ all24, ExK K (He.ga K x) ∧ PySem.W.kitOne K (.ref (He.ga K x)) (.ref (He.ga K "SeenError")) = some true ∧ PySem.W.kitOne K (.ref (He.ga K x)) (.type "ValueError") = some true ∧ ∀ y ∈ all23, PySem.W.kitOne K (.ref (He.ga K x)) (.ref (He.ga K y)) = some (decide (x = y)) := fun x hx => by
    obtain ⟨a1, a⟩ := He.ba (c1 x hx)
    obtain ⟨a2, a⟩ := He.ba a
    obtain ⟨a3, a⟩ := He.ba a
    obtain ⟨a4, a5⟩ := He.ba a
    exact ⟨⟨oexB_ok a1, excB_ok a2⟩, of_decide_eq_true a3, of_decide_eq_true a4, fun y hy => of_decide_eq_true (List.all_eq_true.mp a5 y hy)⟩
  refine ⟨fun x hx => (cc x hx).1, fun x hx => (cc x hx).2.2.2, fun x hx => (cc x hx).2.1, fun x hx => (cc x hx).2.2.1, fun q hq => ?_, fun q hq => ?_⟩
  · obtain ⟨a, b⟩ := He.ba (List.all_eq_true.mp h2 q hq)
    exact ⟨iniB_ok a, He.eqO_ok b⟩
  · obtain ⟨a, b⟩ := He.ba (List.all_eq_true.mp h3 q hq)
    obtain ⟨b, d⟩ := He.ba b
    exact ⟨iniB_ok a, He.eqO_ok b, He.eqO_ok d⟩
/-! ### the facts by names -/
def d_law_fresh : He.DefD := ⟨("_law_fresh", none), "_law_fresh", "_law_fresh", defArgs s_law_fresh, defBody s_law_fresh, defScope s_law_fresh, [], []⟩
def d_law_fill : He.DefD := ⟨("_law_fill", none), "_law_fill", "_law_fill", defArgs s_law_fill, defBody s_law_fill, defScope s_law_fill, [], []⟩
def d_law_take : He.DefD := ⟨("_law_take", none), "_law_take", "_law_take", defArgs s_law_take, defBody s_law_take, defScope s_law_take, [], []⟩
def d_law_one : He.DefD := ⟨("_law_one", none), "_law_one", "_law_one", defArgs s_law_one, defBody s_law_one, defScope s_law_one, [], []⟩
def d_law_same : He.DefD := ⟨("_law_same", none), "_law_same", "_law_same", defArgs s_law_same, defBody s_law_same, defScope s_law_same, [], []⟩
def d_law_any : He.DefD := ⟨("_law_any", none), "_law_any", "_law_any", defArgs s_law_any, defBody s_law_any, defScope s_law_any, [], []⟩
def d_law_with_one : He.DefD := ⟨("_law_with_one", none), "_law_with_one", "_law_with_one", defArgs s_law_with_one, defBody s_law_with_one, defScope s_law_with_one, [], []⟩
def d_law_by_place : He.DefD := ⟨("_law_by_place", none), "_law_by_place", "_law_by_place", defArgs s_law_by_place, defBody s_law_by_place, defScope s_law_by_place, [], []⟩
def d_law_held : He.DefD := ⟨("_law_held", none), "_law_held", "_law_held", defArgs s_law_held, defBody s_law_held, defScope s_law_held, [], []⟩
def d_law_classes : He.DefD := ⟨("_law_classes", none), "_law_classes", "_law_classes", defArgs s_law_classes, defBody s_law_classes, defScope s_law_classes, [], []⟩
def dlaw : He.DefD := ⟨("law", none), "law", "law", defArgs slaw, defBody slaw, defScope slaw, [], []⟩
def d_BadField : He.DefD := ⟨("BadField", some "__init__"), "__init__", "BadField.__init__", defArgs sBadField_init, defBody sBadField_init, defScope sBadField_init, [], []⟩
def d_UnknownField : He.DefD := ⟨("UnknownField", some "__init__"), "__init__", "UnknownField.__init__", defArgs sUnknownField_init, defBody sUnknownField_init, defScope sUnknownField_init, [], []⟩
def d_BadWord : He.DefD := ⟨("BadWord", some "__init__"), "__init__", "BadWord.__init__", defArgs sBadWord_init, defBody sBadWord_init, defScope sBadWord_init, [], []⟩
def d_BadKind : He.DefD := ⟨("BadKind", some "__init__"), "__init__", "BadKind.__init__", defArgs sBadKind_init, defBody sBadKind_init, defScope sBadKind_init, [], []⟩
def d_UnknownKind : He.DefD := ⟨("UnknownKind", some "__init__"), "__init__", "UnknownKind.__init__", defArgs sUnknownKind_init, defBody sUnknownKind_init, defScope sUnknownKind_init, [], []⟩
def d_BadResource : He.DefD := ⟨("BadResource", some "__init__"), "__init__", "BadResource.__init__", defArgs sBadResource_init, defBody sBadResource_init, defScope sBadResource_init, [], []⟩
def d_BadCount : He.DefD := ⟨("BadCount", some "__init__"), "__init__", "BadCount.__init__", defArgs sBadCount_init, defBody sBadCount_init, defScope sBadCount_init, [], []⟩
def d_BadTag : He.DefD := ⟨("BadTag", some "__init__"), "__init__", "BadTag.__init__", defArgs sBadTag_init, defBody sBadTag_init, defScope sBadTag_init, [], []⟩
def d_BadValue : He.DefD := ⟨("BadValue", some "__init__"), "__init__", "BadValue.__init__", defArgs sBadValue_init, defBody sBadValue_init, defScope sBadValue_init, [], []⟩
def d_Unlabelled : He.DefD := ⟨("Unlabelled", some "__init__"), "__init__", "Unlabelled.__init__", defArgs sUnlabelled_init, defBody sUnlabelled_init, defScope sUnlabelled_init, [], []⟩
def d_BadFlag : He.DefD := ⟨("BadFlag", some "__init__"), "__init__", "BadFlag.__init__", defArgs sBadFlag_init, defBody sBadFlag_init, defScope sBadFlag_init, [], []⟩
def d_BadCopies : He.DefD := ⟨("BadCopies", some "__init__"), "__init__", "BadCopies.__init__", defArgs sBadCopies_init, defBody sBadCopies_init, defScope sBadCopies_init, [], []⟩
def d_UnknownTemplate : He.DefD := ⟨("UnknownTemplate", some "__init__"), "__init__", "UnknownTemplate.__init__", defArgs sUnknownTemplate_init, defBody sUnknownTemplate_init, defScope sUnknownTemplate_init, [], []⟩
def d_BadVariable : He.DefD := ⟨("BadVariable", some "__init__"), "__init__", "BadVariable.__init__", defArgs sBadVariable_init, defBody sBadVariable_init, defScope sBadVariable_init, [], []⟩
def d_BadStep : He.DefD := ⟨("BadStep", some "__init__"), "__init__", "BadStep.__init__", defArgs sBadStep_init, defBody sBadStep_init, defScope sBadStep_init, [], []⟩
def d_BadText : He.DefD := ⟨("BadText", some "__init__"), "__init__", "BadText.__init__", defArgs sBadText_init, defBody sBadText_init, defScope sBadText_init, [], []⟩
def d_NoWrite : He.DefD := ⟨("NoWrite", some "__init__"), "__init__", "NoWrite.__init__", defArgs sNoWrite_init, defBody sNoWrite_init, defScope sNoWrite_init, [], []⟩
def d_Rejected : He.DefD := ⟨("Rejected", some "__init__"), "__init__", "Rejected.__init__", defArgs sRejected_init, defBody sRejected_init, defScope sRejected_init, [], []⟩
def d_BadTemplate : He.DefD := ⟨("BadTemplate", some "__init__"), "__init__", "BadTemplate.__init__", defArgs sBadTemplate_init, defBody sBadTemplate_init, defScope sBadTemplate_init, [], []⟩
def d_BadCatalog : He.DefD := ⟨("BadCatalog", some "__init__"), "__init__", "BadCatalog.__init__", defArgs sBadCatalog_init, defBody sBadCatalog_init, defScope sBadCatalog_init, [], []⟩
def fn : List He.DefD := [d_law_fresh, d_law_fill, d_law_take, d_law_one, d_law_same, d_law_any, d_law_with_one, d_law_by_place, d_law_held, d_law_classes, dlaw, d_BadField, d_UnknownField, d_BadWord, d_BadKind, d_UnknownKind, d_BadResource, d_BadCount, d_BadTag, d_BadValue, d_Unlabelled, d_BadFlag, d_BadCopies, d_UnknownTemplate, d_BadVariable, d_BadStep, d_BadText, d_NoWrite, d_Rejected, d_BadTemplate, d_BadCatalog]
def frees : List Str := ["len", "int", "enumerate", "bool", "list", "tuple", "all", "any", "zip", "isinstance", "range", "ValueError"]
def owns : List Str := ["_law_fresh", "_law_fill", "_law_take", "_law_one", "_law_same", "_law_any", "_law_with_one", "_law_by_place", "_law_held", "_law_classes", "law"]
def fa : List He.Fa := all24.map He.Fa.glo ++ (bare0.map He.Fa.exc ++ (owns.map He.Fa.glo ++ frees.map He.Fa.free))
section
variable {P : Program} {w : World} {K : PySem.W.Frag} {mg : Str → Option Value} {base : Heap}
theorem gl_cls {h : Heap} (X : K.In h) (G : h.Ns mainGlobals mg) (c : He.SaysD fa fn K) : ∀ x ∈ all24, mg x = some (.ref (He.ga K x)) := fun x hx => He.glo_ok X G (c.facts (List.mem_append_left _ (List.mem_map_of_mem hx)))
theorem gl_exc (c : He.SaysD fa fn K) : ∀ x ∈ bare0, He.Fa.ok K (.exc x) = true := fun x hx => c.facts (List.mem_append_right _ (List.mem_append_left _ (List.mem_map_of_mem hx)))
theorem gl_own {h : Heap} (X : K.In h) (G : h.Ns mainGlobals mg) (c : He.SaysD fa fn K) : ∀ x ∈ owns, mg x = some (.ref (He.ga K x)) := fun x hx => He.glo_ok X G (c.facts (List.mem_append_right _ (List.mem_append_right _ (List.mem_append_left _ (List.mem_map_of_mem hx)))))
theorem gl_free {h : Heap} (X : K.In h) (G : h.Ns mainGlobals mg) (c : He.SaysD fa fn K) : ∀ x ∈ frees, mg x = none := fun x hx => He.free_ok X G (c.facts (List.mem_append_right _ (List.mem_append_right _ (List.mem_append_right _ (List.mem_map_of_mem hx)))))
theorem mk_ones (c : He.SaysD fa fn K) (S : Says K) (g : ∀ x ∈ all24, mg x = some (.ref (He.ga K x))) : ∀ (i : Nat) (q : Str × Str), ones[i]? = some q → ExM P w K mg base q.1 (He.ga K q.1) 0 [q.2] gK1 (spI1 K (He.ga K q.1) q.2) ∧ ExM P w K mg base q.1 (He.ga K q.1) 1 [] gK1 (spI1 K (He.ga K q.1) q.2)
  | 0, q, h => by
    have m := S.I1 q (List.mem_of_getElem? h)
    cases h
    obtain ⟨fd, F⟩ := c.def_ 11 (d := d_BadField) rfl
    have e := S.Ke "BadField" (by decide +kernel)
    have gg := g "BadField" (by decide +kernel)
    exact ⟨⟨e.o, gg, _, fd, _, _, m.1.1, m.1.2, ok_BadField_init F, kw_BadField_init F⟩, ⟨e.o, gg, _, fd, _, _, m.1.1, m.1.2, ok_BadField_init F, pl_BadField_init F⟩⟩
  | 1, q, h => by
    have m := S.I1 q (List.mem_of_getElem? h)
    cases h
    obtain ⟨fd, F⟩ := c.def_ 12 (d := d_UnknownField) rfl
    have e := S.Ke "UnknownField" (by decide +kernel)
    have gg := g "UnknownField" (by decide +kernel)
    exact ⟨⟨e.o, gg, _, fd, _, _, m.1.1, m.1.2, ok_UnknownField_init F, kw_UnknownField_init F⟩, ⟨e.o, gg, _, fd, _, _, m.1.1, m.1.2, ok_UnknownField_init F, pl_UnknownField_init F⟩⟩
  | 2, q, h => by
    have m := S.I1 q (List.mem_of_getElem? h)
    cases h
    obtain ⟨fd, F⟩ := c.def_ 13 (d := d_BadWord) rfl
    have e := S.Ke "BadWord" (by decide +kernel)
    have gg := g "BadWord" (by decide +kernel)
    exact ⟨⟨e.o, gg, _, fd, _, _, m.1.1, m.1.2, ok_BadWord_init F, kw_BadWord_init F⟩, ⟨e.o, gg, _, fd, _, _, m.1.1, m.1.2, ok_BadWord_init F, pl_BadWord_init F⟩⟩
  | 3, q, h => by
    have m := S.I1 q (List.mem_of_getElem? h)
    cases h
    obtain ⟨fd, F⟩ := c.def_ 14 (d := d_BadKind) rfl
    have e := S.Ke "BadKind" (by decide +kernel)
    have gg := g "BadKind" (by decide +kernel)
    exact ⟨⟨e.o, gg, _, fd, _, _, m.1.1, m.1.2, ok_BadKind_init F, kw_BadKind_init F⟩, ⟨e.o, gg, _, fd, _, _, m.1.1, m.1.2, ok_BadKind_init F, pl_BadKind_init F⟩⟩
  | 4, q, h => by
    have m := S.I1 q (List.mem_of_getElem? h)
    cases h
    obtain ⟨fd, F⟩ := c.def_ 15 (d := d_UnknownKind) rfl
    have e := S.Ke "UnknownKind" (by decide +kernel)
    have gg := g "UnknownKind" (by decide +kernel)
    exact ⟨⟨e.o, gg, _, fd, _, _, m.1.1, m.1.2, ok_UnknownKind_init F, kw_UnknownKind_init F⟩, ⟨e.o, gg, _, fd, _, _, m.1.1, m.1.2, ok_UnknownKind_init F, pl_UnknownKind_init F⟩⟩
  | 5, q, h => by
    have m := S.I1 q (List.mem_of_getElem? h)
    cases h
    obtain ⟨fd, F⟩ := c.def_ 16 (d := d_BadResource) rfl
    have e := S.Ke "BadResource" (by decide +kernel)
    have gg := g "BadResource" (by decide +kernel)
    exact ⟨⟨e.o, gg, _, fd, _, _, m.1.1, m.1.2, ok_BadResource_init F, kw_BadResource_init F⟩, ⟨e.o, gg, _, fd, _, _, m.1.1, m.1.2, ok_BadResource_init F, pl_BadResource_init F⟩⟩
  | 6, q, h => by
    have m := S.I1 q (List.mem_of_getElem? h)
    cases h
    obtain ⟨fd, F⟩ := c.def_ 17 (d := d_BadCount) rfl
    have e := S.Ke "BadCount" (by decide +kernel)
    have gg := g "BadCount" (by decide +kernel)
    exact ⟨⟨e.o, gg, _, fd, _, _, m.1.1, m.1.2, ok_BadCount_init F, kw_BadCount_init F⟩, ⟨e.o, gg, _, fd, _, _, m.1.1, m.1.2, ok_BadCount_init F, pl_BadCount_init F⟩⟩
  | 7, q, h => by
    have m := S.I1 q (List.mem_of_getElem? h)
    cases h
    obtain ⟨fd, F⟩ := c.def_ 18 (d := d_BadTag) rfl
    have e := S.Ke "BadTag" (by decide +kernel)
    have gg := g "BadTag" (by decide +kernel)
    exact ⟨⟨e.o, gg, _, fd, _, _, m.1.1, m.1.2, ok_BadTag_init F, kw_BadTag_init F⟩, ⟨e.o, gg, _, fd, _, _, m.1.1, m.1.2, ok_BadTag_init F, pl_BadTag_init F⟩⟩
  | 8, q, h => by
    have m := S.I1 q (List.mem_of_getElem? h)
    cases h
    obtain ⟨fd, F⟩ := c.def_ 19 (d := d_BadValue) rfl
    have e := S.Ke "BadValue" (by decide +kernel)
    have gg := g "BadValue" (by decide +kernel)
    exact ⟨⟨e.o, gg, _, fd, _, _, m.1.1, m.1.2, ok_BadValue_init F, kw_BadValue_init F⟩, ⟨e.o, gg, _, fd, _, _, m.1.1, m.1.2, ok_BadValue_init F, pl_BadValue_init F⟩⟩
  | 9, q, h => by
    have m := S.I1 q (List.mem_of_getElem? h)
    cases h
    obtain ⟨fd, F⟩ := c.def_ 20 (d := d_Unlabelled) rfl
    have e := S.Ke "Unlabelled" (by decide +kernel)
    have gg := g "Unlabelled" (by decide +kernel)
    exact ⟨⟨e.o, gg, _, fd, _, _, m.1.1, m.1.2, ok_Unlabelled_init F, kw_Unlabelled_init F⟩, ⟨e.o, gg, _, fd, _, _, m.1.1, m.1.2, ok_Unlabelled_init F, pl_Unlabelled_init F⟩⟩
  | 10, q, h => by
    have m := S.I1 q (List.mem_of_getElem? h)
    cases h
    obtain ⟨fd, F⟩ := c.def_ 21 (d := d_BadFlag) rfl
    have e := S.Ke "BadFlag" (by decide +kernel)
    have gg := g "BadFlag" (by decide +kernel)
    exact ⟨⟨e.o, gg, _, fd, _, _, m.1.1, m.1.2, ok_BadFlag_init F, kw_BadFlag_init F⟩, ⟨e.o, gg, _, fd, _, _, m.1.1, m.1.2, ok_BadFlag_init F, pl_BadFlag_init F⟩⟩
  | 11, q, h => by
    have m := S.I1 q (List.mem_of_getElem? h)
    cases h
    obtain ⟨fd, F⟩ := c.def_ 22 (d := d_BadCopies) rfl
    have e := S.Ke "BadCopies" (by decide +kernel)
    have gg := g "BadCopies" (by decide +kernel)
    exact ⟨⟨e.o, gg, _, fd, _, _, m.1.1, m.1.2, ok_BadCopies_init F, kw_BadCopies_init F⟩, ⟨e.o, gg, _, fd, _, _, m.1.1, m.1.2, ok_BadCopies_init F, pl_BadCopies_init F⟩⟩
  | 12, q, h => by
    have m := S.I1 q (List.mem_of_getElem? h)
    cases h
    obtain ⟨fd, F⟩ := c.def_ 23 (d := d_UnknownTemplate) rfl
    have e := S.Ke "UnknownTemplate" (by decide +kernel)
    have gg := g "UnknownTemplate" (by decide +kernel)
    exact ⟨⟨e.o, gg, _, fd, _, _, m.1.1, m.1.2, ok_UnknownTemplate_init F, kw_UnknownTemplate_init F⟩, ⟨e.o, gg, _, fd, _, _, m.1.1, m.1.2, ok_UnknownTemplate_init F, pl_UnknownTemplate_init F⟩⟩
  | 13, q, h => by
    have m := S.I1 q (List.mem_of_getElem? h)
    cases h
    obtain ⟨fd, F⟩ := c.def_ 24 (d := d_BadVariable) rfl
    have e := S.Ke "BadVariable" (by decide +kernel)
    have gg := g "BadVariable" (by decide +kernel)
    exact ⟨⟨e.o, gg, _, fd, _, _, m.1.1, m.1.2, ok_BadVariable_init F, kw_BadVariable_init F⟩, ⟨e.o, gg, _, fd, _, _, m.1.1, m.1.2, ok_BadVariable_init F, pl_BadVariable_init F⟩⟩
  | 14, q, h => by
    have m := S.I1 q (List.mem_of_getElem? h)
    cases h
    obtain ⟨fd, F⟩ := c.def_ 25 (d := d_BadStep) rfl
    have e := S.Ke "BadStep" (by decide +kernel)
    have gg := g "BadStep" (by decide +kernel)
    exact ⟨⟨e.o, gg, _, fd, _, _, m.1.1, m.1.2, ok_BadStep_init F, kw_BadStep_init F⟩, ⟨e.o, gg, _, fd, _, _, m.1.1, m.1.2, ok_BadStep_init F, pl_BadStep_init F⟩⟩
  | 15, q, h => by
    have m := S.I1 q (List.mem_of_getElem? h)
    cases h
    obtain ⟨fd, F⟩ := c.def_ 26 (d := d_BadText) rfl
    have e := S.Ke "BadText" (by decide +kernel)
    have gg := g "BadText" (by decide +kernel)
    exact ⟨⟨e.o, gg, _, fd, _, _, m.1.1, m.1.2, ok_BadText_init F, kw_BadText_init F⟩, ⟨e.o, gg, _, fd, _, _, m.1.1, m.1.2, ok_BadText_init F, pl_BadText_init F⟩⟩
  | n + 16, q, h => nomatch (show (none : Option (Str × Str)) = some q from h)
theorem mk_twos (c : He.SaysD fa fn K) (S : Says K) (g : ∀ x ∈ all24, mg x = some (.ref (He.ga K x))) : ∀ (i : Nat) (q : Str × Str × Str), twos[i]? = some q → ExM P w K mg base q.1 (He.ga K q.1) 2 [] gK1 (spI2 K (He.ga K q.1) q.2.1 q.2.2) ∧ ExM P w K mg base q.1 (He.ga K q.1) 0 [q.2.2, q.2.1] (fun vs zs => vs ++ zs.reverse) (spI2 K (He.ga K q.1) q.2.1 q.2.2)
  | 0, q, h => by
    have m := S.I2 q (List.mem_of_getElem? h)
    cases h
    obtain ⟨fd, F⟩ := c.def_ 27 (d := d_NoWrite) rfl
    have e := S.Ke "NoWrite" (by decide +kernel)
    have gg := g "NoWrite" (by decide +kernel)
    exact ⟨⟨e.o, gg, _, fd, _, _, m.1.1, m.1.2, ok_NoWrite_init F, pl_NoWrite_init F⟩, ⟨e.o, gg, _, fd, _, _, m.1.1, m.1.2, ok_NoWrite_init F, kw_NoWrite_init F⟩⟩
  | 1, q, h => by
    have m := S.I2 q (List.mem_of_getElem? h)
    cases h
    obtain ⟨fd, F⟩ := c.def_ 28 (d := d_Rejected) rfl
    have e := S.Ke "Rejected" (by decide +kernel)
    have gg := g "Rejected" (by decide +kernel)
    exact ⟨⟨e.o, gg, _, fd, _, _, m.1.1, m.1.2, ok_Rejected_init F, pl_Rejected_init F⟩, ⟨e.o, gg, _, fd, _, _, m.1.1, m.1.2, ok_Rejected_init F, kw_Rejected_init F⟩⟩
  | 2, q, h => by
    have m := S.I2 q (List.mem_of_getElem? h)
    cases h
    obtain ⟨fd, F⟩ := c.def_ 29 (d := d_BadTemplate) rfl
    have e := S.Ke "BadTemplate" (by decide +kernel)
    have gg := g "BadTemplate" (by decide +kernel)
    exact ⟨⟨e.o, gg, _, fd, _, _, m.1.1, m.1.2, ok_BadTemplate_init F, pl_BadTemplate_init F⟩, ⟨e.o, gg, _, fd, _, _, m.1.1, m.1.2, ok_BadTemplate_init F, kw_BadTemplate_init F⟩⟩
  | 3, q, h => by
    have m := S.I2 q (List.mem_of_getElem? h)
    cases h
    obtain ⟨fd, F⟩ := c.def_ 30 (d := d_BadCatalog) rfl
    have e := S.Ke "BadCatalog" (by decide +kernel)
    have gg := g "BadCatalog" (by decide +kernel)
    exact ⟨⟨e.o, gg, _, fd, _, _, m.1.1, m.1.2, ok_BadCatalog_init F, pl_BadCatalog_init F⟩, ⟨e.o, gg, _, fd, _, _, m.1.1, m.1.2, ok_BadCatalog_init F, kw_BadCatalog_init F⟩⟩
  | n + 4, q, h => nomatch (show (none : Option (Str × Str × Str)) = some q from h)
theorem in24 {x : Str} (h : x ∈ ones.map (·.1) ++ twos.map (·.1)) : x ∈ all24 := by
  have e : ∀ y ∈ ones.map (·.1) ++ twos.map (·.1), y ∈ all24 := by decide +kernel
  exact e x h
theorem facts {h : Heap} {f : Addr} (X : K.In h) (G : h.Ns mainGlobals mg) (hfa : mg ("law" : Str) = some (.ref f)) (c : He.SaysD fa fn K) (S : Says K) :
    ∃ fd : FuncData, (∀ (s : Shared) (v : Value), BindsTo s fd ⟨[v], []⟩ [("_law_script", v)]) ∧ ∀ base : Heap, K.In base → base.Ns mainGlobals mg → FnOk P w K mg base CX0 8 f fd ["_law_script"] (spLaw K) := by
  have gc := gl_cls X G c
  have go := gl_own X G c
  have gf := gl_free X G c
  obtain ⟨fd0, F0⟩ := c.def_ 0 (d := d_law_fresh) rfl
  obtain ⟨fd1, F1⟩ := c.def_ 1 (d := d_law_fill) rfl
  obtain ⟨fd2, F2⟩ := c.def_ 2 (d := d_law_take) rfl
  obtain ⟨fd3, F3⟩ := c.def_ 3 (d := d_law_one) rfl
  obtain ⟨fd4, F4⟩ := c.def_ 4 (d := d_law_same) rfl
  obtain ⟨fd5, F5⟩ := c.def_ 5 (d := d_law_any) rfl
  obtain ⟨fd6, F6⟩ := c.def_ 6 (d := d_law_with_one) rfl
  obtain ⟨fd7, F7⟩ := c.def_ 7 (d := d_law_by_place) rfl
  obtain ⟨fd8, F8⟩ := c.def_ 8 (d := d_law_held) rfl
  obtain ⟨fd9, F9⟩ := c.def_ 9 (d := d_law_classes) rfl
  obtain ⟨fd10, F10⟩ := c.def_ 10 (d := dlaw) rfl
  have e := hfa.symm.trans (go "law" (by decide +kernel))
  cases e
  have b := FunD.bindsA (ps := ["_law_script"]) F10 fun _ _ _ _ _ _ us hl => match us, hl with | [_], _ => rfl
  refine ⟨fd10, fun s v => b s [v] rfl, fun base _ _ => ?_⟩
  have TB : TxtB mg := ⟨gf "len" (by decide +kernel), gf "int" (by decide +kernel), gf "enumerate" (by decide +kernel)⟩
  have TS : TxtS mg := ⟨gf "len" (by decide +kernel), gf "int" (by decide +kernel), gf "bool" (by decide +kernel), gf "list" (by decide +kernel), gf "tuple" (by decide +kernel), gf "all" (by decide +kernel), gf "zip" (by decide +kernel), gf "isinstance" (by decide +kernel)⟩
  have TA : TxtA mg := ⟨gf "range" (by decide +kernel), gf "tuple" (by decide +kernel)⟩
  have TM : TxtM mg := ⟨gf "range" (by decide +kernel), gf "list" (by decide +kernel), gf "len" (by decide +kernel), gf "all" (by decide +kernel), gf "any" (by decide +kernel), gf "isinstance" (by decide +kernel), gf "enumerate" (by decide +kernel), gf "ValueError" (by decide +kernel)⟩
  have TC : TxtC K mg := ⟨fun i x h => gc x (List.mem_of_getElem? h), gf "isinstance" (by decide +kernel)⟩
  have m1 : ∀ q ∈ ones, q.1 ∈ all24 := by decide +kernel
  have m2 : ∀ q ∈ twos, q.1 ∈ all24 := by decide +kernel
  have m0 : ∀ x ∈ bare0, x ∈ all24 := by decide +kernel
  have TE : TxtE P w K mg base := ⟨fun i q h => (mk_ones c S gc i q h).1, fun i q h => (mk_ones c S gc i q h).2, fun q hq => ⟨S.Ke _ (m1 q hq), (S.I1 q hq).2⟩⟩
  have TL : TxtL P w K mg base := ⟨fun i q h => (mk_twos c S gc i q h).1, fun i q h => (mk_twos c S gc i q h).2, fun i x h => by
    have hx := List.mem_of_getElem? h
    have z := He.exc_ok (gl_exc c x hx)
    exact ⟨z.1, gc x (m0 x hx), z.2.1⟩, fun q hq => ⟨S.Ke _ (m2 q hq), (S.I2 q hq).2⟩, S.Ke, S.isC, S.isS, S.isV⟩
  have c_law_fresh : Cal P w K mg base CX0 1 "_law_fresh" (spFresh K) := ⟨_, _, _, ok_fresh F0, go "_law_fresh" (by decide +kernel), F0.kp, F0.bindsN (ps := ["_law_script"]) (fun _ _ _ _ _ _ us hl => match us, hl with | [_], _ => rfl)⟩
  have c_law_fill : Cal P w K mg base CX0 1 "_law_fill" (spFill) := ⟨_, _, _, ok_fill TB F1, go "_law_fill" (by decide +kernel), F1.kp, F1.bindsN (ps := ["_law_state"]) (fun _ _ _ _ _ _ us hl => match us, hl with | [_], _ => rfl)⟩
  have c_law_take : Cal P w K mg base CX0 2 "_law_take" (spTake) := ⟨_, _, _, ok_take TB F2 c_law_fill, go "_law_take" (by decide +kernel), F2.kp, F2.bindsN (ps := ["_law_state", "_law_many"]) (fun _ _ _ _ _ _ us hl => match us, hl with | [_, _], _ => rfl)⟩
  have c_law_one : Cal P w K mg base CX0 3 "_law_one" (spOne K) := ⟨_, _, _, ok_one TB F3 c_law_take, go "_law_one" (by decide +kernel), F3.kp, F3.bindsN (ps := ["_law_state", "_law_things"]) (fun _ _ _ _ _ _ us hl => match us, hl with | [_, _], _ => rfl)⟩
  have same_n : ∀ n, Cal P w K mg base CX0 n "_law_same" (spSame n) := fun n => by
    induction n with
    | zero => exact ⟨_, _, _, ok_same0 F4, go "_law_same" (by decide +kernel), F4.kp, F4.bindsN (ps := ["_law_found", "_law_due"]) (fun _ _ _ _ _ _ us hl => match us, hl with | [_, _], _ => rfl)⟩
    | succ n ih => exact ⟨_, _, _, ok_same TS F4 ih, go "_law_same" (by decide +kernel), F4.kp, F4.bindsN (ps := ["_law_found", "_law_due"]) (fun _ _ _ _ _ _ us hl => match us, hl with | [_, _], _ => rfl)⟩
  have any_n : ∀ n, Cal P w K mg base CX0 (n + 3) "_law_any" (spAny n) := fun n => by
    induction n with
    | zero => exact ⟨_, _, _, FnOk.mono fn_never (Nat.zero_le _), go "_law_any" (by decide +kernel), F5.kp, F5.bindsN (ps := ["_law_state", "_law_deep"]) (fun _ _ _ _ _ _ us hl => match us, hl with | [_, _], _ => rfl)⟩
    | succ n ih => exact ⟨_, _, _, ok_any TA F5 c_law_take c_law_one ih, go "_law_any" (by decide +kernel), F5.kp, F5.bindsN (ps := ["_law_state", "_law_deep"]) (fun _ _ _ _ _ _ us hl => match us, hl with | [_, _], _ => rfl)⟩
  have c_law_with_one : Cal P w K mg base CX0 3 "_law_with_one" (spRow K) := ⟨_, _, _, ok_with_one TE F6, go "_law_with_one" (by decide +kernel), F6.kp, F6.bindsN (ps := ["_law_x"]) (fun _ _ _ _ _ _ us hl => match us, hl with | [_], _ => rfl)⟩
  have c_law_by_place : Cal P w K mg base CX0 3 "_law_by_place" (spRow K) := ⟨_, _, _, ok_by_place TE F7, go "_law_by_place" (by decide +kernel), F7.kp, F7.bindsN (ps := ["_law_x"]) (fun _ _ _ _ _ _ us hl => match us, hl with | [_], _ => rfl)⟩
  have c_law_held : Cal P w K mg base CX0 3 "_law_held" (spHeld K) := ⟨_, _, _, ok_held TE F8, go "_law_held" (by decide +kernel), F8.kp, F8.bindsN (ps := ["_law_made"]) (fun _ _ _ _ _ _ us hl => match us, hl with | [_], _ => rfl)⟩
  have c_law_classes : Cal P w K mg base CX0 3 "_law_classes" (spCls K) := ⟨_, _, _, ok_classes TC F9, go "_law_classes" (by decide +kernel), F9.kp, F9.bindsN (ps := ["_law_e"]) (fun _ _ _ _ _ _ us hl => match us, hl with | [_], _ => rfl)⟩
  exact ok_law TM TL TC F10 c_law_fresh (any_n 3) c_law_with_one c_law_by_place c_law_held c_law_classes (same_n 5)
end
end Sm
namespace Sm
open PySem PySem.Spec PyProof.Rows L2
abbrev R : PySem.W.OpenRow := PySem.W.OpenLaw.row PySem.Challenge.rw_seenmarks_k01_errors_made
abbrev hk : PySem.W.Hook := He.hookX 5 fa fn [] [] exB
def ob (s : PySem.W.SharedT) : He.AlX := He.obsX 5 fa fn [] [] exB (HandSHeadRun.getT s)
theorem ob_eq (s : PySem.W.SharedT) : ob s = hk.obs s.abs := He.obsX_eq (HandSHeadRun.getT_eq s)
def loose : List Str := (["BadField", "UnknownField", "BadWord", "BadKind", "UnknownKind", "BadResource", "BadCount", "BadTag", "BadValue", "Unlabelled", "BadFlag", "BadCopies", "UnknownTemplate", "BadVariable", "BadStep", "BadText", "NoWrite", "Rejected", "BadTemplate", "BadCatalog", "Offline", "BadValues", "BadCover", "SeenError"] : List Str) ++ (["_law_fresh", "_law_fill", "_law_take", "_law_one", "_law_same", "_law_any", "_law_with_one", "_law_by_place", "_law_held", "_law_classes"] : List Str)
theorem run (w : World) : HandSHeadRun.RunEq R (PySem.W.view R.prog [36]) hk ob 20000 loose w := by
  intro os
  kernel_rfl
end Sm
open PySem PySem.W PySem.Calls PyProof.Rows
theorem PySem.Challenge.cw_seenmarks_k01_errors_made_holds : PySem.Challenge.rw_seenmarks_k01_errors_made.Holds := by
  w_on; o_law
  refine HandSHeadRun.head_any (r := OpenLaw.row PySem.Challenge.rw_seenmarks_k01_errors_made) (q := view (OpenLaw.row PySem.Challenge.rw_seenmarks_k01_errors_made).prog [36]) (H := Sm.hk) (ob := Sm.ob) (M := 20000) (loose := Sm.loose) (d := HandSHeadRun.topDef (OpenLaw.row PySem.Challenge.rw_seenmarks_k01_errors_made).prog 36) (kwd := []) Sm.ob_eq
    (by kernel_rfl) (fun s => by kernel_rfl) Sm.run (by kernel_rfl) (by kernel_rfl) (by kernel_rfl) (by rfl) (by first | assumption | decide +kernel) (by decide +kernel) ⟨rfl, rfl, rfl, rfl, rfl, by decide +kernel⟩ ?hw ?hc
  case hw => w_witness2
  case hc =>
    refine L2.walk_ofE (l := PySem.Challenge.rw_seenmarks_k01_errors_made) (n := 63) (k := 8) (x := "_law_script") (CX := L2.CX0) rfl (by decide) (by kernel_rfl) ⟨rfl, by decide, by decide⟩ ?F (fun _ _ _ _ z => z)
    intro w mg fa h Y G hmg0
    obtain ⟨K, KX, c⟩ := Y
    have hmg : mg ("law" : PySem.Str) = some (.ref fa) := by
      have e : (HandSHeadRun.topDef (OpenLaw.row PySem.Challenge.rw_seenmarks_k01_errors_made).prog 36).name = ("law" : PySem.Str) := by kernel_rfl
      rw [← e]
      exact hmg0
    obtain ⟨fd, hb, hF⟩ := Sm.facts (P := (PySem.Challenge.rw_seenmarks_k01_errors_made).prog) (w := w) KX G hmg c.t.d (Sm.exB_ok c.more)
    exact ⟨K, fd, Sm.spLaw K, KX, hb, fun H a ns hl _ hS => ⟨a, ns, rfl, hS, hl, fun _ => rfl⟩, hF⟩
