import PyProof.Rows.All
import HandS.ForMost
import HandS.ForExc
import HandS.TupAny
import HandS.IsInst
import HandS.Wide
import PyProof.ReprReads
import PyProof.ReprRoads
import PyProof.Rows.IntBool
import HandS.TupMul
import HandS.Text
import HandS.RaiseMore
import HandS.Codes
import HandS.Small
import HandS.Deep
import HandS.Style
import KE.KRevSl
import PySem.Challenge.RW_drawerways_k01_kinds
import KE.KEqSeq
set_option Elab.async false
set_option linter.all false
set_option maxRecDepth 100000
set_option maxHeartbeats 4000000
set_option autoImplicit false
/-! A layer of plain data over the hand layer: what a slot holds is data, or a list or dict of its own. -/
namespace DL
open PySem PySem.Spec PyProof.Rows L2

/-! ### data in a heap -/
mutual
inductive DD (B : Hp) : V → PyData → Prop
  | non : DD B .non .none
  | bl (b : Bool) : DD B (.bl b) (.bool b)
  | int (i : Int) : DD B (.int i) (.int i)
  | str (x : Str) : DD B (.str x) (.str x)
  | lst {a : Addr} {xs : List V} {ds : List PyData} : Rd B a (.lst xs) → DDs B xs ds → DD B (.ref a) (.list ds)
  | tup {a : Addr} {xs : List V} {ds : List PyData} : B a = some (.tup xs) → DDs B xs ds → DD B (.ref a) (.tuple ds)
inductive DDs (B : Hp) : List V → List PyData → Prop
  | nil : DDs B [] []
  | cons {v : V} {vs : List V} {d : PyData} {ds : List PyData} : DD B v d → DDs B vs ds → DDs B (v :: vs) (d :: ds)
end
theorem same_rd {B B' : Hp} (h : Same B B') {a : Addr} {u : HO} (r : Rd B a u) : Rd B' a u := by
  rcases r with r | ⟨o, r⟩
  · exact .inl (h _ _ r)
  · exact .inr ⟨o, h _ _ r⟩
mutual
theorem DD.mono {B B' : Hp} (h : Same B B') : ∀ {v : V} {d : PyData}, DD B v d → DD B' v d
  | _, _, .non => .non
  | _, _, .bl b => .bl b
  | _, _, .int i => .int i
  | _, _, .str x => .str x
  | _, _, .lst r q => .lst (same_rd h r) (DDs.mono h q)
  | _, _, .tup r q => .tup (h _ _ r) (DDs.mono h q)
theorem DDs.mono {B B' : Hp} (h : Same B B') : ∀ {vs : List V} {ds : List PyData}, DDs B vs ds → DDs B' vs ds
  | _, _, .nil => .nil
  | _, _, .cons q r => .cons (DD.mono h q) (DDs.mono h r)
end
theorem DDs.length {B : Hp} : ∀ {vs : List V} {ds : List PyData}, DDs B vs ds → vs.length = ds.length
  | _, _, .nil => rfl
  | _, _, .cons _ r => congrArg (· + 1) (DDs.length r)
theorem DDs.get {B : Hp} : ∀ {vs : List V} {ds : List PyData} {i : Nat} {d : PyData}, DDs B vs ds → ds[i]? = some d → ∃ v, vs[i]? = some v ∧ DD B v d
  | _, _, _, _, .nil, e => by simp at e
  | _, _, 0, _, .cons q _, e => by simp at e; subst e; exact ⟨_, rfl, q⟩
  | _, _, i + 1, _, .cons _ r, e => by
    obtain ⟨v, e1, q⟩ := DDs.get (i := i) r (by simpa using e)
    exact ⟨v, by simpa using e1, q⟩
theorem DDs.getV {B : Hp} : ∀ {vs : List V} {ds : List PyData} {i : Nat} {v : V}, DDs B vs ds → vs[i]? = some v → ∃ d, ds[i]? = some d ∧ DD B v d
  | _, _, _, _, .nil, e => by simp at e
  | _, _, 0, _, .cons q _, e => by simp at e; subst e; exact ⟨_, rfl, q⟩
  | _, _, i + 1, _, .cons _ r, e => by
    obtain ⟨v, e1, q⟩ := DDs.getV (i := i) r (by simpa using e)
    exact ⟨v, by simpa using e1, q⟩
theorem DDs.append {B : Hp} : ∀ {vs ws : List V} {ds es : List PyData}, DDs B vs ds → DDs B ws es → DDs B (vs ++ ws) (ds ++ es)
  | _, _, _, _, .nil, s => s
  | _, _, _, _, .cons q r, s => .cons q (DDs.append r s)
theorem DDs.take {B : Hp} : ∀ {vs : List V} {ds : List PyData} (n : Nat), DDs B vs ds → DDs B (vs.take n) (ds.take n)
  | _, _, 0, _ => .nil
  | _, _, _ + 1, .nil => .nil
  | _, _, n + 1, .cons q r => .cons q (DDs.take n r)
theorem DDs.drop {B : Hp} : ∀ {vs : List V} {ds : List PyData} (n : Nat), DDs B vs ds → DDs B (vs.drop n) (ds.drop n)
  | _, _, 0, r => r
  | _, _, _ + 1, .nil => .nil
  | _, _, n + 1, .cons _ r => DDs.drop n r
theorem DDs.snoc {B : Hp} {vs : List V} {ds : List PyData} {v : V} {d : PyData} (h : DDs B vs ds) (q : DD B v d) : DDs B (vs ++ [v]) (ds ++ [d]) := h.append (.cons q .nil)
theorem DDs.reverse {B : Hp} : ∀ {vs : List V} {ds : List PyData}, DDs B vs ds → DDs B vs.reverse ds.reverse
  | _, _, .nil => .nil
  | _, _, .cons q r => by rw [List.reverse_cons, List.reverse_cons]; exact (DDs.reverse r).snoc q
theorem DDs.set {B : Hp} {v : V} {d : PyData} (q : DD B v d) : ∀ {vs : List V} {ds : List PyData} (i : Nat), DDs B vs ds → DDs B (vs.set i v) (ds.set i d)
  | _, _, _, .nil => .nil
  | _, _, 0, .cons _ r => .cons q r
  | _, _, i + 1, .cons p r => .cons p (DDs.set q i r)
theorem DDs.dropLast {B : Hp} {vs : List V} {ds : List PyData} (h : DDs B vs ds) : DDs B vs.dropLast ds.dropLast := by
  rw [List.dropLast_eq_take, List.dropLast_eq_take, h.length]; exact h.take _
theorem DDs.nil_iff {B : Hp} {vs : List V} {ds : List PyData} (h : DDs B vs ds) : vs = [] ↔ ds = [] := by
  cases h <;> simp
theorem DDs.ints {B : Hp} : ∀ {vs : List V} {ns : List Int}, DDs B vs (ns.map .int) → vs = ns.map V.int
  | _, [], h => by cases h; rfl
  | _, n :: ns, h => by
    cases h with
    | cons q r => cases q; rw [DDs.ints r]; rfl
theorem DDs.strs {B : Hp} : ∀ {vs : List V} {ns : List Str}, DDs B vs (ns.map .str) → vs = ns.map V.str
  | _, [], h => by cases h; rfl
  | _, n :: ns, h => by
    cases h with
    | cons q r => cases q; rw [DDs.strs r]; rfl
theorem DDs.of_ints {B : Hp} : ∀ (ns : List Int), DDs B (ns.map V.int) (ns.map .int)
  | [] => .nil
  | n :: ns => .cons (.int n) (DDs.of_ints ns)
theorem DDs.of_strs {B : Hp} : ∀ (ns : List Str), DDs B (ns.map V.str) (ns.map .str)
  | [] => .nil
  | n :: ns => .cons (.str n) (DDs.of_strs ns)
/-- written data (constants of the module) -/
def DW (K : PySem.W.Frag) (v : V) (d : PyData) : Prop := Dp K (fun _ => none) v d
mutual
theorem dp_mono {K : PySem.W.Frag} {H H' : Hp} (h : Same H H') : ∀ {v : V} {d : PyData}, Dp K H v d → Dp K H' v d
  | _, _, .non => .non
  | _, _, .bl b => .bl b
  | _, _, .int i => .int i
  | _, _, .str x => .str x
  | _, _, .lst r q => .lst (h.seq r) (dps_mono h q)
  | _, _, .tup r q => .tup (by
      rcases r with r | r
      · exact .inl (same_rd h r)
      · exact .inr r) (dps_mono h q)
theorem dps_mono {K : PySem.W.Frag} {H H' : Hp} (h : Same H H') : ∀ {v : List V} {d : List PyData}, DpAll K H v d → DpAll K H' v d
  | _, _, .nil => .nil
  | _, _, .cons q r => .cons (dp_mono h q) (dps_mono h r)
end
mutual
theorem DD.dp {K : PySem.W.Frag} {B : Hp} : ∀ {v : V} {d : PyData}, DD B v d → Dp K B v d
  | _, _, .non => .non
  | _, _, .bl b => .bl b
  | _, _, .int i => .int i
  | _, _, .str x => .str x
  | _, _, .lst r q => .lst (.inl r) (DDs.dp q)
  | _, _, .tup r q => .tup (.inl (.inl r)) (DDs.dp q)
theorem DDs.dp {K : PySem.W.Frag} {B : Hp} : ∀ {vs : List V} {ds : List PyData}, DDs B vs ds → DpAll K B vs ds
  | _, _, .nil => .nil
  | _, _, .cons q r => .cons (DD.dp q) (DDs.dp r)
end

/-! ### what a slot holds -/
inductive Cont where
  | l (ds : List PyData)
  | k (kvs : List (Key × PyData))
  | t (kvs : List (List Key × PyData))
def KDs {κ : Type} (B : Hp) : List (κ × V) → List (κ × PyData) → Prop := Paired fun (p : κ × V) (q : κ × PyData) => p.1 = q.1 ∧ DD B p.2 q.2
def ContOk (B H : Hp) (a : Addr) : Cont → Prop
  | .l ds => ∃ xs, H a = some (.lst xs) ∧ DDs B xs ds
  | .k kvs => ∃ ys, H a = some (.dK ys) ∧ KDs B ys kvs
  | .t kvs => ∃ ys, H a = some (.dT ys) ∧ KDs B ys kvs
theorem KDs.mono {κ : Type} {B B' : Hp} (h : Same B B') {ys : List (κ × V)} {kvs : List (κ × PyData)} (q : KDs B ys kvs) : KDs B' ys kvs :=
  Paired.mapP q fun _ _ z => ⟨z.1, z.2.mono h⟩
theorem ContOk.mono {B B' H H' : Hp} {a : Addr} {c : Cont} (hB : Same B B') (hH : H' a = H a) (q : ContOk B H a c) : ContOk B' H' a c := by
  cases c with
  | l ds => obtain ⟨xs, e, r⟩ := q; exact ⟨xs, by rw [hH]; exact e, r.mono hB⟩
  | k kvs => obtain ⟨xs, e, r⟩ := q; exact ⟨xs, by rw [hH]; exact e, r.mono hB⟩
  | t kvs => obtain ⟨xs, e, r⟩ := q; exact ⟨xs, by rw [hH]; exact e, r.mono hB⟩
theorem ContOk.there {B H : Hp} {a : Addr} {c : Cont} (q : ContOk B H a c) : ∃ o, H a = some o := by
  cases c with
  | l ds => obtain ⟨xs, e, _⟩ := q; exact ⟨_, e⟩
  | k kvs => obtain ⟨xs, e, _⟩ := q; exact ⟨_, e⟩
  | t kvs => obtain ⟨xs, e, _⟩ := q; exact ⟨_, e⟩

inductive Sl where
  | d (d : PyData)
  | w (d : PyData)
  | o (b : Bool) (c : Cont)
abbrev SEnv := List (Option Sl)
inductive R where
  | d (d : PyData)
  | w (d : PyData)
  | o (i : Nat)
  | n (c : Cont)

def SlOk (K : PySem.W.Frag) (F B H : Hp) (v : V) : Sl → Prop
  | .d d => DD B v d
  | .w d => DW K v d
  | .o _ c => ∃ a, v = .ref a ∧ B a = none ∧ F a = none ∧ ContOk B H a c

structure Rep (K : PySem.W.Frag) (F B H : Hp) (vs : List V) (σ : L2.St) (δ : SEnv) : Prop where
  sb : Same B H
  sf : Same F H
  dj : ∀ a o, F a = some o → B a = none
  len : σ.length = δ.length
  ok : ∀ (i : Nat) (s : Sl), δ[i]? = some (some s) → ∃ v, σ[i]? = some (some v) ∧ SlOk K F B H v s
  apart : ∀ (i j : Nat) (a : Addr) (b : Bool) (c : Cont) (b' : Bool) (c' : Cont), δ[i]? = some (some (.o b c)) → δ[j]? = some (some (.o b' c')) → σ[i]? = some (some (.ref a)) → σ[j]? = some (some (.ref a)) → i = j
  bor : ∀ (i : Nat) (c : Cont), δ[i]? = some (some (.o true c)) → ∃ v, σ[i]? = some (some v) ∧ vs[i]? = some v

def RepR (K : PySem.W.Frag) (F B H : Hp) (σ : L2.St) (δ : SEnv) (v : V) : R → Prop
  | .d d => DD B v d
  | .w d => DW K v d
  | .o i => σ[i]? = some (some v)
  | .n c => ∃ a, v = .ref a ∧ B a = none ∧ F a = none ∧ ContOk B H a c ∧ ∀ (i : Nat) (b : Bool) (c' : Cont), δ[i]? = some (some (.o b c')) → σ[i]? ≠ some (some (.ref a))

section
variable {K : PySem.W.Frag} {F B H B' H' : Hp} {vs : List V} {σ : L2.St} {δ : SEnv} {v : V}
theorem same_new {H : Hp} {p : Addr} (h : H p = none) (o : HO) : Same H (upd H p o) := fun b u q => by rw [upd_ne (ne_of_none q h)]; exact q
theorem nof {B H : Hp} (e : Same B H) {p : Addr} (h : H p = none) : B p = none := L2.Same.free e h
/-- a new object, taken as data -/
theorem Rep.new (h : Rep K F B H vs σ δ) {p : Addr} (hp : H p = none) (o : HO) : Rep K F (upd B p o) (upd H p o) vs σ δ := by
  have hB := nof h.sb hp
  have hF := nof h.sf hp
  refine ⟨fun a u e => ?_, h.sf.trans (same_new hp o), fun a u e => ?_, h.len, fun i s e => ?_, h.apart, h.bor⟩
  · by_cases ha : a = p
    · subst ha; rw [upd_same] at e ⊢; exact e
    · rw [upd_ne ha] at e ⊢; exact h.sb a u e
  · have ha : a ≠ p := ne_of_none e hF
    rw [upd_ne ha]; exact h.dj a u e
  · obtain ⟨v, e1, q⟩ := h.ok i s e
    refine ⟨v, e1, ?_⟩
    cases s with
    | d d => exact DD.mono (same_new hB o) q
    | w d => exact q
    | o b c =>
      obtain ⟨a, e2, e3, e4, q⟩ := q
      obtain ⟨u, hu⟩ := q.there
      have ha : a ≠ p := ne_of_none hu hp
      exact ⟨a, e2, by rw [upd_ne ha]; exact e3, e4, q.mono (same_new hB o) (upd_ne ha)⟩
/-- a new object of its own -/
theorem Rep.newO (h : Rep K F B H vs σ δ) {p : Addr} (hp : H p = none) (o : HO) : Rep K F B (upd H p o) vs σ δ := by
  refine ⟨h.sb.trans (same_new hp o), h.sf.trans (same_new hp o), h.dj, h.len, fun i s e => ?_, h.apart, h.bor⟩
  obtain ⟨v, e1, q⟩ := h.ok i s e
  refine ⟨v, e1, ?_⟩
  cases s with
  | d d => exact q
  | w d => exact q
  | o b c =>
    obtain ⟨a, e2, e3, e4, q⟩ := q
    obtain ⟨u, hu⟩ := q.there
    have ha : a ≠ p := ne_of_none hu hp
    exact ⟨a, e2, e3, e4, q.mono (Same.refl _) (upd_ne ha)⟩
/-- a new object stands apart from the slots -/
theorem Rep.fresh (h : Rep K F B H vs σ δ) {p : Addr} (hp : H p = none) : ∀ (i : Nat) (b : Bool) (c' : Cont), δ[i]? = some (some (.o b c')) → σ[i]? ≠ some (some (.ref p)) := fun i b c' e q => by
  obtain ⟨v, e1, a, e2, _, _, q2⟩ := h.ok i _ e
  rw [e1] at q
  obtain ⟨u, hu⟩ := q2.there
  subst e2
  cases q
  rw [hp] at hu; cases hu
/-- a list of one's own is taken as data from now on -/
theorem Rep.freeze (h : Rep K F B H vs σ δ) {a : Addr} {xs : List V} (ha : H a = some (.lst xs)) (hB : B a = none) (hF : F a = none) (hn : ∀ (i : Nat) (b : Bool) (c' : Cont), δ[i]? = some (some (.o b c')) → σ[i]? ≠ some (some (.ref a))) :
    Rep K F (upd B a (.lst xs)) H vs σ δ := by
  refine ⟨fun b u e => ?_, h.sf, fun b u e => ?_, h.len, fun i s e => ?_, h.apart, h.bor⟩
  · by_cases hb : b = a
    · subst hb; rw [upd_same] at e; rw [← e]; exact ha
    · rw [upd_ne hb] at e; exact h.sb b u e
  · have hb : b ≠ a := ne_of_none e hF
    rw [upd_ne hb]; exact h.dj b u e
  · obtain ⟨v, e1, q⟩ := h.ok i s e
    refine ⟨v, e1, ?_⟩
    cases s with
    | d d => exact DD.mono (same_new hB _) q
    | w d => exact q
    | o b c =>
      obtain ⟨p, e2, e3, e4, q⟩ := q
      have hp : p ≠ a := fun z => by subst z; subst e2; exact hn i b c e e1
      exact ⟨p, e2, by rw [upd_ne hp]; exact e3, e4, q.mono (same_new hB _) rfl⟩
end
end DL
set_option Elab.async false
set_option linter.all false
set_option maxRecDepth 100000
set_option maxHeartbeats 4000000
set_option autoImplicit false
namespace DL
open PySem PySem.Spec PyProof.Rows L2

/-! ### contexts, by what the rules ask of them -/
structure Gx where
  P : Program
  w : World
  K : PySem.W.Frag
  mg : Str → Option Value
  base : Heap
structure Cl where
  A : Around
  N : List Str
  s_0 : Shared
  H_0 : Hp
  env : Env
  outer : List Env
  stack : List Env
  ex : List Addr
  fn : Str → Bool
  calm : Bool
  pn : List (Addr × Obj)
  xe : Value → Shared → Prop
abbrev Gx.cx (g : Gx) (c : Cl) : Cx := ⟨g.P, g.w, g.K, g.mg, g.base, c.A, c.N, c.s_0, c.H_0, c.env, c.outer, c.stack, c.ex, c.fn, c.calm, c.pn, c.xe⟩
structure Sg where
  g : Gx
  CX : CXT
  N : List Str
  sc : Scope
  k : Nat
  E : XK
  top : Bool
structure Sg.ok (S : Sg) (c : Cl) : Prop where
  hN : c.N = S.N
  nd : S.N.Nodup
  hs : c.env.scope = S.sc
  calm : c.calm = true
  room : Room S.k c.A
  ps : Passes S.CX (S.g.cx c) S.E
  po : PassesOwn (model S.g.P S.g.w) c.A c.env c.xe
  fn : S.top = true → ∀ x, c.fn x = true
  gd : c.A.guards = some []

/-! ### errors -/
structure Exc where
  cls : Value
  flds : List (Str × PyData)
def FldsOk (B : Hp) : List (Str × V) → List (Str × PyData) → Prop := Paired fun (p : Str × V) (q : Str × PyData) => p.1 = q.1 ∧ DD B p.2 q.2
def XOk (F B : Hp) (E : XK) (Ex : Exc → Prop) : Prop := ∀ (cls : Value) (da : Addr) (B' H' : Hp) (fs : List (Str × V)) (fds : List (Str × PyData)), Same B B' → Same B' H' → Same F H' → (∀ a o, F a = some o → B' a = none) →
  B' da = some (.xd fs) → FldsOk B' fs fds → Ex ⟨cls, fds⟩ → E cls (some da) H'
theorem XOk.up {F B B1 : Hp} {E : XK} {Ex : Exc → Prop} (h : XOk F B E Ex) (s : Same B B1) : XOk F B1 E Ex := fun cls da B' H' fs fds s1 s2 s3 s4 e f x => h cls da B' H' fs fds (s.trans s1) s2 s3 s4 e f x

/-! ### what is wanted, over slots -/
abbrev XP := Exc → Prop
abbrev WE := XP → SEnv → (R → SEnv → Prop) → Prop
abbrev WT := XP → SEnv → (Bool → SEnv → Prop) → Prop
abbrev WA := XP → SEnv → (List R → SEnv → Prop) → Prop
structure DEnds where
  nx : SEnv → Prop
  rt : R → SEnv → Prop
  bk : SEnv → Prop
  ct : SEnv → Prop
  ex : XP
abbrev WS := DEnds → SEnv → Prop
structure DEnds.le (d d' : DEnds) : Prop where
  nx : ∀ δ, d.nx δ → d'.nx δ
  rt : ∀ r δ, d.rt r δ → d'.rt r δ
  bk : ∀ δ, d.bk δ → d'.bk δ
  ct : ∀ δ, d.ct δ → d'.ct δ
  ex : ∀ e, d.ex e → d'.ex e

structure ESim (K : PySem.W.Frag) (E : XK) (t : TE) (W : WE) : Prop where
  mono : ∀ (Ex Ex' : XP) (δ : SEnv) (P P' : R → SEnv → Prop), (∀ e, Ex e → Ex' e) → (∀ r δ', P r δ' → P' r δ') → W Ex δ P → W Ex' δ P'
  run : ∀ (Ex : XP) (F B H : Hp) (vs : List V) (σ : L2.St) (δ : SEnv) (P : R → SEnv → Prop) (Q : VK), XOk F B E Ex → Rep K F B H vs σ δ → W Ex δ P →
    (∀ B' H' v r δ', Same B B' → Rep K F B' H' vs σ δ' → RepR K F B' H' σ δ' v r → P r δ' → Q v H') → t σ H Q
structure TSim (K : PySem.W.Frag) (E : XK) (t : TT) (W : WT) : Prop where
  mono : ∀ (Ex Ex' : XP) (δ : SEnv) (P P' : Bool → SEnv → Prop), (∀ e, Ex e → Ex' e) → (∀ r δ', P r δ' → P' r δ') → W Ex δ P → W Ex' δ P'
  run : ∀ (Ex : XP) (F B H : Hp) (vs : List V) (σ : L2.St) (δ : SEnv) (P : Bool → SEnv → Prop) (Q : Bool → Hp → Prop), XOk F B E Ex → Rep K F B H vs σ δ → W Ex δ P →
    (∀ B' H' b δ', Same B B' → Rep K F B' H' vs σ δ' → P b δ' → Q b H') → t σ H Q
def RepRs (K : PySem.W.Frag) (F B H : Hp) (σ : L2.St) (δ : SEnv) : List V → List R → Prop := Paired fun v r => RepR K F B H σ δ v r ∧ ∀ c, r ≠ .n c
structure ASim (K : PySem.W.Frag) (E : XK) (t : TA) (W : WA) : Prop where
  mono : ∀ (Ex Ex' : XP) (δ : SEnv) (P P' : List R → SEnv → Prop), (∀ e, Ex e → Ex' e) → (∀ r δ', P r δ' → P' r δ') → W Ex δ P → W Ex' δ P'
  run : ∀ (Ex : XP) (F B H : Hp) (vs : List V) (σ : L2.St) (δ : SEnv) (P : List R → SEnv → Prop) (Q : List V → Hp → Prop), XOk F B E Ex → Rep K F B H vs σ δ → W Ex δ P →
    (∀ B' H' ws rs δ', Same B B' → Rep K F B' H' vs σ δ' → RepRs K F B' H' σ δ' ws rs → P rs δ' → Q ws H') → t σ H Q
structure EndsOk (K : PySem.W.Frag) (F B : Hp) (vs : List V) (D : Ends) (d : DEnds) : Prop where
  nx : ∀ B' σ' H' δ', Same B B' → Rep K F B' H' vs σ' δ' → d.nx δ' → D.nx σ' H'
  rt : ∀ B' σ' H' δ' v r, Same B B' → Rep K F B' H' vs σ' δ' → RepR K F B' H' σ' δ' v r → d.rt r δ' → D.rt v H'
  bk : ∀ B' σ' H' δ', Same B B' → Rep K F B' H' vs σ' δ' → d.bk δ' → D.bk σ' H'
  ct : ∀ B' σ' H' δ', Same B B' → Rep K F B' H' vs σ' δ' → d.ct δ' → D.ct σ' H'
theorem EndsOk.up {K : PySem.W.Frag} {F B B1 : Hp} {vs : List V} {D : Ends} {d : DEnds} (h : EndsOk K F B vs D d) (s : Same B B1) : EndsOk K F B1 vs D d :=
  ⟨fun B' σ' H' δ' s1 => h.nx B' σ' H' δ' (s.trans s1), fun B' σ' H' δ' v r s1 => h.rt B' σ' H' δ' v r (s.trans s1), fun B' σ' H' δ' s1 => h.bk B' σ' H' δ' (s.trans s1), fun B' σ' H' δ' s1 => h.ct B' σ' H' δ' (s.trans s1)⟩
structure SSim (K : PySem.W.Frag) (E : XK) (t : TS) (W : WS) : Prop where
  mono : ∀ (d d' : DEnds) (δ : SEnv), d.le d' → W d δ → W d' δ
  run : ∀ (F B H : Hp) (vs : List V) (σ : L2.St) (δ : SEnv) (D : Ends) (d : DEnds), XOk F B E d.ex → Rep K F B H vs σ δ → EndsOk K F B vs D d → W d δ → t D σ H

def DE (S : Sg) (e : Expr) (W : WE) : Prop := ∃ t, (∀ c, S.ok c → PE (S.g.cx c) e t) ∧ ESim S.g.K S.E t W
def DT (S : Sg) (e : Expr) (W : WT) : Prop := ∃ t, (∀ c, S.ok c → PT (S.g.cx c) e t) ∧ TSim S.g.K S.E t W
def DW' (S : Sg) (e : Expr) (W : WT) : Prop := ∃ t, (∀ c, S.ok c → PW (S.g.cx c) e t) ∧ TSim S.g.K S.E t W
def DA (S : Sg) (es : List Expr) (W : WA) : Prop := ∃ t, (∀ c, S.ok c → PA (S.g.cx c) es t) ∧ ASim S.g.K S.E t W
def DS (S : Sg) (st : Stmt) (W : WS) : Prop := ∃ t, (∀ c, S.ok c → PS (S.g.cx c) st t) ∧ SSim S.g.K S.E t W
def DSs (S : Sg) (st : List Stmt) (W : WS) : Prop := ∃ t, (∀ c, S.ok c → PSs (S.g.cx c) st t) ∧ SSim S.g.K S.E t W

/-! ### settled, frozen, viewed -/
def settle : R → Option R
  | .n (.l ds) => some (.d (.list ds))
  | .n _ => none
  | r => some r
def scalar : PyData → Bool
  | .none => true
  | .bool _ => true
  | .int _ => true
  | .str _ => true
  | _ => false
def frz (δ : SEnv) : R → Option (PyData × SEnv)
  | .d d => some (d, δ)
  | .w d => if scalar d then some (d, δ) else none
  | .n (.l ds) => some (.list ds, δ)
  | .n _ => none
  | .o i => match δ[i]? with
    | some (some (.o false (.l ds))) => some (.list ds, δ.set i (some (.d (.list ds))))
    | some (some (.d d)) => some (d, δ)
    | some (some (.w d)) => if scalar d then some (d, δ) else none
    | _ => none
inductive Vw where
  | d (d : PyData)
  | w (d : PyData)
  | k (kvs : List (Key × PyData))
  | t (kvs : List (List Key × PyData))
def Cont.vw : Cont → Vw
  | .l ds => .d (.list ds)
  | .k kvs => .k kvs
  | .t kvs => .t kvs
def wv (d : PyData) : Vw := if scalar d then .d d else .w d
def view (δ : SEnv) : R → Option Vw
  | .d d => some (.d d)
  | .w d => some (wv d)
  | .n c => some c.vw
  | .o i => match δ[i]? with
    | some (some (.d d)) => some (.d d)
    | some (some (.w d)) => some (wv d)
    | some (some (.o _ c)) => some c.vw
    | _ => none
def OV (K : PySem.W.Frag) (B H : Hp) (v : V) : Vw → Prop
  | .d d => DD B v d ∨ ∃ a xs ds, v = .ref a ∧ d = .list ds ∧ H a = some (.lst xs) ∧ DDs B xs ds
  | .w d => DW K v d
  | .k kvs => ∃ a ys, v = .ref a ∧ H a = some (.dK ys) ∧ KDs B ys kvs
  | .t kvs => ∃ a ys, v = .ref a ∧ H a = some (.dT ys) ∧ KDs B ys kvs

section
variable {K : PySem.W.Frag} {F B H B' H' : Hp} {vs : List V} {σ : L2.St} {δ : SEnv} {v : V}
theorem DW.scal {d : PyData} (h : DW K v d) (e : scalar d = true) : DD B v d := by
  unfold DW at h
  cases h with
  | non => exact .non
  | bl b => exact .bl b
  | int i => exact .int i
  | str x => exact .str x
  | lst _ _ => cases e
  | tup _ _ => cases e
theorem wv_ov {d : PyData} (h : DW K v d) : OV K B H v (wv d) := by
  unfold wv
  split
  · exact .inl (h.scal (by assumption))
  · exact h
theorem cont_ov {a : Addr} {c : Cont} (h : ContOk B H a c) : OV K B H (.ref a) c.vw := by
  cases c with
  | l ds => obtain ⟨xs, e, q⟩ := h; exact .inr ⟨a, xs, ds, rfl, rfl, e, q⟩
  | k kvs => obtain ⟨xs, e, q⟩ := h; exact ⟨a, xs, rfl, e, q⟩
  | t kvs => obtain ⟨xs, e, q⟩ := h; exact ⟨a, xs, rfl, e, q⟩
theorem view_ok {r : R} {w : Vw} (h : Rep K F B H vs σ δ) (hr : RepR K F B H σ δ v r) (e : view δ r = some w) : OV K B H v w := by
  cases r with
  | d d => cases e; exact .inl hr
  | w d => cases e; exact wv_ov hr
  | n c =>
    cases e
    obtain ⟨a, rfl, _, _, q, _⟩ := hr
    exact cont_ov q
  | o i =>
    have e1 : σ[i]? = some (some v) := hr
    obtain ⟨s, e2⟩ : ∃ s, δ[i]? = some (some s) := by
      simp only [view] at e
      split at e
      · exact ⟨_, by assumption⟩
      · exact ⟨_, by assumption⟩
      · exact ⟨_, by assumption⟩
      · cases e
    obtain ⟨v', e3, q⟩ := h.ok i s e2
    have ev : v = v' := by
      have z := e1.symm.trans e3
      exact Option.some.inj (Option.some.inj z)
    subst ev
    cases s with
    | d d => simp only [view, e2, Option.some.injEq] at e; subst e; exact .inl q
    | w d => simp only [view, e2, Option.some.injEq] at e; subst e; exact wv_ov q
    | o b c =>
      simp only [view, e2, Option.some.injEq] at e; subst e
      obtain ⟨a, rfl, _, _, q⟩ := q
      exact cont_ov q
theorem DW.dp {d : PyData} (h : DW K v d) : Dp K H v d := dp_mono (fun _ _ z => by cases z) h
theorem OV.dp {d : PyData} (s : Same B H) (h : OV K B H v (.d d)) : Dp K H v d := by
  rcases h with h | ⟨a, xs, ds, rfl, rfl, e, q⟩
  · exact (h.mono s).dp
  · exact .lst (SqL.of e) (q.mono s).dp
/-- a slot's knowledge is given up -/
theorem set_get {α : Type} {l : List α} {i j : Nat} {x y : α} (h : (l.set i x)[j]? = some y) : (j = i ∧ y = x) ∨ (j ≠ i ∧ l[j]? = some y) := by
  by_cases e : j = i
  · subst e
    have hl : j < (l.set j x).length := (List.getElem?_eq_some_iff.mp h).1
    rw [List.length_set] at hl
    rw [List.getElem?_set_self hl] at h
    exact .inl ⟨rfl, (Option.some.inj h).symm⟩
  · rw [List.getElem?_set_ne (Ne.symm e)] at h
    exact .inr ⟨e, h⟩
theorem Rep.forget (h : Rep K F B H vs σ δ) (i : Nat) : Rep K F B H vs σ (δ.set i none) := by
  refine ⟨h.sb, h.sf, h.dj, by rw [List.length_set]; exact h.len, fun j s e => ?_, fun j k a b c b' c' e1 e2 => ?_, fun j c e => ?_⟩
  · rcases set_get e with ⟨_, z⟩ | ⟨_, z⟩
    · cases z
    · exact h.ok j s z
  · rcases set_get e1 with ⟨_, z⟩ | ⟨_, z⟩
    · cases z
    · rcases set_get e2 with ⟨_, z2⟩ | ⟨_, z2⟩
      · cases z2
      · exact h.apart j k a b c b' c' z z2
  · rcases set_get e with ⟨_, z⟩ | ⟨_, z⟩
    · cases z
    · exact h.bor j c z
/-- a slot is known to hold data (its value as it is) -/
theorem Rep.know (h : Rep K F B H vs σ δ) {i : Nat} {d : PyData} (e : σ[i]? = some (some v)) (q : DD B v d) : Rep K F B H vs σ (δ.set i (some (.d d))) := by
  refine ⟨h.sb, h.sf, h.dj, by rw [List.length_set]; exact h.len, fun j s e => ?_, fun j k a b c b' c' e1 e2 => ?_, fun j c e => ?_⟩
  · rcases set_get e with ⟨rfl, z⟩ | ⟨_, z⟩
    · cases z; exact ⟨v, by assumption, q⟩
    · exact h.ok j s z
  · rcases set_get e1 with ⟨_, z⟩ | ⟨_, z⟩
    · cases z
    · rcases set_get e2 with ⟨_, z2⟩ | ⟨_, z2⟩
      · cases z2
      · exact h.apart j k a b c b' c' z z2
  · rcases set_get e with ⟨_, z⟩ | ⟨_, z⟩
    · cases z
    · exact h.bor j c z
theorem set_set' {α : Type} (l : List α) (i : Nat) (x y : α) : (l.set i x).set i y = l.set i y := by rw [List.set_set]
theorem frz_ok {r : R} {d : PyData} {δ' : SEnv} (h : Rep K F B H vs σ δ) (hr : RepR K F B H σ δ v r) (e : frz δ r = some (d, δ')) : ∃ B', Same B B' ∧ Rep K F B' H vs σ δ' ∧ DD B' v d := by
  cases r with
  | d d => cases e; exact ⟨B, Same.refl _, h, hr⟩
  | w d =>
    simp only [frz] at e
    split at e
    · cases e; exact ⟨B, Same.refl _, h, DW.scal hr (by assumption)⟩
    · cases e
  | n c =>
    cases c with
    | l ds =>
      cases e
      obtain ⟨a, rfl, hB, hF, ⟨xs, e1, q⟩, hn⟩ := hr
      exact ⟨_, same_new hB _, h.freeze e1 hB hF hn, .lst (.inl upd_same) (q.mono (same_new hB _))⟩
    | k _ => cases e
    | t _ => cases e
  | o i =>
    have e1 : σ[i]? = some (some v) := hr
    obtain ⟨s, e2⟩ : ∃ s, δ[i]? = some (some s) := by
      simp only [frz] at e
      split at e
      · exact ⟨_, by assumption⟩
      · exact ⟨_, by assumption⟩
      · exact ⟨_, by assumption⟩
      · cases e
    obtain ⟨v', e3, q⟩ := h.ok i s e2
    have ev : v = v' := by
      have z := e1.symm.trans e3
      exact Option.some.inj (Option.some.inj z)
    subst ev
    simp only [frz, e2] at e
    cases s with
    | d d => cases e; exact ⟨B, Same.refl _, h, q⟩
    | w d =>
      simp only at e
      split at e
      · cases e; exact ⟨B, Same.refl _, h, DW.scal q (by assumption)⟩
      · cases e
    | o b c =>
      cases b with
      | true => cases e
      | false =>
        cases c with
        | k _ => cases e
        | t _ => cases e
        | l ds =>
          cases e
          obtain ⟨a, rfl, hB, hF, ⟨xs, e4, q⟩⟩ := q
          have h1 := (h.forget i).freeze e4 hB hF (fun j b' c' e5 e6 => by
            rcases set_get e5 with ⟨_, z⟩ | ⟨n, z⟩
            · cases z
            · exact n (h.apart j i a b' c' false _ z e2 e6 e1))
          have h2 := h1.know (i := i) e1 (DD.lst (.inl upd_same) (q.mono (same_new hB _)))
          rw [set_set'] at h2
          exact ⟨_, same_new hB _, h2, .lst (.inl upd_same) (q.mono (same_new hB _))⟩
theorem RepR.up {r : R} (s : Same B B') (h : RepR K F B H σ δ v r) (hn : ∀ c, r ≠ .n c) {δ' : SEnv} : RepR K F B' H' σ δ' v r := by
  cases r with
  | d d => exact DD.mono s h
  | w d => exact h
  | o i => exact h
  | n c => exact absurd rfl (hn c)
theorem settle_ok {r r' : R} (h : Rep K F B H vs σ δ) (hr : RepR K F B H σ δ v r) (e : settle r = some r') : ∃ B', Same B B' ∧ Rep K F B' H vs σ δ ∧ RepR K F B' H σ δ v r' ∧ ∀ c, r' ≠ .n c := by
  cases r with
  | d d => cases e; exact ⟨B, Same.refl _, h, hr, fun _ z => nomatch z⟩
  | w d => cases e; exact ⟨B, Same.refl _, h, hr, fun _ z => nomatch z⟩
  | o i => cases e; exact ⟨B, Same.refl _, h, hr, fun _ z => nomatch z⟩
  | n c =>
    cases c with
    | l ds =>
      cases e
      obtain ⟨B', s, h', q⟩ := frz_ok (δ' := δ) h hr rfl
      exact ⟨B', s, h', q, fun _ z => nomatch z⟩
    | k _ => cases e
    | t _ => cases e
end
end DL
set_option Elab.async false
set_option linter.all false
set_option maxRecDepth 100000
set_option maxHeartbeats 4000000
set_option autoImplicit false
namespace DL
open PySem PySem.Spec PyProof.Rows L2

def ob {α : Type} (o : Option α) (p : α → Prop) : Prop := ∃ a, o = some a ∧ p a
theorem ob_some {α : Type} {a : α} {p : α → Prop} : ob (some a) p ↔ p a := ⟨fun ⟨_, e, h⟩ => by cases e; exact h, fun h => ⟨a, rfl, h⟩⟩
theorem ob_none {α : Type} {p : α → Prop} : ob none p ↔ False := ⟨fun h => (by obtain ⟨_, e, _⟩ := h; exact nomatch e), False.elim⟩
theorem ob.imp {α : Type} {o : Option α} {p q : α → Prop} (h : ob o p) (f : ∀ a, p a → q a) : ob o q := let ⟨a, e, x⟩ := h; ⟨a, e, f a x⟩

/-! ### what an operation gives -/
inductive Rv where
  | val (d : PyData)
  | tup (ds : List PyData)
  | lst (ds : List PyData)
  | dk (kvs : List (Key × PyData))
  | dt (kvs : List (List Key × PyData))
def Rv.r : Rv → R
  | .val d => .d d
  | .tup ds => .d (.tuple ds)
  | .lst ds => .n (.l ds)
  | .dk kvs => .n (.k kvs)
  | .dt kvs => .n (.t kvs)
def RvK (B H : Hp) (Q : VK) : Rv → Prop
  | .val d => ∀ z, DD B z d → Q z H
  | .tup ds => (∀ z, DD B z (.tuple ds) → Q z H) ∧ ∀ p xs, H p = none → DDs B xs ds → Q (.ref p) (upd H p (.tup xs))
  | .lst ds => ∀ p xs, H p = none → DDs B xs ds → Q (.ref p) (upd H p (.lst xs))
  | .dk kvs => ∀ p ys, H p = none → KDs B ys kvs → Q (.ref p) (upd H p (.dK ys))
  | .dt kvs => ∀ p ys, H p = none → KDs B ys kvs → Q (.ref p) (upd H p (.dT ys))
section
variable {K : PySem.W.Frag} {F B H : Hp} {vs : List V} {σ : L2.St} {δ : SEnv}
theorem rvk_ok {rv : Rv} {P : R → SEnv → Prop} {Q : VK} {B0 : Hp} (s : Same B0 B) (h : Rep K F B H vs σ δ) (hP : P rv.r δ)
    (k : ∀ B' H' v r δ', Same B0 B' → Rep K F B' H' vs σ δ' → RepR K F B' H' σ δ' v r → P r δ' → Q v H') : RvK B H Q rv := by
  cases rv with
  | val d => exact fun z q => k B H z (.d d) δ s h q hP
  | tup ds =>
    refine ⟨fun z q => k B H z (.d (.tuple ds)) δ s h q hP, fun p xs hp q => ?_⟩
    exact k _ _ (.ref p) (.d (.tuple ds)) δ (s.trans (same_new (nof h.sb hp) _)) (h.new hp _) (DD.tup upd_same (q.mono (same_new (nof h.sb hp) _))) hP
  | lst ds => exact fun p xs hp q => k _ _ (.ref p) (.n (.l ds)) δ s (h.newO hp _) ⟨p, rfl, nof h.sb hp, nof h.sf hp, ⟨xs, upd_same, q⟩, h.fresh hp⟩ hP
  | dk kvs => exact fun p xs hp q => k _ _ (.ref p) (.n (.k kvs)) δ s (h.newO hp _) ⟨p, rfl, nof h.sb hp, nof h.sf hp, ⟨xs, upd_same, q⟩, h.fresh hp⟩ hP
  | dt kvs => exact fun p xs hp q => k _ _ (.ref p) (.n (.t kvs)) δ s (h.newO hp _) ⟨p, rfl, nof h.sb hp, nof h.sf hp, ⟨xs, upd_same, q⟩, h.fresh hp⟩ hP
end

/-! ### names, constants -/
def wVar (i : Nat) : WE := fun _ δ P => ob (δ[i]?) fun o => ob o fun s => match s with
  | .d d => P (.d d) δ
  | .w d => P (.w d) δ
  | .o _ _ => P (.o i) δ
def wC (d : PyData) : WE := fun _ δ P => P (.d d) δ
section
variable {S : Sg}
theorem de_var {i : Nat} {x : Str} {pos : Pos} (hN : S.N[i]? = some x) (hv : Vis S.sc x) (hd : (x == ("__debug__" : Str)) = false := by decide) (hcd : (x == ("__classdict__" : Str)) = false := by decide) : DE S (.Name x pos) (wVar i) := by
  refine ⟨tVar i, fun c hc => pe_var (X := S.g.cx c) (by show c.N[i]? = _; rw [hc.hN]; exact hN) (by show Vis c.env.scope x; rw [hc.hs]; exact hv) hd hcd, ⟨fun Ex Ex' δ P P' _ h w => ?_, fun Ex F B H vs σ δ P Q hx h w k => ?_⟩⟩
  · obtain ⟨o, e, s, e2, w⟩ := w
    refine ⟨o, e, s, e2, ?_⟩
    cases s <;> exact h _ _ w
  · obtain ⟨o, e, s, e2, w⟩ := w
    subst e2
    obtain ⟨v, e3, q⟩ := h.ok i s e
    refine ⟨v, e3, ?_⟩
    cases s with
    | d d => exact k B H v (.d d) δ (Same.refl _) h q w
    | w d => exact k B H v (.w d) δ (Same.refl _) h q w
    | o b c => exact k B H v (.o i) δ (Same.refl _) h e3 w
theorem de_const {e : Expr} {v : V} {d : PyData} (h : ∀ c, S.ok c → PE (S.g.cx c) e (tC v)) (q : ∀ B, DD B v d) : DE S e (wC d) :=
  ⟨tC v, h, ⟨fun _ _ δ P P' _ h w => h _ _ w, fun Ex F B H vs σ δ P Q hx h w k => k B H v (.d d) δ (Same.refl _) h (q B) w⟩⟩
theorem de_int {i : Int} {j : Nat} {pos : Pos} : DE S (.Constant (.int i) j pos) (wC (.int i)) := de_const (v := .int i) (fun _ _ => pe_int) fun _ => .int i
theorem de_bl {b : Bool} {j : Nat} {pos : Pos} : DE S (.Constant (.bool b) j pos) (wC (.bool b)) := de_const (v := .bl b) (fun _ _ => pe_bl) fun _ => .bl b
theorem de_non {j : Nat} {pos : Pos} : DE S (.Constant .none j pos) (wC .none) := de_const (v := .non) (fun _ _ => pe_non) fun _ => .non
theorem de_str {x : Str} {j : Nat} {pos : Pos} : DE S (.Constant (.str x) j pos) (wC (.str x)) := de_const (v := .str x) (fun _ _ => pe_str) fun _ => .str x

/-! ### two-place operations -/
def rF (K : PySem.W.Frag) (f : Vw → Vw → Option Rv) : R2 := fun x y H Q => ∃ B a b rv, Same B H ∧ OV K B H x a ∧ OV K B H y b ∧ f a b = some rv ∧ RvK B H Q rv
def OpS (S : Sg) (op : Value → Value → Sem Value) (f : Vw → Vw → Option Rv) : Prop := ∀ c, S.ok c → OpR (S.g.cx c) op (rF S.g.K f)
def wOp (f : Vw → Vw → Option Rv) (wa wb : WE) : WE := fun Ex δ P => wa Ex δ fun ra δ1 => ob (settle ra) fun ra' => wb Ex δ1 fun rb δ2 => ob (view δ2 ra') fun a => ob (view δ2 rb) fun b => ob (f a b) fun rv => P rv.r δ2
theorem sim_op {K : PySem.W.Frag} {E : XK} {ta tb : TE} {wa wb : WE} {f : Vw → Vw → Option Rv} (ha : ESim K E ta wa) (hb : ESim K E tb wb) : ESim K E (tOp (rF K f) ta tb) (wOp f wa wb) := by
  refine ⟨fun Ex Ex' δ P P' hx h w => ?_, fun Ex F B H vs σ δ P Q hx h w k => ?_⟩
  · refine ha.mono _ _ _ _ _ hx (fun r δ1 w => w.imp fun r' w => ?_) w
    exact hb.mono _ _ _ _ _ hx (fun r δ2 w => w.imp fun a w => w.imp fun b w => w.imp fun rv w => h _ _ w) w
  · refine ha.run _ _ _ _ _ _ _ _ _ hx h w fun B1 H1 x ra δ1 s1 h1 q1 w1 => ?_
    obtain ⟨ra', e1, w1⟩ := w1
    obtain ⟨B2, s2, h2, q2, n2⟩ := settle_ok h1 q1 e1
    refine hb.run _ _ _ _ _ _ _ _ _ (hx.up (s1.trans s2)) h2 w1 fun B3 H3 y rb δ2 s3 h3 q3 w3 => ?_
    obtain ⟨a, e2, b, e3, rv, e4, w3⟩ := w3
    have q4 := RepR.up (H' := H3) s3 q2 n2 (δ' := δ2)
    exact ⟨B3, a, b, rv, h3.sb, view_ok h3 q4 e2, view_ok h3 q3 e3, e4, rvk_ok ((s1.trans s2).trans s3) h3 w3 k⟩
theorem de_op {a b : Expr} {wa wb : WE} {pos : Pos} {op : Operator} {f : Vw → Vw → Option Rv} (ho : OpS S (binaryOp op) f) (ha : DE S a wa) (hb : DE S b wb) : DE S (.BinOp a op b pos) (wOp f wa wb) := by
  obtain ⟨ta, pa, sa⟩ := ha
  obtain ⟨tb, pb, sb⟩ := hb
  exact ⟨_, fun c hc => pe_op (ho c hc) (pa c hc) (pb c hc), sim_op sa sb⟩
theorem de_cmp {a b : Expr} {wa wb : WE} {pos : Pos} {op : CmpOp} {f : Vw → Vw → Option Rv} (ho : OpS S (compareOp op) f) (ha : DE S a wa) (hb : DE S b wb) (hm : behindInMarks op b = false) : DE S (.Compare a [op] [b] pos) (wOp f wa wb) := by
  obtain ⟨ta, pa, sa⟩ := ha
  obtain ⟨tb, pb, sb⟩ := hb
  exact ⟨_, fun c hc => pe_cmpR (ho c hc) (pa c hc) (pb c hc) hm, sim_op sa sb⟩

/-! ### tests -/
def isB : R → Option Bool
  | .d (.bool b) => some b
  | _ => none
def wB (wa : WE) : WT := fun Ex δ P => wa Ex δ fun r δ1 => ob (isB r) fun b => P b δ1
theorem isB_ok {K : PySem.W.Frag} {F B H : Hp} {σ : L2.St} {δ : SEnv} {v : V} {r : R} {b : Bool} (h : RepR K F B H σ δ v r) (e : isB r = some b) : v = .bl b := by
  unfold isB at e
  split at e
  · cases e; cases (show DD B v (.bool b) from h); rfl
  · cases e
theorem sim_test {K : PySem.W.Frag} {E : XK} {ta : TE} {wa : WE} (ha : ESim K E ta wa) : TSim K E (tTest ta) (wB wa) := by
  refine ⟨fun Ex Ex' δ P P' hx h w => ha.mono _ _ _ _ _ hx (fun r δ1 w => w.imp fun b w => h _ _ w) w, fun Ex F B H vs σ δ P Q hx h w k => ?_⟩
  refine ha.run _ _ _ _ _ _ _ _ _ hx h w fun B1 H1 x ra δ1 s1 h1 q1 w1 => ?_
  obtain ⟨b, e, w1⟩ := w1
  exact ⟨b, isB_ok q1 e, k B1 H1 b δ1 s1 h1 w1⟩
theorem dt_cmp {a b : Expr} {wa wb : WE} {pos : Pos} {op : CmpOp} {f : Vw → Vw → Option Rv} (ho : OpS S (compareOp op) f) (ha : DE S a wa) (hb : DE S b wb) (hm : behindInMarks op b = false) : DT S (.Compare a [op] [b] pos) (wB (wOp f wa wb)) := by
  obtain ⟨ta, pa, sa⟩ := ha
  obtain ⟨tb, pb, sb⟩ := hb
  exact ⟨_, fun c hc => pt_cmpR (ho c hc) (pa c hc) (pb c hc) hm, sim_test (sim_op sa sb)⟩
/-- a value's truth -/
def truD : PyData → Option Bool
  | .none => some false
  | .bool b => some b
  | .int i => some (i != 0)
  | .str y => if y.length ≤ sizeLine then some ((y.length : Int) != 0) else none
  | .list ds => some (!ds.isEmpty)
  | .tuple ds => some (!ds.isEmpty)
  | _ => none
def truF : Vw → Option Bool
  | .d d => truD d
  | .w d => truD d
  | .k kvs => some (!kvs.isEmpty)
  | _ => none
def wTru (wa : WE) : WT := fun Ex δ P => wa Ex δ fun r δ1 => ob (view δ1 r) fun w => ob (truF w) fun b => P b δ1
theorem DDs.isEmpty {B : Hp} {vs : List V} {ds : List PyData} (h : DDs B vs ds) : vs.isEmpty = ds.isEmpty := by cases h <;> rfl
theorem dps_isEmpty {K : PySem.W.Frag} {B : Hp} {vs : List V} {ds : List PyData} (h : DpAll K B vs ds) : vs.isEmpty = ds.isEmpty := by cases h <;> rfl
theorem kds_isEmpty {κ : Type} {B : Hp} {vs : List (κ × V)} {ds : List (κ × PyData)} (h : KDs B vs ds) : vs.isEmpty = ds.isEmpty := by cases h <;> rfl
theorem tru_dp {K : PySem.W.Frag} {H : Hp} {v : V} {d : PyData} {b : Bool} (h : Dp K H v d) (e : truD d = some b) : TruV K v H b := by
  cases h with
  | non => cases e; rfl
  | bl b => cases e; rfl
  | int i => cases e; rfl
  | str x =>
    simp only [truD] at e
    split at e
    · cases e; exact ⟨by assumption, rfl⟩
    · cases e
  | lst r q => cases e; exact .inl ⟨_, r, by rw [dps_isEmpty q]⟩
  | tup r q => cases e; exact .inr (.inl ⟨_, r, by rw [dps_isEmpty q]⟩)
theorem tru_ov {K : PySem.W.Frag} {B H : Hp} {v : V} {w : Vw} {b : Bool} (s : Same B H) (h : OV K B H v w) (e : truF w = some b) : TruV K v H b := by
  cases w with
  | d d => exact tru_dp (OV.dp s h) e
  | w d => exact tru_dp (DW.dp h) e
  | k kvs => cases e; obtain ⟨a, ys, rfl, e1, q⟩ := h; exact .inr (.inr ⟨ys, e1, by rw [kds_isEmpty q]⟩)
  | t kvs => cases e
theorem dt_tru {a : Expr} {wa : WE} (ha : DE S a wa) (he : ∀ (env : Env) whole, isTrue a env whole = (do let v ← whole; standAt a.pos; holding [v] (truthy v))) : DT S a (wTru wa) := by
  obtain ⟨ta, pa, sa⟩ := ha
  refine ⟨fun σ H Q => ta σ H fun x H' => ∃ k, TruV S.g.K x H' k ∧ Q k H', fun c hc => pt_truth (X := S.g.cx c) (pa c hc) (he _), ⟨fun Ex Ex' δ P P' hx h w => sa.mono _ _ _ _ _ hx (fun r δ1 w => w.imp fun a w => w.imp fun b w => h _ _ w) w, fun Ex F B H vs σ δ P Q hx h w k => ?_⟩⟩
  refine sa.run _ _ _ _ _ _ _ _ _ hx h w fun B1 H1 x ra δ1 s1 h1 q1 w1 => ?_
  obtain ⟨vw, e1, b, e2, w1⟩ := w1
  exact ⟨b, tru_ov h1.sb (view_ok h1 q1 e1) e2, k B1 H1 b δ1 s1 h1 w1⟩
def wAnd (wa wb : WT) : WT := fun Ex δ P => wa Ex δ fun b δ1 => if b = true then wb Ex δ1 P else P false δ1
def wOr (wa wb : WT) : WT := fun Ex δ P => wa Ex δ fun b δ1 => if b = true then P true δ1 else wb Ex δ1 P
def wNot (wa : WT) : WT := fun Ex δ P => wa Ex δ fun b δ1 => P (!b) δ1
theorem dw_and1 {a : Expr} {wa : WT} {pos : Pos} (ha : DT S a wa) : DW' S (.BoolOp .And [a] pos) wa := by
  obtain ⟨t, p, s⟩ := ha
  exact ⟨t, fun c hc => pw_and1 (p c hc), s⟩
theorem dw_or1 {a : Expr} {wa : WT} {pos : Pos} (ha : DT S a wa) : DW' S (.BoolOp .Or [a] pos) wa := by
  obtain ⟨t, p, s⟩ := ha
  exact ⟨t, fun c hc => pw_or1 (p c hc), s⟩
theorem sim_and {K : PySem.W.Frag} {E : XK} {ta tb : TT} {wa wb : WT} (ha : TSim K E ta wa) (hb : TSim K E tb wb) : TSim K E (tAnd ta tb) (wAnd wa wb) := by
  refine ⟨fun Ex Ex' δ P P' hx h w => ha.mono _ _ _ _ _ hx (fun b δ1 w => ?_) w, fun Ex F B H vs σ δ P Q hx h w k => ?_⟩
  · cases b with
    | true => exact hb.mono _ _ _ _ _ hx h w
    | false => exact h _ _ w
  · refine ha.run _ _ _ _ _ _ _ _ _ hx h w fun B1 H1 bb δ1 s1 h1 w1 => ?_
    cases bb with
    | true => exact hb.run _ _ _ _ _ _ _ _ _ (hx.up s1) h1 w1 fun B2 H2 b δ2 s2 h2 w2 => k B2 H2 b δ2 (s1.trans s2) h2 w2
    | false => exact k B1 H1 false δ1 s1 h1 w1
theorem sim_or {K : PySem.W.Frag} {E : XK} {ta tb : TT} {wa wb : WT} (ha : TSim K E ta wa) (hb : TSim K E tb wb) : TSim K E (tOr ta tb) (wOr wa wb) := by
  refine ⟨fun Ex Ex' δ P P' hx h w => ha.mono _ _ _ _ _ hx (fun b δ1 w => ?_) w, fun Ex F B H vs σ δ P Q hx h w k => ?_⟩
  · cases b with
    | true => exact h _ _ w
    | false => exact hb.mono _ _ _ _ _ hx h w
  · refine ha.run _ _ _ _ _ _ _ _ _ hx h w fun B1 H1 bb δ1 s1 h1 w1 => ?_
    cases bb with
    | true => exact k B1 H1 true δ1 s1 h1 w1
    | false => exact hb.run _ _ _ _ _ _ _ _ _ (hx.up s1) h1 w1 fun B2 H2 b δ2 s2 h2 w2 => k B2 H2 b δ2 (s1.trans s2) h2 w2
theorem dw_and {a b : Expr} {rest : List Expr} {wa wb : WT} {pos : Pos} (ha : DT S a wa) (hb : DW' S (.BoolOp .And (b :: rest) pos) wb) : DW' S (.BoolOp .And (a :: b :: rest) pos) (wAnd wa wb) := by
  obtain ⟨ta, pa, sa⟩ := ha
  obtain ⟨tb, pb, sb⟩ := hb
  exact ⟨_, fun c hc => pw_and (pa c hc) (pb c hc), sim_and sa sb⟩
theorem dw_or {a b : Expr} {rest : List Expr} {wa wb : WT} {pos : Pos} (ha : DT S a wa) (hb : DW' S (.BoolOp .Or (b :: rest) pos) wb) : DW' S (.BoolOp .Or (a :: b :: rest) pos) (wOr wa wb) := by
  obtain ⟨ta, pa, sa⟩ := ha
  obtain ⟨tb, pb, sb⟩ := hb
  exact ⟨_, fun c hc => pw_or (pa c hc) (pb c hc), sim_or sa sb⟩
theorem dt_w {e : Expr} {w : WT} (h : DW' S e w) : DT S e w := by
  obtain ⟨t, p, s⟩ := h
  exact ⟨t, fun c hc => (p c hc).pt, s⟩
theorem dt_not {a : Expr} {wa : WT} {pos : Pos} (ha : DT S a wa) : DT S (.UnaryOp .Not a pos) (wNot wa) := by
  obtain ⟨t, p, s⟩ := ha
  refine ⟨_, fun c hc => pt_not (p c hc), ⟨fun Ex Ex' δ P P' hx h w => s.mono _ _ _ _ _ hx (fun b δ1 w => h _ _ w) w, fun Ex F B H vs σ δ P Q hx h w k => ?_⟩⟩
  exact s.run _ _ _ _ _ _ _ _ _ hx h w fun B1 H1 b δ1 s1 h1 w1 => k B1 H1 (!b) δ1 s1 h1 w1
/-! ### .. as values -/
def wAndV (wa wb : WE) : WE := fun Ex δ P => wa Ex δ fun r δ1 => ob (isB r) fun b => if b = true then wb Ex δ1 P else P (.d (.bool false)) δ1
def wOrV (wa wb : WE) : WE := fun Ex δ P => wa Ex δ fun r δ1 => ob (isB r) fun b => if b = true then P (.d (.bool true)) δ1 else wb Ex δ1 P
def wNotV (wa : WE) : WE := fun Ex δ P => wa Ex δ fun r δ1 => ob (isB r) fun b => P (.d (.bool (!b))) δ1
theorem de_one {a : Expr} {wa : WE} {op : BoolOp} {pos : Pos} (ha : DE S a wa) : DE S (.BoolOp op [a] pos) wa := by
  obtain ⟨t, p, s⟩ := ha
  exact ⟨t, fun c hc => pe_one (p c hc), s⟩
theorem de_and {a b : Expr} {rest : List Expr} {wa wb : WE} {pos : Pos} (ha : DE S a wa) (hb : DE S (.BoolOp .And (b :: rest) pos) wb) : DE S (.BoolOp .And (a :: b :: rest) pos) (wAndV wa wb) := by
  obtain ⟨ta, pa, sa⟩ := ha
  obtain ⟨tb, pb, sb⟩ := hb
  refine ⟨_, fun c hc => pe_and (pa c hc) (pb c hc), ⟨fun Ex Ex' δ P P' hx h w => ?_, fun Ex F B H vs σ δ P Q hx h w k => ?_⟩⟩
  · refine sa.mono _ _ _ _ _ hx (fun r δ1 w => w.imp fun bb w => ?_) w
    cases bb with
    | true => exact sb.mono _ _ _ _ _ hx h w
    | false => exact h _ _ w
  · refine sa.run _ _ _ _ _ _ _ _ _ hx h w fun B1 H1 x r δ1 s1 h1 q1 w1 => ?_
    obtain ⟨bb, e, w1⟩ := w1
    refine ⟨bb, isB_ok q1 e, ?_⟩
    cases bb with
    | true => exact sb.run _ _ _ _ _ _ _ _ _ (hx.up s1) h1 w1 fun B2 H2 v r δ2 s2 h2 q2 w2 => k B2 H2 v r δ2 (s1.trans s2) h2 q2 w2
    | false => exact k B1 H1 _ (.d (.bool false)) δ1 s1 h1 (DD.bl false) w1
theorem de_or {a b : Expr} {rest : List Expr} {wa wb : WE} {pos : Pos} (ha : DE S a wa) (hb : DE S (.BoolOp .Or (b :: rest) pos) wb) : DE S (.BoolOp .Or (a :: b :: rest) pos) (wOrV wa wb) := by
  obtain ⟨ta, pa, sa⟩ := ha
  obtain ⟨tb, pb, sb⟩ := hb
  refine ⟨_, fun c hc => pe_or (pa c hc) (pb c hc), ⟨fun Ex Ex' δ P P' hx h w => ?_, fun Ex F B H vs σ δ P Q hx h w k => ?_⟩⟩
  · refine sa.mono _ _ _ _ _ hx (fun r δ1 w => w.imp fun bb w => ?_) w
    cases bb with
    | true => exact h _ _ w
    | false => exact sb.mono _ _ _ _ _ hx h w
  · refine sa.run _ _ _ _ _ _ _ _ _ hx h w fun B1 H1 x r δ1 s1 h1 q1 w1 => ?_
    obtain ⟨bb, e, w1⟩ := w1
    refine ⟨bb, isB_ok q1 e, ?_⟩
    cases bb with
    | true => exact k B1 H1 _ (.d (.bool true)) δ1 s1 h1 (DD.bl true) w1
    | false => exact sb.run _ _ _ _ _ _ _ _ _ (hx.up s1) h1 w1 fun B2 H2 v r δ2 s2 h2 q2 w2 => k B2 H2 v r δ2 (s1.trans s2) h2 q2 w2
theorem de_not {a : Expr} {wa : WE} {pos : Pos} (ha : DE S a wa) : DE S (.UnaryOp .Not a pos) (wNotV wa) := by
  obtain ⟨t, p, s⟩ := ha
  refine ⟨_, fun c hc => pe_not (p c hc), ⟨fun Ex Ex' δ P P' hx h w => s.mono _ _ _ _ _ hx (fun r δ1 w => w.imp fun b w => h _ _ w) w, fun Ex F B H vs σ δ P Q hx h w k => ?_⟩⟩
  refine s.run _ _ _ _ _ _ _ _ _ hx h w fun B1 H1 x r δ1 s1 h1 q1 w1 => ?_
  obtain ⟨b, e, w1⟩ := w1
  exact ⟨b, isB_ok q1 e, k B1 H1 _ (.d (.bool (!b))) δ1 s1 h1 (DD.bl _) w1⟩
def wIf (wt : WT) (wa wb : WE) : WE := fun Ex δ P => wt Ex δ fun b δ1 => if b = true then wa Ex δ1 P else wb Ex δ1 P
theorem de_ifx {c a b : Expr} {wt : WT} {wa wb : WE} {pos : Pos} (hc : DT S c wt) (ha : DE S a wa) (hb : DE S b wb) : DE S (.IfExp c a b pos) (wIf wt wa wb) := by
  obtain ⟨tt, pt, st⟩ := hc
  obtain ⟨ta, pa, sa⟩ := ha
  obtain ⟨tb, pb, sb⟩ := hb
  refine ⟨_, fun c hc => pe_ifExp (pt c hc) (pa c hc) (pb c hc), ⟨fun Ex Ex' δ P P' hx h w => st.mono _ _ _ _ _ hx (fun bb δ1 w => ?_) w, fun Ex F B H vs σ δ P Q hx h w k => ?_⟩⟩
  · cases bb with
    | true => exact sa.mono _ _ _ _ _ hx h w
    | false => exact sb.mono _ _ _ _ _ hx h w
  · refine st.run _ _ _ _ _ _ _ _ _ hx h w fun B1 H1 bb δ1 s1 h1 w1 => ?_
    cases bb with
    | true => exact sa.run _ _ _ _ _ _ _ _ _ (hx.up s1) h1 w1 fun B2 H2 v r δ2 s2 h2 q2 w2 => k B2 H2 v r δ2 (s1.trans s2) h2 q2 w2
    | false => exact sb.run _ _ _ _ _ _ _ _ _ (hx.up s1) h1 w1 fun B2 H2 v r δ2 s2 h2 q2 w2 => k B2 H2 v r δ2 (s1.trans s2) h2 q2 w2
end
end DL
set_option Elab.async false
set_option linter.all false
set_option maxRecDepth 100000
set_option maxHeartbeats 4000000
set_option autoImplicit false
namespace DL
open PySem PySem.Spec PyProof.Rows L2

/-! ### argument lists, displays -/
def wNil : WA := fun _ δ P => P [] δ
def wCons (wa : WE) (wr : WA) : WA := fun Ex δ P => wa Ex δ fun r δ1 => ob (settle r) fun r' => wr Ex δ1 fun rs δ2 => P (r' :: rs) δ2
section
variable {S : Sg}
theorem da_nil : DA S [] wNil := ⟨tNil, fun _ _ => pa_nil, ⟨fun _ _ δ P P' _ h w => h _ _ w, fun Ex F B H vs σ δ P Q hx h w k => k B H [] [] δ (Same.refl _) h .nil w⟩⟩
theorem da_cons {e : Expr} {es : List Expr} {wa : WE} {wr : WA} (ha : DE S e wa) (hr : DA S es wr) (hs : ∀ env, starEach (e :: es) env = (false, eval e env) :: starEach es env := by intro _; rfl) : DA S (e :: es) (wCons wa wr) := by
  obtain ⟨ta, pa, sa⟩ := ha
  obtain ⟨tr, pr, sr⟩ := hr
  refine ⟨_, fun c hc => pa_cons (pa c hc) (pr c hc) (hs _), ⟨fun Ex Ex' δ P P' hx h w => ?_, fun Ex F B H vs σ δ P Q hx h w k => ?_⟩⟩
  · refine sa.mono _ _ _ _ _ hx (fun r δ1 w => w.imp fun r' w => ?_) w
    exact sr.mono _ _ _ _ _ hx (fun rs δ2 w => h _ _ w) w
  · refine sa.run _ _ _ _ _ _ _ _ _ hx h w fun B1 H1 x r δ1 s1 h1 q1 w1 => ?_
    obtain ⟨r', e1, w1⟩ := w1
    obtain ⟨B2, s2, h2, q2, n2⟩ := settle_ok h1 q1 e1
    refine sr.run _ _ _ _ _ _ _ _ _ (hx.up (s1.trans s2)) h2 w1 fun B3 H3 ws rs δ2 s3 h3 q3 w3 => ?_
    exact k B3 H3 (x :: ws) (r' :: rs) δ2 ((s1.trans s2).trans s3) h3 (.cons ⟨RepR.up s3 q2 n2, n2⟩ q3) w3
def frzs : SEnv → List R → Option (List PyData × SEnv)
  | δ, [] => some ([], δ)
  | δ, r :: rs => (frz δ r).bind fun p => (frzs p.2 rs).map fun q => (p.1 :: q.1, q.2)
theorem frzs_ok {K : PySem.W.Frag} {F H : Hp} {vs : List V} {σ : L2.St} : ∀ {rs : List R} {ws : List V} {B : Hp} {δ δ' : SEnv} {ds : List PyData}, Rep K F B H vs σ δ → RepRs K F B H σ δ ws rs → frzs δ rs = some (ds, δ') →
    ∃ B', Same B B' ∧ Rep K F B' H vs σ δ' ∧ DDs B' ws ds
  | [], _, B, δ, _, _, h, q, e => by
    cases q; cases e
    exact ⟨B, Same.refl _, h, .nil⟩
  | r :: rs, _, B, δ, _, _, h, q, e => by
    cases q with
    | cons q1 q2 =>
      simp only [frzs] at e
      obtain ⟨⟨d, δ1⟩, e1, e⟩ := Option.bind_eq_some_iff.mp e
      obtain ⟨⟨ds, δ2⟩, e2, e⟩ := Option.map_eq_some_iff.mp e
      cases e
      obtain ⟨B1, s1, h1, d1⟩ := frz_ok h q1.1 e1
      have q2' := Paired.mapP q2 (G := fun v r => RepR K F B1 H σ δ1 v r ∧ ∀ c, r ≠ .n c) fun v r z => ⟨RepR.up s1 z.1 z.2, z.2⟩
      obtain ⟨B2, s2, h2, d2⟩ := frzs_ok h1 q2' e2
      exact ⟨B2, s1.trans s2, h2, .cons (d1.mono s2) d2⟩
def wTup (wr : WA) : WE := fun Ex δ P => wr Ex δ fun rs δ1 => ob (frzs δ1 rs) fun p => p.1.length ≤ sizeLine ∧ P (.d (.tuple p.1)) p.2
def wLst (wr : WA) : WE := fun Ex δ P => wr Ex δ fun rs δ1 => ob (frzs δ1 rs) fun p => p.1.length ≤ sizeLine ∧ P (.n (.l p.1)) p.2
theorem de_tup {es : List Expr} {wr : WA} {x1 : Nat} {pos : Pos} (h : DA S es wr) : DE S (.Tuple es x1 pos) (wTup wr) := by
  obtain ⟨t, p, s⟩ := h
  refine ⟨_, fun c hc => pe_tup (p c hc), ⟨fun Ex Ex' δ P P' hx h w => s.mono _ _ _ _ _ hx (fun r δ1 w => w.imp fun z w => ⟨w.1, h _ _ w.2⟩) w, fun Ex F B H vs σ δ P Q hx h w k => ?_⟩⟩
  refine s.run _ _ _ _ _ _ _ _ _ hx h w fun B1 H1 ws rs δ1 s1 h1 q1 w1 => ?_
  obtain ⟨⟨ds, δ2⟩, e, hl, w1⟩ := w1
  obtain ⟨B2, s2, h2, d2⟩ := frzs_ok h1 q1 e
  refine ⟨by rw [d2.length]; exact hl, fun p hp => ?_⟩
  exact k _ _ (.ref p) (.d (.tuple ds)) δ2 ((s1.trans s2).trans (same_new (nof h2.sb hp) _)) (h2.new hp _) (DD.tup upd_same (d2.mono (same_new (nof h2.sb hp) _))) w1
theorem de_lst {es : List Expr} {wr : WA} {pos : Pos} (h : DA S es wr) : DE S (.List es pos) (wLst wr) := by
  obtain ⟨t, p, s⟩ := h
  refine ⟨_, fun c hc => pe_lst (p c hc), ⟨fun Ex Ex' δ P P' hx h w => s.mono _ _ _ _ _ hx (fun r δ1 w => w.imp fun z w => ⟨w.1, h _ _ w.2⟩) w, fun Ex F B H vs σ δ P Q hx h w k => ?_⟩⟩
  refine s.run _ _ _ _ _ _ _ _ _ hx h w fun B1 H1 ws rs δ1 s1 h1 q1 w1 => ?_
  obtain ⟨⟨ds, δ2⟩, e, hl, w1⟩ := w1
  obtain ⟨B2, s2, h2, d2⟩ := frzs_ok h1 q1 e
  refine ⟨by rw [d2.length]; exact hl, fun p hp => ?_⟩
  exact k _ _ (.ref p) (.n (.l ds)) δ2 (s1.trans s2) (h2.newO hp _) ⟨p, rfl, nof h2.sb hp, nof h2.sf hp, ⟨ws, upd_same, d2⟩, h2.fresh hp⟩ w1

/-! ### a call of what is built in -/
def OVs (K : PySem.W.Frag) (B H : Hp) : List V → List Vw → Prop := Paired fun v w => OV K B H v w
def rC (K : PySem.W.Frag) (f : List Vw → Option Rv) : List V → Hp → VK → Prop := fun xs H Q => ∃ B as rv, Same B H ∧ OVs K B H xs as ∧ f as = some rv ∧ RvK B H Q rv
def CallS (S : Sg) (fv : Value) (f : List Vw → Option Rv) : Prop := ∀ c, S.ok c → CallR (S.g.cx c) fv (rC S.g.K f)
def views (δ : SEnv) : List R → Option (List Vw)
  | [] => some []
  | r :: rs => (view δ r).bind fun w => (views δ rs).map fun ws => w :: ws
theorem views_ok {K : PySem.W.Frag} {F B H : Hp} {vs : List V} {σ : L2.St} {δ : SEnv} (h : Rep K F B H vs σ δ) : ∀ {rs : List R} {ws : List V} {as : List Vw}, RepRs K F B H σ δ ws rs → views δ rs = some as → OVs K B H ws as
  | [], _, _, q, e => by cases q; cases e; exact .nil
  | r :: rs, _, _, q, e => by
    cases q with
    | cons q1 q2 =>
      simp only [views] at e
      obtain ⟨w, e1, e⟩ := Option.bind_eq_some_iff.mp e
      obtain ⟨ws, e2, e⟩ := Option.map_eq_some_iff.mp e
      cases e
      exact .cons (view_ok h q1.1 e1) (views_ok h q2 e2)
def wCB (f : List Vw → Option Rv) (wr : WA) : WE := fun Ex δ P => wr Ex δ fun rs δ1 => ob (views δ1 rs) fun as => ob (f as) fun rv => P rv.r δ1
theorem sim_cb {K : PySem.W.Frag} {E : XK} {t : TA} {wr : WA} {f : List Vw → Option Rv} (s : ASim K E t wr) : ESim K E (tCB (rC K f) t) (wCB f wr) := by
  refine ⟨fun Ex Ex' δ P P' hx h w => s.mono _ _ _ _ _ hx (fun r δ1 w => w.imp fun as w => w.imp fun rv w => h _ _ w) w, fun Ex F B H vs σ δ P Q hx h w k => ?_⟩
  refine s.run _ _ _ _ _ _ _ _ _ hx h w fun B1 H1 ws rs δ1 s1 h1 q1 w1 => ?_
  obtain ⟨as, e1, rv, e2, w1⟩ := w1
  exact ⟨B1, as, rv, h1.sb, views_ok h1 q1 e1, e2, rvk_ok s1 h1 w1 k⟩
def GlS (sc : Scope) (x : Str) : Prop := sc.names.lookup x = some .globalImplicit
theorem gl_of {c : Cl} (hc : S.ok c) {x : Str} (h : GlS S.sc x) : Gl (S.g.cx c) x := by
  show c.env.scope.names.lookup x = some .globalImplicit
  rw [hc.hs]; exact h
theorem de_callB {e : Expr} {es : List Expr} {wr : WA} {x : Str} {id : String} {p pos : Pos} {f : List Vw → Option Rv} (hf : CallS S (.builtin id) f) (hg : GlS S.sc x) (hm : S.g.mg x = none) (hv : bootBuiltins x = some (.builtin id)) (ha : DA S (e :: es) wr)
    (hs : ∀ env, starEach (e :: es) env = (false, eval e env) :: starEach es env := by intro _; rfl) (hpl : ∀ env, (backTo pos (starEach es env)).any (·.1) = false := by intro _; rfl)
    (hn : x ≠ "__name__" := by decide) (hdb : (x == ("__debug__" : Str)) = false := by decide) : DE S (.Call (.Name x p) (e :: es) [] pos) (wCB f wr) := by
  obtain ⟨t, pa, s⟩ := ha
  exact ⟨_, fun c hc => pe_callB (hf c hc) (gl_of hc hg) hm hv (pa c hc) hn hdb (hs _) (hpl _), sim_cb s⟩
theorem de_callT {e : Expr} {es : List Expr} {wr : WA} {x : Str} {T : String} {p pos : Pos} {f : List Vw → Option Rv} (hf : CallS S (.type T) f) (hg : GlS S.sc x) (hm : S.g.mg x = none) (hv : bootBuiltins x = some (.type T)) (ha : DA S (e :: es) wr)
    (hs : ∀ env, starEach (e :: es) env = (false, eval e env) :: starEach es env := by intro _; rfl) (hpl : ∀ env, (backTo pos (starEach es env)).any (·.1) = false := by intro _; rfl)
    (hn : x ≠ "__name__" := by decide) (hdb : (x == ("__debug__" : Str)) = false := by decide) : DE S (.Call (.Name x p) (e :: es) [] pos) (wCB f wr) := by
  obtain ⟨t, pa, s⟩ := ha
  exact ⟨_, fun c hc => pe_callTy (hf c hc) (gl_of hc hg) hm hv (pa c hc) hn hdb (hs _) (hpl _), sim_cb s⟩
end
end DL
set_option Elab.async false
set_option linter.all false
set_option maxRecDepth 100000
set_option maxHeartbeats 4000000
set_option autoImplicit false
namespace DL
open PySem PySem.Spec PyProof.Rows L2

/-! ### a def's promise, over data -/
abbrev FSpec := List Sl → XP → (R → List Sl → Prop) → Prop
def spOf (K : PySem.W.Frag) (np : Nat) (W : FSpec) : Sp := fun vs H Q E => vs.length = np ∧ ∃ (F B : Hp) (ss : List Sl) (Ex : XP) (P : R → List Sl → Prop), Rep K F B H vs (vs.map some) (ss.map some) ∧ XOk F B E Ex ∧ W ss Ex P ∧
  ∀ B' H' v r ss', Same B B' → Rep K F B' H' vs (vs.map some) (ss'.map some) → RepR K F B' H' (vs.map some) (ss'.map some) v r → (∀ i, r ≠ .o i) → P r ss' → Q v H'

inductive CA where
  | d (d : PyData)
  | w (d : PyData)
  | o (i : Nat)
def CA.ix : CA → Option Nat
  | .o i => some i
  | _ => none
/-- the arguments, frozen or lent -/
def lend : SEnv → List Bool → List R → Option (List CA × SEnv)
  | δ, _, [] => some ([], δ)
  | δ, true :: ms, .o i :: rs => (lend δ ms rs).map fun q => (.o i :: q.1, q.2)
  | δ, false :: ms, .w d :: rs => if scalar d then (lend δ ms rs).map fun q => (.d d :: q.1, q.2) else (lend δ ms rs).map fun q => (.w d :: q.1, q.2)
  | δ, false :: ms, r :: rs => (frz δ r).bind fun p => (lend p.2 ms rs).map fun q => (.d p.1 :: q.1, q.2)
  | _, _, _ => none
def slOf (δ : SEnv) : CA → Option Sl
  | .d d => some (.d d)
  | .w d => some (.w d)
  | .o i => match δ[i]? with
    | some (some (.o _ c)) => some (.o true c)
    | _ => none
def slsOf (δ : SEnv) : List CA → Option (List Sl)
  | [] => some []
  | a :: as => (slOf δ a).bind fun s => (slsOf δ as).map fun ss => s :: ss
def clear : SEnv → List CA → SEnv
  | δ, [] => δ
  | δ, .o i :: as => clear (δ.set i none) as
  | δ, _ :: as => clear δ as
/-- δ: as it was ahead (whose each lent slot is) -/
def back (δ : SEnv) : SEnv → List CA → List Sl → Option SEnv
  | δ', [], [] => some δ'
  | δ', .o i :: as, .o _ c :: ss => match δ[i]? with
    | some (some (.o b _)) => back δ (δ'.set i (some (.o b c))) as ss
    | _ => none
  | δ', .d _ :: as, _ :: ss => back δ δ' as ss
  | δ', .w _ :: as, _ :: ss => back δ δ' as ss
  | _, _, _ => none
def noO : R → Bool
  | .o _ => false
  | _ => true
@[irreducible] def wCall (np : Nat) (W : FSpec) (ms : List Bool) (wr : WA) : WE := fun Ex δ P => wr Ex δ fun rs δ1 => ob (lend δ1 ms rs) fun p => p.1.length = np ∧ (p.1.filterMap CA.ix).Nodup ∧ ob (slsOf p.2 p.1) fun ss =>
  W ss Ex fun r ss' => noO r = true → ob (back p.2 (clear p.2 p.1) p.1 ss') fun δ2 => P r δ2
def FMono (W : FSpec) : Prop := ∀ (ss : List Sl) (Ex Ex' : XP) (P P' : R → List Sl → Prop), (∀ e, Ex e → Ex' e) → (∀ r ss', P r ss' → P' r ss') → W ss Ex P → W ss Ex' P'

section
variable {K : PySem.W.Frag} {F H : Hp} {vs : List V} {σ : L2.St}
def CaOk (K : PySem.W.Frag) (B : Hp) (σ : L2.St) (v : V) : CA → Prop
  | .d d => DD B v d
  | .w d => DW K v d
  | .o i => σ[i]? = some (some v)
theorem CaOk.up {B B' : Hp} (s : Same B B') {v : V} {a : CA} (h : CaOk K B σ v a) : CaOk K B' σ v a := by
  cases a with
  | d d => exact DD.mono s h
  | w d => exact h
  | o i => exact h
theorem lend_ok : ∀ {rs : List R} {ms : List Bool} {ws : List V} {B : Hp} {δ δ' : SEnv} {as : List CA}, Rep K F B H vs σ δ → RepRs K F B H σ δ ws rs → lend δ ms rs = some (as, δ') →
    ∃ B', Same B B' ∧ Rep K F B' H vs σ δ' ∧ Paired (CaOk K B' σ) ws as
  | [], _, _, B, δ, _, _, h, q, e => by
    cases q
    simp only [lend] at e
    cases e
    exact ⟨B, Same.refl _, h, .nil⟩
  | r :: rs, ms, _, B, δ, δ', as, h, q, e => by
    cases q with
    | cons q1 q2 =>
      have fz : ∀ {m : List Bool} {v : V}, RepR K F B H σ δ v r → (∃ p, frz δ r = some p ∧ ∃ q, lend p.2 m rs = some q ∧ as = .d p.1 :: q.1 ∧ δ' = q.2) →
          ∀ {ws : List V}, RepRs K F B H σ δ ws rs → ∃ B', Same B B' ∧ Rep K F B' H vs σ δ' ∧ Paired (CaOk K B' σ) (v :: ws) as := by
        intro m v q1 ⟨⟨d, δ1⟩, e1, ⟨as1, δ2⟩, e2, e3, e4⟩ ws q2
        subst e3 e4
        obtain ⟨B1, s1, h1, d1⟩ := frz_ok h q1 e1
        have q2' := Paired.mapP q2 (G := fun v r => RepR K F B1 H σ δ1 v r ∧ ∀ c, r ≠ .n c) fun v r z => ⟨RepR.up s1 z.1 z.2, z.2⟩
        obtain ⟨B2, s2, h2, d2⟩ := lend_ok h1 q2' e2
        exact ⟨B2, s1.trans s2, h2, .cons (show CaOk K B2 σ v (.d d) from d1.mono s2) d2⟩
      cases ms with
      | nil => cases r <;> exact nomatch e
      | cons m ms =>
        cases m with
        | true =>
          cases r with
          | o i =>
            simp only [lend] at e
            obtain ⟨⟨as1, δ2⟩, e2, e⟩ := Option.map_eq_some_iff.mp e
            cases e
            obtain ⟨B2, s2, h2, d2⟩ := lend_ok h q2 e2
            exact ⟨B2, s2, h2, .cons (show CaOk K B2 σ _ (.o i) from q1.1) d2⟩
          | d d => exact nomatch e
          | w d => exact nomatch e
          | n c => exact nomatch e
        | false =>
          cases r with
          | w d =>
            simp only [lend] at e
            split at e
            · rename_i hs
              obtain ⟨⟨as1, δ2⟩, e2, e⟩ := Option.map_eq_some_iff.mp e
              cases e
              obtain ⟨B2, s2, h2, d2⟩ := lend_ok h q2 e2
              exact ⟨B2, s2, h2, .cons (show CaOk K B2 σ _ (.d d) from (DW.scal q1.1 hs : DD B2 _ d)) d2⟩
            · obtain ⟨⟨as1, δ2⟩, e2, e⟩ := Option.map_eq_some_iff.mp e
              cases e
              obtain ⟨B2, s2, h2, d2⟩ := lend_ok h q2 e2
              exact ⟨B2, s2, h2, .cons (show CaOk K B2 σ _ (.w d) from q1.1) d2⟩
          | d d =>
            simp only [lend] at e
            obtain ⟨p, e1, e⟩ := Option.bind_eq_some_iff.mp e
            obtain ⟨q, e2, e⟩ := Option.map_eq_some_iff.mp e
            cases e
            exact fz q1.1 ⟨p, e1, q, e2, rfl, rfl⟩ q2
          | o i =>
            simp only [lend] at e
            obtain ⟨p, e1, e⟩ := Option.bind_eq_some_iff.mp e
            obtain ⟨q, e2, e⟩ := Option.map_eq_some_iff.mp e
            cases e
            exact fz q1.1 ⟨p, e1, q, e2, rfl, rfl⟩ q2
          | n c => exact absurd rfl (q1.2 c)

/-- a slot takes an object of its own (its value as it is) -/
theorem Rep.own {B : Hp} {δ : SEnv} (h : Rep K F B H vs σ δ) {i : Nat} {a : Addr} {b : Bool} {c : Cont} (e : σ[i]? = some (some (.ref a))) (hB : B a = none) (hF : F a = none) (q : ContOk B H a c)
    (hn : ∀ (j : Nat) (b' : Bool) (c' : Cont), j ≠ i → δ[j]? = some (some (.o b' c')) → σ[j]? ≠ some (some (.ref a))) (hb : b = true → vs[i]? = some (.ref a)) : Rep K F B H vs σ (δ.set i (some (.o b c))) := by
  refine ⟨h.sb, h.sf, h.dj, by rw [List.length_set]; exact h.len, fun j s e1 => ?_, fun j k a' b1 c1 b2 c2 e1 e2 e3 e4 => ?_, fun j c' e1 => ?_⟩
  · rcases set_get e1 with ⟨rfl, z⟩ | ⟨_, z⟩
    · cases z; exact ⟨_, e, a, rfl, hB, hF, q⟩
    · exact h.ok j s z
  · rcases set_get e1 with ⟨ej, z⟩ | ⟨nj, z⟩
    · rcases set_get e2 with ⟨ek, z2⟩ | ⟨nk, z2⟩
      · rw [ej, ek]
      · subst ej
        rw [e] at e3; cases e3
        exact absurd e4 (hn k b2 c2 nk z2)
    · rcases set_get e2 with ⟨ek, z2⟩ | ⟨nk, z2⟩
      · subst ek
        rw [e] at e4; cases e4
        exact absurd e3 (hn j b1 c1 nj z)
      · exact h.apart j k a' b1 c1 b2 c2 z z2 e3 e4
  · rcases set_get e1 with ⟨rfl, z⟩ | ⟨_, z⟩
    · cases z; exact ⟨_, e, hb rfl⟩
    · exact h.bor j c' z
theorem Rep.clear {B : Hp} : ∀ {as : List CA} {δ : SEnv}, Rep K F B H vs σ δ → Rep K F B H vs σ (clear δ as)
  | [], _, h => h
  | .o i :: as, _, h => Rep.clear (as := as) (h.forget i)
  | .d _ :: as, _, h => Rep.clear (as := as) h
  | .w _ :: as, _, h => Rep.clear (as := as) h
theorem clear_get : ∀ {as : List CA} {δ : SEnv} {j : Nat} {s : Sl}, (DL.clear δ as)[j]? = some (some s) → δ[j]? = some (some s) ∧ j ∉ as.filterMap CA.ix
  | [], _, _, _, e => ⟨e, by simp⟩
  | .o i :: as, δ, j, s, e => by
    obtain ⟨e1, e2⟩ := clear_get (as := as) (δ := δ.set i none) e
    rcases set_get e1 with ⟨_, z⟩ | ⟨n, z⟩
    · cases z
    · refine ⟨z, ?_⟩
      intro hm
      have hm : j ∈ i :: as.filterMap CA.ix := hm
      rcases List.mem_cons.mp hm with hm | hm
      · exact n hm
      · exact e2 hm
  | .d _ :: as, δ, j, s, e => by
    obtain ⟨e1, e2⟩ := clear_get (as := as) (δ := δ) e
    exact ⟨e1, e2⟩
  | .w _ :: as, δ, j, s, e => by
    obtain ⟨e1, e2⟩ := clear_get (as := as) (δ := δ) e
    exact ⟨e1, e2⟩
theorem paired_get {α β : Type} {G : α → β → Prop} : ∀ {xs : List α} {ys : List β} {j : Nat} {y : β}, Paired G xs ys → ys[j]? = some y → ∃ x, xs[j]? = some x ∧ G x y
  | _, _, _, _, .nil, e => by simp at e
  | _, _, 0, _, .cons q _, e => by simp at e; subst e; exact ⟨_, rfl, q⟩
  | _, _, j + 1, _, .cons _ r, e => by
    obtain ⟨x, e1, q⟩ := paired_get (j := j) r (by simpa using e)
    exact ⟨x, by simpa using e1, q⟩
theorem sls_get {δ : SEnv} : ∀ {as : List CA} {ss : List Sl} {j : Nat} {s : Sl}, slsOf δ as = some ss → ss[j]? = some s → ∃ a, as[j]? = some a ∧ slOf δ a = some s
  | [], _, _, _, e, e2 => by cases e; simp at e2
  | a :: as, _, j, s, e, e2 => by
    simp only [slsOf] at e
    obtain ⟨s0, e3, e⟩ := Option.bind_eq_some_iff.mp e
    obtain ⟨ss0, e4, e⟩ := Option.map_eq_some_iff.mp e
    cases e
    cases j with
    | zero => simp at e2; subst e2; exact ⟨a, rfl, e3⟩
    | succ j =>
      obtain ⟨a', e5, e6⟩ := sls_get (j := j) e4 (by simpa using e2)
      exact ⟨a', by simpa using e5, e6⟩
theorem sls_len {δ : SEnv} : ∀ {as : List CA} {ss : List Sl}, slsOf δ as = some ss → ss.length = as.length
  | [], _, e => by cases e; rfl
  | a :: as, _, e => by
    simp only [slsOf] at e
    obtain ⟨s0, e3, e⟩ := Option.bind_eq_some_iff.mp e
    obtain ⟨ss0, e4, e⟩ := Option.map_eq_some_iff.mp e
    cases e
    rw [List.length_cons, List.length_cons, sls_len e4]
theorem sls_own {δ : SEnv} {i : Nat} : ∀ {as : List CA} {ss : List Sl}, slsOf δ as = some ss → i ∈ as.filterMap CA.ix → ∃ b c, δ[i]? = some (some (.o b c))
  | [], _, _, h => by simp at h
  | a :: as, _, e, h => by
    simp only [slsOf] at e
    obtain ⟨s0, e3, e⟩ := Option.bind_eq_some_iff.mp e
    obtain ⟨ss0, e4, e⟩ := Option.map_eq_some_iff.mp e
    cases a with
    | o k =>
      have h : i ∈ k :: as.filterMap CA.ix := h
      rcases List.mem_cons.mp h with rfl | h
      · simp only [slOf] at e3
        split at e3
        · exact ⟨_, _, by assumption⟩
        · cases e3
      · exact sls_own e4 h
    | d d => exact sls_own e4 h
    | w d => exact sls_own e4 h
theorem ix_mem : ∀ {as : List CA} {j i : Nat}, as[j]? = some (.o i) → i ∈ as.filterMap CA.ix := fun {as j i} h =>
  List.mem_filterMap.mpr ⟨.o i, List.mem_of_getElem? h, rfl⟩
theorem ix_inj : ∀ {as : List CA} {j k i : Nat}, (as.filterMap CA.ix).Nodup → as[j]? = some (.o i) → as[k]? = some (.o i) → j = k
  | [], j, k, i, _, e, _ => by simp at e
  | a :: as, j, k, i, h, e1, e2 => by
    have hr : (as.filterMap CA.ix).Nodup := by
      cases a with
      | o m => exact (List.nodup_cons.mp (show (m :: as.filterMap CA.ix).Nodup from h)).2
      | d d => exact h
      | w d => exact h
    cases j with
    | zero =>
      cases k with
      | zero => rfl
      | succ k =>
        simp at e1; subst e1
        have e2 : as[k]? = some (.o i) := by simpa using e2
        exact absurd (ix_mem e2) (List.nodup_cons.mp (show (i :: as.filterMap CA.ix).Nodup from h)).1
    | succ j =>
      cases k with
      | zero =>
        simp at e2; subst e2
        have e1 : as[j]? = some (.o i) := by simpa using e1
        exact absurd (ix_mem e1) (List.nodup_cons.mp (show (i :: as.filterMap CA.ix).Nodup from h)).1
      | succ k => rw [ix_inj (j := j) (k := k) hr (by simpa using e1) (by simpa using e2)]
theorem back_ok {Fc B H H1 B1 : Hp} {δ : SEnv} (h0 : Rep K F B1 H1 vs σ δ) : ∀ {as : List CA} {ws : List V} {ss : List Sl} {δ1 δ2 : SEnv}, Rep K F B H vs σ δ1 → (∀ (j : Nat) (b : Bool) (c : Cont), δ1[j]? = some (some (.o b c)) → ∃ b' c', δ[j]? = some (some (.o b' c'))) →
    Paired (CaOk K B σ) ws as → (∀ (j : Nat) (v : V) (s : Sl), ws[j]? = some v → ss[j]? = some s → SlOk K Fc B H v s) → back δ δ1 as ss = some δ2 →
    Rep K F B H vs σ δ2 ∧ (∀ (j : Nat) (b : Bool) (c : Cont), δ2[j]? = some (some (.o b c)) → ∃ b' c', δ[j]? = some (some (.o b' c'))) ∧ (∀ (j i : Nat), as[j]? = some (.o i) → ∃ b c, ss[j]? = some (.o b c)) ∧
      ∀ (j : Nat) (b : Bool) (c : Cont), δ2[j]? = some (some (.o b c)) → (∃ c', δ1[j]? = some (some (.o b c'))) ∨ j ∈ as.filterMap CA.ix := by
  intro as
  induction as with
  | nil =>
    intro ws ss δ1 δ2 h hi _ _ e
    cases ss with
    | nil => cases e; exact ⟨h, hi, fun j i e => by simp at e, fun j b c e => .inl ⟨c, e⟩⟩
    | cons _ _ => exact nomatch e
  | cons a as ih =>
    intro ws ss δ1 δ2 h hi hp hs e
    cases hp with
    | cons q1 q2 =>
      cases ss with
      | nil => cases a <;> exact nomatch e
      | cons s ss =>
        have hs' : ∀ (j : Nat) (v : V) (s : Sl), _ → _ → SlOk K Fc B H v s := fun j v s e1 e2 => hs (j + 1) v s (by simpa using e1) (by simpa using e2)
        have dat : back δ δ1 as ss = some δ2 → (∀ i, a ≠ .o i) → _ := fun e na => by
          obtain ⟨r1, r2, r3, r4⟩ := ih h hi q2 hs' e
          refine (⟨r1, r2, fun j i e => ?_, fun j b c e => ?_⟩ : Rep K F B H vs σ δ2 ∧ (∀ (j : Nat) (b : Bool) (c : Cont), δ2[j]? = some (some (.o b c)) → ∃ b' c', δ[j]? = some (some (.o b' c'))) ∧ (∀ (j i : Nat), (a :: as)[j]? = some (.o i) → ∃ b c, (s :: ss)[j]? = some (.o b c)) ∧
            ∀ (j : Nat) (b : Bool) (c : Cont), δ2[j]? = some (some (.o b c)) → (∃ c', δ1[j]? = some (some (.o b c'))) ∨ j ∈ (a :: as).filterMap CA.ix)
          · cases j with
            | zero => simp at e; exact absurd e (na i)
            | succ j => simpa using r3 j i (by simpa using e)
          · rcases r4 j b c e with z | z
            · exact .inl z
            · refine .inr ?_
              cases a with
              | o i => exact absurd rfl (na i)
              | d d => exact z
              | w d => exact z
        cases a with
        | d d => exact dat (by cases s <;> exact e) (fun _ z => nomatch z)
        | w d => exact dat (by cases s <;> exact e) (fun _ z => nomatch z)
        | o i =>
          cases s with
          | d d => exact nomatch e
          | w d => exact nomatch e
          | o b0 c0 =>
            simp only [back] at e
            split at e
            · rename_i bb cc hδ
              obtain ⟨a, ea, hB, hFc, qc⟩ := hs 0 _ (.o b0 c0) rfl rfl
              have es : σ[i]? = some (some (.ref a)) := by rw [← ea]; exact q1
              obtain ⟨v', e3, q0⟩ := h0.ok i _ hδ
              obtain ⟨a', ea', _, hF, _⟩ := q0
              have eaa : a' = a := by
                rw [es] at e3; cases e3
                cases ea'; rfl
              subst eaa
              have h2 := h.own (b := bb) es hB hF qc (fun j b' c' nj e4 e5 => by
                obtain ⟨b2, c2, e6⟩ := hi j b' c' e4
                exact nj (h0.apart j i _ b2 c2 bb cc e6 hδ e5 es)) (fun eb => by
                subst eb
                obtain ⟨v2, e7, e8⟩ := h0.bor i cc hδ
                rw [es] at e7; cases e7
                exact e8)
              obtain ⟨r1, r2, r3, r4⟩ := ih h2 (fun j b c e4 => by
                rcases set_get e4 with ⟨rfl, z⟩ | ⟨_, z⟩
                · exact ⟨_, _, hδ⟩
                · exact hi j b c z) q2 hs' e
              refine ⟨r1, r2, fun j k e4 => ?_, fun j b c e4 => ?_⟩
              · cases j with
                | zero => exact ⟨b0, c0, rfl⟩
                | succ j => simpa using r3 j k (by simpa using e4)
              · have hm : ∀ {z : Nat}, z ∈ as.filterMap CA.ix → z ∈ (CA.o i :: as).filterMap CA.ix := fun hz => List.mem_cons_of_mem i hz
                rcases r4 j b c e4 with ⟨c', z⟩ | z
                · rcases set_get z with ⟨rfl, _⟩ | ⟨_, z⟩
                  · exact .inr (List.mem_cons_self (a := j) (l := as.filterMap CA.ix))
                  · exact .inl ⟨c', z⟩
                · exact .inr (hm z)
            · cases e
end
end DL
set_option Elab.async false
set_option linter.all false
set_option maxRecDepth 100000
set_option maxHeartbeats 4000000
set_option autoImplicit false
namespace DL
open PySem PySem.Spec PyProof.Rows L2
open Classical in
/-- what a callee may not touch: all that is not data and not lent to it -/
noncomputable def frame (B H : Hp) (σ : L2.St) (ix : List Nat) : Hp := fun a => if (∃ o, B a = some o) ∨ ∃ i, i ∈ ix ∧ σ[i]? = some (some (.ref a)) then none else H a
theorem frame_some {B H : Hp} {σ : L2.St} {ix : List Nat} {a : Addr} {o : HO} (e : frame B H σ ix a = some o) : B a = none ∧ (∀ i, i ∈ ix → σ[i]? ≠ some (some (.ref a))) ∧ H a = some o := by
  unfold frame at e
  split at e
  · cases e
  · rename_i h
    refine ⟨?_, fun i hi z => h (.inr ⟨i, hi, z⟩), e⟩
    cases q : B a with
    | none => rfl
    | some u => exact absurd (.inl ⟨u, q⟩) h
theorem frame_eq {B H : Hp} {σ : L2.St} {ix : List Nat} {a : Addr} (h1 : B a = none) (h2 : ∀ i, i ∈ ix → σ[i]? ≠ some (some (.ref a))) : frame B H σ ix a = H a := by
  unfold frame
  rw [if_neg]
  rintro (⟨o, z⟩ | ⟨i, hi, z⟩)
  · rw [h1] at z; cases z
  · exact h2 i hi z
theorem frame_none {B H : Hp} {σ : L2.St} {ix : List Nat} {a : Addr} {i : Nat} (hi : i ∈ ix) (e : σ[i]? = some (some (.ref a))) : frame B H σ ix a = none := by
  unfold frame
  rw [if_pos (.inr ⟨i, hi, e⟩)]
section
variable {S : Sg} {CX : CXT}
theorem call_run {K : PySem.W.Frag} {E : XK} {np : Nat} {W : FSpec} {Ex : XP} {F B0 B1 H1 : Hp} {vs : List V} {σ : L2.St} {δ1 δ2 : SEnv} {ws : List V} {rs : List R} {ms : List Bool} {as : List CA} {ss : List Sl} {P : R → SEnv → Prop} {Q : VK}
    (hx : XOk F B1 E Ex) (s0 : Same B0 B1) (h1 : Rep K F B1 H1 vs σ δ1) (q1 : RepRs K F B1 H1 σ δ1 ws rs) (e1 : lend δ1 ms rs = some (as, δ2)) (hl : as.length = np) (nd : (as.filterMap CA.ix).Nodup) (e2 : slsOf δ2 as = some ss)
    (w1 : W ss Ex fun r ss' => noO r = true → ob (back δ2 (clear δ2 as) as ss') fun δ3 => P r δ3)
    (k : ∀ B' H' v r δ', Same B0 B' → Rep K F B' H' vs σ δ' → RepR K F B' H' σ δ' v r → P r δ' → Q v H') : spOf K np W ws H1 Q E := by
  obtain ⟨B2, s2, h2, d2⟩ := lend_ok h1 q1 e1
  have hwl : ws.length = as.length := Paired.length d2
  -- the lent slots
  have lent : ∀ {j i : Nat}, as[j]? = some (.o i) → ∃ a b c, ws[j]? = some (.ref a) ∧ σ[i]? = some (some (.ref a)) ∧ δ2[i]? = some (some (.o b c)) ∧ B2 a = none ∧ F a = none ∧ ContOk B2 H1 a c := by
    intro j i e
    obtain ⟨v, e3, q3⟩ := paired_get d2 e
    obtain ⟨b, c, e4⟩ := sls_own e2 (ix_mem e)
    obtain ⟨v', e5, a, ea, hB, hF, qc⟩ := h2.ok i _ e4
    have q3 : σ[i]? = some (some v) := q3
    rw [q3] at e5; cases e5
    subst ea
    exact ⟨a, b, c, e3, q3, e4, hB, hF, qc⟩
  have hFF : ∀ a o, F a = some o → frame B2 H1 σ (as.filterMap CA.ix) a = some o := fun a o e => by
    rw [frame_eq (h2.dj a o e) (fun i hi z => ?_)]
    · exact h2.sf a o e
    · obtain ⟨b, c, e4⟩ := sls_own e2 hi
      obtain ⟨v', e5, a', ea, _, hF, _⟩ := h2.ok i _ e4
      rw [z] at e5; cases e5; cases ea
      rw [e] at hF; cases hF
  refine ⟨by rw [hwl, hl], frame B2 H1 σ (as.filterMap CA.ix), B2, ss, Ex, _, ⟨h2.sb, fun a o e => (frame_some e).2.2, fun a o e => (frame_some e).1, ?_, ?_, ?_, ?_⟩, ?_, w1, ?_⟩
  · rw [List.length_map, List.length_map, hwl, sls_len e2]
  · intro j s e
    rw [List.getElem?_map] at e
    obtain ⟨s0, e3, e4⟩ := Option.map_eq_some_iff.mp e
    cases e4
    obtain ⟨a, e5, e6⟩ := sls_get e2 e3
    obtain ⟨v, e7, q7⟩ := paired_get d2 e5
    refine ⟨v, by rw [List.getElem?_map, e7]; rfl, ?_⟩
    cases a with
    | d d => cases e6; exact q7
    | w d => cases e6; exact q7
    | o i =>
      obtain ⟨p, b, c, e8, e9, e10, hB, hF, qc⟩ := lent e5
      rw [e7] at e8; cases e8
      simp only [slOf, e10] at e6
      cases e6
      exact ⟨p, rfl, hB, frame_none (ix_mem e5) e9, qc⟩
  · intro j m a b c b' c' e3 e4 e5 e6
    rw [List.getElem?_map] at e3 e4 e5 e6
    obtain ⟨s1, e3, z⟩ := Option.map_eq_some_iff.mp e3; cases z
    obtain ⟨s2', e4, z⟩ := Option.map_eq_some_iff.mp e4; cases z
    obtain ⟨v1, e5, z⟩ := Option.map_eq_some_iff.mp e5; cases z
    obtain ⟨v2, e6, z⟩ := Option.map_eq_some_iff.mp e6; cases z
    obtain ⟨a1, e7, e8⟩ := sls_get e2 e3
    obtain ⟨a2, e9, e10⟩ := sls_get e2 e4
    cases a1 with
    | d d => cases e8
    | w d => cases e8
    | o i1 =>
      cases a2 with
      | d d => cases e10
      | w d => cases e10
      | o i2 =>
        obtain ⟨p1, b1, c1, f1, f2, f3, _⟩ := lent e7
        obtain ⟨p2, b2, c2, g1, g2, g3, _⟩ := lent e9
        rw [e5] at f1; cases f1
        rw [e6] at g1; cases g1
        have ei := h2.apart i1 i2 a b1 c1 b2 c2 f3 g3 f2 g2
        subst ei
        exact ix_inj nd e7 e9
  · intro j c e
    rw [List.getElem?_map] at e
    obtain ⟨s0, e3, e4⟩ := Option.map_eq_some_iff.mp e
    cases e4
    obtain ⟨a, e5, e6⟩ := sls_get e2 e3
    obtain ⟨v, e7, q7⟩ := paired_get d2 e5
    exact ⟨v, by rw [List.getElem?_map, e7]; rfl, e7⟩
  · intro cls da B' H' fs fds t1 t2 t3 t4 t5 t6 t7
    refine hx cls da B' H' fs fds (s2.trans t1) t2 (fun a o e => t3 a o (hFF a o e)) (fun a o e => t4 a o (hFF a o e)) t5 t6 t7
  · intro B' H' v r ss' s3 h3 q3 nO w3
    have nO' : noO r = true := by
      cases r with
      | o i => exact absurd rfl (nO i)
      | d d => rfl
      | w d => rfl
      | n c => rfl
    obtain ⟨δ3, e3, w3⟩ := w3 nO'
    -- the caller's slots behind the call, but for the lent ones
    have hc : Rep K F B' H' vs σ (clear δ2 as) := by
      refine ⟨h3.sb, fun a o e => h3.sf a o (hFF a o e), fun a o e => h3.dj a o (hFF a o e), (h2.clear (as := as)).len, fun i s e => ?_, (h2.clear (as := as)).apart, (h2.clear (as := as)).bor⟩
      obtain ⟨e4, ni⟩ := clear_get e
      obtain ⟨v', e5, q5⟩ := h2.ok i s e4
      refine ⟨v', e5, ?_⟩
      cases s with
      | d d => exact DD.mono s3 q5
      | w d => exact q5
      | o b c =>
        obtain ⟨a, ea, hB, hF, qc⟩ := q5
        subst ea
        obtain ⟨u, hu⟩ := qc.there
        have hfr : frame B2 H1 σ (as.filterMap CA.ix) a = some u := by
          rw [frame_eq hB (fun i' hi' z => ?_)]
          · exact hu
          · obtain ⟨b', c', e6⟩ := sls_own e2 hi'
            have := h2.apart i i' a b c b' c' e4 e6 e5 z
            subst this
            exact ni hi'
        exact ⟨a, rfl, h3.dj a u hfr, hF, qc.mono s3 (by rw [hu]; exact h3.sf a u hfr)⟩
    obtain ⟨r1, r2, r3, r4⟩ := back_ok (Fc := frame B2 H1 σ (as.filterMap CA.ix)) h2 (as := as) (ws := ws) (ss := ss') hc (fun j b c e => ⟨b, c, (clear_get e).1⟩) (Paired.mapP d2 fun v a z => z.up s3) (fun j v s e4 e5 => by
      obtain ⟨v', e6, q6⟩ := h3.ok j s (by rw [List.getElem?_map, e5]; rfl)
      rw [List.getElem?_map, e4] at e6
      cases e6
      exact q6) e3
    refine k B' H' v r δ3 (s0.trans (s2.trans s3)) r1 ?_ w3
    cases r with
    | d d => exact q3
    | w d => exact q3
    | o i => exact absurd rfl (nO i)
    | n c =>
      obtain ⟨a, ea, hB, hF, qc, hn⟩ := q3
      refine ⟨a, ea, hB, ?_, qc, fun i b c' e4 e5 => ?_⟩
      · cases hf : F a with
        | none => rfl
        | some o => rw [hFF a o hf] at hF; cases hF
      · by_cases hi : i ∈ as.filterMap CA.ix
        · obtain ⟨a0, ha0, ha1⟩ := List.mem_filterMap.mp hi
          obtain ⟨j, hj, hj2⟩ := List.getElem_of_mem ha0
          have ej : as[j]? = some a0 := by rw [List.getElem?_eq_getElem hj, hj2]
          cases a0 with
          | d d => cases ha1
          | w d => cases ha1
          | o i0 =>
            cases ha1
            obtain ⟨p, b2, c2, f1, f2, _⟩ := lent ej
            obtain ⟨b3, c3, f3⟩ := r3 j i ej
            rw [e5] at f2; cases f2
            exact hn j b3 c3 (by rw [List.getElem?_map, f3]; rfl) (by rw [List.getElem?_map, f1]; rfl)
        · rcases r4 i b c' e4 with ⟨c2, z⟩ | z
          · obtain ⟨z1, _⟩ := clear_get z
            obtain ⟨v', e6, a', ea', hB', _, qc'⟩ := h2.ok i _ z1
            rw [e5] at e6; cases e6; cases ea'
            obtain ⟨u, hu⟩ := qc'.there
            rw [frame_eq hB' (fun i' hi' z' => ?_), hu] at hF
            · cases hF
            · obtain ⟨b', c'', e7⟩ := sls_own e2 hi'
              have := h2.apart i i' a b c2 b' c'' z1 e7 e5 z'
              subst this
              exact hi hi'
          · exact hi z
theorem sim_call {K : PySem.W.Frag} {E : XK} {np : Nat} {W : FSpec} {ms : List Bool} {t : TA} {wr : WA} (hW : FMono W) (s : ASim K E t wr) : ESim K E (tCall (spOf K np W) [] E t) (wCall np W ms wr) := by
  refine ⟨fun Ex Ex' δ P P' hx h w => ?_, fun Ex F B H vs σ δ P Q hx h w k => ?_⟩
  · unfold wCall at w ⊢
    refine s.mono _ _ _ _ _ hx (fun rs δ1 w => w.imp fun p w => ⟨w.1, w.2.1, w.2.2.imp fun ss w => ?_⟩) w
    exact hW _ _ _ _ _ hx (fun r ss' w n => (w n).imp fun δ2 w => h _ _ w) w
  · unfold wCall at w
    refine s.run _ _ _ _ _ _ _ _ _ hx h w fun B1 H1 ws rs δ1 s1 h1 q1 w1 => ?_
    obtain ⟨⟨as, δ2⟩, e1, hl, nd, ss, e2, w1⟩ := w1
    show spOf K np W (ws ++ []) H1 Q E
    rw [List.append_nil]
    exact call_run (hx.up s1) s1 h1 q1 e1 hl nd e2 w1 k
/-! ### a def's word where nothing is being shown (repr) around it -/
structure FnG (g : Gx) (CX : CXT) (k : Nat) (f : Addr) (fd : FuncData) (ps : List Str) (sp : Sp) : Prop where
  len : ∀ vs H Q E, sp vs H Q E → vs.length = ps.length
  run : ∀ (A : Around) (outer : List Env) (sh : Shared) (H : Hp) (args : Args) (us : List Value) (vs : List V) (Q : VK) (E : XK), A.guards = some [] → Room k A → Env0 g.P g.w g.K g.mg g.base A outer sh H →
    BindsTo sh fd args (ps.zip us) → Vals vs us → sp vs H Q E → codeAny (model g.P g.w) A (.call (.ref f) args) (CR CX outer g.P g.w H sh Q E) sh
theorem FnG.imp {g : Gx} {CX : CXT} {k : Nat} {f : Addr} {fd : FuncData} {ps : List Str} {sp sp' : Sp} (Fk : FnG g CX k f fd ps sp) (h : ∀ vs H Q E, sp' vs H Q E → sp vs H Q E) : FnG g CX k f fd ps sp' :=
  ⟨fun vs H Q E q => Fk.len vs H Q E (h _ _ _ _ q), fun A outer sh H args us vs Q E hg hr he hb hv hs => Fk.run A outer sh H args us vs Q E hg hr he hb hv (h _ _ _ _ hs)⟩
theorem FnG.mono {g : Gx} {CX : CXT} {j k : Nat} {f : Addr} {fd : FuncData} {ps : List Str} {sp : Sp} (Fk : FnG g CX j f fd ps sp) (h : j ≤ k) : FnG g CX k f fd ps sp :=
  ⟨Fk.len, fun A outer sh H args us vs Q E hg hr => Fk.run A outer sh H args us vs Q E hg (hr.mono h)⟩
theorem runG {g : Gx} {c : Cl} {k : Nat} {f : Addr} {fd : FuncData} {ps : List Str} {sp : Sp} {E : XK} {pins : List (Addr × Obj)} {σ : L2.St} {H : Hp} {sh : Shared} {Q : VK} {us : List Value} {vs : List V} (Fk : FnG g CX k f fd ps sp) (hgd : c.A.guards = some [])
    (hr : Room k c.A) (hb : Binds g.K fd ps []) (hx : Passes CX (g.cx c) E) (I : Inv (g.cx c) pins σ H sh) (rv : Vals vs us) (h : sp vs H Q E) : wpAny (model g.P g.w) c.A (call (.ref f) us) (EP (g.cx c) pins σ Q) c.xe sh := by
  have hl : us.length = ps.length := rv.length.symm.trans (Fk.len _ _ _ _ h)
  have hbd := hb sh us I.kIn (by rw [List.append_nil]; exact hl)
  rw [List.append_nil] at hbd
  refine wpAny_call (codeAny_mono (Fk.run c.A c.stack sh H _ us vs Q E hgd hr I.env0 hbd rv h) fun res sh' hq => ?_)
  cases res with
  | error e => exact hx _ _ _ _ _ _ I hq
  | ok fl => cases fl with
    | ret u => exact I.after hq
    | _ => exact hq.elim
theorem de_call {np k : Nat} {W : FSpec} {ms : List Bool} {wr : WA} {x : Str} {f : Addr} {fd : FuncData} {ps : List Str} {p pos : Pos} {e : Expr} {es : List Expr} (hW : FMono W) (Fk : FnG S.g S.CX k f fd ps (spOf S.g.K np W)) (hk : k ≤ S.k)
    (hg : GlS S.sc x) (hm : S.g.mg x = some (.ref f)) (hkp : PySem.W.keepIn S.g.K (.ref f) = true) (hb : Binds S.g.K fd ps []) (ha : DA S (e :: es) wr)
    (hs : ∀ env, starEach (e :: es) env = (false, eval e env) :: starEach es env := by intro _; rfl) (hpl : ∀ env, (backTo pos (starEach es env)).any (·.1) = false := by intro _; rfl) (hdb : (x == ("__debug__" : Str)) = false := by decide) :
    DE S (.Call (.Name x p) (e :: es) [] pos) (wCall np W ms wr) := by
  obtain ⟨t, pa, s⟩ := ha
  refine ⟨_, fun c hc => ⟨fun pins sh σ H Q I h => ?_⟩, sim_call hW s⟩
  have hgl : Gl (S.g.cx c) x := gl_of hc hg
  refine wpAny_Call_Name_kw (ld_glob I hgl hm ?_ hdb)
  refine PySem.W.callWith_K (h₀ := S.g.base) I.ok.mod.kin hkp ?_ (hs _) (hpl _)
  refine thn ((pa c hc).run pos pins sh σ H _ I h) fun us sh1 ⟨vs, H1, I1, rv, q⟩ => ⟨I1.kIn, ?_⟩
  have q : spOf S.g.K np W (vs ++ []) H1 Q S.E := q
  rw [List.append_nil] at q
  exact runG Fk hc.gd (hc.room.mono hk) hb hc.ps I1 rv q
theorem de_call0 {k : Nat} {W : FSpec} {x : Str} {f : Addr} {fd : FuncData} {ps : List Str} {p pos : Pos} (hW : FMono W) (Fk : FnG S.g S.CX k f fd ps (spOf S.g.K 0 W)) (hk : k ≤ S.k)
    (hg : GlS S.sc x) (hm : S.g.mg x = some (.ref f)) (hkp : PySem.W.keepIn S.g.K (.ref f) = true) (hb : Binds S.g.K fd ps []) (hdb : (x == ("__debug__" : Str)) = false := by decide) :
    DE S (.Call (.Name x p) [] [] pos) (wCall 0 W [] wNil) := by
  refine ⟨tCall (spOf S.g.K 0 W) [] S.E tNil, fun c hc => ⟨fun pins sh σ H Q I h => ?_⟩, sim_call hW ⟨fun _ _ δ P P' _ h w => h _ _ w, fun Ex F B H vs σ δ P Q hx h w k => k B H [] [] δ (Same.refl _) h .nil w⟩⟩
  refine wpAny_Call_Name_kw (ld_glob I (gl_of hc hg) hm ?_ hdb)
  exact PySem.W.callWith_K0 I.kIn hkp (runG (us := []) (vs := []) Fk hc.gd (hc.room.mono hk) hb hc.ps I .nil h)
end
end DL
set_option Elab.async false
set_option linter.all false
set_option maxRecDepth 100000
set_option maxHeartbeats 4000000
set_option autoImplicit false
namespace DL
open PySem PySem.Spec PyProof.Rows L2

/-! ### statements -/
section
variable {K : PySem.W.Frag} {F B H : Hp} {vs : List V} {σ : L2.St} {δ : SEnv} {v : V}
theorem set_look {α : Type} {l : List α} {i : Nat} {x y : α} (h : (l.set i x)[i]? = some y) : y = x := by
  rcases set_get h with ⟨_, z⟩ | ⟨n, _⟩
  · exact z
  · exact absurd rfl n
theorem len_lt {i : Nat} {s : Option Sl} (h : Rep K F B H vs σ δ) (e : (δ.set i s)[i]? = some s) : i < σ.length := by
  have := (List.getElem?_eq_some_iff.mp e).1
  rw [List.length_set] at this
  rw [h.len]; exact this
/-- a slot is stored anew -/
theorem Rep.store (h : Rep K F B H vs σ δ) (i : Nat) (v : V) (s : Sl) (q : SlOk K F B H v s) (hb : ∀ c, s ≠ .o true c) (hn : ∀ a, v = .ref a → (∃ c, s = .o false c) → ∀ (j : Nat) (b : Bool) (c' : Cont), δ[j]? = some (some (.o b c')) → σ[j]? ≠ some (some (.ref a))) :
    Rep K F B H vs (σ.set i (some v)) (δ.set i (some s)) := by
  refine ⟨h.sb, h.sf, h.dj, by rw [List.length_set, List.length_set]; exact h.len, fun j s' e => ?_, fun j k a b c b' c' e1 e2 e3 e4 => ?_, fun j c e => ?_⟩
  · by_cases hj : j = i
    · subst hj
      have := set_look e
      cases this
      exact ⟨v, by rw [List.getElem?_set_self (len_lt h e)], q⟩
    · rw [List.getElem?_set_ne (Ne.symm hj)] at e ⊢
      exact h.ok j s' e
  · by_cases hj : j = i
    · subst hj
      have z := set_look e1
      cases z
      rw [List.getElem?_set_self (len_lt h e1)] at e3
      cases e3
      by_cases hk : k = j
      · exact hk.symm
      · rw [List.getElem?_set_ne (Ne.symm hk)] at e2 e4
        cases b with
        | true => exact absurd rfl (hb c)
        | false => exact absurd e4 (hn a rfl ⟨c, rfl⟩ k b' c' e2)
    · rw [List.getElem?_set_ne (Ne.symm hj)] at e1 e3
      by_cases hk : k = i
      · subst hk
        have z := set_look e2
        cases z
        rw [List.getElem?_set_self (len_lt h e2)] at e4
        cases e4
        cases b' with
        | true => exact absurd rfl (hb c')
        | false => exact absurd e3 (hn a rfl ⟨c', rfl⟩ j b c e1)
      · rw [List.getElem?_set_ne (Ne.symm hk)] at e2 e4
        exact h.apart j k a b c b' c' e1 e2 e3 e4
  · by_cases hj : j = i
    · subst hj
      have z := set_look e
      cases z
      exact absurd rfl (hb c)
    · rw [List.getElem?_set_ne (Ne.symm hj)] at e ⊢
      exact h.bor j c e
/-- what is stored under a name -/
def asgn (δ : SEnv) (i : Nat) : R → Option SEnv
  | .d d => some (δ.set i (some (.d d)))
  | .w d => some (δ.set i (some (.w d)))
  | .n c => some (δ.set i (some (.o false c)))
  | .o j => (frz δ (.o j)).map fun p => p.2.set i (some (.d p.1))
theorem asgn_ok {i : Nat} {r : R} {δ' : SEnv} (h : Rep K F B H vs σ δ) (q : RepR K F B H σ δ v r) (e : asgn δ i r = some δ') : ∃ B', Same B B' ∧ Rep K F B' H vs (σ.set i (some v)) δ' := by
  cases r with
  | d d => cases e; exact ⟨B, Same.refl _, h.store i v (.d d) q (fun _ z => nomatch z) (fun a _ ⟨c, z⟩ => nomatch z)⟩
  | w d => cases e; exact ⟨B, Same.refl _, h.store i v (.w d) q (fun _ z => nomatch z) (fun a _ ⟨c, z⟩ => nomatch z)⟩
  | n c =>
    cases e
    obtain ⟨a, ea, hB, hF, qc, hn⟩ := q
    refine ⟨B, Same.refl _, h.store i v (.o false c) ⟨a, ea, hB, hF, qc⟩ (fun _ z => nomatch z) (fun a' ea' _ j b c' e1 e2 => ?_)⟩
    rw [ea] at ea'; cases ea'
    exact hn j b c' e1 e2
  | o j =>
    simp only [asgn] at e
    obtain ⟨⟨d, δ1⟩, e1, e⟩ := Option.map_eq_some_iff.mp e
    cases e
    obtain ⟨B1, s1, h1, d1⟩ := frz_ok h q e1
    exact ⟨B1, s1, h1.store i v (.d d) d1 (fun _ z => nomatch z) (fun a _ ⟨c, z⟩ => nomatch z)⟩
end
def wSeq (w u : WS) : WS := fun d δ => w { d with nx := u d } δ
def wNext : WS := fun d δ => d.nx δ
def wSet (i : Nat) (wa : WE) : WS := fun d δ => wa d.ex δ fun r δ1 => ob (asgn δ1 i r) fun δ2 => d.nx δ2
def wDrop (wa : WE) : WS := fun d δ => wa d.ex δ fun _ δ1 => d.nx δ1
def wRet (wa : WE) : WS := fun d δ => wa d.ex δ d.rt
def wRetN : WS := fun d δ => d.rt (.d .none) δ
def wIfS (wt : WT) (w u : WS) : WS := fun d δ => wt d.ex δ fun b δ1 => if b = true then w d δ1 else u d δ1
def wBreak : WS := fun d δ => d.bk δ
def wCont : WS := fun d δ => d.ct δ
section
variable {S : Sg}
theorem DEnds.le.refl (d : DEnds) : d.le d := ⟨fun _ h => h, fun _ _ h => h, fun _ h => h, fun _ h => h, fun _ h => h⟩
theorem ds_nil : DSs S [] wNext := ⟨tNext, fun _ _ => pss_nil, ⟨fun d d' δ h w => h.nx _ w, fun F B H vs σ δ D d hx h k w => k.nx B σ H δ (Same.refl _) h w⟩⟩
theorem sim_seq {K : PySem.W.Frag} {E : XK} {t u : TS} {w1 w2 : WS} (s1 : SSim K E t w1) (s2 : SSim K E u w2) : SSim K E (tSeq t u) (wSeq w1 w2) := by
  refine ⟨fun d d' δ h w => ?_, fun F B H vs σ δ D d hx h k w => ?_⟩
  · exact s1.mono { d with nx := w2 d } { d' with nx := w2 d' } δ ⟨fun δ w => s2.mono d d' δ h w, h.rt, h.bk, h.ct, h.ex⟩ w
  · exact s1.run F B H vs σ δ { D with nx := u D } { d with nx := w2 d } hx h ⟨fun B' σ' H' δ' s h' w' => s2.run F B' H' vs σ' δ' D d (hx.up s) h' (k.up s) w', k.rt, k.bk, k.ct⟩ w
theorem ds_cons {st : Stmt} {rest : List Stmt} {w u : WS} (h : DS S st w) (hr : DSs S rest u) : DSs S (st :: rest) (wSeq w u) := by
  obtain ⟨t, p, s⟩ := h
  obtain ⟨tr, pr, sr⟩ := hr
  exact ⟨_, fun c hc => pss_cons (p c hc) (pr c hc), sim_seq s sr⟩
theorem ds_one {st : Stmt} {w : WS} (h : DS S st w) : DSs S [st] w := by
  obtain ⟨t, p, s⟩ := h
  exact ⟨t, fun c hc => pss_one (p c hc), s⟩
theorem ds_pass {pos : Pos} : DS S (.Pass pos) wNext := ⟨tNext, fun _ _ => ps_pass, ⟨fun d d' δ h w => h.nx _ w, fun F B H vs σ δ D d hx h k w => k.nx B σ H δ (Same.refl _) h w⟩⟩
theorem ds_break {pos : Pos} : DS S (.Break pos) wBreak := ⟨tBreak, fun _ _ => ps_break, ⟨fun d d' δ h w => h.bk _ w, fun F B H vs σ δ D d hx h k w => k.bk B σ H δ (Same.refl _) h w⟩⟩
theorem ds_cont {pos : Pos} : DS S (.Continue pos) wCont := ⟨tCont, fun _ _ => ps_continue, ⟨fun d d' δ h w => h.ct _ w, fun F B H vs σ δ D d hx h k w => k.ct B σ H δ (Same.refl _) h w⟩⟩
theorem ds_expr {e : Expr} {wa : WE} {pos : Pos} (h : DE S e wa) (hs : ∀ env, swapsWith e none pos.line env = pure false := by intro _; rfl) : DS S (.Expr e pos) (wDrop wa) := by
  obtain ⟨t, p, s⟩ := h
  refine ⟨_, fun c hc => ps_expr (p c hc) (hs _), ⟨fun d d' δ h w => s.mono _ _ _ _ _ h.ex (fun r δ1 w => h.nx _ w) w, fun F B H vs σ δ D d hx h k w => ?_⟩⟩
  exact s.run _ _ _ _ _ _ _ _ _ hx h w fun B1 H1 v r δ1 s1 h1 q1 w1 => k.nx B1 σ H1 δ1 s1 h1 w1
theorem ds_ret {e : Expr} {wa : WE} {pos : Pos} (h : DE S e wa) : DS S (.Return (some e) pos) (wRet wa) := by
  obtain ⟨t, p, s⟩ := h
  refine ⟨_, fun c hc => ps_ret (p c hc), ⟨fun d d' δ h w => s.mono _ _ _ _ _ h.ex h.rt w, fun F B H vs σ δ D d hx h k w => ?_⟩⟩
  exact s.run _ _ _ _ _ _ _ _ _ hx h w fun B1 H1 v r δ1 s1 h1 q1 w1 => k.rt B1 σ H1 δ1 v r s1 h1 q1 w1
theorem ds_retN {pos : Pos} : DS S (.Return none pos) wRetN := ⟨tRetN, fun _ _ => ps_retN, ⟨fun d d' δ h w => h.rt _ _ w, fun F B H vs σ δ D d hx h k w => k.rt B σ H δ .non (.d .none) (Same.refl _) h DD.non w⟩⟩
theorem ds_if {c : Expr} {a b : List Stmt} {wt : WT} {w u : WS} {pos : Pos} (hc : DT S c wt) (ha : DSs S a w) (hb : DSs S b u) : DS S (.If c a b pos) (wIfS wt w u) := by
  obtain ⟨tt, pt, st⟩ := hc
  obtain ⟨ta, pa, sa⟩ := ha
  obtain ⟨tb, pb, sb⟩ := hb
  refine ⟨_, fun c hc => ps_if (pt c hc) (pa c hc) (pb c hc), ⟨fun d d' δ h w => ?_, fun F B H vs σ δ D d hx h k w => ?_⟩⟩
  · refine st.mono _ _ _ _ _ h.ex (fun bb δ1 w => ?_) w
    cases bb with
    | true => exact sa.mono _ _ _ h w
    | false => exact sb.mono _ _ _ h w
  · refine st.run _ _ _ _ _ _ _ _ _ hx h w fun B1 H1 bb δ1 s1 h1 w1 => ?_
    cases bb with
    | true => exact sa.run _ _ _ _ _ _ _ _ (hx.up s1) h1 (k.up s1) w1
    | false => exact sb.run _ _ _ _ _ _ _ _ (hx.up s1) h1 (k.up s1) w1
theorem fn_ok {c : Cl} (hc : S.ok c) {x : Str} (ht : S.top = true ∨ S.sc.names.lookup x = some .local) : c.fn x = true ∨ c.env.scope.names.lookup x = some .local := by
  rcases ht with h | h
  · exact .inl (hc.fn h x)
  · exact .inr (by rw [hc.hs]; exact h)
theorem ds_set {i : Nat} {x : Str} {e : Expr} {wa : WE} {pos pos' : Pos} (hi : S.N[i]? = some x) (hx : Loc S.sc x) (h : DE S e wa) (hs : ∀ env, swapsWith e (some (.Name x pos')) pos.line env = pure false := by intro _; rfl) (ht : S.top = true ∨ S.sc.names.lookup x = some .local := by exact .inl rfl) :
    DS S (.Assign [.Name x pos'] e pos) (wSet i wa) := by
  obtain ⟨t, p, s⟩ := h
  refine ⟨_, fun c hc => ps_set (X := S.g.cx c) (i := i) (by show c.N.Nodup; rw [hc.hN]; exact hc.nd) (by show c.N[i]? = _; rw [hc.hN]; exact hi) (by show Loc c.env.scope x; rw [hc.hs]; exact hx) (p c hc) (hs _) (fn_ok hc ht), ⟨fun d d' δ h w => ?_, fun F B H vs σ δ D d hx h k w => ?_⟩⟩
  · exact s.mono _ _ _ _ _ h.ex (fun r δ1 w => w.imp fun δ2 w => h.nx _ w) w
  · refine s.run _ _ _ _ _ _ _ _ _ hx h w fun B1 H1 v r δ1 s1 h1 q1 w1 => ?_
    obtain ⟨δ2, e1, w1⟩ := w1
    obtain ⟨B2, s2, h2⟩ := asgn_ok h1 q1 e1
    exact k.nx B2 _ H1 δ2 (s1.trans s2) h2 w1
end

/-! ### a def as a whole -/
def retR (δ : SEnv) : R → Option R
  | .d d => some (.d d)
  | .w d => some (.w d)
  | .n c => some (.n c)
  | .o i => match δ[i]? with
    | some (some (.d d)) => some (.d d)
    | some (some (.w d)) => some (.w d)
    | some (some (.o false c)) => some (.n c)
    | _ => none
def finals : List Sl → SEnv → Option (List Sl)
  | [], _ => some []
  | .o _ _ :: ss, some (.o true c) :: δ => (finals ss δ).map fun q => .o true c :: q
  | .d d :: ss, _ :: δ => (finals ss δ).map fun q => .d d :: q
  | .w d :: ss, _ :: δ => (finals ss δ).map fun q => .w d :: q
  | _, _ => none
def fnW (np n : Nat) (w : WS) : FSpec := fun ss Ex P => ss.length = np ∧ (let fin := fun r δ => ob (retR δ r) fun r' => ob (finals ss δ) fun ss' => P r' ss'
  w ⟨fun δ => fin (.d .none) δ, fin, fun _ => False, fun _ => False, Ex⟩ (ss.map some ++ List.replicate (n - np) none))
theorem finals_get : ∀ {ss : List Sl} {δ : SEnv} {ss' : List Sl}, finals ss δ = some ss' → ss'.length = ss.length ∧ ∀ (j : Nat) (s' : Sl), ss'[j]? = some s' → ∃ s, ss[j]? = some s ∧ ((∃ b c c', s = .o b c ∧ s' = .o true c' ∧ δ[j]? = some (some (.o true c'))) ∨ (s' = s ∧ ∀ b c, s ≠ .o b c))
  | [], δ, _, e => by cases e; exact ⟨rfl, fun j s' e => by simp at e⟩
  | .o b c :: ss, [], _, e => by exact nomatch e
  | .d _ :: ss, [], _, e => by exact nomatch e
  | .w _ :: ss, [], _, e => by exact nomatch e
  | .d d :: ss, o :: δ, ss', e => by
    simp only [finals] at e
    obtain ⟨q, e1, e⟩ := Option.map_eq_some_iff.mp e
    cases e
    obtain ⟨h1, h2⟩ := finals_get e1
    refine ⟨by simp [h1], fun j s' e => ?_⟩
    cases j with
    | zero => simp at e; subst e; exact ⟨_, rfl, .inr ⟨rfl, fun _ _ z => nomatch z⟩⟩
    | succ j => simpa using h2 j s' (by simpa using e)
  | .w d :: ss, o :: δ, ss', e => by
    simp only [finals] at e
    obtain ⟨q, e1, e⟩ := Option.map_eq_some_iff.mp e
    cases e
    obtain ⟨h1, h2⟩ := finals_get e1
    refine ⟨by simp [h1], fun j s' e => ?_⟩
    cases j with
    | zero => simp at e; subst e; exact ⟨_, rfl, .inr ⟨rfl, fun _ _ z => nomatch z⟩⟩
    | succ j => simpa using h2 j s' (by simpa using e)
  | .o b c :: ss, none :: δ, ss', e => by exact nomatch e
  | .o b c :: ss, some (.d _) :: δ, ss', e => by exact nomatch e
  | .o b c :: ss, some (.w _) :: δ, ss', e => by exact nomatch e
  | .o b c :: ss, some (.o false _) :: δ, ss', e => by exact nomatch e
  | .o b c :: ss, some (.o true c0) :: δ, ss', e => by
    simp only [finals] at e
    obtain ⟨q, e1, e⟩ := Option.map_eq_some_iff.mp e
    cases e
    obtain ⟨h1, h2⟩ := finals_get e1
    refine ⟨by simp [h1], fun j s' e => ?_⟩
    cases j with
    | zero => simp at e; subst e; exact ⟨_, rfl, .inl ⟨b, c, c0, rfl, rfl, rfl⟩⟩
    | succ j => simpa using h2 j s' (by simpa using e)
theorem fnW_mono {np n : Nat} {w : WS} (hw : ∀ (d d' : DEnds) (δ : SEnv), d.le d' → w d δ → w d' δ) : FMono (fnW np n w) := fun ss Ex Ex' P P' hx hP h => by
  obtain ⟨h1, h2⟩ := h
  refine ⟨h1, ?_⟩
  refine hw _ _ _ ?_ h2
  refine ⟨fun δ h => ?_, fun r δ h => ?_, fun _ h => h, fun _ h => h, hx⟩
  · exact h.imp fun r' h => h.imp fun ss' h => hP _ _ h
  · exact h.imp fun r' h => h.imp fun ss' h => hP _ _ h
/-- from a body's words to the promise -/
theorem body_run {K : PySem.W.Frag} {E : XK} {np : Nat} {N : List Str} {t : TS} {w : WS} (hN : np ≤ N.length) (s : SSim K E t w) {vs : List V} {H : Hp} {Q : VK} (h : spOf K np (fnW np N.length w) vs H Q E) :
    t { nx := fun _ H' => Q .non H', rt := Q } (start N vs) H := by
  obtain ⟨hl, F, B, ss, Ex, P, h1, hx, ⟨hs, h2⟩, k⟩ := h
  have hvl : vs.length = ss.length := by have := h1.len; simpa using this
  have fin : ∀ {B' : Hp} {σ' : L2.St} {H' : Hp} {δ' : SEnv} {v : V} {r : R}, Same B B' → Rep K F B' H' vs σ' δ' → RepR K F B' H' σ' δ' v r → (ob (retR δ' r) fun r' => ob (finals ss δ') fun ss' => P r' ss') → Q v H' := by
    intro B' σ' H' δ' v r s1 h3 q3 w3
    obtain ⟨r', e1, ss', e2, w3⟩ := w3
    obtain ⟨fl, fg⟩ := finals_get e2
    -- a lent slot stands as it was handed in
    have lent : ∀ {j : Nat} {c' : Cont}, ss'[j]? = some (.o true c') → ∃ a, vs[j]? = some (.ref a) ∧ δ'[j]? = some (some (.o true c')) ∧ σ'[j]? = some (some (.ref a)) ∧ B' a = none ∧ F a = none ∧ ContOk B' H' a c' := by
      intro j c' e
      obtain ⟨s0, e3, z⟩ := fg j _ e
      rcases z with ⟨b, c, c'', e4, e5, e6⟩ | ⟨e4, n⟩
      · cases e5
        obtain ⟨v1, e7, e8⟩ := h3.bor j _ e6
        obtain ⟨v2, e9, a, ea, hB, hF, qc⟩ := h3.ok j _ e6
        rw [e7] at e9; cases e9
        subst ea
        exact ⟨a, e8, e6, e7, hB, hF, qc⟩
      · subst e4; exact absurd rfl (n _ _)
    have own : ∀ {j : Nat} {b : Bool} {c' : Cont}, ss'[j]? = some (.o b c') → b = true := by
      intro j b c' e
      obtain ⟨s0, e3, z⟩ := fg j _ e
      rcases z with ⟨b, c, c'', e4, e5, e6⟩ | ⟨e4, n⟩
      · cases e5; rfl
      · subst e4; exact absurd rfl (n _ _)
    have h4 : Rep K F B' H' vs (vs.map some) (ss'.map some) := by
      refine ⟨h3.sb, h3.sf, h3.dj, by rw [List.length_map, List.length_map, fl, hvl], fun j s' e => ?_, fun j m a b c b' c' e3 e4 e5 e6 => ?_, fun j c e => ?_⟩
      · rw [List.getElem?_map] at e
        obtain ⟨s0, e3, e4⟩ := Option.map_eq_some_iff.mp e
        cases e4
        obtain ⟨s1', e5, z⟩ := fg j _ e3
        rcases z with ⟨b, c, c'', e6, e7, e8⟩ | ⟨e6, n⟩
        · subst e7
          obtain ⟨a, f1, _, _, hB, hF, qc⟩ := lent e3
          exact ⟨.ref a, by rw [List.getElem?_map, f1]; rfl, a, rfl, hB, hF, qc⟩
        · subst e6
          obtain ⟨v0, e7, q7⟩ := h1.ok j s' (by rw [List.getElem?_map, e5]; rfl)
          refine ⟨v0, e7, ?_⟩
          cases s' with
          | d d => exact DD.mono s1 q7
          | w d => exact q7
          | o b c => exact absurd rfl (n b c)
      · rw [List.getElem?_map] at e3 e4 e5 e6
        obtain ⟨z1, e3, z⟩ := Option.map_eq_some_iff.mp e3; cases z
        obtain ⟨z2, e4, z⟩ := Option.map_eq_some_iff.mp e4; cases z
        obtain ⟨v1, e5, z⟩ := Option.map_eq_some_iff.mp e5; cases z
        obtain ⟨v2, e6, z⟩ := Option.map_eq_some_iff.mp e6; cases z
        cases own e3
        cases own e4
        obtain ⟨a1, f1, f2, f3, _⟩ := lent e3
        obtain ⟨a2, g1, g2, g3, _⟩ := lent e4
        rw [e5] at f1; cases f1
        rw [e6] at g1; cases g1
        exact h3.apart j m a true c true c' f2 g2 f3 g3
      · rw [List.getElem?_map] at e
        obtain ⟨z1, e3, z⟩ := Option.map_eq_some_iff.mp e; cases z
        obtain ⟨a1, f1, _⟩ := lent e3
        exact ⟨.ref a1, by rw [List.getElem?_map, f1]; rfl, f1⟩
    have notO : ∀ i, r' ≠ .o i := by
      intro i z
      subst z
      cases r with
      | d d => cases e1
      | w d => cases e1
      | n c => cases e1
      | o j => simp only [retR] at e1; split at e1 <;> cases e1
    have hr : RepR K F B' H' (vs.map some) (ss'.map some) v r' := by
      have apn : ∀ {a : Addr}, (∀ (j : Nat) (c' : Cont), δ'[j]? = some (some (.o true c')) → σ'[j]? ≠ some (some (.ref a))) → ∀ (i : Nat) (b : Bool) (c' : Cont), (ss'.map some)[i]? = some (some (.o b c')) → (vs.map some)[i]? ≠ some (some (.ref a)) := by
        intro a hn i b c' e5 e6
        rw [List.getElem?_map] at e5 e6
        obtain ⟨z1, e5, z⟩ := Option.map_eq_some_iff.mp e5; cases z
        obtain ⟨v1, e6, z⟩ := Option.map_eq_some_iff.mp e6; cases z
        cases own e5
        obtain ⟨a1, f1, f2, f3, _⟩ := lent e5
        rw [e6] at f1; cases f1
        exact hn i c' f2 f3
      cases r with
      | d d => cases e1; exact q3
      | w d => cases e1; exact q3
      | n c =>
        cases e1
        obtain ⟨a, ea, hB, hF, qc, hn⟩ := q3
        exact ⟨a, ea, hB, hF, qc, apn fun j c' e5 => hn j true c' e5⟩
      | o i =>
        have q3 : σ'[i]? = some (some v) := q3
        simp only [retR] at e1
        split at e1
        · rename_i d hd
          cases e1
          obtain ⟨v', e5, q5⟩ := h3.ok i _ hd
          rw [q3] at e5; cases e5
          exact q5
        · rename_i d hd
          cases e1
          obtain ⟨v', e5, q5⟩ := h3.ok i _ hd
          rw [q3] at e5; cases e5
          exact q5
        · rename_i c hd
          cases e1
          obtain ⟨v', e5, a, ea, hB, hF, qc⟩ := h3.ok i _ hd
          rw [q3] at e5; cases e5
          subst ea
          refine ⟨a, rfl, hB, hF, qc, apn fun j c' e5 e6 => ?_⟩
          have := h3.apart j i a true c' false c e5 hd e6 q3
          subst this
          rw [hd] at e5; cases e5
        · cases e1
    exact k B' H' v r' ss' s1 h4 hr notO w3
  have h0 : Rep K F B H vs (start N vs) (ss.map some ++ List.replicate (N.length - np) none) := by
    have hlen : (ss.map some ++ List.replicate (N.length - np) (none : Option Sl)).length = (start N vs).length := by
      unfold L2.start
      rw [List.length_append, List.length_append, List.length_map, List.length_map, List.length_replicate, List.length_replicate]
      omega
    have low : ∀ {j : Nat} {s : Sl}, (ss.map some ++ List.replicate (N.length - np) (none : Option Sl))[j]? = some (some s) → (ss.map some)[j]? = some (some s) ∧ (start N vs)[j]? = (vs.map some)[j]? := by
      intro j s e
      by_cases hj : j < ss.length
      · rw [List.getElem?_append_left (by rw [List.length_map]; exact hj)] at e
        refine ⟨e, ?_⟩
        unfold L2.start
        rw [List.getElem?_append_left (by rw [List.length_map]; omega)]
      · rw [List.getElem?_append_right (by rw [List.length_map]; omega), List.getElem?_replicate] at e
        split at e <;> cases e
    refine ⟨h1.sb, h1.sf, h1.dj, hlen.symm, fun j s' e => ?_, fun j m a b c b' c' e3 e4 e5 e6 => ?_, fun j c e => ?_⟩
    · obtain ⟨e1, e2⟩ := low e
      rw [e2]; exact h1.ok j s' e1
    · obtain ⟨f1, f2⟩ := low e3
      obtain ⟨g1, g2⟩ := low e4
      rw [f2] at e5; rw [g2] at e6
      exact h1.apart j m a b c b' c' f1 g1 e5 e6
    · obtain ⟨e1, e2⟩ := low e
      rw [e2]; exact h1.bor j c e1
  refine s.run F B H vs _ _ _ _ hx h0 ⟨fun B' σ' H' δ' s1 h3 w3 => ?_, fun B' σ' H' δ' v r s1 h3 q3 w3 => fin s1 h3 q3 w3, fun _ _ _ _ _ _ w => False.elim w, fun _ _ _ _ _ _ w => False.elim w⟩ h2
  exact fin (v := .non) (r := .d .none) s1 h3 DD.non w3
/-- a def that lets nothing out -/
theorem fn_dl {g : Gx} {x qual : Str} {st : Stmt} {f : Addr} {fd : FuncData} {N ps : List Str} {k : Nat} {w : WS} (Fn : Fun g.K x qual st f fd) (Sc : FnScope N ps (defScope st)) (hb : ∀ E, DSs ⟨g, CX0, N, defScope st, k, E, true⟩ (defBody st) w) (hp : ps.length ≤ N.length) :
    FnG g CX0 (k + 1) f fd ps (spOf g.K ps.length (fnW ps.length N.length w)) := by
  obtain ⟨oc, od, kV, doc, pm, an, cdv, ct, osl, rfl, lk, hcd⟩ := Fn.ex
  refine ⟨fun vs H Q E h => h.1, fun A outer sh H args us vs Q E hgd hr e0 hbd rv hsp => ?_⟩
  have KX : g.K.In sh.heap := e0.mod.kin.keeps fun b o e => (e0.bs b o e).1
  have cell_or : ∀ y ∈ ps.zip us, (defScope st).names.lookup y.1 = some .local ∨ ((defScope st).names.lookup y.1 = some .cell ∧ ((cellsFrom (sh.heap.objs.size + 1) (defScope st).names []).lookup y.1).isSome = true) := by
    rintro ⟨nm, v⟩ hy
    have hz := Sc.par nm (List.of_mem_zip hy).1
    exact hz.imp id fun q => ⟨q, PySem.W.cellsFrom_some _ _ _ (.inl q)⟩
  refine codeAny_call_function hr.depth (KX _ _ lk) rfl Sc.co Sc.gen rfl (PySem.W.codeRec_of KX hcd) (hbd _ _ _ _ ?_)
  refine wpAny_newFunctionEnv_cells Sc.kind cell_or fun env he sh1 inC => ?_
  subst he
  refine ⟨(e0.mod.nolimit.keeps fun b o e => (e0.bs b o e).1).keeps inC.toInCall.keep, codeAny_func ?_⟩
  let X := cxOf CX0 g.P g.w g.K g.mg g.base N qual (defScope st) f cdv A outer sh H E
  have I : Inv X [] (L2.start N vs) H sh1 := inv_start Sc hr.hd e0 hsp.1 rv inC
  obtain ⟨t, p, sm⟩ := hb E
  let Y := X.nox
  let c : Cl := ⟨Y.A, Y.N, Y.s_0, Y.H_0, Y.env, Y.outer, Y.stack, Y.ex, Y.fn, Y.calm, Y.pn, Y.xe⟩
  have hc : Sg.ok ⟨g, CX0, N, defScope st, k, E, true⟩ c := ⟨rfl, Sc.nd, rfl, rfl, hr.deeper _, fun _ _ _ _ _ _ _ h => h.elim, PassesOwn.never, fun _ _ => rfl, hgd⟩
  refine wpAny_mono (((p c hc : PSs Y (defBody st) t).nox).run [] sh1 _ H _ I (body_run hp sm hsp)) (fun fl sh' hs => ?_) fun e sh' hs => hs
  have ends : ∀ {σ' : L2.St} {H' : Hp} {v : V} {u : Value}, Inv X [] σ' H' sh' → RelV v u → Q v H' → CE outer g.P g.w H sh Q u sh' := fun J r q => ⟨_, _, J.os, J.bare, J.base, J.hok, r, q⟩
  cases fl with
  | ret u => obtain ⟨v, σ', H', J, r, q⟩ := hs; exact ends J r q
  | next => obtain ⟨σ', H', J, q⟩ := hs; exact ends (v := .non) (u := Value.none) J rfl q
  | brk => obtain ⟨_, _, _, q⟩ := hs; exact q.elim
  | cont => obtain ⟨_, _, _, q⟩ := hs; exact q.elim
/-- a weaker word -/
theorem spOf_imp {g : Gx} {CX : CXT} {k np : Nat} {f : Addr} {fd : FuncData} {ps : List Str} {W W' : FSpec} (Fk : FnG g CX k f fd ps (spOf g.K np W)) (h : ∀ ss Ex P, W' ss Ex P → W ss Ex P) : FnG g CX k f fd ps (spOf g.K np W') :=
  Fk.imp fun vs H Q E ⟨h1, F, B, ss, Ex, P, h2, h3, h4, h5⟩ => ⟨h1, F, B, ss, Ex, P, h2, h3, h _ _ _ h4, h5⟩

end DL
set_option Elab.async false
set_option linter.all false
set_option maxRecDepth 100000
set_option maxHeartbeats 4000000
set_option autoImplicit false
namespace DL
open PySem PySem.Spec PyProof.Rows L2

/-! ### what is walked -/
abbrev WI := XP → SEnv → (List PyData → SEnv → Prop) → Prop
/-- the turns yield these things -/
structure ItOk (B : Hp) (J : It) (ds : List PyData) : Prop where
  stop : ∀ (i : Nat) (H : Hp), Same B H → ds.length ≤ i → J.stop i H
  go : ∀ (i : Nat) (H : Hp), Same B H → i < ds.length → J.go i H
  yld : ∀ (i : Nat) (H : Hp) (x : V) (H' : Hp) (d : PyData), Same B H → J.yld i H x H' → ds[i]? = some d → (H' = H ∧ DD B x d) ∨ ∃ p xs dd, x = .ref p ∧ H p = none ∧ H' = upd H p (.tup xs) ∧ d = .tuple dd ∧ DDs B xs dd
theorem ItOk.up {B B' : Hp} {J : It} {ds : List PyData} (h : ItOk B J ds) (s : Same B B') : ItOk B' J ds :=
  ⟨fun i H s1 => h.stop i H (s.trans s1), fun i H s1 => h.go i H (s.trans s1), fun i H x H' d s1 y e => by
    rcases h.yld i H x H' d (s.trans s1) y e with ⟨z, q⟩ | ⟨p, xs, dd, e1, e2, e3, e4, q⟩
    · exact .inl ⟨z, q.mono s⟩
    · exact .inr ⟨p, xs, dd, e1, e2, e3, e4, q.mono s⟩⟩
structure ISim (K : PySem.W.Frag) (E : XK) (wi : TI) (W : WI) : Prop where
  mono : ∀ (Ex Ex' : XP) (δ : SEnv) (P P' : List PyData → SEnv → Prop), (∀ e, Ex e → Ex' e) → (∀ r δ', P r δ' → P' r δ') → W Ex δ P → W Ex' δ P'
  run : ∀ (Ex : XP) (F B H : Hp) (vs : List V) (σ : L2.St) (δ : SEnv) (P : List PyData → SEnv → Prop) (R' : It → Hp → Prop), XOk F B E Ex → Rep K F B H vs σ δ → W Ex δ P →
    (∀ B' H' J ds δ', Same B B' → Rep K F B' H' vs σ δ' → ItOk B' J ds → P ds δ' → R' J H') → wi σ H R'
def DI (S : Sg) (tg iter : Expr) (W : WI) : Prop := ∃ t, (∀ c, S.ok c → PI (S.g.cx c) tg iter t) ∧ ISim S.g.K S.E t W

def signs (x : Str) : List PyData := x.cps.toList.map fun c => .str ⟨#[c]⟩
def itemsOf : PyData → Option (List PyData)
  | .list ds => some ds
  | .tuple ds => some ds
  | .str x => some (signs x)
  | _ => none
def walked (δ : SEnv) : R → Option (List PyData × SEnv)
  | .w d => (itemsOf d).bind fun ds => if ds.all scalar then some (ds, δ) else none
  | r => (frz δ r).bind fun p => (itemsOf p.1).map fun ds => (ds, p.2)
def iSeq (K : PySem.W.Frag) (te : TE) : TI := fun σ H R => te σ H fun x H1 => (∃ a xs, x = .ref a ∧ SqL K H1 a xs ∧ R (Itl K a) H1) ∨ (∃ a xs, x = .ref a ∧ SqT K H1 a xs ∧ R (Itt K a) H1) ∨ ∃ y, x = .str y ∧ R (Its y) H1
theorem pi_seq {X : Cx} {tg l : Expr} {tl : TE} (hl : PE X l tl) : PI X tg l (iSeq X.K tl) := by
  refine ⟨fun pins s σ H R I h => ?_⟩
  refine thn (hl.run pins s σ H _ I h) fun v s1 ⟨x, H1, I1, r1, q1⟩ => ?_
  rcases q1 with ⟨a, xs, e, hq, q⟩ | ⟨a, xs, e, hq, q⟩ | ⟨y, e, q⟩
  · subst e
    cases r1
    obtain ⟨its, rv, p, hz⟩ := I1.list hq
    refine wpAny_pyIter_list p.isList ?_
    refine ⟨s1.heap.objs.size, [s1.heap.objs.size], _, _, H1, rfl, I1.kept (t' := s1.toks) fun b o e => Heap.get?_push_of_some _ e, turn_list a _, ⟨_, Heap.get?_push_size _ rfl, rfl, rfl⟩, fun b hb => ?_, q⟩
    have e : b = s1.heap.objs.size := by simpa using hb
    subst e
    exact I1.fpOk (Nat.le_refl _) (I1.hok.fresh (Nat.le_refl _))
  · subst e
    cases r1
    obtain ⟨its, rv, p, hz⟩ := I1.tuple hq
    refine wpAny_pyIter_tuple (show s1.heap.IsTuple a its.toArray from p) ?_
    refine ⟨s1.heap.objs.size, [s1.heap.objs.size], _, _, H1, rfl, I1.kept (t' := s1.toks) fun b o e => Heap.get?_push_of_some _ e, turn_tuple a _, ⟨_, Heap.get?_push_size _ rfl, rfl, rfl⟩, fun b hb => ?_, q⟩
    have e : b = s1.heap.objs.size := by simpa using hb
    subst e
    exact I1.fpOk (Nat.le_refl _) (I1.hok.fresh (Nat.le_refl _))
  · subst e
    obtain ⟨t, rfl⟩ := r1
    cases ha : y.cps.all (· < 128)
    · exact wpAny_pyIter_wide ha (pi_one (tk := s1.toks) I1 _ (turn_str _ y t "str_iterator" (.inr rfl)) ⟨_, Heap.get?_push_size _ rfl, rfl, rfl⟩ q)
    · exact wpAny_pyIter_ascii ha (pi_one (tk := s1.toks) I1 _ (turn_str _ y t "str_ascii_iterator" (.inl rfl)) ⟨_, Heap.get?_push_size _ rfl, rfl, rfl⟩ q)
section
variable {K : PySem.W.Frag} {F B H : Hp}
theorem dp_items {vs : List V} {ds : List PyData} : DpAll K (fun _ => none) vs ds → ds.all scalar = true → ∀ B, DDs B vs ds
  | .nil, _, _ => .nil
  | .cons q r, h, B => by
    rw [List.all_cons, Bool.and_eq_true] at h
    exact .cons (DW.scal q h.1) (dp_items r h.2 B)
theorem it_list {a : Addr} {xs : List V} {ds : List PyData} (h : ∀ H, Same B H → SqL K H a xs) (q : DDs B xs ds) (inj : ∀ H, Same B H → ∀ ys, SqL K H a ys → True) : ItOk B (Itl K a) ds :=
  ⟨fun i H s hi => ⟨xs, h H s, by rw [q.length]; exact hi⟩, fun i H s hi => by
    have hx : i < xs.length := by rw [q.length]; exact hi
    exact ⟨xs, xs[i], h H s, by simp [hx]⟩, fun i H x H' d s y e => by
    obtain ⟨e1, y⟩ := y
    obtain ⟨v, e2, q2⟩ := q.get e
    have := y xs (h H s)
    rw [e2] at this; cases this
    exact .inl ⟨e1, q2⟩⟩
theorem it_tup {a : Addr} {xs : List V} {ds : List PyData} (h : ∀ H, Same B H → SqT K H a xs) (q : DDs B xs ds) : ItOk B (Itt K a) ds :=
  ⟨fun i H s hi => ⟨xs, h H s, by rw [q.length]; exact hi⟩, fun i H s hi => by
    have hx : i < xs.length := by rw [q.length]; exact hi
    exact ⟨xs, xs[i], h H s, by simp [hx]⟩, fun i H x H' d s y e => by
    obtain ⟨e1, y⟩ := y
    obtain ⟨v, e2, q2⟩ := q.get e
    have := y xs (h H s)
    rw [e2] at this; cases this
    exact .inl ⟨e1, q2⟩⟩
theorem it_str {y : Str} : ItOk B (Its y) (signs y) :=
  ⟨fun i H s hi => (by simpa [signs] using hi : y.cps.size ≤ i), fun i H s hi => (by simpa [signs] using hi : i < y.cps.size), fun i H x H' d s z e => by
    obtain ⟨e1, c, e2, e3⟩ := z
    refine .inl ⟨e1, ?_⟩
    subst e3
    unfold signs at e
    rw [List.getElem?_map, Array.getElem?_toList, e2] at e
    cases e
    exact .str _⟩
theorem it_range {lo : Int} {n : Nat} : ItOk B (Itr lo n) ((List.range n).map fun (i : Nat) => .int (lo + (i : Int))) :=
  ⟨fun i H s hi => (by simpa using hi : n ≤ i), fun i H s hi => (by simpa using hi : i < n), fun i H x H' d s z e => by
    obtain ⟨e1, e2⟩ := z
    refine .inl ⟨e1, ?_⟩
    subst e2
    rw [List.getElem?_map] at e
    obtain ⟨j, e3, e4⟩ := Option.map_eq_some_iff.mp e
    obtain ⟨_, e5⟩ := List.getElem?_eq_some_iff.mp e3
    rw [List.getElem_range] at e5
    subst e5; subst e4
    exact .int _⟩
end
def wIt (wa : WE) : WI := fun Ex δ P => wa Ex δ fun r δ1 => ob (walked δ1 r) fun p => P p.1 p.2
def wRng (wr : WA) (f : List Vw → Option (Int × Int)) : WI := fun Ex δ P => wr Ex δ fun rs δ1 => ob (views δ1 rs) fun as => ob (f as) fun p =>
  (-(2 ^ 62) ≤ p.1 ∧ p.1 < 2 ^ 62 ∧ -(2 ^ 62) ≤ p.2 ∧ p.2 < 2 ^ 62) ∧ P ((List.range (p.2 - p.1).toNat).map fun (i : Nat) => .int (p.1 + (i : Int))) δ1
def rng1 : List Vw → Option (Int × Int)
  | [.d (.int j)] => some (0, j)
  | _ => none
def rng2 : List Vw → Option (Int × Int)
  | [.d (.int i), .d (.int j)] => some (i, j)
  | _ => none
theorem ov_int {K : PySem.W.Frag} {B H : Hp} {v : V} {i : Int} (h : OV K B H v (.d (.int i))) : v = .int i := by
  rcases h with h | ⟨_, _, _, _, e, _⟩
  · cases h; rfl
  · cases e
section
variable {S : Sg}
theorem di_seq {tg e : Expr} {wa : WE} (h : DE S e wa) : DI S tg e (wIt wa) := by
  obtain ⟨t, p, s⟩ := h
  refine ⟨iSeq S.g.K t, fun c hc => pi_seq (X := S.g.cx c) (p c hc), ⟨fun Ex Ex' δ P P' hx h w => s.mono _ _ _ _ _ hx (fun r δ1 w => w.imp fun z w => h _ _ w) w, fun Ex F B H vs σ δ P R' hx h w k => ?_⟩⟩
  refine s.run _ _ _ _ _ _ _ _ _ hx h w fun B1 H1 v r δ1 s1 h1 q1 w1 => ?_
  obtain ⟨⟨ds, δ2⟩, e, w1⟩ := w1
  have frzn : (∃ p, frz δ1 r = some p ∧ itemsOf p.1 = some ds ∧ p.2 = δ2) → ((∃ a xs, v = .ref a ∧ SqL S.g.K H1 a xs ∧ R' (Itl S.g.K a) H1) ∨ (∃ a xs, v = .ref a ∧ SqT S.g.K H1 a xs ∧ R' (Itt S.g.K a) H1) ∨ ∃ y, v = .str y ∧ R' (Its y) H1) := by
    rintro ⟨⟨d, δ'⟩, e1, e2, e3⟩
    subst e3
    obtain ⟨B2, s2, h2, d2⟩ := frz_ok h1 q1 e1
    cases d2 with
    | non => cases e2
    | bl b => cases e2
    | int i => cases e2
    | str x =>
      cases e2
      exact .inr (.inr ⟨x, rfl, k B2 H1 _ _ _ (s1.trans s2) h2 it_str w1⟩)
    | lst r3 q3 =>
      cases e2
      have f : ∀ H, Same B2 H → SqL S.g.K H _ _ := fun H s => .inl (same_rd s r3)
      exact .inl ⟨_, _, rfl, f H1 h2.sb, k B2 H1 _ _ _ (s1.trans s2) h2 (it_list f q3 fun _ _ _ _ => trivial) w1⟩
    | tup r3 q3 =>
      cases e2
      have f : ∀ H, Same B2 H → SqT S.g.K H _ _ := fun H s => .inl (.inl (s _ _ r3))
      exact .inr (.inl ⟨_, _, rfl, f H1 h2.sb, k B2 H1 _ _ _ (s1.trans s2) h2 (it_tup f q3) w1⟩)
  cases r with
  | w d =>
    simp only [walked] at e
    obtain ⟨ds', e1, e⟩ := Option.bind_eq_some_iff.mp e
    split at e
    · rename_i hs
      cases e
      have q1 : Dp S.g.K (fun _ => none) v d := q1
      cases q1 with
      | non => cases e1
      | bl b => cases e1
      | int i => cases e1
      | str x => cases e1; exact .inr (.inr ⟨x, rfl, k B1 H1 _ _ _ s1 h1 it_str w1⟩)
      | lst r3 q3 =>
        cases e1
        have f : ∀ H, Same B1 H → SqL S.g.K H _ _ := fun H s => L2.Same.seq (fun _ _ z => by cases z) r3
        exact .inl ⟨_, _, rfl, f H1 h1.sb, k B1 H1 _ _ _ s1 h1 (it_list f (dp_items q3 hs B1) fun _ _ _ _ => trivial) w1⟩
      | tup r3 q3 =>
        cases e1
        have f : ∀ H, Same B1 H → SqT S.g.K H _ _ := fun H s => by
          rcases r3 with r3 | r3
          · exact .inl (same_rd (B := fun _ => none) (fun _ _ z => by cases z) r3)
          · exact .inr r3
        exact .inr (.inl ⟨_, _, rfl, f H1 h1.sb, k B1 H1 _ _ _ s1 h1 (it_tup f (dp_items q3 hs B1)) w1⟩)
    · cases e
  | d d =>
    simp only [walked] at e
    obtain ⟨p, e1, e⟩ := Option.bind_eq_some_iff.mp e
    obtain ⟨ds', e2, e⟩ := Option.map_eq_some_iff.mp e
    cases e
    exact frzn ⟨p, e1, e2, rfl⟩
  | o i =>
    simp only [walked] at e
    obtain ⟨p, e1, e⟩ := Option.bind_eq_some_iff.mp e
    obtain ⟨ds', e2, e⟩ := Option.map_eq_some_iff.mp e
    cases e
    exact frzn ⟨p, e1, e2, rfl⟩
  | n c =>
    simp only [walked] at e
    obtain ⟨p, e1, e⟩ := Option.bind_eq_some_iff.mp e
    obtain ⟨ds', e2, e⟩ := Option.map_eq_some_iff.mp e
    cases e
    exact frzn ⟨p, e1, e2, rfl⟩
theorem di_rng1 {tg a : Expr} {wr : WA} {p pos : Pos} (hg : GlS S.sc "range") (hm : S.g.mg "range" = none) (ha : DA S [a] wr) (hs : ∀ env, starEach [a] env = [(false, eval a env)] := by intro _; rfl) : DI S tg (.Call (.Name "range" p) [a] [] pos) (wRng wr rng1) := by
  obtain ⟨t, pa, s⟩ := ha
  refine ⟨_, fun c hc => pi_range1 (gl_of hc hg) hm (pa c hc) (hs _), ⟨fun Ex Ex' δ P P' hx h w => s.mono _ _ _ _ _ hx (fun r δ1 w => w.imp fun as w => w.imp fun p w => ⟨w.1, h _ _ w.2⟩) w, fun Ex F B H vs σ δ P R' hx h w k => ?_⟩⟩
  refine s.run _ _ _ _ _ _ _ _ _ hx h w fun B1 H1 ws rs δ1 s1 h1 q1 w1 => ?_
  obtain ⟨as, e1, ⟨lo, hi⟩, e2, hb, w1⟩ := w1
  have ov := views_ok h1 q1 e1
  unfold rng1 at e2
  split at e2
  · cases e2
    cases ov with
    | cons o1 o2 =>
      cases o2
      have := ov_int o1
      subst this
      refine ⟨hi, rfl, hb.2.2.1, hb.2.2.2, k B1 H1 _ _ δ1 s1 h1 it_range (by simpa using w1)⟩
  · cases e2
theorem di_rng2 {tg a b : Expr} {wr : WA} {p pos : Pos} (hg : GlS S.sc "range") (hm : S.g.mg "range" = none) (ha : DA S [a, b] wr) (hs : ∀ env, starEach [a, b] env = [(false, eval a env), (false, eval b env)] := by intro _; rfl) (hs2 : ∀ env, starEach [b] env = [(false, eval b env)] := by intro _; rfl) : DI S tg (.Call (.Name "range" p) [a, b] [] pos) (wRng wr rng2) := by
  obtain ⟨t, pa, s⟩ := ha
  refine ⟨_, fun c hc => pi_range2 (gl_of hc hg) hm (pa c hc) (hs _) (hs2 _), ⟨fun Ex Ex' δ P P' hx h w => s.mono _ _ _ _ _ hx (fun r δ1 w => w.imp fun as w => w.imp fun p w => ⟨w.1, h _ _ w.2⟩) w, fun Ex F B H vs σ δ P R' hx h w k => ?_⟩⟩
  refine s.run _ _ _ _ _ _ _ _ _ hx h w fun B1 H1 ws rs δ1 s1 h1 q1 w1 => ?_
  obtain ⟨as, e1, ⟨lo, hi⟩, e2, hb, w1⟩ := w1
  have ov := views_ok h1 q1 e1
  unfold rng2 at e2
  split at e2
  · cases e2
    cases ov with
    | cons o1 o2 =>
      cases o2 with
      | cons o2 o3 =>
        cases o3
        have z1 := ov_int o1
        have z2 := ov_int o2
        subst z1 z2
        exact ⟨lo, hi, rfl, hb, k B1 H1 _ _ δ1 s1 h1 it_range w1⟩
  · cases e2
end

/-! ### targets -/
theorem wipe_at {σ : L2.St} {j : Nat} : ∀ (js : List Nat), (wipe σ js)[j]? = if j ∈ js then (σ[j]?).map (fun _ => none) else σ[j]?
  | [] => by simp [wipe]
  | k :: js => by
    show ((wipe σ js).set k none)[j]? = _
    rw [List.getElem?_set]
    by_cases hk : k = j
    · subst hk
      rw [if_pos rfl, if_pos List.mem_cons_self, wipe_length]
      by_cases hl : k < σ.length
      · rw [if_pos hl, List.getElem?_eq_getElem hl]; rfl
      · rw [if_neg hl, List.getElem?_eq_none (by omega)]; rfl
    · rw [if_neg hk, wipe_at js]
      by_cases hj : j ∈ js
      · rw [if_pos hj, if_pos (List.mem_cons_of_mem _ hj)]
      · rw [if_neg hj, if_neg (by intro z; rcases List.mem_cons.mp z with z | z; exact hk z.symm; exact hj z)]
theorem wipe_wipe (σ : L2.St) (js : List Nat) : wipe (wipe σ js) js = wipe σ js := by
  refine List.ext_getElem? fun j => ?_
  rw [wipe_at, wipe_at]
  split
  · cases σ[j]? <;> rfl
  · rfl
theorem wipe_set {σ : L2.St} {i : Nat} {v : Option V} {js : List Nat} (h : i ∈ js) : wipe (σ.set i v) js = wipe σ js := by
  refine List.ext_getElem? fun j => ?_
  rw [wipe_at, wipe_at, List.getElem?_set]
  by_cases hj : j ∈ js
  · rw [if_pos hj, if_pos hj]
    by_cases hi : i = j
    · subst hi
      rw [if_pos rfl]
      by_cases hl : i < σ.length
      · rw [if_pos hl, List.getElem?_eq_getElem hl]; rfl
      · rw [if_neg hl, List.getElem?_eq_none (by omega)]
    · rw [if_neg hi]
  · rw [if_neg hj, if_neg hj, if_neg (fun z : i = j => hj (by rw [← z]; exact h))]
/-- σ' is σ but for the slots ts -/
def ButFor (ts : List Nat) (σ σ' : L2.St) : Prop := σ'.length = σ.length ∧ ∀ js : List Nat, (∀ i ∈ ts, i ∈ js) → wipe σ' js = wipe σ js
abbrev WG := PyData → SEnv → Option SEnv
structure GSim (K : PySem.W.Frag) (g : TG) (G : WG) (ts : List Nat) : Prop where
  run : ∀ (F B H : Hp) (vs : List V) (σ : L2.St) (δ δ' : SEnv) (v : V) (d : PyData) (Q : L2.St → Hp → Prop), Rep K F B H vs σ δ → DD B v d → G d δ = some δ' → (∀ σ', Rep K F B H vs σ' δ' → ButFor ts σ σ' → Q σ' H) → g v σ H Q
def DG (S : Sg) (tg : Expr) (G : WG) (ts : List Nat) : Prop := ∃ t, (∀ c, S.ok c → PG (S.g.cx c) tg t) ∧ GSim S.g.K t G ts
abbrev WGs := List PyData → SEnv → Option SEnv
structure GsSim (K : PySem.W.Frag) (g : TGs) (G : WGs) (ts : List Nat) : Prop where
  run : ∀ (F B H : Hp) (vs : List V) (σ : L2.St) (δ δ' : SEnv) (ws : List V) (ds : List PyData) (Q : L2.St → Hp → Prop), Rep K F B H vs σ δ → DDs B ws ds → G ds δ = some δ' → (∀ σ', Rep K F B H vs σ' δ' → ButFor ts σ σ' → Q σ' H) → g ws σ H Q
def DGs (S : Sg) (tgs : List Expr) (G : WGs) (ts : List Nat) : Prop := ∃ t, (∀ c, S.ok c → PGs (S.g.cx c) tgs t) ∧ GsSim S.g.K t G ts
def gN (i : Nat) : WG := fun d δ => some (δ.set i (some (.d d)))
def gsN : WGs := fun ds δ => match ds with
  | [] => some δ
  | _ => none
def gsC (G : WG) (Gs : WGs) : WGs := fun ds δ => match ds with
  | d :: ds => (G d δ).bind (Gs ds)
  | _ => none
def gT (n : Nat) (Gs : WGs) : WG := fun d δ => match d with
  | .tuple ds => if ds.length = n then Gs ds δ else none
  | _ => none
section
variable {S : Sg}
theorem dg_name {i : Nat} {x : Str} {pos : Pos} (hi : S.N[i]? = some x) (hx : Loc S.sc x) (ht : S.top = true ∨ S.sc.names.lookup x = some .local := by first | exact .inl rfl | exact .inr rfl) : DG S (.Name x pos) (gN i) [i] := by
  refine ⟨gName i, fun c hc => pg_name (X := S.g.cx c) (by show c.N.Nodup; rw [hc.hN]; exact hc.nd) (by show c.N[i]? = _; rw [hc.hN]; exact hi) (by show Loc c.env.scope x; rw [hc.hs]; exact hx) (fn_ok hc ht), ⟨fun F B H vs σ δ δ' v d Q h q e k => ?_⟩⟩
  cases e
  exact k _ (h.store i v (.d d) q (fun _ z => nomatch z) (fun a _ ⟨c, z⟩ => nomatch z)) ⟨List.length_set, fun js hj => wipe_set (hj i List.mem_cons_self)⟩
theorem dgs_nil : DGs S [] gsN [] := ⟨gNil, fun _ _ => pgs_nil, ⟨fun F B H vs σ δ δ' ws ds Q h q e k => by
  cases q with
  | nil => cases e; exact ⟨rfl, k σ h ⟨rfl, fun _ _ => rfl⟩⟩
  | cons _ _ => cases e⟩⟩
theorem dgs_cons {e : Expr} {es : List Expr} {G : WG} {Gs : WGs} {ts us : List Nat} (h1 : DG S e G ts) (h2 : DGs S es Gs us) (hs : ∀ env, (assignEach (e :: es) env).map (·.2) = assign e env :: (assignEach es env).map (·.2) := by intro _; rfl) : DGs S (e :: es) (gsC G Gs) (ts ++ us) := by
  obtain ⟨t, p, s⟩ := h1
  obtain ⟨t2, p2, s2⟩ := h2
  refine ⟨_, fun c hc => pgs_cons (p c hc) (p2 c hc) (hs _), ⟨fun F B H vs σ δ δ' ws ds Q h q e k => ?_⟩⟩
  cases q with
  | nil => cases e
  | cons q1 q2 =>
    obtain ⟨δ1, e1, e⟩ := Option.bind_eq_some_iff.mp e
    refine ⟨_, _, rfl, s.run F B H vs σ δ δ1 _ _ _ h q1 e1 fun σ1 h1 b1 => ?_⟩
    refine s2.run F B H vs σ1 δ1 δ' _ _ _ h1 q2 e fun σ2 h2 b2 => k σ2 h2 ⟨b2.1.trans b1.1, fun js hj => ?_⟩
    rw [b2.2 js fun i hi => hj i (List.mem_append_right _ hi), b1.2 js fun i hi => hj i (List.mem_append_left _ hi)]
theorem dg_tup {es : List Expr} {k n : Nat} {Gs : WGs} {pos : Pos} {ts : List Nat} (h : DGs S es Gs ts) (hn : ∀ env, (assignEach es env).length = n := by intro _; rfl) (hst : ∀ env, (assignEach es env).findIdx? (·.1) = none := by intro _; rfl) : DG S (.Tuple es k pos) (gT n Gs) ts := by
  obtain ⟨t, p, s⟩ := h
  refine ⟨gTup S.g.K n t, fun c hc => pg_tup (X := S.g.cx c) hc.calm (p c hc) (hn _) (hst _), ⟨fun F B H vs σ δ δ' v d Q h q e k => ?_⟩⟩
  cases q with
  | tup r q =>
    simp only [gT] at e
    split at e
    · rename_i hl
      exact ⟨_, _, rfl, .inl (.inl (h.sb _ _ r)), by rw [q.length]; exact hl, s.run F B H vs σ δ δ' _ _ _ h q e k⟩
    · cases e
  | _ => cases e
end
end DL
set_option Elab.async false
set_option linter.all false
set_option maxRecDepth 100000
set_option maxHeartbeats 4000000
set_option autoImplicit false
namespace DL
open PySem PySem.Spec PyProof.Rows L2

/-! ### for -/
def wForR (G : WG) (body : WS) : List PyData → WS
  | [], d, δ => d.nx δ
  | x :: xs, d, δ => ob (G x δ) fun δ1 => body { nx := wForR G body xs d, rt := d.rt, bk := d.nx, ct := wForR G body xs d, ex := d.ex } δ1
def wFor (wi : WI) (G : WG) (body : WS) : WS := fun d δ => wi d.ex δ fun ds δ1 => wForR G body ds d δ1
section
variable {S : Sg}
theorem wForR_mono {G : WG} {body : WS} (hb : ∀ (d d' : DEnds) (δ : SEnv), d.le d' → body d δ → body d' δ) : ∀ (xs : List PyData) (d d' : DEnds) (δ : SEnv), d.le d' → wForR G body xs d δ → wForR G body xs d' δ
  | [], d, d', δ, h, w => h.nx _ w
  | x :: xs, d, d', δ, h, w => w.imp fun δ1 w => hb { nx := wForR G body xs d, rt := d.rt, bk := d.nx, ct := wForR G body xs d, ex := d.ex } { nx := wForR G body xs d', rt := d'.rt, bk := d'.nx, ct := wForR G body xs d', ex := d'.ex } δ1
      ⟨fun δ w => wForR_mono hb xs d d' δ h w, h.rt, h.nx, fun δ w => wForR_mono hb xs d d' δ h w, h.ex⟩ w
theorem ds_for {tg iter : Expr} {body : List Stmt} {wi : WI} {G : WG} {wb : WS} {pos : Pos} {ts : List Nat} (hi : DI S tg iter wi) (hg : DG S tg G ts) (hb : DSs S body wb) (hf : ∀ env x, foldedSetIterable iter env x = pure x := by intro _ _; rfl) : DS S (.For tg iter body [] pos) (wFor wi G wb) := by
  obtain ⟨ti, pi, si⟩ := hi
  obtain ⟨tg', pg, sg⟩ := hg
  obtain ⟨tb, pb, sb⟩ := hb
  refine ⟨tFor ti tg' tb, fun c hc => ps_for hc.po hc.calm (pi c hc) (pg c hc) (pb c hc) (hf _), ⟨fun d d' δ h w => ?_, fun F B H vs σ δ D d hx h k w => ?_⟩⟩
  · exact si.mono _ _ _ _ _ h.ex (fun ds δ1 w => wForR_mono sb.mono ds d d' δ1 h w) w
  · refine si.run _ _ _ _ _ _ _ _ _ hx h w fun B1 H1 J ds δ1 s1 h1 q1 w1 => ?_
    refine ⟨fun i m σ H => m = ds.length - i ∧ i ≤ ds.length ∧ ∃ B' δ', Same B1 B' ∧ Rep S.g.K F B' H vs σ δ' ∧ wForR G wb (ds.drop i) d δ', ⟨ds.length, by simp, Nat.zero_le _, B1, δ1, Same.refl _, h1, w1⟩, ?_⟩
    rintro i m σ2 H2 ⟨rfl, hi, B2, δ2, s2, h2, w2⟩
    by_cases hlt : i < ds.length
    · refine .inr ⟨q1.go i H2 (s2.trans h2.sb) hlt, fun σ' H' => ∃ B' δ', Same B1 B' ∧ Rep S.g.K F B' H' vs σ' δ' ∧ wForR G wb (ds.drop (i + 1)) d δ', fun σ' H' ⟨B', δ', t1, t2, t3⟩ => ⟨ds.length - (i + 1), by omega, rfl, hlt, B', δ', t1, t2, t3⟩, fun x H' y => ?_⟩
      have ed : ds.drop i = ds[i] :: ds.drop (i + 1) := List.drop_eq_getElem_cons hlt
      rw [ed] at w2
      obtain ⟨δ3, e3, w3⟩ := w2
      have fin : ∀ (B3 H3 : Hp) (x : V), Same B2 B3 → Rep S.g.K F B3 H3 vs σ2 δ2 → DD B3 x ds[i] → tg' x σ2 H3 fun σ2' H2' => tb { D with nx := fun σ' H' => ∃ B' δ', Same B1 B' ∧ Rep S.g.K F B' H' vs σ' δ' ∧ wForR G wb (ds.drop (i + 1)) d δ', ct := fun σ' H' => ∃ B' δ', Same B1 B' ∧ Rep S.g.K F B' H' vs σ' δ' ∧ wForR G wb (ds.drop (i + 1)) d δ', bk := D.nx } σ2' H2' := by
        intro B3 H3 x s3 h3 q3
        refine sg.run F B3 H3 vs σ2 δ2 δ3 x _ _ h3 q3 e3 fun σ3 h4 _ => ?_
        have s4 : Same B B3 := s1.trans (s2.trans s3)
        refine sb.run F B3 H3 vs σ3 δ3 _ { nx := wForR G wb (ds.drop (i + 1)) d, rt := d.rt, bk := d.nx, ct := wForR G wb (ds.drop (i + 1)) d, ex := d.ex } (hx.up s4) h4 ⟨fun B' σ' H' δ' t1 t2 t3 => ⟨B', δ', (s2.trans s3).trans t1, t2, t3⟩, (k.up s4).rt, (k.up s4).nx, fun B' σ' H' δ' t1 t2 t3 => ⟨B', δ', (s2.trans s3).trans t1, t2, t3⟩⟩ w3
      rcases q1.yld i H2 x H' ds[i] (s2.trans h2.sb) y (by simp [hlt]) with ⟨e, q⟩ | ⟨p, xs, dd, e1, e2, e4, e5, q⟩
      · subst e
        exact fin B2 H' x (Same.refl _) h2 (q.mono s2)
      · subst e1 e4
        refine fin _ _ _ (same_new (nof h2.sb e2) _) (h2.new e2 _) ?_
        rw [e5]
        exact DD.tup upd_same (q.mono (s2.trans (same_new (nof h2.sb e2) _)))
    · have e : i = ds.length := by omega
      subst e
      rw [List.drop_length] at w2
      exact .inl ⟨q1.stop _ H2 (s2.trans h2.sb) (Nat.le_refl _), k.nx B2 σ2 H2 δ2 (s1.trans s2) h2 w2⟩
end

/-! ### [.. for .. in .. if ..] -/
def forgetAll : SEnv → List Nat → SEnv
  | δ, [] => δ
  | δ, i :: is => (forgetAll δ is).set i none
/-- behind the block: its own names as they were, where they were data -/
def restore (δ0 : SEnv) : SEnv → List Nat → SEnv
  | δ, [] => δ
  | δ, i :: is => match δ0[i]? with
    | some (some (.d d)) => (restore δ0 δ is).set i (some (.d d))
    | _ => (restore δ0 δ is).set i none
abbrev Ex0 : XP := fun _ => False
def wLcR (G : WG) (wt : WT) (we : WE) (own : List Nat) : List PyData → List PyData → SEnv → (List PyData → SEnv → Prop) → Prop
  | [], acc, δ, P => P acc δ
  | x :: xs, acc, δ, P => ob (G x (forgetAll δ own)) fun δ1 => wt Ex0 δ1 fun b δ2 => if b = true then we Ex0 δ2 fun r δ3 => ob (frz δ3 r) fun p => acc.length < sizeLine ∧ wLcR G wt we own xs (acc ++ [p.1]) p.2 P else wLcR G wt we own xs acc δ2 P
def wLc (wi : WI) (G : WG) (wt : WT) (we : WE) (own : List Nat) : WE := fun Ex δ P => wi Ex δ fun ds δ1 => wLcR G wt we own ds [] δ1 fun acc δ2 => P (.n (.l acc)) (restore δ1 (forgetAll δ2 own) own)
def wYes : WT := fun _ δ P => P true δ
section
variable {K : PySem.W.Frag} {F B H : Hp} {vs : List V} {σ : L2.St} {δ : SEnv}
/-- slots may be unknown -/
theorem Rep.dim (h : Rep K F B H vs σ δ) {σ' : L2.St} {δ' : SEnv} (hl : σ'.length = δ'.length) (hs : ∀ (i : Nat) (s : Sl), δ'[i]? = some (some s) → δ[i]? = some (some s) ∧ σ'[i]? = σ[i]?) : Rep K F B H vs σ' δ' := by
  refine ⟨h.sb, h.sf, h.dj, hl, fun i s e => ?_, fun i j a b c b' c' e1 e2 e3 e4 => ?_, fun i c e => ?_⟩
  · obtain ⟨e1, e2⟩ := hs i s e
    rw [e2]; exact h.ok i s e1
  · obtain ⟨f1, f2⟩ := hs i _ e1
    obtain ⟨g1, g2⟩ := hs j _ e2
    rw [f2] at e3; rw [g2] at e4
    exact h.apart i j a b c b' c' f1 g1 e3 e4
  · obtain ⟨e1, e2⟩ := hs i _ e
    rw [e2]; exact h.bor i c e1
theorem forgetAll_length (δ : SEnv) : ∀ is : List Nat, (forgetAll δ is).length = δ.length
  | [] => rfl
  | i :: is => by unfold forgetAll; rw [List.length_set, forgetAll_length δ is]
theorem forgetAll_get {δ : SEnv} {j : Nat} {s : Sl} : ∀ {is : List Nat}, (forgetAll δ is)[j]? = some (some s) → δ[j]? = some (some s) ∧ j ∉ is
  | [], e => ⟨e, by simp⟩
  | i :: is, e => by
    rcases set_get e with ⟨_, z⟩ | ⟨n, z⟩
    · cases z
    · obtain ⟨e1, e2⟩ := forgetAll_get (is := is) z
      exact ⟨e1, by intro hm; rcases List.mem_cons.mp hm with hm | hm; exact n hm; exact e2 hm⟩
theorem forgetAll_at {δ : SEnv} {j : Nat} : ∀ (js : List Nat), (forgetAll δ js)[j]? = if j ∈ js then (δ[j]?).map (fun _ => none) else δ[j]?
  | [] => by simp [forgetAll]
  | k :: js => by
    show ((forgetAll δ js).set k none)[j]? = _
    rw [List.getElem?_set]
    by_cases hk : k = j
    · subst hk
      rw [if_pos rfl, if_pos List.mem_cons_self, forgetAll_length]
      by_cases hl : k < δ.length
      · rw [if_pos hl, List.getElem?_eq_getElem hl]; rfl
      · rw [if_neg hl, List.getElem?_eq_none (by omega)]; rfl
    · rw [if_neg hk, forgetAll_at js]
      by_cases hj : j ∈ js
      · rw [if_pos hj, if_pos (List.mem_cons_of_mem _ hj)]
      · rw [if_neg hj, if_neg (by intro z; rcases List.mem_cons.mp z with z | z; exact hk z.symm; exact hj z)]
theorem forgetAll_twice (δ : SEnv) (js : List Nat) : forgetAll (forgetAll δ js) js = forgetAll δ js := by
  refine List.ext_getElem? fun j => ?_
  rw [forgetAll_at, forgetAll_at]
  split
  · cases δ[j]? <;> rfl
  · rfl
theorem wipe_get {j : Nat} : ∀ {is : List Nat}, j ∉ is → (wipe σ is)[j]? = σ[j]?
  | [], _ => rfl
  | i :: is, h => by
    unfold wipe
    rw [List.getElem?_set_ne (fun z => h (by rw [z]; exact List.mem_cons_self))]
    exact wipe_get fun z => h (List.mem_cons_of_mem _ z)
theorem Rep.wiped (h : Rep K F B H vs σ δ) (is : List Nat) : Rep K F B H vs (wipe σ is) (forgetAll δ is) :=
  h.dim (by rw [wipe_length, forgetAll_length]; exact h.len) fun i s e => by
    obtain ⟨e1, e2⟩ := forgetAll_get e
    exact ⟨e1, wipe_get e2⟩
theorem Rep.unwiped {σ2 : L2.St} {is : List Nat} (h : Rep K F B H vs σ2 δ) (hw : wipe σ2 is = wipe σ is) (hl : σ2.length = σ.length) : Rep K F B H vs σ (forgetAll δ is) :=
  h.dim (by rw [forgetAll_length, ← h.len, hl]) fun i s e => by
    obtain ⟨e1, e2⟩ := forgetAll_get e
    refine ⟨e1, ?_⟩
    rw [← wipe_get (σ := σ) e2, ← hw, wipe_get e2]
theorem Rep.restored {B0 : Hp} {H0 : Hp} {δ0 : SEnv} (h0 : Rep K F B0 H0 vs σ δ0) (s : Same B0 B) : ∀ {is : List Nat}, Rep K F B H vs σ δ → Rep K F B H vs σ (restore δ0 δ is)
  | [], h => h
  | i :: is, h => by
    have h' := Rep.restored h0 s (is := is) h
    unfold restore
    split
    · rename_i d e
      obtain ⟨v, e1, q⟩ := h0.ok i _ e
      exact h'.know e1 (DD.mono s q)
    · exact h'.forget i
/-- the list under way belongs to the frame -/
theorem Rep.lay (h : Rep K F B H vs σ δ) {D : Addr} (hD : H D = none) (o : HO) : Rep K (upd F D o) B (upd H D o) vs σ δ := by
  have h1 := h.newO hD o
  refine ⟨h1.sb, fun a u e => ?_, fun a u e => ?_, h1.len, fun i s e => ?_, h1.apart, h1.bor⟩
  · by_cases ha : a = D
    · subst ha; rw [upd_same] at e ⊢; exact e
    · rw [upd_ne ha] at e; exact h1.sf a u e
  · by_cases ha : a = D
    · subst ha; exact nof h.sb hD
    · rw [upd_ne ha] at e; exact h1.dj a u e
  · obtain ⟨v, e1, q⟩ := h1.ok i s e
    refine ⟨v, e1, ?_⟩
    cases s with
    | d d => exact q
    | w d => exact q
    | o b c =>
      obtain ⟨a, e2, e3, e4, q2⟩ := q
      obtain ⟨v', e1', a', e2', _, _, q2'⟩ := h.ok i _ e
      rw [e1] at e1'; cases e1'
      subst e2; cases e2'
      obtain ⟨u, hu⟩ := q2'.there
      exact ⟨a, rfl, e3, by rw [upd_ne (ne_of_none hu hD)]; exact e4, q2⟩
theorem Rep.relay {D : Addr} {o o' : HO} (h : Rep K (upd F D o) B H vs σ δ) : Rep K (upd F D o') B (upd H D o') vs σ δ := by
  have hB : B D = none := h.dj D o upd_same
  refine ⟨fun a u e => ?_, fun a u e => ?_, fun a u e => ?_, h.len, fun i s e => ?_, h.apart, h.bor⟩
  · rw [upd_ne (ne_of_none e hB)]; exact h.sb a u e
  · by_cases ha : a = D
    · subst ha; rw [upd_same] at e ⊢; exact e
    · rw [upd_ne ha] at e ⊢; exact h.sf a u (by rw [upd_ne ha]; exact e)
  · by_cases ha : a = D
    · subst ha; exact hB
    · rw [upd_ne ha] at e; exact h.dj a u (by rw [upd_ne ha]; exact e)
  · obtain ⟨v, e1, q⟩ := h.ok i s e
    refine ⟨v, e1, ?_⟩
    cases s with
    | d d => exact q
    | w d => exact q
    | o b c =>
      obtain ⟨a, e2, e3, e4, q2⟩ := q
      have ha : a ≠ D := fun z => by subst z; rw [upd_same] at e4; cases e4
      rw [upd_ne ha] at e4
      exact ⟨a, e2, e3, by rw [upd_ne ha]; exact e4, q2.mono (Same.refl _) (upd_ne ha)⟩
theorem Rep.unlay {D : Addr} {o : HO} (h : Rep K (upd F D o) B H vs σ δ) (hF : F D = none) : Rep K F B H vs σ δ := by
  refine ⟨h.sb, fun a u e => h.sf a u (by rw [upd_ne (ne_of_none e hF)]; exact e), fun a u e => h.dj a u (by rw [upd_ne (ne_of_none e hF)]; exact e), h.len, fun i s e => ?_, h.apart, h.bor⟩
  obtain ⟨v, e1, q⟩ := h.ok i s e
  refine ⟨v, e1, ?_⟩
  cases s with
  | d d => exact q
  | w d => exact q
  | o b c =>
    obtain ⟨a, e2, e3, e4, q2⟩ := q
    have ha : a ≠ D := fun z => by subst z; rw [upd_same] at e4; cases e4
    rw [upd_ne ha] at e4
    exact ⟨a, e2, e3, e4, q2⟩
end
/-- the block's own contexts -/
def Sg.blk (S : Sg) (scope : Scope) : Sg := ⟨S.g, S.CX, S.N, relS scope S.sc, S.k, fun _ _ _ => False, false⟩
def CXok (CX : CXT) : Prop := ∀ (outer : List Env) (H : Hp) (s : Shared) (e : Value) (s' : Shared), CX outer H s (fun _ _ _ => False) e s' → False
theorem cx0_ok : CXok CX0 := fun _ _ _ _ _ h => h
def DTs (S : Sg) (ifs : List Expr) (W : WT) : Prop := ∃ t, (∀ c, S.ok c → PTs (S.g.cx c) ifs t) ∧ TSim S.g.K S.E t W
theorem dts_nil {S : Sg} : DTs S [] wYes := ⟨tYes, fun _ _ => pts_nil, ⟨fun _ _ _ _ _ _ h w => h _ _ w, fun Ex F B H vs σ δ P Q hx h w k => k B H true δ (Same.refl _) h w⟩⟩
theorem dts_one {S : Sg} {c : Expr} {w : WT} (h : DT S c w) : DTs S [c] w := by
  obtain ⟨t, p, s⟩ := h
  exact ⟨t, fun c hc => pts_one (p c hc), s⟩
section
variable {S : Sg}
theorem blk_ok {scope : Scope} (hCX : CXok S.CX) {c : Cl} (hc : S.ok c) (s : Shared) (H : Hp) (C : Addr) (cl : List (Str × Addr)) (fp : List Addr) :
    (S.blk scope).ok ⟨c.A, c.N, s, H, compEnvC scope cl C c.env, c.stack, c.stack, fp, fun x => scope.names.lookup x == some .cell, c.calm, [], fun _ _ => False⟩ :=
  ⟨hc.hN, hc.nd, by show relS scope c.env.scope = relS scope S.sc; rw [hc.hs], hc.calm, hc.room, fun _ _ _ _ _ _ _ h => hCX _ _ _ _ _ h, PassesOwn.never, (fun z => by cases z), hc.gd⟩
/-- the block of a comprehension, with its list at D -/
theorem lc_run {K : PySem.W.Frag} {tg' : TG} {tt : TT} {te : TE} {G : WG} {wt : WT} {we : WE} {own ts : List Nat} {F B1 H1 : Hp} {vs : List V} {σ : L2.St} {δ1 : SEnv} {J : It} {ds : List PyData} {E0' : XK} (sg : GSim K tg' G ts) (hts : ∀ i ∈ ts, i ∈ own) (st : TSim K E0' tt wt) (se : ESim K E0' te we)
    (h1 : Rep K F B1 H1 vs σ δ1) (q1 : ItOk B1 J ds) {D : Addr} (hD : H1 D = none) {P : List PyData → SEnv → Prop} (w1 : wLcR G wt we own ds [] δ1 P) {Qd : Hp → Prop}
    (k : ∀ B' H' acc xs δ', Same B1 B' → Rep K (upd F D (.lst xs)) B' H' vs σ (forgetAll δ' own) → DDs B' xs acc → P acc δ' → Qd H') :
    ∃ W : Nat → Nat → Hp → Prop, (∃ m, W 0 m (upd H1 D (.lst []))) ∧ ∀ i m H, W i m H →
      (J.stop i H ∧ Qd H) ∨ (J.go i H ∧ ∃ Nx : Hp → Prop, (∀ H', Nx H' → ∃ m', m' < m ∧ W (i + 1) m' H') ∧ ∀ x H', J.yld i H x H' → tg' x (wipe σ own) H' fun σ2 H2 => wipe σ2 own = wipe σ own ∧ tt σ2 H2 fun b H3 =>
        if b = true then te σ2 H3 fun y H4 => ∃ acc, H4 D = some (.lst acc) ∧ acc.length < sizeLine ∧ Nx (upd H4 D (.lst (acc ++ [y]))) else Nx H3) := by
  have hF : F D = none := nof h1.sf hD
  refine ⟨fun i m H => m = ds.length - i ∧ i ≤ ds.length ∧ ∃ B' δ' acc xs, Same B1 B' ∧ Rep K (upd F D (.lst xs)) B' H vs σ (forgetAll δ' own) ∧ DDs B' xs acc ∧ wLcR G wt we own (ds.drop i) acc δ' P, ⟨ds.length, by simp, Nat.zero_le _, B1, δ1, [], [], Same.refl _, ?_, .nil, w1⟩, ?_⟩
  · exact (h1.lay hD _).dim (by rw [forgetAll_length]; exact h1.len) fun i s e => ⟨(forgetAll_get e).1, rfl⟩
  rintro i m H2 ⟨rfl, hi, B2, δ2, acc, xs, s2, h2, qa, w2⟩
  by_cases hlt : i < ds.length
  · refine .inr ⟨q1.go i H2 (s2.trans h2.sb) hlt, fun H' => ∃ B' δ' acc xs, Same B1 B' ∧ Rep K (upd F D (.lst xs)) B' H' vs σ (forgetAll δ' own) ∧ DDs B' xs acc ∧ wLcR G wt we own (ds.drop (i + 1)) acc δ' P, fun H' ⟨B', δ', a', x', t1, t2, t3, t4⟩ => ⟨ds.length - (i + 1), by omega, rfl, hlt, B', δ', a', x', t1, t2, t3, t4⟩, fun x H' y => ?_⟩
    have ed : ds.drop i = ds[i] :: ds.drop (i + 1) := List.drop_eq_getElem_cons hlt
    rw [ed] at w2
    obtain ⟨δ3, e3, w3⟩ := w2
    have hw : Rep K (upd F D (.lst xs)) B2 H2 vs (wipe σ own) (forgetAll δ2 own) := by
      have := h2.wiped own
      rw [forgetAll_twice] at this; exact this
    -- behind an element or a test the slots of the def are as they were
    have away : ∀ {B5 H5 : Hp} {σ2 : L2.St} {δ5 : SEnv} {xs' : List V}, ButFor ts (wipe σ own) σ2 → Rep K (upd F D (.lst xs')) B5 H5 vs σ2 δ5 → Rep K (upd F D (.lst xs')) B5 H5 vs σ (forgetAll δ5 own) := by
      intro B5 H5 σ2 δ5 xs' b h5
      refine h5.unwiped ?_ (by rw [b.1, wipe_length])
      rw [b.2 own hts, wipe_wipe]
    have fin : ∀ (B3 H3 : Hp) (x : V), Same B2 B3 → Rep K (upd F D (.lst xs)) B3 H3 vs (wipe σ own) (forgetAll δ2 own) → DD B3 x ds[i] → tg' x (wipe σ own) H3 fun σ2 H2' => wipe σ2 own = wipe σ own ∧ tt σ2 H2' fun b H3' =>
        if b = true then te σ2 H3' fun y H4 => ∃ acc, H4 D = some (.lst acc) ∧ acc.length < sizeLine ∧ (∃ B' δ' acc' xs', Same B1 B' ∧ Rep K (upd F D (.lst xs')) B' (upd H4 D (.lst (acc ++ [y]))) vs σ (forgetAll δ' own) ∧ DDs B' xs' acc' ∧ wLcR G wt we own (ds.drop (i + 1)) acc' δ' P)
        else ∃ B' δ' acc' xs', Same B1 B' ∧ Rep K (upd F D (.lst xs')) B' H3' vs σ (forgetAll δ' own) ∧ DDs B' xs' acc' ∧ wLcR G wt we own (ds.drop (i + 1)) acc' δ' P := by
      intro B3 H3 x s3 h3 q3
      refine sg.run _ B3 H3 vs (wipe σ own) _ δ3 x _ _ h3 q3 e3 fun σ2 h4 b2 => ⟨by rw [b2.2 own hts, wipe_wipe], ?_⟩
      refine st.run Ex0 _ B3 H3 vs σ2 δ3 _ _ (fun _ _ _ _ _ _ _ _ _ _ _ _ z => z.elim) h4 w3 fun B4 H4 b δ4 s4 h5 w4 => ?_
      cases b with
      | false => exact ⟨B4, δ4, acc, xs, s2.trans (s3.trans s4), away b2 h5, qa.mono (s3.trans s4), w4⟩
      | true =>
        refine se.run Ex0 _ B4 H4 vs σ2 δ4 _ _ (fun _ _ _ _ _ _ _ _ _ _ _ _ z => z.elim) h5 w4 fun B5 H5 v r δ5 s5 h6 q6 w5 => ?_
        obtain ⟨⟨d, δ6⟩, e6, hl, w6⟩ := w5
        obtain ⟨B6, s6, h7, d7⟩ := frz_ok h6 q6 e6
        refine ⟨xs, h7.sf D _ upd_same, by rw [qa.length]; exact hl, B6, δ6, acc ++ [d], xs ++ [v], s2.trans (s3.trans (s4.trans (s5.trans s6))), ?_, ((qa.mono (s3.trans (s4.trans (s5.trans s6)))).snoc d7), w6⟩
        have := (away b2 h7).relay (o' := .lst (xs ++ [v]))
        exact this
    rcases q1.yld i H2 x H' ds[i] (s2.trans h2.sb) y (by simp [hlt]) with ⟨e, q⟩ | ⟨p, ys, dd, e1, e2, e4, e5, q⟩
    · subst e
      exact fin B2 H' x (Same.refl _) hw (q.mono s2)
    · subst e1 e4
      refine fin _ _ _ (same_new (nof h2.sb e2) _) (hw.new e2 _) ?_
      rw [e5]
      exact DD.tup upd_same (q.mono (s2.trans (same_new (nof h2.sb e2) _)))
  · have e : i = ds.length := by omega
    subst e
    rw [List.drop_length] at w2
    exact .inl ⟨q1.stop _ H2 (s2.trans h2.sb) (Nat.le_refl _), k B2 H2 acc xs δ2 s2 h2 qa w2⟩
theorem wLcR_mono {K : PySem.W.Frag} {G : WG} {wt : WT} {we : WE} {own : List Nat} {tt : TT} {te : TE} {E0' : XK} (st : TSim K E0' tt wt) (se : ESim K E0' te we) : ∀ (xs acc : List PyData) (δ : SEnv) (P P' : List PyData → SEnv → Prop), (∀ a δ, P a δ → P' a δ) → wLcR G wt we own xs acc δ P → wLcR G wt we own xs acc δ P'
  | [], acc, δ, P, P', h, w => h _ _ w
  | x :: xs, acc, δ, P, P', h, w => w.imp fun δ1 w => by
    refine st.mono _ _ _ _ _ (fun _ z => z) (fun b δ2 w => ?_) w
    cases b with
    | false => exact wLcR_mono st se xs acc δ2 P P' h w
    | true =>
      refine se.mono _ _ _ _ _ (fun _ z => z) (fun r δ3 w => w.imp fun p w => ⟨w.1, ?_⟩) w
      exact wLcR_mono st se xs _ _ P P' h w.2
theorem sim_lc {K : PySem.W.Frag} {E E0' : XK} {ti : TI} {tg' : TG} {tt : TT} {te : TE} {wi : WI} {G : WG} {wt : WT} {we : WE} {own ts : List Nat} (si : ISim K E ti wi) (sg : GSim K tg' G ts) (hts : ∀ i ∈ ts, i ∈ own) (st : TSim K E0' tt wt) (se : ESim K E0' te we) : ESim K E (tLc ti tg' tt te own) (wLc wi G wt we own) := by
  refine ⟨fun Ex Ex' δ P P' hx h w => ?_, fun Ex F B H vs σ δ P Q hx h w k => ?_⟩
  · exact si.mono _ _ _ _ _ hx (fun ds δ1 w => wLcR_mono st se ds [] δ1 _ _ (fun acc δ2 w => h _ _ w) w) w
  · refine si.run _ _ _ _ _ _ _ _ _ hx h w fun B1 H1 J ds δ1 s1 h1 q1 w1 => ?_
    intro D hD
    refine lc_run sg hts st se h1 q1 hD w1 fun B' H' acc xs δ' s2 h2 qa w2 => ?_
    have hF : F D = none := nof h1.sf hD
    have h3 : Rep K F B' H' vs σ (restore δ1 (forgetAll δ' own) own) := Rep.restored h1 s2 (h2.unlay hF)
    refine k B' H' (.ref D) (.n (.l acc)) _ (s1.trans s2) h3 ⟨D, rfl, h2.dj D _ upd_same, hF, ⟨xs, h2.sf D _ upd_same, qa⟩, fun i b c' e1 e2 => ?_⟩ w2
    -- a restored slot holds data, the others stand apart from the frame
    have own_of : ∀ (is : List Nat) (i : Nat) (b : Bool) (c : Cont), (restore δ1 (forgetAll δ' own) is)[i]? = some (some (.o b c)) → (forgetAll δ' own)[i]? = some (some (.o b c)) := by
      intro is
      induction is with
      | nil => intro i b c e; exact e
      | cons j is ih =>
        intro i b c e
        unfold restore at e
        split at e
        · rcases set_get e with ⟨_, z⟩ | ⟨_, z⟩
          · cases z
          · exact ih i b c z
        · rcases set_get e with ⟨_, z⟩ | ⟨_, z⟩
          · cases z
          · exact ih i b c z
    obtain ⟨v, e3, a, e4, _, hFa, _⟩ := h2.ok i _ (own_of own i b c' e1)
    rw [e2] at e3; cases e3; cases e4
    rw [upd_same] at hFa; cases hFa
theorem de_lc {elt tg iter : Expr} {ifs : List Expr} {scope : Scope} {own : List (Str × Nat)} {pos : Pos} {wi : WI} {G : WG} {wt : WT} {we : WE} {ts : List Nat} (hCX : CXok S.CX) (hi : DI S tg iter wi) (hblk : blkC S.N S.sc scope own = true) (hg : DG (S.blk scope) tg G ts) (hts : ts.all (fun i => (own.map (·.2)).contains i) = true)
    (ht : DTs (S.blk scope) ifs wt) (he : DE (S.blk scope) elt we) (hs : ∀ env x, foldedSetIterable iter env x = pure x := by intro _ _; rfl) : DE S (.ListComp elt [⟨tg, iter, ifs, 0⟩] scope pos) (wLc wi G wt we (own.map (·.2))) := by
  obtain ⟨ti, pi, si⟩ := hi
  obtain ⟨tg', pg, sg⟩ := hg
  obtain ⟨tt, pt, st⟩ := ht
  obtain ⟨te, pe, se⟩ := he
  have hts' : ∀ i ∈ ts, i ∈ own.map (·.2) := fun i hi => by
    have := List.all_eq_true.mp hts i hi
    simpa using this
  refine ⟨tLc ti tg' tt te (own.map (·.2)), fun c hc => ?_, sim_lc si sg hts' st se⟩
  refine pe_lc (X := S.g.cx c) hc.calm (by show c.N.Nodup; rw [hc.hN]; exact hc.nd) (pi c hc) (by show BlkOk c.N c.env.scope scope own; rw [hc.hN, hc.hs]; exact blkOk_by hblk) (fun s H C cl fp => ?_) (fun s H C cl fp => ?_) (fun s H C cl fp => ?_) (hs _)
  · exact pg _ (blk_ok hCX hc s H C cl fp)
  · exact pt _ (blk_ok hCX hc s H C cl fp)
  · exact pe _ (blk_ok hCX hc s H C cl fp)
end
end DL
set_option Elab.async false
set_option linter.all false
set_option maxRecDepth 100000
set_option maxHeartbeats 4000000
set_option autoImplicit false
namespace DL
open PySem PySem.Spec PyProof.Rows L2

/-! ### the law's own call -/
theorem law_run {P : Program} {w : World} {K : PySem.W.Frag} {mg mb : Str → Option Value} {CX : CXT} {k : Nat} {fa a : Addr} {fd : FuncData} {x : Str} {sp : Sp} {sh : Shared} {vs : List Value} {ns : List Int}
    (KX : K.In sh.heap) (hns : sh.heap.Ns mainGlobals mg) (hb : sh.heap.Ns builtinsNs mb) (hbb : ∀ y : Str, y ≠ "__name__" → mb y = bootBuiltins y) (hlim : sh.heap.NoLimit) (hgn : sh.gens = #[])
    (ha : sh.heap.get? a = some { cls := .type "list", data := .seq vs.toArray }) (hi : IntsAre vs ns) (hl : ns.length ≤ sizeLine) (hr : Room k callerA)
    (hF : ∀ base : Heap, K.In base → base.Ns mainGlobals mg → FnG ⟨P, w, K, mg, base⟩ CX k fa fd [x] sp) (hbind : ∀ (s : Shared) (u : Value), BindsTo s fd ⟨[u], []⟩ [(x, u)])
    (hsp : ∀ H : Hp, Only H → SqL K H a (ns.map V.int) → sp [.ref a] H (fun v _ => v = .bl true) fun _ _ _ => False) (hCX : CXok CX) :
    codeAny (model P w) callerA (.call (.ref fa) ⟨[.ref a], []⟩) (fun r s' => r = .ok (.ret (.bool true)) ∧ OldK sh.heap s'.heap ∧ s'.os = sh.os ∧ AllBare s'.gens) sh := by
  have rv := vals_ints hi
  have main : ∀ H : Hp, Only H → SqL K H a (ns.map V.int) → HOk P w H sh.heap → (∀ b u, H b = some u → b = a ∧ K.lookup a = none) →
      codeAny (model P w) callerA (.call (.ref fa) ⟨[.ref a], []⟩) (fun r s' => r = .ok (.ret (.bool true)) ∧ OldK sh.heap s'.heap ∧ s'.os = sh.os ∧ AllBare s'.gens) sh := by
    intro H hO hS hok hA
    have stay : ∀ {b : Addr} {o : Obj}, sh.heap.get? b = some o → (∀ es ep, o.data = .dict es ep → H b = none) ∧ (K.lookup b = some o → H b = none) := by
      intro b o e
      constructor
      · intro es ep d
        cases q : H b with
        | none => rfl
        | some u =>
          obtain ⟨rfl, _⟩ := hA b u q
          rw [ha] at e; cases e; cases d
      · intro kl
        cases q : H b with
        | none => rfl
        | some u =>
          obtain ⟨rfl, z⟩ := hA b u q
          rw [z] at kl; cases kl
    have ns_of : ∀ {b : Addr} {m : Str → Option Value}, sh.heap.Ns b m → (hidT sh.heap H).Ns b m := by
      rintro b m ⟨o, es, ep, e, d, r⟩
      exact ⟨o, es, ep, hidT_get e ((stay e).1 es ep d), d, r⟩
    have KH : K.In (hidT sh.heap H) := fun b o e => hidT_get (KX b o e) ((stay (KX b o e)).2 e)
    have hM : Mod K mg (hidT sh.heap H) := by
      obtain ⟨mc, h1, h2⟩ := hlim
      exact ⟨KH, ns_of hns, ⟨mb, ns_of hb, hbb⟩, ⟨mc, ns_of h1, h2⟩⟩
    have e0 : Env0 P w K mg (hidT sh.heap H) callerA [] sh H := by
      refine ⟨rfl, hM, fun b o e => of_hidT e, Nat.le_of_eq (hidT_size _ _), trivial, fun b z => ?_, hok, .of_eq hgn⟩
      exact absurd (show b ∈ ([] : List Addr) from z) (by simp)
    refine codeAny_mono ((hF _ KH (ns_of hns)).run callerA [] sh H ⟨[.ref a], []⟩ [.ref a] [.ref a] _ _ rfl hr e0 (hbind sh (.ref a)) (.cons rfl .nil) (hsp H hO hS)) fun r s' h => ?_
    cases r with
    | error e => exact (hCX [] H sh e s' h).elim
    | ok fl => cases fl with
      | ret u =>
        obtain ⟨v, H', os, bare, un, hok', r', q⟩ := h
        have q : v = .bl true := q
        subst q
        obtain rfl : u = Value.bool true := r'
        refine ⟨rfl, OldK.of_keep fun b o e => ?_, os, bare⟩
        rcases hO b with z | ⟨ob, xs, z⟩
        · exact un.keep b o e z (fun z => absurd (show b ∈ ([] : List Addr) from z) (by simp)) (by simp)
        · obtain ⟨e1, _⟩ := hok b _ z
          obtain ⟨e2, _⟩ := hok' b _ (un.frzs b ob _ z)
          rw [e] at e1; cases e1
          exact e2
      | _ => exact h.elim
  cases hk : K.lookup a with
  | some o =>
    have e := KX a o hk
    rw [ha] at e
    cases e
    refine main (fun _ => none) (fun _ => .inl rfl) (.inr ⟨_, vs.toArray, _, hk, rfl, rfl, rfl, ?_, by simpa using rv⟩) (fun b u z => nomatch (show (none : Option HO) = some u from z)) (fun b u z => nomatch (show (none : Option HO) = some u from z))
    rw [List.size_toArray, hi.length]; exact hl
  | none =>
    let o : HO := .frz { cls := .type "list", data := .seq vs.toArray } (.lst (ns.map V.int))
    refine main (upd (fun _ => none) a o) (fun b => ?_) (.inl (.inr ⟨_, upd_same⟩)) (fun b u z => ?_) (fun b u z => ?_)
    · by_cases hab : b = a
      · subst hab; exact .inr ⟨_, _, upd_same⟩
      · exact .inl (upd_ne hab)
    · by_cases hab : b = a
      · subst hab
        rw [upd_same] at z; cases z
        exact ⟨ha, by rw [List.length_map]; exact hl, vs, _, rv, ha⟩
      · rw [upd_ne hab] at z; cases z
    · by_cases hab : b = a
      · exact ⟨hab, hk⟩
      · rw [upd_ne hab] at z; cases z
/-- the script, as a law's first slot holds it -/
def Scr (ns : List Int) (s : Sl) : Prop := s = .d (.list (ns.map .int)) ∨ s = .w (.list (ns.map .int))
theorem dps_ints {K : PySem.W.Frag} {H : Hp} : ∀ ns : List Int, DpAll K H (ns.map V.int) (ns.map .int)
  | [] => .nil
  | n :: ns => .cons (.int n) (dps_ints ns)
/-- what is left behind the head -/
theorem law_walk {l : PySem.W.OpenLaw} {n k : Nat} {q : Program} {loose : List Str} {XP : (Str → Option Value) → Heap → Prop} {YP : World → Heap → Prop} {d : DefRec} {K : Params → PySem.W.Frag} {x : Str} {W : FSpec} {CX : CXT} (hn : l.most = some n) (hn2 : n ≤ sizeLine) (hdf : d.params.defaults = []) (hr : Room k callerA) (hCX : CXok CX)
    (hY : ∀ (w : World) (h : Heap), YP w h → (K w.params).In h)
    (hF : ∀ (w : World) (mg : Str → Option Value) (fa : Addr) (h : Heap), (K w.params).In h → h.Ns mainGlobals mg → mg d.name = some (.ref fa) → ∃ fd : FuncData, (∀ (s : Shared) (u : Value), BindsTo s fd ⟨[u], []⟩ [(x, u)]) ∧
      ∀ base : Heap, (K w.params).In base → base.Ns mainGlobals mg → FnG ⟨l.prog, w, K w.params, mg, base⟩ CX k fa fd [x] (spOf (K w.params) 1 W))
    (hW : ∀ (ns : List Int) (s : Sl), ns.length ≤ n → Scr ns s → W [s] (fun _ => False) fun r _ => r = .d (.bool true)) :
    PySem.W.WalkO q loose XP YP l.row.toRowW d [] (fun f vs => PySem.call f vs) := by
  refine Att.attach_call hn hdf fun w s₀ sh mg mb fa o pm cd doc a vs ns G Y ho hd hcd hmg hobj hints hlen hgn => ?_
  have KX := hY w _ Y
  obtain ⟨fd, hb, hF⟩ := hF w mg fa _ KX G.T.g hmg
  refine law_run KX G.T.g G.T.b G.T.builtins G.T.nolimit hgn hobj hints (Nat.le_trans hlen hn2) hr hF hb (fun H hO hS => ?_) hCX
  have ex : ∃ s, Scr ns s ∧ SlOk (K w.params) (fun _ => none) H H (.ref a) s := by
    rcases hS with hS | hS
    · exact ⟨_, .inl rfl, DD.lst hS (DDs.of_ints ns)⟩
    · exact ⟨_, .inr rfl, Dp.lst (.inr hS) (dps_ints ns)⟩
  obtain ⟨s, hs, q⟩ := ex
  have no : ∀ b c, s ≠ .o b c := fun b c z => by
    rcases hs with e | e <;> (rw [e] at z; cases z)
  refine ⟨rfl, fun _ => none, H, [s], fun _ => False, fun r _ => r = .d (.bool true), ⟨Same.refl _, (fun _ _ z => by cases z), (fun _ _ z => by cases z), rfl, fun i s' e => ?_, fun i j b c b1 c1 b2 e1 => ?_, fun i c e => ?_⟩, fun _ _ _ _ _ _ _ _ _ _ _ _ z => z.elim, hW ns s hlen hs, fun B' H' v r ss' s1 h1 q1 nO e => ?_⟩
  · match i, e with
    | 0, e => cases e; exact ⟨.ref a, rfl, q⟩
  · match i, e1 with
    | 0, e1 => cases e1; exact absurd rfl (no _ _)
  · match i, e with
    | 0, e => cases e; exact absurd rfl (no _ _)
  · subst e
    cases (show DD B' v (.bool true) from q1)
    rfl
end DL
set_option Elab.async false
set_option linter.all false
set_option maxRecDepth 100000
set_option maxHeartbeats 4000000
set_option autoImplicit false
namespace DL
open PySem PySem.Spec PyProof.Rows L2

section
variable {K : PySem.W.Frag} {B H : Hp} {v : V}
theorem ov_str {x : Str} (h : OV K B H v (.d (.str x))) : v = .str x := by
  rcases h with h | ⟨_, _, _, _, e, _⟩
  · cases h; rfl
  · cases e
theorem ov_bl {b : Bool} (h : OV K B H v (.d (.bool b))) : v = .bl b := by
  rcases h with h | ⟨_, _, _, _, e, _⟩
  · cases h; rfl
  · cases e
theorem ov_non (h : OV K B H v (.d .none)) : v = .non := by
  rcases h with h | ⟨_, _, _, _, e, _⟩
  · cases h; rfl
  · cases e
theorem ov_tup {ds : List PyData} (h : OV K B H v (.d (.tuple ds))) : ∃ p xs, v = .ref p ∧ B p = some (.tup xs) ∧ DDs B xs ds := by
  rcases h with h | ⟨_, _, _, _, e, _⟩
  · cases h with
    | tup r q => exact ⟨_, _, rfl, r, q⟩
  · cases e
theorem ov_lst {ds : List PyData} (s : Same B H) (h : OV K B H v (.d (.list ds))) : ∃ p xs, v = .ref p ∧ Rd H p (.lst xs) ∧ DDs B xs ds := by
  rcases h with h | ⟨a, xs, ds', e1, e2, e3, q⟩
  · cases h with
    | lst r q => exact ⟨_, _, rfl, same_rd s r, q⟩
  · cases e2; exact ⟨a, xs, e1, .inl e3, q⟩
end
theorem ov_bool {K : PySem.W.Frag} {B H : Hp} {v : V} {b : Bool} (h : OV K B H v (.d (.bool b))) : v = .bl b := by
  rcases h with h | ⟨_, _, _, _, e, _⟩
  · cases h; rfl
  · cases e
/-! ### + - * // % ** -/
def addF : Vw → Vw → Option Rv
  | .d (.int a), .d (.int b) => some (.val (.int (a + b)))
  | .d (.str a), .d (.str b) => if a.length + b.length ≤ sizeLine then some (.val (.str (a ++ b))) else none
  | .d (.tuple a), .d (.tuple b) => if a.length + b.length ≤ sizeLine then some (.tup (a ++ b)) else none
  | .d (.list a), .d (.list b) => if a.length + b.length ≤ sizeLine then some (.lst (a ++ b)) else none
  | .d (.bool a), .d (.int b) => some (.val (.int ((if a = true then (1 : Int) else 0) + b)))
  | _, _ => none
theorem op_catRd {X : Cx} : OpR X (binaryOp .Add) fun x y H Q => ∃ l b xs zs, x = .ref l ∧ y = .ref b ∧ Rd H l (.lst xs) ∧ Rd H b (.lst zs) ∧ xs.length + zs.length ≤ sizeLine ∧ ∀ p, H p = none → Q (.ref p) (upd H p (.lst (xs ++ zs))) := by
  rintro pins s σ H x y v u Q I rx ry ⟨l, b, xs, zs, rfl, rfl, hl, hb, hz, q⟩
  cases rx
  cases ry
  obtain ⟨z, its, n, r, e⟩ := hl.ok I.hok
  obtain ⟨z2, its2, n2, r2, e2⟩ := hb.ok I.hok
  have l1 := r.length
  have l2 := r2.length
  refine PySem.P.add_list e e2 ?_ (by rw [List.size_toArray, List.size_toArray]; omega)
  rw [show its.toArray ++ its2.toArray = (its ++ its2).toArray by simp]
  exact ⟨.ref _, _, I.lnew (t' := s.toks) (r.append r2) (by rw [List.length_append]; omega), rfl, q _ I.fresh⟩
theorem os_add {S : Sg} : OpS S (binaryOp .Add) addF := by
  rintro c hc pins s σ H x y v u Q I rx ry ⟨B, a, b, rv, sB, oa, ob, e, k⟩
  unfold addF at e
  split at e
  · cases e
    cases ov_int oa; cases ov_int ob
    exact op_add pins s σ H _ _ v u Q I rx ry ⟨_, _, rfl, rfl, k _ (.int _)⟩
  · split at e
    · cases e
      cases ov_str oa; cases ov_str ob
      exact op_add_str pins s σ H _ _ v u Q I rx ry ⟨_, _, rfl, rfl, by assumption, k _ (.str _)⟩
    · cases e
  · split at e
    · cases e
      obtain ⟨p, xs, rfl, hp, qx⟩ := ov_tup oa
      obtain ⟨p2, ys, rfl, hp2, qy⟩ := ov_tup ob
      rename_i hl
      refine op_catA pins s σ H _ _ v u Q I rx ry ⟨p, p2, xs, ys, rfl, rfl, SqT.of (sB _ _ hp), SqT.of (sB _ _ hp2), by rw [qx.length, qy.length]; exact hl, fun ex => ?_, fun _ ey => ?_, fun _ _ p3 hp3 => k.2 p3 _ hp3 (qx.append qy)⟩
      · subst ex
        refine k.1 _ ?_
        rw [qx.nil_iff.mp rfl, List.nil_append]
        exact .tup hp2 qy
      · subst ey
        refine k.1 _ ?_
        rw [qy.nil_iff.mp rfl, List.append_nil]
        exact .tup hp qx
    · cases e
  · split at e
    · cases e
      rename_i hl
      obtain ⟨p, xs, rfl, hp, qx⟩ := ov_lst sB oa
      obtain ⟨p2, ys, rfl, hp2, qy⟩ := ov_lst sB ob
      exact op_catRd pins s σ H _ _ v u Q I rx ry ⟨p, p2, xs, ys, rfl, rfl, hp, hp2, by rw [qx.length, qy.length]; exact hl, fun p3 hp3 => k p3 _ hp3 (qx.append qy)⟩
    · cases e
  · cases e
    cases ov_int ob; cases ov_bool oa
    obtain ⟨t, rfl⟩ := ry
    cases rx
    exact PySem.IntBool.add_bool_int ⟨.int _, H, I.tok _, ⟨_, rfl⟩, k _ (.int _)⟩
  · cases e
def subF : Vw → Vw → Option Rv
  | .d (.int a), .d (.int b) => some (.val (.int (a - b)))
  | .d (.bool a), .d (.int b) => some (.val (.int ((if a = true then (1 : Int) else 0) - b)))
  | _, _ => none
theorem os_sub {S : Sg} : OpS S (binaryOp .Sub) subF := by
  rintro c hc pins s σ H x y v u Q I rx ry ⟨B, a, b, rv, sB, oa, ob, e, k⟩
  unfold subF at e
  split at e
  · cases e
    cases ov_int oa; cases ov_int ob
    exact op_sub pins s σ H _ _ v u Q I rx ry ⟨_, _, rfl, rfl, k _ (.int _)⟩
  · cases e
    cases ov_int ob; cases ov_bool oa
    obtain ⟨t, rfl⟩ := ry
    cases rx
    exact PySem.IntBool.sub_bool_int ⟨.int _, H, I.tok _, ⟨_, rfl⟩, k _ (.int _)⟩
  · cases e
def smallI (a : Int) : Bool := decide (-(2 ^ 64) < a ∧ a < 2 ^ 64)
theorem dds_rep {B : Hp} {xs : List V} {ds : List PyData} (q : DDs B xs ds) : ∀ n : Nat, DDs B (List.replicate n xs).flatten (List.replicate n ds).flatten
  | 0 => .nil
  | n + 1 => by rw [List.replicate_succ, List.replicate_succ, List.flatten_cons, List.flatten_cons]; exact q.append (dds_rep q n)
def mulF : Vw → Vw → Option Rv
  | .d (.int a), .d (.int b) => if smallI a || smallI b || decide (a.natAbs.log2 + b.natAbs.log2 < 1000000) then some (.val (.int (a * b))) else none
  | .d (.tuple a), .d (.int k) => if 2 ≤ k ∧ k ≤ 1000 ∧ a.length ≤ 1000 ∧ a ≠ [] then some (.tup (List.replicate k.toNat a).flatten) else none
  | _, _ => none
theorem os_mul {S : Sg} : OpS S (binaryOp .Mult) mulF := by
  rintro c hc pins s σ H x y v u Q I rx ry ⟨B, a, b, rv, sB, oa, ob, e, k⟩
  unfold mulF at e
  split at e
  · split at e
    · rename_i hs
      cases e
      cases ov_int oa; cases ov_int ob
      rw [Bool.or_eq_true, Bool.or_eq_true] at hs
      rcases hs with (hs | hs) | hs
      · exact op_mul pins s σ H _ _ v u Q I rx ry ⟨_, _, rfl, rfl, .inl (of_decide_eq_true hs), k _ (.int _)⟩
      · exact op_mul pins s σ H _ _ v u Q I rx ry ⟨_, _, rfl, rfl, .inr (of_decide_eq_true hs), k _ (.int _)⟩
      · have hs := of_decide_eq_true hs
        exact op_mulW pins s σ H _ _ v u Q I rx ry ⟨_, _, rfl, rfl, hs, k _ (.int _)⟩
    · cases e
  · split at e
    · rename_i hs
      cases e
      obtain ⟨p, xs, rfl, hp, qx⟩ := ov_tup oa
      cases ov_int ob
      obtain ⟨h1, h2, h3, h4⟩ := hs
      exact op_repT pins s σ H _ _ v u Q I rx ry ⟨p, _, xs, rfl, rfl, SqT.of (sB _ _ hp), fun z => h4 (qx.nil_iff.mp z), h1, h2, by rw [qx.length]; exact h3, fun p3 hp3 => k.2 p3 _ hp3 (dds_rep qx _)⟩
    · cases e
  · cases e
def modF : Vw → Vw → Option Rv
  | .d (.int a), .d (.int b) => if 0 < b then some (.val (.int (a % b))) else none
  | _, _ => none
theorem os_mod {S : Sg} : OpS S (binaryOp .Mod) modF := by
  rintro c hc pins s σ H x y v u Q I rx ry ⟨B, a, b, rv, sB, oa, ob, e, k⟩
  unfold modF at e
  split at e
  · split at e
    · cases e
      cases ov_int oa; cases ov_int ob
      exact op_mod pins s σ H _ _ v u Q I rx ry ⟨_, _, rfl, rfl, by assumption, k _ (.int _)⟩
    · cases e
  · cases e
def fdivF : Vw → Vw → Option Rv
  | .d (.int a), .d (.int b) => if 0 < b ∧ b.natAbs.log2 < 9000 then some (.val (.int (a / b))) else none
  | _, _ => none
theorem os_fdiv {S : Sg} : OpS S (binaryOp .FloorDiv) fdivF := by
  rintro c hc pins s σ H x y v u Q I rx ry ⟨B, a, b, rv, sB, oa, ob, e, k⟩
  unfold fdivF at e
  split at e
  · split at e
    · cases e
      cases ov_int oa; cases ov_int ob
      exact op_fdivW pins s σ H _ _ v u Q I rx ry ⟨_, _, rfl, rfl, by assumption, k _ (.int _)⟩
    · cases e
  · cases e
def powF : Vw → Vw → Option Rv
  | .d (.int a), .d (.int b) => if 0 ≤ b ∧ b ≤ 1000000 ∧ a.natAbs < 2 ^ 64 then some (.val (.int (a ^ b.toNat))) else none
  | _, _ => none
theorem os_pow {S : Sg} : OpS S (binaryOp .Pow) powF := by
  rintro c hc pins s σ H x y v u Q I rx ry ⟨B, a, b, rv, sB, oa, ob, e, k⟩
  unfold powF at e
  split at e
  · split at e
    · cases e
      cases ov_int oa; cases ov_int ob
      exact op_pow pins s σ H _ _ v u Q I rx ry ⟨_, _, rfl, rfl, by assumption, k _ (.int _)⟩
    · cases e
  · cases e
/-! ### comparisons -/
def cmpF (fi : Int → Int → Bool) (fs : Str → Str → Bool) : Vw → Vw → Option Rv
  | .d (.int a), .d (.int b) => some (.val (.bool (fi a b)))
  | .d (.str a), .d (.str b) => some (.val (.bool (fs a b)))
  | _, _ => none
def strLt (a b : Str) : Bool := decide (a.cps.toList < b.cps.toList)
def ltF := cmpF (fun a b => decide (a < b)) strLt
def leF := cmpF (fun a b => decide (a ≤ b)) (fun a b => !decide (b.cps.toList < a.cps.toList))
def gtF := cmpF (fun a b => decide (b < a)) (fun a b => decide (b.cps.toList < a.cps.toList))
def geF := cmpF (fun a b => decide (b ≤ a)) (fun a b => !decide (a.cps.toList < b.cps.toList))
theorem os_lt {S : Sg} : OpS S (compareOp .Lt) ltF := by
  rintro c hc pins s σ H x y v u Q I rx ry ⟨B, a, b, rv, sB, oa, ob, e, k⟩
  unfold ltF cmpF at e
  split at e
  · cases e
    cases ov_int oa; cases ov_int ob
    exact op_lt pins s σ H _ _ v u Q I rx ry ⟨_, _, rfl, rfl, k _ (.bl _)⟩
  · cases e
    cases ov_str oa; cases ov_str ob
    exact op_lt_str pins s σ H _ _ v u Q I rx ry ⟨_, _, rfl, rfl, k _ (.bl _)⟩
  · cases e
theorem os_le {S : Sg} : OpS S (compareOp .LtE) leF := by
  rintro c hc pins s σ H x y v u Q I rx ry ⟨B, a, b, rv, sB, oa, ob, e, k⟩
  unfold leF cmpF at e
  split at e
  · cases e
    cases ov_int oa; cases ov_int ob
    exact op_le pins s σ H _ _ v u Q I rx ry ⟨_, _, rfl, rfl, k _ (.bl _)⟩
  · cases e
    cases ov_str oa; cases ov_str ob
    exact op_le_str pins s σ H _ _ v u Q I rx ry ⟨_, _, rfl, rfl, k _ (.bl _)⟩
  · cases e
theorem os_gt {S : Sg} : OpS S (compareOp .Gt) gtF := by
  rintro c hc pins s σ H x y v u Q I rx ry ⟨B, a, b, rv, sB, oa, ob, e, k⟩
  unfold gtF cmpF at e
  split at e
  · cases e
    cases ov_int oa; cases ov_int ob
    exact op_gt pins s σ H _ _ v u Q I rx ry ⟨_, _, rfl, rfl, k _ (.bl _)⟩
  · cases e
    cases ov_str oa; cases ov_str ob
    exact op_gt_str pins s σ H _ _ v u Q I rx ry ⟨_, _, rfl, rfl, k _ (.bl _)⟩
  · cases e
theorem os_ge {S : Sg} : OpS S (compareOp .GtE) geF := by
  rintro c hc pins s σ H x y v u Q I rx ry ⟨B, a, b, rv, sB, oa, ob, e, k⟩
  unfold geF cmpF at e
  split at e
  · cases e
    cases ov_int oa; cases ov_int ob
    exact op_ge pins s σ H _ _ v u Q I rx ry ⟨_, _, rfl, rfl, k _ (.bl _)⟩
  · cases e
    cases ov_str oa; cases ov_str ob
    exact op_ge_str pins s σ H _ _ v u Q I rx ry ⟨_, _, rfl, rfl, k _ (.bl _)⟩
  · cases e
def vd : Vw → Option PyData
  | .d d => some d
  | .w d => some d
  | _ => none
theorem vd_dp {K : PySem.W.Frag} {B H : Hp} {v : V} {w : Vw} {d : PyData} (s : Same B H) (h : OV K B H v w) (e : vd w = some d) : Dp K H v d := by
  cases w with
  | d d' => cases e; exact OV.dp s h
  | w d' => cases e; exact DW.dp h
  | k _ => cases e
  | t _ => cases e
def strs2 : PyData → PyData → Bool
  | .str _, .str _ => true
  | _, _ => false
theorem strs2_of {d e : PyData} (h : strs2 d e = true) : ∃ a b, d = .str a ∧ e = .str b := by
  unfold strs2 at h
  split at h
  · exact ⟨_, _, rfl, rfl⟩
  · cases h
theorem dp_str {K : PySem.W.Frag} {H : Hp} {v : V} {x : Str} (h : Dp K H v (.str x)) : v = .str x := by cases h; rfl
theorem str_beq (a b : Str) : decide (V.str a = V.str b) = PyData.eqv (.str a) (.str b) := by
  have e : PyData.eqv (.str a) (.str b) = (a == b) := by simp only [PyData.eqv]
  rw [e]
  by_cases h : a = b
  · subst h
    rw [decide_eq_true rfl]
    simp
  · rw [decide_eq_false (fun z => h (by cases z; rfl))]
    exact (beq_eq_false_iff_ne.mpr h).symm
def eqG (neg : Bool) : Vw → Vw → Option Rv := fun a b => (vd a).bind fun d => (vd b).bind fun e => if SeqAt.shaped d && SeqAt.shaped e || strs2 d e then some (.val (.bool (if neg then !PyData.eqv d e else PyData.eqv d e))) else none
def eqF := eqG false
def neF := eqG true
theorem os_eq {S : Sg} : OpS S (compareOp .Eq) eqF := by
  rintro c hc pins s σ H x y v u Q I rx ry ⟨B, a, b, rv, sB, oa, ob, e, k⟩
  unfold eqF eqG at e
  obtain ⟨d, e1, e⟩ := Option.bind_eq_some_iff.mp e
  obtain ⟨d2, e2, e⟩ := Option.bind_eq_some_iff.mp e
  split at e
  · rename_i hs
    cases e
    rw [Bool.or_eq_true, Bool.and_eq_true] at hs
    rcases hs with hs | hs
    · exact op_eqD hc.room.units pins s σ H _ _ v u Q I rx ry ⟨d, d2, vd_dp sB oa e1, vd_dp sB ob e2, hs.1, hs.2, k _ (.bl _)⟩
    · obtain ⟨a', b', rfl, rfl⟩ := strs2_of hs
      have ex := dp_str (vd_dp sB oa e1)
      have ey := dp_str (vd_dp sB ob e2)
      subst ex ey
      refine L2.op_eq pins s σ H _ _ v u Q I rx ry ⟨rfl, ?_⟩
      have kk := k _ (.bl _)
      simp only [← str_beq] at kk
      exact kk
  · cases e
theorem os_ne {S : Sg} : OpS S (compareOp .NotEq) neF := by
  rintro c hc pins s σ H x y v u Q I rx ry ⟨B, a, b, rv, sB, oa, ob, e, k⟩
  unfold neF eqG at e
  obtain ⟨d, e1, e⟩ := Option.bind_eq_some_iff.mp e
  obtain ⟨d2, e2, e⟩ := Option.bind_eq_some_iff.mp e
  split at e
  · rename_i hs
    cases e
    rw [Bool.or_eq_true, Bool.and_eq_true] at hs
    rcases hs with hs | hs
    · exact op_neD hc.room.units pins s σ H _ _ v u Q I rx ry ⟨d, d2, vd_dp sB oa e1, vd_dp sB ob e2, hs.1, hs.2, k _ (.bl _)⟩
    · obtain ⟨a', b', rfl, rfl⟩ := strs2_of hs
      have ex := dp_str (vd_dp sB oa e1)
      have ey := dp_str (vd_dp sB ob e2)
      subst ex ey
      refine L2.op_ne pins s σ H _ _ v u Q I rx ry ⟨rfl, ?_⟩
      have kk := k _ (.bl _)
      simp only [← str_beq] at kk
      exact kk
  · cases e
/-! ### a < b < c -/
def wChain (f f' : Vw → Vw → Option Rv) (wa wb wc : WE) : WE := fun Ex δ P => wOp f wa wb Ex δ fun r δ1 => True ∧ P r δ1
section
variable {S : Sg}
def negI : Vw → Option Int
  | .d (.int i) => some i
  | _ => none
def wNeg (wa : WE) : WE := fun Ex δ P => wa Ex δ fun r δ1 => ob (view δ1 r) fun w => ob (negI w) fun i => P (.d (.int (-i))) δ1
theorem de_neg {a : Expr} {wa : WE} {pos : Pos} (ha : DE S a wa) : DE S (.UnaryOp .USub a pos) (wNeg wa) := by
  obtain ⟨t, p, s⟩ := ha
  refine ⟨_, fun c hc => pe_un un_neg (p c hc), ⟨fun Ex Ex' δ P P' hx h w => s.mono _ _ _ _ _ hx (fun r δ1 w => w.imp fun v w => w.imp fun i w => h _ _ w) w, fun Ex F B H vs σ δ P Q hx h w k => ?_⟩⟩
  refine s.run _ _ _ _ _ _ _ _ _ hx h w fun B1 H1 v r δ1 s1 h1 q1 w1 => ?_
  obtain ⟨vw, e1, i, e2, w1⟩ := w1
  have o := view_ok h1 q1 e1
  unfold negI at e2
  split at e2
  · cases e2
    cases ov_int o
    exact ⟨i, rfl, k B1 H1 _ (.d (.int (-i))) δ1 s1 h1 (.int _) w1⟩
  · cases e2
end
end DL
set_option Elab.async false
set_option linter.all false
set_option maxRecDepth 100000
set_option maxHeartbeats 4000000
set_option autoImplicit false
namespace DL
open PySem PySem.Spec PyProof.Rows L2

/-! ### len, list, tuple, str, repr, ord, all, any -/
section
variable {K : PySem.W.Frag} {B H : Hp}
theorem ovs1 {vs : List V} {a : Vw} (h : OVs K B H vs [a]) : ∃ v, vs = [v] ∧ OV K B H v a := by
  cases h with
  | cons q r => cases r; exact ⟨_, rfl, q⟩
theorem ovs2 {vs : List V} {a b : Vw} (h : OVs K B H vs [a, b]) : ∃ v u, vs = [v, u] ∧ OV K B H v a ∧ OV K B H u b := by
  cases h with
  | cons q r => cases r with
    | cons q2 r => cases r; exact ⟨_, _, rfl, q, q2⟩
theorem dpa_length {K : PySem.W.Frag} {H : Hp} : ∀ {vs : List V} {ds : List PyData}, DpAll K H vs ds → vs.length = ds.length
  | _, _, .nil => rfl
  | _, _, .cons _ r => congrArg (· + 1) (dpa_length r)
theorem kds_length {κ : Type} {B : Hp} {ys : List (κ × V)} {kvs : List (κ × PyData)} (h : KDs B ys kvs) : ys.length = kvs.length := Paired.length h
end
def lenD : PyData → Option Nat
  | .str x => if x.length ≤ sizeLine then some x.length else none
  | .list ds => some ds.length
  | .tuple ds => some ds.length
  | _ => none
def lenF : List Vw → Option Rv
  | [.d d] => (lenD d).map fun (n : Nat) => Rv.val (.int (n : Int))
  | [.w d] => (lenD d).map fun (n : Nat) => Rv.val (.int (n : Int))
  | [.k kvs] => some (.val (.int kvs.length))
  | _ => none
theorem len_dp {K : PySem.W.Frag} {H : Hp} {v : V} {d : PyData} {n : Nat} (h : Dp K H v d) (e : lenD d = some n) : LenV K v H n := by
  cases h with
  | str x =>
    simp only [lenD] at e
    split at e
    · cases e; exact ⟨by assumption, rfl⟩
    · cases e
  | lst r q => cases e; exact .inl ⟨_, r, (dpa_length q).symm⟩
  | tup r q => cases e; exact .inr ⟨_, r, (dpa_length q).symm⟩
  | _ => cases e
theorem cs_len {S : Sg} : CallS S (.builtin "len") lenF := by
  rintro c hc pins s σ H xs us Q I rv ⟨B, as, r, sB, ov, e, k⟩
  unfold lenF at e
  split at e
  · obtain ⟨n, e1, e⟩ := Option.map_eq_some_iff.mp e
    cases e
    obtain ⟨v, rfl, q⟩ := ovs1 ov
    exact call_len pins s σ H _ us Q I rv ⟨v, n, rfl, len_dp (OV.dp sB q) e1, k _ (.int _)⟩
  · obtain ⟨n, e1, e⟩ := Option.map_eq_some_iff.mp e
    cases e
    obtain ⟨v, rfl, q⟩ := ovs1 ov
    exact call_len pins s σ H _ us Q I rv ⟨v, n, rfl, len_dp (DW.dp q) e1, k _ (.int _)⟩
  · cases e
    obtain ⟨v, rfl, a, ys, rfl, e1, q⟩ := ovs1 ov
    exact call_lenD pins s σ H _ us Q I rv ⟨a, ys, rfl, e1, by rw [kds_length q]; exact k _ (.int _)⟩
  · cases e
def listF : List Vw → Option Rv
  | [.d (.list ds)] => some (.lst ds)
  | [.d (.tuple ds)] => some (.lst ds)
  | [.w (.list ds)] => if ds.all scalar then some (.lst ds) else none
  | [.w (.tuple ds)] => if ds.all scalar then some (.lst ds) else none
  | _ => none
theorem cs_list {S : Sg} : CallS S (.type "list") listF := by
  rintro c hc pins s σ H xs us Q I rv ⟨B, as, r, sB, ov, e, k⟩
  unfold listF at e
  split at e
  · cases e
    obtain ⟨v, rfl, q⟩ := ovs1 ov
    obtain ⟨p, zs, rfl, hp, qz⟩ := ov_lst sB q
    exact call_list_of pins s σ H _ us Q I rv ⟨p, zs, rfl, .inl (.inl hp), fun l hl => k l _ hl qz⟩
  · cases e
    obtain ⟨v, rfl, q⟩ := ovs1 ov
    obtain ⟨p, zs, rfl, hp, qz⟩ := ov_tup q
    exact call_list_of pins s σ H _ us Q I rv ⟨p, zs, rfl, .inr (SqT.of (sB _ _ hp)), fun l hl => k l _ hl qz⟩
  · split at e
    · rename_i hs
      cases e
      obtain ⟨v, rfl, q⟩ := ovs1 ov
      have q : Dp S.g.K (fun _ => none) v _ := q
      cases q with
      | lst r3 q3 => exact call_list_of pins s σ H _ us Q I rv ⟨_, _, rfl, .inl (L2.Same.seq (fun _ _ z => by cases z) r3), fun l hl => k l _ hl (dp_items q3 hs B)⟩
    · cases e
  · split at e
    · rename_i hs
      cases e
      obtain ⟨v, rfl, q⟩ := ovs1 ov
      have q : Dp S.g.K (fun _ => none) v _ := q
      cases q with
      | tup r3 q3 =>
        refine call_list_of pins s σ H _ us Q I rv ⟨_, _, rfl, .inr ?_, fun l hl => k l _ hl (dp_items q3 hs B)⟩
        rcases r3 with r3 | r3
        · exact .inl (same_rd (B := fun _ => none) (fun _ _ z => by cases z) r3)
        · exact .inr r3
    · cases e
  · cases e
def tupleF : List Vw → Option Rv
  | [.d (.list ds)] => some (.tup ds)
  | [.d (.tuple ds)] => some (.tup ds)
  | _ => none
theorem cs_tuple {S : Sg} : CallS S (.type "tuple") tupleF := by
  rintro c hc pins s σ H xs us Q I rv ⟨B, as, r, sB, ov, e, k⟩
  unfold tupleF at e
  split at e
  · cases e
    obtain ⟨v, rfl, q⟩ := ovs1 ov
    obtain ⟨p, zs, rfl, hp, qz⟩ := ov_lst sB q
    exact call_tuple_of pins s σ H _ us Q I rv ⟨p, zs, rfl, .inl ⟨.inl hp, fun l hl => k.2 l _ hl qz⟩⟩
  · cases e
    obtain ⟨v, rfl, q⟩ := ovs1 ov
    obtain ⟨p, zs, rfl, hp, qz⟩ := ov_tup q
    exact call_tuple_of pins s σ H _ us Q I rv ⟨p, zs, rfl, .inr ⟨SqT.of (sB _ _ hp), k.1 _ (.tup hp qz)⟩⟩
  · cases e
def strF : List Vw → Option Rv
  | [.d (.int i)] => if i.natAbs.log2 < 1920 then some (.val (.str (toString i))) else none
  | [.d (.str x)] => some (.val (.str x))
  | [.d (.bool b)] => some (.val (.str (if b then "True" else "False")))
  | _ => none
theorem cs_str {S : Sg} : CallS S (.type "str") strF := by
  rintro c hc pins s σ H xs us Q I rv ⟨B, as, r, sB, ov, e, k⟩
  unfold strF at e
  split at e
  · split at e
    · cases e
      obtain ⟨v, rfl, q⟩ := ovs1 ov
      cases ov_int q
      exact call_str_int pins s σ H _ us Q I rv ⟨_, rfl, by assumption, k _ (.str _)⟩
    · cases e
  · cases e
    obtain ⟨v, rfl, q⟩ := ovs1 ov
    cases ov_str q
    exact SkE.call_str_str pins s σ H _ us Q I rv ⟨_, rfl, k _ (.str _)⟩
  · cases e
    obtain ⟨v, rfl, q⟩ := ovs1 ov
    cases ov_bool q
    obtain ⟨u, rfl, ru⟩ := vals1 rv
    cases ru
    exact PySem.P.str_of_bool ⟨.str _, H, I.tok _, ⟨_, rfl⟩, k _ (.str _)⟩
  · cases e
def ordF : List Vw → Option Rv
  | [.d (.str x)] => if x.length = 1 then some (.val (.int (x.cps.getD 0 0 : Nat))) else none
  | _ => none
theorem cs_ord {S : Sg} : CallS S (.builtin "ord") ordF := by
  rintro c hc pins s σ H xs us Q I rv ⟨B, as, r, sB, ov, e, k⟩
  unfold ordF at e
  split at e
  · split at e
    · cases e
      obtain ⟨v, rfl, q⟩ := ovs1 ov
      cases ov_str q
      exact call_ord pins s σ H _ us Q I rv ⟨_, rfl, by assumption, k _ (.int _)⟩
    · cases e
  · cases e
def bools : List PyData → Option (List Bool)
  | [] => some []
  | .bool b :: ds => (bools ds).map fun bs => b :: bs
  | _ => none
theorem bools_dd {B : Hp} : ∀ {ds : List PyData} {bs : List Bool} {xs : List V}, bools ds = some bs → DDs B xs ds → xs = bs.map V.bl
  | [], _, _, e, q => by cases e; cases q; rfl
  | d :: ds, _, _, e, q => by
    cases q with
    | cons q1 q2 =>
      cases d with
      | bool b =>
        simp only [bools] at e
        obtain ⟨bs, e1, e⟩ := Option.map_eq_some_iff.mp e
        cases e; cases q1
        rw [bools_dd e1 q2]; rfl
      | _ => cases e
def allF : List Vw → Option Rv
  | [.d (.list ds)] => (bools ds).map fun bs => .val (.bool (bs.all id))
  | _ => none
def anyF : List Vw → Option Rv
  | [.d (.list ds)] => (bools ds).map fun bs => .val (.bool (bs.any id))
  | _ => none
theorem cs_all {S : Sg} : CallS S (.builtin "all") allF := by
  rintro c hc pins s σ H xs us Q I rv ⟨B, as, r, sB, ov, e, k⟩
  unfold allF at e
  split at e
  · obtain ⟨bs, e1, e⟩ := Option.map_eq_some_iff.mp e
    cases e
    obtain ⟨v, rfl, q⟩ := ovs1 ov
    obtain ⟨p, zs, rfl, hp, qz⟩ := ov_lst sB q
    have ez := bools_dd e1 qz
    subst ez
    exact cr_all hc.calm pins s σ H _ us Q I rv ⟨p, bs, rfl, .inl hp, k _ (.bl _)⟩
  · cases e
theorem cs_any {S : Sg} : CallS S (.builtin "any") anyF := by
  rintro c hc pins s σ H xs us Q I rv ⟨B, as, r, sB, ov, e, k⟩
  unfold anyF at e
  split at e
  · obtain ⟨bs, e1, e⟩ := Option.map_eq_some_iff.mp e
    cases e
    obtain ⟨v, rfl, q⟩ := ovs1 ov
    obtain ⟨p, zs, rfl, hp, qz⟩ := ov_lst sB q
    have ez := bools_dd e1 qz
    subst ez
    exact cr_any hc.calm pins s σ H _ us Q I rv ⟨p, bs, rfl, .inl hp, k _ (.bl _)⟩
  · cases e
/-- text of data: no dict in it, shown within the line, of some depth at most -/
def showOk (d : PyData) : Bool := d.showable && !d.hasDict && decide (d.shown.length ≤ sizeLine) && decide (d.depth ≤ 60)
@[irreducible] def reprF : List Vw → Option Rv
  | [.d d] => if showOk d then some (.val (.str d.shown)) else none
  | [.w d] => if showOk d then some (.val (.str d.shown)) else none
  | _ => none
theorem repr_run {X : Cx} (hg : X.A.guards = some []) (hu : X.A.units + 64 < cLine) {pins : List (Addr × Obj)} {s : Shared} {σ : L2.St} {H : Hp} {v : V} {u : Value} {Q : VK} {d : PyData} (I : Inv X pins σ H s) (r : RelV v u) (h : Dp X.K H v d) (e : showOk d = true) (q : Q (.str d.shown) H) :
    wpAny (model X.prog X.w) X.A (call (.builtin "repr") [u]) (EP X pins σ Q) X.xe s := by
  unfold showOk at e
  simp only [Bool.and_eq_true, Bool.not_eq_true', decide_eq_true_eq] at e
  obtain ⟨⟨⟨h1, h2⟩, h3⟩, h4⟩ := e
  obtain ⟨as, hr⟩ := Dp.reads I d v u h r
  cases hr with
  | none =>
    refine call_repr_gives (typeIs_none s) F.slot_NoneType_repr F.entry_NoneType_repr (F.args_NoneType_repr_1 _) gives_none_repr ⟨.str _, H, I.tok _, ⟨_, rfl⟩, q⟩ (hx := by decide)
  | bool b =>
    refine call_repr_gives (PySem.typeIs_bool s b) F.slot_bool_repr F.entry_bool_repr (F.args_bool_repr_1 _) (gives_bool_repr b) ⟨.str _, H, I.tok _, ⟨_, rfl⟩, ?_⟩ (hx := by cases b <;> decide)
    simpa only [PyData.shown] using q
  | int i t =>
    exact PySem.P.repr_of_int (by simpa [PyData.showable] using h1) ⟨.str _, H, I.tok _, ⟨_, rfl⟩, by simpa only [PyData.shown] using q⟩
  | str x t =>
    refine call_repr_gives (typeIs_str s x t) F.slot_str_repr F.entry_str_repr (F.args_str_repr_1 _) (gives_str_repr x t) ⟨.str _, H, I.tok _, ⟨_, rfl⟩, by simpa only [PyData.shown] using q⟩ (hx := by simpa only [PyData.shown] using h3)
  | list g1 g2 g3 g4 =>
    exact repr_of_reads' (.list g1 g2 g3 g4) h1 (fun z => by rw [h2] at z; cases z) hg (by omega) (fun _ _ e => e) (fun h' u' tk hk => ⟨.str _, H, I.kept (t' := tk) hk, ⟨_, rfl⟩, q⟩) h3
  | tuple g1 g2 g3 g4 =>
    exact repr_of_reads' (.tuple g1 g2 g3 g4) h1 (fun z => by rw [h2] at z; cases z) hg (by omega) (fun _ _ e => e) (fun h' u' tk hk => ⟨.str _, H, I.kept (t' := tk) hk, ⟨_, rfl⟩, q⟩) h3
  | dict => cases h
theorem cs_repr {S : Sg} : CallS S (.builtin "repr") reprF := by
  rintro c hc pins s σ H xs us Q I rv ⟨B, as, r, sB, ov, e, k⟩
  unfold reprF at e
  split at e
  · split at e
    · cases e
      obtain ⟨v, rfl, q⟩ := ovs1 ov
      obtain ⟨u, rfl, ru⟩ := vals1 rv
      exact repr_run hc.gd hc.room.units I ru (OV.dp sB q) (by assumption) (k _ (.str _))
    · cases e
  · split at e
    · cases e
      obtain ⟨v, rfl, q⟩ := ovs1 ov
      obtain ⟨u, rfl, ru⟩ := vals1 rv
      exact repr_run hc.gd hc.room.units I ru (DW.dp q) (by assumption) (k _ (.str _))
    · cases e
  · cases e
end DL
set_option Elab.async false
set_option linter.all false
set_option maxRecDepth 100000
set_option maxHeartbeats 4000000
set_option autoImplicit false
namespace DL
open PySem PySem.Spec PyProof.Rows L2

/-! ### items -/
theorem dds_at {B : Hp} {xs : List V} {ds : List PyData} {i : Int} {d : PyData} (q : DDs B xs ds) (e : atI ds i = some d) : ∃ v, atI xs i = some v ∧ DD B v d := by
  unfold atI at e ⊢
  obtain ⟨j, e1, e2⟩ := Option.bind_eq_some_iff.mp e
  obtain ⟨v, e3, q3⟩ := q.get e2
  exact ⟨v, by rw [q.length, e1]; exact e3, q3⟩
theorem dpa_at {K : PySem.W.Frag} {H : Hp} {i : Int} {d : PyData} : ∀ {xs : List V} {ds : List PyData}, DpAll K H xs ds → ∀ {j : Nat}, ds[j]? = some d → ∃ v, xs[j]? = some v ∧ Dp K H v d
  | _, _, .nil, j, e => by simp at e
  | _, _, .cons q r, 0, e => by simp at e; subst e; exact ⟨_, rfl, q⟩
  | _, _, .cons q r, j + 1, e => by
    obtain ⟨v, e1, q1⟩ := dpa_at (i := i) r (j := j) (by simpa using e)
    exact ⟨v, by simpa using e1, q1⟩
def lookD {κ : Type} [DecidableEq κ] (kvs : List (κ × PyData)) (k : κ) : Option PyData := (kvs.find? fun kv => decide (kv.1 = k)).map (·.2)
theorem kds_look {κ : Type} [DecidableEq κ] {B : Hp} {ys : List (κ × V)} {kvs : List (κ × PyData)} (h : KDs B ys kvs) (k : κ) : (lookD kvs k = none ∧ valV ys k = none) ∨ ∃ v d, lookD kvs k = some d ∧ valV ys k = some v ∧ DD B v d := by
  induction h with
  | nil => exact .inl ⟨rfl, rfl⟩
  | cons q r ih =>
    rename_i p1 p2 l1 l2
    obtain ⟨e, q⟩ := q
    by_cases hk : p2.1 = k
    · have hk1 : p1.1 = k := e.trans hk
      exact .inr ⟨p1.2, p2.2, by unfold lookD; rw [List.find?_cons]; simp [hk], by unfold valV; rw [List.find?_cons]; simp [hk1], q⟩
    · have hk1 : ¬ p1.1 = k := fun z => hk (e ▸ z)
      have g1 : lookD (p2 :: l2) k = lookD l2 k := by unfold lookD; rw [List.find?_cons]; simp [hk]
      have g2 : valV (p1 :: l1) k = valV l1 k := by unfold valV; rw [List.find?_cons]; simp [hk1]
      rw [g1, g2]; exact ih
def keyD : PyData → Option Key
  | .int i => some (.inl i)
  | .str x => some (.inr x)
  | _ => none
theorem key_dd {B : Hp} {v : V} {d : PyData} {k : Key} (e : keyD d = some k) (h : DD B v d) : v = kV k := by
  cases h with
  | int i => cases e; rfl
  | str x => cases e; rfl
  | _ => cases e
def keysD : List PyData → Option (List Key)
  | [] => some []
  | d :: ds => (keyD d).bind fun k => (keysD ds).map fun ks => k :: ks
theorem keys_dd {B : Hp} : ∀ {ds : List PyData} {vs : List V} {ks : List Key}, keysD ds = some ks → DDs B vs ds → vs = ks.map kV
  | [], _, _, e, q => by cases e; cases q; rfl
  | d :: ds, _, _, e, q => by
    cases q with
    | cons q1 q2 =>
      simp only [keysD] at e
      obtain ⟨k, e1, e⟩ := Option.bind_eq_some_iff.mp e
      obtain ⟨ks, e2, e⟩ := Option.map_eq_some_iff.mp e
      cases e
      rw [key_dd e1 q1, keys_dd e2 q2]; rfl
/-- what a dict has under a thing: none where the thing can't be a key here -/
def dgetF : Vw → PyData → Option (Option PyData)
  | .k kvs, d => (keyD d).map fun k => lookD kvs k
  | .t kvs, .tuple ds => (keysD ds).map fun ks => lookD kvs ks
  | _, _ => none
theorem dget_ok {K : PySem.W.Frag} {B H : Hp} {x y : V} {w : Vw} {d : PyData} {o : Option PyData} (sB : Same B H) (ox : OV K B H x w) (oy : OV K B H y (.d d)) (e : dgetF w d = some o) : ∃ a ov, x = .ref a ∧ DGet H a y ov ∧ ((o = none ∧ ov = none) ∨ ∃ v d', o = some d' ∧ ov = some v ∧ DD B v d') := by
  unfold dgetF at e
  split at e
  · obtain ⟨k, e1, e⟩ := Option.map_eq_some_iff.mp e
    obtain ⟨a, ys, rfl, e2, q⟩ := ox
    have ey : y = kV k := by
      rcases oy with oy | ⟨_, _, _, _, z, _⟩
      · exact key_dd e1 oy
      · subst z; cases e1
    subst ey
    refine ⟨a, valV ys k, rfl, DGet.k e2, ?_⟩
    rcases kds_look q k with ⟨z1, z2⟩ | ⟨v, d', z1, z2, q2⟩
    · exact .inl ⟨by rw [← e, z1], z2⟩
    · exact .inr ⟨v, d', by rw [← e, z1], z2, q2⟩
  · obtain ⟨ks, e1, e⟩ := Option.map_eq_some_iff.mp e
    obtain ⟨a, ys, rfl, e2, q⟩ := ox
    obtain ⟨p, xs, rfl, hp, qx⟩ := ov_tup oy
    have ex := keys_dd e1 qx
    subst ex
    refine ⟨a, valV ys ks, rfl, DGet.t e2 (sB _ _ hp), ?_⟩
    rcases kds_look q ks with ⟨z1, z2⟩ | ⟨v, d', z1, z2, q2⟩
    · exact .inl ⟨by rw [← e, z1], z2⟩
    · exact .inr ⟨v, d', by rw [← e, z1], z2, q2⟩
  · cases e
def idxD (d : PyData) (i : Int) : Option PyData := match d with
  | .list ds => atI ds i
  | .tuple ds => atI ds i
  | .str x => if x.length ≤ sizeLine then (atI x.cps.toList i).map fun c => .str ⟨#[c]⟩ else none
  | _ => none
def idxF : Vw → Vw → Option Rv
  | .d d, .d (.int i) => (idxD d i).map .val
  | .w d, .d (.int i) => (idxD d i).bind fun e => if scalar e then some (.val e) else none
  | .k kvs, .d d => ((dgetF (.k kvs) d).bind id).map .val
  | .t kvs, .d d => ((dgetF (.t kvs) d).bind id).map .val
  | _, _ => none
def IxS (S : Sg) (f : Vw → Vw → Option Rv) : Prop := ∀ c, S.ok c → IxR (S.g.cx c) (rF S.g.K f)
theorem ix_all {S : Sg} : IxS S idxF := by
  rintro c hc value slice pins s σ H x y v u Q I rx ry ⟨B, a, b, rv, sB, oa, ob, e, k⟩ hs
  have dict : ∀ {w : Vw} {d : PyData}, OV S.g.K B H x w → OV S.g.K B H y (.d d) → ((dgetF w d).bind id).map Rv.val = some rv → wpAny (model S.g.P S.g.w) c.A (subscriptTail value slice v u) (EP (S.g.cx c) pins σ Q) c.xe s := by
    intro w d ox oy e
    obtain ⟨d', e1, e⟩ := Option.map_eq_some_iff.mp e
    subst e
    obtain ⟨o, e2, e3⟩ := Option.bind_eq_some_iff.mp e1
    have e3 : o = some d' := e3
    subst e3
    obtain ⟨p, ov, rfl, g, z⟩ := dget_ok sB ox oy e2
    rcases z with ⟨z, _⟩ | ⟨v', d2, z, z2, q⟩
    · cases z
    · cases z
      subst z2
      cases rx
      exact tail_any (dict_typeIs I g) F.slot_dict_getitem.lookup (d_getItem (hu_of hc.room) I g ry fun w' s3 I3 rw' => ⟨v', H, I3, rw', k _ q⟩) hs
  unfold idxF at e
  split at e
  · obtain ⟨d, e1, e⟩ := Option.map_eq_some_iff.mp e
    cases e
    cases ov_int ob
    unfold idxD at e1
    split at e1
    · obtain ⟨p, xs, rfl, hp, qx⟩ := ov_lst sB oa
      obtain ⟨z, e2, qz⟩ := dds_at qx e1
      exact ix_list value slice pins s σ H _ _ v u Q I rx ry ⟨p, xs, _, z, rfl, rfl, .inl hp, e2, k _ qz⟩ hs
    · obtain ⟨p, xs, rfl, hp, qx⟩ := ov_tup oa
      obtain ⟨z, e2, qz⟩ := dds_at qx e1
      exact ix_tup value slice pins s σ H _ _ v u Q I rx ry ⟨p, xs, _, z, rfl, rfl, SqT.of (sB _ _ hp), e2, k _ qz⟩ hs
    · split at e1
      · obtain ⟨cc, e2, e1⟩ := Option.map_eq_some_iff.mp e1
        subst e1
        cases ov_str oa
        exact ix_str value slice pins s σ H _ _ v u Q I rx ry ⟨_, _, cc, rfl, rfl, by assumption, e2, k _ (.str _)⟩ hs
      · cases e1
    · cases e1
  · obtain ⟨d, e1, e⟩ := Option.bind_eq_some_iff.mp e
    split at e
    · rename_i hsc
      cases e
      cases ov_int ob
      have oa : Dp S.g.K (fun _ => none) x _ := oa
      unfold idxD atI at e1
      split at e1
      · obtain ⟨j, e2, e3⟩ := Option.bind_eq_some_iff.mp e1
        cases oa with
        | lst r3 q3 =>
          obtain ⟨z, e4, qz⟩ := dpa_at (i := 0) q3 e3
          exact ix_list value slice pins s σ H _ _ v u Q I rx ry ⟨_, _, _, z, rfl, rfl, L2.Same.seq (fun _ _ z => by cases z) r3, by unfold atI; rw [dpa_length q3, e2]; exact e4, k _ (DW.scal qz hsc)⟩ hs
      · obtain ⟨j, e2, e3⟩ := Option.bind_eq_some_iff.mp e1
        cases oa with
        | tup r3 q3 =>
          obtain ⟨z, e4, qz⟩ := dpa_at (i := 0) q3 e3
          refine ix_tup value slice pins s σ H _ _ v u Q I rx ry ⟨_, _, _, z, rfl, rfl, ?_, by unfold atI; rw [dpa_length q3, e2]; exact e4, k _ (DW.scal qz hsc)⟩ hs
          rcases r3 with r3 | r3
          · exact .inl (same_rd (B := fun _ => none) (fun _ _ z => by cases z) r3)
          · exact .inr r3
      · split at e1
        · obtain ⟨cc, e2, e1⟩ := Option.map_eq_some_iff.mp e1
          subst e1
          cases oa
          exact ix_str value slice pins s σ H _ _ v u Q I rx ry ⟨_, _, cc, rfl, rfl, by assumption, e2, k _ (.str _)⟩ hs
        · cases e1
      · cases e1
    · cases e
  · exact dict oa ob e
  · exact dict oa ob e
  · cases e
section
variable {S : Sg}
theorem de_ix {a b : Expr} {wa wb : WE} {pos : Pos} (ha : DE S a wa) (hb : DE S b wb) (hs : PlainIx b := by intro _ _; rfl) : DE S (.Subscript a b pos) (wOp idxF wa wb) := by
  obtain ⟨ta, pa, sa⟩ := ha
  obtain ⟨tb, pb, sb⟩ := hb
  exact ⟨_, fun c hc => pe_ix (ix_all c hc) (pa c hc) (pb c hc) hs, sim_op sa sb⟩
end

/-! ### slices -/
abbrev WO := XP → SEnv → (Option Int → SEnv → Prop) → Prop
structure OSim (K : PySem.W.Frag) (E : XK) (t : TO) (W : WO) : Prop where
  mono : ∀ (Ex Ex' : XP) (δ : SEnv) (P P' : Option Int → SEnv → Prop), (∀ e, Ex e → Ex' e) → (∀ r δ', P r δ' → P' r δ') → W Ex δ P → W Ex' δ P'
  run : ∀ (Ex : XP) (F B H : Hp) (vs : List V) (σ : L2.St) (δ : SEnv) (P : Option Int → SEnv → Prop) (Q : Option Int → Hp → Prop), XOk F B E Ex → Rep K F B H vs σ δ → W Ex δ P →
    (∀ B' H' o δ', Same B B' → Rep K F B' H' vs σ δ' → P o δ' → Q o H') → t σ H Q
def DO (S : Sg) (e : Option Expr) (W : WO) : Prop := ∃ t, (∀ c, S.ok c → PO (S.g.cx c) e t) ∧ OSim S.g.K S.E t W
def intV : Vw → Option Int
  | .d (.int i) => some i
  | _ => none
def wNoP : WO := fun _ δ P => P none δ
def wPart (wa : WE) : WO := fun Ex δ P => wa Ex δ fun r δ1 => ob (view δ1 r) fun w => ob (intV w) fun i => P (some i) δ1
theorem intV_ok {K : PySem.W.Frag} {B H : Hp} {v : V} {w : Vw} {i : Int} (o : OV K B H v w) (e : intV w = some i) : v = .int i := by
  unfold intV at e
  split at e
  · cases e; exact ov_int o
  · cases e
def cutL {α : Type} (xs : List α) (lo hi : Option Int) : List α := (xs.drop (HT.sIx xs.length 0 lo)).take (HT.sIx xs.length xs.length hi - HT.sIx xs.length 0 lo)
theorem dds_cut {B : Hp} {xs : List V} {ds : List PyData} (q : DDs B xs ds) (lo hi : Option Int) : DDs B (cutV xs lo hi) (cutL ds lo hi) := by
  unfold cutV cutL
  rw [q.length]
  exact (q.drop _).take _
theorem cut_all {α : Type} {xs : List α} {lo hi : Option Int} (h : HT.sIx xs.length 0 lo = 0 ∧ HT.sIx xs.length xs.length hi = xs.length) : cutL xs lo hi = xs := by
  unfold cutL
  rw [h.1, h.2, List.drop_zero]
  simp
def slF (lo hi : Option Int) : Vw → Option Rv
  | .d (.list ds) => some (.lst (cutL ds lo hi))
  | .d (.tuple ds) => some (.tup (cutL ds lo hi))
  | .d (.str x) => if x.length ≤ sizeLine then some (.val (.str (cutS x lo hi))) else none
  | .w (.list ds) => if ds.all scalar then some (.lst (cutL ds lo hi)) else none
  | _ => none
def rSl (K : PySem.W.Frag) : V → Option Int → Option Int → Hp → VK → Prop := fun x lo hi H Q => ∃ B a rv, Same B H ∧ OV K B H x a ∧ slF lo hi a = some rv ∧ RvK B H Q rv
theorem sl_all {X : Cx} : SlR X (rSl X.K) := by
  rintro pins s σ H x v vl vu lo hi sl Q I rx hs pl pu ⟨B, a, rv, sB, oa, e, k⟩
  unfold slF at e
  split at e
  · cases e
    obtain ⟨p, xs, rfl, hp, qx⟩ := ov_lst sB oa
    exact sl_list pins s σ H _ v vl vu lo hi sl Q I rx hs pl pu ⟨p, xs, rfl, .inl hp, fun l hl => k l _ hl (dds_cut qx lo hi)⟩
  · cases e
    obtain ⟨p, xs, rfl, hp, qx⟩ := ov_tup oa
    refine sl_tupA pins s σ H _ v vl vu lo hi sl Q I rx hs pl pu ⟨p, xs, rfl, SqT.of (sB _ _ hp), fun hw => k.1 _ ?_, fun _ l hl => k.2 l _ hl (dds_cut qx lo hi)⟩
    rw [qx.length] at hw
    rw [cut_all hw]
    exact .tup hp qx
  · split at e
    · cases e
      cases ov_str oa
      exact sl_str pins s σ H _ v vl vu lo hi sl Q I rx hs pl pu ⟨_, rfl, by assumption, k _ (.str _)⟩
    · cases e
  · split at e
    · rename_i hsc
      cases e
      have oa : Dp X.K (fun _ => none) x _ := oa
      cases oa with
      | lst r3 q3 => exact sl_list pins s σ H _ v vl vu lo hi sl Q I rx hs pl pu ⟨_, _, rfl, L2.Same.seq (fun _ _ z => by cases z) r3, fun l hl => k l _ hl (dds_cut (dp_items q3 hsc B) lo hi)⟩
    · cases e
  · cases e
def wSl (wa : WE) (wl wh : WO) : WE := fun Ex δ P => wa Ex δ fun ra δ1 => ob (settle ra) fun r' => wl Ex δ1 fun lo δ2 => wh Ex δ2 fun hi δ3 => ob (view δ3 r') fun a => ob (slF lo hi a) fun rv => P rv.r δ3
section
variable {S : Sg}
theorem do_none : DO S none wNoP := ⟨tNoPart, fun _ _ => po_none, ⟨fun _ _ _ _ _ _ h w => h _ _ w, fun Ex F B H vs σ δ P Q hx h w k => k B H none δ (Same.refl _) h w⟩⟩
theorem do_some {e : Expr} {wa : WE} (h : DE S e wa) : DO S (some e) (wPart wa) := by
  obtain ⟨t, p, s⟩ := h
  refine ⟨_, fun c hc => po_some (p c hc), ⟨fun Ex Ex' δ P P' hx h w => s.mono _ _ _ _ _ hx (fun r δ1 w => w.imp fun v w => w.imp fun i w => h _ _ w) w, fun Ex F B H vs σ δ P Q hx h w k => ?_⟩⟩
  refine s.run _ _ _ _ _ _ _ _ _ hx h w fun B1 H1 v r δ1 s1 h1 q1 w1 => ?_
  obtain ⟨vw, e1, i, e2, w1⟩ := w1
  exact ⟨i, intV_ok (view_ok h1 q1 e1) e2, k B1 H1 (some i) δ1 s1 h1 w1⟩
theorem de_sl {a : Expr} {lo hi : Option Expr} {wa : WE} {wl wh : WO} {p2 pos : Pos} (ha : DE S a wa) (hl : DO S lo wl) (hh : DO S hi wh) : DE S (.Subscript a (.Slice lo hi none p2) pos) (wSl wa wl wh) := by
  obtain ⟨ta, pa, sa⟩ := ha
  obtain ⟨tl, pl, sl⟩ := hl
  obtain ⟨th, ph, sh⟩ := hh
  refine ⟨tSl (rSl S.g.K) ta tl th, fun c hc => pe_slice (X := S.g.cx c) sl_all (pa c hc) (pl c hc) (ph c hc), ⟨fun Ex Ex' δ P P' hx h w => ?_, fun Ex F B H vs σ δ P Q hx h w k => ?_⟩⟩
  · refine sa.mono _ _ _ _ _ hx (fun r δ1 w => w.imp fun r' w => ?_) w
    refine sl.mono _ _ _ _ _ hx (fun lo δ2 w => ?_) w
    exact sh.mono _ _ _ _ _ hx (fun hi δ3 w => w.imp fun a w => w.imp fun rv w => h _ _ w) w
  · refine sa.run _ _ _ _ _ _ _ _ _ hx h w fun B1 H1 x ra δ1 s1 h1 q1 w1 => ?_
    obtain ⟨r', e1, w1⟩ := w1
    obtain ⟨B2, s2, h2, q2, n2⟩ := settle_ok h1 q1 e1
    refine sl.run _ _ _ _ _ _ _ _ _ (hx.up (s1.trans s2)) h2 w1 fun B3 H3 l δ2 s3 h3 w3 => ?_
    refine sh.run _ _ _ _ _ _ _ _ _ (hx.up ((s1.trans s2).trans s3)) h3 w3 fun B4 H4 u δ3 s4 h4 w4 => ?_
    obtain ⟨a, e2, rv, e4, w4⟩ := w4
    have q4 := RepR.up (H' := H4) (s3.trans s4) q2 n2 (δ' := δ3)
    exact ⟨B4, a, rv, h4.sb, view_ok h4 q4 e2, e4, rvk_ok (((s1.trans s2).trans s3).trans s4) h4 w4 k⟩
end

/-! ### in -/
theorem eqV_eqv {B : Hp} {x y : V} {d e : PyData} (hx : DD B x d) (hy : DD B y e) (fx : flatV x = true) (fy : flatV y = true) : eqV x y = PyData.eqv d e := by
  cases hx <;> cases hy <;> first | rfl | (cases fx; done) | (cases fy; done) | simp [eqV, PyData.eqv]
theorem inV_any {B : Hp} {x : V} {d : PyData} (hx : DD B x d) (fx : flatV x = true) : ∀ {xs : List V} {ds : List PyData}, DDs B xs ds → xs.all flatV = true → inV x xs = ds.any fun z => PyData.eqv z d
  | _, _, .nil, _ => rfl
  | _, _, .cons q r, h => by
    rw [List.all_cons, Bool.and_eq_true] at h
    unfold inV
    rw [List.any_cons, List.any_cons, eqV_eqv q hx h.1 fx]
    have := inV_any hx fx r h.2
    unfold inV at this
    rw [this]
theorem flat_scal {B : Hp} {v : V} {d : PyData} (h : DD B v d) (e : scalar d = true) : flatV v = true := by
  cases h <;> first | rfl | cases e
theorem flats {B : Hp} : ∀ {vs : List V} {ds : List PyData}, DDs B vs ds → ds.all scalar = true → vs.all flatV = true
  | _, _, .nil, _ => rfl
  | _, _, .cons q r, h => by
    rw [List.all_cons, Bool.and_eq_true] at h ⊢
    exact ⟨flat_scal q h.1, flats r h.2⟩
def subIn (a b : Str) : Bool := !(Builtin.Str.occurrences b a 0 b.length 1).isEmpty
def inB : Vw → Vw → Option Bool
  | .d d, .d (.list ds) => if SeqAt.shaped d && SeqAt.shaped (.list ds) then some (ds.any fun z => PyData.eqv z d) else none
  | .d d, .d (.tuple ds) => if scalar d && ds.all scalar then some (ds.any fun z => PyData.eqv z d) else none
  | .d (.str a), .d (.str b) => some (subIn a b)
  | .d d, .k kvs => (dgetF (.k kvs) d).map (·.isSome)
  | .d d, .t kvs => (dgetF (.t kvs) d).map (·.isSome)
  | _, _ => none
def inG (neg : Bool) : Vw → Vw → Option Rv := fun a b => (inB a b).map fun r => .val (.bool (if neg then !r else r))
theorem os_in_ {S : Sg} (neg : Bool) : OpS S (compareOp (if neg then .NotIn else .In)) (inG neg) := by
  rintro c hc pins s σ H x y v u Q I rx ry ⟨B, a, b, rv, sB, oa, ob, e, k⟩
  unfold inG at e
  obtain ⟨r, e1, e2⟩ := Option.map_eq_some_iff.mp e
  clear e
  have e := e1
  clear e1
  subst e2
  have hu : (S.g.cx c).A.units + 65 < cLine := by have := hc.room.un; show c.A.units + 65 < cLine; omega
  have dict : ∀ {w : Vw} {d : PyData}, OV S.g.K B H x (.d d) → OV S.g.K B H y w → (dgetF w d).map (·.isSome) = some r → wpAny (model S.g.P S.g.w) c.A (compareOp (if neg then .NotIn else .In) v u) (EP (S.g.cx c) pins σ Q) c.xe s := by
    intro w d ox oy e
    obtain ⟨o, e2, e3⟩ := Option.map_eq_some_iff.mp e
    obtain ⟨p, ov, rfl, g, z⟩ := dget_ok sB oy ox e2
    have ei : ov.isSome = r := by
      rw [← e3]
      rcases z with ⟨z1, z2⟩ | ⟨_, _, z1, z2, _⟩ <;> rw [z1, z2] <;> rfl
    cases ry
    cases neg
    · exact d_in (hu_of hc.room) I g rx fun s3 I3 => ⟨.bl ov.isSome, H, I3, rfl, by rw [ei]; exact k _ (.bl _)⟩
    · exact d_notIn (hu_of hc.room) I g rx fun s3 I3 => ⟨.bl (!ov.isSome), H, I3, rfl, by rw [ei]; exact k _ (.bl _)⟩
  unfold inB at e
  split at e
  · split at e
    · rename_i hs
      cases e
      rw [Bool.and_eq_true] at hs
      cases neg
      · exact op_inD hu pins s σ H _ _ v u Q I rx ry ⟨_, _, OV.dp sB oa, OV.dp sB ob, hs.1, hs.2, k _ (.bl _)⟩
      · exact op_notInD hu pins s σ H _ _ v u Q I rx ry ⟨_, _, OV.dp sB oa, OV.dp sB ob, hs.1, hs.2, k _ (.bl _)⟩
    · cases e
  · split at e
    · rename_i d1 ds1 hs
      cases e
      rw [Bool.and_eq_true] at hs
      obtain ⟨p, xs, rfl, hp, qx⟩ := ov_tup ob
      have qd : DD B x d1 := by
        rcases oa with oa | ⟨_, _, _, _, z, _⟩
        · exact oa
        · subst z; cases hs.1
      have f1 := flat_scal qd hs.1
      have f2 := flats qx hs.2
      have ei := inV_any qd f1 qx f2
      cases neg
      · exact op_in_seq pins s σ H _ _ v u Q I rx ry ⟨p, xs, rfl, .inr (SqT.of (sB _ _ hp)), f1, f2, by rw [ei]; exact k _ (.bl _)⟩
      · exact op_notIn_seq pins s σ H _ _ v u Q I rx ry ⟨p, xs, rfl, .inr (SqT.of (sB _ _ hp)), f1, f2, by rw [ei]; exact k _ (.bl _)⟩
    · cases e
  · cases e
    cases ov_str oa; cases ov_str ob
    cases neg
    · exact op_in_str pins s σ H _ _ v u Q I rx ry ⟨_, _, rfl, rfl, k _ (.bl _)⟩
    · exact op_notin_str pins s σ H _ _ v u Q I rx ry ⟨_, _, rfl, rfl, k _ (.bl _)⟩
  · exact dict oa ob e
  · exact dict oa ob e
  · cases e
theorem os_in {S : Sg} : OpS S (compareOp .In) (inG false) := os_in_ false
theorem os_notin {S : Sg} : OpS S (compareOp .NotIn) (inG true) := os_in_ true
end DL
set_option Elab.async false
set_option linter.all false
set_option maxRecDepth 100000
set_option maxHeartbeats 4000000
set_option autoImplicit false
namespace DL
open PySem PySem.Spec PyProof.Rows L2

/-! ### a < b < c -/
def wChn (f f' : Vw → Vw → Option Rv) (wa wb wc : WE) : WE := fun Ex δ P => wa Ex δ fun ra δ1 => ob (settle ra) fun ra' => wb Ex δ1 fun rb δ2 => ob (settle rb) fun rb' => ob (view δ2 ra') fun a => ob (view δ2 rb') fun b => ob (f a b) fun rv => ob (isB rv.r) fun k =>
  if k = true then wc Ex δ2 fun rc δ3 => ob (view δ3 rb') fun b' => ob (view δ3 rc) fun c => ob (f' b' c) fun rv' => P rv'.r δ3 else P (.d (.bool false)) δ2
theorem rvk_bool {K : PySem.W.Frag} {F B0 B H : Hp} {vs : List V} {σ : L2.St} {δ : SEnv} {rv : Rv} {k : Bool} (e : isB rv.r = some k) {Q : VK} (h : Q (.bl k) H) : RvK B H Q rv := by
  cases rv with
  | val d =>
    cases d with
    | bool b => cases e; intro z q; cases q; exact h
    | _ => cases e
  | _ => cases e
theorem sim_chn {K : PySem.W.Frag} {E : XK} {ta tb tc : TE} {wa wb wc : WE} {f f' : Vw → Vw → Option Rv} (sa : ESim K E ta wa) (sb : ESim K E tb wb) (sc : ESim K E tc wc) : ESim K E (tChain (rF K f) (rF K f') ta tb tc) (wChn f f' wa wb wc) := by
  refine ⟨fun Ex Ex' δ P P' hx h w => ?_, fun Ex F B H vs σ δ P Q hx h w k => ?_⟩
  · refine sa.mono _ _ _ _ _ hx (fun ra δ1 w => w.imp fun ra' w => ?_) w
    refine sb.mono _ _ _ _ _ hx (fun rb δ2 w => w.imp fun rb' w => w.imp fun a w => w.imp fun b w => w.imp fun rv w => w.imp fun kk w => ?_) w
    cases kk with
    | false => exact h _ _ w
    | true => exact sc.mono _ _ _ _ _ hx (fun rc δ3 w => w.imp fun b' w => w.imp fun c w => w.imp fun rv' w => h _ _ w) w
  · refine sa.run _ _ _ _ _ _ _ _ _ hx h w fun B1 H1 x ra δ1 s1 h1 q1 w1 => ?_
    obtain ⟨ra', e1, w1⟩ := w1
    obtain ⟨B2, s2, h2, q2, n2⟩ := settle_ok h1 q1 e1
    refine sb.run _ _ _ _ _ _ _ _ _ (hx.up (s1.trans s2)) h2 w1 fun B3 H3 y rb δ2 s3 h3 q3 w3 => ?_
    obtain ⟨rb', e2, a, e3, b, e4, rv, e5, kk, e6, w3⟩ := w3
    obtain ⟨B4, s4, h4, q4, n4⟩ := settle_ok h3 q3 e2
    have qa := RepR.up (H' := H3) (s3.trans s4) q2 n2 (δ' := δ2)
    have s14 := ((s1.trans s2).trans s3).trans s4
    refine ⟨B4, a, b, rv, h4.sb, view_ok h4 qa e3, view_ok h4 q4 e4, e5, rvk_bool (K := K) (F := F) (B0 := B) (vs := vs) (σ := σ) (δ := δ2) e6 ⟨kk, rfl, ?_⟩⟩
    cases kk with
    | false => exact k B4 H3 _ (.d (.bool false)) δ2 s14 h4 (DD.bl false) w3
    | true =>
      refine sc.run _ _ _ _ _ _ _ _ _ (hx.up s14) h4 w3 fun B5 H5 z rc δ3 s5 h5 q5 w5 => ?_
      obtain ⟨b', e7, c, e8, rv', e9, w5⟩ := w5
      have qb := RepR.up (H' := H5) s5 q4 n4 (δ' := δ3)
      exact ⟨B5, b', c, rv', h5.sb, view_ok h5 qb e7, view_ok h5 q5 e8, e9, rvk_ok (s14.trans s5) h5 w5 k⟩
section
variable {S : Sg}
theorem de_chn {a b c : Expr} {wa wb wc : WE} {pos : Pos} {op op' : CmpOp} {f f' : Vw → Vw → Option Rv} (ho : OpS S (compareOp op) f) (ho' : OpS S (compareOp op') f') (ha : DE S a wa) (hb : DE S b wb) (hc : DE S c wc)
    (hm : lastMarks [op, op'] [b, c] = false := by with_unfolding_all rfl) : DE S (.Compare a [op, op'] [b, c] pos) (wChn f f' wa wb wc) := by
  obtain ⟨ta, pa, sa⟩ := ha
  obtain ⟨tb, pb, sb⟩ := hb
  obtain ⟨tc, pc, sc⟩ := hc
  exact ⟨_, fun c hc => pe_chain (ho c hc) (ho' c hc) (pa c hc) (pb c hc) (pc c hc) hm, sim_chn sa sb sc⟩
theorem dt_chn {a b c : Expr} {wa wb wc : WE} {pos : Pos} {op op' : CmpOp} {f f' : Vw → Vw → Option Rv} (ho : OpS S (compareOp op) f) (ho' : OpS S (compareOp op') f') (ha : DE S a wa) (hb : DE S b wb) (hc : DE S c wc)
    (hm : lastMarks [op, op'] [b, c] = false := by with_unfolding_all rfl) : DT S (.Compare a [op, op'] [b, c] pos) (wB (wChn f f' wa wb wc)) := by
  obtain ⟨ta, pa, sa⟩ := ha
  obtain ⟨tb, pb, sb⟩ := hb
  obtain ⟨tc, pc, sc⟩ := hc
  exact ⟨_, fun c hc => pt_chain (ho c hc) (ho' c hc) (pa c hc) (pb c hc) (pc c hc) hm, sim_test (sim_chn sa sb sc)⟩

/-! ### isinstance -/
def tyD : PyData → String
  | .none => "NoneType"
  | .bool _ => "bool"
  | .int _ => "int"
  | .str _ => "str"
  | .list _ => "list"
  | .tuple _ => "tuple"
  | .dict _ => "dict"
def tyTab (a T : String) : Bool := a == T || (a == "bool" && T == "int")
def isT (T : String) (d : PyData) : Bool := tyTab (tyD d) T
def okT (T : String) : Bool := T == "bool" || T == "int" || T == "str" || T == "list" || T == "tuple" || T == "dict"
theorem kit_tab {T a : String} (h : okT T = true) (ha : okT a = true ∨ a = "NoneType") : kitB a T = some (tyTab a T) := by
  unfold okT at h ha
  simp only [Bool.or_eq_true, beq_iff_eq] at h ha
  rcases h with ((((h | h) | h) | h) | h) | h <;> subst h <;> rcases ha with (((((ha | ha) | ha) | ha) | ha) | ha) | ha <;> subst ha <;> decide +kernel
theorem kit_isT {T : String} (h : okT T = true) (d : PyData) : kitB (tyD d) T = some (isT T d) := kit_tab h (by cases d <;> first | exact .inl rfl | exact .inr rfl)
theorem tyx_dp {K : PySem.W.Frag} {B H : Hp} {v : V} {d : PyData} (s : Same B H) (h : DD B v d) : TyX K H v (.type (tyD d)) := by
  cases h with
  | non => exact .base .non
  | bl b => exact .base (.bl b)
  | int i => exact .base (.int i)
  | str x => exact .base (.str x)
  | lst r q =>
    rcases r with r | ⟨o, r⟩
    · exact .base (.lst (s _ _ r))
    · exact .base (.frz (s _ _ r))
  | tup r q => exact .base (.tup (s _ _ r))
theorem tyx_ov {K : PySem.W.Frag} {B H : Hp} {v : V} {d : PyData} (s : Same B H) (h : OV K B H v (.d d)) : TyX K H v (.type (tyD d)) ∧ ∀ kvs, d ≠ .dict kvs := by
  rcases h with h | ⟨a, xs, ds, rfl, rfl, e, _⟩
  · exact ⟨tyx_dp s h, fun kvs z => by subst z; cases h⟩
  · exact ⟨.base (.lst e), fun kvs z => by cases z⟩
def dV : Vw → Option PyData
  | .d d => some d
  | _ => none
def wIsi (T : String) (wa : WE) : WE := fun Ex δ P => wa Ex δ fun r δ1 => ob (view δ1 r) fun w => ob (dV w) fun d => P (.d (.bool (isT T d))) δ1
theorem de_isi {a : Expr} {wa : WE} {T : String} {x : Str} {p p2 pos : Pos} (hT : okT T = true) (hg : GlS S.sc "isinstance") (hm : S.g.mg "isinstance" = none) (hg2 : GlS S.sc x) (hm2 : S.g.mg x = none) (hv2 : bootBuiltins x = some (.type T)) (ha : DE S a wa)
    (hn2 : x ≠ "__name__" := by decide) (hd2 : (x == ("__debug__" : Str)) = false := by decide)
    (hs : ∀ env, starEach [a, .Name x p2] env = (false, eval a env) :: starEach [.Name x p2] env := by intro _; rfl) (hpl : ∀ env, (backTo pos (starEach [.Name x p2] env)).any (·.1) = false := by intro _; rfl) :
    DE S (.Call (.Name "isinstance" p) [a, .Name x p2] [] pos) (wIsi T wa) := by
  obtain ⟨ta, pa, sa⟩ := ha
  refine ⟨tCB (rIsi S.g.K) (tCons ta (tCons (tC (.ty T)) tNil)), fun c hc => ?_, ⟨fun Ex Ex' δ P P' hx h w => sa.mono _ _ _ _ _ hx (fun r δ1 w => w.imp fun v w => w.imp fun d w => h _ _ w) w, fun Ex F B H vs σ δ P Q hx h w k => ?_⟩⟩
  · exact pe_callB (X := S.g.cx c) call_isi (gl_of hc hg) hm (by decide +kernel) (pa_cons (pa c hc) (pa_cons (pe_bltn (gl_of hc hg2) hm2 hv2 rfl hn2 hd2) pa_nil) (hs _)) (by decide) (by decide) (hs _) (hpl _)
  · refine sa.run _ _ _ _ _ _ _ _ _ hx h w fun B1 H1 v r δ1 s1 h1 q1 w1 => ?_
    obtain ⟨vw, e1, d, e2, w1⟩ := w1
    have o := view_ok h1 q1 e1
    cases vw with
    | d d' =>
      cases e2
      obtain ⟨t1, t2⟩ := tyx_ov h1.sb o
      exact ⟨v, .ty T, .type (tyD d), .type T, isT T d, rfl, .ty T, t1, kit_ty (kit_isT hT d), k B1 H1 _ (.d (.bool (isT T d))) δ1 s1 h1 (.bl _) w1⟩
    | _ => cases e2
end

/-! ### displays of dicts -/
def putD {κ : Type} [DecidableEq κ] (kvs : List (κ × PyData)) (k : κ) (d : PyData) : List (κ × PyData) :=
  if (kvs.any fun kv => decide (kv.1 = k)) = true then kvs.map (fun kv => if kv.1 = k then (kv.1, d) else kv) else kvs ++ [(k, d)]
theorem kds_any {κ : Type} [DecidableEq κ] {B : Hp} {ys : List (κ × V)} {kvs : List (κ × PyData)} (h : KDs B ys kvs) (k : κ) : (ys.any fun kv => decide (kv.1 = k)) = kvs.any fun kv => decide (kv.1 = k) := by
  induction h with
  | nil => rfl
  | cons q r ih => rw [List.any_cons, List.any_cons, ih, q.1]
theorem kds_map {κ : Type} [DecidableEq κ] {B : Hp} {ys : List (κ × V)} {kvs : List (κ × PyData)} (h : KDs B ys kvs) {k : κ} {v : V} {d : PyData} (q : DD B v d) : KDs B (ys.map fun kv => if kv.1 = k then (kv.1, v) else kv) (kvs.map fun kv => if kv.1 = k then (kv.1, d) else kv) := by
  induction h with
  | nil => exact .nil
  | cons q1 r ih =>
    rename_i p1 p2 l1 l2
    rw [List.map_cons, List.map_cons]
    refine .cons ?_ ih
    by_cases hk : p2.1 = k
    · rw [if_pos (q1.1.trans hk), if_pos hk]; exact ⟨q1.1, q⟩
    · rw [if_neg (fun z => hk (q1.1 ▸ z)), if_neg hk]; exact q1
theorem kds_app {κ : Type} {B : Hp} {ys zs : List (κ × V)} {kvs jvs : List (κ × PyData)} (h : KDs B ys kvs) (h2 : KDs B zs jvs) : KDs B (ys ++ zs) (kvs ++ jvs) := by
  induction h with
  | nil => exact h2
  | cons q r ih => exact .cons q ih
theorem kds_put {κ : Type} [DecidableEq κ] {B : Hp} {ys : List (κ × V)} {kvs : List (κ × PyData)} (h : KDs B ys kvs) {k : κ} {v : V} {d : PyData} (q : DD B v d) : KDs B (putK ys k v) (putD kvs k d) := by
  unfold putK putD
  rw [kds_any h k]
  split
  · exact kds_map h q
  · exact kds_app h (.cons ⟨rfl, q⟩ .nil)
def mergeD (kvs more : List (Key × PyData)) : List (Key × PyData) := more.foldl (fun acc kv => putD acc kv.1 kv.2) kvs
theorem kds_merge {B : Hp} {ys : List (Key × V)} {kvs : List (Key × PyData)} (h : KDs B ys kvs) : ∀ {y0 : List (Key × V)} {k0 : List (Key × PyData)}, KDs B y0 k0 → KDs B (mergeK y0 ys) (mergeD k0 kvs) := by
  induction h with
  | nil => intro y0 k0 h0; exact h0
  | cons q r ih =>
    intro y0 k0 h0
    unfold mergeK mergeD
    rw [List.foldl_cons, List.foldl_cons, q.1]
    exact ih (kds_put h0 q.2)
def wPairs : List (WE × WE) → XP → SEnv → (List (Key × PyData) → SEnv → Prop) → Prop
  | [], _, δ, P => P [] δ
  | (wk, wv) :: r, Ex, δ, P => wk Ex δ fun rk δ1 => ob (view δ1 rk) fun a => ob (dV a) fun dk => ob (keyD dk) fun k => wv Ex δ1 fun rv δ2 => ob (frz δ2 rv) fun p => wPairs r Ex p.2 fun kvs δ3 => P ((k, p.1) :: kvs) δ3
def wDisp (ps : List (WE × WE)) : WE := fun Ex δ P => wPairs ps Ex δ fun kvs δ1 => kvs.length ≤ 15 ∧ P (.n (.k (mergeD [] kvs))) δ1
def DPs (S : Sg) (pos : Pos) (keys : List (Option Expr)) (values : List Expr) (ws : List (WE × WE)) : Prop := ∃ trs : List (TE × TE), (∀ c, S.ok c → PPs (S.g.cx c) pos keys values trs) ∧ Paired (fun (t : TE × TE) (w : WE × WE) => ESim S.g.K S.E t.1 w.1 ∧ ESim S.g.K S.E t.2 w.2) trs ws
section
variable {S : Sg}
theorem dps_nil {pos : Pos} : DPs S pos [] [] [] := ⟨[], fun _ _ => pps_nil, .nil⟩
theorem dps_cons {pos : Pos} {k v : Expr} {ks : List (Option Expr)} {vs : List Expr} {wk wv : WE} {ws : List (WE × WE)} (hk : DE S k wk) (hv : DE S v wv) (hr : DPs S pos ks vs ws) : DPs S pos (some k :: ks) (v :: vs) ((wk, wv) :: ws) := by
  obtain ⟨tk, pk, sk⟩ := hk
  obtain ⟨tv, pv, sv⟩ := hv
  obtain ⟨tr, pr, sr⟩ := hr
  exact ⟨(tk, tv) :: tr, fun c hc => pps_cons (pk c hc) (pv c hc) (pr c hc), .cons ⟨sk, sv⟩ sr⟩
theorem pairs_mono {K : PySem.W.Frag} {E : XK} : ∀ {trs : List (TE × TE)} {ws : List (WE × WE)}, Paired (fun (t : TE × TE) (w : WE × WE) => ESim K E t.1 w.1 ∧ ESim K E t.2 w.2) trs ws → ∀ (Ex Ex' : XP) (δ : SEnv) (P P' : List (Key × PyData) → SEnv → Prop), (∀ e, Ex e → Ex' e) → (∀ r δ', P r δ' → P' r δ') → wPairs ws Ex δ P → wPairs ws Ex' δ P'
  | _, _, .nil, Ex, Ex', δ, P, P', hx, h, w => h _ _ w
  | _, _, .cons (b := (wk, wv)) q r, Ex, Ex', δ, P, P', hx, h, w => by
    refine q.1.mono _ _ _ _ _ hx (fun rk δ1 w => w.imp fun a w => w.imp fun dk w => w.imp fun k w => ?_) w
    refine q.2.mono _ _ _ _ _ hx (fun rv δ2 w => w.imp fun p w => ?_) w
    exact pairs_mono r Ex Ex' _ _ _ hx (fun kvs δ3 w => h _ _ w) w
theorem pairs_run {K : PySem.W.Frag} {E : XK} {vs : List V} {σ : L2.St} : ∀ {trs : List (TE × TE)} {ws : List (WE × WE)}, Paired (fun (t : TE × TE) (w : WE × WE) => ESim K E t.1 w.1 ∧ ESim K E t.2 w.2) trs ws → ∀ (Ex : XP) (F B H : Hp) (δ : SEnv) (P : List (Key × PyData) → SEnv → Prop) (Q : List (V × V) → Hp → Prop), XOk F B E Ex → Rep K F B H vs σ δ → wPairs ws Ex δ P →
    (∀ B' H' ys kvs δ', Same B B' → Rep K F B' H' vs σ δ' → KDs B' ys kvs → P kvs δ' → Q (ys.map fun kv => (kV kv.1, kv.2)) H') → tPairs trs σ H Q
  | _, _, .nil, Ex, F, B, H, δ, P, Q, hx, h, w, k => k B H [] [] δ (Same.refl _) h .nil w
  | _, _, .cons (a := (tk, tv)) (b := (wk, wv)) q r, Ex, F, B, H, δ, P, Q, hx, h, w, kk => by
    refine q.1.run _ _ _ _ _ _ _ _ _ hx h w fun B1 H1 x rk δ1 s1 h1 q1 w1 => ?_
    obtain ⟨a, e1, dk, e2, k, e3, w1⟩ := w1
    have o := view_ok h1 q1 e1
    have ex : x = kV k := by
      cases a with
      | d d =>
        cases e2
        rcases o with o | ⟨_, _, _, _, z, _⟩
        · exact key_dd e3 o
        · subst z; cases e3
      | _ => cases e2
    subst ex
    refine q.2.run _ _ _ _ _ _ _ _ _ (hx.up s1) h1 w1 fun B2 H2 y rv δ2 s2 h2 q2 w2 => ?_
    obtain ⟨⟨d, δ3⟩, e4, w2⟩ := w2
    obtain ⟨B3, s3, h3, q3⟩ := frz_ok h2 q2 e4
    refine pairs_run r Ex F B3 H2 δ3 _ _ (hx.up ((s1.trans s2).trans s3)) h3 w2 fun B4 H4 ys kvs δ4 s4 h4 q4 w4 => ?_
    exact kk B4 H4 ((k, y) :: ys) ((k, d) :: kvs) δ4 (((s1.trans s2).trans s3).trans s4) h4 (.cons ⟨rfl, q3.mono s4⟩ q4) w4
theorem de_disp {pos : Pos} {keys : List (Option Expr)} {values : List Expr} {ws : List (WE × WE)} (h : DPs S pos keys values ws) (hall : keys.all (·.isSome) = true := by rfl) (hl : keys.length = values.length := by rfl) (h0 : keys ≠ [] := by exact fun z => nomatch z) (h15 : keys.length ≤ 15 := by decide) : DE S (.Dict keys values pos) (wDisp ws) := by
  obtain ⟨trs, p, s⟩ := h
  refine ⟨tDisp trs, fun c hc => pe_disp (p c hc) hall hl h0 h15, ⟨fun Ex Ex' δ P P' hx h w => pairs_mono s Ex Ex' δ _ _ hx (fun kvs δ1 w => ⟨w.1, h _ _ w.2⟩) w, fun Ex F B H vs σ δ P Q hx h w k => ?_⟩⟩
  intro p hp
  refine pairs_run s Ex (upd F p (.dK [])) B _ δ _ _ (fun cls da B' H' fs fds t1 t2 t3 t4 t5 t6 t7 => hx cls da B' H' fs fds t1 t2 (fun a o e => t3 a o (by rw [upd_ne (ne_of_none e (nof h.sf hp))]; exact e)) (fun a o e => t4 a o (by rw [upd_ne (ne_of_none e (nof h.sf hp))]; exact e)) t5 t6 t7) (h.lay hp _) w fun B1 H1 ys kvs δ1 s1 h1 q1 w1 => ?_
  have e1 : H1 p = some (.dK []) := h1.sf p _ upd_same
  have hF : F p = none := nof h.sf hp
  refine ⟨e1, ys, rfl, by rw [kds_length q1]; exact w1.1, ?_⟩
  have h2 := (h1.relay (o' := .dK (mergeK [] ys))).unlay hF
  refine k B1 _ (.ref p) (.n (.k (mergeD [] kvs))) δ1 s1 h2 ⟨p, rfl, h1.dj p _ upd_same, hF, ⟨_, upd_same, kds_merge q1 .nil⟩, fun i b c' e2 e3 => ?_⟩ w1.2
  obtain ⟨v, e4, a, e5, _, hFa, _⟩ := h1.ok i _ e2
  rw [e3] at e4; cases e4; cases e5
  rw [upd_same] at hFa; cases hFa
theorem de_dnew {pos : Pos} : DE S (.Dict [] [] pos) (fun _ δ P => P (.n (.k [])) δ) := by
  refine ⟨tDNewK, fun c hc => pe_dnewK, ⟨fun Ex Ex' δ P P' hx h w => h _ _ w, fun Ex F B H vs σ δ P Q hx h w k => ?_⟩⟩
  intro p hp
  exact k B _ (.ref p) (.n (.k [])) δ (Same.refl _) (h.newO hp _) ⟨p, rfl, nof h.sb hp, nof h.sf hp, ⟨[], upd_same, .nil⟩, h.fresh hp⟩ w
theorem de_dnewT {pos : Pos} : DE S (.Dict [] [] pos) (fun _ δ P => P (.n (.t [])) δ) := by
  refine ⟨tDNewT, fun c hc => pe_dnewT, ⟨fun Ex Ex' δ P P' hx h w => h _ _ w, fun Ex F B H vs σ δ P Q hx h w k => ?_⟩⟩
  intro p hp
  exact k B _ (.ref p) (.n (.t [])) δ (Same.refl _) (h.newO hp _) ⟨p, rfl, nof h.sb hp, nof h.sf hp, ⟨[], upd_same, .nil⟩, h.fresh hp⟩ w
end
end DL
set_option Elab.async false
set_option linter.all false
set_option maxRecDepth 100000
set_option maxHeartbeats 4000000
set_option autoImplicit false
namespace DL
open PySem PySem.Spec PyProof.Rows L2

section
variable {K : PySem.W.Frag} {F B H : Hp} {vs : List V} {σ : L2.St} {δ : SEnv}
/-- an object of one's own is changed -/
theorem Rep.mutate (h : Rep K F B H vs σ δ) {i : Nat} {a : Addr} {b : Bool} {c c' : Cont} {o : HO} (e : δ[i]? = some (some (.o b c))) (ea : σ[i]? = some (some (.ref a))) (q : ContOk B (upd H a o) a c') :
    Rep K F B (upd H a o) vs σ (δ.set i (some (.o b c'))) := by
  obtain ⟨v0, e0, a0, e1, hB, hF, _⟩ := h.ok i _ e
  rw [ea] at e0; cases e0; cases e1
  refine ⟨fun p u z => ?_, fun p u z => ?_, h.dj, by rw [List.length_set]; exact h.len, fun j s z => ?_, fun j k p b1 c1 b2 c2 z1 z2 z3 z4 => ?_, fun j c1 z => ?_⟩
  · rw [upd_ne (ne_of_none z hB)]; exact h.sb p u z
  · rw [upd_ne (ne_of_none z hF)]; exact h.sf p u z
  · rcases set_get z with ⟨ej, z'⟩ | ⟨n, z'⟩
    · subst ej; cases z'; exact ⟨_, ea, a, rfl, hB, hF, q⟩
    · obtain ⟨v, e2, q2⟩ := h.ok j s z'
      refine ⟨v, e2, ?_⟩
      cases s with
      | d d => exact q2
      | w d => exact q2
      | o b2 c2 =>
        obtain ⟨p, e3, hB2, hF2, q3⟩ := q2
        subst e3
        have hp : p ≠ a := fun w => by subst w; exact n (h.apart j i p b2 c2 b c z' e e2 ea)
        exact ⟨p, rfl, hB2, hF2, q3.mono (Same.refl _) (upd_ne hp)⟩
  · rcases set_get z1 with ⟨ej, y1⟩ | ⟨nj, y1⟩
    · rcases set_get z2 with ⟨ek, y2⟩ | ⟨nk, y2⟩
      · rw [ej, ek]
      · cases y1; subst ej
        exact h.apart _ k p _ c _ c2 e y2 z3 z4
    · rcases set_get z2 with ⟨ek, y2⟩ | ⟨nk, y2⟩
      · cases y2; subst ek
        exact h.apart j _ p b1 c1 _ c y1 e z3 z4
      · exact h.apart j k p b1 c1 b2 c2 y1 y2 z3 z4
  · rcases set_get z with ⟨ej, z'⟩ | ⟨n, z'⟩
    · subst ej; cases z'; exact h.bor _ c e
    · exact h.bor j c1 z'
theorem own_at (h : Rep K F B H vs σ δ) {i : Nat} {b : Bool} {c : Cont} {v : V} (e : δ[i]? = some (some (.o b c))) (ev : σ[i]? = some (some v)) : ∃ a, v = .ref a ∧ B a = none ∧ F a = none ∧ ContOk B H a c := by
  obtain ⟨v0, e0, q⟩ := h.ok i _ e
  rw [ev] at e0; cases e0
  exact q
end
/-! ### xs.append(e), xs.extend(ys), xs.pop() -/
def ownL (δ : SEnv) (i : Nat) : Option (Bool × List PyData) := match δ[i]? with
  | some (some (.o b (.l ds))) => some (b, ds)
  | _ => none
theorem ownL_at {δ : SEnv} {i : Nat} {b : Bool} {ds : List PyData} (h : ownL δ i = some (b, ds)) : δ[i]? = some (some (.o b (.l ds))) := by
  unfold ownL at h
  split at h
  · cases h; assumption
  · cases h
def wApp (i : Nat) (wa : WE) : WE := fun Ex δ P => ob (ownL δ i) fun _ => wa Ex δ fun r δ1 => ob (frz δ1 r) fun p => ob (ownL p.2 i) fun q => q.2.length < sizeLine ∧ P (.d .none) (p.2.set i (some (.o q.1 (.l (q.2 ++ [p.1])))))
def wExt (i : Nat) (wa : WE) : WE := fun Ex δ P => ob (ownL δ i) fun _ => wa Ex δ fun r δ1 => ob (frz δ1 r) fun p => ob (match p.1 with | .list ds => some ds | _ => none) fun zs => ob (ownL p.2 i) fun q => q.2.length + zs.length ≤ sizeLine ∧ P (.d .none) (p.2.set i (some (.o q.1 (.l (q.2 ++ zs)))))
def wPop (i : Nat) : WE := fun Ex δ P => ob (ownL δ i) fun q => ob (q.2[q.2.length - 1]?) fun d => P (.d d) (δ.set i (some (.o q.1 (.l q.2.dropLast))))
theorem mt_extendRd {X : Cx} : MtR X "list.extend" fun x vs H Q => ∃ l b xs zs, x = .ref l ∧ vs = [.ref b] ∧ H l = some (.lst xs) ∧ Rd H b (.lst zs) ∧ xs.length + zs.length ≤ sizeLine ∧ Q .non (upd H l (.lst (xs ++ zs))) := by
  rintro pins s σ H x vs v us Q I rx rv ⟨l, b, xs, zs, rfl, rfl, hl, hb, hz, q⟩
  cases rx
  obtain ⟨u, rfl, ru⟩ := rv.one
  cases ru
  obtain ⟨z1, its, n, r, e⟩ := I.hok l _ hl
  obtain ⟨z2, its2, n2, r2, e2⟩ := hb.ok I.hok
  have l1 := r.length
  have l2 := r2.length
  have tot : its.toArray.size + its2.toArray.size ≤ sizeLine := by rw [List.size_toArray, List.size_toArray]; omega
  refine call_meets F.slot_list_extend ⟨_, e, rfl⟩ F.entry_list_extend (F.args_list_extend_2 _ _) (AutoSeq1.list_extend_list_list_0 l its.toArray n b its2.toArray n2 (by rw [notLongL tot, Bool.and_false]; exact Bool.false_ne_true) (by rw [List.size_toArray]; omega) (by omega)) ⟨e, e2, ?_⟩
  exact ⟨.non, _, I.lset (its' := its ++ its2) hl e (by simp) (r.append r2) (by rw [List.length_append]; omega), rfl, q⟩
section
variable {S : Sg}
theorem vis_v {c : Cl} (hc : S.ok c) {i : Nat} {x : Str} {p : Pos} (hN : S.N[i]? = some x) (hv : Vis S.sc x) (hd : (x == ("__debug__" : Str)) = false) (hcd : (x == ("__classdict__" : Str)) = false) : PE (S.g.cx c) (.Name x p) (tVar i) :=
  pe_var (by show c.N[i]? = _; rw [hc.hN]; exact hN) (by show Vis c.env.scope x; rw [hc.hs]; exact hv) hd hcd
/-- how a method with one argument is called on a name -/
def few (cpos : Pos) (e : Expr) : Prop := ∀ env, ((backTo cpos (starEach [e] env)).all (fun x => !x.1) && (backToKw cpos (keywordEach [] env)).all (fun x => x.1.isSome) && decide ([e].length + ([] : List Keyword).length + (if ([] : List Keyword).isEmpty then 0 else 1) < 30)) = true
theorem de_app {i : Nat} {x : Str} {e : Expr} {wa : WE} {p apos cpos : Pos} (hN : S.N[i]? = some x) (hv : Vis S.sc x) (ha : DE S e wa) (hd : (x == ("__debug__" : Str)) = false := by decide) (hcd : (x == ("__classdict__" : Str)) = false := by decide)
    (hb : ∀ env, attributeBase (.Name x p) "append" env (eval (.Name x p) env) = eval (.Name x p) env := by intro _; rfl) (hf : few cpos e := by intro _; rfl) (hl : (apos.endLine == cpos.line) = true := by rfl)
    (hs : ∀ env, starEach [e] env = (false, eval e env) :: starEach [] env := by intro _; rfl) (hp : ∀ env, (backTo cpos (starEach [] env)).any (·.1) = false := by intro _; rfl) :
    DE S (.Call (.Attribute (.Name x p) "append" apos) [e] [] cpos) (wApp i wa) := by
  obtain ⟨t, pa, s⟩ := ha
  refine ⟨tBM S.g.K "list" rAppend (tVar i) (tCons t tNil), fun c hc => pe_bm (X := S.g.cx c) PySem.F.plainAttrs_list PySem.F.slot_list_append PySem.F.type_list_append mt_append (vis_v hc hN hv hd hcd) (pa_cons (pa c hc) pa_nil (hs _)) (hb _) (hf _) hl (hs _) (hp _), ⟨fun Ex Ex' δ P P' hx h w => ?_, fun Ex F B H vs σ δ P Q hx h w k => ?_⟩⟩
  · exact w.imp fun _ w => s.mono _ _ _ _ _ hx (fun r δ1 w => w.imp fun p w => w.imp fun q w => ⟨w.1, h _ _ w.2⟩) w
  · obtain ⟨⟨b0, ds0⟩, e0, w⟩ := w
    have a0 := ownL_at e0
    obtain ⟨v, ev, a, rfl, hB, hF, xs, hx0, q0⟩ := h.ok i _ a0
    refine ⟨_, ev, .inl ⟨rfl, xs, SqL.of hx0⟩, ?_⟩
    refine s.run _ _ _ _ _ _ _ _ _ hx h w fun B1 H1 y r δ1 s1 h1 q1 w1 => ?_
    obtain ⟨⟨d, δ2⟩, e1, ⟨b, ds⟩, e2, hl2, w1⟩ := w1
    obtain ⟨B2, s2, h2, q2⟩ := frz_ok h1 q1 e1
    have a2 := ownL_at e2
    obtain ⟨a', ea, hB2, hF2, ys, hy, qy⟩ := own_at h2 a2 ev
    cases ea
    refine ⟨a, ys, y, rfl, rfl, hy, by rw [qy.length]; exact hl2, ?_⟩
    exact k B2 _ .non (.d .none) _ (s1.trans s2) (h2.mutate (c' := .l (ds ++ [d])) a2 ev ⟨_, upd_same, qy.snoc q2⟩) .non w1
theorem de_ext {i : Nat} {x : Str} {e : Expr} {wa : WE} {p apos cpos : Pos} (hN : S.N[i]? = some x) (hv : Vis S.sc x) (ha : DE S e wa) (hd : (x == ("__debug__" : Str)) = false := by decide) (hcd : (x == ("__classdict__" : Str)) = false := by decide)
    (hb : ∀ env, attributeBase (.Name x p) "extend" env (eval (.Name x p) env) = eval (.Name x p) env := by intro _; rfl) (hf : few cpos e := by intro _; rfl) (hl : (apos.endLine == cpos.line) = true := by rfl)
    (hs : ∀ env, starEach [e] env = (false, eval e env) :: starEach [] env := by intro _; rfl) (hp : ∀ env, (backTo cpos (starEach [] env)).any (·.1) = false := by intro _; rfl) :
    DE S (.Call (.Attribute (.Name x p) "extend" apos) [e] [] cpos) (wExt i wa) := by
  obtain ⟨t, pa, s⟩ := ha
  refine ⟨tBM S.g.K "list" _ (tVar i) (tCons t tNil), fun c hc => pe_bm (X := S.g.cx c) PySem.F.plainAttrs_list PySem.F.slot_list_extend PySem.F.type_list_extend mt_extendRd (vis_v hc hN hv hd hcd) (pa_cons (pa c hc) pa_nil (hs _)) (hb _) (hf _) hl (hs _) (hp _), ⟨fun Ex Ex' δ P P' hx h w => ?_, fun Ex F B H vs σ δ P Q hx h w k => ?_⟩⟩
  · exact w.imp fun _ w => s.mono _ _ _ _ _ hx (fun r δ1 w => w.imp fun p w => w.imp fun zs w => w.imp fun q w => ⟨w.1, h _ _ w.2⟩) w
  · obtain ⟨⟨b0, ds0⟩, e0, w⟩ := w
    have a0 := ownL_at e0
    obtain ⟨v, ev, a, rfl, hB, hF, xs, hx0, q0⟩ := h.ok i _ a0
    refine ⟨_, ev, .inl ⟨rfl, xs, SqL.of hx0⟩, ?_⟩
    refine s.run _ _ _ _ _ _ _ _ _ hx h w fun B1 H1 y r δ1 s1 h1 q1 w1 => ?_
    obtain ⟨⟨d, δ2⟩, e1, zs, ez, ⟨b, ds⟩, e2, hl2, w1⟩ := w1
    obtain ⟨B2, s2, h2, q2⟩ := frz_ok h1 q1 e1
    have a2 := ownL_at e2
    obtain ⟨a', ea, hB2, hF2, ys, hy, qy⟩ := own_at h2 a2 ev
    cases ea
    have hd0 : d = .list zs := by
      cases d <;> cases ez
      rfl
    subst hd0
    cases q2 with
    | lst rz qz =>
      refine ⟨a, _, ys, _, rfl, rfl, hy, same_rd h2.sb rz, by rw [qy.length, qz.length]; exact hl2, ?_⟩
      exact k B2 _ .non (.d .none) _ (s1.trans s2) (h2.mutate (c' := .l (ds ++ zs)) a2 ev ⟨_, upd_same, qy.append qz⟩) .non w1
theorem de_pop {i : Nat} {x : Str} {p apos cpos : Pos} (hN : S.N[i]? = some x) (hv : Vis S.sc x) (hd : (x == ("__debug__" : Str)) = false := by decide) (hcd : (x == ("__classdict__" : Str)) = false := by decide)
    (hb : ∀ env, attributeBase (.Name x p) "pop" env (eval (.Name x p) env) = eval (.Name x p) env := by intro _; rfl) (hl : (apos.endLine == cpos.line) = true := by rfl) :
    DE S (.Call (.Attribute (.Name x p) "pop" apos) [] [] cpos) (wPop i) := by
  refine ⟨tBM0 S.g.K "list" rPop (tVar i), fun c hc => pe_bm0 (X := S.g.cx c) PySem.F.plainAttrs_list PySem.F.slot_list_pop PySem.F.type_list_pop mt_pop (vis_v hc hN hv hd hcd) (hb _) hl, ⟨fun Ex Ex' δ P P' hx h w => ?_, fun Ex F B H vs σ δ P Q hx h w k => ?_⟩⟩
  · exact w.imp fun _ w => w.imp fun d w => h _ _ w
  · obtain ⟨⟨b, ds⟩, e0, d, ed, w⟩ := w
    have a0 := ownL_at e0
    obtain ⟨v, ev, a, rfl, hB, hF, xs, hx0, q0⟩ := h.ok i _ a0
    have ed : ds[ds.length - 1]? = some d := ed
    rw [← q0.length] at ed
    obtain ⟨y, ey, qy⟩ := q0.get ed
    refine ⟨_, ev, .inl ⟨rfl, xs, SqL.of hx0⟩, a, xs, y, rfl, rfl, hx0, ey, ?_⟩
    exact k B _ y (.d d) _ (Same.refl _) (h.mutate (c' := .l ds.dropLast) a0 ev ⟨_, upd_same, q0.dropLast⟩) qy w
end

/-! ### o[i] = v -/
def putF (c : Cont) (k : PyData) (d : PyData) : Option Cont := match c with
  | .l ds => match k with
    | .int i => (ixN ds.length i).map fun j => .l (ds.set j d)
    | _ => none
  | .k kvs => if kvs.length < sizeLine then (keyD k).map fun kk => .k (putD kvs kk d) else none
  | .t kvs => if kvs.length < sizeLine then match k with
    | .tuple ds => (keysD ds).map fun ks => .t (putD kvs ks d)
    | _ => none
    else none
def ownC (δ : SEnv) (i : Nat) : Option (Bool × Cont) := match δ[i]? with
  | some (some (.o b c)) => some (b, c)
  | _ => none
theorem ownC_at {δ : SEnv} {i : Nat} {b : Bool} {c : Cont} (h : ownC δ i = some (b, c)) : δ[i]? = some (some (.o b c)) := by
  unfold ownC at h
  split at h
  · cases h; assumption
  · cases h
def wPut (i : Nat) (wi wv : WE) : WS := fun d δ => wv d.ex δ fun rv δ1 => ob (frz δ1 rv) fun p => ob (ownC p.2 i) fun _ => wi d.ex p.2 fun ri δ2 => ob (view δ2 ri) fun a => ob (dV a) fun dk => ob (ownC δ2 i) fun q => ob (putF q.2 dk p.1) fun c' => d.nx (δ2.set i (some (.o q.1 c')))
def rPut : TSet := fun o i v H Q => rSetL o i v H Q ∨ rSetD o i v H Q
theorem set_all {X : Cx} (hu : X.A.units + 1 < cLine) : PSet X rPut := by
  intro pins s σ H o i v ov iv u Q I ro ri rv h
  rcases h with h | h
  · exact set_list pins s σ H o i v ov iv u Q I ro ri rv h
  · exact set_dict hu pins s σ H o i v ov iv u Q I ro ri rv h
theorem ds_put {S : Sg} {i : Nat} {x : Str} {ie ve : Expr} {wi wv : WE} {p pos pos' : Pos} (hN : S.N[i]? = some x) (hv : Vis S.sc x) (hi : DE S ie wi) (hw : DE S ve wv) (hd : (x == ("__debug__" : Str)) = false := by decide) (hcd : (x == ("__classdict__" : Str)) = false := by decide)
    (hs : ∀ env, swapsWithSole [.Subscript (.Name x p) ie pos'] ve pos.line env = pure false := by intro _; rfl) (hws : ∀ env, swappedStores [.Subscript (.Name x p) ie pos'] ve env = pure none := by intro _; rfl)
    (hx : ∀ c, S.ok c → ∀ t ti, PE (S.g.cx c) (.Name x p) t → PE (S.g.cx c) ie ti → PG (S.g.cx c) (.Subscript (.Name x p) ie pos') (gSub t ti rPut) := by exact fun c hc t ti h1 h2 => pg_sub h1 h2 (set_all (hu_of hc.room))) :
    DS S (.Assign [.Subscript (.Name x p) ie pos'] ve pos) (wPut i wi wv) := by
  obtain ⟨ti, pi, si⟩ := hi
  obtain ⟨tv, pv, sv⟩ := hw
  refine ⟨tAsg tv (gSub (tVar i) ti rPut), fun c hc => ps_asg (pv c hc) (hx c hc _ _ (vis_v hc hN hv hd hcd) (pi c hc)) (hs _) (hws _), ⟨fun d d' δ h w => ?_, fun F B H vs σ δ D d hx h k w => ?_⟩⟩
  · refine sv.mono _ _ _ _ _ h.ex (fun r δ1 w => w.imp fun p w => w.imp fun _ w => ?_) w
    exact si.mono _ _ _ _ _ h.ex (fun r δ2 w => w.imp fun a w => w.imp fun dk w => w.imp fun q w => w.imp fun c' w => h.nx _ w) w
  · refine sv.run _ _ _ _ _ _ _ _ _ hx h w fun B1 H1 v rv δ1 s1 h1 q1 w1 => ?_
    obtain ⟨⟨dv, δ2⟩, e1, ⟨b0, c0⟩, e0, w1⟩ := w1
    obtain ⟨B2, s2, h2, q2⟩ := frz_ok h1 q1 e1
    obtain ⟨o, eo, p0, rfl, _⟩ := h2.ok i _ (ownC_at e0)
    refine ⟨_, eo, ?_⟩
    refine si.run _ _ _ _ _ _ _ _ _ (hx.up (s1.trans s2)) h2 w1 fun B3 H3 y ri δ3 s3 h3 q3 w3 => ?_
    obtain ⟨a, e2, dk, e3, ⟨b, c⟩, e4, c', e5, w3⟩ := w3
    have a4 := ownC_at e4
    obtain ⟨p1, ep, hB, hF, qc⟩ := own_at h3 a4 eo
    cases ep
    have ov := view_ok h3 q3 e2
    have q2' := q2.mono s3
    have s123 := (s1.trans s2).trans s3
    cases a with
    | d dk' =>
      cases e3
      cases c with
      | l ds =>
        obtain ⟨ys, hy, qy⟩ := qc
        simp only [putF] at e5
        split at e5
        · obtain ⟨j, e6, e5⟩ := Option.map_eq_some_iff.mp e5
          subst e5
          cases ov_int ov
          exact .inl ⟨p0, ys, _, j, rfl, rfl, hy, by rw [qy.length]; exact e6, k.nx B3 σ _ _ s123 (h3.mutate (c' := .l _) a4 eo ⟨_, upd_same, DDs.set q2' j qy⟩) w3⟩
        · cases e5
      | k kvs =>
        obtain ⟨ys, hy, qy⟩ := qc
        simp only [putF] at e5
        split at e5
        · rename_i hl
          obtain ⟨kk, e6, e5⟩ := Option.map_eq_some_iff.mp e5
          subst e5
          have ey : y = kV kk := by
            rcases ov with ov | ⟨_, _, _, _, z, _⟩
            · exact key_dd e6 ov
            · subst z; cases e6
          subst ey
          exact .inr ⟨p0, _, rfl, DPut.k hy (by rw [kds_length qy]; exact hl), k.nx B3 σ _ _ s123 (h3.mutate (c' := .k _) a4 eo ⟨_, upd_same, kds_put qy q2'⟩) w3⟩
        · cases e5
      | t kvs =>
        obtain ⟨ys, hy, qy⟩ := qc
        simp only [putF] at e5
        split at e5
        · rename_i hl
          split at e5
          · obtain ⟨ks, e6, e5⟩ := Option.map_eq_some_iff.mp e5
            subst e5
            obtain ⟨pp, xs, rfl, hp, qx⟩ := ov_tup ov
            have ex := keys_dd e6 qx
            subst ex
            exact .inr ⟨p0, _, rfl, DPut.t hy (h3.sb _ _ hp) (by rw [kds_length qy]; exact hl), k.nx B3 σ _ _ s123 (h3.mutate (c' := .t _) a4 eo ⟨_, upd_same, kds_put qy q2'⟩) w3⟩
          · cases e5
        · cases e5
    | _ => cases e3

/-! ### sep.join(xs) -/
def strsD : List PyData → Option (List Str)
  | [] => some []
  | .str x :: ds => (strsD ds).map fun xs => x :: xs
  | _ => none
theorem strs_dd {B : Hp} : ∀ {ds : List PyData} {xs : List Str} {vs : List V}, strsD ds = some xs → DDs B vs ds → vs = xs.map V.str
  | [], _, _, e, q => by cases e; cases q; rfl
  | d :: ds, _, _, e, q => by
    cases q with
    | cons q1 q2 =>
      cases d with
      | str x =>
        simp only [strsD] at e
        obtain ⟨xs, e1, e⟩ := Option.map_eq_some_iff.mp e
        cases e; cases q1
        rw [strs_dd e1 q2]; rfl
      | _ => cases e
def joinF (a : Str) : PyData → Option Str
  | .list ds => (strsD ds).bind fun ys => if (ys.map (·.length)).sum + ys.length * a.length ≤ 16777216 then some (Txt.join a ys) else none
  | .tuple ds => (strsD ds).bind fun ys => if (ys.map (·.length)).sum + ys.length * a.length ≤ 16777216 then some (Txt.join a ys) else none
  | _ => none
def strV : Vw → Option Str
  | .d (.str x) => some x
  | _ => none
theorem strV_ok {K : PySem.W.Frag} {B H : Hp} {v : V} {w : Vw} {x : Str} (o : OV K B H v w) (e : strV w = some x) : v = .str x := by
  unfold strV at e
  split at e
  · cases e; exact ov_str o
  · cases e
def rJoin (K : PySem.W.Frag) : V → List V → Hp → VK → Prop := fun x xs H Q => ∃ a p, ∃ ys : List Str, x = .str a ∧ xs = [.ref p] ∧ (SqL K H p (ys.map V.str) ∨ SqT K H p (ys.map V.str)) ∧ (ys.map (·.length)).sum + ys.length * a.length ≤ 16777216 ∧ Q (.str (Txt.join a ys)) H
def wJoin (wo wa : WE) : WE := fun Ex δ P => wo Ex δ fun ro δ1 => ob (view δ1 ro) fun a => ob (strV a) fun x => wa Ex δ1 fun r δ2 => ob (view δ2 r) fun b => ob (dV b) fun d => ob (joinF x d) fun y => P (.d (.str y)) δ2
section
variable {S : Sg}
theorem de_join {o e : Expr} {wo wa : WE} {apos pos : Pos} (ho : DE S o wo) (ha : DE S e wa) (hs : ∀ env, starEach [e] env = [(false, eval e env)] := by intro _; rfl) (hb : ∀ env, attributeBase o "join" env (eval o env) = eval o env := by intro _; rfl) (hl : (apos.endLine == pos.line) = true := by rfl) :
    DE S (.Call (.Attribute o "join" apos) [e] [] pos) (wJoin wo wa) := by
  obtain ⟨to', po, so⟩ := ho
  obtain ⟨ta, pa, sa⟩ := ha
  refine ⟨tM1 (rJoin S.g.K) to' ta, fun c hc => pe_join (X := S.g.cx c) (po c hc) (pa c hc) (hs _) (hb _) hl, ⟨fun Ex Ex' δ P P' hx h w => ?_, fun Ex F B H vs σ δ P Q hx h w k => ?_⟩⟩
  · refine so.mono _ _ _ _ _ hx (fun ro δ1 w => w.imp fun a w => w.imp fun x w => ?_) w
    exact sa.mono _ _ _ _ _ hx (fun r δ2 w => w.imp fun b w => w.imp fun d w => w.imp fun y w => h _ _ w) w
  · refine so.run _ _ _ _ _ _ _ _ _ hx h w fun B1 H1 v ro δ1 s1 h1 q1 w1 => ?_
    obtain ⟨a, e1, x, e2, w1⟩ := w1
    cases strV_ok (view_ok h1 q1 e1) e2
    refine ⟨⟨x, rfl⟩, ?_⟩
    refine sa.run _ _ _ _ _ _ _ _ _ (hx.up s1) h1 w1 fun B2 H2 y r δ2 s2 h2 q2 w2 => ?_
    obtain ⟨b, e3, d, e4, z, e5, w2⟩ := w2
    have ov := view_ok h2 q2 e3
    cases b with
    | d d' =>
      cases e4
      unfold joinF at e5
      split at e5
      · obtain ⟨ys, e6, e5⟩ := Option.bind_eq_some_iff.mp e5
        split at e5
        · cases e5
          obtain ⟨p, xs, rfl, hp, qx⟩ := ov_lst h2.sb ov
          have ex := strs_dd e6 qx
          subst ex
          exact ⟨x, p, ys, rfl, rfl, .inl (.inl hp), by assumption, k B2 H2 _ (.d (.str _)) δ2 (s1.trans s2) h2 (.str _) w2⟩
        · cases e5
      · obtain ⟨ys, e6, e5⟩ := Option.bind_eq_some_iff.mp e5
        split at e5
        · cases e5
          obtain ⟨p, xs, rfl, hp, qx⟩ := ov_tup ov
          have ex := strs_dd e6 qx
          subst ex
          exact ⟨x, p, ys, rfl, rfl, .inr (SqT.of (h2.sb _ _ hp)), by assumption, k B2 H2 _ (.d (.str _)) δ2 (s1.trans s2) h2 (.str _) w2⟩
        · cases e5
      · cases e5
    | _ => cases e4
end
end DL
set_option Elab.async false
set_option linter.all false
set_option maxRecDepth 100000
set_option maxHeartbeats 4000000
set_option autoImplicit false
namespace DL
open PySem PySem.Spec PyProof.Rows L2

section
variable {S : Sg}
/-! ### name = [.. for ..] -/
theorem ds_setLc {i : Nat} {y : Str} {py : Pos} {elt tg iter : Expr} {ifs : List Expr} {scope : Scope} {own : List (Str × Nat)} {pos spos : Pos} {wi : WI} {G : WG} {wt : WT} {we : WE} {ts : List Nat} (hCX : CXok S.CX) (hy : S.N[i]? = some y) (hyl : S.sc.names.lookup y = some .local) (hk : S.sc.kind = .function)
    (hln : (py.line == pos.line) = true) (hnn : (scope.names.any fun (n, k) => n == y && (k == .local || k == .cell)) = false)
    (hi : DI S tg iter wi) (hblk : blkC S.N S.sc scope own = true) (hg : DG (S.blk scope) tg G ts) (hts : ts.all (fun i => (own.map (·.2)).contains i) = true) (ht : DTs (S.blk scope) ifs wt) (he : DE (S.blk scope) elt we) (hs : ∀ env x, foldedSetIterable iter env x = pure x := by intro _ _; rfl) :
    DS S (.Assign [.Name y py] (.ListComp elt [⟨tg, iter, ifs, 0⟩] scope pos) spos) (wSet i (wLc wi G wt we (own.map (·.2)))) := by
  obtain ⟨ti, pi, si⟩ := hi
  obtain ⟨tg', pg, sg⟩ := hg
  obtain ⟨tt, pt, st⟩ := ht
  obtain ⟨te, pe, se⟩ := he
  have hts' : ∀ i ∈ ts, i ∈ own.map (·.2) := fun i hi => by
    have := List.all_eq_true.mp hts i hi
    simpa using this
  have sl := sim_lc si sg hts' st se
  refine ⟨tAsg (tLc ti tg' tt te (own.map (·.2))) (gName i), fun c hc => ?_, ⟨fun d d' δ h w => sl.mono _ _ _ _ _ h.ex (fun r δ1 w => w.imp fun δ2 w => h.nx _ w) w, fun F B H vs σ δ D d hx h k w => ?_⟩⟩
  · refine ps_setLc (X := S.g.cx c) hc.calm (by show c.N.Nodup; rw [hc.hN]; exact hc.nd) (by show c.N[i]? = _; rw [hc.hN]; exact hy) (by show c.env.scope.names.lookup y = _; rw [hc.hs]; exact hyl) (sw_true (by show c.env.scope.kind = _; rw [hc.hs]; exact hk) (by show c.env.scope.names.lookup y = _; rw [hc.hs]; exact hyl) hln hnn)
      (pi c hc) (by show BlkOk c.N c.env.scope scope own; rw [hc.hN, hc.hs]; exact blkOk_by hblk) (fun s H C cl fp => pg _ (blk_ok hCX hc s H C cl fp)) (fun s H C cl fp => pt _ (blk_ok hCX hc s H C cl fp)) (fun s H C cl fp => pe _ (blk_ok hCX hc s H C cl fp)) (hs _)
  · refine sl.run _ _ _ _ _ _ _ _ _ hx h w fun B1 H1 v r δ1 s1 h1 q1 w1 => ?_
    obtain ⟨δ2, e1, w1⟩ := w1
    obtain ⟨B2, s2, h2⟩ := asgn_ok h1 q1 e1
    exact k.nx B2 _ H1 δ2 (s1.trans s2) h2 w1
/-! ### a, b = x, y -/
def wPar (i j : Nat) (wr : WA) : WS := fun d δ => wr d.ex δ fun rs δ1 => ob (frzs δ1 rs) fun p => ob (match p.1 with | [x, y] => some (x, y) | _ => none) fun q => d.nx ((p.2.set i (some (.d q.1))).set j (some (.d q.2)))
theorem ds_par {i j : Nat} {x y : Str} {a b : Expr} {wr : WA} {px py pt pos : Pos} {kt k2 : Nat} {pt2 : Pos} (hi : S.N[i]? = some x) (hj : S.N[j]? = some y) (hij : i ≠ j) (hx : S.sc.names.lookup x = some .local) (hy : S.sc.names.lookup y = some .local) (ha : DA S [a, b] wr)
    (hw : ∀ env : Env, swappedStores [.Tuple [.Name x px, .Name y py] kt pt] (.Tuple [a, b] k2 pt2) { env with scope := S.sc } = pure (some [x, y]))
    (hs : ∀ env, swapsWithSole [.Tuple [.Name x px, .Name y py] kt pt] (.Tuple [a, b] k2 pt2) pos.line env = pure false := by intro _; rfl)
    :
    DS S (.Assign [.Tuple [.Name x px, .Name y py] kt pt] (.Tuple [a, b] k2 pt2) pos) (wPar i j wr) := by
  obtain ⟨t, p, s⟩ := ha
  refine ⟨tPar i j t, fun c hc => ps_par (X := S.g.cx c) hc.calm (by show c.N.Nodup; rw [hc.hN]; exact hc.nd) (by show c.N[i]? = _; rw [hc.hN]; exact hi) (by show c.N[j]? = _; rw [hc.hN]; exact hj) hij (by show c.env.scope.names.lookup x = _; rw [hc.hs]; exact hx) (by show c.env.scope.names.lookup y = _; rw [hc.hs]; exact hy) (p c hc) (by have q := hw c.env; rw [← hc.hs] at q; exact q) (hs _), ⟨fun d d' δ h w => s.mono _ _ _ _ _ h.ex (fun rs δ1 w => w.imp fun p w => w.imp fun q w => h.nx _ w) w, fun F B H vs σ δ D d hx h k w => ?_⟩⟩
  refine s.run _ _ _ _ _ _ _ _ _ hx h w fun B1 H1 ws rs δ1 s1 h1 q1 w1 => ?_
  obtain ⟨⟨ds, δ2⟩, e1, q, e2, w1⟩ := w1
  obtain ⟨B2, s2, h2, q2⟩ := frzs_ok h1 q1 e1
  split at e2
  · rename_i d1 d2 hd
    cases e2
    have hd : ds = [d1, d2] := hd
    subst hd
    cases q2 with
    | cons qa q2 => cases q2 with
      | cons qb q2 =>
        cases q2
        refine ⟨_, _, rfl, ?_⟩
        have h3 := h2.store i _ (.d d1) qa (fun _ z => nomatch z) (fun a _ ⟨c, z⟩ => nomatch z)
        have h4 := h3.store j _ (.d d2) qb (fun _ z => nomatch z) (fun a _ ⟨c, z⟩ => nomatch z)
        exact k.nx B2 _ H1 _ (s1.trans s2) h4 w1
  · cases e2
/-- a, b = e -/
def wAsg (G : WG) (wa : WE) : WS := fun d δ => wa d.ex δ fun r δ1 => ob (frz δ1 r) fun p => ob (G p.1 p.2) fun δ2 => d.nx δ2
theorem ds_asg {tg e : Expr} {G : WG} {wa : WE} {ts : List Nat} {pos : Pos} (h : DE S e wa) (hg : DG S tg G ts) (hs : ∀ env, swapsWithSole [tg] e pos.line env = pure false := by intro _; rfl) (hw : ∀ c, S.ok c → swappedStores [tg] e c.env = pure none := by intro _ _; rfl) (h1 : ∀ env, (assignEach [tg] env).map (·.2) = [assign tg env] := by intro _; rfl) : DS S (.Assign [tg] e pos) (wAsg G wa) := by
  obtain ⟨t, p, s⟩ := h
  obtain ⟨g, pg, sg⟩ := hg
  refine ⟨tAsg t g, fun c hc => ps_asg (p c hc) (pg c hc) (hs _) (hw c hc) (h1 _), ⟨fun d d' δ h w => s.mono _ _ _ _ _ h.ex (fun r δ1 w => w.imp fun p w => w.imp fun δ2 w => h.nx _ w) w, fun F B H vs σ δ D d hx h k w => ?_⟩⟩
  refine s.run _ _ _ _ _ _ _ _ _ hx h w fun B1 H1 v r δ1 s1 h1 q1 w1 => ?_
  obtain ⟨⟨d0, δ2⟩, e1, δ3, e2, w1⟩ := w1
  obtain ⟨B2, s2, h2, q2⟩ := frz_ok h1 q1 e1
  exact sg.run F B2 H1 vs σ δ2 δ3 v d0 _ h2 q2 e2 fun σ' h3 _ => k.nx B2 σ' H1 δ3 (s1.trans s2) h3 w1
end

/-! ### xs[::-1] -/
theorem adjust_back (n : Nat) : Builtin.Slice.sliceAdjust none none (-1) (n : Int) = ((n : Int) - 1, -1) := rfl
theorem places_back (n : Nat) : Builtin.Slice.slicePlaces ((n : Int) - 1) (-1) (-1) = n := by
  unfold Builtin.Slice.slicePlaces
  rw [if_neg (by decide)]
  by_cases h : n = 0
  · subst h; rfl
  · rw [if_pos (by omega)]
    have : ((n : Int) - 1 - -1 - 1) / (- -1) + 1 = n := by
      rw [show (- -1 : Int) = 1 by decide, Int.ediv_one]; omega
    rw [this]; rfl

section
variable {prog : Program} {w : World} {A : Around} {E : Value → Shared → Prop} {s : Shared}
theorem sliced_back {sl : Addr} {vk : Value} {n : Nat} {Q : Int × Int × Nat → Shared → Prop} (hs : s.heap.IsSliceOf sl .none .none vk) (pk : IsPart vk (some (-1)))
    (h : Q ((n : Int) - 1, -1, n) s) : wpAny (model prog w) A (Builtin.Slice.sliceApplied (.ref sl) (pure (n : Int))) Q E s := by
  obtain ⟨os, hos, hcs, hds⟩ := id hs
  unfold Builtin.Slice.sliceApplied Builtin.Slice.sliceFields
  refine wpAny_bind (wpAny_bind (wpAny_field hos hds (x := .none) rfl (wpAny_bind (wpAny_field hos hds (x := .none) rfl (wpAny_bind (wpAny_field hos hds (x := vk) rfl (wpAny_pure ?_)))))))
  refine wpAny_bind (HT.slicePart_ pk ?_)
  show wpAny _ _ (if ((-1 : Int) == 0) = true then _ else _) _ _ s
  rw [if_neg (by decide)]
  refine wpAny_bind (HT.slicePart_ .none (wpAny_bind (HT.slicePart_ .none (wpAny_bind (wpAny_pure ?_)))))
  show wpAny _ _ (match Builtin.Slice.sliceAdjust none none (-1) (n : Int) with | (lo, hi) => pure (lo, (-1 : Int), Builtin.Slice.slicePlaces lo hi (-1))) _ _ s
  rw [adjust_back n]
  show wpAny _ _ (pure ((n : Int) - 1, (-1 : Int), Builtin.Slice.slicePlaces ((n : Int) - 1) (-1) (-1))) _ _ s
  rw [places_back]
  exact wpAny_pure h
theorem fm_map {α β : Type} {f : α → Option β} {g : α → β} : ∀ {l : List α}, (∀ m ∈ l, f m = some (g m)) → l.filterMap f = l.map g
  | [], _ => rfl
  | a :: l, h => by
    rw [List.filterMap_cons, h a (List.mem_cons_self ..), List.map_cons, fm_map fun m hm => h m (List.mem_cons_of_mem _ hm)]
theorem pick_back (xs : List Value) : (((List.range xs.length).filterMap fun (m : Nat) => xs.toArray[(((xs.length : Nat) : Int) - 1 + (m : Int) * (-1)).toNat]?)) = xs.reverse := by
  refine List.ext_getElem? fun j => ?_
  have e : ((List.range xs.length).filterMap fun (m : Nat) => xs.toArray[(((xs.length : Nat) : Int) - 1 + (m : Int) * (-1)).toNat]?) = (List.range xs.length).map fun m => xs[xs.length - 1 - m]?.getD .none := by
    refine fm_map fun m hm => ?_
    have hm := List.mem_range.mp hm
    have e1 : (((xs.length : Nat) : Int) - 1 + (m : Int) * (-1)).toNat = xs.length - 1 - m := by omega
    rw [e1, List.getElem?_toArray, List.getElem?_eq_getElem (by omega)]
    rfl
  rw [e, List.getElem?_map]
  by_cases hj : j < xs.length
  · rw [List.getElem?_range hj, List.getElem?_reverse hj, Option.map_some, List.getElem?_eq_getElem (by omega)]
    rfl
  · rw [List.getElem?_eq_none (by rw [List.length_range]; omega), List.getElem?_eq_none (by rw [List.length_reverse]; omega)]
    rfl
theorem getItem_tuple_back {t sl : Addr} {items : List Value} {vk : Value} {Q : Value → Shared → Prop} (ht : IsTup s.heap t items.toArray) (hs : s.heap.IsSliceOf sl .none .none vk) (pk : IsPart vk (some (-1)))
    (h : Q (.ref s.heap.objs.size) { s with heap := s.heap.push { cls := .type "tuple", data := .seq items.reverse.toArray } })
    (hsz : items.length ≤ sizeLine) : wpAny (model prog w) A (getItem (.ref t) (.ref sl)) Q E s := by
  have htake : sizeOk (.seq items.reverse.toArray) := by
    show items.reverse.toArray.size ≤ sizeLine
    rw [List.size_toArray, List.length_reverse]
    exact hsz
  obtain ⟨os, hos, hcs, hds⟩ := id hs
  have hTs : s.TypeIs (.ref sl) "slice" := ⟨os, hos, hcs⟩
  unfold getItem
  try with_reducible refine wpAny_holding ?_
  first | refine wpAny_bind (wpAny_pure ?_) | skip
  refine wpAny_bind (wpAny_sequenceKey ht.typeIs (by decide) ?_)
  refine wpAny_bind (wpAny_callSpecial?_slot (name := Str.ofString "__getitem__") ht.typeIs PyProof.Rows.slot_tuple_getitem
    (wpAny_call_entry PyProof.Rows.slot_tuple_getitem ht.typeIs entry_tuple_getitem ?_ (args_tuple_getitem _ _)))
  show wpAny _ _ (Builtin.Tuple.tupleItemsOf (.ref t) >>= _) _ _ s
  refine wpAny_bind (PyProof.Rows.tupleItemsOf_ ht ?_)
  refine wpAny_bind (wpAny_typeOf hTs ?_)
  rw [if_pos (by decide)]
  refine wpAny_bind (sliced_back (n := items.toArray.size) hs pk ?_)
  have hno : ¬ ((((items.toArray.size : Int) - 1) == 0 && (-1 : Int) == 1 && items.toArray.size == items.toArray.size) = true) := by
    intro q
    rw [Bool.and_eq_true, Bool.and_eq_true] at q
    exact absurd q.1.2 (by decide)
  show wpAny _ _ (if (((items.toArray.size : Int) - 1) == 0 && (-1 : Int) == 1 && items.toArray.size == items.toArray.size) = true then _ else _) _ _ s
  rw [if_neg hno]
  have hp : ((List.range items.toArray.size).filterMap fun (m : Nat) => items.toArray[((items.toArray.size : Int) - 1 + (m : Int) * (-1)).toNat]?).toArray = items.reverse.toArray := by
    rw [List.size_toArray, pick_back]
  rw [hp]
  first
    | exact wpAny_bind (m := Builtin.Tuple.tupleExact _) (wpAny_newObj_type (wpAny_pure ⟨_, rfl, wpAny_pure h⟩) htake)
    | exact wpAny_bind (m := Builtin.Tuple.tupleExact _) (wpAny_newObj_type (wpAny_bind (wpAny_pure (wpAny_pure ⟨_, rfl, wpAny_pure h⟩))) htake)
    | exact wpAny_bind (wpAny_bind (m := Builtin.Tuple.tupleExact _) (wpAny_newObj_type (wpAny_pure (wpAny_pure ⟨_, rfl, wpAny_pure h⟩)) htake))
    | exact wpAny_bind (wpAny_bind (m := Builtin.Tuple.tupleExact _) (wpAny_newObj_type (wpAny_pure ⟨_, rfl, wpAny_pure h⟩) htake))
end
/-! data backwards -/
def revF : Vw → Option Rv
  | .d (.list ds) => some (.lst ds.reverse)
  | .d (.tuple ds) => some (.tup ds.reverse)
  | _ => none
def rRev (K : PySem.W.Frag) : V → Hp → VK → Prop := fun x H Q => ∃ B a rv, Same B H ∧ OV K B H x a ∧ revF a = some rv ∧ RvK B H Q rv
def tRv (K : PySem.W.Frag) (te : TE) : TE := fun σ H Q => te σ H fun x H1 => rRev K x H1 Q
theorem pe_rv {X : Cx} {e : Expr} {te : TE} {k : Nat} {p1 p2 p3 pos : Pos} (he : PE X e te) : PE X (.Subscript e (.Slice none none (some (.UnaryOp .USub (.Constant (.int 1) k p1) p2)) p3) pos) (tRv X.K te) := by
  refine ⟨fun pins s σ H Q I h => ?_⟩
  refine Subscript_ (thn (he.run pins s σ H _ I h) fun v s1 ⟨x, H1, I1, rx, q1⟩ => ?_)
  have hst : PO X (some (.UnaryOp .USub (.Constant (.int 1) k p1) p2)) (tPart (tUn (rU fun i => .int (-i)) (tC (.int 1)))) := po_some (pe_un un_neg pe_int)
  refine wpAny_Slice (thn (po_none.run pins s1 σ H1 (fun o H2 => o = none ∧ H2 = H1) I1 ⟨rfl, rfl⟩) fun vl s2 ⟨l, H2, I2, pl, el, e2⟩ => ?_)
  subst el e2
  refine thn (po_none.run pins s2 σ H2 (fun o H3 => o = none ∧ H3 = H2) I2 ⟨rfl, rfl⟩) fun vu s3 ⟨u, H3, I3, pu, eu, e3⟩ => ?_
  subst eu e3
  refine thn (hst.run pins s3 σ H3 (fun o H4 => o = some (-1) ∧ H4 = H3) I3 ⟨1, rfl, -1, rfl, rfl, rfl⟩) fun vs s4 ⟨o, H4, I4, ps, eo, e4⟩ => ?_
  subst eo e4
  have I5 : Inv X pins σ H4 { s4 with heap := s4.heap.push { cls := .type "slice", data := .fields #[vl, vu, vs] } } := I4.kept (t' := s4.toks) fun b ob q => Heap.get?_push_of_some _ q
  show wpAny (model X.prog X.w) X.A (subscriptTail e (.Slice none none (some (.UnaryOp .USub (.Constant (.int 1) k p1) p2)) p3) v (.ref s4.heap.objs.size)) (EP X pins σ Q) X.xe { s4 with heap := s4.heap.push { cls := .type "slice", data := .fields #[vl, vu, vs] } }
  obtain ⟨B, a, rv, sB, oa, er, kk⟩ := q1
  unfold revF at er
  split at er
  · cases er
    obtain ⟨p, xs, rfl, hp, qx⟩ := ov_lst sB oa
    cases rx
    obtain ⟨its, r, ht, hz⟩ := I5.list (a := p) (.inl hp)
    have hlen := r.length
    refine tail_any (ops := [.ref _, .ref s4.heap.objs.size]) ht.isList.typeIs (PySem.slot_list_getitem.lookup) ?_ (by with_unfolding_all rfl)
    refine wpAny_getItem_list_slice ht.isList (Heap.IsSliceOf.new _ vl vu vs) pl pu ps (by decide) ?_ (by rw [List.size_toArray]; omega)
    rw [PySem.W.krv_pick]
    refine ⟨.ref _, _, I5.laid (t' := s4.toks) (o := .lst xs.reverse) (fun b ob q => Heap.get?_push_of_some _ q) (Nat.le_refl _) ?_, rfl, kk _ _ (I5.hok.fresh (Nat.le_refl _)) qx.reverse⟩
    exact ⟨by rw [List.length_reverse]; exact hz, _, 0, r.reverse, Heap.get?_push_size _ rfl⟩
  · cases er
    obtain ⟨p, xs, rfl, hp, qx⟩ := ov_tup oa
    cases rx
    obtain ⟨its, r, ht, hz⟩ := I5.tuple (SqT.of (sB _ _ hp))
    have hlen := r.length
    refine tail_any (ops := [.ref _, .ref s4.heap.objs.size]) ht.typeIs (PyProof.Rows.slot_tuple_getitem.lookup) ?_ (by with_unfolding_all rfl)
    cases pl; cases pu
    refine getItem_tuple_back ht (Heap.IsSliceOf.new ..) ps ?_ (by omega)
    refine ⟨.ref _, _, I5.laid (t' := s4.toks) (o := .tup xs.reverse) (fun b ob q => Heap.get?_push_of_some _ q) (Nat.le_refl _) ?_, rfl, kk.2 _ _ (I5.hok.fresh (Nat.le_refl _)) qx.reverse⟩
    exact ⟨by rw [List.length_reverse]; exact hz, _, r.reverse, IsTup.new _ _⟩
  · cases er
def wRev (wa : WE) : WE := fun Ex δ P => wa Ex δ fun ra δ1 => ob (view δ1 ra) fun a => ob (revF a) fun rv => P rv.r δ1
section
variable {S : Sg}
theorem de_rev {a : Expr} {wa : WE} {k : Nat} {p1 p2 p3 pos : Pos} (ha : DE S a wa) : DE S (.Subscript a (.Slice none none (some (.UnaryOp .USub (.Constant (.int 1) k p1) p2)) p3) pos) (wRev wa) := by
  obtain ⟨ta, pa, sa⟩ := ha
  refine ⟨tRv S.g.K ta, fun c hc => pe_rv (X := S.g.cx c) (pa c hc), ⟨fun Ex Ex' δ P P' hx h w => ?_, fun Ex F B H vs σ δ P Q hx h w k => ?_⟩⟩
  · exact sa.mono _ _ _ _ _ hx (fun r δ1 w => w.imp fun a w => w.imp fun rv w => h _ _ w) w
  · refine sa.run _ _ _ _ _ _ _ _ _ hx h w fun B1 H1 x ra δ1 s1 h1 q1 w1 => ?_
    obtain ⟨a, e1, rv, e2, w1⟩ := w1
    exact ⟨B1, a, rv, h1.sb, view_ok h1 q1 e1, e2, rvk_ok s1 h1 w1 k⟩
end
end DL
set_option Elab.async false
set_option linter.all false
set_option maxRecDepth 100000
set_option maxHeartbeats 4000000
set_option autoImplicit false
namespace DL
open PySem PySem.Spec PyProof.Rows L2

/-! ### a def by its name -/
def Cal (g : Gx) (CX : CXT) (k : Nat) (x : Str) (ps : List Str) (W : FSpec) : Prop :=
  ∃ (f : Addr) (fd : FuncData), FnG g CX k f fd ps (spOf g.K ps.length W) ∧ g.mg x = some (.ref f) ∧ PySem.W.keepIn g.K (.ref f) = true ∧ Binds g.K fd ps []
theorem Cal.mono {g : Gx} {CX : CXT} {j k : Nat} {x : Str} {ps : List Str} {W : FSpec} (h : Cal g CX j x ps W) (l : j ≤ k) : Cal g CX k x ps W := by
  obtain ⟨f, fd, F, m, q, b⟩ := h
  exact ⟨f, fd, F.mono l, m, q, b⟩
theorem Cal.imp {g : Gx} {CX : CXT} {k : Nat} {x : Str} {ps : List Str} {W W' : FSpec} (h : Cal g CX k x ps W) (l : ∀ ss Ex P, W' ss Ex P → W ss Ex P) : Cal g CX k x ps W' := by
  obtain ⟨f, fd, F, m, q, b⟩ := h
  exact ⟨f, fd, spOf_imp F l, m, q, b⟩
section
variable {S : Sg}
theorem de_cal {n : Nat} {W : FSpec} {ms : List Bool} {wr : WA} {x : Str} {ps : List Str} {p pos : Pos} {e : Expr} {es : List Expr} (h : Cal S.g S.CX S.k x ps W) (hW : FMono W) (hg : GlS S.sc x) (ha : DA S (e :: es) wr)
    (hs : ∀ env, starEach (e :: es) env = (false, eval e env) :: starEach es env := by intro _; rfl) (hpl : ∀ env, (backTo pos (starEach es env)).any (·.1) = false := by intro _; rfl) (hdb : (x == ("__debug__" : Str)) = false := by decide) (hn : ps.length = n := by rfl) :
    DE S (.Call (.Name x p) (e :: es) [] pos) (wCall n W ms wr) := by
  subst hn
  obtain ⟨f, fd, F, m, q, b⟩ := h
  exact de_call hW F (Nat.le_refl _) hg m q b ha hs hpl hdb
end
/-! ### what a def promises: `pre` of what it is given, `post` of what it answers and leaves -/
def Ct (pre : List Sl → Prop) (post : List Sl → R → List Sl → Prop) : FSpec := fun ss _ P => pre ss ∧ ∀ r ss', post ss r ss' → P r ss'
theorem ct_mono {pre : List Sl → Prop} {post : List Sl → R → List Sl → Prop} : FMono (Ct pre post) := fun ss Ex Ex' P P' _ hp ⟨h1, h2⟩ => ⟨h1, fun r ss' q => hp _ _ (h2 r ss' q)⟩
/-! ### a def that stands at the top -/
def Got (g : Gx) (x : Str) (st : Stmt) : Prop := ∃ (f : Addr) (fd : FuncData), g.mg x = some (.ref f) ∧ Fun g.K x x st f fd
/-- nothing is asked, nothing is promised -/
theorem cal_void {g : Gx} {CX : CXT} {k : Nat} {x : Str} {st : Stmt} {ps : List Str} {W : FSpec} (h : Got g x st) (bd : ∀ f fd, Fun g.K x x st f fd → Binds g.K fd ps []) (no : ∀ ss Ex P, ¬ W ss Ex P) : Cal g CX k x ps W := by
  obtain ⟨f, fd, m, F⟩ := h
  refine ⟨f, fd, ⟨fun vs H Q E ⟨_, _, _, ss, Ex, P, _, _, w, _⟩ => absurd w (no ss Ex P), fun A outer sh H args us vs Q E _ _ _ _ _ ⟨_, _, _, ss, Ex, P, _, _, w, _⟩ => absurd w (no ss Ex P)⟩, m, F.kp, bd f fd F⟩
theorem got_mk {P : Program} {w : World} {K : PySem.W.Frag} {mg : Str → Option Value} {base h : Heap} (X : K.In h) (G : h.Ns mainGlobals mg) {x : Str} {st : Stmt} {f : Addr} {oc : Value} {od an : Option Addr} {osl : Array (Option Value)} {kV doc pm cdv ct : Value}
    (a : PySem.W.nsIn K mainGlobals x = some (some (.ref f))) (l : K.lookup f = some ⟨oc, od, .func (PySem.W.fnOf x x (defArgs st) (defBody st) (defScope st) .none kV doc pm an cdv ct), osl⟩)
    (c : PySem.W.codeIn K cdv x = true) (k : PySem.W.keepIn K (.ref f) = true) : Got ⟨P, w, K, mg, base⟩ x st := ⟨f, _, PySem.W.mg_of X G a, fun_mk l c k⟩
end DL
set_option Elab.async false
set_option linter.all false
set_option maxRecDepth 100000
set_option maxHeartbeats 4000000
set_option autoImplicit false
set_option exponentiation.threshold 4000
namespace DL
open PySem PySem.Spec PyProof.Rows L2

/-! ### data of bounded numbers, depth and bulk -/
mutual
def intsB (N : Nat) : PyData → Bool
  | .none | .bool _ | .str _ => true
  | .int i => decide (i.natAbs ≤ N)
  | .list xs | .tuple xs => intsBs N xs
  | .dict _ => false
def intsBs (N : Nat) : List PyData → Bool
  | [] => true
  | x :: xs => intsB N x && intsBs N xs
end
structure Nd (N D : Nat) (d : PyData) : Prop where
  lay : d.canLay0 = true
  nums : intsB N d = true
  dep : d.depth ≤ D
def Nds (N D : Nat) (xs : List PyData) : Prop := ∀ x ∈ xs, Nd N D x
theorem lay_all : ∀ {xs : List PyData}, PyData.canLayAll0 xs = true ↔ ∀ x ∈ xs, x.canLay0 = true
  | [] => by simp [PyData.canLayAll0]
  | x :: xs => by simp [PyData.canLayAll0, lay_all (xs := xs)]
theorem ints_all {N : Nat} : ∀ {xs : List PyData}, intsBs N xs = true ↔ ∀ x ∈ xs, intsB N x = true
  | [] => by simp [intsBs]
  | x :: xs => by simp [intsBs, ints_all (xs := xs)]
theorem dep_all {D : Nat} : ∀ {xs : List PyData}, PyData.depthAll xs ≤ D ↔ ∀ x ∈ xs, x.depth ≤ D
  | [] => by simp [PyData.depthAll]
  | x :: xs => by simp [PyData.depthAll, dep_all (xs := xs), Nat.max_le]
section
variable {N D : Nat}
theorem nd_none : Nd N D .none := ⟨rfl, rfl, Nat.zero_le _⟩
theorem nd_bool {b : Bool} : Nd N D (.bool b) := ⟨rfl, rfl, Nat.zero_le _⟩
theorem nd_int {i : Int} (h : i.natAbs ≤ N) : Nd N D (.int i) := ⟨rfl, by simp [intsB, h], Nat.zero_le _⟩
theorem nd_str {x : Str} (h : PyData.strOk x = true) : Nd N D (.str x) := ⟨by simp [PyData.canLay0, h], rfl, Nat.zero_le _⟩
theorem nd_tup {xs : List PyData} (h : Nds N D xs) : Nd N (D + 1) (.tuple xs) :=
  ⟨by simp only [PyData.canLay0]; exact lay_all.mpr fun x m => (h x m).lay, by simp only [intsB]; exact ints_all.mpr fun x m => (h x m).nums, by simp only [PyData.depth]; exact Nat.succ_le_succ (dep_all.mpr fun x m => (h x m).dep)⟩
theorem nd_lst {xs : List PyData} (h : Nds N D xs) : Nd N (D + 1) (.list xs) :=
  ⟨by simp only [PyData.canLay0]; exact lay_all.mpr fun x m => (h x m).lay, by simp only [intsB]; exact ints_all.mpr fun x m => (h x m).nums, by simp only [PyData.depth]; exact Nat.succ_le_succ (dep_all.mpr fun x m => (h x m).dep)⟩
theorem Nd.tup {xs : List PyData} (h : Nd N (D + 1) (.tuple xs)) : Nds N D xs := fun x m =>
  ⟨lay_all.mp (by simpa only [PyData.canLay0] using h.lay) x m, ints_all.mp (by simpa only [intsB] using h.nums) x m, dep_all.mp (Nat.le_of_succ_le_succ (by simpa only [PyData.depth] using h.dep)) x m⟩
theorem Nd.lst {xs : List PyData} (h : Nd N (D + 1) (.list xs)) : Nds N D xs := fun x m =>
  ⟨lay_all.mp (by simpa only [PyData.canLay0] using h.lay) x m, ints_all.mp (by simpa only [intsB] using h.nums) x m, dep_all.mp (Nat.le_of_succ_le_succ (by simpa only [PyData.depth] using h.dep)) x m⟩
theorem Nd.pos {xs : List PyData} (h : Nd N D (.tuple xs)) : ∃ D', D = D' + 1 := by
  have := h.dep
  simp only [PyData.depth] at this
  exact ⟨D - 1, by omega⟩
theorem Nd.int {i : Int} (h : Nd N D (.int i)) : i.natAbs ≤ N := by simpa [intsB] using h.nums
theorem Nd.str {x : Str} (h : Nd N D (.str x)) : PyData.strOk x = true := by simpa [PyData.canLay0] using h.lay
mutual
theorem intsB_mono {N' : Nat} (h : N ≤ N') : ∀ d : PyData, intsB N d = true → intsB N' d = true
  | .none, _ => rfl
  | .bool _, _ => rfl
  | .str _, _ => rfl
  | .int i, e => by simp only [intsB, decide_eq_true_eq] at *; omega
  | .list xs, e => by simp only [intsB] at *; exact intsBs_mono h xs e
  | .tuple xs, e => by simp only [intsB] at *; exact intsBs_mono h xs e
  | .dict _, e => by simp [intsB] at e
theorem intsBs_mono {N' : Nat} (h : N ≤ N') : ∀ xs : List PyData, intsBs N xs = true → intsBs N' xs = true
  | [], _ => rfl
  | x :: xs, e => by
    simp only [intsBs, Bool.and_eq_true] at *
    exact ⟨intsB_mono h x e.1, intsBs_mono h xs e.2⟩
end
theorem Nd.mono {N' D' : Nat} {d : PyData} (h : Nd N D d) (h1 : N ≤ N') (h2 : D ≤ D') : Nd N' D' d := ⟨h.lay, intsB_mono h1 d h.nums, Nat.le_trans h.dep h2⟩
theorem Nds.mono {N' D' : Nat} {xs : List PyData} (h : Nds N D xs) (h1 : N ≤ N') (h2 : D ≤ D') : Nds N' D' xs := fun x m => (h x m).mono h1 h2
theorem nds_nil : Nds N D [] := fun _ m => by cases m
theorem nds_cons {x : PyData} {xs : List PyData} (h : Nd N D x) (r : Nds N D xs) : Nds N D (x :: xs) := fun y m => by
  rcases List.mem_cons.mp m with rfl | m
  · exact h
  · exact r y m
theorem Nds.append {xs ys : List PyData} (h : Nds N D xs) (r : Nds N D ys) : Nds N D (xs ++ ys) := fun y m => (List.mem_append.mp m).elim (h y) (r y)
theorem Nds.sub {xs ys : List PyData} (h : Nds N D xs) (s : ∀ y ∈ ys, y ∈ xs) : Nds N D ys := fun y m => h y (s y m)
theorem nd_shaped {d : PyData} (h : Nd N D d) (hD : D ≤ 64) : SeqAt.shaped d = true := by
  unfold SeqAt.shaped
  rw [h.lay, Bool.true_and]
  exact decide_eq_true (Nat.le_trans h.dep hD)
end
theorem log_lt {a : Nat} (h : a < 2 ^ 1920) : a.log2 < 1920 := by
  by_cases h0 : a = 0
  · subst h0; decide
  · exact (Nat.log2_lt h0).mpr h
mutual
theorem intsB_show {N : Nat} (h : N < 2 ^ 1920) : ∀ d : PyData, d.canLay0 = true → intsB N d = true → d.showable = true ∧ d.hasDict = false
  | .none, _, _ => ⟨rfl, rfl⟩
  | .bool _, _, _ => ⟨rfl, rfl⟩
  | .str _, _, _ => ⟨rfl, rfl⟩
  | .int i, _, e => by
    simp only [intsB, decide_eq_true_eq] at e
    exact ⟨by simp only [PyData.showable, decide_eq_true_eq]; exact log_lt (by omega), rfl⟩
  | .list xs, l, e => by simp only [intsB, PyData.canLay0, PyData.showable, PyData.hasDict] at *; exact intsBs_show h xs l e
  | .tuple xs, l, e => by simp only [intsB, PyData.canLay0, PyData.showable, PyData.hasDict] at *; exact intsBs_show h xs l e
  | .dict _, _, e => by simp [intsB] at e
theorem intsBs_show {N : Nat} (h : N < 2 ^ 1920) : ∀ xs : List PyData, PyData.canLayAll0 xs = true → intsBs N xs = true → PyData.showableAll xs = true ∧ PyData.hasDictAll xs = false
  | [], _, _ => ⟨rfl, rfl⟩
  | x :: xs, l, e => by
    simp only [intsBs, PyData.canLayAll0, PyData.showableAll, PyData.hasDictAll, Bool.and_eq_true, Bool.or_eq_false_iff] at *
    have a := intsB_show h x l.1 e.1
    have b := intsBs_show h xs l.2 e.2
    exact ⟨⟨a.1, b.1⟩, a.2, b.2⟩
end
theorem int_shown {i : Int} {k : Nat} (hk : 0 < k) (h : i.natAbs < 10 ^ k) : (PyData.shown (.int i)).length ≤ k + 1 := by
  have := int_text_length_le10 hk h
  simp only [PyData.shown]
  rw [PySem.ofString_length]
  exact this
mutual
theorem leaves_short {N k : Nat} (hk : 0 < k) (h : N < 10 ^ k) : ∀ d : PyData, d.canLay0 = true → intsB N d = true → d.leavesShort (k + 1) = true
  | .none, _, _ => rfl
  | .bool _, _, _ => rfl
  | .str x, l, _ => PyData.leavesShort_of_canLay0 (k + 1) (.str x) l rfl
  | .int i, _, e => by
    simp only [intsB, decide_eq_true_eq] at e
    simp only [PyData.leavesShort, decide_eq_true_eq]
    exact int_shown hk (by omega)
  | .list xs, l, e => by simp only [intsB, PyData.canLay0, PyData.leavesShort] at *; exact leaves_shorts hk h xs l e
  | .tuple xs, l, e => by simp only [intsB, PyData.canLay0, PyData.leavesShort] at *; exact leaves_shorts hk h xs l e
  | .dict _, _, e => by simp [intsB] at e
theorem leaves_shorts {N k : Nat} (hk : 0 < k) (h : N < 10 ^ k) : ∀ xs : List PyData, PyData.canLayAll0 xs = true → intsBs N xs = true → PyData.leavesShortAll (k + 1) xs = true
  | [], _, _ => rfl
  | x :: xs, l, e => by
    simp only [intsBs, PyData.canLayAll0, PyData.leavesShortAll, Bool.and_eq_true] at *
    exact ⟨leaves_short hk h x l.1 e.1, leaves_shorts hk h xs l.2 e.2⟩
end
theorem ten_two : (10 : Nat) ^ 200 < 2 ^ 1920 := by
  refine Nat.lt_of_lt_of_le (Nat.pow_lt_pow_left (by decide : 10 < 16) (by decide)) ?_
  rw [show (16 : Nat) = 2 ^ 4 from rfl, ← Nat.pow_mul]
  exact Nat.pow_le_pow_right (by decide) (by decide)
theorem nd_show {N D b : Nat} {d : PyData} (h : Nd N D d) (hN : N < 10 ^ 200) (hD : D ≤ 60) (hb : d.bulk ≤ b) (hb2 : b ≤ 80000) : showOk d = true := by
  have h1 := intsB_show (N := N) (Nat.lt_trans hN ten_two) d h.lay h.nums
  have h2 := PyData.shown_le_bulk 201 (by decide) d (leaves_short (by decide) hN d h.lay h.nums)
  have h3 : d.shown.length ≤ sizeLine := by
    have e : sizeLine = 16777216 := by decide
    have e2 : (201 + 2) * d.bulk ≤ 203 * 80000 := Nat.mul_le_mul (by decide) (by omega)
    omega
  unfold showOk
  rw [h1.1, h1.2, decide_eq_true h3, decide_eq_true (Nat.le_trans h.dep hD)]
  rfl
/-! bulk -/
theorem bulk_app : ∀ xs ys : List PyData, PyData.bulkAll (xs ++ ys) = PyData.bulkAll xs + PyData.bulkAll ys
  | [], ys => by simp [PyData.bulkAll]
  | x :: xs, ys => by simp only [List.cons_append, PyData.bulkAll, bulk_app xs ys]; omega
theorem bulk_mem : ∀ {xs : List PyData} {x : PyData}, x ∈ xs → x.bulk + 1 ≤ PyData.bulkAll xs
  | [], _, m => by cases m
  | y :: xs, x, m => by
    rcases List.mem_cons.mp m with rfl | m
    · simp only [PyData.bulkAll]; omega
    · have := bulk_mem m; simp only [PyData.bulkAll]; omega
theorem bulk_len : ∀ xs : List PyData, xs.length ≤ PyData.bulkAll xs
  | [] => Nat.zero_le _
  | x :: xs => by have := bulk_len xs; simp only [PyData.bulkAll, List.length_cons]; omega
theorem bulk_rev : ∀ xs : List PyData, PyData.bulkAll xs.reverse = PyData.bulkAll xs
  | [] => rfl
  | x :: xs => by rw [List.reverse_cons, bulk_app, bulk_rev xs]; simp only [PyData.bulkAll]; omega
theorem bulk_take (k : Nat) (xs : List PyData) : PyData.bulkAll (xs.take k) ≤ PyData.bulkAll xs := by
  have := bulk_app (xs.take k) (xs.drop k)
  rw [List.take_append_drop] at this
  omega
theorem bulk_drop (k : Nat) (xs : List PyData) : PyData.bulkAll (xs.drop k) ≤ PyData.bulkAll xs := by
  have := bulk_app (xs.take k) (xs.drop k)
  rw [List.take_append_drop] at this
  omega
theorem bulk_cut (xs : List PyData) (lo hi : Option Int) : PyData.bulkAll (cutL xs lo hi) ≤ PyData.bulkAll xs := Nat.le_trans (bulk_take _ _) (bulk_drop _ _)
theorem cut_mem {α : Type} {xs : List α} {lo hi : Option Int} {x : α} (h : x ∈ cutL xs lo hi) : x ∈ xs := List.mem_of_mem_drop (List.mem_of_mem_take h)
end DL
set_option Elab.async false
set_option linter.all false
set_option maxRecDepth 100000
set_option maxHeartbeats 4000000
set_option autoImplicit false
namespace DL
open PySem PySem.Spec PyProof.Rows L2

theorem ifT {c : Bool} {A B : Prop} (h : c = true) (a : A) : if c = true then A else B := by rw [if_pos h]; exact a
theorem ifF {c : Bool} {A B : Prop} (h : c = false) (b : B) : if c = true then A else B := by rw [if_neg (by rw [h]; decide)]; exact b
/-! ### turns by an invariant: what is gone through, what is gathered, how the slots stand -/
theorem lc_inv {G : WG} {wt : WT} {we : WE} {own : List Nat} {ds : List PyData} {P : List PyData → SEnv → Prop} (I : List PyData → List PyData → SEnv → Prop) (fin : ∀ acc δ, I ds acc δ → P acc δ)
    (step : ∀ (pre : List PyData) (x : PyData) (post acc : List PyData) (δ : SEnv) (Q : List PyData → SEnv → Prop), ds = pre ++ x :: post → I pre acc δ → (∀ acc' δ', I (pre ++ [x]) acc' δ' → Q acc' δ') →
      ob (G x (forgetAll δ own)) fun δ1 => wt Ex0 δ1 fun b δ2 => if b = true then we Ex0 δ2 fun r δ3 => ob (frz δ3 r) fun p => acc.length < sizeLine ∧ Q (acc ++ [p.1]) p.2 else Q acc δ2) :
    ∀ {δ : SEnv}, I [] [] δ → wLcR G wt we own ds [] δ P := by
  have go : ∀ (post pre acc : List PyData) (δ : SEnv), ds = pre ++ post → I pre acc δ → wLcR G wt we own post acc δ P := by
    intro post
    induction post with
    | nil =>
      intro pre acc δ e h
      rw [List.append_nil] at e
      subst e
      exact fin _ _ h
    | cons x post ih =>
      intro pre acc δ e h
      exact step pre x post acc δ (fun acc' δ' => wLcR G wt we own post acc' δ' P) e h fun acc' δ' h' => ih (pre ++ [x]) acc' δ' (by rw [e, List.append_assoc]; rfl) h'
  intro δ h
  exact go ds [] [] δ rfl h
theorem for_inv {G : WG} {body : WS} {ds : List PyData} {d : DEnds} (I : List PyData → SEnv → Prop) (fin : ∀ δ, I ds δ → d.nx δ)
    (step : ∀ (pre : List PyData) (x : PyData) (post : List PyData) (δ : SEnv) (Q : SEnv → Prop), ds = pre ++ x :: post → I pre δ → (∀ δ', I (pre ++ [x]) δ' → Q δ') → ob (G x δ) fun δ1 => body { d with nx := Q, bk := d.nx, ct := Q } δ1) :
    ∀ {δ : SEnv}, I [] δ → wForR G body ds d δ := by
  have go : ∀ (post pre : List PyData) (δ : SEnv), ds = pre ++ post → I pre δ → wForR G body post d δ := by
    intro post
    induction post with
    | nil =>
      intro pre δ e h
      rw [List.append_nil] at e
      subst e
      exact fin _ h
    | cons x post ih =>
      intro pre δ e h
      exact step pre x post δ (wForR G body post d) e h fun δ' h' => ih (pre ++ [x]) δ' (by rw [e, List.append_assoc]; rfl) h'
  intro δ h
  exact go ds [] δ rfl h
/-- a list by a pure rule: those that are kept, each as it is written -/
theorem lc_pure {G : WG} {wt : WT} {we : WE} {own : List Nat} {ds : List PyData} {P : List PyData → SEnv → Prop} {δ δf : SEnv} (p : PyData → Bool) (f : PyData → PyData) (h0 : forgetAll δ own = δf) (hl : ds.length ≤ sizeLine)
    (step : ∀ x ∈ ds, ∀ (Q : R → SEnv → Prop) (Q' : SEnv → Prop), (p x = true → ∀ δ1, forgetAll δ1 own = δf → Q (.d (f x)) δ1) → (p x = false → ∀ δ1, forgetAll δ1 own = δf → Q' δ1) →
      ob (G x δf) fun δ1 => wt Ex0 δ1 fun b δ2 => if b = true then we Ex0 δ2 Q else Q' δ2)
    (k : ∀ δ', forgetAll δ' own = δf → P ((ds.filter p).map f) δ') : wLcR G wt we own ds [] δ P := by
  refine lc_inv (fun pre acc δ => acc = (pre.filter p).map f ∧ forgetAll δ own = δf) (fun acc δ ⟨e, h⟩ => by subst e; exact k δ h) (fun pre x post acc δ Q e ⟨ea, h⟩ hQ => ?_) ⟨rfl, h0⟩
  rw [h]
  have hx : x ∈ ds := by rw [e]; exact List.mem_append_right _ (List.mem_cons_self ..)
  have hlen : acc.length < sizeLine := by
    have h1 : acc.length ≤ pre.length := by rw [ea, List.length_map]; exact List.length_filter_le _ _
    have h2 : pre.length < ds.length := by rw [e, List.length_append, List.length_cons]; omega
    omega
  refine step x hx (fun r δ3 => ob (frz δ3 r) fun p => acc.length < sizeLine ∧ Q (acc ++ [p.1]) p.2) (fun δ2 => Q acc δ2) (fun hp δ1 h1 => ⟨_, rfl, hlen, hQ _ _ ⟨?_, h1⟩⟩) (fun hp δ1 h1 => hQ _ _ ⟨?_, h1⟩)
  · rw [ea, List.filter_append, List.map_append, List.filter_cons, if_pos hp]
    rfl
  · rw [ea, List.filter_append, List.map_append, List.filter_cons, if_neg (by rw [hp]; decide)]
    simp
theorem bools_map : ∀ bs : List Bool, bools (bs.map .bool) = some bs
  | [] => rfl
  | b :: bs => by
    show (bools (bs.map PyData.bool)).map _ = _
    rw [bools_map bs]
    rfl
theorem all_bools (bs : List Bool) : allF [.d (.list (bs.map .bool))] = some (.val (.bool (bs.all id))) := by
  show (bools _).map _ = _
  rw [bools_map]
  rfl
theorem all_map (g : PyData → Bool) (ds : List PyData) : allF [.d (.list (ds.map fun y => .bool (g y)))] = some (.val (.bool (ds.all g))) := by
  have h := all_bools (ds.map g)
  rw [List.map_map, List.all_map] at h
  exact h
/-- a sign against a sign -/
theorem sign_lt (a c : Nat) : decide (([c] : List Nat) < [a]) = decide (c < a) := by
  refine decide_eq_decide.mpr ?_
  rw [List.cons_lt_cons_iff]
  constructor
  · rintro (h | ⟨_, h⟩)
    · exact h
    · exact absurd h (List.lt_irrefl _)
  · exact .inl
theorem sign_le (a c : Nat) : (!decide (([c] : List Nat) < [a])) = decide (a ≤ c) := by
  rw [sign_lt, ← decide_not]
  exact decide_eq_decide.mpr (by omega)
end DL
set_option Elab.async false
set_option linter.all false
set_option maxRecDepth 100000
set_option maxHeartbeats 4000000
set_option autoImplicit false
namespace V01
open PySem PySem.Spec PyProof.Rows L2 DL
/-! ### the text by places -/
def top (i : Nat) : Stmt := PySem.Challenge.pw_drawerways_k01_kinds.main.body.getD i (.Pass ⟨0, 0, 0, 0⟩)
abbrev s_is_number : Stmt := top 1
abbrev s_is_name : Stmt := top 2
abbrev s_is_way : Stmt := top 3
abbrev s_feed : Stmt := top 5
abbrev s_draw : Stmt := top 6
abbrev s_bent : Stmt := top 7
abbrev s_text : Stmt := top 8
abbrev s_thing : Stmt := top 9
abbrev s_due : Stmt := top 10
abbrev s_law : Stmt := top 11
/-! ### is_number -/
theorem sc_is_number : FnScope ["thing"] ["thing"] (defScope s_is_number) := ⟨rfl, rfl, rfl, by decide +kernel, rfl, by decide +kernel, by decide +kernel⟩
@[irreducible] def t_is_number_1 : WS := (wRet (wAndV (wIsi "int" (wVar 0)) (wAndV (wNotV (wIsi "bool" (wVar 0))) (wOp geF (wVar 0) (wC (.int 0))))))
def w_is_number : WS := ((wRet (wAndV (wIsi "int" (wVar 0)) (wAndV (wNotV (wIsi "bool" (wVar 0))) (wOp geF (wVar 0) (wC (.int 0)))))))
theorem w_is_number_eq : w_is_number = (t_is_number_1) := by with_unfolding_all rfl
theorem df_is_number {g : Gx} {k : Nat} (m_isinstance : g.mg "isinstance" = none) (m_bool : g.mg "bool" = none) (m_int : g.mg "int" = none) {f : Addr} {fd : FuncData} (Fn : Fun g.K "is_number" "is_number" s_is_number f fd) : FnG g CX0 (k + 1) f fd ["thing"] (spOf g.K 1 (fnW 1 1 w_is_number)) :=
  fn_dl (N := ["thing"]) Fn sc_is_number (fun E => (ds_one (ds_ret (de_and (de_isi (T := "int") rfl rfl m_isinstance rfl m_int rfl (de_var (i := 0) rfl (by first | exact .inl rfl | exact .inr (.inl rfl) | exact .inr (.inr rfl)))) (de_and (de_not (de_isi (T := "bool") rfl rfl m_isinstance rfl m_bool rfl (de_var (i := 0) rfl (by first | exact .inl rfl | exact .inr (.inl rfl) | exact .inr (.inr rfl))))) (de_one (de_cmp os_ge (de_var (i := 0) rfl (by first | exact .inl rfl | exact .inr (.inl rfl) | exact .inr (.inr rfl))) de_int rfl))))))) (by decide)
theorem bd_is_number {K : PySem.W.Frag} {f : Addr} {fd : FuncData} (Fn : Fun K "is_number" "is_number" s_is_number f fd) : Binds K fd ["thing"] [] := Fn.binds (ps := ["thing"]) fun _ _ _ _ _ _ us hl => match us, hl with | [_], _ => rfl
theorem cal_is_number {g : Gx} {k : Nat} {W : FSpec} (m_isinstance : g.mg "isinstance" = none) (m_bool : g.mg "bool" = none) (m_int : g.mg "int" = none) (h : Got g "is_number" s_is_number) (im : ∀ ss Ex P, W ss Ex P → fnW 1 1 w_is_number ss Ex P) : Cal g CX0 (k + 1) "is_number" ["thing"] W := by
  obtain ⟨f, fd, m, F⟩ := h
  exact Cal.imp ⟨f, fd, df_is_number  m_isinstance m_bool m_int F, m, F.kp, bd_is_number F⟩ im
/-! ### is_name -/
theorem sc_is_name : FnScope ["thing", "sign"] ["thing"] (defScope s_is_name) := ⟨rfl, rfl, rfl, by decide +kernel, rfl, by decide +kernel, by decide +kernel⟩
@[irreducible] def t_is_name_1 : WS := (wRet (wCB allF (wCons (wLc (wIt (wVar 0)) (gN 1) wYes (wChn leF leF (wC (.str "a")) (wVar 1) (wC (.str "z"))) [1]) wNil)))
@[irreducible] def t_is_name_2 : WS := (wRet (wC (.bool false)))
@[irreducible] def t_is_name_3 : WS := wSeq (wIfS (wOr (wNot (wTru (wIsi "str" (wVar 0)))) (wNot (wB (wChn leF leF (wC (.int 1)) (wCB lenF (wCons (wVar 0) wNil)) (wC (.int 8))))))
    (t_is_name_2) wNext)
    (t_is_name_1)
def w_is_name : WS := (wSeq (wIfS (wOr (wNot (wTru (wIsi "str" (wVar 0)))) (wNot (wB (wChn leF leF (wC (.int 1)) (wCB lenF (wCons (wVar 0) wNil)) (wC (.int 8))))))
    ((wRet (wC (.bool false)))) wNext)
    ((wRet (wCB allF (wCons (wLc (wIt (wVar 0)) (gN 1) wYes (wChn leF leF (wC (.str "a")) (wVar 1) (wC (.str "z"))) [1]) wNil)))))
theorem w_is_name_eq : w_is_name = (t_is_name_3) := by with_unfolding_all rfl
theorem df_is_name {g : Gx} {k : Nat} (m_all : g.mg "all" = none) (m_len : g.mg "len" = none) (m_isinstance : g.mg "isinstance" = none) (m_str : g.mg "str" = none) {f : Addr} {fd : FuncData} (Fn : Fun g.K "is_name" "is_name" s_is_name f fd) : FnG g CX0 (k + 1) f fd ["thing"] (spOf g.K 1 (fnW 1 2 w_is_name)) :=
  fn_dl (N := ["thing", "sign"]) Fn sc_is_name (fun E => (ds_cons (ds_if (dt_w (dw_or (dt_not (dt_tru (de_isi (T := "str") rfl rfl m_isinstance rfl m_str rfl (de_var (i := 0) rfl (by first | exact .inl rfl | exact .inr (.inl rfl) | exact .inr (.inr rfl)))) (fun _ _ => rfl))) (dw_or1 (dt_not (dt_chn os_le os_le de_int (de_callB cs_len rfl m_len rfl (da_cons (de_var (i := 0) rfl (by first | exact .inl rfl | exact .inr (.inl rfl) | exact .inr (.inr rfl))) da_nil)) de_int)))))
    (ds_one (ds_ret de_bl)) ds_nil)
    (ds_one (ds_ret (de_callB cs_all rfl m_all rfl (da_cons (de_lc (own := [("sign", 1)]) cx0_ok (di_seq (de_var (i := 0) rfl (by first | exact .inl rfl | exact .inr (.inl rfl) | exact .inr (.inr rfl)))) rfl (dg_name (i := 1) rfl (.inl rfl)) rfl dts_nil (de_chn os_le os_le de_str (de_var (i := 1) rfl (by first | exact .inl rfl | exact .inr (.inl rfl) | exact .inr (.inr rfl))) de_str)) da_nil)))))) (by decide)
theorem bd_is_name {K : PySem.W.Frag} {f : Addr} {fd : FuncData} (Fn : Fun K "is_name" "is_name" s_is_name f fd) : Binds K fd ["thing"] [] := Fn.binds (ps := ["thing"]) fun _ _ _ _ _ _ us hl => match us, hl with | [_], _ => rfl
theorem cal_is_name {g : Gx} {k : Nat} {W : FSpec} (m_all : g.mg "all" = none) (m_len : g.mg "len" = none) (m_isinstance : g.mg "isinstance" = none) (m_str : g.mg "str" = none) (h : Got g "is_name" s_is_name) (im : ∀ ss Ex P, W ss Ex P → fnW 1 2 w_is_name ss Ex P) : Cal g CX0 (k + 1) "is_name" ["thing"] W := by
  obtain ⟨f, fd, m, F⟩ := h
  exact Cal.imp ⟨f, fd, df_is_name  m_all m_len m_isinstance m_str F, m, F.kp, bd_is_name F⟩ im
/-! ### is_way -/
theorem sc_is_way : FnScope ["thing", "name"] ["thing"] (defScope s_is_way) := ⟨rfl, rfl, rfl, by decide +kernel, rfl, by decide +kernel, by decide +kernel⟩
@[irreducible] def t_is_way_1 (C_is_name : FSpec) : WS := (wRet (wAndV (wIsi "tuple" (wVar 0)) (wCB allF (wCons (wLc (wIt (wVar 0)) (gN 1) wYes (wCall 1 C_is_name [false] (wCons (wVar 1) wNil)) [1]) wNil))))
def w_is_way (C_is_name : FSpec) : WS := ((wRet (wAndV (wIsi "tuple" (wVar 0)) (wCB allF (wCons (wLc (wIt (wVar 0)) (gN 1) wYes (wCall 1 C_is_name [false] (wCons (wVar 1) wNil)) [1]) wNil)))))
theorem w_is_way_eq (C_is_name : FSpec) : w_is_way C_is_name = (t_is_way_1 C_is_name) := by with_unfolding_all rfl
theorem df_is_way {g : Gx} {k : Nat} {C_is_name : FSpec} (mono_is_name : FMono C_is_name) (c_is_name : Cal g CX0 k "is_name" ["thing"] C_is_name) (m_all : g.mg "all" = none) (m_isinstance : g.mg "isinstance" = none) (m_tuple : g.mg "tuple" = none) {f : Addr} {fd : FuncData} (Fn : Fun g.K "is_way" "is_way" s_is_way f fd) : FnG g CX0 (k + 1) f fd ["thing"] (spOf g.K 1 (fnW 1 2 (w_is_way C_is_name))) :=
  fn_dl (N := ["thing", "name"]) Fn sc_is_way (fun E => (ds_one (ds_ret (de_and (de_isi (T := "tuple") rfl rfl m_isinstance rfl m_tuple rfl (de_var (i := 0) rfl (by first | exact .inl rfl | exact .inr (.inl rfl) | exact .inr (.inr rfl)))) (de_one (de_callB cs_all rfl m_all rfl (da_cons (de_lc (own := [("name", 1)]) cx0_ok (di_seq (de_var (i := 0) rfl (by first | exact .inl rfl | exact .inr (.inl rfl) | exact .inr (.inr rfl)))) rfl (dg_name (i := 1) rfl (.inl rfl)) rfl dts_nil (de_cal (ms := [false]) c_is_name mono_is_name rfl (da_cons (de_var (i := 1) rfl (by first | exact .inl rfl | exact .inr (.inl rfl) | exact .inr (.inr rfl))) da_nil))) da_nil))))))) (by decide)
theorem bd_is_way {K : PySem.W.Frag} {f : Addr} {fd : FuncData} (Fn : Fun K "is_way" "is_way" s_is_way f fd) : Binds K fd ["thing"] [] := Fn.binds (ps := ["thing"]) fun _ _ _ _ _ _ us hl => match us, hl with | [_], _ => rfl
theorem cal_is_way {g : Gx} {k : Nat} {C_is_name : FSpec} {W : FSpec} (mono_is_name : FMono C_is_name) (c_is_name : Cal g CX0 k "is_name" ["thing"] C_is_name) (m_all : g.mg "all" = none) (m_isinstance : g.mg "isinstance" = none) (m_tuple : g.mg "tuple" = none) (h : Got g "is_way" s_is_way) (im : ∀ ss Ex P, W ss Ex P → fnW 1 2 (w_is_way C_is_name) ss Ex P) : Cal g CX0 (k + 1) "is_way" ["thing"] W := by
  obtain ⟨f, fd, m, F⟩ := h
  exact Cal.imp ⟨f, fd, df_is_way mono_is_name c_is_name m_all m_isinstance m_tuple F, m, F.kp, bd_is_way F⟩ im
/-! ### _law_feed -/
theorem sc_feed : FnScope ["_law_script"] ["_law_script"] (defScope s_feed) := ⟨rfl, rfl, rfl, by decide +kernel, rfl, by decide +kernel, by decide +kernel⟩
@[irreducible] def t_feed_1 : WS := (wRet (wDisp (((wC (.str "cells")), (wCB listF (wCons (wSl (wVar 0) wNoP (wPart (wC (.int 63)))) wNil))) :: (((wC (.str "at")), (wC (.int 0))) :: (((wC (.str "left")), (wC (.int 0))) :: (((wC (.str "count")), (wC (.int 0))) :: []))))))
def w_feed : WS := ((wRet (wDisp (((wC (.str "cells")), (wCB listF (wCons (wSl (wVar 0) wNoP (wPart (wC (.int 63)))) wNil))) :: (((wC (.str "at")), (wC (.int 0))) :: (((wC (.str "left")), (wC (.int 0))) :: (((wC (.str "count")), (wC (.int 0))) :: [])))))))
theorem w_feed_eq : w_feed = (t_feed_1) := by with_unfolding_all rfl
theorem df_feed {g : Gx} {k : Nat} (m_list : g.mg "list" = none) {f : Addr} {fd : FuncData} (Fn : Fun g.K "_law_feed" "_law_feed" s_feed f fd) : FnG g CX0 (k + 1) f fd ["_law_script"] (spOf g.K 1 (fnW 1 1 w_feed)) :=
  fn_dl (N := ["_law_script"]) Fn sc_feed (fun E => (ds_one (ds_ret (de_disp (dps_cons de_str (de_callT cs_list rfl m_list rfl (da_cons (de_sl (de_var (i := 0) rfl (by first | exact .inl rfl | exact .inr (.inl rfl) | exact .inr (.inr rfl))) do_none (do_some de_int)) da_nil)) (dps_cons de_str de_int (dps_cons de_str de_int (dps_cons de_str de_int dps_nil)))))))) (by decide)
theorem bd_feed {K : PySem.W.Frag} {f : Addr} {fd : FuncData} (Fn : Fun K "_law_feed" "_law_feed" s_feed f fd) : Binds K fd ["_law_script"] [] := Fn.binds (ps := ["_law_script"]) fun _ _ _ _ _ _ us hl => match us, hl with | [_], _ => rfl
theorem cal_feed {g : Gx} {k : Nat} {W : FSpec} (m_list : g.mg "list" = none) (h : Got g "_law_feed" s_feed) (im : ∀ ss Ex P, W ss Ex P → fnW 1 1 w_feed ss Ex P) : Cal g CX0 (k + 1) "_law_feed" ["_law_script"] W := by
  obtain ⟨f, fd, m, F⟩ := h
  exact Cal.imp ⟨f, fd, df_feed  m_list F, m, F.kp, bd_feed F⟩ im
/-! ### _law_draw -/
theorem sc_draw : FnScope ["_law_feed_here", "_law_many", "_law_figure", "_law_at", "_law_cell", "_law_mixed"] ["_law_feed_here", "_law_many"] (defScope s_draw) := ⟨rfl, rfl, rfl, by decide +kernel, rfl, by decide +kernel, by decide +kernel⟩
@[irreducible] def t_draw_1 : WS := (wRet (wOp modF (wOp fdivF (wOp modF (wOp addF (wOp mulF (wVar 5) (wVar 5)) (wOp mulF (wC (.int 29)) (wVar 5))) (wC (.int 2147483543))) (wC (.int 16))) (wVar 1)))
@[irreducible] def t_draw_2 : WS := wSeq (wSet 5 (wOp modF (wOp addF (wOp addF (wOp mulF (wVar 5) (wVar 5)) (wOp mulF (wC (.int 7368787)) (wOp idxF (wVar 0) (wC (.str "count"))))) (wC (.int 17))) (wC (.int 2147483549))))
    (t_draw_1)
@[irreducible] def t_draw_3 : WS := wSeq (wSet 5 (wOp modF (wOp addF (wOp addF (wOp modF (wVar 4) (wC (.int 1000000097))) (wOp mulF (wC (.int 60013)) (wOp idxF (wVar 0) (wC (.str "count"))))) (wC (.int 47))) (wC (.int 2147483579))))
    (t_draw_2)
@[irreducible] def t_draw_4 : WS := (wRet (wOp modF (wVar 4) (wVar 1)))
@[irreducible] def t_draw_5 : WS := wSeq (wPut 0 (wC (.str "left")) (wOp fdivF (wVar 4) (wVar 1)))
    (t_draw_4)
@[irreducible] def t_draw_6 : WS := wSeq (wIfS (wAnd (wB (wOp geF (wVar 4) (wOp powF (wC (.int 10)) (wC (.int 18))))) (wB (wOp ltF (wVar 3) (wCB lenF (wCons (wOp idxF (wVar 0) (wC (.str "cells"))) wNil)))))
    (t_draw_5) wNext)
    (t_draw_3)
@[irreducible] def x_draw_7 : WE := wIf (wB (wOp neF (wOp idxF (wVar 0) (wC (.str "cells"))) (wLst wNil))) (wOp idxF (wOp idxF (wVar 0) (wC (.str "cells"))) (wOp modF (wVar 3) (wCB lenF (wCons (wOp idxF (wVar 0) (wC (.str "cells"))) wNil)))) (wC (.int 13))
@[irreducible] def t_draw_8 : WS := wSeq (wSet 4 (x_draw_7))
    (t_draw_6)
@[irreducible] def t_draw_9 : WS := wSeq (wPut 0 (wC (.str "at")) (wOp addF (wVar 3) (wC (.int 1))))
    (t_draw_8)
@[irreducible] def t_draw_10 : WS := wSeq (wSet 3 (wOp idxF (wVar 0) (wC (.str "at"))))
    (t_draw_9)
@[irreducible] def t_draw_11 : WS := (wRet (wVar 2))
@[irreducible] def t_draw_12 : WS := wSeq (wPut 0 (wC (.str "left")) (wOp fdivF (wOp idxF (wVar 0) (wC (.str "left"))) (wVar 1)))
    (t_draw_11)
@[irreducible] def t_draw_13 : WS := wSeq (wSet 2 (wOp modF (wOp idxF (wVar 0) (wC (.str "left"))) (wVar 1)))
    (t_draw_12)
@[irreducible] def t_draw_14 : WS := wSeq (wIfS (wB (wOp gtF (wOp idxF (wVar 0) (wC (.str "left"))) (wC (.int 0))))
    (t_draw_13) wNext)
    (t_draw_10)
@[irreducible] def t_draw_15 : WS := wSeq (wPut 0 (wC (.str "count")) (wOp addF (wOp idxF (wVar 0) (wC (.str "count"))) (wC (.int 1))))
    (t_draw_14)
def w_draw : WS := (wSeq (wPut 0 (wC (.str "count")) (wOp addF (wOp idxF (wVar 0) (wC (.str "count"))) (wC (.int 1))))
    (wSeq (wIfS (wB (wOp gtF (wOp idxF (wVar 0) (wC (.str "left"))) (wC (.int 0))))
    (wSeq (wSet 2 (wOp modF (wOp idxF (wVar 0) (wC (.str "left"))) (wVar 1)))
    (wSeq (wPut 0 (wC (.str "left")) (wOp fdivF (wOp idxF (wVar 0) (wC (.str "left"))) (wVar 1)))
    ((wRet (wVar 2))))) wNext)
    (wSeq (wSet 3 (wOp idxF (wVar 0) (wC (.str "at"))))
    (wSeq (wPut 0 (wC (.str "at")) (wOp addF (wVar 3) (wC (.int 1))))
    (wSeq (wSet 4 (wIf (wB (wOp neF (wOp idxF (wVar 0) (wC (.str "cells"))) (wLst wNil))) (wOp idxF (wOp idxF (wVar 0) (wC (.str "cells"))) (wOp modF (wVar 3) (wCB lenF (wCons (wOp idxF (wVar 0) (wC (.str "cells"))) wNil)))) (wC (.int 13))))
    (wSeq (wIfS (wAnd (wB (wOp geF (wVar 4) (wOp powF (wC (.int 10)) (wC (.int 18))))) (wB (wOp ltF (wVar 3) (wCB lenF (wCons (wOp idxF (wVar 0) (wC (.str "cells"))) wNil)))))
    (wSeq (wPut 0 (wC (.str "left")) (wOp fdivF (wVar 4) (wVar 1)))
    ((wRet (wOp modF (wVar 4) (wVar 1))))) wNext)
    (wSeq (wSet 5 (wOp modF (wOp addF (wOp addF (wOp modF (wVar 4) (wC (.int 1000000097))) (wOp mulF (wC (.int 60013)) (wOp idxF (wVar 0) (wC (.str "count"))))) (wC (.int 47))) (wC (.int 2147483579))))
    (wSeq (wSet 5 (wOp modF (wOp addF (wOp addF (wOp mulF (wVar 5) (wVar 5)) (wOp mulF (wC (.int 7368787)) (wOp idxF (wVar 0) (wC (.str "count"))))) (wC (.int 17))) (wC (.int 2147483549))))
    ((wRet (wOp modF (wOp fdivF (wOp modF (wOp addF (wOp mulF (wVar 5) (wVar 5)) (wOp mulF (wC (.int 29)) (wVar 5))) (wC (.int 2147483543))) (wC (.int 16))) (wVar 1))))))))))))
theorem w_draw_eq : w_draw = (t_draw_15) := by with_unfolding_all rfl
theorem df_draw {g : Gx} {k : Nat} (m_len : g.mg "len" = none) {f : Addr} {fd : FuncData} (Fn : Fun g.K "_law_draw" "_law_draw" s_draw f fd) : FnG g CX0 (k + 1) f fd ["_law_feed_here", "_law_many"] (spOf g.K 2 (fnW 2 6 w_draw)) :=
  fn_dl (N := ["_law_feed_here", "_law_many", "_law_figure", "_law_at", "_law_cell", "_law_mixed"]) Fn sc_draw (fun E => (ds_cons (ds_put (i := 0) rfl (by first | exact .inl rfl | exact .inr (.inl rfl) | exact .inr (.inr rfl)) de_str (de_op os_add (de_ix (de_var (i := 0) rfl (by first | exact .inl rfl | exact .inr (.inl rfl) | exact .inr (.inr rfl))) de_str) de_int))
    (ds_cons (ds_if (dt_cmp os_gt (de_ix (de_var (i := 0) rfl (by first | exact .inl rfl | exact .inr (.inl rfl) | exact .inr (.inr rfl))) de_str) de_int rfl)
    (ds_cons (ds_set (i := 2) rfl (by first | exact .inl rfl | exact .inr rfl) (de_op os_mod (de_ix (de_var (i := 0) rfl (by first | exact .inl rfl | exact .inr (.inl rfl) | exact .inr (.inr rfl))) de_str) (de_var (i := 1) rfl (by first | exact .inl rfl | exact .inr (.inl rfl) | exact .inr (.inr rfl)))))
    (ds_cons (ds_put (i := 0) rfl (by first | exact .inl rfl | exact .inr (.inl rfl) | exact .inr (.inr rfl)) de_str (de_op os_fdiv (de_ix (de_var (i := 0) rfl (by first | exact .inl rfl | exact .inr (.inl rfl) | exact .inr (.inr rfl))) de_str) (de_var (i := 1) rfl (by first | exact .inl rfl | exact .inr (.inl rfl) | exact .inr (.inr rfl)))))
    (ds_one (ds_ret (de_var (i := 2) rfl (by first | exact .inl rfl | exact .inr (.inl rfl) | exact .inr (.inr rfl))))))) ds_nil)
    (ds_cons (ds_set (i := 3) rfl (by first | exact .inl rfl | exact .inr rfl) (de_ix (de_var (i := 0) rfl (by first | exact .inl rfl | exact .inr (.inl rfl) | exact .inr (.inr rfl))) de_str))
    (ds_cons (ds_put (i := 0) rfl (by first | exact .inl rfl | exact .inr (.inl rfl) | exact .inr (.inr rfl)) de_str (de_op os_add (de_var (i := 3) rfl (by first | exact .inl rfl | exact .inr (.inl rfl) | exact .inr (.inr rfl))) de_int))
    (ds_cons (ds_set (i := 4) rfl (by first | exact .inl rfl | exact .inr rfl) (de_ifx (dt_cmp os_ne (de_ix (de_var (i := 0) rfl (by first | exact .inl rfl | exact .inr (.inl rfl) | exact .inr (.inr rfl))) de_str) (de_lst da_nil) rfl) (de_ix (de_ix (de_var (i := 0) rfl (by first | exact .inl rfl | exact .inr (.inl rfl) | exact .inr (.inr rfl))) de_str) (de_op os_mod (de_var (i := 3) rfl (by first | exact .inl rfl | exact .inr (.inl rfl) | exact .inr (.inr rfl))) (de_callB cs_len rfl m_len rfl (da_cons (de_ix (de_var (i := 0) rfl (by first | exact .inl rfl | exact .inr (.inl rfl) | exact .inr (.inr rfl))) de_str) da_nil)))) de_int))
    (ds_cons (ds_if (dt_w (dw_and (dt_cmp os_ge (de_var (i := 4) rfl (by first | exact .inl rfl | exact .inr (.inl rfl) | exact .inr (.inr rfl))) (de_op os_pow de_int de_int) rfl) (dw_and1 (dt_cmp os_lt (de_var (i := 3) rfl (by first | exact .inl rfl | exact .inr (.inl rfl) | exact .inr (.inr rfl))) (de_callB cs_len rfl m_len rfl (da_cons (de_ix (de_var (i := 0) rfl (by first | exact .inl rfl | exact .inr (.inl rfl) | exact .inr (.inr rfl))) de_str) da_nil)) rfl))))
    (ds_cons (ds_put (i := 0) rfl (by first | exact .inl rfl | exact .inr (.inl rfl) | exact .inr (.inr rfl)) de_str (de_op os_fdiv (de_var (i := 4) rfl (by first | exact .inl rfl | exact .inr (.inl rfl) | exact .inr (.inr rfl))) (de_var (i := 1) rfl (by first | exact .inl rfl | exact .inr (.inl rfl) | exact .inr (.inr rfl)))))
    (ds_one (ds_ret (de_op os_mod (de_var (i := 4) rfl (by first | exact .inl rfl | exact .inr (.inl rfl) | exact .inr (.inr rfl))) (de_var (i := 1) rfl (by first | exact .inl rfl | exact .inr (.inl rfl) | exact .inr (.inr rfl))))))) ds_nil)
    (ds_cons (ds_set (i := 5) rfl (by first | exact .inl rfl | exact .inr rfl) (de_op os_mod (de_op os_add (de_op os_add (de_op os_mod (de_var (i := 4) rfl (by first | exact .inl rfl | exact .inr (.inl rfl) | exact .inr (.inr rfl))) de_int) (de_op os_mul de_int (de_ix (de_var (i := 0) rfl (by first | exact .inl rfl | exact .inr (.inl rfl) | exact .inr (.inr rfl))) de_str))) de_int) de_int))
    (ds_cons (ds_set (i := 5) rfl (by first | exact .inl rfl | exact .inr rfl) (de_op os_mod (de_op os_add (de_op os_add (de_op os_mul (de_var (i := 5) rfl (by first | exact .inl rfl | exact .inr (.inl rfl) | exact .inr (.inr rfl))) (de_var (i := 5) rfl (by first | exact .inl rfl | exact .inr (.inl rfl) | exact .inr (.inr rfl)))) (de_op os_mul de_int (de_ix (de_var (i := 0) rfl (by first | exact .inl rfl | exact .inr (.inl rfl) | exact .inr (.inr rfl))) de_str))) de_int) de_int))
    (ds_one (ds_ret (de_op os_mod (de_op os_fdiv (de_op os_mod (de_op os_add (de_op os_mul (de_var (i := 5) rfl (by first | exact .inl rfl | exact .inr (.inl rfl) | exact .inr (.inr rfl))) (de_var (i := 5) rfl (by first | exact .inl rfl | exact .inr (.inl rfl) | exact .inr (.inr rfl)))) (de_op os_mul de_int (de_var (i := 5) rfl (by first | exact .inl rfl | exact .inr (.inl rfl) | exact .inr (.inr rfl))))) de_int) de_int) (de_var (i := 1) rfl (by first | exact .inl rfl | exact .inr (.inl rfl) | exact .inr (.inr rfl))))))))))))))) (by decide)
theorem bd_draw {K : PySem.W.Frag} {f : Addr} {fd : FuncData} (Fn : Fun K "_law_draw" "_law_draw" s_draw f fd) : Binds K fd ["_law_feed_here", "_law_many"] [] := Fn.binds (ps := ["_law_feed_here", "_law_many"]) fun _ _ _ _ _ _ us hl => match us, hl with | [_, _], _ => rfl
theorem cal_draw {g : Gx} {k : Nat} {W : FSpec} (m_len : g.mg "len" = none) (h : Got g "_law_draw" s_draw) (im : ∀ ss Ex P, W ss Ex P → fnW 2 6 w_draw ss Ex P) : Cal g CX0 (k + 1) "_law_draw" ["_law_feed_here", "_law_many"] W := by
  obtain ⟨f, fd, m, F⟩ := h
  exact Cal.imp ⟨f, fd, df_draw  m_len F, m, F.kp, bd_draw F⟩ im
/-! ### _law_bent -/
theorem sc_bent : FnScope ["_law_feed_here", "_law_thing_here", "_law_at", "_law_mode", "_law_odd"] ["_law_feed_here", "_law_thing_here"] (defScope s_bent) := ⟨rfl, rfl, rfl, by decide +kernel, rfl, by decide +kernel, by decide +kernel⟩
@[irreducible] def t_bent_1 (C_draw C_bent : FSpec) : WS := (wRet (wOp idxF (wLst (wCons (wC .none) (wCons (wC (.bool true)) (wCons (wC (.int 0)) (wCons (wC (.int 1)) (wCons (wC (.str "")) (wCons (wTup wNil) (wCons (wLst wNil) (wCons (wNeg (wC (.int 1))) (wCons (wC (.str "a")) wNil)))))))))) (wVar 3)))
@[irreducible] def t_bent_2 (C_draw C_bent : FSpec) : WS := (wRet (wOp idxF (wLst (wCons (wOp addF (wVar 1) (wC (.int 1))) (wCons (wOp subF (wVar 1) (wC (.int 1))) (wCons (wOp eqF (wVar 1) (wC (.int 1))) (wCons (wCB strF (wCons (wVar 1) wNil)) (wCons (wC .none) (wCons (wTup (wCons (wVar 1) wNil)) (wCons (wC (.int 0)) (wCons (wNeg (wC (.int 1))) (wCons (wOp powF (wC (.int 10)) (wC (.int 60))) wNil)))))))))) (wVar 3)))
@[irreducible] def t_bent_3 (C_draw C_bent : FSpec) : WS := wSeq (wIfS (wTru (wIsi "int" (wVar 1)))
    (t_bent_2 C_draw C_bent) wNext)
    (t_bent_1 C_draw C_bent)
@[irreducible] def t_bent_4 (C_draw C_bent : FSpec) : WS := (wRet (wOp idxF (wOp addF (wVar 4) (wLst (wCons (wOp addF (wVar 1) (wTup (wCons (wC .none) wNil))) wNil))) (wVar 3)))
@[irreducible] def t_bent_5 (C_draw C_bent : FSpec) : WS := wSeq (wSet 4 (wLst (wCons (wCB listF (wCons (wVar 1) wNil)) (wCons (wRev (wVar 1)) (wCons (wTup (wCons (wVar 1) wNil)) (wCons (wOp addF (wVar 1) (wVar 1)) (wCons (wTup wNil) (wCons (wC .none) (wCons (wSl (wVar 1) (wPart (wC (.int 1))) wNoP) (wCons (wSl (wVar 1) wNoP (wPart (wNeg (wC (.int 1))))) wNil))))))))))
    (t_bent_4 C_draw C_bent)
@[irreducible] def t_bent_6 (C_draw C_bent : FSpec) : WS := wSeq (wIfS (wTru (wIsi "tuple" (wVar 1)))
    (t_bent_5 C_draw C_bent) wNext)
    (t_bent_3 C_draw C_bent)
@[irreducible] def t_bent_7 (C_draw C_bent : FSpec) : WS := wSeq (wSet 3 (wCall 2 C_draw [true, false] (wCons (wVar 0) (wCons (wC (.int 9)) wNil))))
    (t_bent_6 C_draw C_bent)
@[irreducible] def t_bent_8 (C_draw C_bent : FSpec) : WS := (wRet (wOp addF (wOp addF (wSl (wVar 1) wNoP (wPart (wVar 2))) (wTup (wCons (wCall 2 C_bent [true, false] (wCons (wVar 0) (wCons (wOp idxF (wVar 1) (wVar 2)) wNil))) wNil))) (wSl (wVar 1) (wPart (wOp addF (wVar 2) (wC (.int 1)))) wNoP)))
@[irreducible] def t_bent_9 (C_draw C_bent : FSpec) : WS := wSeq (wSet 2 (wCall 2 C_draw [true, false] (wCons (wVar 0) (wCons (wCB lenF (wCons (wVar 1) wNil)) wNil))))
    (t_bent_8 C_draw C_bent)
@[irreducible] def t_bent_10 (C_draw C_bent : FSpec) : WS := wSeq (wIfS (wAnd (wTru (wIsi "tuple" (wVar 1))) (wAnd (wB (wOp neF (wVar 1) (wTup wNil))) (wB (wOp gtF (wCall 2 C_draw [true, false] (wCons (wVar 0) (wCons (wC (.int 5)) wNil))) (wC (.int 0))))))
    (t_bent_9 C_draw C_bent) wNext)
    (t_bent_7 C_draw C_bent)
def w_bent (C_draw C_bent : FSpec) : WS := (wSeq (wIfS (wAnd (wTru (wIsi "tuple" (wVar 1))) (wAnd (wB (wOp neF (wVar 1) (wTup wNil))) (wB (wOp gtF (wCall 2 C_draw [true, false] (wCons (wVar 0) (wCons (wC (.int 5)) wNil))) (wC (.int 0))))))
    (wSeq (wSet 2 (wCall 2 C_draw [true, false] (wCons (wVar 0) (wCons (wCB lenF (wCons (wVar 1) wNil)) wNil))))
    ((wRet (wOp addF (wOp addF (wSl (wVar 1) wNoP (wPart (wVar 2))) (wTup (wCons (wCall 2 C_bent [true, false] (wCons (wVar 0) (wCons (wOp idxF (wVar 1) (wVar 2)) wNil))) wNil))) (wSl (wVar 1) (wPart (wOp addF (wVar 2) (wC (.int 1)))) wNoP))))) wNext)
    (wSeq (wSet 3 (wCall 2 C_draw [true, false] (wCons (wVar 0) (wCons (wC (.int 9)) wNil))))
    (wSeq (wIfS (wTru (wIsi "tuple" (wVar 1)))
    (wSeq (wSet 4 (wLst (wCons (wCB listF (wCons (wVar 1) wNil)) (wCons (wRev (wVar 1)) (wCons (wTup (wCons (wVar 1) wNil)) (wCons (wOp addF (wVar 1) (wVar 1)) (wCons (wTup wNil) (wCons (wC .none) (wCons (wSl (wVar 1) (wPart (wC (.int 1))) wNoP) (wCons (wSl (wVar 1) wNoP (wPart (wNeg (wC (.int 1))))) wNil))))))))))
    ((wRet (wOp idxF (wOp addF (wVar 4) (wLst (wCons (wOp addF (wVar 1) (wTup (wCons (wC .none) wNil))) wNil))) (wVar 3))))) wNext)
    (wSeq (wIfS (wTru (wIsi "int" (wVar 1)))
    ((wRet (wOp idxF (wLst (wCons (wOp addF (wVar 1) (wC (.int 1))) (wCons (wOp subF (wVar 1) (wC (.int 1))) (wCons (wOp eqF (wVar 1) (wC (.int 1))) (wCons (wCB strF (wCons (wVar 1) wNil)) (wCons (wC .none) (wCons (wTup (wCons (wVar 1) wNil)) (wCons (wC (.int 0)) (wCons (wNeg (wC (.int 1))) (wCons (wOp powF (wC (.int 10)) (wC (.int 60))) wNil)))))))))) (wVar 3)))) wNext)
    ((wRet (wOp idxF (wLst (wCons (wC .none) (wCons (wC (.bool true)) (wCons (wC (.int 0)) (wCons (wC (.int 1)) (wCons (wC (.str "")) (wCons (wTup wNil) (wCons (wLst wNil) (wCons (wNeg (wC (.int 1))) (wCons (wC (.str "a")) wNil)))))))))) (wVar 3))))))))
theorem w_bent_eq (C_draw C_bent : FSpec) : w_bent C_draw C_bent = (t_bent_10 C_draw C_bent) := by with_unfolding_all rfl
theorem df_bent {g : Gx} {k : Nat} {C_draw C_bent : FSpec} (mono_draw : FMono C_draw) (c_draw : Cal g CX0 k "_law_draw" ["_law_feed_here", "_law_many"] C_draw) (mono_bent : FMono C_bent) (c_bent : Cal g CX0 k "_law_bent" ["_law_feed_here", "_law_thing_here"] C_bent) (m_isinstance : g.mg "isinstance" = none) (m_int : g.mg "int" = none) (m_str : g.mg "str" = none) (m_tuple : g.mg "tuple" = none) (m_list : g.mg "list" = none) (m_len : g.mg "len" = none) {f : Addr} {fd : FuncData} (Fn : Fun g.K "_law_bent" "_law_bent" s_bent f fd) : FnG g CX0 (k + 1) f fd ["_law_feed_here", "_law_thing_here"] (spOf g.K 2 (fnW 2 5 (w_bent C_draw C_bent))) :=
  fn_dl (N := ["_law_feed_here", "_law_thing_here", "_law_at", "_law_mode", "_law_odd"]) Fn sc_bent (fun E => (ds_cons (ds_if (dt_w (dw_and (dt_tru (de_isi (T := "tuple") rfl rfl m_isinstance rfl m_tuple rfl (de_var (i := 1) rfl (by first | exact .inl rfl | exact .inr (.inl rfl) | exact .inr (.inr rfl)))) (fun _ _ => rfl)) (dw_and (dt_cmp os_ne (de_var (i := 1) rfl (by first | exact .inl rfl | exact .inr (.inl rfl) | exact .inr (.inr rfl))) (de_tup da_nil) rfl) (dw_and1 (dt_cmp os_gt (de_cal (ms := [true, false]) c_draw mono_draw rfl (da_cons (de_var (i := 0) rfl (by first | exact .inl rfl | exact .inr (.inl rfl) | exact .inr (.inr rfl))) (da_cons de_int da_nil))) de_int rfl)))))
    (ds_cons (ds_set (i := 2) rfl (by first | exact .inl rfl | exact .inr rfl) (de_cal (ms := [true, false]) c_draw mono_draw rfl (da_cons (de_var (i := 0) rfl (by first | exact .inl rfl | exact .inr (.inl rfl) | exact .inr (.inr rfl))) (da_cons (de_callB cs_len rfl m_len rfl (da_cons (de_var (i := 1) rfl (by first | exact .inl rfl | exact .inr (.inl rfl) | exact .inr (.inr rfl))) da_nil)) da_nil))))
    (ds_one (ds_ret (de_op os_add (de_op os_add (de_sl (de_var (i := 1) rfl (by first | exact .inl rfl | exact .inr (.inl rfl) | exact .inr (.inr rfl))) do_none (do_some (de_var (i := 2) rfl (by first | exact .inl rfl | exact .inr (.inl rfl) | exact .inr (.inr rfl))))) (de_tup (da_cons (de_cal (ms := [true, false]) c_bent mono_bent rfl (da_cons (de_var (i := 0) rfl (by first | exact .inl rfl | exact .inr (.inl rfl) | exact .inr (.inr rfl))) (da_cons (de_ix (de_var (i := 1) rfl (by first | exact .inl rfl | exact .inr (.inl rfl) | exact .inr (.inr rfl))) (de_var (i := 2) rfl (by first | exact .inl rfl | exact .inr (.inl rfl) | exact .inr (.inr rfl)))) da_nil))) da_nil))) (de_sl (de_var (i := 1) rfl (by first | exact .inl rfl | exact .inr (.inl rfl) | exact .inr (.inr rfl))) (do_some (de_op os_add (de_var (i := 2) rfl (by first | exact .inl rfl | exact .inr (.inl rfl) | exact .inr (.inr rfl))) de_int)) do_none))))) ds_nil)
    (ds_cons (ds_set (i := 3) rfl (by first | exact .inl rfl | exact .inr rfl) (de_cal (ms := [true, false]) c_draw mono_draw rfl (da_cons (de_var (i := 0) rfl (by first | exact .inl rfl | exact .inr (.inl rfl) | exact .inr (.inr rfl))) (da_cons de_int da_nil))))
    (ds_cons (ds_if (dt_tru (de_isi (T := "tuple") rfl rfl m_isinstance rfl m_tuple rfl (de_var (i := 1) rfl (by first | exact .inl rfl | exact .inr (.inl rfl) | exact .inr (.inr rfl)))) (fun _ _ => rfl))
    (ds_cons (ds_set (i := 4) rfl (by first | exact .inl rfl | exact .inr rfl) (de_lst (da_cons (de_callT cs_list rfl m_list rfl (da_cons (de_var (i := 1) rfl (by first | exact .inl rfl | exact .inr (.inl rfl) | exact .inr (.inr rfl))) da_nil)) (da_cons (de_rev (de_var (i := 1) rfl (by first | exact .inl rfl | exact .inr (.inl rfl) | exact .inr (.inr rfl)))) (da_cons (de_tup (da_cons (de_var (i := 1) rfl (by first | exact .inl rfl | exact .inr (.inl rfl) | exact .inr (.inr rfl))) da_nil)) (da_cons (de_op os_add (de_var (i := 1) rfl (by first | exact .inl rfl | exact .inr (.inl rfl) | exact .inr (.inr rfl))) (de_var (i := 1) rfl (by first | exact .inl rfl | exact .inr (.inl rfl) | exact .inr (.inr rfl)))) (da_cons (de_tup da_nil) (da_cons de_non (da_cons (de_sl (de_var (i := 1) rfl (by first | exact .inl rfl | exact .inr (.inl rfl) | exact .inr (.inr rfl))) (do_some de_int) do_none) (da_cons (de_sl (de_var (i := 1) rfl (by first | exact .inl rfl | exact .inr (.inl rfl) | exact .inr (.inr rfl))) do_none (do_some (de_neg de_int))) da_nil))))))))))
    (ds_one (ds_ret (de_ix (de_op os_add (de_var (i := 4) rfl (by first | exact .inl rfl | exact .inr (.inl rfl) | exact .inr (.inr rfl))) (de_lst (da_cons (de_op os_add (de_var (i := 1) rfl (by first | exact .inl rfl | exact .inr (.inl rfl) | exact .inr (.inr rfl))) (de_tup (da_cons de_non da_nil))) da_nil))) (de_var (i := 3) rfl (by first | exact .inl rfl | exact .inr (.inl rfl) | exact .inr (.inr rfl))))))) ds_nil)
    (ds_cons (ds_if (dt_tru (de_isi (T := "int") rfl rfl m_isinstance rfl m_int rfl (de_var (i := 1) rfl (by first | exact .inl rfl | exact .inr (.inl rfl) | exact .inr (.inr rfl)))) (fun _ _ => rfl))
    (ds_one (ds_ret (de_ix (de_lst (da_cons (de_op os_add (de_var (i := 1) rfl (by first | exact .inl rfl | exact .inr (.inl rfl) | exact .inr (.inr rfl))) de_int) (da_cons (de_op os_sub (de_var (i := 1) rfl (by first | exact .inl rfl | exact .inr (.inl rfl) | exact .inr (.inr rfl))) de_int) (da_cons (de_cmp os_eq (de_var (i := 1) rfl (by first | exact .inl rfl | exact .inr (.inl rfl) | exact .inr (.inr rfl))) de_int rfl) (da_cons (de_callT cs_str rfl m_str rfl (da_cons (de_var (i := 1) rfl (by first | exact .inl rfl | exact .inr (.inl rfl) | exact .inr (.inr rfl))) da_nil)) (da_cons de_non (da_cons (de_tup (da_cons (de_var (i := 1) rfl (by first | exact .inl rfl | exact .inr (.inl rfl) | exact .inr (.inr rfl))) da_nil)) (da_cons de_int (da_cons (de_neg de_int) (da_cons (de_op os_pow de_int de_int) da_nil)))))))))) (de_var (i := 3) rfl (by first | exact .inl rfl | exact .inr (.inl rfl) | exact .inr (.inr rfl)))))) ds_nil)
    (ds_one (ds_ret (de_ix (de_lst (da_cons de_non (da_cons de_bl (da_cons de_int (da_cons de_int (da_cons de_str (da_cons (de_tup da_nil) (da_cons (de_lst da_nil) (da_cons (de_neg de_int) (da_cons de_str da_nil)))))))))) (de_var (i := 3) rfl (by first | exact .inl rfl | exact .inr (.inl rfl) | exact .inr (.inr rfl))))))))))) (by decide)
theorem bd_bent {K : PySem.W.Frag} {f : Addr} {fd : FuncData} (Fn : Fun K "_law_bent" "_law_bent" s_bent f fd) : Binds K fd ["_law_feed_here", "_law_thing_here"] [] := Fn.binds (ps := ["_law_feed_here", "_law_thing_here"]) fun _ _ _ _ _ _ us hl => match us, hl with | [_, _], _ => rfl
theorem cal_bent {g : Gx} {k : Nat} {C_draw C_bent : FSpec} {W : FSpec} (mono_draw : FMono C_draw) (c_draw : Cal g CX0 k "_law_draw" ["_law_feed_here", "_law_many"] C_draw) (mono_bent : FMono C_bent) (c_bent : Cal g CX0 k "_law_bent" ["_law_feed_here", "_law_thing_here"] C_bent) (m_isinstance : g.mg "isinstance" = none) (m_int : g.mg "int" = none) (m_str : g.mg "str" = none) (m_tuple : g.mg "tuple" = none) (m_list : g.mg "list" = none) (m_len : g.mg "len" = none) (h : Got g "_law_bent" s_bent) (im : ∀ ss Ex P, W ss Ex P → fnW 2 5 (w_bent C_draw C_bent) ss Ex P) : Cal g CX0 (k + 1) "_law_bent" ["_law_feed_here", "_law_thing_here"] W := by
  obtain ⟨f, fd, m, F⟩ := h
  exact Cal.imp ⟨f, fd, df_bent mono_draw c_draw mono_bent c_bent m_isinstance m_int m_str m_tuple m_list m_len F, m, F.kp, bd_bent F⟩ im
/-! ### _law_text -/
theorem sc_text : FnScope ["_law_feed_here", "_law_signs", "_law_some", "_law_text_here", "_law_k", "_law_at"] ["_law_feed_here"] (defScope s_text) := ⟨rfl, rfl, rfl, by decide +kernel, rfl, by decide +kernel, by decide +kernel⟩
@[irreducible] def t_text_1 (C_draw : FSpec) : WS := (wRet (wVar 3))
@[irreducible] def t_text_2 (C_draw : FSpec) : WS := (wSet 3 (wOp addF (wOp addF (wSl (wVar 3) wNoP (wPart (wVar 5))) (wOp idxF (wVar 1) (wCall 2 C_draw [true, false] (wCons (wVar 0) (wCons (wC (.int 94)) wNil))))) (wSl (wVar 3) (wPart (wOp addF (wVar 5) (wCall 2 C_draw [true, false] (wCons (wVar 0) (wCons (wC (.int 2)) wNil))))) wNoP)))
@[irreducible] def t_text_3 (C_draw : FSpec) : WS := wSeq (wSet 5 (wCall 2 C_draw [true, false] (wCons (wVar 0) (wCons (wOp addF (wCB lenF (wCons (wVar 3) wNil)) (wC (.int 1))) wNil))))
    (t_text_2 C_draw)
@[irreducible] def t_text_4 (C_draw : FSpec) : WS := wSeq (wIfS (wB (wOp eqF (wCall 2 C_draw [true, false] (wCons (wVar 0) (wCons (wC (.int 2)) wNil))) (wC (.int 0))))
    (t_text_3 C_draw) wNext)
    (t_text_1 C_draw)
@[irreducible] def t_text_5 (C_draw : FSpec) : WS := wSeq (wSet 3 (wJoin (wC (.str "")) (wLc (wRng (wCons (wCall 2 C_draw [true, false] (wCons (wVar 0) (wCons (wC (.int 11)) wNil))) wNil) rng1) (gN 4) wYes (wOp idxF (wVar 2) (wCall 2 C_draw [true, false] (wCons (wVar 0) (wCons (wCB lenF (wCons (wVar 2) wNil)) wNil)))) [4])))
    (t_text_4 C_draw)
@[irreducible] def t_text_6 (C_draw : FSpec) : WS := wSeq (wSet 2 (wOp idxF (wLst (wCons (wC (.str "abcdefghijklmnopqrstuvwxyz")) (wCons (wVar 1) wNil))) (wCall 2 C_draw [true, false] (wCons (wVar 0) (wCons (wC (.int 2)) wNil)))))
    (t_text_5 C_draw)
@[irreducible] def t_text_7 (C_draw : FSpec) : WS := wSeq (wSet 1 (wC (.str " !\"#$&'()*+,-./0123456789:;<=>?@ABCDEFGHIJKLMNOPQRSTUVWXYZ[\\]^_`abcdefghijklmnopqrstuvwxyz{|}~")))
    (t_text_6 C_draw)
def w_text (C_draw : FSpec) : WS := (wSeq (wSet 1 (wC (.str " !\"#$&'()*+,-./0123456789:;<=>?@ABCDEFGHIJKLMNOPQRSTUVWXYZ[\\]^_`abcdefghijklmnopqrstuvwxyz{|}~")))
    (wSeq (wSet 2 (wOp idxF (wLst (wCons (wC (.str "abcdefghijklmnopqrstuvwxyz")) (wCons (wVar 1) wNil))) (wCall 2 C_draw [true, false] (wCons (wVar 0) (wCons (wC (.int 2)) wNil)))))
    (wSeq (wSet 3 (wJoin (wC (.str "")) (wLc (wRng (wCons (wCall 2 C_draw [true, false] (wCons (wVar 0) (wCons (wC (.int 11)) wNil))) wNil) rng1) (gN 4) wYes (wOp idxF (wVar 2) (wCall 2 C_draw [true, false] (wCons (wVar 0) (wCons (wCB lenF (wCons (wVar 2) wNil)) wNil)))) [4])))
    (wSeq (wIfS (wB (wOp eqF (wCall 2 C_draw [true, false] (wCons (wVar 0) (wCons (wC (.int 2)) wNil))) (wC (.int 0))))
    (wSeq (wSet 5 (wCall 2 C_draw [true, false] (wCons (wVar 0) (wCons (wOp addF (wCB lenF (wCons (wVar 3) wNil)) (wC (.int 1))) wNil))))
    ((wSet 3 (wOp addF (wOp addF (wSl (wVar 3) wNoP (wPart (wVar 5))) (wOp idxF (wVar 1) (wCall 2 C_draw [true, false] (wCons (wVar 0) (wCons (wC (.int 94)) wNil))))) (wSl (wVar 3) (wPart (wOp addF (wVar 5) (wCall 2 C_draw [true, false] (wCons (wVar 0) (wCons (wC (.int 2)) wNil))))) wNoP))))) wNext)
    ((wRet (wVar 3)))))))
theorem w_text_eq (C_draw : FSpec) : w_text C_draw = (t_text_7 C_draw) := by with_unfolding_all rfl
theorem df_text {g : Gx} {k : Nat} {C_draw : FSpec} (mono_draw : FMono C_draw) (c_draw : Cal g CX0 k "_law_draw" ["_law_feed_here", "_law_many"] C_draw) (m_len : g.mg "len" = none) (m_range : g.mg "range" = none) {f : Addr} {fd : FuncData} (Fn : Fun g.K "_law_text" "_law_text" s_text f fd) : FnG g CX0 (k + 1) f fd ["_law_feed_here"] (spOf g.K 1 (fnW 1 6 (w_text C_draw))) :=
  fn_dl (N := ["_law_feed_here", "_law_signs", "_law_some", "_law_text_here", "_law_k", "_law_at"]) Fn sc_text (fun E => (ds_cons (ds_set (i := 1) rfl (by first | exact .inl rfl | exact .inr rfl) de_str)
    (ds_cons (ds_set (i := 2) rfl (by first | exact .inl rfl | exact .inr rfl) (de_ix (de_lst (da_cons de_str (da_cons (de_var (i := 1) rfl (by first | exact .inl rfl | exact .inr (.inl rfl) | exact .inr (.inr rfl))) da_nil))) (de_cal (ms := [true, false]) c_draw mono_draw rfl (da_cons (de_var (i := 0) rfl (by first | exact .inl rfl | exact .inr (.inl rfl) | exact .inr (.inr rfl))) (da_cons de_int da_nil)))))
    (ds_cons (ds_set (i := 3) rfl (by first | exact .inl rfl | exact .inr rfl) (de_join de_str (de_lc (own := [("_law_k", 4)]) cx0_ok (di_rng1 rfl m_range (da_cons (de_cal (ms := [true, false]) c_draw mono_draw rfl (da_cons (de_var (i := 0) rfl (by first | exact .inl rfl | exact .inr (.inl rfl) | exact .inr (.inr rfl))) (da_cons de_int da_nil))) da_nil)) rfl (dg_name (i := 4) rfl (.inl rfl)) rfl dts_nil (de_ix (de_var (i := 2) rfl (by first | exact .inl rfl | exact .inr (.inl rfl) | exact .inr (.inr rfl))) (de_cal (ms := [true, false]) c_draw mono_draw rfl (da_cons (de_var (i := 0) rfl (by first | exact .inl rfl | exact .inr (.inl rfl) | exact .inr (.inr rfl))) (da_cons (de_callB cs_len rfl m_len rfl (da_cons (de_var (i := 2) rfl (by first | exact .inl rfl | exact .inr (.inl rfl) | exact .inr (.inr rfl))) da_nil)) da_nil)))))))
    (ds_cons (ds_if (dt_cmp os_eq (de_cal (ms := [true, false]) c_draw mono_draw rfl (da_cons (de_var (i := 0) rfl (by first | exact .inl rfl | exact .inr (.inl rfl) | exact .inr (.inr rfl))) (da_cons de_int da_nil))) de_int rfl)
    (ds_cons (ds_set (i := 5) rfl (by first | exact .inl rfl | exact .inr rfl) (de_cal (ms := [true, false]) c_draw mono_draw rfl (da_cons (de_var (i := 0) rfl (by first | exact .inl rfl | exact .inr (.inl rfl) | exact .inr (.inr rfl))) (da_cons (de_op os_add (de_callB cs_len rfl m_len rfl (da_cons (de_var (i := 3) rfl (by first | exact .inl rfl | exact .inr (.inl rfl) | exact .inr (.inr rfl))) da_nil)) de_int) da_nil))))
    (ds_one (ds_set (i := 3) rfl (by first | exact .inl rfl | exact .inr rfl) (de_op os_add (de_op os_add (de_sl (de_var (i := 3) rfl (by first | exact .inl rfl | exact .inr (.inl rfl) | exact .inr (.inr rfl))) do_none (do_some (de_var (i := 5) rfl (by first | exact .inl rfl | exact .inr (.inl rfl) | exact .inr (.inr rfl))))) (de_ix (de_var (i := 1) rfl (by first | exact .inl rfl | exact .inr (.inl rfl) | exact .inr (.inr rfl))) (de_cal (ms := [true, false]) c_draw mono_draw rfl (da_cons (de_var (i := 0) rfl (by first | exact .inl rfl | exact .inr (.inl rfl) | exact .inr (.inr rfl))) (da_cons de_int da_nil))))) (de_sl (de_var (i := 3) rfl (by first | exact .inl rfl | exact .inr (.inl rfl) | exact .inr (.inr rfl))) (do_some (de_op os_add (de_var (i := 5) rfl (by first | exact .inl rfl | exact .inr (.inl rfl) | exact .inr (.inr rfl))) (de_cal (ms := [true, false]) c_draw mono_draw rfl (da_cons (de_var (i := 0) rfl (by first | exact .inl rfl | exact .inr (.inl rfl) | exact .inr (.inr rfl))) (da_cons de_int da_nil))))) do_none))))) ds_nil)
    (ds_one (ds_ret (de_var (i := 3) rfl (by first | exact .inl rfl | exact .inr (.inl rfl) | exact .inr (.inr rfl)))))))))) (by decide)
theorem bd_text {K : PySem.W.Frag} {f : Addr} {fd : FuncData} (Fn : Fun K "_law_text" "_law_text" s_text f fd) : Binds K fd ["_law_feed_here"] [] := Fn.binds (ps := ["_law_feed_here"]) fun _ _ _ _ _ _ us hl => match us, hl with | [_], _ => rfl
theorem cal_text {g : Gx} {k : Nat} {C_draw : FSpec} {W : FSpec} (mono_draw : FMono C_draw) (c_draw : Cal g CX0 k "_law_draw" ["_law_feed_here", "_law_many"] C_draw) (m_len : g.mg "len" = none) (m_range : g.mg "range" = none) (h : Got g "_law_text" s_text) (im : ∀ ss Ex P, W ss Ex P → fnW 1 6 (w_text C_draw) ss Ex P) : Cal g CX0 (k + 1) "_law_text" ["_law_feed_here"] W := by
  obtain ⟨f, fd, m, F⟩ := h
  exact Cal.imp ⟨f, fd, df_text mono_draw c_draw m_len m_range F, m, F.kp, bd_text F⟩ im
/-! ### _law_thing -/
theorem sc_thing : FnScope ["_law_feed_here", "_law_mode", "_law_number", "_law_k", "_law_odd"] ["_law_feed_here"] (defScope s_thing) := ⟨rfl, rfl, rfl, by decide +kernel, rfl, by decide +kernel, by decide +kernel⟩
@[irreducible] def t_thing_1 (C_draw C_text : FSpec) : WS := (wRet (wOp idxF (wVar 4) (wCall 2 C_draw [true, false] (wCons (wVar 0) (wCons (wC (.int 15)) wNil)))))
@[irreducible] def t_thing_2 (C_draw C_text : FSpec) : WS := wSeq (wSet 4 (wLst (wCons (wC (.bool true)) (wCons (wC (.bool false)) (wCons (wC .none) (wCons (wC (.str "")) (wCons (wC (.str "a")) (wCons (wC (.str "abcdefgh")) (wCons (wC (.str "abcdefghi")) (wCons (wTup wNil) (wCons (wLst wNil) (wCons (wTup (wCons (wC (.str "")) wNil)) (wCons (wTup (wCons (wC (.str "a")) (wCons (wC (.int 1)) wNil))) (wCons (wC (.str "A")) (wCons (wC (.str "a b")) (wCons (wLst (wCons (wC (.str "a")) wNil)) (wCons (wTup (wCons (wTup (wCons (wC (.str "a")) wNil)) wNil)) wNil)))))))))))))))))
    (t_thing_1 C_draw C_text)
@[irreducible] def t_thing_3 (C_draw C_text : FSpec) : WS := (wRet (wCB tupleF (wCons (wLc (wRng (wCons (wCall 2 C_draw [true, false] (wCons (wVar 0) (wCons (wC (.int 6)) wNil))) wNil) rng1) (gN 3) wYes (wOp idxF (wLst (wCons (wC (.str "a")) (wCons (wC (.str "ab")) (wCons (wC (.str "abcdefgh")) (wCons (wC (.str "z")) wNil))))) (wCall 2 C_draw [true, false] (wCons (wVar 0) (wCons (wC (.int 4)) wNil)))) [3]) wNil)))
@[irreducible] def t_thing_4 (C_draw C_text : FSpec) : WS := wSeq (wIfS (wB (wOp eqF (wVar 1) (wC (.int 3))))
    (t_thing_3 C_draw C_text) wNext)
    (t_thing_2 C_draw C_text)
@[irreducible] def t_thing_5 (C_draw C_text : FSpec) : WS := (wRet (wOp mulF (wVar 2) (wOp idxF (wLst (wCons (wC (.int 1)) (wCons (wC (.int 1)) (wCons (wNeg (wC (.int 1))) wNil)))) (wCall 2 C_draw [true, false] (wCons (wVar 0) (wCons (wC (.int 3)) wNil))))))
@[irreducible] def x_thing_6 (C_draw C_text : FSpec) : WE := wIf (wB (wOp eqF (wCall 2 C_draw [true, false] (wCons (wVar 0) (wCons (wC (.int 6)) wNil))) (wC (.int 0)))) (wCall 2 C_draw [true, false] (wCons (wVar 0) (wCons (wC (.int 33)) wNil))) (wC (.int 0))
@[irreducible] def t_thing_7 (C_draw C_text : FSpec) : WS := (wSet 2 (wOp addF (wOp mulF (wVar 2) (wOp powF (wC (.int 10)) (wC (.int 6)))) (wCall 2 C_draw [true, false] (wCons (wVar 0) (wCons (wOp powF (wC (.int 10)) (wC (.int 6))) wNil)))))
@[irreducible] def t_thing_8 (C_draw C_text : FSpec) : WS := wSeq (wFor (wRng (wCons (x_thing_6 C_draw C_text) wNil) rng1) (gN 3)
    (t_thing_7 C_draw C_text))
    (t_thing_5 C_draw C_text)
@[irreducible] def t_thing_9 (C_draw C_text : FSpec) : WS := wSeq (wSet 2 (wCall 2 C_draw [true, false] (wCons (wVar 0) (wCons (wC (.int 60)) wNil))))
    (t_thing_8 C_draw C_text)
@[irreducible] def t_thing_10 (C_draw C_text : FSpec) : WS := wSeq (wIfS (wB (wOp eqF (wVar 1) (wC (.int 2))))
    (t_thing_9 C_draw C_text) wNext)
    (t_thing_4 C_draw C_text)
@[irreducible] def t_thing_11 (C_draw C_text : FSpec) : WS := (wRet (wCall 1 C_text [true] (wCons (wVar 0) wNil)))
@[irreducible] def t_thing_12 (C_draw C_text : FSpec) : WS := wSeq (wIfS (wB (wOp ltF (wVar 1) (wC (.int 2))))
    (t_thing_11 C_draw C_text) wNext)
    (t_thing_10 C_draw C_text)
@[irreducible] def t_thing_13 (C_draw C_text : FSpec) : WS := wSeq (wSet 1 (wCall 2 C_draw [true, false] (wCons (wVar 0) (wCons (wC (.int 5)) wNil))))
    (t_thing_12 C_draw C_text)
def w_thing (C_draw C_text : FSpec) : WS := (wSeq (wSet 1 (wCall 2 C_draw [true, false] (wCons (wVar 0) (wCons (wC (.int 5)) wNil))))
    (wSeq (wIfS (wB (wOp ltF (wVar 1) (wC (.int 2))))
    ((wRet (wCall 1 C_text [true] (wCons (wVar 0) wNil)))) wNext)
    (wSeq (wIfS (wB (wOp eqF (wVar 1) (wC (.int 2))))
    (wSeq (wSet 2 (wCall 2 C_draw [true, false] (wCons (wVar 0) (wCons (wC (.int 60)) wNil))))
    (wSeq (wFor (wRng (wCons (wIf (wB (wOp eqF (wCall 2 C_draw [true, false] (wCons (wVar 0) (wCons (wC (.int 6)) wNil))) (wC (.int 0)))) (wCall 2 C_draw [true, false] (wCons (wVar 0) (wCons (wC (.int 33)) wNil))) (wC (.int 0))) wNil) rng1) (gN 3)
    ((wSet 2 (wOp addF (wOp mulF (wVar 2) (wOp powF (wC (.int 10)) (wC (.int 6)))) (wCall 2 C_draw [true, false] (wCons (wVar 0) (wCons (wOp powF (wC (.int 10)) (wC (.int 6))) wNil)))))))
    ((wRet (wOp mulF (wVar 2) (wOp idxF (wLst (wCons (wC (.int 1)) (wCons (wC (.int 1)) (wCons (wNeg (wC (.int 1))) wNil)))) (wCall 2 C_draw [true, false] (wCons (wVar 0) (wCons (wC (.int 3)) wNil))))))))) wNext)
    (wSeq (wIfS (wB (wOp eqF (wVar 1) (wC (.int 3))))
    ((wRet (wCB tupleF (wCons (wLc (wRng (wCons (wCall 2 C_draw [true, false] (wCons (wVar 0) (wCons (wC (.int 6)) wNil))) wNil) rng1) (gN 3) wYes (wOp idxF (wLst (wCons (wC (.str "a")) (wCons (wC (.str "ab")) (wCons (wC (.str "abcdefgh")) (wCons (wC (.str "z")) wNil))))) (wCall 2 C_draw [true, false] (wCons (wVar 0) (wCons (wC (.int 4)) wNil)))) [3]) wNil)))) wNext)
    (wSeq (wSet 4 (wLst (wCons (wC (.bool true)) (wCons (wC (.bool false)) (wCons (wC .none) (wCons (wC (.str "")) (wCons (wC (.str "a")) (wCons (wC (.str "abcdefgh")) (wCons (wC (.str "abcdefghi")) (wCons (wTup wNil) (wCons (wLst wNil) (wCons (wTup (wCons (wC (.str "")) wNil)) (wCons (wTup (wCons (wC (.str "a")) (wCons (wC (.int 1)) wNil))) (wCons (wC (.str "A")) (wCons (wC (.str "a b")) (wCons (wLst (wCons (wC (.str "a")) wNil)) (wCons (wTup (wCons (wTup (wCons (wC (.str "a")) wNil)) wNil)) wNil)))))))))))))))))
    ((wRet (wOp idxF (wVar 4) (wCall 2 C_draw [true, false] (wCons (wVar 0) (wCons (wC (.int 15)) wNil)))))))))))
theorem w_thing_eq (C_draw C_text : FSpec) : w_thing C_draw C_text = (t_thing_13 C_draw C_text) := by with_unfolding_all rfl
theorem df_thing {g : Gx} {k : Nat} {C_draw C_text : FSpec} (mono_draw : FMono C_draw) (c_draw : Cal g CX0 k "_law_draw" ["_law_feed_here", "_law_many"] C_draw) (mono_text : FMono C_text) (c_text : Cal g CX0 k "_law_text" ["_law_feed_here"] C_text) (m_range : g.mg "range" = none) (m_tuple : g.mg "tuple" = none) {f : Addr} {fd : FuncData} (Fn : Fun g.K "_law_thing" "_law_thing" s_thing f fd) : FnG g CX0 (k + 1) f fd ["_law_feed_here"] (spOf g.K 1 (fnW 1 5 (w_thing C_draw C_text))) :=
  fn_dl (N := ["_law_feed_here", "_law_mode", "_law_number", "_law_k", "_law_odd"]) Fn sc_thing (fun E => (ds_cons (ds_set (i := 1) rfl (by first | exact .inl rfl | exact .inr rfl) (de_cal (ms := [true, false]) c_draw mono_draw rfl (da_cons (de_var (i := 0) rfl (by first | exact .inl rfl | exact .inr (.inl rfl) | exact .inr (.inr rfl))) (da_cons de_int da_nil))))
    (ds_cons (ds_if (dt_cmp os_lt (de_var (i := 1) rfl (by first | exact .inl rfl | exact .inr (.inl rfl) | exact .inr (.inr rfl))) de_int rfl)
    (ds_one (ds_ret (de_cal (ms := [true]) c_text mono_text rfl (da_cons (de_var (i := 0) rfl (by first | exact .inl rfl | exact .inr (.inl rfl) | exact .inr (.inr rfl))) da_nil)))) ds_nil)
    (ds_cons (ds_if (dt_cmp os_eq (de_var (i := 1) rfl (by first | exact .inl rfl | exact .inr (.inl rfl) | exact .inr (.inr rfl))) de_int rfl)
    (ds_cons (ds_set (i := 2) rfl (by first | exact .inl rfl | exact .inr rfl) (de_cal (ms := [true, false]) c_draw mono_draw rfl (da_cons (de_var (i := 0) rfl (by first | exact .inl rfl | exact .inr (.inl rfl) | exact .inr (.inr rfl))) (da_cons de_int da_nil))))
    (ds_cons (ds_for (di_rng1 rfl m_range (da_cons (de_ifx (dt_cmp os_eq (de_cal (ms := [true, false]) c_draw mono_draw rfl (da_cons (de_var (i := 0) rfl (by first | exact .inl rfl | exact .inr (.inl rfl) | exact .inr (.inr rfl))) (da_cons de_int da_nil))) de_int rfl) (de_cal (ms := [true, false]) c_draw mono_draw rfl (da_cons (de_var (i := 0) rfl (by first | exact .inl rfl | exact .inr (.inl rfl) | exact .inr (.inr rfl))) (da_cons de_int da_nil))) de_int) da_nil)) (dg_name (i := 3) rfl (.inl rfl))
    (ds_one (ds_set (i := 2) rfl (by first | exact .inl rfl | exact .inr rfl) (de_op os_add (de_op os_mul (de_var (i := 2) rfl (by first | exact .inl rfl | exact .inr (.inl rfl) | exact .inr (.inr rfl))) (de_op os_pow de_int de_int)) (de_cal (ms := [true, false]) c_draw mono_draw rfl (da_cons (de_var (i := 0) rfl (by first | exact .inl rfl | exact .inr (.inl rfl) | exact .inr (.inr rfl))) (da_cons (de_op os_pow de_int de_int) da_nil)))))))
    (ds_one (ds_ret (de_op os_mul (de_var (i := 2) rfl (by first | exact .inl rfl | exact .inr (.inl rfl) | exact .inr (.inr rfl))) (de_ix (de_lst (da_cons de_int (da_cons de_int (da_cons (de_neg de_int) da_nil)))) (de_cal (ms := [true, false]) c_draw mono_draw rfl (da_cons (de_var (i := 0) rfl (by first | exact .inl rfl | exact .inr (.inl rfl) | exact .inr (.inr rfl))) (da_cons de_int da_nil))))))))) ds_nil)
    (ds_cons (ds_if (dt_cmp os_eq (de_var (i := 1) rfl (by first | exact .inl rfl | exact .inr (.inl rfl) | exact .inr (.inr rfl))) de_int rfl)
    (ds_one (ds_ret (de_callT cs_tuple rfl m_tuple rfl (da_cons (de_lc (own := [("_law_k", 3)]) cx0_ok (di_rng1 rfl m_range (da_cons (de_cal (ms := [true, false]) c_draw mono_draw rfl (da_cons (de_var (i := 0) rfl (by first | exact .inl rfl | exact .inr (.inl rfl) | exact .inr (.inr rfl))) (da_cons de_int da_nil))) da_nil)) rfl (dg_name (i := 3) rfl (.inl rfl)) rfl dts_nil (de_ix (de_lst (da_cons de_str (da_cons de_str (da_cons de_str (da_cons de_str da_nil))))) (de_cal (ms := [true, false]) c_draw mono_draw rfl (da_cons (de_var (i := 0) rfl (by first | exact .inl rfl | exact .inr (.inl rfl) | exact .inr (.inr rfl))) (da_cons de_int da_nil))))) da_nil)))) ds_nil)
    (ds_cons (ds_set (i := 4) rfl (by first | exact .inl rfl | exact .inr rfl) (de_lst (da_cons de_bl (da_cons de_bl (da_cons de_non (da_cons de_str (da_cons de_str (da_cons de_str (da_cons de_str (da_cons (de_tup da_nil) (da_cons (de_lst da_nil) (da_cons (de_tup (da_cons de_str da_nil)) (da_cons (de_tup (da_cons de_str (da_cons de_int da_nil))) (da_cons de_str (da_cons de_str (da_cons (de_lst (da_cons de_str da_nil)) (da_cons (de_tup (da_cons (de_tup (da_cons de_str da_nil)) da_nil)) da_nil)))))))))))))))))
    (ds_one (ds_ret (de_ix (de_var (i := 4) rfl (by first | exact .inl rfl | exact .inr (.inl rfl) | exact .inr (.inr rfl))) (de_cal (ms := [true, false]) c_draw mono_draw rfl (da_cons (de_var (i := 0) rfl (by first | exact .inl rfl | exact .inr (.inl rfl) | exact .inr (.inr rfl))) (da_cons de_int da_nil)))))))))))) (by decide)
theorem bd_thing {K : PySem.W.Frag} {f : Addr} {fd : FuncData} (Fn : Fun K "_law_thing" "_law_thing" s_thing f fd) : Binds K fd ["_law_feed_here"] [] := Fn.binds (ps := ["_law_feed_here"]) fun _ _ _ _ _ _ us hl => match us, hl with | [_], _ => rfl
theorem cal_thing {g : Gx} {k : Nat} {C_draw C_text : FSpec} {W : FSpec} (mono_draw : FMono C_draw) (c_draw : Cal g CX0 k "_law_draw" ["_law_feed_here", "_law_many"] C_draw) (mono_text : FMono C_text) (c_text : Cal g CX0 k "_law_text" ["_law_feed_here"] C_text) (m_range : g.mg "range" = none) (m_tuple : g.mg "tuple" = none) (h : Got g "_law_thing" s_thing) (im : ∀ ss Ex P, W ss Ex P → fnW 1 5 (w_thing C_draw C_text) ss Ex P) : Cal g CX0 (k + 1) "_law_thing" ["_law_feed_here"] W := by
  obtain ⟨f, fd, m, F⟩ := h
  exact Cal.imp ⟨f, fd, df_thing mono_draw c_draw mono_text c_text m_range m_tuple F, m, F.kp, bd_thing F⟩ im
/-! ### _law_due -/
theorem sc_due : FnScope ["_law_thing_here", "_law_name", "_law_sign", "_law_number", "_law_one"] ["_law_thing_here"] (defScope s_due) := ⟨rfl, rfl, rfl, by decide +kernel, rfl, by decide +kernel, by decide +kernel⟩
@[irreducible] def t_due_1 (C_due : FSpec) : WS := (wRet (wTup (wCons (wVar 3) (wCons (wVar 1) (wCons (wAndV (wIsi "tuple" (wVar 0)) (wOp eqF (wLc (wIt (wVar 0)) (gN 4) (wNot (wTru (wOp idxF (wCall 1 C_due [false] (wCons (wVar 4) wNil)) (wC (.int 1))))) (wVar 4) [4]) (wLst wNil))) wNil)))))
@[irreducible] def t_due_2 (C_due : FSpec) : WS := wSeq (wSet 3 (wAndV (wIsi "int" (wVar 0)) (wAndV (wNotV (wIsi "bool" (wVar 0))) (wOp gtF (wVar 0) (wNeg (wC (.int 1)))))))
    (t_due_1 C_due)
@[irreducible] def t_due_3 (C_due : FSpec) : WS := wSeq (wSet 1 (wAndV (wVar 1) (wOp eqF (wLc (wIt (wVar 0)) (gN 2) (wOr (wB (wOp ltF (wCB ordF (wCons (wVar 2) wNil)) (wC (.int 97)))) (wB (wOp gtF (wCB ordF (wCons (wVar 2) wNil)) (wC (.int 122))))) (wVar 2) [2]) (wLst wNil))))
    (t_due_2 C_due)
@[irreducible] def t_due_4 (C_due : FSpec) : WS := wSeq (wSet 1 (wAndV (wIsi "str" (wVar 0)) (wChn ltF ltF (wC (.int 0)) (wCB lenF (wCons (wVar 0) wNil)) (wC (.int 9)))))
    (t_due_3 C_due)
def w_due (C_due : FSpec) : WS := (wSeq (wSet 1 (wAndV (wIsi "str" (wVar 0)) (wChn ltF ltF (wC (.int 0)) (wCB lenF (wCons (wVar 0) wNil)) (wC (.int 9)))))
    (wSeq (wSet 1 (wAndV (wVar 1) (wOp eqF (wLc (wIt (wVar 0)) (gN 2) (wOr (wB (wOp ltF (wCB ordF (wCons (wVar 2) wNil)) (wC (.int 97)))) (wB (wOp gtF (wCB ordF (wCons (wVar 2) wNil)) (wC (.int 122))))) (wVar 2) [2]) (wLst wNil))))
    (wSeq (wSet 3 (wAndV (wIsi "int" (wVar 0)) (wAndV (wNotV (wIsi "bool" (wVar 0))) (wOp gtF (wVar 0) (wNeg (wC (.int 1)))))))
    ((wRet (wTup (wCons (wVar 3) (wCons (wVar 1) (wCons (wAndV (wIsi "tuple" (wVar 0)) (wOp eqF (wLc (wIt (wVar 0)) (gN 4) (wNot (wTru (wOp idxF (wCall 1 C_due [false] (wCons (wVar 4) wNil)) (wC (.int 1))))) (wVar 4) [4]) (wLst wNil))) wNil)))))))))
theorem w_due_eq (C_due : FSpec) : w_due C_due = (t_due_4 C_due) := by with_unfolding_all rfl
theorem df_due {g : Gx} {k : Nat} {C_due : FSpec} (mono_due : FMono C_due) (c_due : Cal g CX0 k "_law_due" ["_law_thing_here"] C_due) (m_isinstance : g.mg "isinstance" = none) (m_tuple : g.mg "tuple" = none) (m_bool : g.mg "bool" = none) (m_int : g.mg "int" = none) (m_ord : g.mg "ord" = none) (m_len : g.mg "len" = none) (m_str : g.mg "str" = none) {f : Addr} {fd : FuncData} (Fn : Fun g.K "_law_due" "_law_due" s_due f fd) : FnG g CX0 (k + 1) f fd ["_law_thing_here"] (spOf g.K 1 (fnW 1 5 (w_due C_due))) :=
  fn_dl (N := ["_law_thing_here", "_law_name", "_law_sign", "_law_number", "_law_one"]) Fn sc_due (fun E => (ds_cons (ds_set (i := 1) rfl (by first | exact .inl rfl | exact .inr rfl) (de_and (de_isi (T := "str") rfl rfl m_isinstance rfl m_str rfl (de_var (i := 0) rfl (by first | exact .inl rfl | exact .inr (.inl rfl) | exact .inr (.inr rfl)))) (de_one (de_chn os_lt os_lt de_int (de_callB cs_len rfl m_len rfl (da_cons (de_var (i := 0) rfl (by first | exact .inl rfl | exact .inr (.inl rfl) | exact .inr (.inr rfl))) da_nil)) de_int))))
    (ds_cons (ds_set (i := 1) rfl (by first | exact .inl rfl | exact .inr rfl) (de_and (de_var (i := 1) rfl (by first | exact .inl rfl | exact .inr (.inl rfl) | exact .inr (.inr rfl))) (de_one (de_cmp os_eq (de_lc (own := [("_law_sign", 2)]) cx0_ok (di_seq (de_var (i := 0) rfl (by first | exact .inl rfl | exact .inr (.inl rfl) | exact .inr (.inr rfl)))) rfl (dg_name (i := 2) rfl (.inl rfl)) rfl (dts_one (dt_w (dw_or (dt_cmp os_lt (de_callB cs_ord rfl m_ord rfl (da_cons (de_var (i := 2) rfl (by first | exact .inl rfl | exact .inr (.inl rfl) | exact .inr (.inr rfl))) da_nil)) de_int rfl) (dw_or1 (dt_cmp os_gt (de_callB cs_ord rfl m_ord rfl (da_cons (de_var (i := 2) rfl (by first | exact .inl rfl | exact .inr (.inl rfl) | exact .inr (.inr rfl))) da_nil)) de_int rfl))))) (de_var (i := 2) rfl (by first | exact .inl rfl | exact .inr (.inl rfl) | exact .inr (.inr rfl)))) (de_lst da_nil) rfl))))
    (ds_cons (ds_set (i := 3) rfl (by first | exact .inl rfl | exact .inr rfl) (de_and (de_isi (T := "int") rfl rfl m_isinstance rfl m_int rfl (de_var (i := 0) rfl (by first | exact .inl rfl | exact .inr (.inl rfl) | exact .inr (.inr rfl)))) (de_and (de_not (de_isi (T := "bool") rfl rfl m_isinstance rfl m_bool rfl (de_var (i := 0) rfl (by first | exact .inl rfl | exact .inr (.inl rfl) | exact .inr (.inr rfl))))) (de_one (de_cmp os_gt (de_var (i := 0) rfl (by first | exact .inl rfl | exact .inr (.inl rfl) | exact .inr (.inr rfl))) (de_neg de_int) rfl)))))
    (ds_one (ds_ret (de_tup (da_cons (de_var (i := 3) rfl (by first | exact .inl rfl | exact .inr (.inl rfl) | exact .inr (.inr rfl))) (da_cons (de_var (i := 1) rfl (by first | exact .inl rfl | exact .inr (.inl rfl) | exact .inr (.inr rfl))) (da_cons (de_and (de_isi (T := "tuple") rfl rfl m_isinstance rfl m_tuple rfl (de_var (i := 0) rfl (by first | exact .inl rfl | exact .inr (.inl rfl) | exact .inr (.inr rfl)))) (de_one (de_cmp os_eq (de_lc (own := [("_law_one", 4)]) cx0_ok (di_seq (de_var (i := 0) rfl (by first | exact .inl rfl | exact .inr (.inl rfl) | exact .inr (.inr rfl)))) rfl (dg_name (i := 4) rfl (.inl rfl)) rfl (dts_one (dt_not (dt_tru (de_ix (de_cal (ms := [false]) c_due mono_due rfl (da_cons (de_var (i := 4) rfl (by first | exact .inl rfl | exact .inr (.inl rfl) | exact .inr (.inr rfl))) da_nil)) de_int) (fun _ _ => rfl)))) (de_var (i := 4) rfl (by first | exact .inl rfl | exact .inr (.inl rfl) | exact .inr (.inr rfl)))) (de_lst da_nil) rfl))) da_nil)))))))))) (by decide)
theorem bd_due {K : PySem.W.Frag} {f : Addr} {fd : FuncData} (Fn : Fun K "_law_due" "_law_due" s_due f fd) : Binds K fd ["_law_thing_here"] [] := Fn.binds (ps := ["_law_thing_here"]) fun _ _ _ _ _ _ us hl => match us, hl with | [_], _ => rfl
theorem cal_due {g : Gx} {k : Nat} {C_due : FSpec} {W : FSpec} (mono_due : FMono C_due) (c_due : Cal g CX0 k "_law_due" ["_law_thing_here"] C_due) (m_isinstance : g.mg "isinstance" = none) (m_tuple : g.mg "tuple" = none) (m_bool : g.mg "bool" = none) (m_int : g.mg "int" = none) (m_ord : g.mg "ord" = none) (m_len : g.mg "len" = none) (m_str : g.mg "str" = none) (h : Got g "_law_due" s_due) (im : ∀ ss Ex P, W ss Ex P → fnW 1 5 (w_due C_due) ss Ex P) : Cal g CX0 (k + 1) "_law_due" ["_law_thing_here"] W := by
  obtain ⟨f, fd, m, F⟩ := h
  exact Cal.imp ⟨f, fd, df_due mono_due c_due m_isinstance m_tuple m_bool m_int m_ord m_len m_str F, m, F.kp, bd_due F⟩ im
/-! ### law -/
theorem sc_law : FnScope ["_law_script", "_law_feed_here", "_law_wide", "_law_at", "_law_things", "_law_k", "_law_thing_here", "_law_before"] ["_law_script"] (defScope s_law) := ⟨rfl, rfl, rfl, by decide +kernel, rfl, by decide +kernel, by decide +kernel⟩
@[irreducible] def t_law_1 (C_is_way C_is_name C_is_number C_due C_bent C_thing C_draw C_feed : FSpec) : WS := (wRet (wOp eqF (wCB reprF (wCons (wVar 4) wNil)) (wVar 7)))
@[irreducible] def t_law_2 (C_is_way C_is_name C_is_number C_due C_bent C_thing C_draw C_feed : FSpec) : WS := (wRet (wC (.bool false)))
@[irreducible] def t_law_3 (C_is_way C_is_name C_is_number C_due C_bent C_thing C_draw C_feed : FSpec) : WS := (wIfS (wB (wOp neF (wCB reprF (wCons (wTup (wCons (wCall 1 C_is_number [false] (wCons (wVar 6) wNil)) (wCons (wCall 1 C_is_name [false] (wCons (wVar 6) wNil)) (wCons (wCall 1 C_is_way [false] (wCons (wVar 6) wNil)) wNil)))) wNil)) (wCB reprF (wCons (wCall 1 C_due [false] (wCons (wVar 6) wNil)) wNil))))
    (t_law_2 C_is_way C_is_name C_is_number C_due C_bent C_thing C_draw C_feed) wNext)
@[irreducible] def t_law_4 (C_is_way C_is_name C_is_number C_due C_bent C_thing C_draw C_feed : FSpec) : WS := wSeq (wFor (wIt (wVar 4)) (gN 6)
    (t_law_3 C_is_way C_is_name C_is_number C_due C_bent C_thing C_draw C_feed))
    (t_law_1 C_is_way C_is_name C_is_number C_due C_bent C_thing C_draw C_feed)
@[irreducible] def t_law_5 (C_is_way C_is_name C_is_number C_due C_bent C_thing C_draw C_feed : FSpec) : WS := wSeq (wSet 7 (wCB reprF (wCons (wVar 4) wNil)))
    (t_law_4 C_is_way C_is_name C_is_number C_due C_bent C_thing C_draw C_feed)
@[irreducible] def t_law_6 (C_is_way C_is_name C_is_number C_due C_bent C_thing C_draw C_feed : FSpec) : WS := (wDrop (wExt 4 (wLst (wCons (wVar 6) (wCons (wCall 2 C_bent [true, false] (wCons (wVar 1) (wCons (wVar 6) wNil))) (wCons (wCall 2 C_bent [true, false] (wCons (wVar 1) (wCons (wCall 2 C_bent [true, false] (wCons (wVar 1) (wCons (wVar 6) wNil))) wNil))) wNil))))))
@[irreducible] def t_law_7 (C_is_way C_is_name C_is_number C_due C_bent C_thing C_draw C_feed : FSpec) : WS := wSeq (wSet 6 (wCall 1 C_thing [true] (wCons (wVar 1) wNil)))
    (t_law_6 C_is_way C_is_name C_is_number C_due C_bent C_thing C_draw C_feed)
@[irreducible] def t_law_8 (C_is_way C_is_name C_is_number C_due C_bent C_thing C_draw C_feed : FSpec) : WS := wSeq (wFor (wRng (wCons (wC (.int 16)) wNil) rng1) (gN 5)
    (t_law_7 C_is_way C_is_name C_is_number C_due C_bent C_thing C_draw C_feed))
    (t_law_5 C_is_way C_is_name C_is_number C_due C_bent C_thing C_draw C_feed)
@[irreducible] def t_law_9 (C_is_way C_is_name C_is_number C_due C_bent C_thing C_draw C_feed : FSpec) : WS := wSeq (wSet 4 (wLst (wCons (wVar 2) (wCons (wOp addF (wOp addF (wSl (wVar 2) wNoP (wPart (wVar 3))) (wTup (wCons (wC (.str "B")) wNil))) (wSl (wVar 2) (wPart (wOp addF (wVar 3) (wC (.int 1)))) wNoP)) (wCons (wNeg (wC (.int 1))) (wCons (wC (.int 0)) wNil))))))
    (t_law_8 C_is_way C_is_name C_is_number C_due C_bent C_thing C_draw C_feed)
@[irreducible] def t_law_10 (C_is_way C_is_name C_is_number C_due C_bent C_thing C_draw C_feed : FSpec) : WS := wSeq (wPar 2 3 (wCons (wOp mulF (wTup (wCons (wC (.str "a")) (wCons (wC (.str "bc")) wNil))) (wC (.int 20))) (wCons (wCall 2 C_draw [true, false] (wCons (wVar 1) (wCons (wC (.int 40)) wNil))) wNil)))
    (t_law_9 C_is_way C_is_name C_is_number C_due C_bent C_thing C_draw C_feed)
@[irreducible] def t_law_11 (C_is_way C_is_name C_is_number C_due C_bent C_thing C_draw C_feed : FSpec) : WS := wSeq (wSet 1 (wCall 1 C_feed [false] (wCons (wVar 0) wNil)))
    (t_law_10 C_is_way C_is_name C_is_number C_due C_bent C_thing C_draw C_feed)
def w_law (C_is_way C_is_name C_is_number C_due C_bent C_thing C_draw C_feed : FSpec) : WS := (wSeq (wSet 1 (wCall 1 C_feed [false] (wCons (wVar 0) wNil)))
    (wSeq (wPar 2 3 (wCons (wOp mulF (wTup (wCons (wC (.str "a")) (wCons (wC (.str "bc")) wNil))) (wC (.int 20))) (wCons (wCall 2 C_draw [true, false] (wCons (wVar 1) (wCons (wC (.int 40)) wNil))) wNil)))
    (wSeq (wSet 4 (wLst (wCons (wVar 2) (wCons (wOp addF (wOp addF (wSl (wVar 2) wNoP (wPart (wVar 3))) (wTup (wCons (wC (.str "B")) wNil))) (wSl (wVar 2) (wPart (wOp addF (wVar 3) (wC (.int 1)))) wNoP)) (wCons (wNeg (wC (.int 1))) (wCons (wC (.int 0)) wNil))))))
    (wSeq (wFor (wRng (wCons (wC (.int 16)) wNil) rng1) (gN 5)
    (wSeq (wSet 6 (wCall 1 C_thing [true] (wCons (wVar 1) wNil)))
    ((wDrop (wExt 4 (wLst (wCons (wVar 6) (wCons (wCall 2 C_bent [true, false] (wCons (wVar 1) (wCons (wVar 6) wNil))) (wCons (wCall 2 C_bent [true, false] (wCons (wVar 1) (wCons (wCall 2 C_bent [true, false] (wCons (wVar 1) (wCons (wVar 6) wNil))) wNil))) wNil)))))))))
    (wSeq (wSet 7 (wCB reprF (wCons (wVar 4) wNil)))
    (wSeq (wFor (wIt (wVar 4)) (gN 6)
    ((wIfS (wB (wOp neF (wCB reprF (wCons (wTup (wCons (wCall 1 C_is_number [false] (wCons (wVar 6) wNil)) (wCons (wCall 1 C_is_name [false] (wCons (wVar 6) wNil)) (wCons (wCall 1 C_is_way [false] (wCons (wVar 6) wNil)) wNil)))) wNil)) (wCB reprF (wCons (wCall 1 C_due [false] (wCons (wVar 6) wNil)) wNil))))
    ((wRet (wC (.bool false)))) wNext)))
    ((wRet (wOp eqF (wCB reprF (wCons (wVar 4) wNil)) (wVar 7))))))))))
theorem w_law_eq (C_is_way C_is_name C_is_number C_due C_bent C_thing C_draw C_feed : FSpec) : w_law C_is_way C_is_name C_is_number C_due C_bent C_thing C_draw C_feed = (t_law_11 C_is_way C_is_name C_is_number C_due C_bent C_thing C_draw C_feed) := by with_unfolding_all rfl
theorem df_law {g : Gx} {k : Nat} {C_is_way C_is_name C_is_number C_due C_bent C_thing C_draw C_feed : FSpec} (mono_is_way : FMono C_is_way) (c_is_way : Cal g CX0 k "is_way" ["thing"] C_is_way) (mono_is_name : FMono C_is_name) (c_is_name : Cal g CX0 k "is_name" ["thing"] C_is_name) (mono_is_number : FMono C_is_number) (c_is_number : Cal g CX0 k "is_number" ["thing"] C_is_number) (mono_due : FMono C_due) (c_due : Cal g CX0 k "_law_due" ["_law_thing_here"] C_due) (mono_bent : FMono C_bent) (c_bent : Cal g CX0 k "_law_bent" ["_law_feed_here", "_law_thing_here"] C_bent) (mono_thing : FMono C_thing) (c_thing : Cal g CX0 k "_law_thing" ["_law_feed_here"] C_thing) (mono_draw : FMono C_draw) (c_draw : Cal g CX0 k "_law_draw" ["_law_feed_here", "_law_many"] C_draw) (mono_feed : FMono C_feed) (c_feed : Cal g CX0 k "_law_feed" ["_law_script"] C_feed) (m_repr : g.mg "repr" = none) (m_range : g.mg "range" = none) {f : Addr} {fd : FuncData} (Fn : Fun g.K "law" "law" s_law f fd) : FnG g CX0 (k + 1) f fd ["_law_script"] (spOf g.K 1 (fnW 1 8 (w_law C_is_way C_is_name C_is_number C_due C_bent C_thing C_draw C_feed))) :=
  fn_dl (N := ["_law_script", "_law_feed_here", "_law_wide", "_law_at", "_law_things", "_law_k", "_law_thing_here", "_law_before"]) Fn sc_law (fun E => (ds_cons (ds_set (i := 1) rfl (by first | exact .inl rfl | exact .inr rfl) (de_cal (ms := [false]) c_feed mono_feed rfl (da_cons (de_var (i := 0) rfl (by first | exact .inl rfl | exact .inr (.inl rfl) | exact .inr (.inr rfl))) da_nil)))
    (ds_cons (ds_par (i := 2) (j := 3) rfl rfl (by decide) rfl rfl (da_cons (de_op os_mul (de_tup (da_cons de_str (da_cons de_str da_nil))) de_int) (da_cons (de_cal (ms := [true, false]) c_draw mono_draw rfl (da_cons (de_var (i := 1) rfl (by first | exact .inl rfl | exact .inr (.inl rfl) | exact .inr (.inr rfl))) (da_cons de_int da_nil))) da_nil)) (fun _ => by rfl))
    (ds_cons (ds_set (i := 4) rfl (by first | exact .inl rfl | exact .inr rfl) (de_lst (da_cons (de_var (i := 2) rfl (by first | exact .inl rfl | exact .inr (.inl rfl) | exact .inr (.inr rfl))) (da_cons (de_op os_add (de_op os_add (de_sl (de_var (i := 2) rfl (by first | exact .inl rfl | exact .inr (.inl rfl) | exact .inr (.inr rfl))) do_none (do_some (de_var (i := 3) rfl (by first | exact .inl rfl | exact .inr (.inl rfl) | exact .inr (.inr rfl))))) (de_tup (da_cons de_str da_nil))) (de_sl (de_var (i := 2) rfl (by first | exact .inl rfl | exact .inr (.inl rfl) | exact .inr (.inr rfl))) (do_some (de_op os_add (de_var (i := 3) rfl (by first | exact .inl rfl | exact .inr (.inl rfl) | exact .inr (.inr rfl))) de_int)) do_none)) (da_cons (de_neg de_int) (da_cons de_int da_nil))))))
    (ds_cons (ds_for (di_rng1 rfl m_range (da_cons de_int da_nil)) (dg_name (i := 5) rfl (.inl rfl))
    (ds_cons (ds_set (i := 6) rfl (by first | exact .inl rfl | exact .inr rfl) (de_cal (ms := [true]) c_thing mono_thing rfl (da_cons (de_var (i := 1) rfl (by first | exact .inl rfl | exact .inr (.inl rfl) | exact .inr (.inr rfl))) da_nil)))
    (ds_one (ds_expr (de_ext (i := 4) rfl (by first | exact .inl rfl | exact .inr (.inl rfl) | exact .inr (.inr rfl)) (de_lst (da_cons (de_var (i := 6) rfl (by first | exact .inl rfl | exact .inr (.inl rfl) | exact .inr (.inr rfl))) (da_cons (de_cal (ms := [true, false]) c_bent mono_bent rfl (da_cons (de_var (i := 1) rfl (by first | exact .inl rfl | exact .inr (.inl rfl) | exact .inr (.inr rfl))) (da_cons (de_var (i := 6) rfl (by first | exact .inl rfl | exact .inr (.inl rfl) | exact .inr (.inr rfl))) da_nil))) (da_cons (de_cal (ms := [true, false]) c_bent mono_bent rfl (da_cons (de_var (i := 1) rfl (by first | exact .inl rfl | exact .inr (.inl rfl) | exact .inr (.inr rfl))) (da_cons (de_cal (ms := [true, false]) c_bent mono_bent rfl (da_cons (de_var (i := 1) rfl (by first | exact .inl rfl | exact .inr (.inl rfl) | exact .inr (.inr rfl))) (da_cons (de_var (i := 6) rfl (by first | exact .inl rfl | exact .inr (.inl rfl) | exact .inr (.inr rfl))) da_nil))) da_nil))) da_nil)))))))))
    (ds_cons (ds_set (i := 7) rfl (by first | exact .inl rfl | exact .inr rfl) (de_callB cs_repr rfl m_repr rfl (da_cons (de_var (i := 4) rfl (by first | exact .inl rfl | exact .inr (.inl rfl) | exact .inr (.inr rfl))) da_nil)))
    (ds_cons (ds_for (di_seq (de_var (i := 4) rfl (by first | exact .inl rfl | exact .inr (.inl rfl) | exact .inr (.inr rfl)))) (dg_name (i := 6) rfl (.inl rfl))
    (ds_one (ds_if (dt_cmp os_ne (de_callB cs_repr rfl m_repr rfl (da_cons (de_tup (da_cons (de_cal (ms := [false]) c_is_number mono_is_number rfl (da_cons (de_var (i := 6) rfl (by first | exact .inl rfl | exact .inr (.inl rfl) | exact .inr (.inr rfl))) da_nil)) (da_cons (de_cal (ms := [false]) c_is_name mono_is_name rfl (da_cons (de_var (i := 6) rfl (by first | exact .inl rfl | exact .inr (.inl rfl) | exact .inr (.inr rfl))) da_nil)) (da_cons (de_cal (ms := [false]) c_is_way mono_is_way rfl (da_cons (de_var (i := 6) rfl (by first | exact .inl rfl | exact .inr (.inl rfl) | exact .inr (.inr rfl))) da_nil)) da_nil)))) da_nil)) (de_callB cs_repr rfl m_repr rfl (da_cons (de_cal (ms := [false]) c_due mono_due rfl (da_cons (de_var (i := 6) rfl (by first | exact .inl rfl | exact .inr (.inl rfl) | exact .inr (.inr rfl))) da_nil)) da_nil)) rfl)
    (ds_one (ds_ret de_bl)) ds_nil)))
    (ds_one (ds_ret (de_cmp os_eq (de_callB cs_repr rfl m_repr rfl (da_cons (de_var (i := 4) rfl (by first | exact .inl rfl | exact .inr (.inl rfl) | exact .inr (.inr rfl))) da_nil)) (de_var (i := 7) rfl (by first | exact .inl rfl | exact .inr (.inl rfl) | exact .inr (.inr rfl))) rfl)))))))))) (by decide)
theorem bd_law {K : PySem.W.Frag} {f : Addr} {fd : FuncData} (Fn : Fun K "law" "law" s_law f fd) : Binds K fd ["_law_script"] [] := Fn.binds (ps := ["_law_script"]) fun _ _ _ _ _ _ us hl => match us, hl with | [_], _ => rfl
theorem cal_law {g : Gx} {k : Nat} {C_is_way C_is_name C_is_number C_due C_bent C_thing C_draw C_feed : FSpec} {W : FSpec} (mono_is_way : FMono C_is_way) (c_is_way : Cal g CX0 k "is_way" ["thing"] C_is_way) (mono_is_name : FMono C_is_name) (c_is_name : Cal g CX0 k "is_name" ["thing"] C_is_name) (mono_is_number : FMono C_is_number) (c_is_number : Cal g CX0 k "is_number" ["thing"] C_is_number) (mono_due : FMono C_due) (c_due : Cal g CX0 k "_law_due" ["_law_thing_here"] C_due) (mono_bent : FMono C_bent) (c_bent : Cal g CX0 k "_law_bent" ["_law_feed_here", "_law_thing_here"] C_bent) (mono_thing : FMono C_thing) (c_thing : Cal g CX0 k "_law_thing" ["_law_feed_here"] C_thing) (mono_draw : FMono C_draw) (c_draw : Cal g CX0 k "_law_draw" ["_law_feed_here", "_law_many"] C_draw) (mono_feed : FMono C_feed) (c_feed : Cal g CX0 k "_law_feed" ["_law_script"] C_feed) (m_repr : g.mg "repr" = none) (m_range : g.mg "range" = none) (h : Got g "law" s_law) (im : ∀ ss Ex P, W ss Ex P → fnW 1 8 (w_law C_is_way C_is_name C_is_number C_due C_bent C_thing C_draw C_feed) ss Ex P) : Cal g CX0 (k + 1) "law" ["_law_script"] W := by
  obtain ⟨f, fd, m, F⟩ := h
  exact Cal.imp ⟨f, fd, df_law mono_is_way c_is_way mono_is_name c_is_name mono_is_number c_is_number mono_due c_due mono_bent c_bent mono_thing c_thing mono_draw c_draw mono_feed c_feed m_repr m_range F, m, F.kp, bd_law F⟩ im
end V01
set_option Elab.async false
set_option linter.all false
set_option maxRecDepth 100000
set_option maxHeartbeats 4000000
set_option autoImplicit false
namespace V01
open PySem PySem.Spec PyProof.Rows L2 DL
/-! ### the feed -/
def Fd (kvs : List (Key × PyData)) : Prop := ∃ (cs : List Int) (a l c : Int), kvs = [(.inr "cells", .list (cs.map .int)), (.inr "at", .int a), (.inr "left", .int l), (.inr "count", .int c)]
def C_draw : FSpec := Ct (fun ss => ∃ kvs m, ss = [.o true (.k kvs), .d (.int m)] ∧ Fd kvs ∧ 0 < m ∧ m.natAbs.log2 < 9000)
  fun ss r ss' => ∃ kvs kvs' m j, ss = [.o true (.k kvs), .d (.int m)] ∧ ss' = [.o true (.k kvs'), .d (.int m)] ∧ Fd kvs' ∧ r = .d (.int j) ∧ 0 ≤ j ∧ j < m
theorem mod_ge {a m : Int} (h : 0 < m) : 0 ≤ a % m := Int.emod_nonneg _ (by omega)
theorem mod_lt {a m : Int} (h : 0 < m) : a % m < m := Int.emod_lt_of_pos _ h
theorem small_of {a : Int} (h : 0 ≤ a) (h2 : a < 2147483648) : smallI a = true := decide_eq_true (by omega)
theorem mulI {a b : Int} (h : (smallI a || smallI b) = true) : mulF (.d (.int a)) (.d (.int b)) = some (.val (.int (a * b))) := by
  show (if smallI a || smallI b || _ then _ else _) = _
  rw [if_pos (by rw [h]; rfl)]
theorem eq_shaped {neg : Bool} {d e : PyData} (h : SeqAt.shaped d = true) (h2 : SeqAt.shaped e = true) : eqG neg (.d d) (.d e) = some (.val (.bool (if neg then !PyData.eqv d e else PyData.eqv d e))) := by
  show (if SeqAt.shaped d && SeqAt.shaped e || strs2 d e then _ else none) = _
  rw [if_pos (by rw [h, h2]; rfl)]
theorem ints_shaped (cs : List Int) : SeqAt.shaped (.list (cs.map .int)) = true := PySem.W.ke_shaped_ints cs
abbrev fdL (cs : List Int) (a l c : Int) : List (Key × PyData) := [(.inr "cells", .list (cs.map .int)), (.inr "at", .int a), (.inr "left", .int l), (.inr "count", .int c)]
local macro_rules | `(tactic| pv_short) => `(tactic| repeat first | refine Exists.intro _ (And.intro rfl ?_) | refine Exists.intro _ (And.intro (if_pos (by first | assumption | decide | exact ⟨by assumption, by decide⟩ | exact ⟨by assumption, by assumption⟩)) ?_) | refine And.intro (show List.length _ ≤ sizeLine from Nat.le_of_ble_eq_true rfl) ?_)
theorem atI_ok {α : Type} {xs : List α} {i : Int} (h0 : 0 ≤ i) (h1 : i < xs.length) : ∃ x, atI xs i = some x ∧ x ∈ xs := by
  obtain ⟨n, rfl⟩ := Int.eq_ofNat_of_zero_le h0
  have hn : n < xs.length := by omega
  exact ⟨xs[n], atI_nat (List.getElem?_eq_getElem hn), List.getElem_mem hn⟩
section
variable {cs : List Int} {a l c m : Int} {Ex : XP} {P : R → List Sl → Prop}
/-- what stands behind the call -/
abbrev dEnd (ss : List Sl) (Ex : XP) (P : R → List Sl → Prop) : DEnds :=
  let fin := fun r δ => ob (retR δ r) fun r' => ob (finals ss δ) fun ss' => P r' ss'
  ⟨fun δ => fin (.d .none) δ, fin, fun _ => False, fun _ => False, Ex⟩
abbrev dEnv (cs : List Int) (a l c m : Int) (x2 x3 x4 x5 : Option Sl) : SEnv := [some (.o true (.k (fdL cs a l c))), some (.d (.int m)), x2, x3, x4, x5]
abbrev dSs (cs : List Int) (a l c m : Int) : List Sl := [.o true (.k (fdL cs a l c)), .d (.int m)]
theorem draw_6 {a1 l1 c1 cell at1 : Int} (h0 : 0 < m) (h1 : m.natAbs.log2 < 9000) (kk : ∀ (a' l' c' j : Int), 0 ≤ j → j < m → P (.d (.int j)) (dSs cs a' l' c' m)) :
    t_draw_6 (dEnd (dSs cs a l c m) Ex P) (dEnv cs a1 l1 c1 m none (some (.d (.int at1))) (some (.d (.int cell))) none) := by
  unfold t_draw_6 t_draw_5 t_draw_4
  have n : ∀ (k : Int), k ≤ 2147483648 → 0 < k → ∀ x : Int, smallI (x % k) = true := fun k h1 h2 x => small_of (mod_ge h2) (by have := mod_lt (a := x) h2; omega)
  have rest : t_draw_3 (dEnd (dSs cs a l c m) Ex P) (dEnv cs a1 l1 c1 m none (some (.d (.int at1))) (some (.d (.int cell))) none) := by
    unfold t_draw_3 t_draw_2 t_draw_1
    pv_short
    refine Exists.intro _ (And.intro (mulI (by rw [n _ (by decide) (by decide)]; rfl)) ?_)
    pv_short
    refine Exists.intro _ (And.intro (mulI (by rw [n _ (by decide) (by decide)]; rfl)) ?_)
    pv_short
    exact kk _ _ _ _ (mod_ge h0) (mod_lt h0)
  pv_short
  refine ite2 (fun e => ?_) (fun e => ?_)
  · pv_short
    refine ite2 (fun e => ?_) (fun e => ?_)
    · pv_short
      exact kk _ _ _ _ (mod_ge h0) (mod_lt h0)
    · exact rest
  · exact rest
theorem draw_ok (ss : List Sl) (Ex : XP) (P : R → List Sl → Prop) (h : C_draw ss Ex P) : fnW 2 6 w_draw ss Ex P := by
  obtain ⟨⟨kvs, m, rfl, ⟨cs, a, l, c, rfl⟩, h0, h1⟩, k⟩ := h
  have kk : ∀ (a' l' c' j : Int), 0 ≤ j → j < m → P (.d (.int j)) (dSs cs a' l' c' m) :=
    fun a' l' c' j z1 z2 => k _ _ ⟨_, _, m, j, rfl, rfl, ⟨cs, a', l', c', rfl⟩, rfl, z1, z2⟩
  clear k
  refine And.intro rfl ?_
  rw [w_draw_eq]
  unfold t_draw_15 t_draw_14 t_draw_13 t_draw_12 t_draw_11 t_draw_10 t_draw_9 t_draw_8 x_draw_7
  pv_short
  refine ite2 (fun e => ?_) (fun e => ?_)
  · pv_short
    exact kk _ _ _ _ (mod_ge h0) (mod_lt h0)
  pv_short
  refine Exists.intro _ (And.intro (eq_shaped (neg := true) (d := .list (cs.map .int)) (e := .list []) (ints_shaped cs) (by rfl)) ?_)
  pv_short
  refine ite2 (fun e => ?_) (fun e => ?_)
  · have hc : cs ≠ [] := fun z => by subst z; exact absurd e (by decide)
    have hl : (0 : Int) < ((cs.map PyData.int).length : Nat) := by
      rw [List.length_map]; have := List.length_pos_iff.mpr hc; omega
    pv_short
    obtain ⟨x, ex, mx⟩ := atI_ok (xs := cs.map PyData.int) (mod_ge (a := a) hl) (mod_lt hl)
    obtain ⟨v, _, rfl⟩ := List.mem_map.mp mx
    refine Exists.intro _ (And.intro (show (atI _ _).map Rv.val = _ by rw [ex]; rfl) ?_)
    pv_short
    exact draw_6 h0 h1 kk
  · pv_short
    exact draw_6 h0 h1 kk
end
end V01
set_option Elab.async false
set_option linter.all false
set_option maxRecDepth 100000
set_option maxHeartbeats 4000000
set_option autoImplicit false
namespace V01
open PySem PySem.Spec PyProof.Rows L2 DL
local macro_rules | `(tactic| pv_short) => `(tactic| repeat first | refine Exists.intro _ (And.intro rfl ?_) | refine ifT rfl ?_ | refine ifF rfl ?_ | refine Exists.intro _ (And.intro (if_pos (by first | assumption | decide | exact ⟨by assumption, by decide⟩ | exact ⟨by assumption, by assumption⟩)) ?_) | refine And.intro (show List.length _ ≤ sizeLine from Nat.le_of_ble_eq_true rfl) ?_)
/-! ### good things: numbers, depth and bulk bounded -/
def Good (d : PyData) : Prop := Nd (10 ^ 195) 60 d ∧ d.bulk ≤ 80000
theorem good_str {x : Str} (h : Good (.str x)) : x.length ≤ sizeLine := by
  have h1 : x.cps.size ≤ 80000 := by have := h.2; simpa only [PyData.bulk] using this
  have e : sizeLine = 16777216 := by decide
  show x.cps.size ≤ _
  omega
theorem len_str {x : Str} (h : x.length ≤ sizeLine) : lenF [.d (.str x)] = some (.val (.int (x.length : Int))) := by
  show (if x.length ≤ sizeLine then some x.length else none).map _ = _
  rw [if_pos h]
  rfl
theorem good_tup {xs : List PyData} (h : Good (.tuple xs)) : ∀ x ∈ xs, Good x := fun x m => by
  have h1 := (h.1.tup (D := 59)) x m
  have h2 : PyData.bulkAll xs ≤ 80000 := by have := h.2; simpa only [PyData.bulk] using this
  have h3 := bulk_mem m
  exact ⟨h1.mono (Nat.le_refl _) (by decide), by omega⟩
theorem good_len {xs : List PyData} (h : Good (.tuple xs)) : xs.length ≤ 80000 := by
  have h2 : PyData.bulkAll xs ≤ 80000 := by have := h.2; simpa only [PyData.bulk] using this
  have := bulk_len xs
  omega
def One (f : PyData → Bool) : FSpec := Ct (fun ss => ∃ d, ss = [.d d] ∧ Good d) (fun ss r ss' => ss' = ss ∧ ∃ d, ss = [.d d] ∧ r = .d (.bool (f d)))
/-! ### is_number -/
def isNum : PyData → Bool
  | .int i => decide (0 ≤ i)
  | _ => false
theorem number_ok (ss : List Sl) (Ex : XP) (P : R → List Sl → Prop) (h : One isNum ss Ex P) : fnW 1 1 w_is_number ss Ex P := by
  obtain ⟨⟨d, rfl, hd⟩, k⟩ := h
  have kk := k (.d (.bool (isNum d))) _ ⟨rfl, d, rfl, rfl⟩
  clear k
  refine And.intro rfl ?_
  rw [w_is_number_eq]
  unfold t_is_number_1
  cases d <;> (pv_short; exact kk)
/-! ### is_name -/
def nameC (n : Nat) : Bool := decide (97 ≤ n) && decide (n ≤ 122)
def isName : PyData → Bool
  | .str x => decide (1 ≤ x.length) && decide (x.length ≤ 8) && x.cps.toList.all nameC
  | _ => false
def isAz : PyData → Bool
  | .str x => match x.cps.toList with
    | [c] => nameC c
    | _ => false
  | _ => false
theorem az_all (x : Str) : (DL.signs x).all isAz = x.cps.toList.all nameC := by
  unfold DL.signs
  rw [List.all_map]
  rfl
theorem name_1 {x : Str} {d : DEnds} (hd : Good (.str x)) (k : ∀ δ, δ = [some (.d (.str x)), none] → d.rt (.d (.bool (x.cps.toList.all nameC))) δ) : t_is_name_1 d [some (.d (.str x)), none] := by
  unfold t_is_name_1
  pv_short
  refine lc_pure (δf := [some (.d (.str x)), none]) (fun _ => true) (fun y => .bool (isAz y)) rfl ?_ ?_ ?_
  · have := good_str hd
    show (DL.signs x).length ≤ _
    unfold DL.signs
    rw [List.length_map, Array.length_toList]
    exact this
  · intro y m Q Q' h1 _
    obtain ⟨c, _, rfl⟩ := List.mem_map.mp m
    have e1 := sign_le 97 c
    have e2 := sign_le c 122
    pv_short
    refine ite2 (fun e => ?_) (fun e => ?_)
    · pv_short
      have a := h1 rfl [some (.d (.str x)), some (.d (.str ⟨#[c]⟩))] rfl
      have ea : isAz (.str ⟨#[c]⟩) = (!decide (([122] : List Nat) < [c])) := by
        show (decide (97 ≤ c) && decide (c ≤ 122)) = _
        rw [e2, ← e1, show (!decide (([c] : List Nat) < [97])) = true from e, Bool.true_and]
      rw [ea] at a
      exact a
    · have a := h1 rfl [some (.d (.str x)), some (.d (.str ⟨#[c]⟩))] rfl
      have ea : isAz (.str ⟨#[c]⟩) = false := by
        show (decide (97 ≤ c) && decide (c ≤ 122)) = _
        rw [← e1, Bool.eq_false_iff.mpr (show ¬ (!decide (([c] : List Nat) < [97])) = true from e), Bool.false_and]
      rw [ea] at a
      exact a
  · intro δ' h'
    pv_short
    refine Exists.intro _ (And.intro (show allF [.d (.list (((DL.signs x).filter fun _ => true).map fun y => .bool (isAz y)))] = _ by
      rw [List.filter_eq_self.mpr (fun _ _ => rfl), all_map, az_all]) ?_)
    exact k _ (by rw [h']; rfl)
theorem name_ok (ss : List Sl) (Ex : XP) (P : R → List Sl → Prop) (h : One isName ss Ex P) : fnW 1 2 w_is_name ss Ex P := by
  obtain ⟨⟨d, rfl, hd⟩, k⟩ := h
  have kk := k (.d (.bool (isName d))) _ ⟨rfl, d, rfl, rfl⟩
  clear k
  refine And.intro rfl ?_
  rw [w_is_name_eq]
  unfold t_is_name_3 t_is_name_2
  cases d with
  | str x =>
    pv_short
    refine Exists.intro _ (And.intro (len_str (good_str hd)) ?_)
    pv_short
    refine ite2 (fun e => ?_) (fun e => ?_)
    · pv_short
      have e1 : 1 ≤ x.length := by have := of_decide_eq_true e; omega
      refine ite2 (fun e2 => ?_) (fun e2 => ?_)
      · pv_short
        have e3 : ¬ x.length ≤ 8 := fun z => absurd e2 (by show ¬ (!decide (((x.length : Nat) : Int) ≤ 8)) = true; rw [decide_eq_true (show ((x.length : Nat) : Int) ≤ 8 by omega)]; decide)
        rw [show isName (.str x) = false by simp [isName, e3]] at kk
        exact kk
      · have e3 : x.length ≤ 8 := by
          have := of_decide_eq_true (show decide (((x.length : Nat) : Int) ≤ 8) = true by
            cases q : decide (((x.length : Nat) : Int) ≤ 8) with
            | true => rfl
            | false => exact absurd (show (!decide (((x.length : Nat) : Int) ≤ 8)) = true by rw [q]; rfl) e2)
          omega
        refine name_1 hd fun δ e => ?_
        subst e
        rw [show isName (.str x) = x.cps.toList.all nameC by simp [isName, e1, e3]] at kk
        pv_short
        exact kk
    · pv_short
      have e3 : ¬ 1 ≤ x.length := fun z => e (decide_eq_true (show (1 : Int) ≤ ((x.length : Nat) : Int) by omega))
      rw [show isName (.str x) = false by simp [isName, e3]] at kk
      exact kk
  | _ => pv_short; exact kk
theorem one_call {f : PyData → Bool} {δ : SEnv} {i : Nat} {d : PyData} {Ex : XP} {P : R → SEnv → Prop} (h : δ[i]? = some (some (.d d))) (hd : Good d) (k : P (.d (.bool (f d))) δ) : wCall 1 (One f) [false] (wCons (wVar i) wNil) Ex δ P := by
  unfold wCall
  refine ⟨_, h, _, rfl, ?_⟩
  pv_short
  refine ⟨rfl, List.nodup_nil, ?_⟩
  pv_short
  refine ⟨⟨d, rfl, hd⟩, fun r ss' ⟨e1, d', e2, e3⟩ _ => ?_⟩
  cases e2
  subst e1 e3
  pv_short
  exact k
/-! ### is_way -/
def isWay : PyData → Bool
  | .tuple xs => xs.all isName
  | _ => false
theorem way_ok (ss : List Sl) (Ex : XP) (P : R → List Sl → Prop) (h : One isWay ss Ex P) : fnW 1 2 (w_is_way (One isName)) ss Ex P := by
  obtain ⟨⟨d, rfl, hd⟩, k⟩ := h
  have kk := k (.d (.bool (isWay d))) _ ⟨rfl, d, rfl, rfl⟩
  clear k
  refine And.intro rfl ?_
  rw [w_is_way_eq]
  unfold t_is_way_1
  cases d with
  | tuple xs =>
    pv_short
    refine lc_pure (δf := [some (.d (.tuple xs)), none]) (fun _ => true) (fun y => .bool (isName y)) rfl ?_ ?_ ?_
    · have := good_len hd
      have e : sizeLine = 16777216 := by decide
      show xs.length ≤ _
      omega
    · intro y m Q Q' h1 _
      refine Exists.intro _ (And.intro rfl ?_)
      show wCall 1 (One isName) [false] (wCons (wVar 1) wNil) Ex0 _ Q
      exact one_call rfl (good_tup hd y m) (h1 rfl _ rfl)
    · intro δ' h'
      pv_short
      refine Exists.intro _ (And.intro (show allF [.d (.list ((xs.filter fun _ => true).map fun y => .bool (isName y)))] = _ by
        rw [List.filter_eq_self.mpr (fun _ _ => rfl), all_map]) ?_)
      pv_short
      refine Exists.intro _ (And.intro (show finals _ (restore _ (DL.forgetAll δ' [1]) [1]) = _ by rw [h']; rfl) ?_)
      exact kk
  | _ => pv_short; exact kk
end V01
set_option Elab.async false
set_option linter.all false
set_option maxRecDepth 100000
set_option maxHeartbeats 4000000
set_option autoImplicit false
namespace V01
open PySem PySem.Spec PyProof.Rows L2 DL
local macro_rules | `(tactic| pv_short) => `(tactic| repeat first | refine Exists.intro _ (And.intro rfl ?_) | refine ifT rfl ?_ | refine ifF rfl ?_ | refine Exists.intro _ (And.intro (if_pos (by first | assumption | decide | exact ⟨by assumption, by decide⟩ | exact ⟨by assumption, by assumption⟩)) ?_) | refine And.intro (show List.length _ ≤ sizeLine from Nat.le_of_ble_eq_true rfl) ?_)
/-! ### _law_due -/
def dueD (d : PyData) : PyData := .tuple [.bool (isNum d), .bool (isName d), .bool (isWay d)]
def C_due (n : Nat) : FSpec := Ct (fun ss => ∃ d, ss = [.d d] ∧ Good d ∧ d.depth < n) (fun ss r ss' => ss' = ss ∧ ∃ d, ss = [.d d] ∧ r = .d (dueD d))
theorem due_call {n : Nat} {δ : SEnv} {i : Nat} {d : PyData} {Ex : XP} {P : R → SEnv → Prop} (h : δ[i]? = some (some (.d d))) (hd : Good d) (hn : d.depth < n) (k : P (.d (dueD d)) δ) : wCall 1 (C_due n) [false] (wCons (wVar i) wNil) Ex δ P := by
  unfold wCall
  refine ⟨_, h, _, rfl, ?_⟩
  pv_short
  refine ⟨rfl, List.nodup_nil, ?_⟩
  pv_short
  refine ⟨⟨d, rfl, hd, hn⟩, fun r ss' ⟨e1, d', e2, e3⟩ _ => ?_⟩
  cases e2
  subst e1 e3
  pv_short
  exact k
def nm1 : PyData → Bool
  | .str x => decide (0 < x.length) && decide (x.length < 9)
  | _ => false
section
variable {C : FSpec} {e : DEnds} {d : PyData}
theorem due_4 (hd : Good d) (k : t_due_3 C e [some (.d d), some (.d (.bool (nm1 d))), none, none, none]) : t_due_4 C e [some (.d d), none, none, none, none] := by
  unfold t_due_4
  cases d with
  | str x =>
    pv_short
    refine Exists.intro _ (And.intro (len_str (good_str hd)) ?_)
    pv_short
    refine ite2 (fun e => ?_) (fun e => ?_)
    · have e1 : 0 < x.length := by have := of_decide_eq_true e; omega
      have e2 : nm1 (.str x) = decide (((x.length : Nat) : Int) < 9) := by
        show (decide (0 < x.length) && decide (x.length < 9)) = _
        rw [decide_eq_true e1, Bool.true_and]
        exact decide_eq_decide.mpr (by omega)
      rw [e2] at k
      pv_short
      exact k
    · have e1 : ¬ 0 < x.length := fun z => e (decide_eq_true (show (0 : Int) < ((x.length : Nat) : Int) by omega))
      have e2 : nm1 (.str x) = false := by
        show (decide (0 < x.length) && decide (x.length < 9)) = _
        rw [decide_eq_false e1, Bool.false_and]
      rw [e2] at k
      pv_short
      exact k
  | _ => pv_short; exact k
theorem good_chr {x : Str} (h : Good (.str x)) {c : Nat} (m : c ∈ x.cps.toList) : PyData.strOk ⟨#[c]⟩ = true := by
  have h1 := h.1.str
  unfold PyData.strOk at *
  have h2 := (Array.all_eq_true_iff_forall_mem.mp h1) c (by simpa using m)
  simp only [decide_eq_true_eq] at h2
  simp [h2]
theorem odd_all (l : List Nat) (hl : ∀ c ∈ l, PyData.strOk ⟨#[c]⟩ = true) : eqG false (.d (.list (((l.map fun c => PyData.str ⟨#[c]⟩).filter fun y => !isAz y).map id))) (.d (.list [])) = some (.val (.bool (l.all nameC))) := by
  have h : SeqAt.shaped (.list (((l.map fun c => PyData.str ⟨#[c]⟩).filter fun y => !isAz y).map id)) = true := by
    refine nd_shaped (N := 0) (D := 1) (nd_lst (D := 0) fun y m => ?_) (by decide)
    rw [List.map_id] at m
    obtain ⟨c, mc, rfl⟩ := List.mem_map.mp (List.mem_filter.mp m).1
    exact nd_str (hl c mc)
  rw [eq_shaped h (by rfl)]
  refine congrArg (fun b => some (Rv.val (.bool b))) ?_
  rw [List.map_id]
  show PyData.eqv _ _ = _
  have e2 : ∀ l : List Nat, ((l.map fun c => PyData.str ⟨#[c]⟩).filter fun y => !isAz y) = [] ↔ l.all nameC = true := by
    intro l
    rw [List.filter_eq_nil_iff, List.all_eq_true]
    constructor
    · intro h c m
      have := h (.str ⟨#[c]⟩) (List.mem_map_of_mem m)
      cases q : nameC c with
      | true => rfl
      | false => exact absurd (show (!isAz (.str ⟨#[c]⟩)) = true by rw [show isAz (.str ⟨#[c]⟩) = nameC c from rfl, q]; rfl) this
    · intro h y m
      obtain ⟨c, mc, rfl⟩ := List.mem_map.mp m
      rw [show isAz (.str ⟨#[c]⟩) = nameC c from rfl, h c mc]
      decide
  cases q : l.all nameC with
  | true => rw [(e2 l).mpr q]; rfl
  | false =>
    cases z : ((l.map fun c => PyData.str ⟨#[c]⟩).filter fun y => !isAz y) with
    | nil => rw [(e2 l).mp z] at q; cases q
    | cons a r => rfl
theorem due_3 (hd : Good d) (k : t_due_2 C e [some (.d d), some (.d (.bool (isName d))), none, none, none]) : t_due_3 C e [some (.d d), some (.d (.bool (nm1 d))), none, none, none] := by
  unfold t_due_3
  cases d with
  | str x =>
    pv_short
    refine ite2 (fun q => ?_) (fun q => ?_)
    · pv_short
      refine lc_pure (δf := [some (.d (.str x)), some (.d (.bool (nm1 (.str x)))), none, none, none]) (fun y => !isAz y) id rfl ?_ ?_ ?_
      · have := good_str hd
        show (DL.signs x).length ≤ _
        unfold DL.signs
        rw [List.length_map, Array.length_toList]
        exact this
      · intro y m Q Q' h1 h2
        obtain ⟨c, _, rfl⟩ := List.mem_map.mp m
        have ea : isAz (.str ⟨#[c]⟩) = (decide (97 ≤ c) && decide (c ≤ 122)) := rfl
        pv_short
        refine ite2 (fun w => ?_) (fun w => ?_)
        · have w : (c : Int) < 97 := of_decide_eq_true w
          have w2 : (!isAz (.str ⟨#[c]⟩)) = true := by rw [ea, decide_eq_false (by omega), Bool.false_and]; rfl
          pv_short
          exact h1 w2 _ rfl
        · have w : ¬ (c : Int) < 97 := fun z => w (decide_eq_true z)
          pv_short
          refine ite2 (fun v => ?_) (fun v => ?_)
          · have v : (122 : Int) < c := of_decide_eq_true v
            have w2 : (!isAz (.str ⟨#[c]⟩)) = true := by rw [ea, decide_eq_false (p := c ≤ 122) (by omega), Bool.and_false]; rfl
            pv_short
            exact h1 w2 _ rfl
          · have v : ¬ (122 : Int) < c := fun z => v (decide_eq_true z)
            have w2 : (!isAz (.str ⟨#[c]⟩)) = false := by rw [ea, decide_eq_true (p := c ≤ 122) (by omega), decide_eq_true (p := 97 ≤ c) (by omega)]; rfl
            exact h2 w2 _ rfl
      · intro δ' h'
        pv_short
        refine Exists.intro _ (And.intro (odd_all x.cps.toList fun c m => good_chr hd m) ?_)
        have e2 : isName (.str x) = x.cps.toList.all nameC := by
          have q : (decide (0 < x.length) && decide (x.length < 9)) = true := q
          show (decide (1 ≤ x.length) && decide (x.length ≤ 8) && _) = _
          rw [show decide (1 ≤ x.length) = decide (0 < x.length) from rfl, show decide (x.length ≤ 8) = decide (x.length < 9) from decide_eq_decide.mpr (by omega), q, Bool.true_and]
        rw [e2] at k
        pv_short
        rw [h']
        exact k
    · have e2 : isName (.str x) = false := by
        have q : (decide (0 < x.length) && decide (x.length < 9)) = false := Bool.eq_false_iff.mpr q
        show (decide (1 ≤ x.length) && decide (x.length ≤ 8) && _) = false
        rw [show decide (1 ≤ x.length) = decide (0 < x.length) from rfl, show decide (x.length ≤ 8) = decide (x.length < 9) from decide_eq_decide.mpr (by omega), q, Bool.false_and]
      rw [e2] at k
      pv_short
      exact k
  | _ => pv_short; exact k
theorem eq_nil {N D : Nat} {ds : List PyData} (h : Nds N D ds) (hD : D ≤ 63) : eqG false (.d (.list ds)) (.d (.list [])) = some (.val (.bool ds.isEmpty)) := by
  rw [eq_shaped (nd_shaped (nd_lst h) (by omega)) (by rfl)]
  refine congrArg (fun b => some (Rv.val (.bool b))) ?_
  show PyData.eqv _ _ = _
  cases ds <;> rfl
theorem none_odd (p : PyData → Bool) : ∀ ds : List PyData, ((ds.filter fun y => !p y).map id).isEmpty = ds.all p
  | [] => rfl
  | d :: ds => by
    have ih := none_odd p ds
    rw [List.filter_cons, List.all_cons]
    cases q : p d with
    | true => rw [if_neg (by decide), ih, Bool.true_and]
    | false => rw [if_pos (by decide)]; rfl
theorem due_2 (k : t_due_1 C e [some (.d d), some (.d (.bool (isName d))), none, some (.d (.bool (isNum d))), none]) : t_due_2 C e [some (.d d), some (.d (.bool (isName d))), none, none, none] := by
  unfold t_due_2
  cases d with
  | int i =>
    have e2 : isNum (.int i) = decide ((-1 : Int) < i) := decide_eq_decide.mpr (by omega)
    rw [e2] at k
    pv_short
    exact k
  | _ => pv_short; exact k
theorem due_1 {n : Nat} (hd : Good d) (hn : d.depth < n + 1) (k : ∀ δ, δ[0]? = some (some (.d d)) → e.rt (.d (dueD d)) δ) : t_due_1 (C_due n) e [some (.d d), some (.d (.bool (isName d))), none, some (.d (.bool (isNum d))), none] := by
  unfold t_due_1
  cases d with
  | tuple xs =>
    pv_short
    refine lc_pure (δf := [some (.d (.tuple xs)), some (.d (.bool (isName (.tuple xs)))), none, some (.d (.bool (isNum (.tuple xs)))), none]) (fun y => !isName y) id rfl ?_ ?_ ?_
    · have := good_len hd
      have e : sizeLine = 16777216 := by decide
      show xs.length ≤ _
      omega
    · intro y m Q Q' h1 h2
      refine Exists.intro _ (And.intro rfl ?_)
      have hy : y.depth < n := by
        have h3 : PyData.depthAll xs + 1 < n + 1 := by simpa only [PyData.depth] using hn
        have := (dep_all (D := PyData.depthAll xs)).mp (Nat.le_refl _) y m
        omega
      refine due_call rfl (good_tup hd y m) hy ?_
      pv_short
      refine ite2 (fun v => ?_) (fun v => ?_)
      · pv_short
        exact h1 v _ rfl
      · exact h2 (Bool.eq_false_iff.mpr v) _ rfl
    · intro δ' h'
      pv_short
      refine Exists.intro _ (And.intro (eq_nil (N := 10 ^ 195) (D := 59) (fun y m => ?_) (by decide)) ?_)
      · rw [List.map_id] at m
        exact (hd.1.tup (D := 59)) y (List.mem_filter.mp m).1
      · rw [none_odd isName]
        pv_short
        refine k _ ?_
        rw [h']
        rfl
  | _ => pv_short; refine k _ ?_; rfl
end
theorem due_ok (n : Nat) (ss : List Sl) (Ex : XP) (P : R → List Sl → Prop) (h : C_due (n + 1) ss Ex P) : fnW 1 5 (w_due (C_due n)) ss Ex P := by
  obtain ⟨⟨d, rfl, hd, hn⟩, k⟩ := h
  have kk := k (.d (dueD d)) _ ⟨rfl, d, rfl, rfl⟩
  clear k
  refine And.intro rfl ?_
  rw [w_due_eq]
  refine due_4 hd (due_3 hd (due_2 (due_1 hd hn fun δ e0 => ?_)))
  refine ⟨_, rfl, ?_⟩
  cases δ with
  | nil => cases e0
  | cons a δ => exact ⟨_, rfl, kk⟩
end V01
set_option Elab.async false
set_option linter.all false
set_option maxRecDepth 100000
set_option maxHeartbeats 4000000
set_option autoImplicit false
namespace V01
open PySem PySem.Spec PyProof.Rows L2 DL
local macro_rules | `(tactic| pv_short) => `(tactic| repeat first | refine Exists.intro _ (And.intro rfl ?_) | refine ifT rfl ?_ | refine ifF rfl ?_ | refine Exists.intro _ (And.intro (if_pos (by first | assumption | decide | exact ⟨by assumption, by decide⟩ | exact ⟨by assumption, by assumption⟩)) ?_) | refine And.intro (show List.length _ ≤ sizeLine from Nat.le_of_ble_eq_true rfl) ?_ | refine And.intro (Nat.le_of_ble_eq_true rfl) ?_)
/-! ### _law_feed -/
def C_feed : FSpec := Ct (fun ss => ∃ s ns, ss = [s] ∧ Scr ns s) (fun ss r ss' => ss' = ss ∧ ∃ kvs, r = .n (.k kvs) ∧ Fd kvs)
theorem cut_map {α β : Type} (f : α → β) (xs : List α) (lo hi : Option Int) : cutL (xs.map f) lo hi = (cutL xs lo hi).map f := by
  unfold cutL
  rw [List.length_map, List.map_take, List.map_drop]
theorem scal_ints (ns : List Int) : (ns.map PyData.int).all scalar = true := by
  rw [List.all_eq_true]
  intro x m
  obtain ⟨n, _, rfl⟩ := List.mem_map.mp m
  rfl
theorem feed_ok (ss : List Sl) (Ex : XP) (P : R → List Sl → Prop) (h : C_feed ss Ex P) : fnW 1 1 w_feed ss Ex P := by
  obtain ⟨⟨s, ns, rfl, hs⟩, k⟩ := h
  have kk := fun kvs q => k (.n (.k kvs)) _ ⟨rfl, kvs, rfl, q⟩
  clear k
  refine And.intro rfl ?_
  rw [w_feed_eq]
  unfold t_feed_1
  rcases hs with rfl | rfl
  · pv_short
    refine kk _ ⟨cutL ns none (some 63), 0, 0, 0, ?_⟩
    rw [← cut_map]
    rfl
  · pv_short
    refine Exists.intro _ (And.intro (if_pos (scal_ints ns)) ?_)
    pv_short
    refine kk _ ⟨cutL ns none (some 63), 0, 0, 0, ?_⟩
    rw [← cut_map]
    rfl
/-! ### calls of _law_draw -/
theorem back_1 {δ : SEnv} {i : Nat} {b : Bool} {c c' : Cont} {s : Sl} (h : δ[i]? = some (some (.o b c))) {m : Int} : back δ (DL.clear δ [.o i, .d (.int m)]) [.o i, .d (.int m)] [.o true c', s] = some (δ.set i (some (.o b c'))) := by
  show (match δ[i]? with | some (some (.o b _)) => back δ ((δ.set i none).set i (some (.o b c'))) [.d (.int m)] [s] | _ => none) = _
  rw [h]
  show some ((δ.set i none).set i (some (.o b c'))) = _
  rw [List.set_set]
theorem draw_at {δ : SEnv} {i : Nat} {b : Bool} {kvs : List (Key × PyData)} {m : Int} {wm : WE} {Ex : XP} {P : R → SEnv → Prop} (hi : δ[i]? = some (some (.o b (.k kvs)))) (hf : Fd kvs) (h0 : 0 < m) (h1 : m.natAbs.log2 < 9000)
    (hm : ∀ Q : R → SEnv → Prop, Q (.d (.int m)) δ → wm Ex δ Q)
    (k : ∀ (kvs' : List (Key × PyData)) (j : Int), Fd kvs' → 0 ≤ j → j < m → P (.d (.int j)) (δ.set i (some (.o b (.k kvs'))))) : wCall 2 C_draw [true, false] (wCons (wVar i) (wCons wm wNil)) Ex δ P := by
  unfold wCall
  refine ⟨_, hi, _, rfl, _, rfl, hm _ ?_⟩
  refine ⟨_, rfl, ([.o i, .d (.int m)], δ), rfl, rfl, ?_, ?_⟩
  · show ([i] : List Nat).Nodup
    exact List.nodup_cons.mpr ⟨by simp, List.nodup_nil⟩
  refine ⟨[.o true (.k kvs), .d (.int m)], ?_, ⟨kvs, m, rfl, hf, h0, h1⟩, fun r ss' q _ => ?_⟩
  · show ((match δ[i]? with | some (some (.o _ c)) => some (Sl.o true c) | _ => none).bind fun s => _) = _
    rw [hi]
    rfl
  · obtain ⟨kvs1, kvs', m', j, e1, e2, hf', e3, h2, h3⟩ := q
    cases e1
    subst e2 e3
    exact ⟨_, back_1 hi, k kvs' j hf' h2 h3⟩
/-! ### _law_text -/
def Tx (n : Nat) (x : Str) : Prop := PyData.strOk x = true ∧ x.length ≤ n
def C_text : FSpec := Ct (fun ss => ∃ kvs, ss = [.o true (.k kvs)] ∧ Fd kvs) (fun ss r ss' => ∃ kvs' x, ss' = [.o true (.k kvs')] ∧ Fd kvs' ∧ r = .d (.str x) ∧ Tx 21 x)
theorem str_at {x : Str} {j : Int} (hx : PyData.strOk x = true) (hl : x.length ≤ sizeLine) (h0 : 0 ≤ j) (h1 : j < (x.length : Nat)) : ∃ c, idxF (.d (.str x)) (.d (.int j)) = some (.val (.str ⟨#[c]⟩)) ∧ PyData.strOk ⟨#[c]⟩ = true := by
  have h1 : j < (x.cps.toList.length : Nat) := by rw [Array.length_toList]; exact h1
  obtain ⟨c, ec, mc⟩ := atI_ok h0 h1
  refine ⟨c, ?_, ?_⟩
  · show (if x.length ≤ sizeLine then (atI x.cps.toList j).map fun c => PyData.str ⟨#[c]⟩ else none).map Rv.val = _
    rw [if_pos hl, ec]
    rfl
  · have h2 := (Array.all_eq_true_iff_forall_mem.mp hx) c (by simpa using mc)
    simp only [decide_eq_true_eq] at h2
    unfold PyData.strOk
    simp [h2]
theorem tx_app {n m : Nat} {x y : Str} (h : Tx n x) (r : Tx m y) : Tx (n + m) (x ++ y) := by
  have e : (x ++ y).cps = x.cps ++ y.cps := rfl
  refine ⟨?_, ?_⟩
  · have h1 := h.1
    have h2 := r.1
    unfold PyData.strOk at *
    rw [e, Array.all_append, h1, h2]
    rfl
  · show (x ++ y).cps.size ≤ _
    rw [e, Array.size_append]
    exact Nat.add_le_add h.2 r.2
theorem tx_mono {n m : Nat} {x : Str} (h : Tx n x) (l : n ≤ m) : Tx m x := ⟨h.1, Nat.le_trans h.2 l⟩
theorem ok_mem {x : Str} : PyData.strOk x = true ↔ ∀ c ∈ x.cps.toList, c < 0x110000 := by
  unfold PyData.strOk
  rw [Array.all_eq_true_iff_forall_mem]
  constructor
  · intro h c m
    have := h c (by simpa using m)
    simpa using this
  · intro h c m
    have := h c (by simpa using m)
    simpa using this
theorem tx_cut {n : Nat} {x : Str} (h : Tx n x) (lo hi : Option Int) : Tx n (cutS x lo hi) := by
  refine ⟨ok_mem.mpr fun c m => ok_mem.mp h.1 c ?_, ?_⟩
  · unfold cutS at m
    rw [List.toList_toArray] at m
    exact List.mem_of_mem_drop (List.mem_of_mem_take m)
  · unfold cutS
    show (List.toArray _).size ≤ _
    rw [List.size_toArray, List.length_take, List.length_drop, Array.length_toList]
    have := h.2
    show min _ (x.cps.size - _) ≤ _
    have h2 : x.cps.size ≤ n := h.2
    omega
theorem tx_join {ys : List Str} (h : ∀ y ∈ ys, Tx 1 y) : Tx ys.length (PySem.Txt.join "" ys) := by
  have e : PySem.Txt.join "" ys = Str.join "" ys := PySem.StrLaws.glued_eq_join "" ys
  rw [e]
  refine ⟨ok_mem.mpr fun c m => ?_, ?_⟩
  · rcases (mem_join "" c ys).mp m with ⟨t, mt, mc⟩ | ⟨_, z⟩
    · exact ok_mem.mp (h t mt).1 c mc
    · exact absurd (show c ∈ ([] : List Nat) from z) (by simp)
  · have h1 := PySem.StrLaws.join_length_le "" ys
    have h2 : ∀ zs : List Str, (∀ y ∈ zs, Tx 1 y) → (zs.map (·.length)).sum ≤ zs.length := by
      intro zs
      induction zs with
      | nil => intro _; exact Nat.le_refl _
      | cons z zs ih =>
        intro hz
        have a := (hz z (List.mem_cons_self ..)).2
        have b := ih fun y m => hz y (List.mem_cons_of_mem _ m)
        rw [List.map_cons, List.sum_cons, List.length_cons]
        omega
    have h3 := h2 ys h
    have h4 : ("" : Str).length = 0 := rfl
    rw [h4] at h1
    omega
theorem strs_of {ds : List PyData} (h : ∀ d ∈ ds, ∃ x, d = .str x ∧ Tx 1 x) : ∃ ys, strsD ds = some ys ∧ ys.length = ds.length ∧ ∀ y ∈ ys, Tx 1 y := by
  induction ds with
  | nil => exact ⟨[], rfl, rfl, fun _ m => by cases m⟩
  | cons d ds ih =>
    obtain ⟨x, rfl, hx⟩ := h d (List.mem_cons_self ..)
    obtain ⟨ys, e, l, g⟩ := ih fun y m => h y (List.mem_cons_of_mem _ m)
    refine ⟨x :: ys, ?_, by rw [List.length_cons, List.length_cons, l], fun y m => ?_⟩
    · show (strsD ds).map _ = _
      rw [e]
      rfl
    · rcases List.mem_cons.mp m with rfl | m
      · exact hx
      · exact g y m
theorem sum_tx {ys : List Str} (h : ∀ y ∈ ys, Tx 1 y) : (ys.map (·.length)).sum ≤ ys.length := by
  induction ys with
  | nil => exact Nat.le_refl _
  | cons z zs ih =>
    have a := (h z (List.mem_cons_self ..)).2
    have b := ih fun y m => h y (List.mem_cons_of_mem _ m)
    rw [List.map_cons, List.sum_cons, List.length_cons]
    omega
theorem join_of {ds : List PyData} (h : ∀ d ∈ ds, ∃ x, d = .str x ∧ Tx 1 x) (hl : ds.length ≤ 1000) : ∃ y, joinF "" (.list ds) = some y ∧ Tx ds.length y := by
  obtain ⟨ys, e, l, g⟩ := strs_of h
  refine ⟨PySem.Txt.join "" ys, ?_, by rw [← l]; exact tx_join g⟩
  show (strsD ds).bind _ = _
  rw [e]
  have h1 := sum_tx g
  show (if (ys.map (·.length)).sum + ys.length * ("" : Str).length ≤ 16777216 then some (PySem.Txt.join "" ys) else none) = _
  rw [if_pos]
  have h4 : ("" : Str).length = 0 := rfl
  rw [h4]
  omega
end V01
set_option Elab.async false
set_option linter.all false
set_option maxRecDepth 100000
set_option maxHeartbeats 4000000
set_option autoImplicit false
set_option exponentiation.threshold 20000
namespace V01
open PySem PySem.Spec PyProof.Rows L2 DL
local macro_rules | `(tactic| pv_short) => `(tactic| repeat first | refine Exists.intro _ (And.intro rfl ?_) | refine ifT rfl ?_ | refine ifF rfl ?_ | refine Exists.intro _ (And.intro (if_pos (by first | assumption | decide | exact ⟨by assumption, by decide⟩ | exact ⟨by assumption, by assumption⟩)) ?_) | refine And.intro (show List.length _ ≤ sizeLine from Nat.le_of_ble_eq_true rfl) ?_ | refine And.intro (Nat.le_of_ble_eq_true rfl) ?_)
abbrev sgT : Str := " !\"#$&'()*+,-./0123456789:;<=>?@ABCDEFGHIJKLMNOPQRSTUVWXYZ[\\]^_`abcdefghijklmnopqrstuvwxyz{|}~"
abbrev azT : Str := "abcdefghijklmnopqrstuvwxyz"
theorem tx_line {n : Nat} {x : Str} (h : Tx n x) (hn : n ≤ 1000) : x.length ≤ sizeLine := by
  have e : sizeLine = 16777216 := by decide
  have := h.2
  omega
theorem add_tx {n m : Nat} {x y : Str} (h : Tx n x) (r : Tx m y) (hn : n + m ≤ 1000) : addF (.d (.str x)) (.d (.str y)) = some (.val (.str (x ++ y))) := by
  have e : sizeLine = 16777216 := by decide
  have h1 := h.2
  have h2 := r.2
  exact if_pos (by omega)
section
variable {e : DEnds} {kvs : List (Key × PyData)} {x s2 : Str}
theorem text_2 {i : Int} (hf : Fd kvs) (hx : Tx 10 x) (h0 : 0 ≤ i)
    (k : ∀ kvs' y s5, Fd kvs' → Tx 21 y → e.nx [some (.o true (.k kvs')), some (.d (.str sgT)), some (.d (.str s2)), some (.d (.str y)), none, s5]) :
    t_text_2 C_draw e [some (.o true (.k kvs)), some (.d (.str sgT)), some (.d (.str s2)), some (.d (.str x)), none, some (.d (.int i))] := by
  unfold t_text_2
  have hl := tx_line hx (by decide)
  pv_short
  refine draw_at (m := 94) rfl hf (by decide) (by decide) (fun Q h => h) fun kvs1 j hf1 h1 h2 => ?_
  obtain ⟨c, ec, hc⟩ := str_at (x := sgT) (by decide +kernel) (by decide) h1 (Int.lt_of_lt_of_le h2 (by decide +kernel))
  pv_short
  refine Exists.intro _ (And.intro ec ?_)
  pv_short
  refine Exists.intro _ (And.intro (add_tx (n := 10) (m := 1) (tx_cut hx none (some i)) ⟨hc, Nat.le_refl _⟩ (by decide)) ?_)
  pv_short
  refine draw_at (m := 2) rfl hf1 (by decide) (by decide) (fun Q h => h) fun kvs2 j2 hf2 h3 h4 => ?_
  pv_short
  refine Exists.intro _ (And.intro (add_tx (n := 11) (m := 10) (tx_app (n := 10) (m := 1) (tx_cut hx none (some i)) ⟨hc, Nat.le_refl _⟩) (tx_cut hx _ none) (by decide)) ?_)
  pv_short
  exact k _ _ _ hf2 (tx_app (n := 11) (m := 10) (tx_app (n := 10) (m := 1) (tx_cut hx none (some i)) ⟨hc, Nat.le_refl _⟩) (tx_cut hx _ none))
theorem text_4 (hf : Fd kvs) (hx : Tx 10 x)
    (k : ∀ kvs' y s5, Fd kvs' → Tx 21 y → t_text_1 C_draw e [some (.o true (.k kvs')), some (.d (.str sgT)), some (.d (.str s2)), some (.d (.str y)), none, s5]) :
    t_text_4 C_draw e [some (.o true (.k kvs)), some (.d (.str sgT)), some (.d (.str s2)), some (.d (.str x)), none, none] := by
  unfold t_text_4 t_text_3
  have hl := tx_line hx (by decide)
  pv_short
  refine draw_at (m := 2) rfl hf (by decide) (by decide) (fun Q h => h) fun kvs1 j hf1 h1 h2 => ?_
  pv_short
  refine ite2 (fun w => ?_) (fun w => ?_)
  · pv_short
    refine draw_at (m := (x.length : Int) + 1) rfl hf1 (by omega) ?_ (fun Q h => ?_) fun kvs2 j2 hf2 h3 h4 => ?_
    · have := hx.2
      exact (Nat.log2_lt (by omega)).mpr (Nat.lt_of_lt_of_le (show _ < 2 ^ 4 by omega) (Nat.pow_le_pow_right (by decide) (by decide)))
    · pv_short
      refine Exists.intro _ (And.intro (len_str hl) ?_)
      pv_short
      exact h
    · pv_short
      exact text_2 hf2 hx h3 k
  · exact k _ _ _ hf1 (tx_mono hx (by decide))
abbrev rest3 : List (Option Sl) := [none, none, none]
theorem rng_ok {j : Int} (h0 : 0 ≤ j) (h1 : j < 1000) : -(2 ^ 62) ≤ (0 : Int) ∧ (0 : Int) < 2 ^ 62 ∧ -(2 ^ 62) ≤ j ∧ j < 2 ^ 62 := by omega
theorem text_5 (hf : Fd kvs) {n2 : Nat} (h2 : Tx n2 s2) (hn : 0 < s2.length) (hn2 : n2 ≤ 1000)
    (k : ∀ kvs' y, Fd kvs' → Tx 10 y → t_text_4 C_draw e [some (.o true (.k kvs')), some (.d (.str sgT)), some (.d (.str s2)), some (.d (.str y)), none, none]) :
    t_text_5 C_draw e [some (.o true (.k kvs)), some (.d (.str sgT)), some (.d (.str s2)), none, none, none] := by
  unfold t_text_5
  have hl := tx_line h2 hn2
  pv_short
  refine draw_at (m := 11) rfl hf (by decide) (by decide) (fun Q h => h) fun kvs1 j hf1 h3 h4 => ?_
  pv_short
  refine And.intro (rng_ok h3 (by omega)) ?_
  refine lc_inv (fun pre acc δ => acc.length = pre.length ∧ (∀ d ∈ acc, ∃ y, d = .str y ∧ Tx 1 y) ∧ ∃ kvs', Fd kvs' ∧ DL.forgetAll δ [4] = [some (.o true (.k kvs')), some (.d (.str sgT)), some (.d (.str s2)), none, none, none])
    ?_ ?_ ⟨rfl, (fun _ m => by cases m), kvs1, hf1, rfl⟩
  · rintro acc δ ⟨e1, e2, kvs2, hf2, e3⟩
    have hlen : acc.length ≤ 10 := by
      rw [e1, List.length_map, List.length_range]
      omega
    obtain ⟨y, ey, hy⟩ := join_of e2 (by omega)
    pv_short
    refine Exists.intro _ (And.intro ey ?_)
    pv_short
    rw [e3]
    exact k _ _ hf2 (tx_mono hy hlen)
  · rintro pre v post acc δ Q eq ⟨e1, e2, kvs2, hf2, e3⟩ hQ
    rw [e3]
    pv_short
    refine draw_at (m := (s2.length : Int)) rfl hf2 (by omega) ?_ (fun Q h => ?_) fun kvs3 j2 hf3 h5 h6 => ?_
    · have := h2.2
      exact (Nat.log2_lt (by omega)).mpr (Nat.lt_of_lt_of_le (show _ < 2 ^ 10 by omega) (Nat.pow_le_pow_right (by decide) (by decide)))
    · pv_short
      refine Exists.intro _ (And.intro (len_str hl) ?_)
      pv_short
      exact h
    · obtain ⟨c, ec, hc⟩ := str_at (x := s2) h2.1 hl h5 h6
      pv_short
      refine Exists.intro _ (And.intro ec ?_)
      pv_short
      have hlen : acc.length ≤ 11 := by
        have := congrArg List.length eq
        rw [List.length_append, List.length_map, List.length_range, List.length_cons] at this
        omega
      refine ⟨by have e : sizeLine = 16777216 := by decide
                 omega, hQ _ _ ⟨by rw [List.length_append, List.length_append, e1]; rfl, fun d m => ?_, kvs3, hf3, rfl⟩⟩
      rcases List.mem_append.mp m with m | m
      · exact e2 d m
      · rw [List.mem_singleton.mp m]
        exact ⟨_, rfl, hc, Nat.le_refl _⟩
theorem text_7 (hf : Fd kvs)
    (k : ∀ kvs' s2, Fd kvs' → Tx 94 s2 → 0 < s2.length → t_text_5 C_draw e [some (.o true (.k kvs')), some (.d (.str sgT)), some (.d (.str s2)), none, none, none]) :
    t_text_7 C_draw e [some (.o true (.k kvs)), none, none, none, none, none] := by
  unfold t_text_7 t_text_6
  have ha : Tx 94 azT := ⟨by decide +kernel, by decide +kernel⟩
  have hs : Tx 94 sgT := ⟨by decide +kernel, by decide +kernel⟩
  pv_short
  refine draw_at (m := 2) rfl hf (by decide) (by decide) (fun Q h => h) fun kvs1 j hf1 h3 h4 => ?_
  have hj : j = 0 ∨ j = 1 := by omega
  rcases hj with rfl | rfl
  · pv_short
    exact k _ _ hf1 ha (by decide +kernel)
  · pv_short
    exact k _ _ hf1 hs (by decide +kernel)
end
theorem text_ok (ss : List Sl) (Ex : XP) (P : R → List Sl → Prop) (h : C_text ss Ex P) : fnW 1 6 (w_text C_draw) ss Ex P := by
  obtain ⟨⟨kvs, rfl, hf⟩, k⟩ := h
  refine And.intro rfl ?_
  rw [w_text_eq]
  refine text_7 hf fun kvs1 s2 hf1 h2 hn => text_5 hf1 h2 hn (by decide) fun kvs2 y hf2 hy => text_4 hf2 hy fun kvs3 y s5 hf3 hy => ?_
  unfold t_text_1
  pv_short
  exact k _ _ ⟨kvs3, y, rfl, hf3, rfl, hy⟩
end V01
set_option Elab.async false
set_option linter.all false
set_option maxRecDepth 100000
set_option maxHeartbeats 4000000
set_option autoImplicit false
set_option exponentiation.threshold 20000
namespace V01
open PySem PySem.Spec PyProof.Rows L2 DL
local macro_rules | `(tactic| pv_short) => `(tactic| repeat first | refine Exists.intro _ (And.intro rfl ?_) | refine ifT rfl ?_ | refine ifF rfl ?_ | refine Exists.intro _ (And.intro (if_pos (by first | assumption | decide | exact ⟨by assumption, by decide⟩ | exact ⟨by assumption, by assumption⟩)) ?_) | refine And.intro (show List.length _ ≤ sizeLine from Nat.le_of_ble_eq_true rfl) ?_ | refine And.intro (Nat.le_of_ble_eq_true rfl) ?_)
/-! ### _law_thing -/
def Th (N D b : Nat) (d : PyData) : Prop := Nd N D d ∧ d.bulk ≤ b
def thB (N D b : Nat) (d : PyData) : Bool := d.canLay0 && intsB N d && decide (d.depth ≤ D) && decide (d.bulk ≤ b)
theorem thB_ok {N D b : Nat} {d : PyData} (h : thB N D b d = true) : Th N D b d := by
  unfold thB at h
  simp only [Bool.and_eq_true, decide_eq_true_eq] at h
  exact ⟨⟨h.1.1.1, h.1.1.2, h.1.2⟩, h.2⟩
abbrev ThT : PyData → Prop := Th (10 ^ 194) 2 50
def C_thing : FSpec := Ct (fun ss => ∃ kvs, ss = [.o true (.k kvs)] ∧ Fd kvs) (fun ss r ss' => ∃ kvs' d, ss' = [.o true (.k kvs')] ∧ Fd kvs' ∧ r = .d d ∧ ThT d)
theorem th_str {x : Str} {n : Nat} (h : Tx n x) (hn : n ≤ 50) : ThT (.str x) := ⟨nd_str h.1, by
  have : x.cps.size ≤ n := h.2
  simp only [PyData.bulk]
  omega⟩
theorem idx_mem {ds : List PyData} {j : Int} (h0 : 0 ≤ j) (h1 : j < (ds.length : Nat)) : ∃ e, idxF (.d (.list ds)) (.d (.int j)) = some (.val e) ∧ e ∈ ds := by
  obtain ⟨e, ee, me⟩ := atI_ok h0 h1
  refine ⟨e, ?_, me⟩
  show (atI ds j).map Rv.val = _
  rw [ee]
  rfl
section
variable {e : DEnds} {kvs : List (Key × PyData)}
abbrev odds : List PyData := [.bool true, .bool false, .none, .str "", .str "a", .str "abcdefgh", .str "abcdefghi", .tuple [], .list [], .tuple [.str ""], .tuple [.str "a", .int 1], .str "A", .str "a b", .list [.str "a"], .tuple [.tuple [.str "a"]]]
theorem odds_th : ∀ d ∈ odds, ThT d := fun d m => thB_ok (by
  have h : odds.all (thB (10 ^ 194) 2 50) = true := by decide +kernel
  exact List.all_eq_true.mp h d m)
theorem thing_2 {s1 s2 s3 : Option Sl} (hf : Fd kvs) (k : ∀ kvs' d δ, Fd kvs' → ThT d → δ[0]? = some (some (.o true (.k kvs'))) → e.rt (.d d) δ) : t_thing_2 C_draw C_text e [some (.o true (.k kvs)), s1, s2, s3, none] := by
  unfold t_thing_2 t_thing_1
  pv_short
  refine draw_at (m := 15) rfl hf (by decide) (by decide) (fun Q h => h) fun kvs1 j hf1 h3 h4 => ?_
  obtain ⟨d, ed, md⟩ := idx_mem (ds := odds) h3 (by show j < 15; exact h4)
  pv_short
  refine Exists.intro _ (And.intro ed ?_)
  exact k kvs1 d _ hf1 (odds_th d md) rfl
abbrev fours : List PyData := [.str "a", .str "ab", .str "abcdefgh", .str "z"]
theorem fours_th : ∀ d ∈ fours, Th 0 0 8 d := fun d m => thB_ok (by
  have h : fours.all (thB 0 0 8) = true := by decide +kernel
  exact List.all_eq_true.mp h d m)
theorem bulk_le {b : Nat} : ∀ {ds : List PyData}, (∀ d ∈ ds, d.bulk ≤ b) → PyData.bulkAll ds ≤ ds.length * (b + 1)
  | [], _ => by simp [PyData.bulkAll]
  | d :: ds, h => by
    have h1 := h d (List.mem_cons_self ..)
    have h2 := bulk_le (ds := ds) fun y m => h y (List.mem_cons_of_mem _ m)
    simp only [PyData.bulkAll, List.length_cons, Nat.add_mul]
    omega
theorem thing_3 {s1 s2 : Option Sl} (hf : Fd kvs) (k : ∀ kvs' d δ, Fd kvs' → ThT d → δ[0]? = some (some (.o true (.k kvs'))) → e.rt (.d d) δ) : t_thing_3 C_draw C_text e [some (.o true (.k kvs)), s1, s2, none, none] := by
  unfold t_thing_3
  pv_short
  refine draw_at (m := 6) rfl hf (by decide) (by decide) (fun Q h => h) fun kvs1 j hf1 h3 h4 => ?_
  pv_short
  refine And.intro (rng_ok h3 (by omega)) ?_
  refine lc_inv (fun pre acc δ => acc.length = pre.length ∧ (∀ d ∈ acc, Th 0 0 8 d) ∧ ∃ kvs', Fd kvs' ∧ DL.forgetAll δ [3] = [some (.o true (.k kvs')), s1, s2, none, none]) ?_ ?_ ⟨rfl, (fun _ m => by cases m), kvs1, hf1, rfl⟩
  · rintro acc δ ⟨e1, e2, kvs2, hf2, e3⟩
    have hlen : acc.length ≤ 5 := by
      rw [e1, List.length_map, List.length_range]
      omega
    pv_short
    refine k kvs2 _ _ hf2 ⟨nd_tup (D := 1) fun d m => (e2 d m).1.mono (Nat.zero_le _) (Nat.zero_le _), ?_⟩ (by rw [e3]; rfl)
    have := bulk_le fun d m => (e2 d m).2
    simp only [PyData.bulk]
    omega
  · rintro pre v post acc δ Q eq ⟨e1, e2, kvs2, hf2, e3⟩ hQ
    rw [e3]
    pv_short
    refine draw_at (m := 4) rfl hf2 (by decide) (by decide) (fun Q h => h) fun kvs3 j2 hf3 h5 h6 => ?_
    obtain ⟨d, ed, md⟩ := idx_mem (ds := fours) h5 (by show j2 < 4; exact h6)
    pv_short
    refine Exists.intro _ (And.intro ed ?_)
    pv_short
    have hlen : acc.length ≤ 6 := by
      have := congrArg List.length eq
      rw [List.length_append, List.length_map, List.length_range, List.length_cons] at this
      omega
    refine ⟨by have e : sizeLine = 16777216 := by decide
               omega, hQ _ _ ⟨by rw [List.length_append, List.length_append, e1]; rfl, fun x m => ?_, kvs3, hf3, rfl⟩⟩
    rcases List.mem_append.mp m with m | m
    · exact e2 x m
    · rw [List.mem_singleton.mp m]
      exact fours_th d md
theorem mul_r {a b : Int} (h : smallI b = true) : mulF (.d (.int a)) (.d (.int b)) = some (.val (.int (a * b))) := mulI (by rw [h, Bool.or_true])
theorem thing_5 {n : Int} {s1 s3 : Option Sl} (hf : Fd kvs) (h0 : 0 ≤ n) (h1 : n.natAbs ≤ 10 ^ 194) (k : ∀ kvs' d δ, Fd kvs' → ThT d → δ[0]? = some (some (.o true (.k kvs'))) → e.rt (.d d) δ) :
    t_thing_5 C_draw C_text e [some (.o true (.k kvs)), s1, some (.d (.int n)), s3, none] := by
  unfold t_thing_5
  pv_short
  refine draw_at (m := 3) rfl hf (by decide) (by decide) (fun Q h => h) fun kvs1 j hf1 h3 h4 => ?_
  have th : ∀ m : Int, m.natAbs ≤ 10 ^ 194 → ThT (.int m) := fun m hm => ⟨nd_int hm, Nat.zero_le _⟩
  have hj : j = 0 ∨ j = 1 ∨ j = 2 := by omega
  rcases hj with rfl | rfl | rfl
  · pv_short
    refine Exists.intro _ (And.intro (mul_r (b := 1) (by decide)) ?_)
    exact k kvs1 _ _ hf1 (th _ (by rw [Int.mul_one]; exact h1)) rfl
  · pv_short
    refine Exists.intro _ (And.intro (mul_r (b := 1) (by decide)) ?_)
    exact k kvs1 _ _ hf1 (th _ (by rw [Int.mul_one]; exact h1)) rfl
  · pv_short
    refine Exists.intro _ (And.intro (mul_r (b := -1) (by decide)) ?_)
    exact k kvs1 _ _ hf1 (th _ (by rw [Int.mul_neg, Int.mul_one, Int.natAbs_neg]; exact h1)) rfl
theorem pow_step {n r : Int} {i : Nat} (h0 : 0 ≤ n) (h1 : n < 60 * 10 ^ (6 * i)) (h2 : 0 ≤ r) (h3 : r < 10 ^ 6) : 0 ≤ n * 10 ^ 6 + r ∧ n * 10 ^ 6 + r < 60 * 10 ^ (6 * (i + 1)) := by
  have e : (10 : Int) ^ (6 * (i + 1)) = 10 ^ (6 * i) * 10 ^ 6 := by rw [Nat.mul_add, Nat.mul_one, Int.pow_add]
  rw [e]
  generalize (10 : Int) ^ (6 * i) = q at *
  have e2 : (10 : Int) ^ 6 = 1000000 := by decide
  rw [e2] at *
  constructor <;> omega
theorem thing_8 {n : Int} {s1 : Option Sl} (hf : Fd kvs) (h0 : 0 ≤ n) (h1 : n < 60) (k : ∀ kvs' d δ, Fd kvs' → ThT d → δ[0]? = some (some (.o true (.k kvs'))) → e.rt (.d d) δ) :
    t_thing_8 C_draw C_text e [some (.o true (.k kvs)), s1, some (.d (.int n)), none, none] := by
  unfold t_thing_8 x_thing_6
  have tail : ∀ (kvs' : List (Key × PyData)) (cnt : Int), Fd kvs' → 0 ≤ cnt → cnt < 33 → wForR (gN 3) (t_thing_7 C_draw C_text) ((List.range (cnt - 0).toNat).map fun (i : Nat) => .int (0 + (i : Int))) { e with nx := t_thing_5 C_draw C_text e } [some (.o true (.k kvs')), s1, some (.d (.int n)), none, none] := by
    intro kvs1 cnt hf1 h2 h3
    refine for_inv (fun pre δ => ∃ kvs' m s3, Fd kvs' ∧ (0 : Int) ≤ m ∧ m < 60 * 10 ^ (6 * pre.length) ∧ δ = [some (.o true (.k kvs')), s1, some (.d (.int m)), s3, none]) ?_ ?_ ⟨kvs1, n, none, hf1, h0, by simpa using h1, rfl⟩
    · rintro δ ⟨kvs2, m, s3, hf2, h4, h5, rfl⟩
      refine thing_5 hf2 h4 ?_ k
      rw [List.length_map, List.length_range] at h5
      have hc : (cnt - 0).toNat ≤ 32 := by omega
      have h6 : (10 : Int) ^ (6 * (cnt - 0).toNat) ≤ 10 ^ (6 * 32) := by
        have h := Nat.pow_le_pow_right (show 10 > 0 by decide) (show 6 * (cnt - 0).toNat ≤ 6 * 32 by omega)
        exact_mod_cast h
      have h7 : (60 : Int) * 10 ^ (6 * 32) ≤ 10 ^ 194 := by decide +kernel
      have h8 : (m : Int) ≤ 10 ^ 194 := by omega
      have h9 : ((10 ^ 194 : Nat) : Int) = 10 ^ 194 := by rw [Int.natCast_pow]; rfl
      omega
    · rintro pre v post δ Q eq ⟨kvs2, m, s3, hf2, h4, h5, rfl⟩ hQ
      unfold t_thing_7
      pv_short
      refine Exists.intro _ (And.intro (mul_r (b := 10 ^ 6) (by decide)) ?_)
      pv_short
      refine draw_at (m := 10 ^ 6) rfl hf2 (by decide) (by decide) (fun Q h => ?_) fun kvs3 j2 hf3 h6 h7 => ?_
      · pv_short
        exact h
      · pv_short
        have h8 := pow_step h4 h5 h6 h7
        exact hQ _ ⟨kvs3, _, _, hf3, h8.1, by rw [List.length_append]; exact h8.2, rfl⟩
  pv_short
  refine draw_at (m := 6) rfl hf (by decide) (by decide) (fun Q h => h) fun kvs1 j hf1 h3 h4 => ?_
  pv_short
  refine ite2 (fun w => ?_) (fun w => ?_)
  · refine draw_at (m := 33) rfl hf1 (by decide) (by decide) (fun Q h => h) fun kvs2 j2 hf2 h5 h6 => ?_
    pv_short
    refine And.intro (rng_ok h5 (by omega)) ?_
    exact tail kvs2 j2 hf2 h5 h6
  · pv_short
    refine And.intro (rng_ok (Int.le_refl 0) (by omega)) ?_
    exact tail kvs1 0 hf1 (by decide) (by decide)
/-! what _law_text hands back, at its call -/
theorem text_at {δ : SEnv} {i : Nat} {b : Bool} {Ex : XP} {P : R → SEnv → Prop} (hi : δ[i]? = some (some (.o b (.k kvs)))) (hf : Fd kvs)
    (k : ∀ (kvs' : List (Key × PyData)) (x : Str), Fd kvs' → Tx 21 x → P (.d (.str x)) (δ.set i (some (.o b (.k kvs'))))) : wCall 1 C_text [true] (wCons (wVar i) wNil) Ex δ P := by
  unfold wCall
  refine ⟨_, hi, _, rfl, _, rfl, ([.o i], δ), rfl, rfl, ?_, ?_⟩
  · show ([i] : List Nat).Nodup
    exact List.nodup_cons.mpr ⟨by simp, List.nodup_nil⟩
  refine ⟨[.o true (.k kvs)], ?_, ⟨kvs, rfl, hf⟩, fun r ss' q _ => ?_⟩
  · show ((match δ[i]? with | some (some (.o _ c)) => some (Sl.o true c) | _ => none).bind fun s => _) = _
    rw [hi]
    rfl
  · obtain ⟨kvs', x, e2, hf', e3, h2⟩ := q
    subst e2 e3
    refine ⟨δ.set i (some (.o b (.k kvs'))), ?_, k kvs' x hf' h2⟩
    show (match δ[i]? with | some (some (.o b _)) => back δ ((δ.set i none).set i (some (.o b (.k kvs')))) [] [] | _ => none) = _
    rw [hi]
    show some ((δ.set i none).set i (some (.o b (.k kvs')))) = _
    rw [List.set_set]
theorem thing_13 (hf : Fd kvs) (k : ∀ kvs' d δ, Fd kvs' → ThT d → δ[0]? = some (some (.o true (.k kvs'))) → e.rt (.d d) δ) :
    t_thing_13 C_draw C_text e [some (.o true (.k kvs)), none, none, none, none] := by
  unfold t_thing_13 t_thing_12 t_thing_11 t_thing_10 t_thing_9 t_thing_4
  pv_short
  refine draw_at (m := 5) rfl hf (by decide) (by decide) (fun Q h => h) fun kvs1 j hf1 h3 h4 => ?_
  have hj : j = 0 ∨ j = 1 ∨ j = 2 ∨ j = 3 ∨ j = 4 := by omega
  rcases hj with rfl | rfl | rfl | rfl | rfl
  · pv_short
    exact text_at rfl hf1 fun kvs2 x hf2 hx => k kvs2 _ _ hf2 (th_str hx (by decide)) rfl
  · pv_short
    exact text_at rfl hf1 fun kvs2 x hf2 hx => k kvs2 _ _ hf2 (th_str hx (by decide)) rfl
  · pv_short
    refine draw_at (m := 60) rfl hf1 (by decide) (by decide) (fun Q h => h) fun kvs2 j hf2 h3 h4 => ?_
    pv_short
    exact thing_8 hf2 h3 h4 k
  · pv_short
    exact thing_3 hf1 k
  · pv_short
    exact thing_2 hf1 k
end
theorem thing_ok (ss : List Sl) (Ex : XP) (P : R → List Sl → Prop) (h : C_thing ss Ex P) : fnW 1 5 (w_thing C_draw C_text) ss Ex P := by
  obtain ⟨⟨kvs, rfl, hf⟩, k⟩ := h
  refine And.intro rfl ?_
  rw [w_thing_eq]
  refine thing_13 hf fun kvs1 d δ hf1 hd h0 => ?_
  refine ⟨_, rfl, [.o true (.k kvs1)], ?_, k _ _ ⟨kvs1, d, rfl, hf1, rfl, hd⟩⟩
  cases δ with
  | nil => cases h0
  | cons a δ => cases h0; rfl
end V01
set_option Elab.async false
set_option linter.all false
set_option maxRecDepth 100000
set_option maxHeartbeats 4000000
set_option autoImplicit false
set_option exponentiation.threshold 20000
namespace V01
open PySem PySem.Spec PyProof.Rows L2 DL
local macro_rules | `(tactic| pv_short) => `(tactic| repeat first | refine Exists.intro _ (And.intro rfl ?_) | refine ifT rfl ?_ | refine ifF rfl ?_ | refine Exists.intro _ (And.intro (if_pos (by first | assumption | decide | exact ⟨by assumption, by decide⟩ | exact ⟨by assumption, by assumption⟩)) ?_) | refine And.intro (show List.length _ ≤ sizeLine from Nat.le_of_ble_eq_true rfl) ?_ | refine And.intro (Nat.le_of_ble_eq_true rfl) ?_)
/-! ### _law_bent -/
structure Bt (d d' : PyData) : Prop where
  blk : d'.bulk ≤ 2 * d.bulk + 210
  nd : ∀ N, 10 ^ 60 ≤ N → N < 10 ^ 195 → Nd N 50 d → Nd (N + 1) (d.depth + 1) d'
structure Pb (n : Nat) (d : PyData) : Prop where
  nd : ∃ N, 10 ^ 60 ≤ N ∧ N < 10 ^ 195 ∧ Nd N 50 d
  blk : d.bulk ≤ 10000
  dep : d.depth < n
def C_bent (n : Nat) : FSpec := Ct (fun ss => ∃ kvs d, ss = [.o true (.k kvs), .d d] ∧ Fd kvs ∧ Pb n d)
  fun ss r ss' => ∃ kvs kvs' d d', ss = [.o true (.k kvs), .d d] ∧ ss' = [.o true (.k kvs'), .d d] ∧ Fd kvs' ∧ r = .d d' ∧ Bt d d'
theorem back_2 {δ : SEnv} {i : Nat} {b : Bool} {c c' : Cont} {s : Sl} (h : δ[i]? = some (some (.o b c))) {d : PyData} : back δ (DL.clear δ [.o i, .d d]) [.o i, .d d] [.o true c', s] = some (δ.set i (some (.o b c'))) := by
  show (match δ[i]? with | some (some (.o b _)) => back δ ((δ.set i none).set i (some (.o b c'))) [.d d] [s] | _ => none) = _
  rw [h]
  show some ((δ.set i none).set i (some (.o b c'))) = _
  rw [List.set_set]
theorem bent_at {δ : SEnv} {i n : Nat} {b : Bool} {kvs0 : List (Key × PyData)} {wm : WE} {Ex : XP} {P : R → SEnv → Prop} (hi : δ[i]? = some (some (.o b (.k kvs0)))) (hm : ∀ Q : R → SEnv → Prop,
      (∀ d kvs δ2, δ2[i]? = some (some (.o b (.k kvs))) → Fd kvs → Pb n d → (∀ kvs' d', Fd kvs' → Bt d d' → P (.d d') (δ2.set i (some (.o b (.k kvs'))))) → Q (.d d) δ2) → wm Ex δ Q) : wCall 2 (C_bent n) [true, false] (wCons (wVar i) (wCons wm wNil)) Ex δ P := by
  unfold wCall
  refine ⟨_, hi, _, rfl, _, rfl, hm _ fun d kvs δ2 h2 hf hp k => ?_⟩
  refine ⟨_, rfl, ([.o i, .d d], δ2), rfl, rfl, ?_, ?_⟩
  · show ([i] : List Nat).Nodup
    exact List.nodup_cons.mpr ⟨by simp, List.nodup_nil⟩
  refine ⟨[.o true (.k kvs), .d d], ?_, ⟨kvs, d, rfl, hf, hp⟩, fun r ss' q _ => ?_⟩
  · show ((match δ2[i]? with | some (some (.o _ c)) => some (Sl.o true c) | _ => none).bind fun s => _) = _
    rw [h2]
    rfl
  · obtain ⟨kvs1, kvs', d1, d', e1, e2, hf', e3, h3⟩ := q
    cases e1
    subst e2 e3
    exact ⟨_, back_2 h2, k kvs' d' hf' h3⟩
theorem add_tup {a b : List PyData} (h : a.length + b.length ≤ 1000000) : addF (.d (.tuple a)) (.d (.tuple b)) = some (.tup (a ++ b)) := by
  have e : sizeLine = 16777216 := by decide
  exact if_pos (by omega)
theorem idx_tup {ds : List PyData} {j : Int} (h0 : 0 ≤ j) (h1 : j < (ds.length : Nat)) : ∃ e, idxF (.d (.tuple ds)) (.d (.int j)) = some (.val e) ∧ ds[j.toNat]? = some e := by
  obtain ⟨k, rfl⟩ := Int.eq_ofNat_of_zero_le h0
  have hk : k < ds.length := by omega
  have e1 : ds[k]? = some ds[k] := List.getElem?_eq_getElem hk
  refine ⟨ds[k], ?_, by rw [Int.toNat_natCast]; exact e1⟩
  show (atI ds (k : Int)).map Rv.val = _
  rw [atI_nat e1]
  rfl
theorem cut_to {ds : List PyData} {j : Int} (h0 : 0 ≤ j) (h1 : j < (ds.length : Nat)) : cutL ds none (some j) = ds.take j.toNat := by
  obtain ⟨k, rfl⟩ := Int.eq_ofNat_of_zero_le h0
  unfold cutL
  rw [HT.sIx_none, HT.sIx_nat, List.drop_zero, Nat.sub_zero, Int.toNat_natCast, Nat.min_eq_left (by omega)]
theorem cut_from {ds : List PyData} {j : Int} (h0 : 0 ≤ j) (h1 : j ≤ (ds.length : Nat)) : cutL ds (some j) none = ds.drop j.toNat := by
  obtain ⟨k, rfl⟩ := Int.eq_ofNat_of_zero_le h0
  unfold cutL
  rw [HT.sIx_none, HT.sIx_nat, Int.toNat_natCast, Nat.min_eq_left (by omega), ← List.length_drop, List.take_length]
theorem bt_mid {xs : List PyData} {k : Nat} {x x' : PyData} (hx : xs[k]? = some x) (h : Bt x x') : Bt (.tuple xs) (.tuple (xs.take k ++ [x'] ++ xs.drop (k + 1))) := by
  have hk : k < xs.length := (List.getElem?_eq_some_iff.mp hx).1
  have ed : xs.drop k = x :: xs.drop (k + 1) := by
    rw [List.drop_eq_getElem_cons hk, (List.getElem?_eq_some_iff.mp hx).2]
  have mx : x ∈ xs := List.mem_of_getElem? hx
  constructor
  · have e1 := bulk_app (xs.take k) (xs.drop k)
    rw [List.take_append_drop, ed] at e1
    simp only [PyData.bulkAll] at e1
    have h1 := h.blk
    simp only [PyData.bulk, bulk_app, PyData.bulkAll]
    omega
  · intro N h0 h1 hn
    have hd : (PyData.tuple xs).depth = PyData.depthAll xs + 1 := by simp only [PyData.depth]
    have hs : Nds N 49 xs := hn.tup
    have hdep : ∀ y ∈ xs, y.depth ≤ PyData.depthAll xs := (dep_all (D := PyData.depthAll xs)).mp (Nat.le_refl _)
    rw [hd]
    have sub : ∀ y ∈ xs, Nd (N + 1) (PyData.depthAll xs + 1) y := fun y m => ⟨(hs y m).lay, intsB_mono (Nat.le_succ _) y (hs y m).nums, Nat.le_succ_of_le (hdep y m)⟩
    refine nd_tup (D := PyData.depthAll xs + 1) ((Nds.append (fun y m => sub y (List.mem_of_mem_take m)) (nds_cons ?_ nds_nil)).append fun y m => sub y (List.mem_of_mem_drop m))
    exact (h.nd N h0 h1 ((hs x mx).mono (Nat.le_refl _) (by decide))).mono (Nat.le_refl _) (Nat.succ_le_succ (hdep x mx))
theorem cut_len {xs : List PyData} {lo hi : Option Int} : (cutL xs lo hi).length ≤ xs.length := by
  unfold cutL
  rw [List.length_take, List.length_drop]
  omega
theorem pb_len {n : Nat} {xs : List PyData} (h : Pb n (.tuple xs)) : xs.length ≤ 10000 := by
  have h1 := h.blk
  simp only [PyData.bulk] at h1
  have := bulk_len xs
  omega
theorem pb_mem {n : Nat} {xs : List PyData} (h : Pb (n + 1) (.tuple xs)) {x : PyData} (m : x ∈ xs) : Pb n x := by
  obtain ⟨N, h0, h1, hn⟩ := h.nd
  have hb := h.blk
  simp only [PyData.bulk] at hb
  have hm := bulk_mem m
  have hd := h.dep
  simp only [PyData.depth] at hd
  have := (dep_all (D := PyData.depthAll xs)).mp (Nat.le_refl _) x m
  exact ⟨⟨N, h0, h1, ((hn.tup (D := 49)) x m).mono (Nat.le_refl _) (by decide)⟩, by omega, by omega⟩
section
variable {e : DEnds} {kvs : List (Key × PyData)} {n : Nat}
abbrev BK (e : DEnds) (d : PyData) : Prop := ∀ kvs' d' δ, Fd kvs' → Bt d d' → δ[0]? = some (some (.o true (.k kvs'))) → δ[1]? = some (some (.d d)) → e.rt (.d d') δ
theorem bent_8 {xs : List PyData} {i : Int} (hf : Fd kvs) (hp : Pb (n + 1) (.tuple xs)) (h0 : 0 ≤ i) (h1 : i < (xs.length : Nat)) (k : BK e (.tuple xs)) :
    t_bent_8 C_draw (C_bent n) e [some (.o true (.k kvs)), some (.d (.tuple xs)), some (.d (.int i)), none, none] := by
  unfold t_bent_8
  obtain ⟨x, ex, mx⟩ := idx_tup h0 h1
  have hl := pb_len hp
  pv_short
  refine bent_at (kvs0 := kvs) rfl fun Q hQ => ?_
  pv_short
  refine Exists.intro _ (And.intro ex ?_)
  refine hQ x kvs _ rfl hf (pb_mem hp (List.mem_of_getElem? mx)) fun kvs1 x' hf1 hx => ?_
  pv_short
  have l1 : (cutL xs none (some i)).length ≤ xs.length := cut_len
  have l2 : (cutL xs (some (i + 1)) none).length ≤ xs.length := cut_len
  refine Exists.intro _ (And.intro (add_tup (a := cutL xs none (some i)) (b := [x']) (by rw [List.length_singleton]; omega)) ?_)
  pv_short
  refine Exists.intro _ (And.intro (add_tup (a := cutL xs none (some i) ++ [x']) (b := cutL xs (some (i + 1)) none) (by rw [List.length_append, List.length_singleton]; omega)) ?_)
  pv_short
  refine k kvs1 _ _ hf1 ?_ rfl rfl
  rw [cut_to h0 h1, cut_from (by omega) (by omega), show (i + 1).toNat = i.toNat + 1 by omega]
  exact bt_mid mx hx
theorem bent_9 {xs : List PyData} (hf : Fd kvs) (hp : Pb (n + 1) (.tuple xs)) (h0 : xs ≠ []) (k : BK e (.tuple xs)) :
    t_bent_9 C_draw (C_bent n) e [some (.o true (.k kvs)), some (.d (.tuple xs)), none, none, none] := by
  unfold t_bent_9
  have h1 := List.length_pos_iff.mpr h0
  have hl := pb_len hp
  pv_short
  refine draw_at (m := (xs.length : Int)) rfl hf (by omega) ?_ (fun Q h => ?_) fun kvs1 j hf1 h3 h4 => ?_
  · exact (Nat.log2_lt (by omega)).mpr (Nat.lt_of_lt_of_le (show _ < 2 ^ 20 by omega) (Nat.pow_le_pow_right (by decide) (by decide)))
  · pv_short
    exact h
  · pv_short
    exact bent_8 hf1 hp h3 h4 k
end
end V01
set_option Elab.async false
set_option linter.all false
set_option maxRecDepth 100000
set_option maxHeartbeats 4000000
set_option autoImplicit false
set_option exponentiation.threshold 20000
namespace V01
open PySem PySem.Spec PyProof.Rows L2 DL
local macro_rules | `(tactic| pv_short) => `(tactic| repeat first | refine Exists.intro _ (And.intro rfl ?_) | refine ifT rfl ?_ | refine ifF rfl ?_ | refine Exists.intro _ (And.intro (if_pos (by first | assumption | decide | exact ⟨by assumption, by decide⟩ | exact ⟨by assumption, by assumption⟩)) ?_) | refine And.intro (show List.length _ ≤ sizeLine from Nat.le_of_ble_eq_true rfl) ?_ | refine And.intro (Nat.le_of_ble_eq_true rfl) ?_)
theorem ok_text (s : String) : PyData.strOk (Str.ofString s) = true := by
  refine ok_mem.mpr fun c m => ?_
  rw [Str.ofString_eq_toList, List.toList_toArray] at m
  obtain ⟨ch, _, rfl⟩ := List.mem_map.mp m
  have h := ch.valid
  show ch.val.toNat < _
  rcases h with h | ⟨_, h⟩
  · exact Nat.lt_trans h (by decide)
  · exact h
theorem bt_const {d d' : PyData} (h : thB 1 1 210 d' = true) : Bt d d' := by
  have h := thB_ok h
  exact ⟨by have := h.2; omega, fun N h0 h1 hn => h.1.mono (by omega) (by omega)⟩
theorem bt_int {d : PyData} {i : Int} (h : ∀ N, 10 ^ 60 ≤ N → N < 10 ^ 195 → Nd N 50 d → i.natAbs ≤ N + 1) : Bt d (.int i) := ⟨Nat.zero_le _, fun N h0 h1 hn => nd_int (h N h0 h1 hn)⟩
theorem nds_self {N : Nat} {xs : List PyData} (hn : Nd N 50 (.tuple xs)) : Nds (N + 1) (PyData.depthAll xs) xs := fun y m => by
  have hs := (hn.tup (D := 49)) y m
  exact ⟨hs.lay, intsB_mono (Nat.le_succ _) y hs.nums, (dep_all (D := PyData.depthAll xs)).mp (Nat.le_refl _) y m⟩
theorem bt_seq {xs ys : List PyData} (h1 : ∀ y ∈ ys, y ∈ xs ∨ y = .none) (h2 : PyData.bulkAll ys ≤ 2 * PyData.bulkAll xs + 210) : Bt (.tuple xs) (.tuple ys) ∧ Bt (.tuple xs) (.list ys) := by
  have hd : (PyData.tuple xs).depth = PyData.depthAll xs + 1 := by simp only [PyData.depth]
  have key : ∀ N, 10 ^ 60 ≤ N → N < 10 ^ 195 → Nd N 50 (.tuple xs) → Nds (N + 1) (PyData.depthAll xs + 1) ys := fun N _ _ hn y m => by
    rcases h1 y m with m | rfl
    · exact (nds_self hn y m).mono (Nat.le_refl _) (Nat.le_succ _)
    · exact nd_none
  exact ⟨⟨by simp only [PyData.bulk]; exact h2, fun N a b hn => by rw [hd]; exact nd_tup (key N a b hn)⟩, ⟨by simp only [PyData.bulk]; exact h2, fun N a b hn => by rw [hd]; exact nd_lst (key N a b hn)⟩⟩
theorem bt_wrap {d : PyData} : Bt d (.tuple [d]) := ⟨by simp only [PyData.bulk, PyData.bulkAll]; omega, fun N a b hn => nd_tup (nds_cons ⟨hn.lay, intsB_mono (Nat.le_succ _) d hn.nums, Nat.le_refl _⟩ nds_nil)⟩
abbrev tupOdd (xs : List PyData) : List PyData := [.list xs, .tuple xs.reverse, .tuple [.tuple xs], .tuple (xs ++ xs), .tuple [], .none, .tuple (cutL xs (some 1) none), .tuple (cutL xs none (some (-1))), .tuple (xs ++ [.none])]
theorem tup_odd {xs : List PyData} : ∀ d ∈ tupOdd xs, Bt (.tuple xs) d := by
  intro d m
  simp only [tupOdd, List.mem_cons, List.not_mem_nil, or_false] at m
  rcases m with rfl | rfl | rfl | rfl | rfl | rfl | rfl | rfl | rfl
  · exact (bt_seq (fun y m => .inl m) (by omega)).2
  · exact (bt_seq (fun y m => .inl (List.mem_reverse.mp m)) (by rw [bulk_rev]; omega)).1
  · exact bt_wrap
  · exact (bt_seq (fun y m => .inl ((List.mem_append.mp m).elim id id)) (by rw [bulk_app]; omega)).1
  · exact bt_const (by decide)
  · exact bt_const (by decide)
  · exact (bt_seq (fun y m => .inl (cut_mem m)) (by have := bulk_cut xs (some 1) none; omega)).1
  · exact (bt_seq (fun y m => .inl (cut_mem m)) (by have := bulk_cut xs none (some (-1)); omega)).1
  · exact (bt_seq (fun y m => (List.mem_append.mp m).elim .inl fun m => .inr (List.mem_singleton.mp m)) (by rw [bulk_app]; simp only [PyData.bulkAll, PyData.bulk]; omega)).1
abbrev intOdd (i : Int) (q : Bool) (x : Str) (d : PyData) : List PyData := [.int (i + 1), .int (i - 1), .bool q, .str x, .none, .tuple [d], .int 0, .int (-1), .int (10 ^ 60)]
theorem int_odd {i : Int} {q : Bool} {x : Str} {d : PyData} (hi : ∀ N, 10 ^ 60 ≤ N → N < 10 ^ 195 → Nd N 50 d → i.natAbs ≤ N) (hx : Tx 210 x) : ∀ d' ∈ intOdd i q x d, Bt d d' := by
  intro d' m
  simp only [intOdd, List.mem_cons, List.not_mem_nil, or_false] at m
  rcases m with rfl | rfl | rfl | rfl | rfl | rfl | rfl | rfl | rfl
  · exact bt_int fun N a b hn => by have := hi N a b hn; omega
  · exact bt_int fun N a b hn => by have := hi N a b hn; omega
  · exact bt_const (by cases q <;> decide)
  · exact ⟨by have : x.cps.size ≤ 210 := hx.2
              simp only [PyData.bulk]; omega, fun N a b hn => nd_str hx.1⟩
  · exact bt_const (by decide)
  · exact bt_wrap
  · exact bt_const (by decide)
  · exact bt_const (by decide)
  · exact bt_int fun N a b hn => by
      have e : ((10 : Int) ^ 60).natAbs = 10 ^ 60 := by decide +kernel
      omega
abbrev elseOdd : List PyData := [.none, .bool true, .int 0, .int 1, .str "", .tuple [], .list [], .int (-1), .str "a"]
theorem else_odd {d : PyData} : ∀ d' ∈ elseOdd, Bt d d' := fun d' m => bt_const (by
  have h : elseOdd.all (thB 1 1 210) = true := by decide +kernel
  exact List.all_eq_true.mp h d' m)
section
variable {e : DEnds} {kvs : List (Key × PyData)} {n : Nat}
theorem bent_1 {d : PyData} {j : Int} {s2 s4 : Option Sl} (hf : Fd kvs) (h0 : 0 ≤ j) (h1 : j < 9) (k : BK e d) :
    t_bent_1 C_draw (C_bent n) e [some (.o true (.k kvs)), some (.d d), s2, some (.d (.int j)), s4] := by
  unfold t_bent_1
  obtain ⟨d', ed, md⟩ := idx_mem (ds := elseOdd) h0 (by show j < 9; exact h1)
  pv_short
  refine Exists.intro _ (And.intro ed ?_)
  exact k kvs d' _ hf (else_odd d' md) rfl rfl
theorem nd_lim {n : Nat} {i : Int} (hp : Pb n (.int i)) : i.natAbs.log2 < 1920 ∧ Tx 210 (Str.ofString (toString i)) := by
  obtain ⟨N, h0, h1, hn⟩ := hp.nd
  have h2 := hn.int
  refine ⟨log_lt (Nat.lt_of_le_of_lt h2 (Nat.lt_trans (Nat.lt_trans h1 (Nat.pow_lt_pow_right (by decide) (by decide : 195 < 200))) ten_two)), ok_text _, ?_⟩
  rw [PySem.ofString_length]
  have := int_text_length_le10 (a := i) (k := 195) (by decide) (Nat.lt_of_le_of_lt h2 h1)
  omega
theorem bent_2i {i j : Int} {s2 s4 : Option Sl} (hf : Fd kvs) (hp : Pb (n + 1) (.int i)) (h0 : 0 ≤ j) (h1 : j < 9) (k : BK e (.int i)) :
    t_bent_2 C_draw (C_bent n) e [some (.o true (.k kvs)), some (.d (.int i)), s2, some (.d (.int j)), s4] := by
  unfold t_bent_2
  obtain ⟨hl, ht⟩ := nd_lim hp
  obtain ⟨d', ed, md⟩ := idx_mem (ds := intOdd i (PyData.eqv (.int i) (.int 1)) (toString i) (.int i)) h0 (by show j < 9; exact h1)
  pv_short
  refine Exists.intro _ (And.intro ed ?_)
  exact k kvs d' _ hf (int_odd (fun N _ _ hn => hn.int) ht d' md) rfl rfl
theorem bent_2b {b : Bool} {j : Int} {s2 s4 : Option Sl} (hf : Fd kvs) (h0 : 0 ≤ j) (h1 : j < 9) (k : BK e (.bool b)) :
    t_bent_2 C_draw (C_bent n) e [some (.o true (.k kvs)), some (.d (.bool b)), s2, some (.d (.int j)), s4] := by
  unfold t_bent_2
  have ht : Tx 210 (if b then ("True" : Str) else "False") := by cases b <;> exact ⟨by decide +kernel, by decide +kernel⟩
  obtain ⟨d', ed, md⟩ := idx_mem (ds := intOdd (if b = true then (1 : Int) else 0) (PyData.eqv (.bool b) (.int 1)) (if b then ("True" : Str) else "False") (.bool b)) h0 (by show j < 9; exact h1)
  pv_short
  refine Exists.intro _ (And.intro ed ?_)
  exact k kvs d' _ hf (int_odd (fun N h _ _ => by
    have : (10 : Nat) ^ 60 ≥ 1 := Nat.one_le_pow _ _ (by decide)
    cases b
    · exact Nat.zero_le _
    · show (1 : Int).natAbs ≤ N
      show 1 ≤ N
      omega) ht d' md) rfl rfl
theorem bent_5 {xs : List PyData} {j : Int} {s2 s4 : Option Sl} (hf : Fd kvs) (hp : Pb (n + 1) (.tuple xs)) (h0 : 0 ≤ j) (h1 : j < 9) (k : BK e (.tuple xs)) :
    t_bent_5 C_draw (C_bent n) e [some (.o true (.k kvs)), some (.d (.tuple xs)), s2, some (.d (.int j)), s4] := by
  unfold t_bent_5 t_bent_4
  have hl := pb_len hp
  have e0 : sizeLine = 16777216 := by decide
  have l1 : xs.length + xs.length ≤ sizeLine := by omega
  have l2 : xs.length + ([PyData.none] : List PyData).length ≤ sizeLine := by rw [List.length_singleton]; omega
  obtain ⟨d', ed, md⟩ := idx_mem (ds := tupOdd xs) h0 (by show j < 9; exact h1)
  pv_short
  refine Exists.intro _ (And.intro ed ?_)
  exact k kvs d' _ hf (tup_odd d' md) rfl rfl
theorem bent_7 {d : PyData} {s2 : Option Sl} (hf : Fd kvs) (hp : Pb (n + 1) d) (k : BK e d) :
    t_bent_7 C_draw (C_bent n) e [some (.o true (.k kvs)), some (.d d), s2, none, none] := by
  unfold t_bent_7 t_bent_6 t_bent_3
  pv_short
  refine draw_at (m := 9) rfl hf (by decide) (by decide) (fun Q h => h) fun kvs1 j hf1 h3 h4 => ?_
  cases d with
  | tuple xs => pv_short; exact bent_5 hf1 hp h3 h4 k
  | int i => pv_short; exact bent_2i hf1 hp h3 h4 k
  | bool b => pv_short; exact bent_2b hf1 h3 h4 k
  | _ => pv_short; exact bent_1 hf1 h3 h4 k
theorem bent_10 {d : PyData} (hf : Fd kvs) (hp : Pb (n + 1) d) (k : BK e d) :
    t_bent_10 C_draw (C_bent n) e [some (.o true (.k kvs)), some (.d d), none, none, none] := by
  unfold t_bent_10
  cases d with
  | tuple xs =>
    obtain ⟨N, h0, h1, hn⟩ := hp.nd
    pv_short
    refine Exists.intro _ (And.intro (eq_shaped (neg := true) (d := .tuple xs) (e := .tuple []) (nd_shaped hn (by decide)) (by rfl)) ?_)
    pv_short
    cases xs with
    | nil =>
      pv_short
      exact bent_7 hf hp k
    | cons x xs =>
      pv_short
      refine draw_at (m := 5) rfl hf (by decide) (by decide) (fun Q h => h) fun kvs1 j hf1 h3 h4 => ?_
      pv_short
      refine ite2 (fun w => ?_) (fun w => ?_)
      · exact bent_9 hf1 hp (by simp) k
      · exact bent_7 hf1 hp k
  | _ => pv_short; exact bent_7 hf hp k
end
theorem bent_ok (n : Nat) (ss : List Sl) (Ex : XP) (P : R → List Sl → Prop) (h : C_bent (n + 1) ss Ex P) : fnW 2 5 (w_bent C_draw (C_bent n)) ss Ex P := by
  obtain ⟨⟨kvs, d, rfl, hf, hp⟩, k⟩ := h
  refine And.intro rfl ?_
  rw [w_bent_eq]
  refine bent_10 hf hp fun kvs' d' δ hf' hb e0 e1 => ?_
  refine ⟨_, rfl, [.o true (.k kvs'), .d d], ?_, k _ _ ⟨kvs, kvs', d, d', rfl, rfl, hf', rfl, hb⟩⟩
  match δ, e0, e1 with
  | a :: b :: δ, e0, e1 =>
    cases e0
    cases e1
    rfl
end V01
set_option Elab.async false
set_option linter.all false
set_option maxRecDepth 100000
set_option maxHeartbeats 4000000
set_option autoImplicit false
set_option exponentiation.threshold 20000
namespace V01
open PySem PySem.Spec PyProof.Rows L2 DL
local macro_rules | `(tactic| pv_short) => `(tactic| repeat first | refine Exists.intro _ (And.intro rfl ?_) | refine ifT rfl ?_ | refine ifF rfl ?_ | refine Exists.intro _ (And.intro (if_pos (by first | assumption | decide | exact ⟨by assumption, by decide⟩ | exact ⟨by assumption, by assumption⟩)) ?_) | refine And.intro (show List.length _ ≤ sizeLine from Nat.le_of_ble_eq_true rfl) ?_ | refine And.intro (Nat.le_of_ble_eq_true rfl) ?_)
/-! ### law -/
theorem thing_at {kvs : List (Key × PyData)} {δ : SEnv} {i : Nat} {b : Bool} {Ex : XP} {P : R → SEnv → Prop} (hi : δ[i]? = some (some (.o b (.k kvs)))) (hf : Fd kvs)
    (k : ∀ (kvs' : List (Key × PyData)) (d : PyData), Fd kvs' → ThT d → P (.d d) (δ.set i (some (.o b (.k kvs'))))) : wCall 1 C_thing [true] (wCons (wVar i) wNil) Ex δ P := by
  unfold wCall
  refine ⟨_, hi, _, rfl, _, rfl, ([.o i], δ), rfl, rfl, ?_, ?_⟩
  · show ([i] : List Nat).Nodup
    exact List.nodup_cons.mpr ⟨by simp, List.nodup_nil⟩
  refine ⟨[.o true (.k kvs)], ?_, ⟨kvs, rfl, hf⟩, fun r ss' q _ => ?_⟩
  · show ((match δ[i]? with | some (some (.o _ c)) => some (Sl.o true c) | _ => none).bind fun s => _) = _
    rw [hi]
    rfl
  · obtain ⟨kvs', x, e2, hf', e3, h2⟩ := q
    subst e2 e3
    refine ⟨δ.set i (some (.o b (.k kvs'))), ?_, k kvs' x hf' h2⟩
    show (match δ[i]? with | some (some (.o b _)) => back δ ((δ.set i none).set i (some (.o b (.k kvs')))) [] [] | _ => none) = _
    rw [hi]
    show some ((δ.set i none).set i (some (.o b (.k kvs')))) = _
    rw [List.set_set]
theorem feed_at {δ : SEnv} {ns : List Int} {s : Sl} {Ex : XP} {P : R → SEnv → Prop} (hi : δ[0]? = some (some s)) (hs : Scr ns s) (k : ∀ kvs, Fd kvs → P (.n (.k kvs)) δ) : wCall 1 C_feed [false] (wCons (wVar 0) wNil) Ex δ P := by
  rcases hs with rfl | rfl
  · unfold wCall
    refine ⟨_, hi, _, rfl, _, rfl, ([.d _], δ), rfl, rfl, List.nodup_nil, ?_⟩
    refine ⟨[.d (.list (ns.map .int))], rfl, ⟨_, ns, rfl, .inl rfl⟩, fun r ss' ⟨e1, kvs, e2, hf⟩ _ => ?_⟩
    subst e1 e2
    exact ⟨_, rfl, k kvs hf⟩
  · unfold wCall
    refine ⟨_, hi, _, rfl, _, rfl, ([.w _], δ), rfl, rfl, List.nodup_nil, ?_⟩
    refine ⟨[.w (.list (ns.map .int))], rfl, ⟨_, ns, rfl, .inr rfl⟩, fun r ss' ⟨e1, kvs, e2, hf⟩ _ => ?_⟩
    subst e1 e2
    exact ⟨_, rfl, k kvs hf⟩
def LG (d : PyData) : Prop := Nd (10 ^ 194 + 2) 4 d ∧ d.bulk ≤ 830
theorem pw_lt : (10 : Nat) ^ 194 + 2 < 10 ^ 195 := by decide +kernel
theorem pw_gt : (10 : Nat) ^ 60 ≤ 10 ^ 194 := Nat.pow_le_pow_right (by decide) (by decide)
theorem lg_good {d : PyData} (h : LG d) : Good d := ⟨h.1.mono (Nat.le_of_lt pw_lt) (by decide), by have := h.2; omega⟩
theorem th_lg {d : PyData} (h : ThT d) : LG d := ⟨h.1.mono (by omega) (by decide), by have := h.2; omega⟩
theorem th_pb {d : PyData} (h : ThT d) : Pb 10 d := ⟨⟨10 ^ 194, pw_gt, by have := pw_lt; omega, h.1.mono (Nat.le_refl _) (by decide)⟩, by have := h.2; omega, by have := h.1.dep; omega⟩
theorem bt_one {d d' : PyData} (h : ThT d) (b : Bt d d') : Nd (10 ^ 194 + 1) 3 d' ∧ d'.bulk ≤ 310 :=
  ⟨(b.nd _ pw_gt (by have := pw_lt; omega) (h.1.mono (Nat.le_refl _) (by decide))).mono (Nat.le_refl _) (by have := h.1.dep; omega), by have := b.blk; have := h.2; omega⟩
theorem one_pb {d : PyData} (h : Nd (10 ^ 194 + 1) 3 d ∧ d.bulk ≤ 310) : Pb 10 d := ⟨⟨10 ^ 194 + 1, by have := pw_gt; omega, by have := pw_lt; omega, h.1.mono (Nat.le_refl _) (by decide)⟩, by have := h.2; omega, by have := h.1.dep; omega⟩
theorem one_lg {d : PyData} (h : Nd (10 ^ 194 + 1) 3 d ∧ d.bulk ≤ 310) : LG d := ⟨h.1.mono (by omega) (by decide), by have := h.2; omega⟩
theorem bt_two {d d' : PyData} (h : Nd (10 ^ 194 + 1) 3 d ∧ d.bulk ≤ 310) (b : Bt d d') : LG d' :=
  ⟨(b.nd _ (by have := pw_gt; omega) (by have := pw_lt; omega) (h.1.mono (Nat.le_refl _) (by decide))).mono (Nat.le_refl _) (by have := h.1.dep; omega), by have := b.blk; have := h.2; omega⟩
theorem lg_show {ds : List PyData} (h : ∀ d ∈ ds, LG d) (hl : ds.length ≤ 60) : showOk (.list ds) = true := by
  refine nd_show (N := 10 ^ 194 + 2) (D := 5) (b := 80000) (nd_lst fun d m => (h d m).1) ?_ (by decide) ?_ (Nat.le_refl _)
  · exact Nat.lt_trans pw_lt (Nat.pow_lt_pow_right (by decide) (by decide))
  · have h1 := bulk_le fun d m => (h d m).2
    have h2 : ds.length * (830 + 1) ≤ 60 * 831 := Nat.mul_le_mul hl (Nat.le_refl _)
    simp only [PyData.bulk]
    omega
theorem three_show (a b c : Bool) : showOk (.tuple [.bool a, .bool b, .bool c]) = true :=
  nd_show (N := 0) (D := 1) (b := 80000) (nd_tup (D := 0) (nds_cons nd_bool (nds_cons nd_bool (nds_cons nd_bool nds_nil)))) (Nat.pow_pos (by decide)) (by decide) (by simp only [PyData.bulk, PyData.bulkAll]; omega) (Nat.le_refl _)
end V01
set_option Elab.async false
set_option linter.all false
set_option maxRecDepth 100000
set_option maxHeartbeats 4000000
set_option autoImplicit false
set_option exponentiation.threshold 20000
namespace V01
open PySem PySem.Spec PyProof.Rows L2 DL
local macro_rules | `(tactic| pv_short) => `(tactic| repeat first | refine Exists.intro _ (And.intro rfl ?_) | refine ifT rfl ?_ | refine ifF rfl ?_ | refine Exists.intro _ (And.intro (if_pos (by first | assumption | decide | exact ⟨by assumption, by decide⟩ | exact ⟨by assumption, by assumption⟩)) ?_) | refine And.intro (show List.length _ ≤ sizeLine from Nat.le_of_ble_eq_true rfl) ?_ | refine And.intro (Nat.le_of_ble_eq_true rfl) ?_)
theorem repr_ok {d : PyData} (h : showOk d = true) : reprF [.d d] = some (.val (.str d.shown)) := by
  unfold reprF
  show (if showOk d = true then some (Rv.val (.str d.shown)) else none) = _
  rw [if_pos h]
theorem eq_text (x : Str) : eqF (.d (.str x)) (.d (.str x)) = some (.val (.bool true)) := by
  show (if SeqAt.shaped (.str x) && SeqAt.shaped (.str x) || strs2 (.str x) (.str x) then some (Rv.val (.bool (if false = true then !PyData.eqv (.str x) (.str x) else PyData.eqv (.str x) (.str x)))) else none) = _
  rw [if_pos (by rw [show strs2 (.str x) (.str x) = true from rfl, Bool.or_true]), ← str_beq, decide_eq_true rfl]
  rfl
theorem ne_text (x : Str) : neF (.d (.str x)) (.d (.str x)) = some (.val (.bool false)) := by
  show (if SeqAt.shaped (.str x) && SeqAt.shaped (.str x) || strs2 (.str x) (.str x) then some (Rv.val (.bool (if true = true then !PyData.eqv (.str x) (.str x) else PyData.eqv (.str x) (.str x)))) else none) = _
  rw [if_pos (by rw [show strs2 (.str x) (.str x) = true from rfl, Bool.or_true]), ← str_beq, decide_eq_true rfl]
  rfl
section
variable {e : DEnds} {kvs : List (Key × PyData)} {s0 : Sl} {wd : PyData} {at1 : Int}
abbrev cT1 (f : FSpec → FSpec → FSpec → FSpec → FSpec → FSpec → FSpec → FSpec → WS) : WS := f (One isWay) (One isName) (One isNum) (C_due 10) (C_bent 10) C_thing C_draw C_feed
abbrev lawE (s0 : Sl) (kvs : List (Key × PyData)) (wd : PyData) (at1 : Int) (s4 s5 s6 s7 : Option Sl) : SEnv := [some s0, some (.o false (.k kvs)), some (.d wd), some (.d (.int at1)), s4, s5, s6, s7]
theorem law_1 {ds : List PyData} {S : Str} {s5 s6 : Option Sl} (hS : reprF [.d (.list ds)] = some (.val (.str S))) (k : ∀ δ, δ[0]? = some (some s0) → e.rt (.d (.bool true)) δ) :
    cT1 t_law_1 e (lawE s0 kvs wd at1 (some (.d (.list ds))) s5 s6 (some (.d (.str S)))) := by
  unfold t_law_1
  pv_short
  refine Exists.intro _ (And.intro hS ?_)
  pv_short
  refine Exists.intro _ (And.intro (eq_text S) ?_)
  exact k _ rfl
theorem law_3 {ds : List PyData} {d : PyData} {s5 s7 : Option Sl} (hd : LG d)
    (k : e.nx (lawE s0 kvs wd at1 (some (.d (.list ds))) s5 (some (.d d)) s7)) :
    cT1 t_law_3 e (lawE s0 kvs wd at1 (some (.d (.list ds))) s5 (some (.d d)) s7) := by
  have hg := lg_good hd
  obtain ⟨S, hS⟩ : ∃ S, reprF [.d (.tuple [.bool (isNum d), .bool (isName d), .bool (isWay d)])] = some (.val (.str S)) := ⟨_, repr_ok (three_show (isNum d) (isName d) (isWay d))⟩
  unfold t_law_3 t_law_2
  pv_short
  refine one_call (f := isNum) (i := 6) (d := d) rfl hg ?_
  pv_short
  refine one_call (f := isName) (i := 6) (d := d) rfl hg ?_
  pv_short
  refine one_call (f := isWay) (i := 6) (d := d) rfl hg ?_
  pv_short
  refine Exists.intro _ (And.intro hS ?_)
  pv_short
  refine due_call (n := 10) (i := 6) (d := d) rfl hg (by have := hd.1.dep; omega) ?_
  pv_short
  refine Exists.intro _ (And.intro hS ?_)
  pv_short
  refine Exists.intro _ (And.intro (ne_text S) ?_)
  pv_short
  exact k
theorem law_4 {ds : List PyData} {S : Str} {s5 s6 : Option Sl} (hS : reprF [.d (.list ds)] = some (.val (.str S))) (h : ∀ d ∈ ds, LG d) (k : ∀ δ, δ[0]? = some (some s0) → e.rt (.d (.bool true)) δ) :
    cT1 t_law_4 e (lawE s0 kvs wd at1 (some (.o false (.l ds))) s5 s6 (some (.d (.str S)))) := by
  unfold t_law_4
  have st : wForR (gN 6) (cT1 t_law_3) ds { e with nx := cT1 t_law_1 e } (lawE s0 kvs wd at1 (some (.d (.list ds))) s5 s6 (some (.d (.str S)))) := by
    refine for_inv (fun pre δ => ∃ s6, δ = lawE s0 kvs wd at1 (some (.d (.list ds))) s5 s6 (some (.d (.str S)))) ?_ ?_ ⟨s6, rfl⟩
    · rintro δ ⟨s6', rfl⟩
      exact law_1 hS k
    · rintro pre v post δ Q eq ⟨s6', rfl⟩ hQ
      refine Exists.intro _ (And.intro rfl ?_)
      exact law_3 (h v (by rw [eq]; exact List.mem_append_right _ (List.mem_cons_self ..))) (hQ _ ⟨_, rfl⟩)
  refine Exists.intro _ (And.intro rfl ?_)
  refine Exists.intro _ (And.intro rfl ?_)
  refine Exists.intro _ (And.intro rfl ?_)
  exact st
theorem law_5 {ds : List PyData} {s5 s6 : Option Sl} (h : ∀ d ∈ ds, LG d) (hl : ds.length ≤ 60) (k : ∀ δ, δ[0]? = some (some s0) → e.rt (.d (.bool true)) δ) :
    cT1 t_law_5 e (lawE s0 kvs wd at1 (some (.o false (.l ds))) s5 s6 none) := by
  unfold t_law_5
  obtain ⟨S, hS⟩ : ∃ S, reprF [.d (.list ds)] = some (.val (.str S)) := ⟨_, repr_ok (lg_show h hl)⟩
  pv_short
  refine Exists.intro _ (And.intro hS ?_)
  pv_short
  exact law_4 hS h k
theorem law_7 {ds : List PyData} {s5 s6 : Option Sl} (hf : Fd kvs) (h : ∀ d ∈ ds, LG d) (hl : ds.length ≤ 60)
    (k : ∀ kvs' ds' s6, Fd kvs' → ds'.length = ds.length + 3 → (∀ d ∈ ds', LG d) → e.nx (lawE s0 kvs' wd at1 (some (.o false (.l ds'))) s5 s6 none)) :
    cT1 t_law_7 e (lawE s0 kvs wd at1 (some (.o false (.l ds))) s5 s6 none) := by
  unfold t_law_7 t_law_6
  pv_short
  refine thing_at (i := 1) (b := false) rfl hf fun kvs1 d hf1 hd => ?_
  pv_short
  refine bent_at (i := 1) (n := 10) (b := false) (kvs0 := kvs1) rfl fun Q hQ => ?_
  pv_short
  refine hQ d kvs1 _ rfl hf1 (th_pb hd) fun kvs2 d2 hf2 hb2 => ?_
  pv_short
  refine bent_at (i := 1) (n := 10) (b := false) (kvs0 := kvs2) rfl fun Q hQ => ?_
  refine bent_at (i := 1) (n := 10) (b := false) (kvs0 := kvs2) rfl fun Q2 hQ2 => ?_
  pv_short
  refine hQ2 d kvs2 _ rfl hf2 (th_pb hd) fun kvs3 d3 hf3 hb3 => ?_
  have h3 := bt_one hd hb3
  refine hQ d3 kvs3 _ rfl hf3 (one_pb h3) fun kvs4 d4 hf4 hb4 => ?_
  have e0 : sizeLine = 16777216 := by decide
  pv_short
  refine And.intro (show ds.length + 3 ≤ sizeLine by omega) ?_
  refine k kvs4 (ds ++ [d, d2, d4]) _ hf4 (by rw [List.length_append]; rfl) fun y m => ?_
  rcases List.mem_append.mp m with m | m
  · exact h y m
  · simp only [List.mem_cons, List.not_mem_nil, or_false] at m
    rcases m with rfl | rfl | rfl
    · exact th_lg hd
    · exact one_lg (bt_one hd hb2)
    · exact bt_two h3 hb4
theorem law_8 {ds : List PyData} (hf : Fd kvs) (h : ∀ d ∈ ds, LG d) (hl : ds.length = 4) (k : ∀ δ, δ[0]? = some (some s0) → e.rt (.d (.bool true)) δ) :
    cT1 t_law_8 e (lawE s0 kvs wd at1 (some (.o false (.l ds))) none none none) := by
  unfold t_law_8
  pv_short
  refine And.intro (by decide) ?_
  refine for_inv (fun pre δ => ∃ kvs' ds' s5 s6, Fd kvs' ∧ ds'.length = 4 + 3 * pre.length ∧ (∀ d ∈ ds', LG d) ∧ δ = lawE s0 kvs' wd at1 (some (.o false (.l ds'))) s5 s6 none) ?_ ?_ ⟨kvs, ds, none, none, hf, hl, h, rfl⟩
  · rintro δ ⟨kvs', ds', s5, s6, hf', hl', h', rfl⟩
    refine law_5 h' ?_ k
    rw [hl']
    decide
  · rintro pre v post δ Q eq ⟨kvs', ds', s5, s6, hf', hl', h', rfl⟩ hQ
    have hp : pre.length < 16 := by
      have := congrArg List.length eq
      rw [List.length_append, List.length_cons] at this
      have e2 : (List.map (fun (i : Nat) => PyData.int ((0 : Int) + (i : Int))) (List.range ((16 : Int) - 0).toNat)).length = 16 := by rw [List.length_map, List.length_range]; rfl
      have e3 : (List.map (fun (i : Nat) => PyData.int ((0 : Int) + (i : Int))) (List.range ((16 : Int) - 0).toNat)).length = pre.length + (post.length + 1) := this
      omega
    refine Exists.intro _ (And.intro rfl ?_)
    refine law_7 hf' h' (by omega) fun kvs2 ds2 s6 hf2 hl2 h2 => hQ _ ⟨kvs2, ds2, _, s6, hf2, ?_, h2, rfl⟩
    rw [hl2, hl', List.length_append, List.length_singleton]
    omega
theorem lg_tup {ys : List PyData} (h : ∀ y ∈ ys, Th 0 0 2 y) (hl : ys.length ≤ 100) : LG (.tuple ys) := by
  refine ⟨nd_tup (D := 3) fun y m => (h y m).1.mono (Nat.zero_le _) (Nat.zero_le _), ?_⟩
  have h1 := bulk_le fun y m => (h y m).2
  have h2 : ys.length * (2 + 1) ≤ 100 * 3 := Nat.mul_le_mul hl (Nat.le_refl _)
  simp only [PyData.bulk]
  omega
theorem law_9 {xs : List PyData} {j : Int} (hf : Fd kvs) (hx : ∀ y ∈ xs, Th 0 0 2 y) (hl : xs.length = 40) (h0 : 0 ≤ j) (h1 : j < 40) (k : ∀ δ, δ[0]? = some (some s0) → e.rt (.d (.bool true)) δ) :
    cT1 t_law_9 e (lawE s0 kvs (.tuple xs) j none none none none) := by
  unfold t_law_9
  have l1 : (cutL xs none (some j)).length ≤ xs.length := cut_len
  have l2 : (cutL xs (some (j + 1)) none).length ≤ xs.length := cut_len
  have hB : Th 0 0 2 (.str "B") := thB_ok (by decide +kernel)
  pv_short
  refine Exists.intro _ (And.intro (add_tup (a := cutL xs none (some j)) (b := [.str "B"]) (by rw [List.length_singleton]; omega)) ?_)
  pv_short
  refine Exists.intro _ (And.intro (add_tup (a := cutL xs none (some j) ++ [.str "B"]) (b := cutL xs (some (j + 1)) none) (by rw [List.length_append, List.length_singleton]; omega)) ?_)
  pv_short
  refine law_8 (ds := [.tuple xs, .tuple (cutL xs none (some j) ++ [.str "B"] ++ cutL xs (some (j + 1)) none), .int (-1), .int 0]) hf (fun d m => ?_) rfl k
  simp only [List.mem_cons, List.not_mem_nil, or_false] at m
  rcases m with rfl | rfl | rfl | rfl
  · exact lg_tup hx (by omega)
  · refine lg_tup (fun y m => ?_) (by rw [List.length_append, List.length_append, List.length_singleton]; omega)
    rcases List.mem_append.mp m with m | m
    · rcases List.mem_append.mp m with m | m
      · exact hx y (cut_mem m)
      · rw [List.mem_singleton.mp m]; exact hB
    · exact hx y (cut_mem m)
  · exact ⟨nd_int (by show 1 ≤ _; omega), Nat.zero_le _⟩
  · exact ⟨nd_int (Nat.zero_le _), Nat.zero_le _⟩
abbrev wideL : List PyData := (List.replicate 20 [PyData.str "a", PyData.str "bc"]).flatten
theorem wide_th : ∀ y ∈ wideL, Th 0 0 2 y := fun y m => thB_ok (by
  have h : wideL.all (thB 0 0 2) = true := by decide +kernel
  exact List.all_eq_true.mp h y m)
theorem law_10 (hf : Fd kvs) (k : ∀ δ, δ[0]? = some (some s0) → e.rt (.d (.bool true)) δ) :
    cT1 t_law_10 e [some s0, some (.o false (.k kvs)), none, none, none, none, none, none] := by
  unfold t_law_10
  pv_short
  refine draw_at (i := 1) (b := false) (m := 40) rfl hf (by decide) (by decide) (fun Q h => h) fun kvs1 j hf1 h3 h4 => ?_
  pv_short
  exact law_9 (xs := wideL) hf1 wide_th (by decide +kernel) h3 h4 k
theorem law_11 {ns : List Int} (hs : Scr ns s0) (k : ∀ δ, δ[0]? = some (some s0) → e.rt (.d (.bool true)) δ) :
    cT1 t_law_11 e [some s0, none, none, none, none, none, none, none] := by
  unfold t_law_11
  pv_short
  refine feed_at rfl hs fun kvs hf => ?_
  pv_short
  exact law_10 hf k
end
theorem law_ok (ns : List Int) (s : Sl) (hs : Scr ns s) : fnW 1 8 (cT1 w_law) [s] (fun _ => False) fun r _ => r = .d (.bool true) := by
  refine And.intro rfl ?_
  show cT1 w_law _ _
  rw [show cT1 w_law = cT1 t_law_11 from w_law_eq ..]
  refine law_11 hs fun δ h0 => ?_
  refine ⟨_, rfl, ?_⟩
  cases δ with
  | nil => cases h0
  | cons a δ =>
    cases h0
    rcases hs with rfl | rfl
    · exact ⟨_, rfl, rfl⟩
    · exact ⟨_, rfl, rfl⟩
end V01
set_option Elab.async false
set_option linter.all false
set_option maxRecDepth 100000
set_option maxHeartbeats 4000000
set_option autoImplicit false
namespace V01
open PySem PySem.Spec PyProof.Rows L2 DL
theorem law_fn {g : Gx} (g1 : Got g "is_number" s_is_number) (g2 : Got g "is_name" s_is_name) (g3 : Got g "is_way" s_is_way) (g4 : Got g "_law_feed" s_feed) (g5 : Got g "_law_draw" s_draw) (g6 : Got g "_law_bent" s_bent) (g7 : Got g "_law_text" s_text) (g8 : Got g "_law_thing" s_thing) (g9 : Got g "_law_due" s_due)
    (m_isinstance : g.mg "isinstance" = none) (m_bool : g.mg "bool" = none) (m_int : g.mg "int" = none) (m_str : g.mg "str" = none) (m_len : g.mg "len" = none) (m_all : g.mg "all" = none) (m_tuple : g.mg "tuple" = none) (m_list : g.mg "list" = none) (m_range : g.mg "range" = none) (m_ord : g.mg "ord" = none) (m_repr : g.mg "repr" = none)
    {f : Addr} {fd : FuncData} (Fn : Fun g.K "law" "law" s_law f fd) : FnG g CX0 12 f fd ["_law_script"] (spOf g.K 1 (fnW 1 8 (cT1 w_law))) := by
  have draw : ∀ k, Cal g CX0 (k + 1) "_law_draw" ["_law_feed_here", "_law_many"] C_draw := fun k => cal_draw m_len g5 draw_ok
  have due : ∀ n, Cal g CX0 n "_law_due" ["_law_thing_here"] (C_due n) := by
    intro n
    induction n with
    | zero => exact cal_void g9 (fun f fd F => bd_due F) fun ss Ex P ⟨⟨d, _, _, h⟩, _⟩ => absurd h (Nat.not_lt_zero _)
    | succ n ih => exact cal_due ct_mono ih m_isinstance m_tuple m_bool m_int m_ord m_len m_str g9 (due_ok n)
  have bent : ∀ n, Cal g CX0 (n + 1) "_law_bent" ["_law_feed_here", "_law_thing_here"] (C_bent n) := by
    intro n
    induction n with
    | zero => exact cal_void g6 (fun f fd F => bd_bent F) fun ss Ex P ⟨⟨_, d, _, _, h⟩, _⟩ => absurd h.dep (Nat.not_lt_zero _)
    | succ n ih => exact cal_bent ct_mono (draw n) ct_mono ih m_isinstance m_int m_str m_tuple m_list m_len g6 (bent_ok n)
  have text := cal_text (k := 1) ct_mono (draw 0) m_len m_range g7 text_ok
  have thing := cal_thing (k := 2) ct_mono (draw 1) ct_mono text m_range m_tuple g8 thing_ok
  have name := cal_is_name (k := 0) m_all m_len m_isinstance m_str g2 name_ok
  have way := cal_is_way (k := 1) ct_mono name m_all m_isinstance m_tuple g3 way_ok
  have number := cal_is_number (k := 0) m_isinstance m_bool m_int g1 number_ok
  have feed := cal_feed (k := 0) m_list g4 feed_ok
  exact df_law (k := 11) ct_mono (way.mono (by decide)) ct_mono (name.mono (by decide)) ct_mono (number.mono (by decide)) ct_mono ((due 10).mono (by decide)) ct_mono (bent 10) ct_mono (thing.mono (by decide)) ct_mono (draw 10) ct_mono (feed.mono (by decide)) m_repr m_range Fn
theorem all_mk {l : PySem.W.OpenLaw} {w : World} {K : PySem.W.Frag} {h : Heap} {mg : Str → Option Value} {fa : Addr} (X : K.In h) (G : h.Ns mainGlobals mg) (hfa : mg "law" = some (.ref fa))
    {f1 : Addr} {od1 an1 : Option Addr} {sl1 : Array (Option Value)} {oc1 kV1 dc1 pm1 cd1 ct1 : Value} (a1 : PySem.W.nsIn K mainGlobals "is_number" = some (some (.ref f1)))
    (l1 : K.lookup f1 = some ⟨oc1, od1, .func (PySem.W.fnOf "is_number" "is_number" (defArgs s_is_number) (defBody s_is_number) (defScope s_is_number) .none kV1 dc1 pm1 an1 cd1 ct1), sl1⟩) (c1 : PySem.W.codeIn K cd1 "is_number" = true) (k1 : PySem.W.keepIn K (.ref f1) = true)
    {f2 : Addr} {od2 an2 : Option Addr} {sl2 : Array (Option Value)} {oc2 kV2 dc2 pm2 cd2 ct2 : Value} (a2 : PySem.W.nsIn K mainGlobals "is_name" = some (some (.ref f2)))
    (l2 : K.lookup f2 = some ⟨oc2, od2, .func (PySem.W.fnOf "is_name" "is_name" (defArgs s_is_name) (defBody s_is_name) (defScope s_is_name) .none kV2 dc2 pm2 an2 cd2 ct2), sl2⟩) (c2 : PySem.W.codeIn K cd2 "is_name" = true) (k2 : PySem.W.keepIn K (.ref f2) = true)
    {f3 : Addr} {od3 an3 : Option Addr} {sl3 : Array (Option Value)} {oc3 kV3 dc3 pm3 cd3 ct3 : Value} (a3 : PySem.W.nsIn K mainGlobals "is_way" = some (some (.ref f3)))
    (l3 : K.lookup f3 = some ⟨oc3, od3, .func (PySem.W.fnOf "is_way" "is_way" (defArgs s_is_way) (defBody s_is_way) (defScope s_is_way) .none kV3 dc3 pm3 an3 cd3 ct3), sl3⟩) (c3 : PySem.W.codeIn K cd3 "is_way" = true) (k3 : PySem.W.keepIn K (.ref f3) = true)
    {f4 : Addr} {od4 an4 : Option Addr} {sl4 : Array (Option Value)} {oc4 kV4 dc4 pm4 cd4 ct4 : Value} (a4 : PySem.W.nsIn K mainGlobals "_law_feed" = some (some (.ref f4)))
    (l4 : K.lookup f4 = some ⟨oc4, od4, .func (PySem.W.fnOf "_law_feed" "_law_feed" (defArgs s_feed) (defBody s_feed) (defScope s_feed) .none kV4 dc4 pm4 an4 cd4 ct4), sl4⟩) (c4 : PySem.W.codeIn K cd4 "_law_feed" = true) (k4 : PySem.W.keepIn K (.ref f4) = true)
    {f5 : Addr} {od5 an5 : Option Addr} {sl5 : Array (Option Value)} {oc5 kV5 dc5 pm5 cd5 ct5 : Value} (a5 : PySem.W.nsIn K mainGlobals "_law_draw" = some (some (.ref f5)))
    (l5 : K.lookup f5 = some ⟨oc5, od5, .func (PySem.W.fnOf "_law_draw" "_law_draw" (defArgs s_draw) (defBody s_draw) (defScope s_draw) .none kV5 dc5 pm5 an5 cd5 ct5), sl5⟩) (c5 : PySem.W.codeIn K cd5 "_law_draw" = true) (k5 : PySem.W.keepIn K (.ref f5) = true)
    {f6 : Addr} {od6 an6 : Option Addr} {sl6 : Array (Option Value)} {oc6 kV6 dc6 pm6 cd6 ct6 : Value} (a6 : PySem.W.nsIn K mainGlobals "_law_bent" = some (some (.ref f6)))
    (l6 : K.lookup f6 = some ⟨oc6, od6, .func (PySem.W.fnOf "_law_bent" "_law_bent" (defArgs s_bent) (defBody s_bent) (defScope s_bent) .none kV6 dc6 pm6 an6 cd6 ct6), sl6⟩) (c6 : PySem.W.codeIn K cd6 "_law_bent" = true) (k6 : PySem.W.keepIn K (.ref f6) = true)
    {f7 : Addr} {od7 an7 : Option Addr} {sl7 : Array (Option Value)} {oc7 kV7 dc7 pm7 cd7 ct7 : Value} (a7 : PySem.W.nsIn K mainGlobals "_law_text" = some (some (.ref f7)))
    (l7 : K.lookup f7 = some ⟨oc7, od7, .func (PySem.W.fnOf "_law_text" "_law_text" (defArgs s_text) (defBody s_text) (defScope s_text) .none kV7 dc7 pm7 an7 cd7 ct7), sl7⟩) (c7 : PySem.W.codeIn K cd7 "_law_text" = true) (k7 : PySem.W.keepIn K (.ref f7) = true)
    {f8 : Addr} {od8 an8 : Option Addr} {sl8 : Array (Option Value)} {oc8 kV8 dc8 pm8 cd8 ct8 : Value} (a8 : PySem.W.nsIn K mainGlobals "_law_thing" = some (some (.ref f8)))
    (l8 : K.lookup f8 = some ⟨oc8, od8, .func (PySem.W.fnOf "_law_thing" "_law_thing" (defArgs s_thing) (defBody s_thing) (defScope s_thing) .none kV8 dc8 pm8 an8 cd8 ct8), sl8⟩) (c8 : PySem.W.codeIn K cd8 "_law_thing" = true) (k8 : PySem.W.keepIn K (.ref f8) = true)
    {f9 : Addr} {od9 an9 : Option Addr} {sl9 : Array (Option Value)} {oc9 kV9 dc9 pm9 cd9 ct9 : Value} (a9 : PySem.W.nsIn K mainGlobals "_law_due" = some (some (.ref f9)))
    (l9 : K.lookup f9 = some ⟨oc9, od9, .func (PySem.W.fnOf "_law_due" "_law_due" (defArgs s_due) (defBody s_due) (defScope s_due) .none kV9 dc9 pm9 an9 cd9 ct9), sl9⟩) (c9 : PySem.W.codeIn K cd9 "_law_due" = true) (k9 : PySem.W.keepIn K (.ref f9) = true)
    {f10 : Addr} {od10 an10 : Option Addr} {sl10 : Array (Option Value)} {oc10 kV10 dc10 pm10 cd10 ct10 : Value} (a10 : PySem.W.nsIn K mainGlobals "law" = some (some (.ref f10)))
    (l10 : K.lookup f10 = some ⟨oc10, od10, .func (PySem.W.fnOf "law" "law" (defArgs s_law) (defBody s_law) (defScope s_law) .none kV10 dc10 pm10 an10 cd10 ct10), sl10⟩) (c10 : PySem.W.codeIn K cd10 "law" = true) (k10 : PySem.W.keepIn K (.ref f10) = true)
    (z1 : PySem.W.nsIn K mainGlobals "isinstance" = some none) (z2 : PySem.W.nsIn K mainGlobals "bool" = some none) (z3 : PySem.W.nsIn K mainGlobals "int" = some none) (z4 : PySem.W.nsIn K mainGlobals "str" = some none) (z5 : PySem.W.nsIn K mainGlobals "len" = some none) (z6 : PySem.W.nsIn K mainGlobals "all" = some none) (z7 : PySem.W.nsIn K mainGlobals "tuple" = some none) (z8 : PySem.W.nsIn K mainGlobals "list" = some none) (z9 : PySem.W.nsIn K mainGlobals "range" = some none) (z10 : PySem.W.nsIn K mainGlobals "ord" = some none) (z11 : PySem.W.nsIn K mainGlobals "repr" = some none) :
    ∃ fd : FuncData, (∀ (s : Shared) (u : Value), BindsTo s fd ⟨[u], []⟩ [("_law_script", u)]) ∧ ∀ base : Heap, K.In base → base.Ns mainGlobals mg → FnG ⟨l.prog, w, K, mg, base⟩ CX0 12 fa fd ["_law_script"] (spOf K 1 (fnW 1 8 (cT1 w_law))) := by
  have e := hfa.symm.trans (PySem.W.mg_of X G a10)
  cases e
  have F := fun_mk (st := s_law) l10 c10 k10
  refine ⟨_, fun s v => .of_eq rfl, fun base _ _ => law_fn (got_mk X G a1 l1 c1 k1) (got_mk X G a2 l2 c2 k2) (got_mk X G a3 l3 c3 k3) (got_mk X G a4 l4 c4 k4) (got_mk X G a5 l5 c5 k5) (got_mk X G a6 l6 c6 k6) (got_mk X G a7 l7 c7 k7) (got_mk X G a8 l8 c8 k8) (got_mk X G a9 l9 c9 k9) (PySem.W.mg_none_of X G z1) (PySem.W.mg_none_of X G z2) (PySem.W.mg_none_of X G z3) (PySem.W.mg_none_of X G z4) (PySem.W.mg_none_of X G z5) (PySem.W.mg_none_of X G z6) (PySem.W.mg_none_of X G z7) (PySem.W.mg_none_of X G z8) (PySem.W.mg_none_of X G z9) (PySem.W.mg_none_of X G z10) (PySem.W.mg_none_of X G z11) F⟩
theorem walk {l : PySem.W.OpenLaw} {q : Program} {loose : List Str} {XP : (Str → Option Value) → Heap → Prop} {YP : World → Heap → Prop} {d : DefRec} {K : Params → PySem.W.Frag} (hn : l.most = some 63) (hdf : d.params.defaults = [])
    (hY : ∀ (w : World) (h : Heap), YP w h → (K w.params).In h)
    (F : ∀ (w : World) (mg : Str → Option Value) (fa : Addr) (h : Heap), (K w.params).In h → h.Ns mainGlobals mg → mg d.name = some (.ref fa) →
      ∃ fd : FuncData, (∀ (s : Shared) (u : Value), BindsTo s fd ⟨[u], []⟩ [("_law_script", u)]) ∧ ∀ base : Heap, (K w.params).In base → base.Ns mainGlobals mg → FnG ⟨l.prog, w, K w.params, mg, base⟩ CX0 12 fa fd ["_law_script"] (spOf (K w.params) 1 (fnW 1 8 (cT1 w_law)))) :
    PySem.W.WalkO q loose XP YP l.row.toRowW d [] (fun f vs => PySem.call f vs) :=
  law_walk (n := 63) (k := 12) (x := "_law_script") (CX := CX0) hn (by decide) hdf ⟨rfl, by decide, by decide⟩ cx0_ok hY F fun ns s _ hs => law_ok ns s hs
end V01
open PySem PySem.W PyProof.Rows
set_option maxRecDepth 100000 in
set_option maxHeartbeats 0 in
theorem PySem.Challenge.cw_drawerways_k01_kinds_holds : PySem.Challenge.rw_drawerways_k01_kinds.Holds := by
  w_on; o_law; k_head; (case hw => w_witness2)
  k_fill
  refine V01.walk (l := PySem.Challenge.rw_drawerways_k01_kinds) rfl rfl (fun w h Y => PySem.W.kIn_of Y) ?F
  case F =>
    intro w mg fa h KX G hmg
    refine' V01.all_mk KX G hmg ?a1 ?l1 ?c1 ?k1 ?a2 ?l2 ?c2 ?k2 ?a3 ?l3 ?c3 ?k3 ?a4 ?l4 ?c4 ?k4 ?a5 ?l5 ?c5 ?k5 ?a6 ?l6 ?c6 ?k6 ?a7 ?l7 ?c7 ?k7 ?a8 ?l8 ?c8 ?k8 ?a9 ?l9 ?c9 ?k9 ?a10 ?l10 ?c10 ?k10 ?z1 ?z2 ?z3 ?z4 ?z5 ?z6 ?z7 ?z8 ?z9 ?z10 ?z11
    (case a1 => k_is); (case l1 => k_is); (case c1 => k_is); (case k1 => k_is)
    (case a2 => k_is); (case l2 => k_is); (case c2 => k_is); (case k2 => k_is)
    (case a3 => k_is); (case l3 => k_is); (case c3 => k_is); (case k3 => k_is)
    (case a4 => k_is); (case l4 => k_is); (case c4 => k_is); (case k4 => k_is)
    (case a5 => k_is); (case l5 => k_is); (case c5 => k_is); (case k5 => k_is)
    (case a6 => k_is); (case l6 => k_is); (case c6 => k_is); (case k6 => k_is)
    (case a7 => k_is); (case l7 => k_is); (case c7 => k_is); (case k7 => k_is)
    (case a8 => k_is); (case l8 => k_is); (case c8 => k_is); (case k8 => k_is)
    (case a9 => k_is); (case l9 => k_is); (case c9 => k_is); (case k9 => k_is)
    (case a10 => k_is); (case l10 => k_is); (case c10 => k_is); (case k10 => k_is)
    (case z1 => k_is)
    (case z2 => k_is)
    (case z3 => k_is)
    (case z4 => k_is)
    (case z5 => k_is)
    (case z6 => k_is)
    (case z7 => k_is)
    (case z8 => k_is)
    (case z9 => k_is)
    (case z10 => k_is)
    (case z11 => k_is)
#print axioms PySem.Challenge.cw_drawerways_k01_kinds_holds
