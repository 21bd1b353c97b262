import PyProof.Rows.All
import HandS.ForMost
import HandS.ForExc
import HandS.TupAny
import HandS.IsInst
import HandS.Wide
import PyProof.ReprReads
import PyProof.ReprRoads
import PyProof.Rows.IntBool
import HandS.TupMul
import HandS.Text
import HandS.RaiseMore
import HandS.Codes
import HandS.Small
import HandS.Deep
import HandS.Style
import KE.KRevSl
import HandS.More
import HandS.Iter
import HandS.StrMore
import HandS.DictComp
import HandS.SetFor
import HandS.Strs
import HandS.Sort
import KE.KDictList
import HandS.Conv
import HandS.NoneIn
import HandS.TupSets
import KE.KDictPairs
import KE.DataCmp
import KE.DataMinMax
import PyProof.Rows.CallKwBuiltin
import HandS.SortInts
import HandS.Defaults
import HandS.ExcInit
import HandS.Lambda
import HandS.ExcField
import KE.KExcIs
import HandS.EndTab
import KE.GoesEnum
import PySem.Challenge.RW_drawerways_k41_whole_ring_or_ranks
import KE.KEqSeq
set_option Elab.async false
set_option linter.all false
set_option maxRecDepth 100000
set_option maxHeartbeats 4000000
set_option autoImplicit false
/-! A layer of plain data over the hand layer: what a slot holds is data, or a list or dict of its own. -/
namespace DL
open PySem PySem.Spec PyProof.Rows L2

/-! ### data in a heap -/
/-- a plain tuple: its object has no __dict__ -/
def PlT (B : Hp) (a : Addr) (xs : List V) : Prop := ∃ o : Obj, B a = some (.frz o (.tup xs)) ∧ o.cls = .type "tuple" ∧ o.dict = none
mutual
inductive DD (B : Hp) : V → PyData → Prop
  | non : DD B .non .none
  | bl (b : Bool) : DD B (.bl b) (.bool b)
  | int (i : Int) : DD B (.int i) (.int i)
  | str (x : Str) : DD B (.str x) (.str x)
  | lst {a : Addr} {xs : List V} {ds : List PyData} : Rd B a (.lst xs) → DDs B xs ds → DD B (.ref a) (.list ds)
  | tup {a : Addr} {xs : List V} {ds : List PyData} : PlT B a xs → DDs B xs ds → DD B (.ref a) (.tuple ds)
inductive DDs (B : Hp) : List V → List PyData → Prop
  | nil : DDs B [] []
  | cons {v : V} {vs : List V} {d : PyData} {ds : List PyData} : DD B v d → DDs B vs ds → DDs B (v :: vs) (d :: ds)
end
theorem same_rd {B B' : Hp} (h : Same B B') {a : Addr} {u : HO} (r : Rd B a u) : Rd B' a u := by
  rcases r with r | ⟨o, r⟩
  · exact .inl (h _ _ r)
  · exact .inr ⟨o, h _ _ r⟩
theorem PlT.mono {B B' : Hp} (h : Same B B') {a : Addr} {xs : List V} (r : PlT B a xs) : PlT B' a xs := by
  obtain ⟨o, e, r⟩ := r
  exact ⟨o, h _ _ e, r⟩
theorem PlT.rd {B : Hp} {a : Addr} {xs : List V} (r : PlT B a xs) : Rd B a (.tup xs) := by
  obtain ⟨o, e, _⟩ := r
  exact .inr ⟨o, e⟩
mutual
theorem DD.mono {B B' : Hp} (h : Same B B') : ∀ {v : V} {d : PyData}, DD B v d → DD B' v d
  | _, _, .non => .non
  | _, _, .bl b => .bl b
  | _, _, .int i => .int i
  | _, _, .str x => .str x
  | _, _, .lst r q => .lst (same_rd h r) (DDs.mono h q)
  | _, _, .tup r q => .tup (r.mono h) (DDs.mono h q)
theorem DDs.mono {B B' : Hp} (h : Same B B') : ∀ {vs : List V} {ds : List PyData}, DDs B vs ds → DDs B' vs ds
  | _, _, .nil => .nil
  | _, _, .cons q r => .cons (DD.mono h q) (DDs.mono h r)
end
theorem DDs.length {B : Hp} : ∀ {vs : List V} {ds : List PyData}, DDs B vs ds → vs.length = ds.length
  | _, _, .nil => rfl
  | _, _, .cons _ r => congrArg (· + 1) (DDs.length r)
theorem DDs.get {B : Hp} : ∀ {vs : List V} {ds : List PyData} {i : Nat} {d : PyData}, DDs B vs ds → ds[i]? = some d → ∃ v, vs[i]? = some v ∧ DD B v d
  | _, _, _, _, .nil, e => by simp at e
  | _, _, 0, _, .cons q _, e => by simp at e; subst e; exact ⟨_, rfl, q⟩
  | _, _, i + 1, _, .cons _ r, e => by
    obtain ⟨v, e1, q⟩ := DDs.get (i := i) r (by simpa using e)
    exact ⟨v, by simpa using e1, q⟩
theorem DDs.getV {B : Hp} : ∀ {vs : List V} {ds : List PyData} {i : Nat} {v : V}, DDs B vs ds → vs[i]? = some v → ∃ d, ds[i]? = some d ∧ DD B v d
  | _, _, _, _, .nil, e => by simp at e
  | _, _, 0, _, .cons q _, e => by simp at e; subst e; exact ⟨_, rfl, q⟩
  | _, _, i + 1, _, .cons _ r, e => by
    obtain ⟨v, e1, q⟩ := DDs.getV (i := i) r (by simpa using e)
    exact ⟨v, by simpa using e1, q⟩
theorem DDs.append {B : Hp} : ∀ {vs ws : List V} {ds es : List PyData}, DDs B vs ds → DDs B ws es → DDs B (vs ++ ws) (ds ++ es)
  | _, _, _, _, .nil, s => s
  | _, _, _, _, .cons q r, s => .cons q (DDs.append r s)
theorem DDs.take {B : Hp} : ∀ {vs : List V} {ds : List PyData} (n : Nat), DDs B vs ds → DDs B (vs.take n) (ds.take n)
  | _, _, 0, _ => .nil
  | _, _, _ + 1, .nil => .nil
  | _, _, n + 1, .cons q r => .cons q (DDs.take n r)
theorem DDs.drop {B : Hp} : ∀ {vs : List V} {ds : List PyData} (n : Nat), DDs B vs ds → DDs B (vs.drop n) (ds.drop n)
  | _, _, 0, r => r
  | _, _, _ + 1, .nil => .nil
  | _, _, n + 1, .cons _ r => DDs.drop n r
theorem DDs.snoc {B : Hp} {vs : List V} {ds : List PyData} {v : V} {d : PyData} (h : DDs B vs ds) (q : DD B v d) : DDs B (vs ++ [v]) (ds ++ [d]) := h.append (.cons q .nil)
theorem DDs.reverse {B : Hp} : ∀ {vs : List V} {ds : List PyData}, DDs B vs ds → DDs B vs.reverse ds.reverse
  | _, _, .nil => .nil
  | _, _, .cons q r => by rw [List.reverse_cons, List.reverse_cons]; exact (DDs.reverse r).snoc q
theorem DDs.set {B : Hp} {v : V} {d : PyData} (q : DD B v d) : ∀ {vs : List V} {ds : List PyData} (i : Nat), DDs B vs ds → DDs B (vs.set i v) (ds.set i d)
  | _, _, _, .nil => .nil
  | _, _, 0, .cons _ r => .cons q r
  | _, _, i + 1, .cons p r => .cons p (DDs.set q i r)
theorem DDs.dropLast {B : Hp} {vs : List V} {ds : List PyData} (h : DDs B vs ds) : DDs B vs.dropLast ds.dropLast := by
  rw [List.dropLast_eq_take, List.dropLast_eq_take, h.length]; exact h.take _
theorem DDs.nil_iff {B : Hp} {vs : List V} {ds : List PyData} (h : DDs B vs ds) : vs = [] ↔ ds = [] := by
  cases h <;> simp
theorem DDs.ints {B : Hp} : ∀ {vs : List V} {ns : List Int}, DDs B vs (ns.map .int) → vs = ns.map V.int
  | _, [], h => by cases h; rfl
  | _, n :: ns, h => by
    cases h with
    | cons q r => cases q; rw [DDs.ints r]; rfl
theorem DDs.strs {B : Hp} : ∀ {vs : List V} {ns : List Str}, DDs B vs (ns.map .str) → vs = ns.map V.str
  | _, [], h => by cases h; rfl
  | _, n :: ns, h => by
    cases h with
    | cons q r => cases q; rw [DDs.strs r]; rfl
theorem DDs.of_ints {B : Hp} : ∀ (ns : List Int), DDs B (ns.map V.int) (ns.map .int)
  | [] => .nil
  | n :: ns => .cons (.int n) (DDs.of_ints ns)
theorem DDs.of_strs {B : Hp} : ∀ (ns : List Str), DDs B (ns.map V.str) (ns.map .str)
  | [] => .nil
  | n :: ns => .cons (.str n) (DDs.of_strs ns)
/-- written data (constants of the module) -/
def DW (K : PySem.W.Frag) (v : V) (d : PyData) : Prop := Dp K (fun _ => none) v d
mutual
theorem dp_mono {K : PySem.W.Frag} {H H' : Hp} (h : Same H H') : ∀ {v : V} {d : PyData}, Dp K H v d → Dp K H' v d
  | _, _, .non => .non
  | _, _, .bl b => .bl b
  | _, _, .int i => .int i
  | _, _, .str x => .str x
  | _, _, .lst r q => .lst (h.seq r) (dps_mono h q)
  | _, _, .tup r q => .tup (by
      rcases r with r | r
      · exact .inl (same_rd h r)
      · exact .inr r) (dps_mono h q)
theorem dps_mono {K : PySem.W.Frag} {H H' : Hp} (h : Same H H') : ∀ {v : List V} {d : List PyData}, DpAll K H v d → DpAll K H' v d
  | _, _, .nil => .nil
  | _, _, .cons q r => .cons (dp_mono h q) (dps_mono h r)
end
mutual
theorem DD.dp {K : PySem.W.Frag} {B : Hp} : ∀ {v : V} {d : PyData}, DD B v d → Dp K B v d
  | _, _, .non => .non
  | _, _, .bl b => .bl b
  | _, _, .int i => .int i
  | _, _, .str x => .str x
  | _, _, .lst r q => .lst (.inl r) (DDs.dp q)
  | _, _, .tup r q => .tup (.inl r.rd) (DDs.dp q)
theorem DDs.dp {K : PySem.W.Frag} {B : Hp} : ∀ {vs : List V} {ds : List PyData}, DDs B vs ds → DpAll K B vs ds
  | _, _, .nil => .nil
  | _, _, .cons q r => .cons (DD.dp q) (DDs.dp r)
end

/-! ### what a slot holds -/
/-- a part of a tuple that is told: data, or an own list or dict -/
inductive Pt where
  | d (d : PyData)
  | l (ds : List PyData)
  | k (kvs : List (Key × PyData))
  | p (ds : List PyData)
inductive Cont where
  | l (ds : List PyData)
  | k (kvs : List (Key × PyData))
  | t (kvs : List (List Key × PyData))
  | kk (kvs : List (Key × List (Key × PyData)))
  | ll (dss : List (List PyData))
  | tp (ps : List Pt)
  | pt (ds : List PyData)
  | fk (d : Addr) (kvs : List (Key × PyData))
def Cont.simple : Cont → Bool
  | .l _ => true
  | .k _ => true
  | .t _ => true
  | _ => false
def Pt.own : Pt → Bool
  | .d _ => false
  | .p _ => false
  | _ => true
def KDs {κ : Type} (B : Hp) : List (κ × V) → List (κ × PyData) → Prop := Paired fun (p : κ × V) (q : κ × PyData) => p.1 = q.1 ∧ DD B p.2 q.2
/-- the objects that belong to one -/
def Foot (H : Hp) (a : Addr) : Cont → Addr → Prop
  | .l _, p => p = a
  | .k _, p => p = a
  | .t _, p => p = a
  | .kk _, p => p = a ∨ ∃ ys, H a = some (.dK ys) ∧ ∃ (i : Nat) (k : Key), ys[i]? = some (k, V.ref p)
  | .pt _, _ => False
  | .ll _, p => p = a ∨ ∃ xs, H a = some (.lst xs) ∧ ∃ i : Nat, xs[i]? = some (V.ref p)
  | .fk _ _, _ => False
  | .tp ps, p => p = a ∨ ∃ xs, H a = some (.tup xs) ∧ ∃ (i : Nat) (q : Pt), ps[i]? = some q ∧ q.own = true ∧ xs[i]? = some (V.ref p)
def InK (B H : Hp) (a : Addr) (v : V) (kvs : List (Key × PyData)) : Prop := ∃ b zs, v = .ref b ∧ b ≠ a ∧ H b = some (.dK zs) ∧ KDs B zs kvs
def InL (B H : Hp) (a : Addr) (v : V) (ds : List PyData) : Prop := ∃ b zs, v = .ref b ∧ b ≠ a ∧ H b = some (.lst zs) ∧ DDs B zs ds
def InP (B : Hp) (v : V) (ds : List PyData) : Prop := ∃ b o zs, v = .ref b ∧ B b = some (.frz o (.tup zs)) ∧ o.cls = .type "tuple" ∧ o.dict = none ∧ DDs B zs ds
def PtOk (B H : Hp) (a : Addr) (v : V) : Pt → Prop
  | .d d => DD B v d
  | .l ds => InL B H a v ds
  | .k kvs => InK B H a v kvs
  | .p ds => InP B v ds
def ContOk (B H : Hp) (a : Addr) : Cont → Prop
  | .l ds => ∃ xs, H a = some (.lst xs) ∧ DDs B xs ds
  | .k kvs => ∃ ys, H a = some (.dK ys) ∧ KDs B ys kvs
  | .t kvs => ∃ ys, H a = some (.dT ys) ∧ KDs B ys kvs
  | .kk kvs => ∃ ys, H a = some (.dK ys) ∧ Paired (fun (p : Key × V) (q : Key × List (Key × PyData)) => p.1 = q.1 ∧ InK B H a p.2 q.2) ys kvs ∧ ∀ (i j : Nat) (k k' : Key) (b : Addr), ys[i]? = some (k, .ref b) → ys[j]? = some (k', .ref b) → i = j
  | .ll dss => ∃ xs, H a = some (.lst xs) ∧ Paired (InL B H a) xs dss ∧ ∀ (i j : Nat) (b : Addr), xs[i]? = some (.ref b) → xs[j]? = some (.ref b) → i = j
  | .pt ds => ∃ o xs, B a = some (.frz o (.tup xs)) ∧ o.cls = .type "tuple" ∧ o.dict = none ∧ DDs B xs ds
  | .fk d kvs => a = d ∧ ∃ o ys, B a = some (.frz o (.dK ys)) ∧ KDs B ys kvs
  | .tp ps => ∃ xs, H a = some (.tup xs) ∧ Paired (PtOk B H a) xs ps ∧ ∀ (i j : Nat) (b : Addr) (p q : Pt), ps[i]? = some p → ps[j]? = some q → p.own = true → q.own = true → xs[i]? = some (.ref b) → xs[j]? = some (.ref b) → i = j
def Cont.real : Cont → Bool
  | .fk _ _ => false
  | .pt _ => false
  | _ => true
theorem real_of {c : Cont} (h : c.simple = true) : c.real = true := by cases c <;> first | rfl | cases h
theorem foot_self {H : Hp} {a : Addr} {c : Cont} (r : c.real = true := by rfl) : Foot H a c a := by
  cases c with
  | fk _ _ => cases r
  | l _ => rfl
  | k _ => rfl
  | t _ => rfl
  | pt _ => cases r
  | kk _ => exact .inl rfl
  | ll _ => exact .inl rfl
  | tp _ => exact .inl rfl
theorem foot_one {H : Hp} {a p : Addr} {c : Cont} (s : c.simple = true) (h : Foot H a c p) : p = a := by
  cases c with
  | l _ => exact h
  | k _ => exact h
  | t _ => exact h
  | pt _ => cases s
  | kk _ => cases s
  | ll _ => cases s
  | tp _ => cases s
  | fk _ _ => cases s
theorem foot_eq0 {H H' : Hp} {a p : Addr} {c : Cont} (e : H' a = H a) : Foot H' a c p ↔ Foot H a c p := by
  cases c <;> (unfold Foot; first | exact Iff.rfl | rw [e])
theorem foot_eq {H H' : Hp} {a : Addr} {c : Cont} (e : ∀ p, Foot H a c p → H' p = H p) {p : Addr} : Foot H' a c p ↔ Foot H a c p := by
  by_cases r : c.real = true
  · exact foot_eq0 (e a (foot_self r))
  · cases c with
    | fk _ _ => exact Iff.rfl
    | pt _ => exact Iff.rfl
    | _ => exact absurd rfl r
theorem sqt_of {K : PySem.W.Frag} {B H : Hp} {a : Addr} {xs : List V} (s : Same B H) (r : Rd B a (.tup xs)) : SqT K H a xs := .inl (same_rd s r)
theorem KDs.mono {κ : Type} {B B' : Hp} (h : Same B B') {ys : List (κ × V)} {kvs : List (κ × PyData)} (q : KDs B ys kvs) : KDs B' ys kvs :=
  Paired.mapP q fun _ _ z => ⟨z.1, z.2.mono h⟩
theorem paired_at {α β : Type} {G : α → β → Prop} {xs : List α} {ys : List β} (h : Paired G xs ys) : ∀ {i : Nat} {x : α}, xs[i]? = some x → ∃ y, ys[i]? = some y ∧ G x y := by
  induction h with
  | nil => intro i x e; simp at e
  | cons q r ih =>
    intro i x e
    cases i with
    | zero => simp at e; subst e; exact ⟨_, rfl, q⟩
    | succ i => obtain ⟨y, e1, q1⟩ := ih (i := i) (by simpa using e); exact ⟨y, by simpa using e1, q1⟩
theorem paired_mono {α β : Type} {G G' : α → β → Prop} {xs : List α} {ys : List β} (h : Paired G xs ys) : (∀ (i : Nat) (x : α) (y : β), xs[i]? = some x → ys[i]? = some y → G x y → G' x y) → Paired G' xs ys := by
  induction h with
  | nil => intro _; exact .nil
  | cons q r ih => intro f; exact .cons (f 0 _ _ rfl rfl q) (ih fun i x y e1 e2 => f (i + 1) x y (by simpa using e1) (by simpa using e2))
theorem InK.mono {B B' H H' : Hp} {a : Addr} {v : V} {kvs : List (Key × PyData)} (s : Same B B') (e : ∀ b, v = .ref b → H' b = H b) (h : InK B H a v kvs) : InK B' H' a v kvs := by
  obtain ⟨b, zs, rfl, n, q, r⟩ := h
  exact ⟨b, zs, rfl, n, by rw [e b rfl]; exact q, r.mono s⟩
theorem InL.mono {B B' H H' : Hp} {a : Addr} {v : V} {ds : List PyData} (s : Same B B') (e : ∀ b, v = .ref b → H' b = H b) (h : InL B H a v ds) : InL B' H' a v ds := by
  obtain ⟨b, zs, rfl, n, q, r⟩ := h
  exact ⟨b, zs, rfl, n, by rw [e b rfl]; exact q, r.mono s⟩
theorem InP.mono {B B' : Hp} {v : V} {ds : List PyData} (s : Same B B') (h : InP B v ds) : InP B' v ds := by
  obtain ⟨b, o, zs, rfl, q, ec, ed, r⟩ := h
  exact ⟨b, o, zs, rfl, s _ _ q, ec, ed, r.mono s⟩
theorem ContOk.mono {B B' H H' : Hp} {a : Addr} {c : Cont} (hB : Same B B') (hH : ∀ p, Foot H a c p → H' p = H p) (q : ContOk B H a c) : ContOk B' H' a c := by
  have h0 : c.real = true → H' a = H a := fun r => hH a (foot_self r)
  cases c with
  | fk d kvs => obtain ⟨ed, o, xs, e, r⟩ := q; exact ⟨ed, o, xs, hB _ _ e, r.mono hB⟩
  | l ds => obtain ⟨xs, e, r⟩ := q; exact ⟨xs, by rw [h0 rfl]; exact e, r.mono hB⟩
  | k kvs => obtain ⟨xs, e, r⟩ := q; exact ⟨xs, by rw [h0 rfl]; exact e, r.mono hB⟩
  | t kvs => obtain ⟨xs, e, r⟩ := q; exact ⟨xs, by rw [h0 rfl]; exact e, r.mono hB⟩
  | pt ds => obtain ⟨o, xs, e, ec, ed, r⟩ := q; exact ⟨o, xs, hB _ _ e, ec, ed, r.mono hB⟩
  | kk kvs =>
    obtain ⟨ys, e, r, d⟩ := q
    refine ⟨ys, by rw [h0 rfl]; exact e, paired_mono r fun i x y e1 _ z => ⟨z.1, z.2.mono hB fun b eb => hH b (.inr ⟨ys, e, i, x.1, ?_⟩)⟩, d⟩
    rw [e1, ← eb]
  | ll dss =>
    obtain ⟨xs, e, r, d⟩ := q
    refine ⟨xs, by rw [h0 rfl]; exact e, paired_mono r fun i x y e1 _ z => z.mono hB fun b eb => hH b (.inr ⟨xs, e, i, ?_⟩), d⟩
    rw [e1, ← eb]
  | tp ps =>
    obtain ⟨xs, e, r, d⟩ := q
    refine ⟨xs, by rw [h0 rfl]; exact e, paired_mono r fun i x y e1 e2 z => ?_, d⟩
    cases y with
    | d _ => exact DD.mono hB z
    | l _ => exact InL.mono hB (fun b eb => hH b (.inr ⟨xs, e, i, _, e2, rfl, by rw [e1, ← eb]⟩)) z
    | k _ => exact InK.mono hB (fun b eb => hH b (.inr ⟨xs, e, i, _, e2, rfl, by rw [e1, ← eb]⟩)) z
    | p _ => exact InP.mono hB z
theorem ContOk.there {B H : Hp} {a p : Addr} {c : Cont} (q : ContOk B H a c) (f : Foot H a c p) : ∃ o, H p = some o := by
  cases c with
  | fk _ _ => exact f.elim
  | l ds => cases f; obtain ⟨xs, e, _⟩ := q; exact ⟨_, e⟩
  | k kvs => cases f; obtain ⟨xs, e, _⟩ := q; exact ⟨_, e⟩
  | t kvs => cases f; obtain ⟨xs, e, _⟩ := q; exact ⟨_, e⟩
  | pt ds => exact f.elim
  | kk kvs =>
    obtain ⟨ys, e, r, _⟩ := q
    rcases f with rfl | ⟨ys', e', i, k, f⟩
    · exact ⟨_, e⟩
    · rw [e] at e'; cases e'
      obtain ⟨y, _, _, b, zs, eb, _, q, _⟩ := paired_at r f
      cases eb; exact ⟨_, q⟩
  | ll dss =>
    obtain ⟨xs, e, r, _⟩ := q
    rcases f with rfl | ⟨xs', e', i, f⟩
    · exact ⟨_, e⟩
    · rw [e] at e'; cases e'
      obtain ⟨y, _, b, zs, eb, _, q, _⟩ := paired_at r f
      cases eb; exact ⟨_, q⟩
  | tp ps =>
    obtain ⟨xs, e, r, _⟩ := q
    rcases f with rfl | ⟨xs', e', i, y, e1, eo, f⟩
    · exact ⟨_, e⟩
    · rw [e] at e'; cases e'
      obtain ⟨y', e2, q⟩ := paired_at r f
      rw [e1] at e2; cases e2
      cases y with
      | d _ => cases eo
      | l _ => obtain ⟨b, zs, eb, _, q, _⟩ := q; cases eb; exact ⟨_, q⟩
      | k _ => obtain ⟨b, zs, eb, _, q, _⟩ := q; cases eb; exact ⟨_, q⟩
      | p _ => cases eo

inductive Sl where
  | d (d : PyData)
  | w (d : PyData)
  | o (b : Bool) (c : Cont)
abbrev SEnv := List (Option Sl)
inductive R where
  | d (d : PyData)
  | w (d : PyData)
  | o (i : Nat)
  | n (c : Cont)

def SlOk (K : PySem.W.Frag) (F B H : Hp) (v : V) : Sl → Prop
  | .d d => DD B v d
  | .w d => DW K v d
  | .o _ c => ∃ a, v = .ref a ∧ (∀ p, Foot H a c p → B p = none ∧ F p = none) ∧ ContOk B H a c

structure Rep (K : PySem.W.Frag) (F B H : Hp) (vs : List V) (σ : L2.St) (δ : SEnv) : Prop where
  sb : Same B H
  sf : Same F H
  dj : ∀ a o, F a = some o → B a = none
  len : σ.length = δ.length
  ok : ∀ (i : Nat) (s : Sl), δ[i]? = some (some s) → ∃ v, σ[i]? = some (some v) ∧ SlOk K F B H v s
  apart : ∀ (i j : Nat) (a a' p : Addr) (b : Bool) (c : Cont) (b' : Bool) (c' : Cont), δ[i]? = some (some (.o b c)) → δ[j]? = some (some (.o b' c')) → σ[i]? = some (some (.ref a)) → σ[j]? = some (some (.ref a')) → Foot H a c p → Foot H a' c' p → i = j
  bor : ∀ (i : Nat) (c : Cont), δ[i]? = some (some (.o true c)) → ∃ v, σ[i]? = some (some v) ∧ vs[i]? = some v
  nt : ∀ (a : Addr) (ps : Array Value), B a ≠ some (.tbl ps)

/-- the slots' own objects are none of these -/
def Off (H : Hp) (σ : L2.St) (δ : SEnv) (f : Addr → Prop) : Prop := ∀ (i : Nat) (b : Bool) (c : Cont) (a p : Addr), δ[i]? = some (some (.o b c)) → σ[i]? = some (some (.ref a)) → Foot H a c p → ¬ f p
def RepR (K : PySem.W.Frag) (F B H : Hp) (σ : L2.St) (δ : SEnv) (v : V) : R → Prop
  | .d d => DD B v d
  | .w d => DW K v d
  | .o i => σ[i]? = some (some v)
  | .n c => ∃ a, v = .ref a ∧ (∀ p, Foot H a c p → B p = none ∧ F p = none) ∧ ContOk B H a c ∧ Off H σ δ (Foot H a c)

section
variable {K : PySem.W.Frag} {F B H B' H' : Hp} {vs : List V} {σ : L2.St} {δ : SEnv} {v : V}
theorem same_new {H : Hp} {p : Addr} (h : H p = none) (o : HO) : Same H (upd H p o) := fun b u q => by rw [upd_ne (ne_of_none q h)]; exact q
theorem nof {B H : Hp} (e : Same B H) {p : Addr} (h : H p = none) : B p = none := L2.Same.free e h
theorem nt_upd {B : Hp} {p : Addr} {o : HO} (h : ∀ (a : Addr) (ps : Array Value), B a ≠ some (.tbl ps)) (ho : ∀ ps, o ≠ .tbl ps) (a : Addr) (ps : Array Value) : upd B p o a ≠ some (.tbl ps) := fun e => by
  by_cases ha : a = p
  · subst ha; rw [upd_same] at e; cases e; exact ho _ rfl
  · rw [upd_ne ha] at e; exact h _ _ e
/-- elsewhere changed -/
theorem Rep.own_up (h : Rep K F B H vs σ δ) {i : Nat} {b : Bool} {c : Cont} {a : Addr} (e : δ[i]? = some (some (.o b c))) (ea : σ[i]? = some (some (.ref a))) : (∀ p, Foot H a c p → B p = none ∧ F p = none) ∧ ContOk B H a c := by
  obtain ⟨v, e1, a', e2, q1, q2⟩ := h.ok i _ e
  rw [ea] at e1; cases e1; cases e2
  exact ⟨q1, q2⟩
theorem foot_new {B H : Hp} {a p q : Addr} {c : Cont} {o : HO} (h : ContOk B H a c) (hp : H p = none) (f : Foot H a c q) : q ≠ p := by
  obtain ⟨u, hu⟩ := h.there f
  exact ne_of_none hu hp
theorem foot_upd {B H : Hp} {a p q : Addr} {c : Cont} {o : HO} (h : ContOk B H a c) (hp : H p = none) : Foot (upd H p o) a c q ↔ Foot H a c q := foot_eq fun r f => upd_ne (foot_new (o := o) h hp f)
theorem Rep.apart_new (h : Rep K F B H vs σ δ) {p : Addr} (hp : H p = none) (o : HO) : ∀ (i j : Nat) (a a' q : Addr) (b : Bool) (c : Cont) (b' : Bool) (c' : Cont), δ[i]? = some (some (.o b c)) → δ[j]? = some (some (.o b' c')) → σ[i]? = some (some (.ref a)) → σ[j]? = some (some (.ref a')) → Foot (upd H p o) a c q → Foot (upd H p o) a' c' q → i = j :=
  fun i j a a' q b c b' c' e1 e2 e3 e4 f1 f2 => h.apart i j a a' q b c b' c' e1 e2 e3 e4 ((foot_upd (h.own_up e1 e3).2 hp).mp f1) ((foot_upd (h.own_up e2 e4).2 hp).mp f2)
/-- a new object, taken as data -/
theorem Rep.new (h : Rep K F B H vs σ δ) {p : Addr} (hp : H p = none) (o : HO) (ho : ∀ ps, o ≠ .tbl ps := by intro _ z; cases z) : Rep K F (upd B p o) (upd H p o) vs σ δ := by
  have hB := nof h.sb hp
  have hF := nof h.sf hp
  refine ⟨fun a u e => ?_, h.sf.trans (same_new hp o), fun a u e => ?_, h.len, fun i s e => ?_, h.apart_new hp o, h.bor, nt_upd h.nt ho⟩
  · by_cases ha : a = p
    · subst ha; rw [upd_same] at e ⊢; exact e
    · rw [upd_ne ha] at e ⊢; exact h.sb a u e
  · have ha : a ≠ p := ne_of_none e hF
    rw [upd_ne ha]; exact h.dj a u e
  · obtain ⟨v, e1, q⟩ := h.ok i s e
    refine ⟨v, e1, ?_⟩
    cases s with
    | d d => exact DD.mono (same_new hB o) q
    | w d => exact q
    | o b c =>
      obtain ⟨a, e2, e3, q⟩ := q
      refine ⟨a, e2, fun r f => ?_, q.mono (same_new hB o) fun r f => upd_ne (foot_new (o := o) q hp f)⟩
      have f' := (foot_upd q hp).mp f
      rw [upd_ne (foot_new (o := o) q hp f')]
      exact e3 r f'
/-- a new object of its own -/
theorem Rep.newO (h : Rep K F B H vs σ δ) {p : Addr} (hp : H p = none) (o : HO) : Rep K F B (upd H p o) vs σ δ := by
  refine ⟨h.sb.trans (same_new hp o), h.sf.trans (same_new hp o), h.dj, h.len, fun i s e => ?_, h.apart_new hp o, h.bor, h.nt⟩
  obtain ⟨v, e1, q⟩ := h.ok i s e
  refine ⟨v, e1, ?_⟩
  cases s with
  | d d => exact q
  | w d => exact q
  | o b c =>
    obtain ⟨a, e2, e3, q⟩ := q
    exact ⟨a, e2, fun r f => e3 r ((foot_upd q hp).mp f), q.mono (Same.refl _) fun r f => upd_ne (foot_new (o := o) q hp f)⟩
/-- a new object stands apart from the slots -/
theorem Rep.fresh (h : Rep K F B H vs σ δ) {p : Addr} (hp : H p = none) (o : HO) : Off (upd H p o) σ δ fun q => q = p := fun i b c a q e1 e2 f z => by
  have k := (h.own_up e1 e2).2
  exact foot_new (o := o) k hp ((foot_upd k hp).mp f) z
/-- a list of one's own is taken as data from now on -/
theorem Rep.freeze (h : Rep K F B H vs σ δ) {a : Addr} {xs : HO} (ha : H a = some xs) (hB : B a = none) (hF : F a = none) (hn : Off H σ δ fun q => q = a) (hx : ∀ ps, xs ≠ .tbl ps := by intro _ z; cases z) :
    Rep K F (upd B a xs) H vs σ δ := by
  refine ⟨fun b u e => ?_, h.sf, fun b u e => ?_, h.len, fun i s e => ?_, h.apart, h.bor, nt_upd h.nt hx⟩
  · by_cases hb : b = a
    · subst hb; rw [upd_same] at e; rw [← e]; exact ha
    · rw [upd_ne hb] at e; exact h.sb b u e
  · have hb : b ≠ a := ne_of_none e hF
    rw [upd_ne hb]; exact h.dj b u e
  · obtain ⟨v, e1, q⟩ := h.ok i s e
    refine ⟨v, e1, ?_⟩
    cases s with
    | d d => exact DD.mono (same_new hB _) q
    | w d => exact q
    | o b c =>
      obtain ⟨p, e2, e3, q⟩ := q
      subst e2
      refine ⟨p, rfl, fun r f => ?_, q.mono (same_new hB _) fun _ _ => rfl⟩
      rw [upd_ne (fun z : r = a => hn i b c p r e e1 f z)]
      exact e3 r f
end
end DL
set_option Elab.async false
set_option linter.all false
set_option maxRecDepth 100000
set_option maxHeartbeats 4000000
set_option autoImplicit false
namespace DL
open PySem PySem.Spec PyProof.Rows L2

/-! ### contexts, by what the rules ask of them -/
structure Gx where
  P : Program
  w : World
  K : PySem.W.Frag
  mg : Str → Option Value
  base : Heap
structure Cl where
  A : Around
  N : List Str
  s_0 : Shared
  H_0 : Hp
  env : Env
  outer : List Env
  stack : List Env
  ex : List Addr
  fn : Str → Bool
  calm : Bool
  pn : List (Addr × Obj)
  xe : Value → Shared → Prop
abbrev Gx.cx (g : Gx) (c : Cl) : Cx := ⟨g.P, g.w, g.K, g.mg, g.base, c.A, c.N, c.s_0, c.H_0, c.env, c.outer, c.stack, c.ex, c.fn, c.calm, c.pn, c.xe⟩
structure Sg where
  g : Gx
  CX : CXT
  N : List Str
  sc : Scope
  k : Nat
  E : XK
  top : Bool
  thr : Bool
structure Sg.ok (S : Sg) (c : Cl) : Prop where
  hN : c.N = S.N
  nd : S.N.Nodup
  hs : c.env.scope = S.sc
  calm : c.calm = true
  room : Room S.k c.A
  ps : Passes S.CX (S.g.cx c) S.E
  po : PassesOwn (model S.g.P S.g.w) c.A c.env c.xe
  fn : S.top = true → ∀ x, c.fn x = true
  gd : c.A.guards = some []
  tk : S.thr = true → Takes (S.g.cx c) fun cls d _ H => S.E cls d H

/-! ### errors -/
structure Exc where
  cls : Value
  flds : List (Str × PyData)
def FldsOk (B : Hp) : List (Str × V) → List (Str × PyData) → Prop := Paired fun (p : Str × V) (q : Str × PyData) => p.1 = q.1 ∧ DD B p.2 q.2
def XOk (F B : Hp) (E : XK) (Ex : Exc → Prop) : Prop := ∀ (cls : Value) (da : Addr) (B' H' : Hp) (fs : List (Str × V)) (fds : List (Str × PyData)), (Same B B' ∧ ∀ (a : Addr) (ps : Array Value), B' a ≠ some (.tbl ps)) → Same B' H' → Same F H' → (∀ a o, F a = some o → B' a = none) →
  B' da = some (.xd fs) → FldsOk B' fs fds → Ex ⟨cls, fds⟩ → E cls (some da) H'
theorem XOk.up {F B B1 : Hp} {E : XK} {Ex : Exc → Prop} (h : XOk F B E Ex) (s : Same B B1) : XOk F B1 E Ex := fun cls da B' H' fs fds s1 s2 s3 s4 e f x => h cls da B' H' fs fds ⟨s.trans s1.1, s1.2⟩ s2 s3 s4 e f x

/-! ### what is wanted, over slots -/
abbrev XP := Exc → Prop
abbrev WE := XP → SEnv → (R → SEnv → Prop) → Prop
abbrev WT := XP → SEnv → (Bool → SEnv → Prop) → Prop
abbrev WA := XP → SEnv → (List R → SEnv → Prop) → Prop
structure DEnds where
  nx : SEnv → Prop
  rt : R → SEnv → Prop
  bk : SEnv → Prop
  ct : SEnv → Prop
  ex : XP
abbrev WS := DEnds → SEnv → Prop
structure DEnds.le (d d' : DEnds) : Prop where
  nx : ∀ δ, d.nx δ → d'.nx δ
  rt : ∀ r δ, d.rt r δ → d'.rt r δ
  bk : ∀ δ, d.bk δ → d'.bk δ
  ct : ∀ δ, d.ct δ → d'.ct δ
  ex : ∀ e, d.ex e → d'.ex e

structure ESim (K : PySem.W.Frag) (E : XK) (t : TE) (W : WE) : Prop where
  mono : ∀ (Ex Ex' : XP) (δ : SEnv) (P P' : R → SEnv → Prop), (∀ e, Ex e → Ex' e) → (∀ r δ', P r δ' → P' r δ') → W Ex δ P → W Ex' δ P'
  run : ∀ (Ex : XP) (F B H : Hp) (vs : List V) (σ : L2.St) (δ : SEnv) (P : R → SEnv → Prop) (Q : VK), XOk F B E Ex → Rep K F B H vs σ δ → W Ex δ P →
    (∀ B' H' v r δ', Same B B' → Rep K F B' H' vs σ δ' → RepR K F B' H' σ δ' v r → P r δ' → Q v H') → t σ H Q
structure TSim (K : PySem.W.Frag) (E : XK) (t : TT) (W : WT) : Prop where
  mono : ∀ (Ex Ex' : XP) (δ : SEnv) (P P' : Bool → SEnv → Prop), (∀ e, Ex e → Ex' e) → (∀ r δ', P r δ' → P' r δ') → W Ex δ P → W Ex' δ P'
  run : ∀ (Ex : XP) (F B H : Hp) (vs : List V) (σ : L2.St) (δ : SEnv) (P : Bool → SEnv → Prop) (Q : Bool → Hp → Prop), XOk F B E Ex → Rep K F B H vs σ δ → W Ex δ P →
    (∀ B' H' b δ', Same B B' → Rep K F B' H' vs σ δ' → P b δ' → Q b H') → t σ H Q
def RepRs (K : PySem.W.Frag) (F B H : Hp) (σ : L2.St) (δ : SEnv) : List V → List R → Prop := Paired fun v r => RepR K F B H σ δ v r ∧ ∀ c, r ≠ .n c
structure ASim (K : PySem.W.Frag) (E : XK) (t : TA) (W : WA) : Prop where
  mono : ∀ (Ex Ex' : XP) (δ : SEnv) (P P' : List R → SEnv → Prop), (∀ e, Ex e → Ex' e) → (∀ r δ', P r δ' → P' r δ') → W Ex δ P → W Ex' δ P'
  run : ∀ (Ex : XP) (F B H : Hp) (vs : List V) (σ : L2.St) (δ : SEnv) (P : List R → SEnv → Prop) (Q : List V → Hp → Prop), XOk F B E Ex → Rep K F B H vs σ δ → W Ex δ P →
    (∀ B' H' ws rs δ', Same B B' → Rep K F B' H' vs σ δ' → RepRs K F B' H' σ δ' ws rs → P rs δ' → Q ws H') → t σ H Q
structure EndsOk (K : PySem.W.Frag) (F B : Hp) (vs : List V) (D : Ends) (d : DEnds) : Prop where
  nx : ∀ B' σ' H' δ', Same B B' → Rep K F B' H' vs σ' δ' → d.nx δ' → D.nx σ' H'
  rt : ∀ B' σ' H' δ' v r, Same B B' → Rep K F B' H' vs σ' δ' → RepR K F B' H' σ' δ' v r → d.rt r δ' → D.rt v H'
  bk : ∀ B' σ' H' δ', Same B B' → Rep K F B' H' vs σ' δ' → d.bk δ' → D.bk σ' H'
  ct : ∀ B' σ' H' δ', Same B B' → Rep K F B' H' vs σ' δ' → d.ct δ' → D.ct σ' H'
theorem EndsOk.up {K : PySem.W.Frag} {F B B1 : Hp} {vs : List V} {D : Ends} {d : DEnds} (h : EndsOk K F B vs D d) (s : Same B B1) : EndsOk K F B1 vs D d :=
  ⟨fun B' σ' H' δ' s1 => h.nx B' σ' H' δ' (s.trans s1), fun B' σ' H' δ' v r s1 => h.rt B' σ' H' δ' v r (s.trans s1), fun B' σ' H' δ' s1 => h.bk B' σ' H' δ' (s.trans s1), fun B' σ' H' δ' s1 => h.ct B' σ' H' δ' (s.trans s1)⟩
structure SSim (K : PySem.W.Frag) (E : XK) (t : TS) (W : WS) : Prop where
  mono : ∀ (d d' : DEnds) (δ : SEnv), d.le d' → W d δ → W d' δ
  run : ∀ (F B H : Hp) (vs : List V) (σ : L2.St) (δ : SEnv) (D : Ends) (d : DEnds), XOk F B E d.ex → Rep K F B H vs σ δ → EndsOk K F B vs D d → W d δ → t D σ H

def DE (S : Sg) (e : Expr) (W : WE) : Prop := ∃ t, (∀ c, S.ok c → PE (S.g.cx c) e t) ∧ ESim S.g.K S.E t W
def DT (S : Sg) (e : Expr) (W : WT) : Prop := ∃ t, (∀ c, S.ok c → PT (S.g.cx c) e t) ∧ TSim S.g.K S.E t W
def DW' (S : Sg) (e : Expr) (W : WT) : Prop := ∃ t, (∀ c, S.ok c → PW (S.g.cx c) e t) ∧ TSim S.g.K S.E t W
def DA (S : Sg) (es : List Expr) (W : WA) : Prop := ∃ t, (∀ c, S.ok c → PA (S.g.cx c) es t) ∧ ASim S.g.K S.E t W
def DS (S : Sg) (st : Stmt) (W : WS) : Prop := ∃ t, (∀ c, S.ok c → PS (S.g.cx c) st t) ∧ SSim S.g.K S.E t W
def DSs (S : Sg) (st : List Stmt) (W : WS) : Prop := ∃ t, (∀ c, S.ok c → PSs (S.g.cx c) st t) ∧ SSim S.g.K S.E t W

/-! ### settled, frozen, viewed -/
def settle : R → Option R
  | .n (.l ds) => some (.d (.list ds))
  | .n _ => none
  | r => some r
def scalar : PyData → Bool
  | .none => true
  | .bool _ => true
  | .int _ => true
  | .str _ => true
  | _ => false
def frz (δ : SEnv) : R → Option (PyData × SEnv)
  | .d d => some (d, δ)
  | .w d => if scalar d then some (d, δ) else none
  | .n (.l ds) => some (.list ds, δ)
  | .n _ => none
  | .o i => match δ[i]? with
    | some (some (.o false (.l ds))) => some (.list ds, δ.set i (some (.d (.list ds))))
    | some (some (.d d)) => some (d, δ)
    | some (some (.w d)) => if scalar d then some (d, δ) else none
    | _ => none
inductive Vw where
  | d (d : PyData)
  | w (d : PyData)
  | k (kvs : List (Key × PyData))
  | t (kvs : List (List Key × PyData))
  | xk (ks : List Key)
  | xl (n : Nat)
  | rk (kvs : List (Key × PyData))
  | xt (ds : List PyData)
/-- a slot that is known to hold a plain tuple -/
def plainAt (δ : SEnv) (i : Nat) : Option (List PyData) := match δ[i]? with
  | some (some (.o _ (.pt ds))) => some ds
  | _ => none
def Cont.vw : Cont → Option Vw
  | .l ds => some (.d (.list ds))
  | .k kvs => some (.k kvs)
  | .t kvs => some (.t kvs)
  | .kk kvs => some (.xk (kvs.map (·.1)))
  | .ll dss => some (.xl dss.length)
  | .tp _ => none
  | .pt ds => some (.xt ds)
  | .fk _ kvs => some (.rk kvs)
def wv (d : PyData) : Vw := if scalar d then .d d else .w d
def view (δ : SEnv) : R → Option Vw
  | .d d => some (.d d)
  | .w d => some (wv d)
  | .n c => c.vw
  | .o i => match δ[i]? with
    | some (some (.d d)) => some (.d d)
    | some (some (.w d)) => some (wv d)
    | some (some (.o _ c)) => c.vw
    | _ => none
def OV (K : PySem.W.Frag) (B H : Hp) (v : V) : Vw → Prop
  | .d d => DD B v d ∨ ∃ a xs ds, v = .ref a ∧ d = .list ds ∧ H a = some (.lst xs) ∧ DDs B xs ds
  | .w d => DW K v d
  | .k kvs => ∃ a ys, v = .ref a ∧ H a = some (.dK ys) ∧ KDs B ys kvs
  | .t kvs => ∃ a ys, v = .ref a ∧ H a = some (.dT ys) ∧ KDs B ys kvs
  | .xk ks => ∃ a ys, v = .ref a ∧ H a = some (.dK ys) ∧ ys.map (·.1) = ks
  | .xl n => ∃ a xs, v = .ref a ∧ H a = some (.lst xs) ∧ xs.length = n
  | .rk kvs => ∃ a ys, v = .ref a ∧ Rd H a (.dK ys) ∧ KDs B ys kvs
  | .xt ds => InP B v ds

section
variable {K : PySem.W.Frag} {F B H B' H' : Hp} {vs : List V} {σ : L2.St} {δ : SEnv} {v : V}
theorem DW.scal {d : PyData} (h : DW K v d) (e : scalar d = true) : DD B v d := by
  unfold DW at h
  cases h with
  | non => exact .non
  | bl b => exact .bl b
  | int i => exact .int i
  | str x => exact .str x
  | lst _ _ => cases e
  | tup _ _ => cases e
theorem wv_ov {d : PyData} (h : DW K v d) : OV K B H v (wv d) := by
  unfold wv
  split
  · exact .inl (h.scal (by assumption))
  · exact h
theorem paired_keys {β : Type} {G : V → β → Prop} {ys : List (Key × V)} {kvs : List (Key × β)} (h : Paired (fun (p : Key × V) (q : Key × β) => p.1 = q.1 ∧ G p.2 q.2) ys kvs) : ys.map (·.1) = kvs.map (·.1) := by
  induction h with
  | nil => rfl
  | cons q r ih => rw [List.map_cons, List.map_cons, q.1, ih]
theorem cont_ov {a : Addr} {c : Cont} {w : Vw} (sB : Same B H) (h : ContOk B H a c) (e : c.vw = some w) : OV K B H (.ref a) w := by
  cases c with
  | l ds => cases e; obtain ⟨xs, e, q⟩ := h; exact .inr ⟨a, xs, ds, rfl, rfl, e, q⟩
  | k kvs => cases e; obtain ⟨xs, e, q⟩ := h; exact ⟨a, xs, rfl, e, q⟩
  | t kvs => cases e; obtain ⟨xs, e, q⟩ := h; exact ⟨a, xs, rfl, e, q⟩
  | kk kvs => cases e; obtain ⟨ys, e, q, _⟩ := h; exact ⟨a, ys, rfl, e, paired_keys q⟩
  | ll dss => cases e; obtain ⟨xs, e, q, _⟩ := h; exact ⟨a, xs, rfl, e, Paired.length q⟩
  | tp ps => cases e
  | pt ds => cases e; obtain ⟨o, xs, e, ec, ed, q⟩ := h; exact ⟨a, o, xs, rfl, e, ec, ed, q⟩
  | fk d kvs => cases e; obtain ⟨_, o, ys, e, q⟩ := h; exact ⟨a, ys, rfl, .inr ⟨o, sB _ _ e⟩, q⟩
theorem view_ok {r : R} {w : Vw} (h : Rep K F B H vs σ δ) (hr : RepR K F B H σ δ v r) (e : view δ r = some w) : OV K B H v w := by
  cases r with
  | d d => cases e; exact .inl hr
  | w d => cases e; exact wv_ov hr
  | n c =>
    obtain ⟨a, rfl, _, q, _⟩ := hr
    exact cont_ov h.sb q e
  | o i =>
    have e1 : σ[i]? = some (some v) := hr
    obtain ⟨s, e2⟩ : ∃ s, δ[i]? = some (some s) := by
      simp only [view] at e
      split at e
      · exact ⟨_, by assumption⟩
      · exact ⟨_, by assumption⟩
      · exact ⟨_, by assumption⟩
      · cases e
    obtain ⟨v', e3, q⟩ := h.ok i s e2
    have ev : v = v' := by
      have z := e1.symm.trans e3
      exact Option.some.inj (Option.some.inj z)
    subst ev
    cases s with
    | d d => simp only [view, e2, Option.some.injEq] at e; subst e; exact .inl q
    | w d => simp only [view, e2, Option.some.injEq] at e; subst e; exact wv_ov q
    | o b c =>
      simp only [view, e2] at e
      obtain ⟨a, rfl, _, q⟩ := q
      exact cont_ov h.sb q e
theorem plain_ok {i : Nat} {ds : List PyData} (h : Rep K F B H vs σ δ) (q : RepR K F B H σ δ v (.o i)) (e : plainAt δ i = some ds) : InP B v ds := by
  unfold plainAt at e
  split at e
  · rename_i b ds' hd
    cases e
    obtain ⟨v', e5, a, ev, _, o, xs, e6, e7, e8, e9⟩ := h.ok i _ hd
    have q1' : σ[i]? = some (some _) := q
    rw [q1'] at e5; cases e5
    exact ⟨a, o, xs, ev, e6, e7, e8, e9⟩
  · cases e
theorem DW.dp {d : PyData} (h : DW K v d) : Dp K H v d := dp_mono (fun _ _ z => by cases z) h
theorem OV.dp {d : PyData} (s : Same B H) (h : OV K B H v (.d d)) : Dp K H v d := by
  rcases h with h | ⟨a, xs, ds, rfl, rfl, e, q⟩
  · exact (h.mono s).dp
  · exact .lst (SqL.of e) (q.mono s).dp
/-- a slot's knowledge is given up -/
theorem set_get {α : Type} {l : List α} {i j : Nat} {x y : α} (h : (l.set i x)[j]? = some y) : (j = i ∧ y = x) ∨ (j ≠ i ∧ l[j]? = some y) := by
  by_cases e : j = i
  · subst e
    have hl : j < (l.set j x).length := (List.getElem?_eq_some_iff.mp h).1
    rw [List.length_set] at hl
    rw [List.getElem?_set_self hl] at h
    exact .inl ⟨rfl, (Option.some.inj h).symm⟩
  · rw [List.getElem?_set_ne (Ne.symm e)] at h
    exact .inr ⟨e, h⟩
theorem Rep.forget (h : Rep K F B H vs σ δ) (i : Nat) : Rep K F B H vs σ (δ.set i none) := by
  refine ⟨h.sb, h.sf, h.dj, by rw [List.length_set]; exact h.len, fun j s e => ?_, fun j k a a' p b c b' c' e1 e2 => ?_, fun j c e => ?_, h.nt⟩
  · rcases set_get e with ⟨_, z⟩ | ⟨_, z⟩
    · cases z
    · exact h.ok j s z
  · rcases set_get e1 with ⟨_, z⟩ | ⟨_, z⟩
    · cases z
    · rcases set_get e2 with ⟨_, z2⟩ | ⟨_, z2⟩
      · cases z2
      · exact h.apart j k a a' p b c b' c' z z2
  · rcases set_get e with ⟨_, z⟩ | ⟨_, z⟩
    · cases z
    · exact h.bor j c z
/-- a slot is known to hold data (its value as it is) -/
theorem Rep.know (h : Rep K F B H vs σ δ) {i : Nat} {d : PyData} (e : σ[i]? = some (some v)) (q : DD B v d) : Rep K F B H vs σ (δ.set i (some (.d d))) := by
  refine ⟨h.sb, h.sf, h.dj, by rw [List.length_set]; exact h.len, fun j s e => ?_, fun j k a a' p b c b' c' e1 e2 => ?_, fun j c e => ?_, h.nt⟩
  · rcases set_get e with ⟨rfl, z⟩ | ⟨_, z⟩
    · cases z; exact ⟨v, by assumption, q⟩
    · exact h.ok j s z
  · rcases set_get e1 with ⟨_, z⟩ | ⟨_, z⟩
    · cases z
    · rcases set_get e2 with ⟨_, z2⟩ | ⟨_, z2⟩
      · cases z2
      · exact h.apart j k a a' p b c b' c' z z2
  · rcases set_get e with ⟨_, z⟩ | ⟨_, z⟩
    · cases z
    · exact h.bor j c z
theorem set_set' {α : Type} (l : List α) (i : Nat) (x y : α) : (l.set i x).set i y = l.set i y := by rw [List.set_set]
theorem frz_ok {r : R} {d : PyData} {δ' : SEnv} (h : Rep K F B H vs σ δ) (hr : RepR K F B H σ δ v r) (e : frz δ r = some (d, δ')) : ∃ B', Same B B' ∧ Rep K F B' H vs σ δ' ∧ DD B' v d := by
  cases r with
  | d d => cases e; exact ⟨B, Same.refl _, h, hr⟩
  | w d =>
    simp only [frz] at e
    split at e
    · cases e; exact ⟨B, Same.refl _, h, DW.scal hr (by assumption)⟩
    · cases e
  | n c =>
    cases c with
    | l ds =>
      cases e
      obtain ⟨a, rfl, hBF, ⟨xs, e1, q⟩, hn⟩ := hr
      have hB := (hBF a foot_self).1
      exact ⟨_, same_new hB _, h.freeze e1 hB (hBF a foot_self).2 hn, .lst (.inl upd_same) (q.mono (same_new hB _))⟩
    | k _ => cases e
    | t _ => cases e
    | kk _ => cases e
    | ll _ => cases e
    | tp _ => cases e
    | pt _ => cases e
    | fk _ _ => cases e
  | o i =>
    have e1 : σ[i]? = some (some v) := hr
    obtain ⟨s, e2⟩ : ∃ s, δ[i]? = some (some s) := by
      simp only [frz] at e
      split at e
      · exact ⟨_, by assumption⟩
      · exact ⟨_, by assumption⟩
      · exact ⟨_, by assumption⟩
      · cases e
    obtain ⟨v', e3, q⟩ := h.ok i s e2
    have ev : v = v' := by
      have z := e1.symm.trans e3
      exact Option.some.inj (Option.some.inj z)
    subst ev
    simp only [frz, e2] at e
    cases s with
    | d d => cases e; exact ⟨B, Same.refl _, h, q⟩
    | w d =>
      simp only at e
      split at e
      · cases e; exact ⟨B, Same.refl _, h, DW.scal q (by assumption)⟩
      · cases e
    | o b c =>
      cases b with
      | true => cases e
      | false =>
        cases c with
        | k _ => cases e
        | t _ => cases e
        | kk _ => cases e
        | ll _ => cases e
        | tp _ => cases e
        | pt _ => cases e
        | fk _ _ => cases e
        | l ds =>
          cases e
          obtain ⟨a, rfl, hBF, ⟨xs, e4, q⟩⟩ := q
          have hB := (hBF a foot_self).1
          have h1 := (h.forget i).freeze e4 hB (hBF a foot_self).2 (fun j b' c' a' p e5 e6 f ep => by
            rcases set_get e5 with ⟨_, z⟩ | ⟨n, z⟩
            · cases z
            · subst ep
              exact n (h.apart j i a' p p b' c' false _ z e2 e6 e1 f foot_self))
          have h2 := h1.know (i := i) e1 (DD.lst (.inl upd_same) (q.mono (same_new hB _)))
          rw [set_set'] at h2
          exact ⟨_, same_new hB _, h2, .lst (.inl upd_same) (q.mono (same_new hB _))⟩
theorem RepR.up {r : R} (s : Same B B') (h : RepR K F B H σ δ v r) (hn : ∀ c, r ≠ .n c) {δ' : SEnv} : RepR K F B' H' σ δ' v r := by
  cases r with
  | d d => exact DD.mono s h
  | w d => exact h
  | o i => exact h
  | n c => exact absurd rfl (hn c)
theorem settle_ok {r r' : R} (h : Rep K F B H vs σ δ) (hr : RepR K F B H σ δ v r) (e : settle r = some r') : ∃ B', Same B B' ∧ Rep K F B' H vs σ δ ∧ RepR K F B' H σ δ v r' ∧ ∀ c, r' ≠ .n c := by
  cases r with
  | d d => cases e; exact ⟨B, Same.refl _, h, hr, fun _ z => nomatch z⟩
  | w d => cases e; exact ⟨B, Same.refl _, h, hr, fun _ z => nomatch z⟩
  | o i => cases e; exact ⟨B, Same.refl _, h, hr, fun _ z => nomatch z⟩
  | n c =>
    cases c with
    | l ds =>
      cases e
      obtain ⟨B', s, h', q⟩ := frz_ok (δ' := δ) h hr rfl
      exact ⟨B', s, h', q, fun _ z => nomatch z⟩
    | k _ => cases e
    | t _ => cases e
    | kk _ => cases e
    | ll _ => cases e
    | tp _ => cases e
    | pt _ => cases e
    | fk _ _ => cases e
end
end DL
set_option Elab.async false
set_option linter.all false
set_option maxRecDepth 100000
set_option maxHeartbeats 4000000
set_option autoImplicit false
namespace DL
open PySem PySem.Spec PyProof.Rows L2

def ob {α : Type} (o : Option α) (p : α → Prop) : Prop := ∃ a, o = some a ∧ p a
theorem ob_some {α : Type} {a : α} {p : α → Prop} : ob (some a) p ↔ p a := ⟨fun ⟨_, e, h⟩ => by cases e; exact h, fun h => ⟨a, rfl, h⟩⟩
theorem ob_none {α : Type} {p : α → Prop} : ob none p ↔ False := ⟨fun h => (by obtain ⟨_, e, _⟩ := h; exact nomatch e), False.elim⟩
theorem ob.imp {α : Type} {o : Option α} {p q : α → Prop} (h : ob o p) (f : ∀ a, p a → q a) : ob o q := let ⟨a, e, x⟩ := h; ⟨a, e, f a x⟩

/-! ### what an operation gives -/
inductive Rv where
  | val (d : PyData)
  | tup (ds : List PyData)
  | lst (ds : List PyData)
  | dk (kvs : List (Key × PyData))
  | dt (kvs : List (List Key × PyData))
def Rv.r : Rv → R
  | .val d => .d d
  | .tup ds => .d (.tuple ds)
  | .lst ds => .n (.l ds)
  | .dk kvs => .n (.k kvs)
  | .dt kvs => .n (.t kvs)
def RvK (B H : Hp) (Q : VK) : Rv → Prop
  | .val d => ∀ z, DD B z d → Q z H
  | .tup ds => (∀ z, DD B z (.tuple ds) → Q z H) ∧ ∀ (p : Addr) (o : Obj) (xs : List V), H p = none → o.cls = .type "tuple" → o.dict = none → DDs B xs ds → Q (.ref p) (upd H p (.frz o (.tup xs)))
  | .lst ds => ∀ p xs, H p = none → DDs B xs ds → Q (.ref p) (upd H p (.lst xs))
  | .dk kvs => ∀ p ys, H p = none → KDs B ys kvs → Q (.ref p) (upd H p (.dK ys))
  | .dt kvs => ∀ p ys, H p = none → KDs B ys kvs → Q (.ref p) (upd H p (.dT ys))
theorem foot_bf {F B H : Hp} {p : Addr} {c : Cont} (s : c.simple = true) (hB : B p = none) (hF : F p = none) : ∀ r, Foot H p c r → B r = none ∧ F r = none := fun r f => by cases foot_one s f; exact ⟨hB, hF⟩
section
variable {K : PySem.W.Frag} {F B H : Hp} {vs : List V} {σ : L2.St} {δ : SEnv}
theorem rvk_ok {rv : Rv} {P : R → SEnv → Prop} {Q : VK} {B0 : Hp} (s : Same B0 B) (h : Rep K F B H vs σ δ) (hP : P rv.r δ)
    (k : ∀ B' H' v r δ', Same B0 B' → Rep K F B' H' vs σ δ' → RepR K F B' H' σ δ' v r → P r δ' → Q v H') : RvK B H Q rv := by
  cases rv with
  | val d => exact fun z q => k B H z (.d d) δ s h q hP
  | tup ds =>
    refine ⟨fun z q => k B H z (.d (.tuple ds)) δ s h q hP, fun p o xs hp ec ed q => ?_⟩
    exact k _ _ (.ref p) (.d (.tuple ds)) δ (s.trans (same_new (nof h.sb hp) _)) (h.new hp _) (DD.tup ⟨o, upd_same, ec, ed⟩ (q.mono (same_new (nof h.sb hp) _))) hP
  | lst ds => exact fun p xs hp q => k _ _ (.ref p) (.n (.l ds)) δ s (h.newO hp _) ⟨p, rfl, foot_bf rfl (nof h.sb hp) (nof h.sf hp), ⟨xs, upd_same, q⟩, h.fresh hp _⟩ hP
  | dk kvs => exact fun p xs hp q => k _ _ (.ref p) (.n (.k kvs)) δ s (h.newO hp _) ⟨p, rfl, foot_bf rfl (nof h.sb hp) (nof h.sf hp), ⟨xs, upd_same, q⟩, h.fresh hp _⟩ hP
  | dt kvs => exact fun p xs hp q => k _ _ (.ref p) (.n (.t kvs)) δ s (h.newO hp _) ⟨p, rfl, foot_bf rfl (nof h.sb hp) (nof h.sf hp), ⟨xs, upd_same, q⟩, h.fresh hp _⟩ hP
end

/-! ### names, constants -/
def wVar (i : Nat) : WE := fun _ δ P => ob (δ[i]?) fun o => ob o fun s => match s with
  | .d d => P (.d d) δ
  | .w d => P (.w d) δ
  | .o _ _ => P (.o i) δ
def wC (d : PyData) : WE := fun _ δ P => P (.d d) δ
section
variable {S : Sg}
theorem de_var {i : Nat} {x : Str} {pos : Pos} (hN : S.N[i]? = some x) (hv : Vis S.sc x) (hd : (x == ("__debug__" : Str)) = false := by decide) (hcd : (x == ("__classdict__" : Str)) = false := by decide) : DE S (.Name x pos) (wVar i) := by
  refine ⟨tVar i, fun c hc => pe_var (X := S.g.cx c) (by show c.N[i]? = _; rw [hc.hN]; exact hN) (by show Vis c.env.scope x; rw [hc.hs]; exact hv) hd hcd, ⟨fun Ex Ex' δ P P' _ h w => ?_, fun Ex F B H vs σ δ P Q hx h w k => ?_⟩⟩
  · obtain ⟨o, e, s, e2, w⟩ := w
    refine ⟨o, e, s, e2, ?_⟩
    cases s <;> exact h _ _ w
  · obtain ⟨o, e, s, e2, w⟩ := w
    subst e2
    obtain ⟨v, e3, q⟩ := h.ok i s e
    refine ⟨v, e3, ?_⟩
    cases s with
    | d d => exact k B H v (.d d) δ (Same.refl _) h q w
    | w d => exact k B H v (.w d) δ (Same.refl _) h q w
    | o b c => exact k B H v (.o i) δ (Same.refl _) h e3 w
theorem de_const {e : Expr} {v : V} {d : PyData} (h : ∀ c, S.ok c → PE (S.g.cx c) e (tC v)) (q : ∀ B, DD B v d) : DE S e (wC d) :=
  ⟨tC v, h, ⟨fun _ _ δ P P' _ h w => h _ _ w, fun Ex F B H vs σ δ P Q hx h w k => k B H v (.d d) δ (Same.refl _) h (q B) w⟩⟩
theorem de_int {i : Int} {j : Nat} {pos : Pos} : DE S (.Constant (.int i) j pos) (wC (.int i)) := de_const (v := .int i) (fun _ _ => pe_int) fun _ => .int i
theorem de_bl {b : Bool} {j : Nat} {pos : Pos} : DE S (.Constant (.bool b) j pos) (wC (.bool b)) := de_const (v := .bl b) (fun _ _ => pe_bl) fun _ => .bl b
theorem de_non {j : Nat} {pos : Pos} : DE S (.Constant .none j pos) (wC .none) := de_const (v := .non) (fun _ _ => pe_non) fun _ => .non
theorem de_str {x : Str} {j : Nat} {pos : Pos} : DE S (.Constant (.str x) j pos) (wC (.str x)) := de_const (v := .str x) (fun _ _ => pe_str) fun _ => .str x

/-! ### two-place operations -/
def rF (K : PySem.W.Frag) (f : Vw → Vw → Option Rv) : R2 := fun x y H Q => ∃ B a b rv, Same B H ∧ OV K B H x a ∧ OV K B H y b ∧ f a b = some rv ∧ RvK B H Q rv
def OpS (S : Sg) (op : Value → Value → Sem Value) (f : Vw → Vw → Option Rv) : Prop := ∀ c, S.ok c → OpR (S.g.cx c) op (rF S.g.K f)
def wOp (f : Vw → Vw → Option Rv) (wa wb : WE) : WE := fun Ex δ P => wa Ex δ fun ra δ1 => ob (settle ra) fun ra' => wb Ex δ1 fun rb δ2 => ob (view δ2 ra') fun a => ob (view δ2 rb) fun b => ob (f a b) fun rv => P rv.r δ2
theorem sim_op {K : PySem.W.Frag} {E : XK} {ta tb : TE} {wa wb : WE} {f : Vw → Vw → Option Rv} (ha : ESim K E ta wa) (hb : ESim K E tb wb) : ESim K E (tOp (rF K f) ta tb) (wOp f wa wb) := by
  refine ⟨fun Ex Ex' δ P P' hx h w => ?_, fun Ex F B H vs σ δ P Q hx h w k => ?_⟩
  · refine ha.mono _ _ _ _ _ hx (fun r δ1 w => w.imp fun r' w => ?_) w
    exact hb.mono _ _ _ _ _ hx (fun r δ2 w => w.imp fun a w => w.imp fun b w => w.imp fun rv w => h _ _ w) w
  · refine ha.run _ _ _ _ _ _ _ _ _ hx h w fun B1 H1 x ra δ1 s1 h1 q1 w1 => ?_
    obtain ⟨ra', e1, w1⟩ := w1
    obtain ⟨B2, s2, h2, q2, n2⟩ := settle_ok h1 q1 e1
    refine hb.run _ _ _ _ _ _ _ _ _ (hx.up (s1.trans s2)) h2 w1 fun B3 H3 y rb δ2 s3 h3 q3 w3 => ?_
    obtain ⟨a, e2, b, e3, rv, e4, w3⟩ := w3
    have q4 := RepR.up (H' := H3) s3 q2 n2 (δ' := δ2)
    exact ⟨B3, a, b, rv, h3.sb, view_ok h3 q4 e2, view_ok h3 q3 e3, e4, rvk_ok ((s1.trans s2).trans s3) h3 w3 k⟩
theorem de_op {a b : Expr} {wa wb : WE} {pos : Pos} {op : Operator} {f : Vw → Vw → Option Rv} (ho : OpS S (binaryOp op) f) (ha : DE S a wa) (hb : DE S b wb) : DE S (.BinOp a op b pos) (wOp f wa wb) := by
  obtain ⟨ta, pa, sa⟩ := ha
  obtain ⟨tb, pb, sb⟩ := hb
  exact ⟨_, fun c hc => pe_op (ho c hc) (pa c hc) (pb c hc), sim_op sa sb⟩
theorem de_cmp {a b : Expr} {wa wb : WE} {pos : Pos} {op : CmpOp} {f : Vw → Vw → Option Rv} (ho : OpS S (compareOp op) f) (ha : DE S a wa) (hb : DE S b wb) (hm : behindInMarks op b = false) : DE S (.Compare a [op] [b] pos) (wOp f wa wb) := by
  obtain ⟨ta, pa, sa⟩ := ha
  obtain ⟨tb, pb, sb⟩ := hb
  exact ⟨_, fun c hc => pe_cmpR (ho c hc) (pa c hc) (pb c hc) hm, sim_op sa sb⟩

/-! ### tests -/
def isB : R → Option Bool
  | .d (.bool b) => some b
  | _ => none
def wB (wa : WE) : WT := fun Ex δ P => wa Ex δ fun r δ1 => ob (isB r) fun b => P b δ1
theorem isB_ok {K : PySem.W.Frag} {F B H : Hp} {σ : L2.St} {δ : SEnv} {v : V} {r : R} {b : Bool} (h : RepR K F B H σ δ v r) (e : isB r = some b) : v = .bl b := by
  unfold isB at e
  split at e
  · cases e; cases (show DD B v (.bool b) from h); rfl
  · cases e
theorem sim_test {K : PySem.W.Frag} {E : XK} {ta : TE} {wa : WE} (ha : ESim K E ta wa) : TSim K E (tTest ta) (wB wa) := by
  refine ⟨fun Ex Ex' δ P P' hx h w => ha.mono _ _ _ _ _ hx (fun r δ1 w => w.imp fun b w => h _ _ w) w, fun Ex F B H vs σ δ P Q hx h w k => ?_⟩
  refine ha.run _ _ _ _ _ _ _ _ _ hx h w fun B1 H1 x ra δ1 s1 h1 q1 w1 => ?_
  obtain ⟨b, e, w1⟩ := w1
  exact ⟨b, isB_ok q1 e, k B1 H1 b δ1 s1 h1 w1⟩
theorem dt_cmp {a b : Expr} {wa wb : WE} {pos : Pos} {op : CmpOp} {f : Vw → Vw → Option Rv} (ho : OpS S (compareOp op) f) (ha : DE S a wa) (hb : DE S b wb) (hm : behindInMarks op b = false) : DT S (.Compare a [op] [b] pos) (wB (wOp f wa wb)) := by
  obtain ⟨ta, pa, sa⟩ := ha
  obtain ⟨tb, pb, sb⟩ := hb
  exact ⟨_, fun c hc => pt_cmpR (ho c hc) (pa c hc) (pb c hc) hm, sim_test (sim_op sa sb)⟩
/-- a value's truth -/
def truD : PyData → Option Bool
  | .none => some false
  | .bool b => some b
  | .int i => some (i != 0)
  | .str y => if y.length ≤ sizeLine then some ((y.length : Int) != 0) else none
  | .list ds => some (!ds.isEmpty)
  | .tuple ds => some (!ds.isEmpty)
  | _ => none
def truF : Vw → Option Bool
  | .d d => truD d
  | .w d => truD d
  | .k kvs => some (!kvs.isEmpty)
  | _ => none
def wTru (wa : WE) : WT := fun Ex δ P => wa Ex δ fun r δ1 => ob (view δ1 r) fun w => ob (truF w) fun b => P b δ1
theorem DDs.isEmpty {B : Hp} {vs : List V} {ds : List PyData} (h : DDs B vs ds) : vs.isEmpty = ds.isEmpty := by cases h <;> rfl
theorem dps_isEmpty {K : PySem.W.Frag} {B : Hp} {vs : List V} {ds : List PyData} (h : DpAll K B vs ds) : vs.isEmpty = ds.isEmpty := by cases h <;> rfl
theorem kds_isEmpty {κ : Type} {B : Hp} {vs : List (κ × V)} {ds : List (κ × PyData)} (h : KDs B vs ds) : vs.isEmpty = ds.isEmpty := by cases h <;> rfl
theorem tru_dp {K : PySem.W.Frag} {H : Hp} {v : V} {d : PyData} {b : Bool} (h : Dp K H v d) (e : truD d = some b) : TruV K v H b := by
  cases h with
  | non => cases e; rfl
  | bl b => cases e; rfl
  | int i => cases e; rfl
  | str x =>
    simp only [truD] at e
    split at e
    · cases e; exact ⟨by assumption, rfl⟩
    · cases e
  | lst r q => cases e; exact .inl ⟨_, r, by rw [dps_isEmpty q]⟩
  | tup r q => cases e; exact .inr (.inl ⟨_, r, by rw [dps_isEmpty q]⟩)
theorem tru_ov {K : PySem.W.Frag} {B H : Hp} {v : V} {w : Vw} {b : Bool} (s : Same B H) (h : OV K B H v w) (e : truF w = some b) : TruV K v H b := by
  cases w with
  | d d => exact tru_dp (OV.dp s h) e
  | w d => exact tru_dp (DW.dp h) e
  | k kvs => cases e; obtain ⟨a, ys, rfl, e1, q⟩ := h; exact .inr (.inr ⟨ys, e1, by rw [kds_isEmpty q]⟩)
  | t kvs => cases e
  | xk _ => cases e
  | xl _ => cases e
  | rk _ => cases e
  | xt _ => cases e
theorem dt_tru {a : Expr} {wa : WE} (ha : DE S a wa) (he : ∀ (env : Env) whole, isTrue a env whole = (do let v ← whole; standAt a.pos; holding [v] (truthy v))) : DT S a (wTru wa) := by
  obtain ⟨ta, pa, sa⟩ := ha
  refine ⟨fun σ H Q => ta σ H fun x H' => ∃ k, TruV S.g.K x H' k ∧ Q k H', fun c hc => pt_truth (X := S.g.cx c) (pa c hc) (he _), ⟨fun Ex Ex' δ P P' hx h w => sa.mono _ _ _ _ _ hx (fun r δ1 w => w.imp fun a w => w.imp fun b w => h _ _ w) w, fun Ex F B H vs σ δ P Q hx h w k => ?_⟩⟩
  refine sa.run _ _ _ _ _ _ _ _ _ hx h w fun B1 H1 x ra δ1 s1 h1 q1 w1 => ?_
  obtain ⟨vw, e1, b, e2, w1⟩ := w1
  exact ⟨b, tru_ov h1.sb (view_ok h1 q1 e1) e2, k B1 H1 b δ1 s1 h1 w1⟩
def wAnd (wa wb : WT) : WT := fun Ex δ P => wa Ex δ fun b δ1 => if b = true then wb Ex δ1 P else P false δ1
def wOr (wa wb : WT) : WT := fun Ex δ P => wa Ex δ fun b δ1 => if b = true then P true δ1 else wb Ex δ1 P
def wNot (wa : WT) : WT := fun Ex δ P => wa Ex δ fun b δ1 => P (!b) δ1
theorem dw_and1 {a : Expr} {wa : WT} {pos : Pos} (ha : DT S a wa) : DW' S (.BoolOp .And [a] pos) wa := by
  obtain ⟨t, p, s⟩ := ha
  exact ⟨t, fun c hc => pw_and1 (p c hc), s⟩
theorem dw_or1 {a : Expr} {wa : WT} {pos : Pos} (ha : DT S a wa) : DW' S (.BoolOp .Or [a] pos) wa := by
  obtain ⟨t, p, s⟩ := ha
  exact ⟨t, fun c hc => pw_or1 (p c hc), s⟩
theorem sim_and {K : PySem.W.Frag} {E : XK} {ta tb : TT} {wa wb : WT} (ha : TSim K E ta wa) (hb : TSim K E tb wb) : TSim K E (tAnd ta tb) (wAnd wa wb) := by
  refine ⟨fun Ex Ex' δ P P' hx h w => ha.mono _ _ _ _ _ hx (fun b δ1 w => ?_) w, fun Ex F B H vs σ δ P Q hx h w k => ?_⟩
  · cases b with
    | true => exact hb.mono _ _ _ _ _ hx h w
    | false => exact h _ _ w
  · refine ha.run _ _ _ _ _ _ _ _ _ hx h w fun B1 H1 bb δ1 s1 h1 w1 => ?_
    cases bb with
    | true => exact hb.run _ _ _ _ _ _ _ _ _ (hx.up s1) h1 w1 fun B2 H2 b δ2 s2 h2 w2 => k B2 H2 b δ2 (s1.trans s2) h2 w2
    | false => exact k B1 H1 false δ1 s1 h1 w1
theorem sim_or {K : PySem.W.Frag} {E : XK} {ta tb : TT} {wa wb : WT} (ha : TSim K E ta wa) (hb : TSim K E tb wb) : TSim K E (tOr ta tb) (wOr wa wb) := by
  refine ⟨fun Ex Ex' δ P P' hx h w => ha.mono _ _ _ _ _ hx (fun b δ1 w => ?_) w, fun Ex F B H vs σ δ P Q hx h w k => ?_⟩
  · cases b with
    | true => exact h _ _ w
    | false => exact hb.mono _ _ _ _ _ hx h w
  · refine ha.run _ _ _ _ _ _ _ _ _ hx h w fun B1 H1 bb δ1 s1 h1 w1 => ?_
    cases bb with
    | true => exact k B1 H1 true δ1 s1 h1 w1
    | false => exact hb.run _ _ _ _ _ _ _ _ _ (hx.up s1) h1 w1 fun B2 H2 b δ2 s2 h2 w2 => k B2 H2 b δ2 (s1.trans s2) h2 w2
theorem dw_and {a b : Expr} {rest : List Expr} {wa wb : WT} {pos : Pos} (ha : DT S a wa) (hb : DW' S (.BoolOp .And (b :: rest) pos) wb) : DW' S (.BoolOp .And (a :: b :: rest) pos) (wAnd wa wb) := by
  obtain ⟨ta, pa, sa⟩ := ha
  obtain ⟨tb, pb, sb⟩ := hb
  exact ⟨_, fun c hc => pw_and (pa c hc) (pb c hc), sim_and sa sb⟩
theorem dw_or {a b : Expr} {rest : List Expr} {wa wb : WT} {pos : Pos} (ha : DT S a wa) (hb : DW' S (.BoolOp .Or (b :: rest) pos) wb) : DW' S (.BoolOp .Or (a :: b :: rest) pos) (wOr wa wb) := by
  obtain ⟨ta, pa, sa⟩ := ha
  obtain ⟨tb, pb, sb⟩ := hb
  exact ⟨_, fun c hc => pw_or (pa c hc) (pb c hc), sim_or sa sb⟩
theorem dt_w {e : Expr} {w : WT} (h : DW' S e w) : DT S e w := by
  obtain ⟨t, p, s⟩ := h
  exact ⟨t, fun c hc => (p c hc).pt, s⟩
theorem dt_not {a : Expr} {wa : WT} {pos : Pos} (ha : DT S a wa) : DT S (.UnaryOp .Not a pos) (wNot wa) := by
  obtain ⟨t, p, s⟩ := ha
  refine ⟨_, fun c hc => pt_not (p c hc), ⟨fun Ex Ex' δ P P' hx h w => s.mono _ _ _ _ _ hx (fun b δ1 w => h _ _ w) w, fun Ex F B H vs σ δ P Q hx h w k => ?_⟩⟩
  exact s.run _ _ _ _ _ _ _ _ _ hx h w fun B1 H1 b δ1 s1 h1 w1 => k B1 H1 (!b) δ1 s1 h1 w1
/-! ### .. as values -/
def wAndV (wa wb : WE) : WE := fun Ex δ P => wa Ex δ fun r δ1 => ob (isB r) fun b => if b = true then wb Ex δ1 P else P (.d (.bool false)) δ1
def wOrV (wa wb : WE) : WE := fun Ex δ P => wa Ex δ fun r δ1 => ob (isB r) fun b => if b = true then P (.d (.bool true)) δ1 else wb Ex δ1 P
def wNotV (wa : WE) : WE := fun Ex δ P => wa Ex δ fun r δ1 => ob (isB r) fun b => P (.d (.bool (!b))) δ1
theorem de_one {a : Expr} {wa : WE} {op : BoolOp} {pos : Pos} (ha : DE S a wa) : DE S (.BoolOp op [a] pos) wa := by
  obtain ⟨t, p, s⟩ := ha
  exact ⟨t, fun c hc => pe_one (p c hc), s⟩
theorem de_and {a b : Expr} {rest : List Expr} {wa wb : WE} {pos : Pos} (ha : DE S a wa) (hb : DE S (.BoolOp .And (b :: rest) pos) wb) : DE S (.BoolOp .And (a :: b :: rest) pos) (wAndV wa wb) := by
  obtain ⟨ta, pa, sa⟩ := ha
  obtain ⟨tb, pb, sb⟩ := hb
  refine ⟨_, fun c hc => pe_and (pa c hc) (pb c hc), ⟨fun Ex Ex' δ P P' hx h w => ?_, fun Ex F B H vs σ δ P Q hx h w k => ?_⟩⟩
  · refine sa.mono _ _ _ _ _ hx (fun r δ1 w => w.imp fun bb w => ?_) w
    cases bb with
    | true => exact sb.mono _ _ _ _ _ hx h w
    | false => exact h _ _ w
  · refine sa.run _ _ _ _ _ _ _ _ _ hx h w fun B1 H1 x r δ1 s1 h1 q1 w1 => ?_
    obtain ⟨bb, e, w1⟩ := w1
    refine ⟨bb, isB_ok q1 e, ?_⟩
    cases bb with
    | true => exact sb.run _ _ _ _ _ _ _ _ _ (hx.up s1) h1 w1 fun B2 H2 v r δ2 s2 h2 q2 w2 => k B2 H2 v r δ2 (s1.trans s2) h2 q2 w2
    | false => exact k B1 H1 _ (.d (.bool false)) δ1 s1 h1 (DD.bl false) w1
theorem de_or {a b : Expr} {rest : List Expr} {wa wb : WE} {pos : Pos} (ha : DE S a wa) (hb : DE S (.BoolOp .Or (b :: rest) pos) wb) : DE S (.BoolOp .Or (a :: b :: rest) pos) (wOrV wa wb) := by
  obtain ⟨ta, pa, sa⟩ := ha
  obtain ⟨tb, pb, sb⟩ := hb
  refine ⟨_, fun c hc => pe_or (pa c hc) (pb c hc), ⟨fun Ex Ex' δ P P' hx h w => ?_, fun Ex F B H vs σ δ P Q hx h w k => ?_⟩⟩
  · refine sa.mono _ _ _ _ _ hx (fun r δ1 w => w.imp fun bb w => ?_) w
    cases bb with
    | true => exact h _ _ w
    | false => exact sb.mono _ _ _ _ _ hx h w
  · refine sa.run _ _ _ _ _ _ _ _ _ hx h w fun B1 H1 x r δ1 s1 h1 q1 w1 => ?_
    obtain ⟨bb, e, w1⟩ := w1
    refine ⟨bb, isB_ok q1 e, ?_⟩
    cases bb with
    | true => exact k B1 H1 _ (.d (.bool true)) δ1 s1 h1 (DD.bl true) w1
    | false => exact sb.run _ _ _ _ _ _ _ _ _ (hx.up s1) h1 w1 fun B2 H2 v r δ2 s2 h2 q2 w2 => k B2 H2 v r δ2 (s1.trans s2) h2 q2 w2
theorem de_not {a : Expr} {wa : WE} {pos : Pos} (ha : DE S a wa) : DE S (.UnaryOp .Not a pos) (wNotV wa) := by
  obtain ⟨t, p, s⟩ := ha
  refine ⟨_, fun c hc => pe_not (p c hc), ⟨fun Ex Ex' δ P P' hx h w => s.mono _ _ _ _ _ hx (fun r δ1 w => w.imp fun b w => h _ _ w) w, fun Ex F B H vs σ δ P Q hx h w k => ?_⟩⟩
  refine s.run _ _ _ _ _ _ _ _ _ hx h w fun B1 H1 x r δ1 s1 h1 q1 w1 => ?_
  obtain ⟨b, e, w1⟩ := w1
  exact ⟨b, isB_ok q1 e, k B1 H1 _ (.d (.bool (!b))) δ1 s1 h1 (DD.bl _) w1⟩
def wIf (wt : WT) (wa wb : WE) : WE := fun Ex δ P => wt Ex δ fun b δ1 => if b = true then wa Ex δ1 P else wb Ex δ1 P
theorem de_ifx {c a b : Expr} {wt : WT} {wa wb : WE} {pos : Pos} (hc : DT S c wt) (ha : DE S a wa) (hb : DE S b wb) : DE S (.IfExp c a b pos) (wIf wt wa wb) := by
  obtain ⟨tt, pt, st⟩ := hc
  obtain ⟨ta, pa, sa⟩ := ha
  obtain ⟨tb, pb, sb⟩ := hb
  refine ⟨_, fun c hc => pe_ifExp (pt c hc) (pa c hc) (pb c hc), ⟨fun Ex Ex' δ P P' hx h w => st.mono _ _ _ _ _ hx (fun bb δ1 w => ?_) w, fun Ex F B H vs σ δ P Q hx h w k => ?_⟩⟩
  · cases bb with
    | true => exact sa.mono _ _ _ _ _ hx h w
    | false => exact sb.mono _ _ _ _ _ hx h w
  · refine st.run _ _ _ _ _ _ _ _ _ hx h w fun B1 H1 bb δ1 s1 h1 w1 => ?_
    cases bb with
    | true => exact sa.run _ _ _ _ _ _ _ _ _ (hx.up s1) h1 w1 fun B2 H2 v r δ2 s2 h2 q2 w2 => k B2 H2 v r δ2 (s1.trans s2) h2 q2 w2
    | false => exact sb.run _ _ _ _ _ _ _ _ _ (hx.up s1) h1 w1 fun B2 H2 v r δ2 s2 h2 q2 w2 => k B2 H2 v r δ2 (s1.trans s2) h2 q2 w2
end
end DL
set_option Elab.async false
set_option linter.all false
set_option maxRecDepth 100000
set_option maxHeartbeats 4000000
set_option autoImplicit false
namespace DL
open PySem PySem.Spec PyProof.Rows L2

/-! ### argument lists, displays -/
def wNil : WA := fun _ δ P => P [] δ
def wCons (wa : WE) (wr : WA) : WA := fun Ex δ P => wa Ex δ fun r δ1 => ob (settle r) fun r' => wr Ex δ1 fun rs δ2 => P (r' :: rs) δ2
section
variable {S : Sg}
theorem da_nil : DA S [] wNil := ⟨tNil, fun _ _ => pa_nil, ⟨fun _ _ δ P P' _ h w => h _ _ w, fun Ex F B H vs σ δ P Q hx h w k => k B H [] [] δ (Same.refl _) h .nil w⟩⟩
theorem da_cons {e : Expr} {es : List Expr} {wa : WE} {wr : WA} (ha : DE S e wa) (hr : DA S es wr) (hs : ∀ env, starEach (e :: es) env = (false, eval e env) :: starEach es env := by intro _; rfl) : DA S (e :: es) (wCons wa wr) := by
  obtain ⟨ta, pa, sa⟩ := ha
  obtain ⟨tr, pr, sr⟩ := hr
  refine ⟨_, fun c hc => pa_cons (pa c hc) (pr c hc) (hs _), ⟨fun Ex Ex' δ P P' hx h w => ?_, fun Ex F B H vs σ δ P Q hx h w k => ?_⟩⟩
  · refine sa.mono _ _ _ _ _ hx (fun r δ1 w => w.imp fun r' w => ?_) w
    exact sr.mono _ _ _ _ _ hx (fun rs δ2 w => h _ _ w) w
  · refine sa.run _ _ _ _ _ _ _ _ _ hx h w fun B1 H1 x r δ1 s1 h1 q1 w1 => ?_
    obtain ⟨r', e1, w1⟩ := w1
    obtain ⟨B2, s2, h2, q2, n2⟩ := settle_ok h1 q1 e1
    refine sr.run _ _ _ _ _ _ _ _ _ (hx.up (s1.trans s2)) h2 w1 fun B3 H3 ws rs δ2 s3 h3 q3 w3 => ?_
    exact k B3 H3 (x :: ws) (r' :: rs) δ2 ((s1.trans s2).trans s3) h3 (.cons ⟨RepR.up s3 q2 n2, n2⟩ q3) w3
def frzs : SEnv → List R → Option (List PyData × SEnv)
  | δ, [] => some ([], δ)
  | δ, r :: rs => (frz δ r).bind fun p => (frzs p.2 rs).map fun q => (p.1 :: q.1, q.2)
theorem frzs_ok {K : PySem.W.Frag} {F H : Hp} {vs : List V} {σ : L2.St} : ∀ {rs : List R} {ws : List V} {B : Hp} {δ δ' : SEnv} {ds : List PyData}, Rep K F B H vs σ δ → RepRs K F B H σ δ ws rs → frzs δ rs = some (ds, δ') →
    ∃ B', Same B B' ∧ Rep K F B' H vs σ δ' ∧ DDs B' ws ds
  | [], _, B, δ, _, _, h, q, e => by
    cases q; cases e
    exact ⟨B, Same.refl _, h, .nil⟩
  | r :: rs, _, B, δ, _, _, h, q, e => by
    cases q with
    | cons q1 q2 =>
      simp only [frzs] at e
      obtain ⟨⟨d, δ1⟩, e1, e⟩ := Option.bind_eq_some_iff.mp e
      obtain ⟨⟨ds, δ2⟩, e2, e⟩ := Option.map_eq_some_iff.mp e
      cases e
      obtain ⟨B1, s1, h1, d1⟩ := frz_ok h q1.1 e1
      have q2' := Paired.mapP q2 (G := fun v r => RepR K F B1 H σ δ1 v r ∧ ∀ c, r ≠ .n c) fun v r z => ⟨RepR.up s1 z.1 z.2, z.2⟩
      obtain ⟨B2, s2, h2, d2⟩ := frzs_ok h1 q2' e2
      exact ⟨B2, s1.trans s2, h2, .cons (d1.mono s2) d2⟩
def wTup (wr : WA) : WE := fun Ex δ P => wr Ex δ fun rs δ1 => ob (frzs δ1 rs) fun p => p.1.length ≤ sizeLine ∧ P (.d (.tuple p.1)) p.2
def wLst (wr : WA) : WE := fun Ex δ P => wr Ex δ fun rs δ1 => ob (frzs δ1 rs) fun p => p.1.length ≤ sizeLine ∧ P (.n (.l p.1)) p.2
def tTupF (t : TA) : TE := fun σ H Q => t σ H fun xs H1 => xs.length ≤ sizeLine ∧ ∀ (p : Addr) (o : Obj), H1 p = none → o.cls = .type "tuple" → o.dict = none → Q (.ref p) (upd H1 p (.frz o (.tup xs)))
theorem pe_tupF {X : Cx} {es : List Expr} {t : TA} {x1 : Nat} {pos : Pos} (h : PA X es t) : PE X (.Tuple es x1 pos) (tTupF t) := by
  refine ⟨fun pins s σ H Q I hq => ?_⟩
  refine wpAny_Tuple_spliced (thn (h.run pos pins s σ H _ I hq) fun us s1 ⟨xs, H1, I1, r, z, q⟩ => ⟨by rw [← r.length]; exact z, ?_⟩)
  have hf : H1 s1.heap.objs.size = none := I1.hok.fresh (Nat.le_refl _)
  refine ⟨.ref s1.heap.objs.size, upd H1 s1.heap.objs.size (.frz _ (.tup xs)), I1.laid (t' := s1.toks) (fun b u e => Heap.get?_push_of_some _ e) (Nat.le_refl _) ⟨Heap.get?_push_size _ rfl, (show ObjOk X.prog X.w _ _ _ (.tup xs) from ?_)⟩, rfl, q _ _ hf rfl rfl⟩
  exact ⟨z, us, r, ⟨_, Heap.get?_push_size _ rfl, rfl, _, rfl⟩⟩
theorem de_tup {es : List Expr} {wr : WA} {x1 : Nat} {pos : Pos} (h : DA S es wr) : DE S (.Tuple es x1 pos) (wTup wr) := by
  obtain ⟨t, p, s⟩ := h
  refine ⟨_, fun c hc => pe_tupF (p c hc), ⟨fun Ex Ex' δ P P' hx h w => s.mono _ _ _ _ _ hx (fun r δ1 w => w.imp fun z w => ⟨w.1, h _ _ w.2⟩) w, fun Ex F B H vs σ δ P Q hx h w k => ?_⟩⟩
  refine s.run _ _ _ _ _ _ _ _ _ hx h w fun B1 H1 ws rs δ1 s1 h1 q1 w1 => ?_
  obtain ⟨⟨ds, δ2⟩, e, hl, w1⟩ := w1
  obtain ⟨B2, s2, h2, d2⟩ := frzs_ok h1 q1 e
  refine ⟨by rw [d2.length]; exact hl, fun p o hp ec ed => ?_⟩
  exact k _ _ (.ref p) (.d (.tuple ds)) δ2 ((s1.trans s2).trans (same_new (nof h2.sb hp) _)) (h2.new hp _) (DD.tup ⟨o, upd_same, ec, ed⟩ (d2.mono (same_new (nof h2.sb hp) _))) w1
theorem de_lst {es : List Expr} {wr : WA} {pos : Pos} (h : DA S es wr) : DE S (.List es pos) (wLst wr) := by
  obtain ⟨t, p, s⟩ := h
  refine ⟨_, fun c hc => pe_lst (p c hc), ⟨fun Ex Ex' δ P P' hx h w => s.mono _ _ _ _ _ hx (fun r δ1 w => w.imp fun z w => ⟨w.1, h _ _ w.2⟩) w, fun Ex F B H vs σ δ P Q hx h w k => ?_⟩⟩
  refine s.run _ _ _ _ _ _ _ _ _ hx h w fun B1 H1 ws rs δ1 s1 h1 q1 w1 => ?_
  obtain ⟨⟨ds, δ2⟩, e, hl, w1⟩ := w1
  obtain ⟨B2, s2, h2, d2⟩ := frzs_ok h1 q1 e
  refine ⟨by rw [d2.length]; exact hl, fun p hp => ?_⟩
  exact k _ _ (.ref p) (.n (.l ds)) δ2 (s1.trans s2) (h2.newO hp _) ⟨p, rfl, foot_bf rfl (nof h2.sb hp) (nof h2.sf hp), ⟨ws, upd_same, d2⟩, h2.fresh hp _⟩ w1

/-! ### a call of what is built in -/
def OVs (K : PySem.W.Frag) (B H : Hp) : List V → List Vw → Prop := Paired fun v w => OV K B H v w
def rC (K : PySem.W.Frag) (f : List Vw → Option Rv) : List V → Hp → VK → Prop := fun xs H Q => ∃ B as rv, Same B H ∧ OVs K B H xs as ∧ f as = some rv ∧ RvK B H Q rv
def CallS (S : Sg) (fv : Value) (f : List Vw → Option Rv) : Prop := ∀ c, S.ok c → CallR (S.g.cx c) fv (rC S.g.K f)
def views (δ : SEnv) : List R → Option (List Vw)
  | [] => some []
  | r :: rs => (view δ r).bind fun w => (views δ rs).map fun ws => w :: ws
theorem views_ok {K : PySem.W.Frag} {F B H : Hp} {vs : List V} {σ : L2.St} {δ : SEnv} (h : Rep K F B H vs σ δ) : ∀ {rs : List R} {ws : List V} {as : List Vw}, RepRs K F B H σ δ ws rs → views δ rs = some as → OVs K B H ws as
  | [], _, _, q, e => by cases q; cases e; exact .nil
  | r :: rs, _, _, q, e => by
    cases q with
    | cons q1 q2 =>
      simp only [views] at e
      obtain ⟨w, e1, e⟩ := Option.bind_eq_some_iff.mp e
      obtain ⟨ws, e2, e⟩ := Option.map_eq_some_iff.mp e
      cases e
      exact .cons (view_ok h q1.1 e1) (views_ok h q2 e2)
def wCB (f : List Vw → Option Rv) (wr : WA) : WE := fun Ex δ P => wr Ex δ fun rs δ1 => ob (views δ1 rs) fun as => ob (f as) fun rv => P rv.r δ1
theorem sim_cb {K : PySem.W.Frag} {E : XK} {t : TA} {wr : WA} {f : List Vw → Option Rv} (s : ASim K E t wr) : ESim K E (tCB (rC K f) t) (wCB f wr) := by
  refine ⟨fun Ex Ex' δ P P' hx h w => s.mono _ _ _ _ _ hx (fun r δ1 w => w.imp fun as w => w.imp fun rv w => h _ _ w) w, fun Ex F B H vs σ δ P Q hx h w k => ?_⟩
  refine s.run _ _ _ _ _ _ _ _ _ hx h w fun B1 H1 ws rs δ1 s1 h1 q1 w1 => ?_
  obtain ⟨as, e1, rv, e2, w1⟩ := w1
  exact ⟨B1, as, rv, h1.sb, views_ok h1 q1 e1, e2, rvk_ok s1 h1 w1 k⟩
def GlS (sc : Scope) (x : Str) : Prop := sc.names.lookup x = some .globalImplicit
theorem gl_of {c : Cl} (hc : S.ok c) {x : Str} (h : GlS S.sc x) : Gl (S.g.cx c) x := by
  show c.env.scope.names.lookup x = some .globalImplicit
  rw [hc.hs]; exact h
theorem de_callB {e : Expr} {es : List Expr} {wr : WA} {x : Str} {id : String} {p pos : Pos} {f : List Vw → Option Rv} (hf : CallS S (.builtin id) f) (hg : GlS S.sc x) (hm : S.g.mg x = none) (hv : bootBuiltins x = some (.builtin id)) (ha : DA S (e :: es) wr)
    (hs : ∀ env, starEach (e :: es) env = (false, eval e env) :: starEach es env := by intro _; rfl) (hpl : ∀ env, (backTo pos (starEach es env)).any (·.1) = false := by intro _; rfl)
    (hn : x ≠ "__name__" := by decide) (hdb : (x == ("__debug__" : Str)) = false := by decide) : DE S (.Call (.Name x p) (e :: es) [] pos) (wCB f wr) := by
  obtain ⟨t, pa, s⟩ := ha
  exact ⟨_, fun c hc => pe_callB (hf c hc) (gl_of hc hg) hm hv (pa c hc) hn hdb (hs _) (hpl _), sim_cb s⟩
theorem de_callT {e : Expr} {es : List Expr} {wr : WA} {x : Str} {T : String} {p pos : Pos} {f : List Vw → Option Rv} (hf : CallS S (.type T) f) (hg : GlS S.sc x) (hm : S.g.mg x = none) (hv : bootBuiltins x = some (.type T)) (ha : DA S (e :: es) wr)
    (hs : ∀ env, starEach (e :: es) env = (false, eval e env) :: starEach es env := by intro _; rfl) (hpl : ∀ env, (backTo pos (starEach es env)).any (·.1) = false := by intro _; rfl)
    (hn : x ≠ "__name__" := by decide) (hdb : (x == ("__debug__" : Str)) = false := by decide) : DE S (.Call (.Name x p) (e :: es) [] pos) (wCB f wr) := by
  obtain ⟨t, pa, s⟩ := ha
  exact ⟨_, fun c hc => pe_callTy (hf c hc) (gl_of hc hg) hm hv (pa c hc) hn hdb (hs _) (hpl _), sim_cb s⟩
end
end DL
set_option Elab.async false
set_option linter.all false
set_option maxRecDepth 100000
set_option maxHeartbeats 4000000
set_option autoImplicit false
namespace DL
open PySem PySem.Spec PyProof.Rows L2

/-! ### a def's promise, over data -/
abbrev FSpec := List Sl → XP → (R → List Sl → Prop) → Prop
def spOf (K : PySem.W.Frag) (np : Nat) (W : FSpec) : Sp := fun vs H Q E => vs.length = np ∧ ∃ (F B : Hp) (ss : List Sl) (Ex : XP) (P : R → List Sl → Prop), Rep K F B H vs (vs.map some) (ss.map some) ∧ XOk F B E Ex ∧ W ss Ex P ∧
  ∀ B' H' v r ss', Same B B' → Rep K F B' H' vs (vs.map some) (ss'.map some) → RepR K F B' H' (vs.map some) (ss'.map some) v r → (∀ i, r ≠ .o i) → P r ss' → Q v H'

inductive CA where
  | d (d : PyData)
  | w (d : PyData)
  | p (ds : List PyData)
  | o (i : Nat)
def CA.ix : CA → Option Nat
  | .o i => some i
  | _ => none
/-- the arguments, frozen or lent -/
def lend : SEnv → List Bool → List R → Option (List CA × SEnv)
  | δ, _, [] => some ([], δ)
  | δ, true :: ms, .o i :: rs => (lend δ ms rs).map fun q => (.o i :: q.1, q.2)
  | δ, false :: ms, .w d :: rs => if scalar d then (lend δ ms rs).map fun q => (.d d :: q.1, q.2) else (lend δ ms rs).map fun q => (.w d :: q.1, q.2)
  | δ, false :: ms, .o i :: rs => match plainAt δ i with
    | some ds => (lend δ ms rs).map fun q => (.p ds :: q.1, q.2)
    | none => (frz δ (.o i)).bind fun p => (lend p.2 ms rs).map fun q => (.d p.1 :: q.1, q.2)
  | δ, false :: ms, r :: rs => (frz δ r).bind fun p => (lend p.2 ms rs).map fun q => (.d p.1 :: q.1, q.2)
  | _, _, _ => none
def slOf (δ : SEnv) : CA → Option Sl
  | .d d => some (.d d)
  | .w d => some (.w d)
  | .p ds => some (.o true (.pt ds))
  | .o i => match δ[i]? with
    | some (some (.o _ c)) => if c.simple then some (.o true c) else none
    | _ => none
def slsOf (δ : SEnv) : List CA → Option (List Sl)
  | [] => some []
  | a :: as => (slOf δ a).bind fun s => (slsOf δ as).map fun ss => s :: ss
def clear : SEnv → List CA → SEnv
  | δ, [] => δ
  | δ, .o i :: as => clear (δ.set i none) as
  | δ, _ :: as => clear δ as
/-- δ: as it was ahead (whose each lent slot is) -/
def back (δ : SEnv) : SEnv → List CA → List Sl → Option SEnv
  | δ', [], [] => some δ'
  | δ', .o i :: as, .o _ c :: ss => match δ[i]? with
    | some (some (.o b _)) => if c.simple then back δ (δ'.set i (some (.o b c))) as ss else none
    | _ => none
  | δ', .d _ :: as, _ :: ss => back δ δ' as ss
  | δ', .w _ :: as, _ :: ss => back δ δ' as ss
  | δ', .p _ :: as, _ :: ss => back δ δ' as ss
  | _, _, _ => none
def noO : R → Bool
  | .o _ => false
  | _ => true
@[irreducible] def wCall (np : Nat) (W : FSpec) (ms : List Bool) (wr : WA) : WE := fun Ex δ P => wr Ex δ fun rs δ1 => ob (lend δ1 ms rs) fun p => p.1.length = np ∧ (p.1.filterMap CA.ix).Nodup ∧ ob (slsOf p.2 p.1) fun ss =>
  W ss Ex fun r ss' => noO r = true → ob (back p.2 (clear p.2 p.1) p.1 ss') fun δ2 => P r δ2
def FMono (W : FSpec) : Prop := ∀ (ss : List Sl) (Ex Ex' : XP) (P P' : R → List Sl → Prop), (∀ e, Ex e → Ex' e) → (∀ r ss', P r ss' → P' r ss') → W ss Ex P → W ss Ex' P'

section
variable {K : PySem.W.Frag} {F H : Hp} {vs : List V} {σ : L2.St}
def CaOk (K : PySem.W.Frag) (B : Hp) (σ : L2.St) (v : V) : CA → Prop
  | .d d => DD B v d
  | .w d => DW K v d
  | .p ds => InP B v ds
  | .o i => σ[i]? = some (some v)
theorem CaOk.up {B B' : Hp} (s : Same B B') {v : V} {a : CA} (h : CaOk K B σ v a) : CaOk K B' σ v a := by
  cases a with
  | d d => exact DD.mono s h
  | w d => exact h
  | p ds => exact InP.mono s h
  | o i => exact h
theorem lend_ok : ∀ {rs : List R} {ms : List Bool} {ws : List V} {B : Hp} {δ δ' : SEnv} {as : List CA}, Rep K F B H vs σ δ → RepRs K F B H σ δ ws rs → lend δ ms rs = some (as, δ') →
    ∃ B', Same B B' ∧ Rep K F B' H vs σ δ' ∧ Paired (CaOk K B' σ) ws as
  | [], _, _, B, δ, _, _, h, q, e => by
    cases q
    simp only [lend] at e
    cases e
    exact ⟨B, Same.refl _, h, .nil⟩
  | r :: rs, ms, _, B, δ, δ', as, h, q, e => by
    cases q with
    | cons q1 q2 =>
      have fz : ∀ {m : List Bool} {v : V}, RepR K F B H σ δ v r → (∃ p, frz δ r = some p ∧ ∃ q, lend p.2 m rs = some q ∧ as = .d p.1 :: q.1 ∧ δ' = q.2) →
          ∀ {ws : List V}, RepRs K F B H σ δ ws rs → ∃ B', Same B B' ∧ Rep K F B' H vs σ δ' ∧ Paired (CaOk K B' σ) (v :: ws) as := by
        intro m v q1 ⟨⟨d, δ1⟩, e1, ⟨as1, δ2⟩, e2, e3, e4⟩ ws q2
        subst e3 e4
        obtain ⟨B1, s1, h1, d1⟩ := frz_ok h q1 e1
        have q2' := Paired.mapP q2 (G := fun v r => RepR K F B1 H σ δ1 v r ∧ ∀ c, r ≠ .n c) fun v r z => ⟨RepR.up s1 z.1 z.2, z.2⟩
        obtain ⟨B2, s2, h2, d2⟩ := lend_ok h1 q2' e2
        exact ⟨B2, s1.trans s2, h2, .cons (show CaOk K B2 σ v (.d d) from d1.mono s2) d2⟩
      cases ms with
      | nil => cases r <;> exact nomatch e
      | cons m ms =>
        cases m with
        | true =>
          cases r with
          | o i =>
            simp only [lend] at e
            obtain ⟨⟨as1, δ2⟩, e2, e⟩ := Option.map_eq_some_iff.mp e
            cases e
            obtain ⟨B2, s2, h2, d2⟩ := lend_ok h q2 e2
            exact ⟨B2, s2, h2, .cons (show CaOk K B2 σ _ (.o i) from q1.1) d2⟩
          | d d => exact nomatch e
          | w d => exact nomatch e
          | n c => exact nomatch e
        | false =>
          cases r with
          | w d =>
            simp only [lend] at e
            split at e
            · rename_i hs
              obtain ⟨⟨as1, δ2⟩, e2, e⟩ := Option.map_eq_some_iff.mp e
              cases e
              obtain ⟨B2, s2, h2, d2⟩ := lend_ok h q2 e2
              exact ⟨B2, s2, h2, .cons (show CaOk K B2 σ _ (.d d) from (DW.scal q1.1 hs : DD B2 _ d)) d2⟩
            · obtain ⟨⟨as1, δ2⟩, e2, e⟩ := Option.map_eq_some_iff.mp e
              cases e
              obtain ⟨B2, s2, h2, d2⟩ := lend_ok h q2 e2
              exact ⟨B2, s2, h2, .cons (show CaOk K B2 σ _ (.w d) from q1.1) d2⟩
          | d d =>
            simp only [lend] at e
            obtain ⟨p, e1, e⟩ := Option.bind_eq_some_iff.mp e
            obtain ⟨q, e2, e⟩ := Option.map_eq_some_iff.mp e
            cases e
            exact fz q1.1 ⟨p, e1, q, e2, rfl, rfl⟩ q2
          | o i =>
            simp only [lend] at e
            split at e
            · rename_i ds hpl
              obtain ⟨⟨as1, δ2⟩, e2, e⟩ := Option.map_eq_some_iff.mp e
              cases e
              obtain ⟨B2, s2, h2, d2⟩ := lend_ok h q2 e2
              exact ⟨B2, s2, h2, .cons (InP.mono s2 (plain_ok h q1.1 hpl)) d2⟩
            · obtain ⟨p, e1, e⟩ := Option.bind_eq_some_iff.mp e
              obtain ⟨q, e2, e⟩ := Option.map_eq_some_iff.mp e
              cases e
              exact fz q1.1 ⟨p, e1, q, e2, rfl, rfl⟩ q2
          | n c => exact absurd rfl (q1.2 c)

/-- a slot takes an object of its own (its value as it is) -/
theorem Rep.own {B : Hp} {δ : SEnv} (h : Rep K F B H vs σ δ) {i : Nat} {a : Addr} {b : Bool} {c : Cont} (e : σ[i]? = some (some (.ref a))) (hBF : ∀ p, Foot H a c p → B p = none ∧ F p = none) (q : ContOk B H a c)
    (hn : ∀ (j : Nat) (b' : Bool) (c' : Cont) (a' p : Addr), j ≠ i → δ[j]? = some (some (.o b' c')) → σ[j]? = some (some (.ref a')) → Foot H a' c' p → ¬ Foot H a c p) (hb : b = true → vs[i]? = some (.ref a)) : Rep K F B H vs σ (δ.set i (some (.o b c))) := by
  refine ⟨h.sb, h.sf, h.dj, by rw [List.length_set]; exact h.len, fun j s e1 => ?_, fun j k a1 a2 p b1 c1 b2 c2 e1 e2 e3 e4 f1 f2 => ?_, fun j c' e1 => ?_, h.nt⟩
  · rcases set_get e1 with ⟨rfl, z⟩ | ⟨_, z⟩
    · cases z; exact ⟨_, e, a, rfl, hBF, q⟩
    · exact h.ok j s z
  · rcases set_get e1 with ⟨ej, z⟩ | ⟨nj, z⟩
    · rcases set_get e2 with ⟨ek, z2⟩ | ⟨nk, z2⟩
      · rw [ej, ek]
      · subst ej
        rw [e] at e3; cases e3; cases z
        exact absurd f1 (hn k b2 c2 a2 p nk z2 e4 f2)
    · rcases set_get e2 with ⟨ek, z2⟩ | ⟨nk, z2⟩
      · subst ek
        rw [e] at e4; cases e4; cases z2
        exact absurd f2 (hn j b1 c1 a1 p nj z e3 f1)
      · exact h.apart j k a1 a2 p b1 c1 b2 c2 z z2 e3 e4 f1 f2
  · rcases set_get e1 with ⟨rfl, z⟩ | ⟨_, z⟩
    · cases z; exact ⟨_, e, hb rfl⟩
    · exact h.bor j c' z
theorem Rep.clear {B : Hp} : ∀ {as : List CA} {δ : SEnv}, Rep K F B H vs σ δ → Rep K F B H vs σ (clear δ as)
  | [], _, h => h
  | .o i :: as, _, h => Rep.clear (as := as) (h.forget i)
  | .d _ :: as, _, h => Rep.clear (as := as) h
  | .w _ :: as, _, h => Rep.clear (as := as) h
  | .p _ :: as, _, h => Rep.clear (as := as) h
theorem clear_get : ∀ {as : List CA} {δ : SEnv} {j : Nat} {s : Sl}, (DL.clear δ as)[j]? = some (some s) → δ[j]? = some (some s) ∧ j ∉ as.filterMap CA.ix
  | [], _, _, _, e => ⟨e, by simp⟩
  | .o i :: as, δ, j, s, e => by
    obtain ⟨e1, e2⟩ := clear_get (as := as) (δ := δ.set i none) e
    rcases set_get e1 with ⟨_, z⟩ | ⟨n, z⟩
    · cases z
    · refine ⟨z, ?_⟩
      intro hm
      have hm : j ∈ i :: as.filterMap CA.ix := hm
      rcases List.mem_cons.mp hm with hm | hm
      · exact n hm
      · exact e2 hm
  | .d _ :: as, δ, j, s, e => by
    obtain ⟨e1, e2⟩ := clear_get (as := as) (δ := δ) e
    exact ⟨e1, e2⟩
  | .w _ :: as, δ, j, s, e => by
    obtain ⟨e1, e2⟩ := clear_get (as := as) (δ := δ) e
    exact ⟨e1, e2⟩
  | .p _ :: as, δ, j, s, e => by
    obtain ⟨e1, e2⟩ := clear_get (as := as) (δ := δ) e
    exact ⟨e1, e2⟩
theorem paired_get {α β : Type} {G : α → β → Prop} : ∀ {xs : List α} {ys : List β} {j : Nat} {y : β}, Paired G xs ys → ys[j]? = some y → ∃ x, xs[j]? = some x ∧ G x y
  | _, _, _, _, .nil, e => by simp at e
  | _, _, 0, _, .cons q _, e => by simp at e; subst e; exact ⟨_, rfl, q⟩
  | _, _, j + 1, _, .cons _ r, e => by
    obtain ⟨x, e1, q⟩ := paired_get (j := j) r (by simpa using e)
    exact ⟨x, by simpa using e1, q⟩
theorem sls_get {δ : SEnv} : ∀ {as : List CA} {ss : List Sl} {j : Nat} {s : Sl}, slsOf δ as = some ss → ss[j]? = some s → ∃ a, as[j]? = some a ∧ slOf δ a = some s
  | [], _, _, _, e, e2 => by cases e; simp at e2
  | a :: as, _, j, s, e, e2 => by
    simp only [slsOf] at e
    obtain ⟨s0, e3, e⟩ := Option.bind_eq_some_iff.mp e
    obtain ⟨ss0, e4, e⟩ := Option.map_eq_some_iff.mp e
    cases e
    cases j with
    | zero => simp at e2; subst e2; exact ⟨a, rfl, e3⟩
    | succ j =>
      obtain ⟨a', e5, e6⟩ := sls_get (j := j) e4 (by simpa using e2)
      exact ⟨a', by simpa using e5, e6⟩
theorem sls_len {δ : SEnv} : ∀ {as : List CA} {ss : List Sl}, slsOf δ as = some ss → ss.length = as.length
  | [], _, e => by cases e; rfl
  | a :: as, _, e => by
    simp only [slsOf] at e
    obtain ⟨s0, e3, e⟩ := Option.bind_eq_some_iff.mp e
    obtain ⟨ss0, e4, e⟩ := Option.map_eq_some_iff.mp e
    cases e
    rw [List.length_cons, List.length_cons, sls_len e4]
theorem sls_own {δ : SEnv} {i : Nat} : ∀ {as : List CA} {ss : List Sl}, slsOf δ as = some ss → i ∈ as.filterMap CA.ix → ∃ b c, δ[i]? = some (some (.o b c)) ∧ c.simple = true
  | [], _, _, h => by simp at h
  | a :: as, _, e, h => by
    simp only [slsOf] at e
    obtain ⟨s0, e3, e⟩ := Option.bind_eq_some_iff.mp e
    obtain ⟨ss0, e4, e⟩ := Option.map_eq_some_iff.mp e
    cases e
    cases a with
    | o k =>
      have h : i ∈ k :: as.filterMap CA.ix := h
      rcases List.mem_cons.mp h with rfl | h
      · simp only [slOf] at e3
        split at e3
        · split at e3
          · exact ⟨_, _, by assumption, by assumption⟩
          · cases e3
        · cases e3
      · exact sls_own e4 h
    | d d => exact sls_own e4 h
    | w d => exact sls_own e4 h
    | p ds => exact sls_own e4 h
theorem ix_mem : ∀ {as : List CA} {j i : Nat}, as[j]? = some (.o i) → i ∈ as.filterMap CA.ix := fun {as j i} h =>
  List.mem_filterMap.mpr ⟨.o i, List.mem_of_getElem? h, rfl⟩
theorem ix_inj : ∀ {as : List CA} {j k i : Nat}, (as.filterMap CA.ix).Nodup → as[j]? = some (.o i) → as[k]? = some (.o i) → j = k
  | [], j, k, i, _, e, _ => by simp at e
  | a :: as, j, k, i, h, e1, e2 => by
    have hr : (as.filterMap CA.ix).Nodup := by
      cases a with
      | o m => exact (List.nodup_cons.mp (show (m :: as.filterMap CA.ix).Nodup from h)).2
      | d d => exact h
      | w d => exact h
      | p d => exact h
    cases j with
    | zero =>
      cases k with
      | zero => rfl
      | succ k =>
        simp at e1; subst e1
        have e2 : as[k]? = some (.o i) := by simpa using e2
        exact absurd (ix_mem e2) (List.nodup_cons.mp (show (i :: as.filterMap CA.ix).Nodup from h)).1
    | succ j =>
      cases k with
      | zero =>
        simp at e2; subst e2
        have e1 : as[j]? = some (.o i) := by simpa using e1
        exact absurd (ix_mem e1) (List.nodup_cons.mp (show (i :: as.filterMap CA.ix).Nodup from h)).1
      | succ k => rw [ix_inj (j := j) (k := k) hr (by simpa using e1) (by simpa using e2)]
theorem back_ok {Fc B H H1 B1 : Hp} {δ : SEnv} (h0 : Rep K F B1 H1 vs σ δ) : ∀ {as : List CA} {ws : List V} {ss : List Sl} {δ1 δ2 : SEnv}, Rep K F B H vs σ δ1 → (∀ (j : Nat) (b : Bool) (c : Cont) (a p : Addr), δ1[j]? = some (some (.o b c)) → σ[j]? = some (some (.ref a)) → Foot H a c p → ∃ b' c', δ[j]? = some (some (.o b' c')) ∧ Foot H1 a c' p) →
    Paired (CaOk K B σ) ws as → (∀ (j : Nat) (v : V) (s : Sl), ws[j]? = some v → ss[j]? = some s → SlOk K Fc B H v s) → (∀ (j i : Nat) (a : Addr), as[j]? = some (.o i) → σ[i]? = some (some (.ref a)) → F a = none) → (∀ (i : Nat) (c : Cont) (b : Bool), δ[i]? = some (some (.o b c)) → ∀ (j : Nat), as[j]? = some (.o i) → c.real = true) → back δ δ1 as ss = some δ2 →
    Rep K F B H vs σ δ2 ∧ (∀ (j i : Nat), as[j]? = some (.o i) → ∃ b c, c.simple = true ∧ ss[j]? = some (.o b c)) ∧
      ∀ (j : Nat) (b : Bool) (c : Cont), δ2[j]? = some (some (.o b c)) → δ1[j]? = some (some (.o b c)) ∨ (c.simple = true ∧ j ∈ as.filterMap CA.ix) := by
  intro as
  induction as with
  | nil =>
    intro ws ss δ1 δ2 h hi _ _ _ _ e
    cases ss with
    | nil => cases e; exact ⟨h, fun j i e => by simp at e, fun j b c e => .inl e⟩
    | cons _ _ => exact nomatch e
  | cons a as ih =>
    intro ws ss δ1 δ2 h hi hp hs hF hcc e
    cases hp with
    | cons q1 q2 =>
      cases ss with
      | nil => cases a <;> exact nomatch e
      | cons s ss =>
        have hs' : ∀ (j : Nat) (v : V) (s : Sl), _ → _ → SlOk K Fc B H v s := fun j v s e1 e2 => hs (j + 1) v s (by simpa using e1) (by simpa using e2)
        have hF' : ∀ (j i : Nat) (a : Addr), as[j]? = some (.o i) → σ[i]? = some (some (.ref a)) → F a = none := fun j i a e1 e2 => hF (j + 1) i a (by simpa using e1) e2
        have hcc' : ∀ (i : Nat) (c : Cont) (b : Bool), δ[i]? = some (some (.o b c)) → ∀ (j : Nat), as[j]? = some (.o i) → c.real = true := fun i c b e1 j e2 => hcc i c b e1 (j + 1) (by simpa using e2)
        have dat : back δ δ1 as ss = some δ2 → (∀ i, a ≠ .o i) → _ := fun e na => by
          obtain ⟨r1, r3, r4⟩ := ih h hi q2 hs' hF' hcc' e
          refine (⟨r1, fun j i e => ?_, fun j b c e => ?_⟩ : Rep K F B H vs σ δ2 ∧ (∀ (j i : Nat), (a :: as)[j]? = some (.o i) → ∃ b c, c.simple = true ∧ (s :: ss)[j]? = some (.o b c)) ∧
            ∀ (j : Nat) (b : Bool) (c : Cont), δ2[j]? = some (some (.o b c)) → δ1[j]? = some (some (.o b c)) ∨ (c.simple = true ∧ j ∈ (a :: as).filterMap CA.ix))
          · cases j with
            | zero => simp at e; exact absurd e (na i)
            | succ j => simpa using r3 j i (by simpa using e)
          · rcases r4 j b c e with z | ⟨z1, z⟩
            · exact .inl z
            · refine .inr ⟨z1, ?_⟩
              cases a with
              | o i => exact absurd rfl (na i)
              | d d => exact z
              | w d => exact z
              | p d => exact z
        cases a with
        | d d => exact dat (by cases s <;> exact e) (fun _ z => nomatch z)
        | w d => exact dat (by cases s <;> exact e) (fun _ z => nomatch z)
        | p d => exact dat (by cases s <;> exact e) (fun _ z => nomatch z)
        | o i =>
          cases s with
          | d d => exact nomatch e
          | w d => exact nomatch e
          | o b0 c0 =>
            simp only [back] at e
            split at e
            · rename_i bb cc hδ
              split at e
              · rename_i hsim
                obtain ⟨a, ea, hBF, qc⟩ := hs 0 _ (.o b0 c0) rfl rfl
                have es : σ[i]? = some (some (.ref a)) := by rw [← ea]; exact q1
                have h2 := h.own (b := bb) es (fun p f => ⟨(hBF p f).1, by cases foot_one hsim f; exact hF 0 i _ rfl es⟩) qc (fun j b' c' a' p nj e4 e5 f5 f6 => by
                  obtain ⟨b2, c2, e6, f7⟩ := hi j b' c' a' p e4 e5 f5
                  cases foot_one hsim f6
                  exact nj (h0.apart j i a' _ _ b2 c2 bb cc e6 hδ e5 es f7 (foot_self (hcc i cc bb hδ 0 rfl)))) (fun eb => by
                  subst eb
                  obtain ⟨v2, e7, e8⟩ := h0.bor i cc hδ
                  rw [es] at e7; cases e7
                  exact e8)
                obtain ⟨r1, r3, r4⟩ := ih h2 (fun j b c a' p e4 e5 f5 => by
                  rcases set_get e4 with ⟨rfl, z⟩ | ⟨_, z⟩
                  · cases z
                    rw [es] at e5; cases e5
                    cases foot_one hsim f5
                    exact ⟨_, _, hδ, foot_self (hcc _ cc bb hδ 0 rfl)⟩
                  · exact hi j b c a' p z e5 f5) q2 hs' hF' hcc' e
                refine ⟨r1, fun j k e4 => ?_, fun j b c e4 => ?_⟩
                · cases j with
                  | zero => exact ⟨b0, c0, hsim, rfl⟩
                  | succ j => simpa using r3 j k (by simpa using e4)
                · have hm : ∀ {z : Nat}, z ∈ as.filterMap CA.ix → z ∈ (CA.o i :: as).filterMap CA.ix := fun hz => List.mem_cons_of_mem i hz
                  rcases r4 j b c e4 with z | ⟨z1, z⟩
                  · rcases set_get z with ⟨rfl, z2⟩ | ⟨_, z⟩
                    · cases z2
                      exact .inr ⟨hsim, List.mem_cons_self (a := j) (l := as.filterMap CA.ix)⟩
                    · exact .inl z
                  · exact .inr ⟨z1, hm z⟩
              · cases e
            · cases e
end
end DL
set_option Elab.async false
set_option linter.all false
set_option maxRecDepth 100000
set_option maxHeartbeats 4000000
set_option autoImplicit false
namespace DL
open PySem PySem.Spec PyProof.Rows L2
open Classical in
/-- what a callee may not touch: all that is not data and not lent to it -/
noncomputable def frame (B H : Hp) (σ : L2.St) (ix : List Nat) : Hp := fun a => if (∃ o, B a = some o) ∨ ∃ i, i ∈ ix ∧ σ[i]? = some (some (.ref a)) then none else H a
theorem frame_some {B H : Hp} {σ : L2.St} {ix : List Nat} {a : Addr} {o : HO} (e : frame B H σ ix a = some o) : B a = none ∧ (∀ i, i ∈ ix → σ[i]? ≠ some (some (.ref a))) ∧ H a = some o := by
  unfold frame at e
  split at e
  · cases e
  · rename_i h
    refine ⟨?_, fun i hi z => h (.inr ⟨i, hi, z⟩), e⟩
    cases q : B a with
    | none => rfl
    | some u => exact absurd (.inl ⟨u, q⟩) h
theorem frame_eq {B H : Hp} {σ : L2.St} {ix : List Nat} {a : Addr} (h1 : B a = none) (h2 : ∀ i, i ∈ ix → σ[i]? ≠ some (some (.ref a))) : frame B H σ ix a = H a := by
  unfold frame
  rw [if_neg]
  rintro (⟨o, z⟩ | ⟨i, hi, z⟩)
  · rw [h1] at z; cases z
  · exact h2 i hi z
theorem frame_none {B H : Hp} {σ : L2.St} {ix : List Nat} {a : Addr} {i : Nat} (hi : i ∈ ix) (e : σ[i]? = some (some (.ref a))) : frame B H σ ix a = none := by
  unfold frame
  rw [if_pos (.inr ⟨i, hi, e⟩)]
section
variable {S : Sg} {CX : CXT}
theorem call_run {K : PySem.W.Frag} {E : XK} {np : Nat} {W : FSpec} {Ex : XP} {F B0 B1 H1 : Hp} {vs : List V} {σ : L2.St} {δ1 δ2 : SEnv} {ws : List V} {rs : List R} {ms : List Bool} {as : List CA} {ss : List Sl} {P : R → SEnv → Prop} {Q : VK}
    (hx : XOk F B1 E Ex) (s0 : Same B0 B1) (h1 : Rep K F B1 H1 vs σ δ1) (q1 : RepRs K F B1 H1 σ δ1 ws rs) (e1 : lend δ1 ms rs = some (as, δ2)) (hl : as.length = np) (nd : (as.filterMap CA.ix).Nodup) (e2 : slsOf δ2 as = some ss)
    (w1 : W ss Ex fun r ss' => noO r = true → ob (back δ2 (clear δ2 as) as ss') fun δ3 => P r δ3)
    (k : ∀ B' H' v r δ', Same B0 B' → Rep K F B' H' vs σ δ' → RepR K F B' H' σ δ' v r → P r δ' → Q v H') : spOf K np W ws H1 Q E := by
  obtain ⟨B2, s2, h2, d2⟩ := lend_ok h1 q1 e1
  have hwl : ws.length = as.length := Paired.length d2
  -- the lent slots
  have lent : ∀ {j i : Nat}, as[j]? = some (.o i) → ∃ a b c, ws[j]? = some (.ref a) ∧ σ[i]? = some (some (.ref a)) ∧ δ2[i]? = some (some (.o b c)) ∧ c.simple = true ∧ B2 a = none ∧ F a = none ∧ ContOk B2 H1 a c := by
    intro j i e
    obtain ⟨v, e3, q3⟩ := paired_get d2 e
    obtain ⟨b, c, e4, hs⟩ := sls_own e2 (ix_mem e)
    obtain ⟨v', e5, a, ea, hBF, qc⟩ := h2.ok i _ e4
    have q3 : σ[i]? = some (some v) := q3
    rw [q3] at e5; cases e5
    subst ea
    exact ⟨a, b, c, e3, q3, e4, hs, (hBF a (foot_self (real_of hs))).1, (hBF a (foot_self (real_of hs))).2, qc⟩
  have hFF : ∀ a o, F a = some o → frame B2 H1 σ (as.filterMap CA.ix) a = some o := fun a o e => by
    rw [frame_eq (h2.dj a o e) (fun i hi z => ?_)]
    · exact h2.sf a o e
    · obtain ⟨b, c, e4, hs⟩ := sls_own e2 hi
      obtain ⟨v', e5, a', ea, hBF, _⟩ := h2.ok i _ e4
      rw [z] at e5; cases e5; cases ea
      have hF := (hBF a (foot_self (real_of hs))).2
      rw [e] at hF; cases hF
  -- what belongs to the caller's other slots stands in the frame
  have keep : ∀ {i : Nat} {b : Bool} {c : Cont} {a p : Addr}, δ2[i]? = some (some (.o b c)) → i ∉ as.filterMap CA.ix → σ[i]? = some (some (.ref a)) → Foot H1 a c p → ∃ u, H1 p = some u ∧ frame B2 H1 σ (as.filterMap CA.ix) p = some u ∧ F p = none := by
    intro i b c a p e ni ea f
    obtain ⟨hBF, qc⟩ := h2.own_up e ea
    obtain ⟨u, hu⟩ := qc.there f
    refine ⟨u, hu, ?_, (hBF p f).2⟩
    rw [frame_eq (hBF p f).1 (fun i' hi' z => ?_)]
    · exact hu
    · obtain ⟨b', c', e6, hs⟩ := sls_own e2 hi'
      have := h2.apart i i' a p p b c b' c' e e6 ea z f (foot_self (real_of hs))
      subst this
      exact ni hi'
  refine ⟨by rw [hwl, hl], frame B2 H1 σ (as.filterMap CA.ix), B2, ss, Ex, _, ⟨h2.sb, fun a o e => (frame_some e).2.2, fun a o e => (frame_some e).1, ?_, ?_, ?_, ?_, h2.nt⟩, ?_, w1, ?_⟩
  · rw [List.length_map, List.length_map, hwl, sls_len e2]
  · intro j s e
    rw [List.getElem?_map] at e
    obtain ⟨s0, e3, e4⟩ := Option.map_eq_some_iff.mp e
    cases e4
    obtain ⟨a, e5, e6⟩ := sls_get e2 e3
    obtain ⟨v, e7, q7⟩ := paired_get d2 e5
    refine ⟨v, by rw [List.getElem?_map, e7]; rfl, ?_⟩
    cases a with
    | d d => cases e6; exact q7
    | w d => cases e6; exact q7
    | p ds =>
      cases e6
      obtain ⟨a, o, xs, g1, g2, g3, g4, g5⟩ := q7
      exact ⟨a, g1, fun p f => f.elim, o, xs, g2, g3, g4, g5⟩
    | o i =>
      obtain ⟨p, b, c, e8, e9, e10, hsim, hB, hF, qc⟩ := lent e5
      rw [e7] at e8; cases e8
      simp only [slOf, e10, hsim] at e6
      cases e6
      exact ⟨p, rfl, foot_bf hsim hB (frame_none (ix_mem e5) e9), qc⟩
  · intro j m a a' q b c b' c' e3 e4 e5 e6 f1 f2
    rw [List.getElem?_map] at e3 e4 e5 e6
    obtain ⟨s1, e3, z⟩ := Option.map_eq_some_iff.mp e3; cases z
    obtain ⟨s2', e4, z⟩ := Option.map_eq_some_iff.mp e4; cases z
    obtain ⟨v1, e5, z⟩ := Option.map_eq_some_iff.mp e5; cases z
    obtain ⟨v2, e6, z⟩ := Option.map_eq_some_iff.mp e6; cases z
    obtain ⟨a1, e7, e8⟩ := sls_get e2 e3
    obtain ⟨a2, e9, e10⟩ := sls_get e2 e4
    cases a1 with
    | d d => cases e8
    | w d => cases e8
    | p d => cases e8; exact f1.elim
    | o i1 =>
      cases a2 with
      | d d => cases e10
      | w d => cases e10
      | p d => cases e10; exact f2.elim
      | o i2 =>
        obtain ⟨p1, b1, c1, g1, g2, g3, g4, _⟩ := lent e7
        obtain ⟨p2, b2, c2, k1, k2, k3, k4, _⟩ := lent e9
        rw [e5] at g1; cases g1
        rw [e6] at k1; cases k1
        simp only [slOf, g3, g4] at e8; cases e8
        simp only [slOf, k3, k4] at e10; cases e10
        have ei := h2.apart i1 i2 a a' q b1 c b2 c' g3 k3 g2 k2 f1 f2
        subst ei
        exact ix_inj nd e7 e9
  · intro j c e
    rw [List.getElem?_map] at e
    obtain ⟨s0, e3, e4⟩ := Option.map_eq_some_iff.mp e
    cases e4
    obtain ⟨a, e5, e6⟩ := sls_get e2 e3
    obtain ⟨v, e7, q7⟩ := paired_get d2 e5
    exact ⟨v, by rw [List.getElem?_map, e7]; rfl, e7⟩
  · intro cls da B' H' fs fds t1 t2 t3 t4 t5 t6 t7
    refine hx cls da B' H' fs fds ⟨s2.trans t1.1, t1.2⟩ t2 (fun a o e => t3 a o (hFF a o e)) (fun a o e => t4 a o (hFF a o e)) t5 t6 t7
  · intro B' H' v r ss' s3 h3 q3 nO w3
    have nO' : noO r = true := by
      cases r with
      | o i => exact absurd rfl (nO i)
      | d d => rfl
      | w d => rfl
      | n c => rfl
    obtain ⟨δ3, e3, w3⟩ := w3 nO'
    -- the caller's slots behind the call, but for the lent ones
    have stay : ∀ {i : Nat} {b : Bool} {c : Cont} {a : Addr}, (clear δ2 as)[i]? = some (some (.o b c)) → σ[i]? = some (some (.ref a)) → ∀ p, Foot H1 a c p → H' p = H1 p ∧ B' p = none ∧ F p = none := by
      intro i b c a e ea p f
      obtain ⟨e4, ni⟩ := clear_get e
      obtain ⟨u, hu, hfr, hF⟩ := keep e4 ni ea f
      exact ⟨by rw [hu]; exact h3.sf p u hfr, h3.dj p u hfr, hF⟩
    have same : ∀ {i : Nat} {b : Bool} {c : Cont} {a p : Addr}, (clear δ2 as)[i]? = some (some (.o b c)) → σ[i]? = some (some (.ref a)) → (Foot H' a c p ↔ Foot H1 a c p) := fun e ea => foot_eq fun p f => (stay e ea p f).1
    have hc : Rep K F B' H' vs σ (clear δ2 as) := by
      refine ⟨h3.sb, fun a o e => h3.sf a o (hFF a o e), fun a o e => h3.dj a o (hFF a o e), (h2.clear (as := as)).len, fun i s e => ?_, fun i j a a' p b c b' c' e1 e2 e3 e4 f1 f2 => (h2.clear (as := as)).apart i j a a' p b c b' c' e1 e2 e3 e4 ((same e1 e3).mp f1) ((same e2 e4).mp f2), (h2.clear (as := as)).bor, h3.nt⟩
      obtain ⟨e4, ni⟩ := clear_get e
      obtain ⟨v', e5, q5⟩ := h2.ok i s e4
      refine ⟨v', e5, ?_⟩
      cases s with
      | d d => exact DD.mono s3 q5
      | w d => exact q5
      | o b c =>
        obtain ⟨a, ea, hBF, qc⟩ := q5
        subst ea
        exact ⟨a, rfl, fun p f => (stay e e5 p ((same e e5).mp f)).2, qc.mono s3 fun p f => (stay e e5 p f).1⟩
    obtain ⟨r1, r3, r4⟩ := back_ok (Fc := frame B2 H1 σ (as.filterMap CA.ix)) h2 (as := as) (ws := ws) (ss := ss') hc (fun j b c a p e e2 f => ⟨b, c, (clear_get e).1, (same e e2).mp f⟩) (Paired.mapP d2 fun v a z => z.up s3) (fun j v s e4 e5 => by
      obtain ⟨v', e6, q6⟩ := h3.ok j s (by rw [List.getElem?_map, e5]; rfl)
      rw [List.getElem?_map, e4] at e6
      cases e6
      exact q6) (fun j i a e4 e5 => by
      obtain ⟨a', _, _, _, g2, _, _, _, hF, _⟩ := lent e4
      rw [e5] at g2; cases g2
      exact hF) (fun i c b e4 j e5 => by
      obtain ⟨_, _, _, _, _, g3, g4, _⟩ := lent e5
      rw [e4] at g3; cases g3
      exact real_of g4) e3
    refine k B' H' v r δ3 (s0.trans (s2.trans s3)) r1 ?_ w3
    cases r with
    | d d => exact q3
    | w d => exact q3
    | o i => exact absurd rfl (nO i)
    | n c =>
      obtain ⟨a, ea, hBF, qc, hn⟩ := q3
      refine ⟨a, ea, fun p f => ⟨(hBF p f).1, ?_⟩, qc, fun i b c' a' p e4 e5 f f' => ?_⟩
      · have hF := (hBF p f).2
        cases hf : F p with
        | none => rfl
        | some o => rw [hFF p o hf] at hF; cases hF
      · rcases r4 i b c' e4 with z | ⟨hsim, hi⟩
        · obtain ⟨z1, ni⟩ := clear_get z
          obtain ⟨u, _, hfr, _⟩ := keep z1 ni e5 ((same z e5).mp f)
          have hF := (hBF p f').2
          rw [hfr] at hF; cases hF
        · obtain ⟨a0, ha0, ha1⟩ := List.mem_filterMap.mp hi
          obtain ⟨j, hj, hj2⟩ := List.getElem_of_mem ha0
          have ej : as[j]? = some a0 := by rw [List.getElem?_eq_getElem hj, hj2]
          cases a0 with
          | d d => cases ha1
          | w d => cases ha1
          | p d => cases ha1
          | o i0 =>
            cases ha1
            obtain ⟨p2, b2, c2, g1, g2, _⟩ := lent ej
            obtain ⟨b3, c3, g4, g3⟩ := r3 j i ej
            rw [e5] at g2; cases g2
            cases foot_one hsim f
            exact hn j b3 c3 a' a' (by rw [List.getElem?_map, g3]; rfl) (by rw [List.getElem?_map, g1]; rfl) (foot_self (real_of g4)) f'
theorem sim_call {K : PySem.W.Frag} {E : XK} {np : Nat} {W : FSpec} {ms : List Bool} {t : TA} {wr : WA} (hW : FMono W) (s : ASim K E t wr) : ESim K E (tCall (spOf K np W) [] E t) (wCall np W ms wr) := by
  refine ⟨fun Ex Ex' δ P P' hx h w => ?_, fun Ex F B H vs σ δ P Q hx h w k => ?_⟩
  · unfold wCall at w ⊢
    refine s.mono _ _ _ _ _ hx (fun rs δ1 w => w.imp fun p w => ⟨w.1, w.2.1, w.2.2.imp fun ss w => ?_⟩) w
    exact hW _ _ _ _ _ hx (fun r ss' w n => (w n).imp fun δ2 w => h _ _ w) w
  · unfold wCall at w
    refine s.run _ _ _ _ _ _ _ _ _ hx h w fun B1 H1 ws rs δ1 s1 h1 q1 w1 => ?_
    obtain ⟨⟨as, δ2⟩, e1, hl, nd, ss, e2, w1⟩ := w1
    show spOf K np W (ws ++ []) H1 Q E
    rw [List.append_nil]
    exact call_run (hx.up s1) s1 h1 q1 e1 hl nd e2 w1 k
/-! ### a def's word where nothing is being shown (repr) around it -/
structure FnG (g : Gx) (CX : CXT) (k : Nat) (f : Addr) (fd : FuncData) (ps : List Str) (sp : Sp) : Prop where
  len : ∀ vs H Q E, sp vs H Q E → vs.length = ps.length
  run : ∀ (A : Around) (outer : List Env) (sh : Shared) (H : Hp) (args : Args) (us : List Value) (vs : List V) (Q : VK) (E : XK), A.guards = some [] → Room k A → Env0 g.P g.w g.K g.mg g.base A outer sh H →
    BindsTo sh fd args (ps.zip us) → Vals vs us → sp vs H Q E → codeAny (model g.P g.w) A (.call (.ref f) args) (CR CX outer g.P g.w H sh Q E) sh
theorem FnG.imp {g : Gx} {CX : CXT} {k : Nat} {f : Addr} {fd : FuncData} {ps : List Str} {sp sp' : Sp} (Fk : FnG g CX k f fd ps sp) (h : ∀ vs H Q E, sp' vs H Q E → sp vs H Q E) : FnG g CX k f fd ps sp' :=
  ⟨fun vs H Q E q => Fk.len vs H Q E (h _ _ _ _ q), fun A outer sh H args us vs Q E hg hr he hb hv hs => Fk.run A outer sh H args us vs Q E hg hr he hb hv (h _ _ _ _ hs)⟩
theorem FnG.mono {g : Gx} {CX : CXT} {j k : Nat} {f : Addr} {fd : FuncData} {ps : List Str} {sp : Sp} (Fk : FnG g CX j f fd ps sp) (h : j ≤ k) : FnG g CX k f fd ps sp :=
  ⟨Fk.len, fun A outer sh H args us vs Q E hg hr => Fk.run A outer sh H args us vs Q E hg (hr.mono h)⟩
theorem runG {g : Gx} {c : Cl} {k : Nat} {f : Addr} {fd : FuncData} {ps : List Str} {sp : Sp} {E : XK} {pins : List (Addr × Obj)} {σ : L2.St} {H : Hp} {sh : Shared} {Q : VK} {us : List Value} {vs : List V} (Fk : FnG g CX k f fd ps sp) (hgd : c.A.guards = some [])
    (hr : Room k c.A) (hb : Binds g.K fd ps []) (hx : Passes CX (g.cx c) E) (I : Inv (g.cx c) pins σ H sh) (rv : Vals vs us) (h : sp vs H Q E) : wpAny (model g.P g.w) c.A (call (.ref f) us) (EP (g.cx c) pins σ Q) c.xe sh := by
  have hl : us.length = ps.length := rv.length.symm.trans (Fk.len _ _ _ _ h)
  have hbd := hb sh us I.kIn (by rw [List.append_nil]; exact hl)
  rw [List.append_nil] at hbd
  refine wpAny_call (codeAny_mono (Fk.run c.A c.stack sh H _ us vs Q E hgd hr I.env0 hbd rv h) fun res sh' hq => ?_)
  cases res with
  | error e => exact hx _ _ _ _ _ _ I hq
  | ok fl => cases fl with
    | ret u => exact I.after hq
    | _ => exact hq.elim
theorem de_call {np k : Nat} {W : FSpec} {ms : List Bool} {wr : WA} {x : Str} {f : Addr} {fd : FuncData} {ps : List Str} {p pos : Pos} {e : Expr} {es : List Expr} (hW : FMono W) (Fk : FnG S.g S.CX k f fd ps (spOf S.g.K np W)) (hk : k ≤ S.k)
    (hg : GlS S.sc x) (hm : S.g.mg x = some (.ref f)) (hkp : PySem.W.keepIn S.g.K (.ref f) = true) (hb : Binds S.g.K fd ps []) (ha : DA S (e :: es) wr)
    (hs : ∀ env, starEach (e :: es) env = (false, eval e env) :: starEach es env := by intro _; rfl) (hpl : ∀ env, (backTo pos (starEach es env)).any (·.1) = false := by intro _; rfl) (hdb : (x == ("__debug__" : Str)) = false := by decide) :
    DE S (.Call (.Name x p) (e :: es) [] pos) (wCall np W ms wr) := by
  obtain ⟨t, pa, s⟩ := ha
  refine ⟨_, fun c hc => ⟨fun pins sh σ H Q I h => ?_⟩, sim_call hW s⟩
  have hgl : Gl (S.g.cx c) x := gl_of hc hg
  refine wpAny_Call_Name_kw (ld_glob I hgl hm ?_ hdb)
  refine PySem.W.callWith_K (h₀ := S.g.base) I.ok.mod.kin hkp ?_ (hs _) (hpl _)
  refine thn ((pa c hc).run pos pins sh σ H _ I h) fun us sh1 ⟨vs, H1, I1, rv, q⟩ => ⟨I1.kIn, ?_⟩
  have q : spOf S.g.K np W (vs ++ []) H1 Q S.E := q
  rw [List.append_nil] at q
  exact runG Fk hc.gd (hc.room.mono hk) hb hc.ps I1 rv q
theorem de_call0 {k : Nat} {W : FSpec} {x : Str} {f : Addr} {fd : FuncData} {ps : List Str} {p pos : Pos} (hW : FMono W) (Fk : FnG S.g S.CX k f fd ps (spOf S.g.K 0 W)) (hk : k ≤ S.k)
    (hg : GlS S.sc x) (hm : S.g.mg x = some (.ref f)) (hkp : PySem.W.keepIn S.g.K (.ref f) = true) (hb : Binds S.g.K fd ps []) (hdb : (x == ("__debug__" : Str)) = false := by decide) :
    DE S (.Call (.Name x p) [] [] pos) (wCall 0 W [] wNil) := by
  refine ⟨tCall (spOf S.g.K 0 W) [] S.E tNil, fun c hc => ⟨fun pins sh σ H Q I h => ?_⟩, sim_call hW ⟨fun _ _ δ P P' _ h w => h _ _ w, fun Ex F B H vs σ δ P Q hx h w k => k B H [] [] δ (Same.refl _) h .nil w⟩⟩
  refine wpAny_Call_Name_kw (ld_glob I (gl_of hc hg) hm ?_ hdb)
  exact PySem.W.callWith_K0 I.kIn hkp (runG (us := []) (vs := []) Fk hc.gd (hc.room.mono hk) hb hc.ps I .nil h)
end
end DL
set_option Elab.async false
set_option linter.all false
set_option maxRecDepth 100000
set_option maxHeartbeats 4000000
set_option autoImplicit false
namespace DL
open PySem PySem.Spec PyProof.Rows L2

/-! ### statements -/
section
variable {K : PySem.W.Frag} {F B H : Hp} {vs : List V} {σ : L2.St} {δ : SEnv} {v : V}
theorem set_look {α : Type} {l : List α} {i : Nat} {x y : α} (h : (l.set i x)[i]? = some y) : y = x := by
  rcases set_get h with ⟨_, z⟩ | ⟨n, _⟩
  · exact z
  · exact absurd rfl n
theorem len_lt {i : Nat} {s : Option Sl} (h : Rep K F B H vs σ δ) (e : (δ.set i s)[i]? = some s) : i < σ.length := by
  have := (List.getElem?_eq_some_iff.mp e).1
  rw [List.length_set] at this
  rw [h.len]; exact this
/-- a slot is stored anew -/
theorem Rep.store (h : Rep K F B H vs σ δ) (i : Nat) (v : V) (s : Sl) (q : SlOk K F B H v s) (hb : ∀ c, s ≠ .o true c) (hn : ∀ a, v = .ref a → ∀ c, s = .o false c → Off H σ δ (Foot H a c)) :
    Rep K F B H vs (σ.set i (some v)) (δ.set i (some s)) := by
  refine ⟨h.sb, h.sf, h.dj, by rw [List.length_set, List.length_set]; exact h.len, fun j s' e => ?_, fun j k a a' p b c b' c' e1 e2 e3 e4 f1 f2 => ?_, fun j c e => ?_, h.nt⟩
  · by_cases hj : j = i
    · subst hj
      have := set_look e
      cases this
      exact ⟨v, by rw [List.getElem?_set_self (len_lt h e)], q⟩
    · rw [List.getElem?_set_ne (Ne.symm hj)] at e ⊢
      exact h.ok j s' e
  · by_cases hj : j = i
    · subst hj
      have z := set_look e1
      cases z
      rw [List.getElem?_set_self (len_lt h e1)] at e3
      cases e3
      by_cases hk : k = j
      · exact hk.symm
      · rw [List.getElem?_set_ne (Ne.symm hk)] at e2 e4
        cases b with
        | true => exact absurd rfl (hb c)
        | false => exact absurd f1 (hn a rfl c rfl k b' c' a' p e2 e4 f2)
    · rw [List.getElem?_set_ne (Ne.symm hj)] at e1 e3
      by_cases hk : k = i
      · subst hk
        have z := set_look e2
        cases z
        rw [List.getElem?_set_self (len_lt h e2)] at e4
        cases e4
        cases b' with
        | true => exact absurd rfl (hb c')
        | false => exact absurd f2 (hn a' rfl c' rfl j b c a p e1 e3 f1)
      · rw [List.getElem?_set_ne (Ne.symm hk)] at e2 e4
        exact h.apart j k a a' p b c b' c' e1 e2 e3 e4 f1 f2
  · by_cases hj : j = i
    · subst hj
      have z := set_look e
      cases z
      exact absurd rfl (hb c)
    · rw [List.getElem?_set_ne (Ne.symm hj)] at e ⊢
      exact h.bor j c e
/-- what is stored under a name -/
def asgn (δ : SEnv) (i : Nat) : R → Option SEnv
  | .d d => some (δ.set i (some (.d d)))
  | .w d => some (δ.set i (some (.w d)))
  | .n c => some (δ.set i (some (.o false c)))
  | .o j => (frz δ (.o j)).map fun p => p.2.set i (some (.d p.1))
theorem asgn_ok {i : Nat} {r : R} {δ' : SEnv} (h : Rep K F B H vs σ δ) (q : RepR K F B H σ δ v r) (e : asgn δ i r = some δ') : ∃ B', Same B B' ∧ Rep K F B' H vs (σ.set i (some v)) δ' := by
  cases r with
  | d d => cases e; exact ⟨B, Same.refl _, h.store i v (.d d) q (fun _ z => nomatch z) (fun a _ c z => nomatch z)⟩
  | w d => cases e; exact ⟨B, Same.refl _, h.store i v (.w d) q (fun _ z => nomatch z) (fun a _ c z => nomatch z)⟩
  | n c =>
    cases e
    obtain ⟨a, ea, hBF, qc, hn⟩ := q
    refine ⟨B, Same.refl _, h.store i v (.o false c) ⟨a, ea, hBF, qc⟩ (fun _ z => nomatch z) (fun a' ea' c' ec => ?_)⟩
    rw [ea] at ea'; cases ea'; cases ec
    exact hn
  | o j =>
    simp only [asgn] at e
    obtain ⟨⟨d, δ1⟩, e1, e⟩ := Option.map_eq_some_iff.mp e
    cases e
    obtain ⟨B1, s1, h1, d1⟩ := frz_ok h q e1
    exact ⟨B1, s1, h1.store i v (.d d) d1 (fun _ z => nomatch z) (fun a _ c z => nomatch z)⟩
end
def wSeq (w u : WS) : WS := fun d δ => w { d with nx := u d } δ
def wNext : WS := fun d δ => d.nx δ
def wSet (i : Nat) (wa : WE) : WS := fun d δ => wa d.ex δ fun r δ1 => ob (asgn δ1 i r) fun δ2 => d.nx δ2
def wDrop (wa : WE) : WS := fun d δ => wa d.ex δ fun _ δ1 => d.nx δ1
def wRet (wa : WE) : WS := fun d δ => wa d.ex δ d.rt
def wRetN : WS := fun d δ => d.rt (.d .none) δ
def wIfS (wt : WT) (w u : WS) : WS := fun d δ => wt d.ex δ fun b δ1 => if b = true then w d δ1 else u d δ1
def wBreak : WS := fun d δ => d.bk δ
def wCont : WS := fun d δ => d.ct δ
section
variable {S : Sg}
theorem DEnds.le.refl (d : DEnds) : d.le d := ⟨fun _ h => h, fun _ _ h => h, fun _ h => h, fun _ h => h, fun _ h => h⟩
theorem ds_nil : DSs S [] wNext := ⟨tNext, fun _ _ => pss_nil, ⟨fun d d' δ h w => h.nx _ w, fun F B H vs σ δ D d hx h k w => k.nx B σ H δ (Same.refl _) h w⟩⟩
theorem sim_seq {K : PySem.W.Frag} {E : XK} {t u : TS} {w1 w2 : WS} (s1 : SSim K E t w1) (s2 : SSim K E u w2) : SSim K E (tSeq t u) (wSeq w1 w2) := by
  refine ⟨fun d d' δ h w => ?_, fun F B H vs σ δ D d hx h k w => ?_⟩
  · exact s1.mono { d with nx := w2 d } { d' with nx := w2 d' } δ ⟨fun δ w => s2.mono d d' δ h w, h.rt, h.bk, h.ct, h.ex⟩ w
  · exact s1.run F B H vs σ δ { D with nx := u D } { d with nx := w2 d } hx h ⟨fun B' σ' H' δ' s h' w' => s2.run F B' H' vs σ' δ' D d (hx.up s) h' (k.up s) w', k.rt, k.bk, k.ct⟩ w
theorem ds_cons {st : Stmt} {rest : List Stmt} {w u : WS} (h : DS S st w) (hr : DSs S rest u) : DSs S (st :: rest) (wSeq w u) := by
  obtain ⟨t, p, s⟩ := h
  obtain ⟨tr, pr, sr⟩ := hr
  exact ⟨_, fun c hc => pss_cons (p c hc) (pr c hc), sim_seq s sr⟩
theorem ds_one {st : Stmt} {w : WS} (h : DS S st w) : DSs S [st] w := by
  obtain ⟨t, p, s⟩ := h
  exact ⟨t, fun c hc => pss_one (p c hc), s⟩
theorem ds_pass {pos : Pos} : DS S (.Pass pos) wNext := ⟨tNext, fun _ _ => ps_pass, ⟨fun d d' δ h w => h.nx _ w, fun F B H vs σ δ D d hx h k w => k.nx B σ H δ (Same.refl _) h w⟩⟩
theorem ds_break {pos : Pos} : DS S (.Break pos) wBreak := ⟨tBreak, fun _ _ => ps_break, ⟨fun d d' δ h w => h.bk _ w, fun F B H vs σ δ D d hx h k w => k.bk B σ H δ (Same.refl _) h w⟩⟩
theorem ds_cont {pos : Pos} : DS S (.Continue pos) wCont := ⟨tCont, fun _ _ => ps_continue, ⟨fun d d' δ h w => h.ct _ w, fun F B H vs σ δ D d hx h k w => k.ct B σ H δ (Same.refl _) h w⟩⟩
theorem ds_expr {e : Expr} {wa : WE} {pos : Pos} (h : DE S e wa) (hs : ∀ env, swapsWith e none pos.line env = pure false := by intro _; rfl) : DS S (.Expr e pos) (wDrop wa) := by
  obtain ⟨t, p, s⟩ := h
  refine ⟨_, fun c hc => ps_expr (p c hc) (hs _), ⟨fun d d' δ h w => s.mono _ _ _ _ _ h.ex (fun r δ1 w => h.nx _ w) w, fun F B H vs σ δ D d hx h k w => ?_⟩⟩
  exact s.run _ _ _ _ _ _ _ _ _ hx h w fun B1 H1 v r δ1 s1 h1 q1 w1 => k.nx B1 σ H1 δ1 s1 h1 w1
theorem ds_ret {e : Expr} {wa : WE} {pos : Pos} (h : DE S e wa) : DS S (.Return (some e) pos) (wRet wa) := by
  obtain ⟨t, p, s⟩ := h
  refine ⟨_, fun c hc => ps_ret (p c hc), ⟨fun d d' δ h w => s.mono _ _ _ _ _ h.ex h.rt w, fun F B H vs σ δ D d hx h k w => ?_⟩⟩
  exact s.run _ _ _ _ _ _ _ _ _ hx h w fun B1 H1 v r δ1 s1 h1 q1 w1 => k.rt B1 σ H1 δ1 v r s1 h1 q1 w1
theorem ds_retN {pos : Pos} : DS S (.Return none pos) wRetN := ⟨tRetN, fun _ _ => ps_retN, ⟨fun d d' δ h w => h.rt _ _ w, fun F B H vs σ δ D d hx h k w => k.rt B σ H δ .non (.d .none) (Same.refl _) h DD.non w⟩⟩
theorem ds_if {c : Expr} {a b : List Stmt} {wt : WT} {w u : WS} {pos : Pos} (hc : DT S c wt) (ha : DSs S a w) (hb : DSs S b u) : DS S (.If c a b pos) (wIfS wt w u) := by
  obtain ⟨tt, pt, st⟩ := hc
  obtain ⟨ta, pa, sa⟩ := ha
  obtain ⟨tb, pb, sb⟩ := hb
  refine ⟨_, fun c hc => ps_if (pt c hc) (pa c hc) (pb c hc), ⟨fun d d' δ h w => ?_, fun F B H vs σ δ D d hx h k w => ?_⟩⟩
  · refine st.mono _ _ _ _ _ h.ex (fun bb δ1 w => ?_) w
    cases bb with
    | true => exact sa.mono _ _ _ h w
    | false => exact sb.mono _ _ _ h w
  · refine st.run _ _ _ _ _ _ _ _ _ hx h w fun B1 H1 bb δ1 s1 h1 w1 => ?_
    cases bb with
    | true => exact sa.run _ _ _ _ _ _ _ _ (hx.up s1) h1 (k.up s1) w1
    | false => exact sb.run _ _ _ _ _ _ _ _ (hx.up s1) h1 (k.up s1) w1
theorem fn_ok {c : Cl} (hc : S.ok c) {x : Str} (ht : S.top = true ∨ S.sc.names.lookup x = some .local) : c.fn x = true ∨ c.env.scope.names.lookup x = some .local := by
  rcases ht with h | h
  · exact .inl (hc.fn h x)
  · exact .inr (by rw [hc.hs]; exact h)
theorem ds_set {i : Nat} {x : Str} {e : Expr} {wa : WE} {pos pos' : Pos} (hi : S.N[i]? = some x) (hx : Loc S.sc x) (h : DE S e wa) (hs : ∀ env, swapsWith e (some (.Name x pos')) pos.line env = pure false := by intro _; rfl) (ht : S.top = true ∨ S.sc.names.lookup x = some .local := by exact .inl rfl) :
    DS S (.Assign [.Name x pos'] e pos) (wSet i wa) := by
  obtain ⟨t, p, s⟩ := h
  refine ⟨_, fun c hc => ps_set (X := S.g.cx c) (i := i) (by show c.N.Nodup; rw [hc.hN]; exact hc.nd) (by show c.N[i]? = _; rw [hc.hN]; exact hi) (by show Loc c.env.scope x; rw [hc.hs]; exact hx) (p c hc) (hs _) (fn_ok hc ht), ⟨fun d d' δ h w => ?_, fun F B H vs σ δ D d hx h k w => ?_⟩⟩
  · exact s.mono _ _ _ _ _ h.ex (fun r δ1 w => w.imp fun δ2 w => h.nx _ w) w
  · refine s.run _ _ _ _ _ _ _ _ _ hx h w fun B1 H1 v r δ1 s1 h1 q1 w1 => ?_
    obtain ⟨δ2, e1, w1⟩ := w1
    obtain ⟨B2, s2, h2⟩ := asgn_ok h1 q1 e1
    exact k.nx B2 _ H1 δ2 (s1.trans s2) h2 w1
end

/-! ### a def as a whole -/
def retR (δ : SEnv) : R → Option R
  | .d d => some (.d d)
  | .w d => some (.w d)
  | .n c => some (.n c)
  | .o i => match δ[i]? with
    | some (some (.d d)) => some (.d d)
    | some (some (.w d)) => some (.w d)
    | some (some (.o false c)) => some (.n c)
    | _ => none
def finals : List Sl → SEnv → Option (List Sl)
  | [], _ => some []
  | .o _ _ :: ss, some (.o true c) :: δ => (finals ss δ).map fun q => .o true c :: q
  | .d d :: ss, _ :: δ => (finals ss δ).map fun q => .d d :: q
  | .w d :: ss, _ :: δ => (finals ss δ).map fun q => .w d :: q
  | _, _ => none
def fnW (np n : Nat) (w : WS) : FSpec := fun ss Ex P => ss.length = np ∧ (let fin := fun r δ => ob (retR δ r) fun r' => ob (finals ss δ) fun ss' => P r' ss'
  w ⟨fun δ => fin (.d .none) δ, fin, fun _ => False, fun _ => False, Ex⟩ (ss.map some ++ List.replicate (n - np) none))
theorem finals_get : ∀ {ss : List Sl} {δ : SEnv} {ss' : List Sl}, finals ss δ = some ss' → ss'.length = ss.length ∧ ∀ (j : Nat) (s' : Sl), ss'[j]? = some s' → ∃ s, ss[j]? = some s ∧ ((∃ b c c', s = .o b c ∧ s' = .o true c' ∧ δ[j]? = some (some (.o true c'))) ∨ (s' = s ∧ ∀ b c, s ≠ .o b c))
  | [], δ, _, e => by cases e; exact ⟨rfl, fun j s' e => by simp at e⟩
  | .o b c :: ss, [], _, e => by exact nomatch e
  | .d _ :: ss, [], _, e => by exact nomatch e
  | .w _ :: ss, [], _, e => by exact nomatch e
  | .d d :: ss, o :: δ, ss', e => by
    simp only [finals] at e
    obtain ⟨q, e1, e⟩ := Option.map_eq_some_iff.mp e
    cases e
    obtain ⟨h1, h2⟩ := finals_get e1
    refine ⟨by simp [h1], fun j s' e => ?_⟩
    cases j with
    | zero => simp at e; subst e; exact ⟨_, rfl, .inr ⟨rfl, fun _ _ z => nomatch z⟩⟩
    | succ j => simpa using h2 j s' (by simpa using e)
  | .w d :: ss, o :: δ, ss', e => by
    simp only [finals] at e
    obtain ⟨q, e1, e⟩ := Option.map_eq_some_iff.mp e
    cases e
    obtain ⟨h1, h2⟩ := finals_get e1
    refine ⟨by simp [h1], fun j s' e => ?_⟩
    cases j with
    | zero => simp at e; subst e; exact ⟨_, rfl, .inr ⟨rfl, fun _ _ z => nomatch z⟩⟩
    | succ j => simpa using h2 j s' (by simpa using e)
  | .o b c :: ss, none :: δ, ss', e => by exact nomatch e
  | .o b c :: ss, some (.d _) :: δ, ss', e => by exact nomatch e
  | .o b c :: ss, some (.w _) :: δ, ss', e => by exact nomatch e
  | .o b c :: ss, some (.o false _) :: δ, ss', e => by exact nomatch e
  | .o b c :: ss, some (.o true c0) :: δ, ss', e => by
    simp only [finals] at e
    obtain ⟨q, e1, e⟩ := Option.map_eq_some_iff.mp e
    cases e
    obtain ⟨h1, h2⟩ := finals_get e1
    refine ⟨by simp [h1], fun j s' e => ?_⟩
    cases j with
    | zero => simp at e; subst e; exact ⟨_, rfl, .inl ⟨b, c, c0, rfl, rfl, rfl⟩⟩
    | succ j => simpa using h2 j s' (by simpa using e)
theorem fnW_mono {np n : Nat} {w : WS} (hw : ∀ (d d' : DEnds) (δ : SEnv), d.le d' → w d δ → w d' δ) : FMono (fnW np n w) := fun ss Ex Ex' P P' hx hP h => by
  obtain ⟨h1, h2⟩ := h
  refine ⟨h1, ?_⟩
  refine hw _ _ _ ?_ h2
  refine ⟨fun δ h => ?_, fun r δ h => ?_, fun _ h => h, fun _ h => h, hx⟩
  · exact h.imp fun r' h => h.imp fun ss' h => hP _ _ h
  · exact h.imp fun r' h => h.imp fun ss' h => hP _ _ h
/-- from a body's words to the promise -/
theorem body_run {K : PySem.W.Frag} {E : XK} {np : Nat} {N : List Str} {t : TS} {w : WS} (hN : np ≤ N.length) (s : SSim K E t w) {vs : List V} {H : Hp} {Q : VK} (h : spOf K np (fnW np N.length w) vs H Q E) :
    t { nx := fun _ H' => Q .non H', rt := Q } (start N vs) H := by
  obtain ⟨hl, F, B, ss, Ex, P, h1, hx, ⟨hs, h2⟩, k⟩ := h
  have hvl : vs.length = ss.length := by have := h1.len; simpa using this
  have fin : ∀ {B' : Hp} {σ' : L2.St} {H' : Hp} {δ' : SEnv} {v : V} {r : R}, Same B B' → Rep K F B' H' vs σ' δ' → RepR K F B' H' σ' δ' v r → (ob (retR δ' r) fun r' => ob (finals ss δ') fun ss' => P r' ss') → Q v H' := by
    intro B' σ' H' δ' v r s1 h3 q3 w3
    obtain ⟨r', e1, ss', e2, w3⟩ := w3
    obtain ⟨fl, fg⟩ := finals_get e2
    -- a lent slot stands as it was handed in
    have lent : ∀ {j : Nat} {c' : Cont}, ss'[j]? = some (.o true c') → ∃ a, vs[j]? = some (.ref a) ∧ δ'[j]? = some (some (.o true c')) ∧ σ'[j]? = some (some (.ref a)) ∧ (∀ p, Foot H' a c' p → B' p = none ∧ F p = none) ∧ ContOk B' H' a c' := by
      intro j c' e
      obtain ⟨s0, e3, z⟩ := fg j _ e
      rcases z with ⟨b, c, c'', e4, e5, e6⟩ | ⟨e4, n⟩
      · cases e5
        obtain ⟨v1, e7, e8⟩ := h3.bor j _ e6
        obtain ⟨v2, e9, a, ea, hBF, qc⟩ := h3.ok j _ e6
        rw [e7] at e9; cases e9
        subst ea
        exact ⟨a, e8, e6, e7, hBF, qc⟩
      · subst e4; exact absurd rfl (n _ _)
    have own : ∀ {j : Nat} {b : Bool} {c' : Cont}, ss'[j]? = some (.o b c') → b = true := by
      intro j b c' e
      obtain ⟨s0, e3, z⟩ := fg j _ e
      rcases z with ⟨b, c, c'', e4, e5, e6⟩ | ⟨e4, n⟩
      · cases e5; rfl
      · subst e4; exact absurd rfl (n _ _)
    have h4 : Rep K F B' H' vs (vs.map some) (ss'.map some) := by
      refine ⟨h3.sb, h3.sf, h3.dj, by rw [List.length_map, List.length_map, fl, hvl], fun j s' e => ?_, fun j m a1 a2 p b c b' c' e3 e4 e5 e6 p1 p2 => ?_, fun j c e => ?_, h3.nt⟩
      · rw [List.getElem?_map] at e
        obtain ⟨s0, e3, e4⟩ := Option.map_eq_some_iff.mp e
        cases e4
        obtain ⟨s1', e5, z⟩ := fg j _ e3
        rcases z with ⟨b, c, c'', e6, e7, e8⟩ | ⟨e6, n⟩
        · subst e7
          obtain ⟨a, f1, _, _, hBF, qc⟩ := lent e3
          exact ⟨.ref a, by rw [List.getElem?_map, f1]; rfl, a, rfl, hBF, qc⟩
        · subst e6
          obtain ⟨v0, e7, q7⟩ := h1.ok j s' (by rw [List.getElem?_map, e5]; rfl)
          refine ⟨v0, e7, ?_⟩
          cases s' with
          | d d => exact DD.mono s1 q7
          | w d => exact q7
          | o b c => exact absurd rfl (n b c)
      · rw [List.getElem?_map] at e3 e4 e5 e6
        obtain ⟨z1, e3, z⟩ := Option.map_eq_some_iff.mp e3; cases z
        obtain ⟨z2, e4, z⟩ := Option.map_eq_some_iff.mp e4; cases z
        obtain ⟨v1, e5, z⟩ := Option.map_eq_some_iff.mp e5; cases z
        obtain ⟨v2, e6, z⟩ := Option.map_eq_some_iff.mp e6; cases z
        cases own e3
        cases own e4
        obtain ⟨b1, f1, f2, f3, _⟩ := lent e3
        obtain ⟨b2, g1, g2, g3, _⟩ := lent e4
        rw [e5] at f1; cases f1
        rw [e6] at g1; cases g1
        exact h3.apart j m a1 a2 p true c true c' f2 g2 f3 g3 p1 p2
      · rw [List.getElem?_map] at e
        obtain ⟨z1, e3, z⟩ := Option.map_eq_some_iff.mp e; cases z
        obtain ⟨a1, f1, _⟩ := lent e3
        exact ⟨.ref a1, by rw [List.getElem?_map, f1]; rfl, f1⟩
    have notO : ∀ i, r' ≠ .o i := by
      intro i z
      subst z
      cases r with
      | d d => cases e1
      | w d => cases e1
      | n c => cases e1
      | o j => simp only [retR] at e1; split at e1 <;> cases e1
    have hr : RepR K F B' H' (vs.map some) (ss'.map some) v r' := by
      have apn : ∀ {f : Addr → Prop}, (∀ (j : Nat) (c' : Cont) (a p : Addr), δ'[j]? = some (some (.o true c')) → σ'[j]? = some (some (.ref a)) → Foot H' a c' p → ¬ f p) → Off H' (vs.map some) (ss'.map some) f := by
        intro f hn i b c' a p e5 e6 fp
        rw [List.getElem?_map] at e5 e6
        obtain ⟨z1, e5, z⟩ := Option.map_eq_some_iff.mp e5; cases z
        obtain ⟨v1, e6, z⟩ := Option.map_eq_some_iff.mp e6; cases z
        cases own e5
        obtain ⟨a1, f1, f2, f3, _⟩ := lent e5
        rw [e6] at f1; cases f1
        exact hn i c' a p f2 f3 fp
      cases r with
      | d d => cases e1; exact q3
      | w d => cases e1; exact q3
      | n c =>
        cases e1
        obtain ⟨a, ea, hBF, qc, hn⟩ := q3
        exact ⟨a, ea, hBF, qc, apn fun j c' a p e5 e6 f => hn j true c' a p e5 e6 f⟩
      | o i =>
        have q3 : σ'[i]? = some (some v) := q3
        simp only [retR] at e1
        split at e1
        · rename_i d hd
          cases e1
          obtain ⟨v', e5, q5⟩ := h3.ok i _ hd
          rw [q3] at e5; cases e5
          exact q5
        · rename_i d hd
          cases e1
          obtain ⟨v', e5, q5⟩ := h3.ok i _ hd
          rw [q3] at e5; cases e5
          exact q5
        · rename_i c hd
          cases e1
          obtain ⟨v', e5, a, ea, hBF, qc⟩ := h3.ok i _ hd
          rw [q3] at e5; cases e5
          subst ea
          refine ⟨a, rfl, hBF, qc, apn fun j c' a' p e5 e6 f f' => ?_⟩
          have := h3.apart j i a' a p true c' false c e5 hd e6 q3 f f'
          subst this
          rw [hd] at e5; cases e5
        · cases e1
    exact k B' H' v r' ss' s1 h4 hr notO w3
  have h0 : Rep K F B H vs (start N vs) (ss.map some ++ List.replicate (N.length - np) none) := by
    have hlen : (ss.map some ++ List.replicate (N.length - np) (none : Option Sl)).length = (start N vs).length := by
      unfold L2.start
      rw [List.length_append, List.length_append, List.length_map, List.length_map, List.length_replicate, List.length_replicate]
      omega
    have low : ∀ {j : Nat} {s : Sl}, (ss.map some ++ List.replicate (N.length - np) (none : Option Sl))[j]? = some (some s) → (ss.map some)[j]? = some (some s) ∧ (start N vs)[j]? = (vs.map some)[j]? := by
      intro j s e
      by_cases hj : j < ss.length
      · rw [List.getElem?_append_left (by rw [List.length_map]; exact hj)] at e
        refine ⟨e, ?_⟩
        unfold L2.start
        rw [List.getElem?_append_left (by rw [List.length_map]; omega)]
      · rw [List.getElem?_append_right (by rw [List.length_map]; omega), List.getElem?_replicate] at e
        split at e <;> cases e
    refine ⟨h1.sb, h1.sf, h1.dj, hlen.symm, fun j s' e => ?_, fun j m a1 a2 p b c b' c' e3 e4 e5 e6 p1 p2 => ?_, fun j c e => ?_, h1.nt⟩
    · obtain ⟨e1, e2⟩ := low e
      rw [e2]; exact h1.ok j s' e1
    · obtain ⟨f1, f2⟩ := low e3
      obtain ⟨g1, g2⟩ := low e4
      rw [f2] at e5; rw [g2] at e6
      exact h1.apart j m a1 a2 p b c b' c' f1 g1 e5 e6 p1 p2
    · obtain ⟨e1, e2⟩ := low e
      rw [e2]; exact h1.bor j c e1
  refine s.run F B H vs _ _ _ _ hx h0 ⟨fun B' σ' H' δ' s1 h3 w3 => ?_, fun B' σ' H' δ' v r s1 h3 q3 w3 => fin s1 h3 q3 w3, fun _ _ _ _ _ _ w => False.elim w, fun _ _ _ _ _ _ w => False.elim w⟩ h2
  exact fin (v := .non) (r := .d .none) s1 h3 DD.non w3
/-- a def that lets nothing out -/
theorem fn_dl {g : Gx} {x qual : Str} {st : Stmt} {f : Addr} {fd : FuncData} {N ps : List Str} {k : Nat} {w : WS} (Fn : Fun g.K x qual st f fd) (Sc : FnScope N ps (defScope st)) (hb : ∀ E, DSs ⟨g, CX0, N, defScope st, k, E, true, false⟩ (defBody st) w) (hp : ps.length ≤ N.length) :
    FnG g CX0 (k + 1) f fd ps (spOf g.K ps.length (fnW ps.length N.length w)) := by
  obtain ⟨oc, od, kV, doc, pm, an, cdv, ct, osl, rfl, lk, hcd⟩ := Fn.ex
  refine ⟨fun vs H Q E h => h.1, fun A outer sh H args us vs Q E hgd hr e0 hbd rv hsp => ?_⟩
  have KX : g.K.In sh.heap := e0.mod.kin.keeps fun b o e => (e0.bs b o e).1
  have cell_or : ∀ y ∈ ps.zip us, (defScope st).names.lookup y.1 = some .local ∨ ((defScope st).names.lookup y.1 = some .cell ∧ ((cellsFrom (sh.heap.objs.size + 1) (defScope st).names []).lookup y.1).isSome = true) := by
    rintro ⟨nm, v⟩ hy
    have hz := Sc.par nm (List.of_mem_zip hy).1
    exact hz.imp id fun q => ⟨q, PySem.W.cellsFrom_some _ _ _ (.inl q)⟩
  refine codeAny_call_function hr.depth (KX _ _ lk) rfl Sc.co Sc.gen rfl (PySem.W.codeRec_of KX hcd) (hbd _ _ _ _ ?_)
  refine wpAny_newFunctionEnv_cells Sc.kind cell_or fun env he sh1 inC => ?_
  subst he
  refine ⟨(e0.mod.nolimit.keeps fun b o e => (e0.bs b o e).1).keeps inC.toInCall.keep, codeAny_func ?_⟩
  let X := cxOf CX0 g.P g.w g.K g.mg g.base N qual (defScope st) f cdv A outer sh H E
  have I : Inv X [] (L2.start N vs) H sh1 := inv_start Sc hr.hd e0 hsp.1 rv inC
  obtain ⟨t, p, sm⟩ := hb E
  let Y := X.nox
  let c : Cl := ⟨Y.A, Y.N, Y.s_0, Y.H_0, Y.env, Y.outer, Y.stack, Y.ex, Y.fn, Y.calm, Y.pn, Y.xe⟩
  have hc : Sg.ok ⟨g, CX0, N, defScope st, k, E, true, false⟩ c := ⟨rfl, Sc.nd, rfl, rfl, hr.deeper _, fun _ _ _ _ _ _ _ h => h.elim, PassesOwn.never, fun _ _ => rfl, hgd, fun z => nomatch z⟩
  refine wpAny_mono (((p c hc : PSs Y (defBody st) t).nox).run [] sh1 _ H _ I (body_run hp sm hsp)) (fun fl sh' hs => ?_) fun e sh' hs => hs
  have ends : ∀ {σ' : L2.St} {H' : Hp} {v : V} {u : Value}, Inv X [] σ' H' sh' → RelV v u → Q v H' → CE outer g.P g.w H sh Q u sh' := fun J r q => ⟨_, _, J.os, J.bare, J.base, J.hok, r, q⟩
  cases fl with
  | ret u => obtain ⟨v, σ', H', J, r, q⟩ := hs; exact ends J r q
  | next => obtain ⟨σ', H', J, q⟩ := hs; exact ends (v := .non) (u := Value.none) J rfl q
  | brk => obtain ⟨_, _, _, q⟩ := hs; exact q.elim
  | cont => obtain ⟨_, _, _, q⟩ := hs; exact q.elim
/-- a weaker word -/
theorem spOf_imp {g : Gx} {CX : CXT} {k np : Nat} {f : Addr} {fd : FuncData} {ps : List Str} {W W' : FSpec} (Fk : FnG g CX k f fd ps (spOf g.K np W)) (h : ∀ ss Ex P, W' ss Ex P → W ss Ex P) : FnG g CX k f fd ps (spOf g.K np W') :=
  Fk.imp fun vs H Q E ⟨h1, F, B, ss, Ex, P, h2, h3, h4, h5⟩ => ⟨h1, F, B, ss, Ex, P, h2, h3, h _ _ _ h4, h5⟩

end DL
set_option Elab.async false
set_option linter.all false
set_option maxRecDepth 100000
set_option maxHeartbeats 4000000
set_option autoImplicit false
namespace DL
open PySem PySem.Spec PyProof.Rows L2

/-! ### what is walked -/
abbrev WI := XP → SEnv → (List PyData → SEnv → Prop) → Prop
/-- the turns yield these things -/
structure ItOk (B : Hp) (J : It) (ds : List PyData) : Prop where
  stop : ∀ (i : Nat) (H : Hp), Same B H → ds.length ≤ i → J.stop i H
  go : ∀ (i : Nat) (H : Hp), Same B H → i < ds.length → J.go i H
  yld : ∀ (i : Nat) (H B2 : Hp) (x : V) (H' : Hp) (d : PyData), Same B B2 → Same B2 H → J.yld i H x H' → ds[i]? = some d → ∃ B3, Same B2 B3 ∧ (∀ (K : PySem.W.Frag) (F : Hp) (vs : List V) (σ : L2.St) (δ : SEnv), Rep K F B2 H vs σ δ → Rep K F B3 H' vs σ δ) ∧ DD B3 x d
theorem ItOk.up {B B' : Hp} {J : It} {ds : List PyData} (h : ItOk B J ds) (s : Same B B') : ItOk B' J ds :=
  ⟨fun i H s1 => h.stop i H (s.trans s1), fun i H s1 => h.go i H (s.trans s1), fun i H B2 x H' d s1 s2 y e => h.yld i H B2 x H' d (s.trans s1) s2 y e⟩
theorem yl_same {B B2 H H' : Hp} {x : V} {d : PyData} (e : H' = H) (q : DD B x d) (s : Same B B2) : ∃ B3, Same B2 B3 ∧ (∀ (K : PySem.W.Frag) (F : Hp) (vs : List V) (σ : L2.St) (δ : SEnv), Rep K F B2 H vs σ δ → Rep K F B3 H' vs σ δ) ∧ DD B3 x d :=
  ⟨B2, Same.refl _, fun _ _ _ _ _ h => by subst e; exact h, q.mono s⟩
theorem yl_tup {B B2 H H' : Hp} {x : V} {p : Addr} {o : Obj} {xs : List V} {dd : List PyData} (s : Same B B2) (s2 : Same B2 H) (ex : x = .ref p) (hp : H p = none) (e : H' = upd H p (.frz o (.tup xs))) (ec : o.cls = .type "tuple") (ed : o.dict = none) (q : DDs B xs dd) : ∃ B3, Same B2 B3 ∧ (∀ (K : PySem.W.Frag) (F : Hp) (vs : List V) (σ : L2.St) (δ : SEnv), Rep K F B2 H vs σ δ → Rep K F B3 H' vs σ δ) ∧ DD B3 x (.tuple dd) := by
  subst ex e
  exact ⟨_, same_new (nof s2 hp) _, fun _ _ _ _ _ h => h.new hp _, DD.tup ⟨o, upd_same, ec, ed⟩ (q.mono (s.trans (same_new (nof s2 hp) _)))⟩
structure ISim (K : PySem.W.Frag) (E : XK) (wi : TI) (W : WI) : Prop where
  mono : ∀ (Ex Ex' : XP) (δ : SEnv) (P P' : List PyData → SEnv → Prop), (∀ e, Ex e → Ex' e) → (∀ r δ', P r δ' → P' r δ') → W Ex δ P → W Ex' δ P'
  run : ∀ (Ex : XP) (F B H : Hp) (vs : List V) (σ : L2.St) (δ : SEnv) (P : List PyData → SEnv → Prop) (R' : It → Hp → Prop), XOk F B E Ex → Rep K F B H vs σ δ → W Ex δ P →
    (∀ B' H' J ds δ', Same B B' → Rep K F B' H' vs σ δ' → ItOk B' J ds → P ds δ' → R' J H') → wi σ H R'
def DI (S : Sg) (tg iter : Expr) (W : WI) : Prop := ∃ t, (∀ c, S.ok c → PI (S.g.cx c) tg iter t) ∧ ISim S.g.K S.E t W

def signs (x : Str) : List PyData := x.cps.toList.map fun c => .str ⟨#[c]⟩
def itemsOf : PyData → Option (List PyData)
  | .list ds => some ds
  | .tuple ds => some ds
  | .str x => some (signs x)
  | _ => none
def walked (δ : SEnv) : R → Option (List PyData × SEnv)
  | .n (.pt ds) => some (ds, δ)
  | .o i => match plainAt δ i with
    | some ds => some (ds, δ)
    | none => (frz δ (.o i)).bind fun p => (itemsOf p.1).map fun ds => (ds, p.2)
  | .w d => (itemsOf d).bind fun ds => if ds.all scalar then some (ds, δ) else none
  | r => (frz δ r).bind fun p => (itemsOf p.1).map fun ds => (ds, p.2)
def iSeq (K : PySem.W.Frag) (te : TE) : TI := fun σ H R => te σ H fun x H1 => (∃ a xs, x = .ref a ∧ SqL K H1 a xs ∧ R (Itl K a) H1) ∨ (∃ a xs, x = .ref a ∧ SqT K H1 a xs ∧ R (Itt K a) H1) ∨ ∃ y, x = .str y ∧ R (Its y) H1
theorem pi_seq {X : Cx} {tg l : Expr} {tl : TE} (hl : PE X l tl) : PI X tg l (iSeq X.K tl) := by
  refine ⟨fun pins s σ H R I h => ?_⟩
  refine thn (hl.run pins s σ H _ I h) fun v s1 ⟨x, H1, I1, r1, q1⟩ => ?_
  rcases q1 with ⟨a, xs, e, hq, q⟩ | ⟨a, xs, e, hq, q⟩ | ⟨y, e, q⟩
  · subst e
    cases r1
    obtain ⟨its, rv, p, hz⟩ := I1.list hq
    refine wpAny_pyIter_list p.isList ?_
    refine ⟨s1.heap.objs.size, [s1.heap.objs.size], _, _, H1, rfl, I1.kept (t' := s1.toks) fun b o e => Heap.get?_push_of_some _ e, turn_list a _, ⟨_, Heap.get?_push_size _ rfl, rfl, rfl⟩, fun b hb => ?_, q⟩
    have e : b = s1.heap.objs.size := by simpa using hb
    subst e
    exact I1.fpOk (Nat.le_refl _) (I1.hok.fresh (Nat.le_refl _))
  · subst e
    cases r1
    obtain ⟨its, rv, p, hz⟩ := I1.tuple hq
    refine wpAny_pyIter_tuple (show s1.heap.IsTuple a its.toArray from p) ?_
    refine ⟨s1.heap.objs.size, [s1.heap.objs.size], _, _, H1, rfl, I1.kept (t' := s1.toks) fun b o e => Heap.get?_push_of_some _ e, turn_tuple a _, ⟨_, Heap.get?_push_size _ rfl, rfl, rfl⟩, fun b hb => ?_, q⟩
    have e : b = s1.heap.objs.size := by simpa using hb
    subst e
    exact I1.fpOk (Nat.le_refl _) (I1.hok.fresh (Nat.le_refl _))
  · subst e
    obtain ⟨t, rfl⟩ := r1
    cases ha : y.cps.all (· < 128)
    · exact wpAny_pyIter_wide ha (pi_one (tk := s1.toks) I1 _ (turn_str _ y t "str_iterator" (.inr rfl)) ⟨_, Heap.get?_push_size _ rfl, rfl, rfl⟩ q)
    · exact wpAny_pyIter_ascii ha (pi_one (tk := s1.toks) I1 _ (turn_str _ y t "str_ascii_iterator" (.inl rfl)) ⟨_, Heap.get?_push_size _ rfl, rfl, rfl⟩ q)
section
variable {K : PySem.W.Frag} {F B H : Hp}
theorem dp_items {vs : List V} {ds : List PyData} : DpAll K (fun _ => none) vs ds → ds.all scalar = true → ∀ B, DDs B vs ds
  | .nil, _, _ => .nil
  | .cons q r, h, B => by
    rw [List.all_cons, Bool.and_eq_true] at h
    exact .cons (DW.scal q h.1) (dp_items r h.2 B)
theorem it_list {a : Addr} {xs : List V} {ds : List PyData} (h : ∀ H, Same B H → SqL K H a xs) (q : DDs B xs ds) (inj : ∀ H, Same B H → ∀ ys, SqL K H a ys → True) : ItOk B (Itl K a) ds :=
  ⟨fun i H s hi => ⟨xs, h H s, by rw [q.length]; exact hi⟩, fun i H s hi => by
    have hx : i < xs.length := by rw [q.length]; exact hi
    exact ⟨xs, xs[i], h H s, by simp [hx]⟩, fun i H B2 x H' d s s2 y e => by
    obtain ⟨e1, y⟩ := y
    obtain ⟨v, e2, q2⟩ := q.get e
    have := y xs (h H (s.trans s2))
    rw [e2] at this; cases this
    exact yl_same e1 q2 s⟩
theorem it_tup {a : Addr} {xs : List V} {ds : List PyData} (h : ∀ H, Same B H → SqT K H a xs) (q : DDs B xs ds) : ItOk B (Itt K a) ds :=
  ⟨fun i H s hi => ⟨xs, h H s, by rw [q.length]; exact hi⟩, fun i H s hi => by
    have hx : i < xs.length := by rw [q.length]; exact hi
    exact ⟨xs, xs[i], h H s, by simp [hx]⟩, fun i H B2 x H' d s s2 y e => by
    obtain ⟨e1, y⟩ := y
    obtain ⟨v, e2, q2⟩ := q.get e
    have := y xs (h H (s.trans s2))
    rw [e2] at this; cases this
    exact yl_same e1 q2 s⟩
theorem it_str {y : Str} : ItOk B (Its y) (signs y) :=
  ⟨fun i H s hi => (by simpa [signs] using hi : y.cps.size ≤ i), fun i H s hi => (by simpa [signs] using hi : i < y.cps.size), fun i H B2 x H' d s s2 z e => by
    obtain ⟨e1, c, e2, e3⟩ := z
    refine yl_same e1 ?_ s
    subst e3
    unfold signs at e
    rw [List.getElem?_map, Array.getElem?_toList, e2] at e
    cases e
    exact .str _⟩
theorem it_range {lo : Int} {n : Nat} : ItOk B (Itr lo n) ((List.range n).map fun (i : Nat) => .int (lo + (i : Int))) :=
  ⟨fun i H s hi => (by simpa using hi : n ≤ i), fun i H s hi => (by simpa using hi : i < n), fun i H B2 x H' d s s2 z e => by
    obtain ⟨e1, e2⟩ := z
    refine yl_same e1 ?_ s
    subst e2
    rw [List.getElem?_map] at e
    obtain ⟨j, e3, e4⟩ := Option.map_eq_some_iff.mp e
    obtain ⟨_, e5⟩ := List.getElem?_eq_some_iff.mp e3
    rw [List.getElem_range] at e5
    subst e5; subst e4
    exact .int _⟩
end
def wIt (wa : WE) : WI := fun Ex δ P => wa Ex δ fun r δ1 => ob (walked δ1 r) fun p => P p.1 p.2
def wRng (wr : WA) (f : List Vw → Option (Int × Int)) : WI := fun Ex δ P => wr Ex δ fun rs δ1 => ob (views δ1 rs) fun as => ob (f as) fun p =>
  (-(2 ^ 62) ≤ p.1 ∧ p.1 < 2 ^ 62 ∧ -(2 ^ 62) ≤ p.2 ∧ p.2 < 2 ^ 62) ∧ P ((List.range (p.2 - p.1).toNat).map fun (i : Nat) => .int (p.1 + (i : Int))) δ1
def rng1 : List Vw → Option (Int × Int)
  | [.d (.int j)] => some (0, j)
  | _ => none
def rng2 : List Vw → Option (Int × Int)
  | [.d (.int i), .d (.int j)] => some (i, j)
  | _ => none
theorem ov_int {K : PySem.W.Frag} {B H : Hp} {v : V} {i : Int} (h : OV K B H v (.d (.int i))) : v = .int i := by
  rcases h with h | ⟨_, _, _, _, e, _⟩
  · cases h; rfl
  · cases e
section
variable {S : Sg}
theorem di_seq {tg e : Expr} {wa : WE} (h : DE S e wa) : DI S tg e (wIt wa) := by
  obtain ⟨t, p, s⟩ := h
  refine ⟨iSeq S.g.K t, fun c hc => pi_seq (X := S.g.cx c) (p c hc), ⟨fun Ex Ex' δ P P' hx h w => s.mono _ _ _ _ _ hx (fun r δ1 w => w.imp fun z w => h _ _ w) w, fun Ex F B H vs σ δ P R' hx h w k => ?_⟩⟩
  refine s.run _ _ _ _ _ _ _ _ _ hx h w fun B1 H1 v r δ1 s1 h1 q1 w1 => ?_
  obtain ⟨⟨ds, δ2⟩, e, w1⟩ := w1
  have frzn : (∃ p, frz δ1 r = some p ∧ itemsOf p.1 = some ds ∧ p.2 = δ2) → ((∃ a xs, v = .ref a ∧ SqL S.g.K H1 a xs ∧ R' (Itl S.g.K a) H1) ∨ (∃ a xs, v = .ref a ∧ SqT S.g.K H1 a xs ∧ R' (Itt S.g.K a) H1) ∨ ∃ y, v = .str y ∧ R' (Its y) H1) := by
    rintro ⟨⟨d, δ'⟩, e1, e2, e3⟩
    subst e3
    obtain ⟨B2, s2, h2, d2⟩ := frz_ok h1 q1 e1
    cases d2 with
    | non => cases e2
    | bl b => cases e2
    | int i => cases e2
    | str x =>
      cases e2
      exact .inr (.inr ⟨x, rfl, k B2 H1 _ _ _ (s1.trans s2) h2 it_str w1⟩)
    | lst r3 q3 =>
      cases e2
      have f : ∀ H, Same B2 H → SqL S.g.K H _ _ := fun H s => .inl (same_rd s r3)
      exact .inl ⟨_, _, rfl, f H1 h2.sb, k B2 H1 _ _ _ (s1.trans s2) h2 (it_list f q3 fun _ _ _ _ => trivial) w1⟩
    | tup r3 q3 =>
      cases e2
      have f : ∀ H, Same B2 H → SqT S.g.K H _ _ := fun H s => .inl (r3.mono s).rd
      exact .inr (.inl ⟨_, _, rfl, f H1 h2.sb, k B2 H1 _ _ _ (s1.trans s2) h2 (it_tup f q3) w1⟩)
  have plain : InP B1 v ds → P ds δ1 → ((∃ a xs, v = .ref a ∧ SqL S.g.K H1 a xs ∧ R' (Itl S.g.K a) H1) ∨ (∃ a xs, v = .ref a ∧ SqT S.g.K H1 a xs ∧ R' (Itt S.g.K a) H1) ∨ ∃ y, v = .str y ∧ R' (Its y) H1) := by
    rintro ⟨a, o, xs, rfl, r3, _, _, q3⟩ w1
    have f : ∀ H, Same B1 H → SqT S.g.K H a xs := fun H s => .inl (.inr ⟨o, s _ _ r3⟩)
    exact .inr (.inl ⟨_, _, rfl, f H1 h1.sb, k B1 H1 _ _ _ s1 h1 (it_tup f q3) w1⟩)
  cases r with
  | w d =>
    simp only [walked] at e
    obtain ⟨ds', e1, e⟩ := Option.bind_eq_some_iff.mp e
    split at e
    · rename_i hs
      cases e
      have q1 : Dp S.g.K (fun _ => none) v d := q1
      cases q1 with
      | non => cases e1
      | bl b => cases e1
      | int i => cases e1
      | str x => cases e1; exact .inr (.inr ⟨x, rfl, k B1 H1 _ _ _ s1 h1 it_str w1⟩)
      | lst r3 q3 =>
        cases e1
        have f : ∀ H, Same B1 H → SqL S.g.K H _ _ := fun H s => L2.Same.seq (fun _ _ z => by cases z) r3
        exact .inl ⟨_, _, rfl, f H1 h1.sb, k B1 H1 _ _ _ s1 h1 (it_list f (dp_items q3 hs B1) fun _ _ _ _ => trivial) w1⟩
      | tup r3 q3 =>
        cases e1
        have f : ∀ H, Same B1 H → SqT S.g.K H _ _ := fun H s => by
          rcases r3 with r3 | r3
          · exact .inl (same_rd (B := fun _ => none) (fun _ _ z => by cases z) r3)
          · exact .inr r3
        exact .inr (.inl ⟨_, _, rfl, f H1 h1.sb, k B1 H1 _ _ _ s1 h1 (it_tup f (dp_items q3 hs B1)) w1⟩)
    · cases e
  | d d =>
    simp only [walked] at e
    obtain ⟨p, e1, e⟩ := Option.bind_eq_some_iff.mp e
    obtain ⟨ds', e2, e⟩ := Option.map_eq_some_iff.mp e
    cases e
    exact frzn ⟨p, e1, e2, rfl⟩
  | o i =>
    simp only [walked] at e
    split at e
    · rename_i ds' hp
      cases e
      exact plain (plain_ok h1 q1 hp) w1
    · obtain ⟨p, e1, e⟩ := Option.bind_eq_some_iff.mp e
      obtain ⟨ds', e2, e⟩ := Option.map_eq_some_iff.mp e
      cases e
      exact frzn ⟨p, e1, e2, rfl⟩
  | n c =>
    have gen : ((frz δ1 (.n c)).bind fun p => (itemsOf p.1).map fun ds => (ds, p.2)) = some (ds, δ2) → ((∃ a xs, v = .ref a ∧ SqL S.g.K H1 a xs ∧ R' (Itl S.g.K a) H1) ∨ (∃ a xs, v = .ref a ∧ SqT S.g.K H1 a xs ∧ R' (Itt S.g.K a) H1) ∨ ∃ y, v = .str y ∧ R' (Its y) H1) := fun e => by
      obtain ⟨p, e1, e⟩ := Option.bind_eq_some_iff.mp e
      obtain ⟨ds', e2, e⟩ := Option.map_eq_some_iff.mp e
      cases e
      exact frzn ⟨p, e1, e2, rfl⟩
    cases c with
    | pt xs =>
      cases e
      obtain ⟨a, rfl, _, ⟨o, ys, e1, e2, e3, q⟩, _⟩ := q1
      exact plain ⟨a, o, ys, rfl, e1, e2, e3, q⟩ w1
    | _ => exact gen e
theorem di_rng1 {tg a : Expr} {wr : WA} {p pos : Pos} (hg : GlS S.sc "range") (hm : S.g.mg "range" = none) (ha : DA S [a] wr) (hs : ∀ env, starEach [a] env = [(false, eval a env)] := by intro _; rfl) : DI S tg (.Call (.Name "range" p) [a] [] pos) (wRng wr rng1) := by
  obtain ⟨t, pa, s⟩ := ha
  refine ⟨_, fun c hc => pi_range1 (gl_of hc hg) hm (pa c hc) (hs _), ⟨fun Ex Ex' δ P P' hx h w => s.mono _ _ _ _ _ hx (fun r δ1 w => w.imp fun as w => w.imp fun p w => ⟨w.1, h _ _ w.2⟩) w, fun Ex F B H vs σ δ P R' hx h w k => ?_⟩⟩
  refine s.run _ _ _ _ _ _ _ _ _ hx h w fun B1 H1 ws rs δ1 s1 h1 q1 w1 => ?_
  obtain ⟨as, e1, ⟨lo, hi⟩, e2, hb, w1⟩ := w1
  have ov := views_ok h1 q1 e1
  unfold rng1 at e2
  split at e2
  · cases e2
    cases ov with
    | cons o1 o2 =>
      cases o2
      have := ov_int o1
      subst this
      refine ⟨hi, rfl, hb.2.2.1, hb.2.2.2, k B1 H1 _ _ δ1 s1 h1 it_range (by simpa using w1)⟩
  · cases e2
theorem di_rng2 {tg a b : Expr} {wr : WA} {p pos : Pos} (hg : GlS S.sc "range") (hm : S.g.mg "range" = none) (ha : DA S [a, b] wr) (hs : ∀ env, starEach [a, b] env = [(false, eval a env), (false, eval b env)] := by intro _; rfl) (hs2 : ∀ env, starEach [b] env = [(false, eval b env)] := by intro _; rfl) : DI S tg (.Call (.Name "range" p) [a, b] [] pos) (wRng wr rng2) := by
  obtain ⟨t, pa, s⟩ := ha
  refine ⟨_, fun c hc => pi_range2 (gl_of hc hg) hm (pa c hc) (hs _) (hs2 _), ⟨fun Ex Ex' δ P P' hx h w => s.mono _ _ _ _ _ hx (fun r δ1 w => w.imp fun as w => w.imp fun p w => ⟨w.1, h _ _ w.2⟩) w, fun Ex F B H vs σ δ P R' hx h w k => ?_⟩⟩
  refine s.run _ _ _ _ _ _ _ _ _ hx h w fun B1 H1 ws rs δ1 s1 h1 q1 w1 => ?_
  obtain ⟨as, e1, ⟨lo, hi⟩, e2, hb, w1⟩ := w1
  have ov := views_ok h1 q1 e1
  unfold rng2 at e2
  split at e2
  · cases e2
    cases ov with
    | cons o1 o2 =>
      cases o2 with
      | cons o2 o3 =>
        cases o3
        have z1 := ov_int o1
        have z2 := ov_int o2
        subst z1 z2
        exact ⟨lo, hi, rfl, hb, k B1 H1 _ _ δ1 s1 h1 it_range w1⟩
  · cases e2
end

/-! ### targets -/
theorem wipe_at {σ : L2.St} {j : Nat} : ∀ (js : List Nat), (wipe σ js)[j]? = if j ∈ js then (σ[j]?).map (fun _ => none) else σ[j]?
  | [] => by simp [wipe]
  | k :: js => by
    show ((wipe σ js).set k none)[j]? = _
    rw [List.getElem?_set]
    by_cases hk : k = j
    · subst hk
      rw [if_pos rfl, if_pos List.mem_cons_self, wipe_length]
      by_cases hl : k < σ.length
      · rw [if_pos hl, List.getElem?_eq_getElem hl]; rfl
      · rw [if_neg hl, List.getElem?_eq_none (by omega)]; rfl
    · rw [if_neg hk, wipe_at js]
      by_cases hj : j ∈ js
      · rw [if_pos hj, if_pos (List.mem_cons_of_mem _ hj)]
      · rw [if_neg hj, if_neg (by intro z; rcases List.mem_cons.mp z with z | z; exact hk z.symm; exact hj z)]
theorem wipe_wipe (σ : L2.St) (js : List Nat) : wipe (wipe σ js) js = wipe σ js := by
  refine List.ext_getElem? fun j => ?_
  rw [wipe_at, wipe_at]
  split
  · cases σ[j]? <;> rfl
  · rfl
theorem wipe_set {σ : L2.St} {i : Nat} {v : Option V} {js : List Nat} (h : i ∈ js) : wipe (σ.set i v) js = wipe σ js := by
  refine List.ext_getElem? fun j => ?_
  rw [wipe_at, wipe_at, List.getElem?_set]
  by_cases hj : j ∈ js
  · rw [if_pos hj, if_pos hj]
    by_cases hi : i = j
    · subst hi
      rw [if_pos rfl]
      by_cases hl : i < σ.length
      · rw [if_pos hl, List.getElem?_eq_getElem hl]; rfl
      · rw [if_neg hl, List.getElem?_eq_none (by omega)]
    · rw [if_neg hi]
  · rw [if_neg hj, if_neg hj, if_neg (fun z : i = j => hj (by rw [← z]; exact h))]
/-- σ' is σ but for the slots ts -/
def ButFor (ts : List Nat) (σ σ' : L2.St) : Prop := σ'.length = σ.length ∧ ∀ js : List Nat, (∀ i ∈ ts, i ∈ js) → wipe σ' js = wipe σ js
abbrev WG := PyData → SEnv → Option SEnv
structure GSim (K : PySem.W.Frag) (g : TG) (G : WG) (ts : List Nat) : Prop where
  run : ∀ (F B H : Hp) (vs : List V) (σ : L2.St) (δ δ' : SEnv) (v : V) (d : PyData) (Q : L2.St → Hp → Prop), Rep K F B H vs σ δ → DD B v d → G d δ = some δ' → (∀ σ', Rep K F B H vs σ' δ' → ButFor ts σ σ' → Q σ' H) → g v σ H Q
def DG (S : Sg) (tg : Expr) (G : WG) (ts : List Nat) : Prop := ∃ t, (∀ c, S.ok c → PG (S.g.cx c) tg t) ∧ GSim S.g.K t G ts
abbrev WGs := List PyData → SEnv → Option SEnv
structure GsSim (K : PySem.W.Frag) (g : TGs) (G : WGs) (ts : List Nat) : Prop where
  run : ∀ (F B H : Hp) (vs : List V) (σ : L2.St) (δ δ' : SEnv) (ws : List V) (ds : List PyData) (Q : L2.St → Hp → Prop), Rep K F B H vs σ δ → DDs B ws ds → G ds δ = some δ' → (∀ σ', Rep K F B H vs σ' δ' → ButFor ts σ σ' → Q σ' H) → g ws σ H Q
def DGs (S : Sg) (tgs : List Expr) (G : WGs) (ts : List Nat) : Prop := ∃ t, (∀ c, S.ok c → PGs (S.g.cx c) tgs t) ∧ GsSim S.g.K t G ts
def gN (i : Nat) : WG := fun d δ => some (δ.set i (some (.d d)))
def gsN : WGs := fun ds δ => match ds with
  | [] => some δ
  | _ => none
def gsC (G : WG) (Gs : WGs) : WGs := fun ds δ => match ds with
  | d :: ds => (G d δ).bind (Gs ds)
  | _ => none
def gT (n : Nat) (Gs : WGs) : WG := fun d δ => match d with
  | .tuple ds => if ds.length = n then Gs ds δ else none
  | _ => none
section
variable {S : Sg}
theorem dg_name {i : Nat} {x : Str} {pos : Pos} (hi : S.N[i]? = some x) (hx : Loc S.sc x) (ht : S.top = true ∨ S.sc.names.lookup x = some .local := by first | exact .inl rfl | exact .inr rfl) : DG S (.Name x pos) (gN i) [i] := by
  refine ⟨gName i, fun c hc => pg_name (X := S.g.cx c) (by show c.N.Nodup; rw [hc.hN]; exact hc.nd) (by show c.N[i]? = _; rw [hc.hN]; exact hi) (by show Loc c.env.scope x; rw [hc.hs]; exact hx) (fn_ok hc ht), ⟨fun F B H vs σ δ δ' v d Q h q e k => ?_⟩⟩
  cases e
  exact k _ (h.store i v (.d d) q (fun _ z => nomatch z) (fun a _ c z => nomatch z)) ⟨List.length_set, fun js hj => wipe_set (hj i List.mem_cons_self)⟩
theorem dgs_nil : DGs S [] gsN [] := ⟨gNil, fun _ _ => pgs_nil, ⟨fun F B H vs σ δ δ' ws ds Q h q e k => by
  cases q with
  | nil => cases e; exact ⟨rfl, k σ h ⟨rfl, fun _ _ => rfl⟩⟩
  | cons _ _ => cases e⟩⟩
theorem dgs_cons {e : Expr} {es : List Expr} {G : WG} {Gs : WGs} {ts us : List Nat} (h1 : DG S e G ts) (h2 : DGs S es Gs us) (hs : ∀ env, (assignEach (e :: es) env).map (·.2) = assign e env :: (assignEach es env).map (·.2) := by intro _; rfl) : DGs S (e :: es) (gsC G Gs) (ts ++ us) := by
  obtain ⟨t, p, s⟩ := h1
  obtain ⟨t2, p2, s2⟩ := h2
  refine ⟨_, fun c hc => pgs_cons (p c hc) (p2 c hc) (hs _), ⟨fun F B H vs σ δ δ' ws ds Q h q e k => ?_⟩⟩
  cases q with
  | nil => cases e
  | cons q1 q2 =>
    obtain ⟨δ1, e1, e⟩ := Option.bind_eq_some_iff.mp e
    refine ⟨_, _, rfl, s.run F B H vs σ δ δ1 _ _ _ h q1 e1 fun σ1 h1 b1 => ?_⟩
    refine s2.run F B H vs σ1 δ1 δ' _ _ _ h1 q2 e fun σ2 h2 b2 => k σ2 h2 ⟨b2.1.trans b1.1, fun js hj => ?_⟩
    rw [b2.2 js fun i hi => hj i (List.mem_append_right _ hi), b1.2 js fun i hi => hj i (List.mem_append_left _ hi)]
theorem dg_tup {es : List Expr} {k n : Nat} {Gs : WGs} {pos : Pos} {ts : List Nat} (h : DGs S es Gs ts) (hn : ∀ env, (assignEach es env).length = n := by intro _; rfl) (hst : ∀ env, (assignEach es env).findIdx? (·.1) = none := by intro _; rfl) : DG S (.Tuple es k pos) (gT n Gs) ts := by
  obtain ⟨t, p, s⟩ := h
  refine ⟨gTup S.g.K n t, fun c hc => pg_tup (X := S.g.cx c) hc.calm (p c hc) (hn _) (hst _), ⟨fun F B H vs σ δ δ' v d Q h q e k => ?_⟩⟩
  cases q with
  | tup r q =>
    simp only [gT] at e
    split at e
    · rename_i hl
      exact ⟨_, _, rfl, .inl (r.mono h.sb).rd, by rw [q.length]; exact hl, s.run F B H vs σ δ δ' _ _ _ h q e k⟩
    · cases e
  | _ => cases e
end
end DL
set_option Elab.async false
set_option linter.all false
set_option maxRecDepth 100000
set_option maxHeartbeats 4000000
set_option autoImplicit false
namespace DL
open PySem PySem.Spec PyProof.Rows L2

/-! ### for -/
def wForR (G : WG) (body : WS) : List PyData → WS
  | [], d, δ => d.nx δ
  | x :: xs, d, δ => ob (G x δ) fun δ1 => body { nx := wForR G body xs d, rt := d.rt, bk := d.nx, ct := wForR G body xs d, ex := d.ex } δ1
def wFor (wi : WI) (G : WG) (body : WS) : WS := fun d δ => wi d.ex δ fun ds δ1 => wForR G body ds d δ1
section
variable {S : Sg}
theorem wForR_mono {G : WG} {body : WS} (hb : ∀ (d d' : DEnds) (δ : SEnv), d.le d' → body d δ → body d' δ) : ∀ (xs : List PyData) (d d' : DEnds) (δ : SEnv), d.le d' → wForR G body xs d δ → wForR G body xs d' δ
  | [], d, d', δ, h, w => h.nx _ w
  | x :: xs, d, d', δ, h, w => w.imp fun δ1 w => hb { nx := wForR G body xs d, rt := d.rt, bk := d.nx, ct := wForR G body xs d, ex := d.ex } { nx := wForR G body xs d', rt := d'.rt, bk := d'.nx, ct := wForR G body xs d', ex := d'.ex } δ1
      ⟨fun δ w => wForR_mono hb xs d d' δ h w, h.rt, h.nx, fun δ w => wForR_mono hb xs d d' δ h w, h.ex⟩ w
theorem ds_for {tg iter : Expr} {body : List Stmt} {wi : WI} {G : WG} {wb : WS} {pos : Pos} {ts : List Nat} (hi : DI S tg iter wi) (hg : DG S tg G ts) (hb : DSs S body wb) (hf : ∀ env x, foldedSetIterable iter env x = pure x := by intro _ _; rfl) : DS S (.For tg iter body [] pos) (wFor wi G wb) := by
  obtain ⟨ti, pi, si⟩ := hi
  obtain ⟨tg', pg, sg⟩ := hg
  obtain ⟨tb, pb, sb⟩ := hb
  refine ⟨tFor ti tg' tb, fun c hc => ps_for hc.po hc.calm (pi c hc) (pg c hc) (pb c hc) (hf _), ⟨fun d d' δ h w => ?_, fun F B H vs σ δ D d hx h k w => ?_⟩⟩
  · exact si.mono _ _ _ _ _ h.ex (fun ds δ1 w => wForR_mono sb.mono ds d d' δ1 h w) w
  · refine si.run _ _ _ _ _ _ _ _ _ hx h w fun B1 H1 J ds δ1 s1 h1 q1 w1 => ?_
    refine ⟨fun i m σ H => m = ds.length - i ∧ i ≤ ds.length ∧ ∃ B' δ', Same B1 B' ∧ Rep S.g.K F B' H vs σ δ' ∧ wForR G wb (ds.drop i) d δ', ⟨ds.length, by simp, Nat.zero_le _, B1, δ1, Same.refl _, h1, w1⟩, ?_⟩
    rintro i m σ2 H2 ⟨rfl, hi, B2, δ2, s2, h2, w2⟩
    by_cases hlt : i < ds.length
    · refine .inr ⟨q1.go i H2 (s2.trans h2.sb) hlt, fun σ' H' => ∃ B' δ', Same B1 B' ∧ Rep S.g.K F B' H' vs σ' δ' ∧ wForR G wb (ds.drop (i + 1)) d δ', fun σ' H' ⟨B', δ', t1, t2, t3⟩ => ⟨ds.length - (i + 1), by omega, rfl, hlt, B', δ', t1, t2, t3⟩, fun x H' y => ?_⟩
      have ed : ds.drop i = ds[i] :: ds.drop (i + 1) := List.drop_eq_getElem_cons hlt
      rw [ed] at w2
      obtain ⟨δ3, e3, w3⟩ := w2
      have fin : ∀ (B3 H3 : Hp) (x : V), Same B2 B3 → Rep S.g.K F B3 H3 vs σ2 δ2 → DD B3 x ds[i] → tg' x σ2 H3 fun σ2' H2' => tb { D with nx := fun σ' H' => ∃ B' δ', Same B1 B' ∧ Rep S.g.K F B' H' vs σ' δ' ∧ wForR G wb (ds.drop (i + 1)) d δ', ct := fun σ' H' => ∃ B' δ', Same B1 B' ∧ Rep S.g.K F B' H' vs σ' δ' ∧ wForR G wb (ds.drop (i + 1)) d δ', bk := D.nx } σ2' H2' := by
        intro B3 H3 x s3 h3 q3
        refine sg.run F B3 H3 vs σ2 δ2 δ3 x _ _ h3 q3 e3 fun σ3 h4 _ => ?_
        have s4 : Same B B3 := s1.trans (s2.trans s3)
        refine sb.run F B3 H3 vs σ3 δ3 _ { nx := wForR G wb (ds.drop (i + 1)) d, rt := d.rt, bk := d.nx, ct := wForR G wb (ds.drop (i + 1)) d, ex := d.ex } (hx.up s4) h4 ⟨fun B' σ' H' δ' t1 t2 t3 => ⟨B', δ', (s2.trans s3).trans t1, t2, t3⟩, (k.up s4).rt, (k.up s4).nx, fun B' σ' H' δ' t1 t2 t3 => ⟨B', δ', (s2.trans s3).trans t1, t2, t3⟩⟩ w3
      obtain ⟨B3', s3', g3', q3'⟩ := q1.yld i H2 B2 x H' ds[i] s2 h2.sb y (by simp [hlt])
      exact fin B3' H' x s3' (g3' _ _ _ _ _ h2) q3'
    · have e : i = ds.length := by omega
      subst e
      rw [List.drop_length] at w2
      exact .inl ⟨q1.stop _ H2 (s2.trans h2.sb) (Nat.le_refl _), k.nx B2 σ2 H2 δ2 (s1.trans s2) h2 w2⟩
end

/-! ### [.. for .. in .. if ..] -/
def forgetAll : SEnv → List Nat → SEnv
  | δ, [] => δ
  | δ, i :: is => (forgetAll δ is).set i none
/-- behind the block: its own names as they were, where they were data -/
def restore (δ0 : SEnv) : SEnv → List Nat → SEnv
  | δ, [] => δ
  | δ, i :: is => match δ0[i]? with
    | some (some (.d d)) => (restore δ0 δ is).set i (some (.d d))
    | _ => (restore δ0 δ is).set i none
abbrev Ex0 : XP := fun _ => False
def wLcR (G : WG) (wt : WT) (we : WE) (own : List Nat) : List PyData → List PyData → SEnv → (List PyData → SEnv → Prop) → Prop
  | [], acc, δ, P => P acc δ
  | x :: xs, acc, δ, P => ob (G x (forgetAll δ own)) fun δ1 => wt Ex0 δ1 fun b δ2 => if b = true then we Ex0 δ2 fun r δ3 => ob (frz δ3 r) fun p => acc.length < sizeLine ∧ wLcR G wt we own xs (acc ++ [p.1]) p.2 P else wLcR G wt we own xs acc δ2 P
def wLc (wi : WI) (G : WG) (wt : WT) (we : WE) (own : List Nat) : WE := fun Ex δ P => wi Ex δ fun ds δ1 => wLcR G wt we own ds [] δ1 fun acc δ2 => P (.n (.l acc)) (restore δ1 (forgetAll δ2 own) own)
def wYes : WT := fun _ δ P => P true δ
section
variable {K : PySem.W.Frag} {F B H : Hp} {vs : List V} {σ : L2.St} {δ : SEnv}
/-- slots may be unknown -/
theorem Rep.dim (h : Rep K F B H vs σ δ) {σ' : L2.St} {δ' : SEnv} (hl : σ'.length = δ'.length) (hs : ∀ (i : Nat) (s : Sl), δ'[i]? = some (some s) → δ[i]? = some (some s) ∧ σ'[i]? = σ[i]?) : Rep K F B H vs σ' δ' := by
  refine ⟨h.sb, h.sf, h.dj, hl, fun i s e => ?_, fun i j a a' p b c b' c' e1 e2 e3 e4 f5 f6 => ?_, fun i c e => ?_, h.nt⟩
  · obtain ⟨e1, e2⟩ := hs i s e
    rw [e2]; exact h.ok i s e1
  · obtain ⟨f1, f2⟩ := hs i _ e1
    obtain ⟨g1, g2⟩ := hs j _ e2
    rw [f2] at e3; rw [g2] at e4
    exact h.apart i j a a' p b c b' c' f1 g1 e3 e4 f5 f6
  · obtain ⟨e1, e2⟩ := hs i _ e
    rw [e2]; exact h.bor i c e1
theorem forgetAll_length (δ : SEnv) : ∀ is : List Nat, (forgetAll δ is).length = δ.length
  | [] => rfl
  | i :: is => by unfold forgetAll; rw [List.length_set, forgetAll_length δ is]
theorem forgetAll_get {δ : SEnv} {j : Nat} {s : Sl} : ∀ {is : List Nat}, (forgetAll δ is)[j]? = some (some s) → δ[j]? = some (some s) ∧ j ∉ is
  | [], e => ⟨e, by simp⟩
  | i :: is, e => by
    rcases set_get e with ⟨_, z⟩ | ⟨n, z⟩
    · cases z
    · obtain ⟨e1, e2⟩ := forgetAll_get (is := is) z
      exact ⟨e1, by intro hm; rcases List.mem_cons.mp hm with hm | hm; exact n hm; exact e2 hm⟩
theorem forgetAll_at {δ : SEnv} {j : Nat} : ∀ (js : List Nat), (forgetAll δ js)[j]? = if j ∈ js then (δ[j]?).map (fun _ => none) else δ[j]?
  | [] => by simp [forgetAll]
  | k :: js => by
    show ((forgetAll δ js).set k none)[j]? = _
    rw [List.getElem?_set]
    by_cases hk : k = j
    · subst hk
      rw [if_pos rfl, if_pos List.mem_cons_self, forgetAll_length]
      by_cases hl : k < δ.length
      · rw [if_pos hl, List.getElem?_eq_getElem hl]; rfl
      · rw [if_neg hl, List.getElem?_eq_none (by omega)]; rfl
    · rw [if_neg hk, forgetAll_at js]
      by_cases hj : j ∈ js
      · rw [if_pos hj, if_pos (List.mem_cons_of_mem _ hj)]
      · rw [if_neg hj, if_neg (by intro z; rcases List.mem_cons.mp z with z | z; exact hk z.symm; exact hj z)]
theorem forgetAll_twice (δ : SEnv) (js : List Nat) : forgetAll (forgetAll δ js) js = forgetAll δ js := by
  refine List.ext_getElem? fun j => ?_
  rw [forgetAll_at, forgetAll_at]
  split
  · cases δ[j]? <;> rfl
  · rfl
theorem wipe_get {j : Nat} : ∀ {is : List Nat}, j ∉ is → (wipe σ is)[j]? = σ[j]?
  | [], _ => rfl
  | i :: is, h => by
    unfold wipe
    rw [List.getElem?_set_ne (fun z => h (by rw [z]; exact List.mem_cons_self))]
    exact wipe_get fun z => h (List.mem_cons_of_mem _ z)
theorem Rep.wiped (h : Rep K F B H vs σ δ) (is : List Nat) : Rep K F B H vs (wipe σ is) (forgetAll δ is) :=
  h.dim (by rw [wipe_length, forgetAll_length]; exact h.len) fun i s e => by
    obtain ⟨e1, e2⟩ := forgetAll_get e
    exact ⟨e1, wipe_get e2⟩
theorem Rep.unwiped {σ2 : L2.St} {is : List Nat} (h : Rep K F B H vs σ2 δ) (hw : wipe σ2 is = wipe σ is) (hl : σ2.length = σ.length) : Rep K F B H vs σ (forgetAll δ is) :=
  h.dim (by rw [forgetAll_length, ← h.len, hl]) fun i s e => by
    obtain ⟨e1, e2⟩ := forgetAll_get e
    refine ⟨e1, ?_⟩
    rw [← wipe_get (σ := σ) e2, ← hw, wipe_get e2]
theorem Rep.restored {B0 : Hp} {H0 : Hp} {δ0 : SEnv} (h0 : Rep K F B0 H0 vs σ δ0) (s : Same B0 B) : ∀ {is : List Nat}, Rep K F B H vs σ δ → Rep K F B H vs σ (restore δ0 δ is)
  | [], h => h
  | i :: is, h => by
    have h' := Rep.restored h0 s (is := is) h
    unfold restore
    split
    · rename_i d e
      obtain ⟨v, e1, q⟩ := h0.ok i _ e
      exact h'.know e1 (DD.mono s q)
    · exact h'.forget i
/-- the list under way belongs to the frame -/
theorem Rep.lay (h : Rep K F B H vs σ δ) {D : Addr} (hD : H D = none) (o : HO) : Rep K (upd F D o) B (upd H D o) vs σ δ := by
  have h1 := h.newO hD o
  refine ⟨h1.sb, fun a u e => ?_, fun a u e => ?_, h1.len, fun i s e => ?_, h1.apart, h1.bor, h1.nt⟩
  · by_cases ha : a = D
    · subst ha; rw [upd_same] at e ⊢; exact e
    · rw [upd_ne ha] at e; exact h1.sf a u e
  · by_cases ha : a = D
    · subst ha; exact nof h.sb hD
    · rw [upd_ne ha] at e; exact h1.dj a u e
  · obtain ⟨v, e1, q⟩ := h1.ok i s e
    refine ⟨v, e1, ?_⟩
    cases s with
    | d d => exact q
    | w d => exact q
    | o b c =>
      obtain ⟨a, e2, e3, q2⟩ := q
      obtain ⟨v', e1', a', e2', _, q2'⟩ := h.ok i _ e
      rw [e1] at e1'; cases e1'
      subst e2; cases e2'
      refine ⟨a, rfl, fun p f => ?_, q2⟩
      have hp : p ≠ D := foot_new (o := o) q2' hD ((foot_upd q2' hD).mp f)
      rw [upd_ne hp]; exact e3 p f
theorem Rep.relay {D : Addr} {o o' : HO} (h : Rep K (upd F D o) B H vs σ δ) : Rep K (upd F D o') B (upd H D o') vs σ δ := by
  have hB : B D = none := h.dj D o upd_same
  have nd : ∀ {i : Nat} {b : Bool} {c : Cont} {a p : Addr}, δ[i]? = some (some (.o b c)) → σ[i]? = some (some (.ref a)) → Foot H a c p → p ≠ D := fun e ea f z => by
    have := ((h.own_up e ea).1 _ f).2
    subst z; rw [upd_same] at this; cases this
  have sm : ∀ {i : Nat} {b : Bool} {c : Cont} {a p : Addr}, δ[i]? = some (some (.o b c)) → σ[i]? = some (some (.ref a)) → (Foot (upd H D o') a c p ↔ Foot H a c p) := fun e ea => foot_eq fun p f => upd_ne (nd e ea f)
  refine ⟨fun a u e => ?_, fun a u e => ?_, fun a u e => ?_, h.len, fun i s e => ?_, fun i j a a' p b c b' c' e1 e2 e3 e4 f1 f2 => h.apart i j a a' p b c b' c' e1 e2 e3 e4 ((sm e1 e3).mp f1) ((sm e2 e4).mp f2), h.bor, h.nt⟩
  · rw [upd_ne (ne_of_none e hB)]; exact h.sb a u e
  · by_cases ha : a = D
    · subst ha; rw [upd_same] at e ⊢; exact e
    · rw [upd_ne ha] at e ⊢; exact h.sf a u (by rw [upd_ne ha]; exact e)
  · by_cases ha : a = D
    · subst ha; exact hB
    · rw [upd_ne ha] at e; exact h.dj a u (by rw [upd_ne ha]; exact e)
  · obtain ⟨v, e1, q⟩ := h.ok i s e
    refine ⟨v, e1, ?_⟩
    cases s with
    | d d => exact q
    | w d => exact q
    | o b c =>
      obtain ⟨a, e2, e3, q2⟩ := q
      subst e2
      refine ⟨a, rfl, fun p f => ?_, q2.mono (Same.refl _) fun p f => upd_ne (nd e e1 f)⟩
      have f' := (sm e e1).mp f
      have := e3 p f'
      rw [upd_ne (nd e e1 f')] at this ⊢
      exact this
theorem Rep.unlay {D : Addr} {o : HO} (h : Rep K (upd F D o) B H vs σ δ) (hF : F D = none) : Rep K F B H vs σ δ := by
  refine ⟨h.sb, fun a u e => h.sf a u (by rw [upd_ne (ne_of_none e hF)]; exact e), fun a u e => h.dj a u (by rw [upd_ne (ne_of_none e hF)]; exact e), h.len, fun i s e => ?_, h.apart, h.bor, h.nt⟩
  obtain ⟨v, e1, q⟩ := h.ok i s e
  refine ⟨v, e1, ?_⟩
  cases s with
  | d d => exact q
  | w d => exact q
  | o b c =>
    obtain ⟨a, e2, e3, q2⟩ := q
    refine ⟨a, e2, fun p f => ⟨(e3 p f).1, ?_⟩, q2⟩
    have z := (e3 p f).2
    have hp : p ≠ D := fun w => by subst w; rw [upd_same] at z; cases z
    rwa [upd_ne hp] at z
/-- what belongs to the frame stands apart from the slots -/
theorem Rep.off {D : Addr} {o : HO} (h : Rep K (upd F D o) B H vs σ δ) : Off H σ δ fun q => q = D := fun i b c a p e ea f z => by
  have := ((h.own_up e ea).1 _ f).2
  subst z; rw [upd_same] at this; cases this
theorem off_restore {H : Hp} {σ : L2.St} {δ1 δ' : SEnv} {f : Addr → Prop} {us : List Nat} (h : Off H σ (forgetAll δ' us) f) : ∀ (is : List Nat), Off H σ (restore δ1 (forgetAll δ' us) is) f := by
  have own_of : ∀ (is : List Nat) (i : Nat) (b : Bool) (c : Cont), (restore δ1 (forgetAll δ' us) is)[i]? = some (some (.o b c)) → (forgetAll δ' us)[i]? = some (some (.o b c)) := by
    intro is
    induction is with
    | nil => intro i b c e; exact e
    | cons j is ih =>
      intro i b c e
      unfold restore at e
      split at e <;> (rcases set_get e with ⟨_, z⟩ | ⟨_, z⟩ <;> first | (cases z; done) | exact ih i b c z)
  exact fun is i b c a p e ea fp => h i b c a p (own_of is i b c e) ea fp
end
/-- the block's own contexts -/
def Sg.blk (S : Sg) (scope : Scope) : Sg := ⟨S.g, S.CX, S.N, relS scope S.sc, S.k, fun _ _ _ => False, false, false⟩
def CXok (CX : CXT) : Prop := ∀ (outer : List Env) (H : Hp) (s : Shared) (e : Value) (s' : Shared), CX outer H s (fun _ _ _ => False) e s' → False
theorem cx0_ok : CXok CX0 := fun _ _ _ _ _ h => h
def DTs (S : Sg) (ifs : List Expr) (W : WT) : Prop := ∃ t, (∀ c, S.ok c → PTs (S.g.cx c) ifs t) ∧ TSim S.g.K S.E t W
theorem dts_nil {S : Sg} : DTs S [] wYes := ⟨tYes, fun _ _ => pts_nil, ⟨fun _ _ _ _ _ _ h w => h _ _ w, fun Ex F B H vs σ δ P Q hx h w k => k B H true δ (Same.refl _) h w⟩⟩
theorem dts_one {S : Sg} {c : Expr} {w : WT} (h : DT S c w) : DTs S [c] w := by
  obtain ⟨t, p, s⟩ := h
  exact ⟨t, fun c hc => pts_one (p c hc), s⟩
section
variable {S : Sg}
theorem blk_ok {scope : Scope} (hCX : CXok S.CX) {c : Cl} (hc : S.ok c) (s : Shared) (H : Hp) (C : Addr) (cl : List (Str × Addr)) (fp : List Addr) :
    (S.blk scope).ok ⟨c.A, c.N, s, H, compEnvC scope cl C c.env, c.stack, c.stack, fp, fun x => scope.names.lookup x == some .cell, c.calm, [], fun _ _ => False⟩ :=
  ⟨hc.hN, hc.nd, by show relS scope c.env.scope = relS scope S.sc; rw [hc.hs], hc.calm, hc.room, fun _ _ _ _ _ _ _ h => hCX _ _ _ _ _ h, PassesOwn.never, (fun z => by cases z), hc.gd, (fun z => by cases z)⟩
/-- the block of a comprehension, with its list at D -/
theorem lc_run {K : PySem.W.Frag} {tg' : TG} {tt : TT} {te : TE} {G : WG} {wt : WT} {we : WE} {own ts : List Nat} {F B1 H1 : Hp} {vs : List V} {σ : L2.St} {δ1 : SEnv} {J : It} {ds : List PyData} {E0' : XK} (sg : GSim K tg' G ts) (hts : ∀ i ∈ ts, i ∈ own) (st : TSim K E0' tt wt) (se : ESim K E0' te we)
    (h1 : Rep K F B1 H1 vs σ δ1) (q1 : ItOk B1 J ds) {D : Addr} (hD : H1 D = none) {P : List PyData → SEnv → Prop} (w1 : wLcR G wt we own ds [] δ1 P) {Qd : Hp → Prop}
    (k : ∀ B' H' acc xs δ', Same B1 B' → Rep K (upd F D (.lst xs)) B' H' vs σ (forgetAll δ' own) → DDs B' xs acc → P acc δ' → Qd H') :
    ∃ W : Nat → Nat → Hp → Prop, (∃ m, W 0 m (upd H1 D (.lst []))) ∧ ∀ i m H, W i m H →
      (J.stop i H ∧ Qd H) ∨ (J.go i H ∧ ∃ Nx : Hp → Prop, (∀ H', Nx H' → ∃ m', m' < m ∧ W (i + 1) m' H') ∧ ∀ x H', J.yld i H x H' → tg' x (wipe σ own) H' fun σ2 H2 => wipe σ2 own = wipe σ own ∧ tt σ2 H2 fun b H3 =>
        if b = true then te σ2 H3 fun y H4 => ∃ acc, H4 D = some (.lst acc) ∧ acc.length < sizeLine ∧ Nx (upd H4 D (.lst (acc ++ [y]))) else Nx H3) := by
  have hF : F D = none := nof h1.sf hD
  refine ⟨fun i m H => m = ds.length - i ∧ i ≤ ds.length ∧ ∃ B' δ' acc xs, Same B1 B' ∧ Rep K (upd F D (.lst xs)) B' H vs σ (forgetAll δ' own) ∧ DDs B' xs acc ∧ wLcR G wt we own (ds.drop i) acc δ' P, ⟨ds.length, by simp, Nat.zero_le _, B1, δ1, [], [], Same.refl _, ?_, .nil, w1⟩, ?_⟩
  · exact (h1.lay hD _).dim (by rw [forgetAll_length]; exact h1.len) fun i s e => ⟨(forgetAll_get e).1, rfl⟩
  rintro i m H2 ⟨rfl, hi, B2, δ2, acc, xs, s2, h2, qa, w2⟩
  by_cases hlt : i < ds.length
  · refine .inr ⟨q1.go i H2 (s2.trans h2.sb) hlt, fun H' => ∃ B' δ' acc xs, Same B1 B' ∧ Rep K (upd F D (.lst xs)) B' H' vs σ (forgetAll δ' own) ∧ DDs B' xs acc ∧ wLcR G wt we own (ds.drop (i + 1)) acc δ' P, fun H' ⟨B', δ', a', x', t1, t2, t3, t4⟩ => ⟨ds.length - (i + 1), by omega, rfl, hlt, B', δ', a', x', t1, t2, t3, t4⟩, fun x H' y => ?_⟩
    have ed : ds.drop i = ds[i] :: ds.drop (i + 1) := List.drop_eq_getElem_cons hlt
    rw [ed] at w2
    obtain ⟨δ3, e3, w3⟩ := w2
    have hw : Rep K (upd F D (.lst xs)) B2 H2 vs (wipe σ own) (forgetAll δ2 own) := by
      have := h2.wiped own
      rw [forgetAll_twice] at this; exact this
    -- behind an element or a test the slots of the def are as they were
    have away : ∀ {B5 H5 : Hp} {σ2 : L2.St} {δ5 : SEnv} {xs' : List V}, ButFor ts (wipe σ own) σ2 → Rep K (upd F D (.lst xs')) B5 H5 vs σ2 δ5 → Rep K (upd F D (.lst xs')) B5 H5 vs σ (forgetAll δ5 own) := by
      intro B5 H5 σ2 δ5 xs' b h5
      refine h5.unwiped ?_ (by rw [b.1, wipe_length])
      rw [b.2 own hts, wipe_wipe]
    have fin : ∀ (B3 H3 : Hp) (x : V), Same B2 B3 → Rep K (upd F D (.lst xs)) B3 H3 vs (wipe σ own) (forgetAll δ2 own) → DD B3 x ds[i] → tg' x (wipe σ own) H3 fun σ2 H2' => wipe σ2 own = wipe σ own ∧ tt σ2 H2' fun b H3' =>
        if b = true then te σ2 H3' fun y H4 => ∃ acc, H4 D = some (.lst acc) ∧ acc.length < sizeLine ∧ (∃ B' δ' acc' xs', Same B1 B' ∧ Rep K (upd F D (.lst xs')) B' (upd H4 D (.lst (acc ++ [y]))) vs σ (forgetAll δ' own) ∧ DDs B' xs' acc' ∧ wLcR G wt we own (ds.drop (i + 1)) acc' δ' P)
        else ∃ B' δ' acc' xs', Same B1 B' ∧ Rep K (upd F D (.lst xs')) B' H3' vs σ (forgetAll δ' own) ∧ DDs B' xs' acc' ∧ wLcR G wt we own (ds.drop (i + 1)) acc' δ' P := by
      intro B3 H3 x s3 h3 q3
      refine sg.run _ B3 H3 vs (wipe σ own) _ δ3 x _ _ h3 q3 e3 fun σ2 h4 b2 => ⟨by rw [b2.2 own hts, wipe_wipe], ?_⟩
      refine st.run Ex0 _ B3 H3 vs σ2 δ3 _ _ (fun _ _ _ _ _ _ _ _ _ _ _ _ z => z.elim) h4 w3 fun B4 H4 b δ4 s4 h5 w4 => ?_
      cases b with
      | false => exact ⟨B4, δ4, acc, xs, s2.trans (s3.trans s4), away b2 h5, qa.mono (s3.trans s4), w4⟩
      | true =>
        refine se.run Ex0 _ B4 H4 vs σ2 δ4 _ _ (fun _ _ _ _ _ _ _ _ _ _ _ _ z => z.elim) h5 w4 fun B5 H5 v r δ5 s5 h6 q6 w5 => ?_
        obtain ⟨⟨d, δ6⟩, e6, hl, w6⟩ := w5
        obtain ⟨B6, s6, h7, d7⟩ := frz_ok h6 q6 e6
        refine ⟨xs, h7.sf D _ upd_same, by rw [qa.length]; exact hl, B6, δ6, acc ++ [d], xs ++ [v], s2.trans (s3.trans (s4.trans (s5.trans s6))), ?_, ((qa.mono (s3.trans (s4.trans (s5.trans s6)))).snoc d7), w6⟩
        have := (away b2 h7).relay (o' := .lst (xs ++ [v]))
        exact this
    obtain ⟨B3', s3', g3', q3'⟩ := q1.yld i H2 B2 x H' ds[i] s2 h2.sb y (by simp [hlt])
    exact fin B3' H' x s3' (g3' _ _ _ _ _ hw) q3'
  · have e : i = ds.length := by omega
    subst e
    rw [List.drop_length] at w2
    exact .inl ⟨q1.stop _ H2 (s2.trans h2.sb) (Nat.le_refl _), k B2 H2 acc xs δ2 s2 h2 qa w2⟩
theorem wLcR_mono {K : PySem.W.Frag} {G : WG} {wt : WT} {we : WE} {own : List Nat} {tt : TT} {te : TE} {E0' : XK} (st : TSim K E0' tt wt) (se : ESim K E0' te we) : ∀ (xs acc : List PyData) (δ : SEnv) (P P' : List PyData → SEnv → Prop), (∀ a δ, P a δ → P' a δ) → wLcR G wt we own xs acc δ P → wLcR G wt we own xs acc δ P'
  | [], acc, δ, P, P', h, w => h _ _ w
  | x :: xs, acc, δ, P, P', h, w => w.imp fun δ1 w => by
    refine st.mono _ _ _ _ _ (fun _ z => z) (fun b δ2 w => ?_) w
    cases b with
    | false => exact wLcR_mono st se xs acc δ2 P P' h w
    | true =>
      refine se.mono _ _ _ _ _ (fun _ z => z) (fun r δ3 w => w.imp fun p w => ⟨w.1, ?_⟩) w
      exact wLcR_mono st se xs _ _ P P' h w.2
theorem sim_lc {K : PySem.W.Frag} {E E0' : XK} {ti : TI} {tg' : TG} {tt : TT} {te : TE} {wi : WI} {G : WG} {wt : WT} {we : WE} {own ts : List Nat} (si : ISim K E ti wi) (sg : GSim K tg' G ts) (hts : ∀ i ∈ ts, i ∈ own) (st : TSim K E0' tt wt) (se : ESim K E0' te we) : ESim K E (tLc ti tg' tt te own) (wLc wi G wt we own) := by
  refine ⟨fun Ex Ex' δ P P' hx h w => ?_, fun Ex F B H vs σ δ P Q hx h w k => ?_⟩
  · exact si.mono _ _ _ _ _ hx (fun ds δ1 w => wLcR_mono st se ds [] δ1 _ _ (fun acc δ2 w => h _ _ w) w) w
  · refine si.run _ _ _ _ _ _ _ _ _ hx h w fun B1 H1 J ds δ1 s1 h1 q1 w1 => ?_
    intro D hD
    refine lc_run sg hts st se h1 q1 hD w1 fun B' H' acc xs δ' s2 h2 qa w2 => ?_
    have hF : F D = none := nof h1.sf hD
    have h3 : Rep K F B' H' vs σ (restore δ1 (forgetAll δ' own) own) := Rep.restored h1 s2 (h2.unlay hF)
    exact k B' H' (.ref D) (.n (.l acc)) _ (s1.trans s2) h3 ⟨D, rfl, foot_bf rfl (h2.dj D _ upd_same) hF, ⟨xs, h2.sf D _ upd_same, qa⟩, off_restore h2.off own⟩ w2
theorem de_lc {elt tg iter : Expr} {ifs : List Expr} {scope : Scope} {own : List (Str × Nat)} {pos : Pos} {wi : WI} {G : WG} {wt : WT} {we : WE} {ts : List Nat} (hCX : CXok S.CX) (hi : DI S tg iter wi) (hblk : blkC S.N S.sc scope own = true) (hg : DG (S.blk scope) tg G ts) (hts : ts.all (fun i => (own.map (·.2)).contains i) = true)
    (ht : DTs (S.blk scope) ifs wt) (he : DE (S.blk scope) elt we) (hs : ∀ env x, foldedSetIterable iter env x = pure x := by intro _ _; rfl) : DE S (.ListComp elt [⟨tg, iter, ifs, 0⟩] scope pos) (wLc wi G wt we (own.map (·.2))) := by
  obtain ⟨ti, pi, si⟩ := hi
  obtain ⟨tg', pg, sg⟩ := hg
  obtain ⟨tt, pt, st⟩ := ht
  obtain ⟨te, pe, se⟩ := he
  have hts' : ∀ i ∈ ts, i ∈ own.map (·.2) := fun i hi => by
    have := List.all_eq_true.mp hts i hi
    simpa using this
  refine ⟨tLc ti tg' tt te (own.map (·.2)), fun c hc => ?_, sim_lc si sg hts' st se⟩
  refine pe_lc (X := S.g.cx c) hc.calm (by show c.N.Nodup; rw [hc.hN]; exact hc.nd) (pi c hc) (by show BlkOk c.N c.env.scope scope own; rw [hc.hN, hc.hs]; exact blkOk_by hblk) (fun s H C cl fp => ?_) (fun s H C cl fp => ?_) (fun s H C cl fp => ?_) (hs _)
  · exact pg _ (blk_ok hCX hc s H C cl fp)
  · exact pt _ (blk_ok hCX hc s H C cl fp)
  · exact pe _ (blk_ok hCX hc s H C cl fp)
end
end DL
set_option Elab.async false
set_option linter.all false
set_option maxRecDepth 100000
set_option maxHeartbeats 4000000
set_option autoImplicit false
namespace DL
open PySem PySem.Spec PyProof.Rows L2

/-! ### the law's own call -/
theorem law_run {P : Program} {w : World} {K : PySem.W.Frag} {mg mb : Str → Option Value} {CX : CXT} {k : Nat} {fa a : Addr} {fd : FuncData} {x : Str} {sp : Sp} {sh : Shared} {vs : List Value} {ns : List Int}
    (KX : K.In sh.heap) (hns : sh.heap.Ns mainGlobals mg) (hb : sh.heap.Ns builtinsNs mb) (hbb : ∀ y : Str, y ≠ "__name__" → mb y = bootBuiltins y) (hlim : sh.heap.NoLimit) (hgn : sh.gens = #[])
    (ha : sh.heap.get? a = some { cls := .type "list", data := .seq vs.toArray }) (hi : IntsAre vs ns) (hl : ns.length ≤ sizeLine) (hr : Room k callerA)
    (hF : ∀ base : Heap, K.In base → base.Ns mainGlobals mg → FnG ⟨P, w, K, mg, base⟩ CX k fa fd [x] sp) (hbind : ∀ (s : Shared) (u : Value), BindsTo s fd ⟨[u], []⟩ [(x, u)])
    (hsp : ∀ H : Hp, Only H → SqL K H a (ns.map V.int) → sp [.ref a] H (fun v _ => v = .bl true) fun _ _ _ => False) (hCX : CXok CX) :
    codeAny (model P w) callerA (.call (.ref fa) ⟨[.ref a], []⟩) (fun r s' => r = .ok (.ret (.bool true)) ∧ OldK sh.heap s'.heap ∧ s'.os = sh.os ∧ AllBare s'.gens) sh := by
  have rv := vals_ints hi
  have main : ∀ H : Hp, Only H → SqL K H a (ns.map V.int) → HOk P w H sh.heap → (∀ b u, H b = some u → b = a ∧ K.lookup a = none) →
      codeAny (model P w) callerA (.call (.ref fa) ⟨[.ref a], []⟩) (fun r s' => r = .ok (.ret (.bool true)) ∧ OldK sh.heap s'.heap ∧ s'.os = sh.os ∧ AllBare s'.gens) sh := by
    intro H hO hS hok hA
    have stay : ∀ {b : Addr} {o : Obj}, sh.heap.get? b = some o → (∀ es ep, o.data = .dict es ep → H b = none) ∧ (K.lookup b = some o → H b = none) := by
      intro b o e
      constructor
      · intro es ep d
        cases q : H b with
        | none => rfl
        | some u =>
          obtain ⟨rfl, _⟩ := hA b u q
          rw [ha] at e; cases e; cases d
      · intro kl
        cases q : H b with
        | none => rfl
        | some u =>
          obtain ⟨rfl, z⟩ := hA b u q
          rw [z] at kl; cases kl
    have ns_of : ∀ {b : Addr} {m : Str → Option Value}, sh.heap.Ns b m → (hidT sh.heap H).Ns b m := by
      rintro b m ⟨o, es, ep, e, d, r⟩
      exact ⟨o, es, ep, hidT_get e ((stay e).1 es ep d), d, r⟩
    have KH : K.In (hidT sh.heap H) := fun b o e => hidT_get (KX b o e) ((stay (KX b o e)).2 e)
    have hM : Mod K mg (hidT sh.heap H) := by
      obtain ⟨mc, h1, h2⟩ := hlim
      exact ⟨KH, ns_of hns, ⟨mb, ns_of hb, hbb⟩, ⟨mc, ns_of h1, h2⟩⟩
    have e0 : Env0 P w K mg (hidT sh.heap H) callerA [] sh H := by
      refine ⟨rfl, hM, fun b o e => of_hidT e, Nat.le_of_eq (hidT_size _ _), trivial, fun b z => ?_, hok, .of_eq hgn⟩
      exact absurd (show b ∈ ([] : List Addr) from z) (by simp)
    refine codeAny_mono ((hF _ KH (ns_of hns)).run callerA [] sh H ⟨[.ref a], []⟩ [.ref a] [.ref a] _ _ rfl hr e0 (hbind sh (.ref a)) (.cons rfl .nil) (hsp H hO hS)) fun r s' h => ?_
    cases r with
    | error e => exact (hCX [] H sh e s' h).elim
    | ok fl => cases fl with
      | ret u =>
        obtain ⟨v, H', os, bare, un, hok', r', q⟩ := h
        have q : v = .bl true := q
        subst q
        obtain rfl : u = Value.bool true := r'
        refine ⟨rfl, OldK.of_keep fun b o e => ?_, os, bare⟩
        rcases hO b with z | ⟨ob, xs, z⟩
        · exact un.keep b o e z (fun z => absurd (show b ∈ ([] : List Addr) from z) (by simp)) (by simp)
        · obtain ⟨e1, _⟩ := hok b _ z
          obtain ⟨e2, _⟩ := hok' b _ (un.frzs b ob _ z)
          rw [e] at e1; cases e1
          exact e2
      | _ => exact h.elim
  cases hk : K.lookup a with
  | some o =>
    have e := KX a o hk
    rw [ha] at e
    cases e
    refine main (fun _ => none) (fun _ => .inl rfl) (.inr ⟨_, vs.toArray, _, hk, rfl, rfl, rfl, ?_, by simpa using rv⟩) (fun b u z => nomatch (show (none : Option HO) = some u from z)) (fun b u z => nomatch (show (none : Option HO) = some u from z))
    rw [List.size_toArray, hi.length]; exact hl
  | none =>
    let o : HO := .frz { cls := .type "list", data := .seq vs.toArray } (.lst (ns.map V.int))
    refine main (upd (fun _ => none) a o) (fun b => ?_) (.inl (.inr ⟨_, upd_same⟩)) (fun b u z => ?_) (fun b u z => ?_)
    · by_cases hab : b = a
      · subst hab; exact .inr ⟨_, _, upd_same⟩
      · exact .inl (upd_ne hab)
    · by_cases hab : b = a
      · subst hab
        rw [upd_same] at z; cases z
        exact ⟨ha, by rw [List.length_map]; exact hl, vs, _, rv, ha⟩
      · rw [upd_ne hab] at z; cases z
    · by_cases hab : b = a
      · exact ⟨hab, hk⟩
      · rw [upd_ne hab] at z; cases z
/-- the script, as a law's first slot holds it -/
def Scr (ns : List Int) (s : Sl) : Prop := s = .d (.list (ns.map .int)) ∨ s = .w (.list (ns.map .int))
theorem dps_ints {K : PySem.W.Frag} {H : Hp} : ∀ ns : List Int, DpAll K H (ns.map V.int) (ns.map .int)
  | [] => .nil
  | n :: ns => .cons (.int n) (dps_ints ns)
/-- what is left behind the head -/
theorem law_walk {l : PySem.W.OpenLaw} {n k : Nat} {q : Program} {loose : List Str} {XP : (Str → Option Value) → Heap → Prop} {YP : World → Heap → Prop} {d : DefRec} {K : Params → PySem.W.Frag} {x : Str} {W : FSpec} {CX : CXT} (hn : l.most = some n) (hn2 : n ≤ sizeLine) (hdf : d.params.defaults = []) (hr : Room k callerA) (hCX : CXok CX)
    (hY : ∀ (w : World) (h : Heap), YP w h → (K w.params).In h)
    (hF : ∀ (w : World) (mg : Str → Option Value) (fa : Addr) (h : Heap), (K w.params).In h → h.Ns mainGlobals mg → mg d.name = some (.ref fa) → ∃ fd : FuncData, (∀ (s : Shared) (u : Value), BindsTo s fd ⟨[u], []⟩ [(x, u)]) ∧
      ∀ base : Heap, (K w.params).In base → base.Ns mainGlobals mg → FnG ⟨l.prog, w, K w.params, mg, base⟩ CX k fa fd [x] (spOf (K w.params) 1 W))
    (hW : ∀ (ns : List Int) (s : Sl), ns.length ≤ n → Scr ns s → W [s] (fun _ => False) fun r _ => r = .d (.bool true)) :
    PySem.W.WalkO q loose XP YP l.row.toRowW d [] (fun f vs => PySem.call f vs) := by
  refine Att.attach_call hn hdf fun w s₀ sh mg mb fa o pm cd doc a vs ns G Y ho hd hcd hmg hobj hints hlen hgn => ?_
  have KX := hY w _ Y
  obtain ⟨fd, hb, hF⟩ := hF w mg fa _ KX G.T.g hmg
  refine law_run KX G.T.g G.T.b G.T.builtins G.T.nolimit hgn hobj hints (Nat.le_trans hlen hn2) hr hF hb (fun H hO hS => ?_) hCX
  have ex : ∃ s, Scr ns s ∧ SlOk (K w.params) (fun _ => none) H H (.ref a) s := by
    rcases hS with hS | hS
    · exact ⟨_, .inl rfl, DD.lst hS (DDs.of_ints ns)⟩
    · exact ⟨_, .inr rfl, Dp.lst (.inr hS) (dps_ints ns)⟩
  obtain ⟨s, hs, q⟩ := ex
  have no : ∀ b c, s ≠ .o b c := fun b c z => by
    rcases hs with e | e <;> (rw [e] at z; cases z)
  refine ⟨rfl, fun _ => none, H, [s], fun _ => False, fun r _ => r = .d (.bool true), ⟨Same.refl _, (fun _ _ z => by cases z), (fun _ _ z => by cases z), rfl, fun i s' e => ?_, fun i j b b3 p c b1 c1 b2 e1 => ?_, fun i c e => ?_, fun b ps e => by rcases hO b with z | ⟨_, _, z⟩ <;> (rw [z] at e; cases e)⟩, fun _ _ _ _ _ _ _ _ _ _ _ _ z => z.elim, hW ns s hlen hs, fun B' H' v r ss' s1 h1 q1 nO e => ?_⟩
  · match i, e with
    | 0, e => cases e; exact ⟨.ref a, rfl, q⟩
  · match i, e1 with
    | 0, e1 => cases e1; exact absurd rfl (no _ _)
  · match i, e with
    | 0, e => cases e; exact absurd rfl (no _ _)
  · subst e
    cases (show DD B' v (.bool true) from q1)
    rfl
end DL
set_option Elab.async false
set_option linter.all false
set_option maxRecDepth 100000
set_option maxHeartbeats 4000000
set_option autoImplicit false
namespace DL
open PySem PySem.Spec PyProof.Rows L2

section
variable {K : PySem.W.Frag} {B H : Hp} {v : V}
theorem ov_str {x : Str} (h : OV K B H v (.d (.str x))) : v = .str x := by
  rcases h with h | ⟨_, _, _, _, e, _⟩
  · cases h; rfl
  · cases e
theorem ov_bl {b : Bool} (h : OV K B H v (.d (.bool b))) : v = .bl b := by
  rcases h with h | ⟨_, _, _, _, e, _⟩
  · cases h; rfl
  · cases e
theorem ov_non (h : OV K B H v (.d .none)) : v = .non := by
  rcases h with h | ⟨_, _, _, _, e, _⟩
  · cases h; rfl
  · cases e
theorem ov_tup {ds : List PyData} (h : OV K B H v (.d (.tuple ds))) : ∃ p xs, v = .ref p ∧ PlT B p xs ∧ DDs B xs ds := by
  rcases h with h | ⟨_, _, _, _, e, _⟩
  · cases h with
    | tup r q => exact ⟨_, _, rfl, r, q⟩
  · cases e
theorem ov_lst {ds : List PyData} (s : Same B H) (h : OV K B H v (.d (.list ds))) : ∃ p xs, v = .ref p ∧ Rd H p (.lst xs) ∧ DDs B xs ds := by
  rcases h with h | ⟨a, xs, ds', e1, e2, e3, q⟩
  · cases h with
    | lst r q => exact ⟨_, _, rfl, same_rd s r, q⟩
  · cases e2; exact ⟨a, xs, e1, .inl e3, q⟩
end
theorem ov_bool {K : PySem.W.Frag} {B H : Hp} {v : V} {b : Bool} (h : OV K B H v (.d (.bool b))) : v = .bl b := by
  rcases h with h | ⟨_, _, _, _, e, _⟩
  · cases h; rfl
  · cases e
/-! ### + - * // % ** -/
def addF : Vw → Vw → Option Rv
  | .d (.int a), .d (.int b) => some (.val (.int (a + b)))
  | .d (.str a), .d (.str b) => if a.length + b.length ≤ sizeLine then some (.val (.str (a ++ b))) else none
  | .d (.tuple a), .d (.tuple b) => if a.length + b.length ≤ sizeLine then some (.tup (a ++ b)) else none
  | .d (.list a), .d (.list b) => if a.length + b.length ≤ sizeLine then some (.lst (a ++ b)) else none
  | .d (.bool a), .d (.int b) => some (.val (.int ((if a = true then (1 : Int) else 0) + b)))
  | _, _ => none
theorem op_catRd {X : Cx} : OpR X (binaryOp .Add) fun x y H Q => ∃ l b xs zs, x = .ref l ∧ y = .ref b ∧ Rd H l (.lst xs) ∧ Rd H b (.lst zs) ∧ xs.length + zs.length ≤ sizeLine ∧ ∀ p, H p = none → Q (.ref p) (upd H p (.lst (xs ++ zs))) := by
  rintro pins s σ H x y v u Q I rx ry ⟨l, b, xs, zs, rfl, rfl, hl, hb, hz, q⟩
  cases rx
  cases ry
  obtain ⟨z, its, n, r, e⟩ := hl.ok I.hok
  obtain ⟨z2, its2, n2, r2, e2⟩ := hb.ok I.hok
  have l1 := r.length
  have l2 := r2.length
  refine PySem.P.add_list e e2 ?_ (by rw [List.size_toArray, List.size_toArray]; omega)
  rw [show its.toArray ++ its2.toArray = (its ++ its2).toArray by simp]
  exact ⟨.ref _, _, I.lnew (t' := s.toks) (r.append r2) (by rw [List.length_append]; omega), rfl, q _ I.fresh⟩
def rCatP (K : PySem.W.Frag) : R2 := fun x y H Q => ∃ a b xs ys, x = .ref a ∧ y = .ref b ∧ SqT K H a xs ∧ SqT K H b ys ∧ xs.length + ys.length ≤ sizeLine ∧
  (xs = [] → Q (.ref b) H) ∧ (xs ≠ [] → ys = [] → Q (.ref a) H) ∧ ∀ (p : Addr) (o : Obj), H p = none → o.cls = .type "tuple" → o.dict = none → Q (.ref p) (upd H p (.frz o (.tup (xs ++ ys))))
theorem op_catP {X : Cx} : OpR X (binaryOp .Add) (rCatP X.K) := by
  intro pins s σ H x y v u Q I rx ry h
  obtain ⟨a, b, xs, ys, rfl, rfl, ha, hb, hz, q0, q1, q2⟩ := h
  cases rx
  cases ry
  obtain ⟨its, r1, p1, _⟩ := I.tuple ha
  obtain ⟨its2, r2, p2, _⟩ := I.tuple hb
  have l1 := r1.length
  have l2 := r2.length
  by_cases hx : xs = []
  · subst hx
    cases r1
    exact cat_tup0 p1 p2 ⟨.ref b, H, I, rfl, q0 rfl⟩
  · have hi : its ≠ [] := fun e => hx (by rw [e] at l1; exact List.eq_nil_of_length_eq_zero l1)
    refine HT.cat_tup p1 p2 hi (fun e => ?_) (fun e => ?_) (by omega)
    · exact ⟨.ref a, H, I, rfl, q1 hx (by rw [e] at l2; exact List.eq_nil_of_length_eq_zero l2)⟩
    · refine ⟨.ref s.heap.objs.size, upd H s.heap.objs.size (.frz _ (.tup (xs ++ ys))), I.laid (t' := s.toks) (fun b o e => Heap.get?_push_of_some _ e) (Nat.le_refl _) ⟨Heap.get?_push_size _ rfl, (show ObjOk X.prog X.w _ _ _ (.tup (xs ++ ys)) from ?_)⟩, rfl, q2 _ _ (I.hok.fresh (Nat.le_refl _)) rfl rfl⟩
      exact ⟨by rw [List.length_append]; exact hz, its ++ its2, r1.append r2, IsTup.new _ _⟩
theorem os_add {S : Sg} : OpS S (binaryOp .Add) addF := by
  rintro c hc pins s σ H x y v u Q I rx ry ⟨B, a, b, rv, sB, oa, ob, e, k⟩
  unfold addF at e
  split at e
  · cases e
    cases ov_int oa; cases ov_int ob
    exact op_add pins s σ H _ _ v u Q I rx ry ⟨_, _, rfl, rfl, k _ (.int _)⟩
  · split at e
    · cases e
      cases ov_str oa; cases ov_str ob
      exact op_add_str pins s σ H _ _ v u Q I rx ry ⟨_, _, rfl, rfl, by assumption, k _ (.str _)⟩
    · cases e
  · split at e
    · cases e
      obtain ⟨p, xs, rfl, hp, qx⟩ := ov_tup oa
      obtain ⟨p2, ys, rfl, hp2, qy⟩ := ov_tup ob
      rename_i hl
      refine op_catP pins s σ H _ _ v u Q I rx ry ⟨p, p2, xs, ys, rfl, rfl, .inl (hp.mono sB).rd, .inl (hp2.mono sB).rd, by rw [qx.length, qy.length]; exact hl, fun ex => ?_, fun _ ey => ?_, fun p3 o hp3 ec ed => k.2 p3 o _ hp3 ec ed (qx.append qy)⟩
      · subst ex
        refine k.1 _ ?_
        rw [qx.nil_iff.mp rfl, List.nil_append]
        exact .tup hp2 qy
      · subst ey
        refine k.1 _ ?_
        rw [qy.nil_iff.mp rfl, List.append_nil]
        exact .tup hp qx
    · cases e
  · split at e
    · cases e
      rename_i hl
      obtain ⟨p, xs, rfl, hp, qx⟩ := ov_lst sB oa
      obtain ⟨p2, ys, rfl, hp2, qy⟩ := ov_lst sB ob
      exact op_catRd pins s σ H _ _ v u Q I rx ry ⟨p, p2, xs, ys, rfl, rfl, hp, hp2, by rw [qx.length, qy.length]; exact hl, fun p3 hp3 => k p3 _ hp3 (qx.append qy)⟩
    · cases e
  · cases e
    cases ov_int ob; cases ov_bool oa
    obtain ⟨t, rfl⟩ := ry
    cases rx
    exact PySem.IntBool.add_bool_int ⟨.int _, H, I.tok _, ⟨_, rfl⟩, k _ (.int _)⟩
  · cases e
def subF : Vw → Vw → Option Rv
  | .d (.int a), .d (.int b) => some (.val (.int (a - b)))
  | .d (.bool a), .d (.int b) => some (.val (.int ((if a = true then (1 : Int) else 0) - b)))
  | _, _ => none
theorem os_sub {S : Sg} : OpS S (binaryOp .Sub) subF := by
  rintro c hc pins s σ H x y v u Q I rx ry ⟨B, a, b, rv, sB, oa, ob, e, k⟩
  unfold subF at e
  split at e
  · cases e
    cases ov_int oa; cases ov_int ob
    exact op_sub pins s σ H _ _ v u Q I rx ry ⟨_, _, rfl, rfl, k _ (.int _)⟩
  · cases e
    cases ov_int ob; cases ov_bool oa
    obtain ⟨t, rfl⟩ := ry
    cases rx
    exact PySem.IntBool.sub_bool_int ⟨.int _, H, I.tok _, ⟨_, rfl⟩, k _ (.int _)⟩
  · cases e
def smallI (a : Int) : Bool := decide (-(2 ^ 64) < a ∧ a < 2 ^ 64)
theorem dds_rep {B : Hp} {xs : List V} {ds : List PyData} (q : DDs B xs ds) : ∀ n : Nat, DDs B (List.replicate n xs).flatten (List.replicate n ds).flatten
  | 0 => .nil
  | n + 1 => by rw [List.replicate_succ, List.replicate_succ, List.flatten_cons, List.flatten_cons]; exact q.append (dds_rep q n)
def mulF : Vw → Vw → Option Rv
  | .d (.int a), .d (.int b) => if smallI a || smallI b || decide (a.natAbs.log2 + b.natAbs.log2 < 1000000) then some (.val (.int (a * b))) else none
  | _, _ => none
theorem os_mul {S : Sg} : OpS S (binaryOp .Mult) mulF := by
  rintro c hc pins s σ H x y v u Q I rx ry ⟨B, a, b, rv, sB, oa, ob, e, k⟩
  unfold mulF at e
  split at e
  · split at e
    · rename_i hs
      cases e
      cases ov_int oa; cases ov_int ob
      rw [Bool.or_eq_true, Bool.or_eq_true] at hs
      rcases hs with (hs | hs) | hs
      · exact op_mul pins s σ H _ _ v u Q I rx ry ⟨_, _, rfl, rfl, .inl (of_decide_eq_true hs), k _ (.int _)⟩
      · exact op_mul pins s σ H _ _ v u Q I rx ry ⟨_, _, rfl, rfl, .inr (of_decide_eq_true hs), k _ (.int _)⟩
      · have hs := of_decide_eq_true hs
        exact op_mulW pins s σ H _ _ v u Q I rx ry ⟨_, _, rfl, rfl, hs, k _ (.int _)⟩
    · cases e
  · cases e
def modF : Vw → Vw → Option Rv
  | .d (.int a), .d (.int b) => if 0 < b then some (.val (.int (a % b))) else none
  | _, _ => none
theorem os_mod {S : Sg} : OpS S (binaryOp .Mod) modF := by
  rintro c hc pins s σ H x y v u Q I rx ry ⟨B, a, b, rv, sB, oa, ob, e, k⟩
  unfold modF at e
  split at e
  · split at e
    · cases e
      cases ov_int oa; cases ov_int ob
      exact op_mod pins s σ H _ _ v u Q I rx ry ⟨_, _, rfl, rfl, by assumption, k _ (.int _)⟩
    · cases e
  · cases e
def fdivF : Vw → Vw → Option Rv
  | .d (.int a), .d (.int b) => if 0 < b ∧ b.natAbs.log2 < 9000 then some (.val (.int (a / b))) else none
  | _, _ => none
theorem os_fdiv {S : Sg} : OpS S (binaryOp .FloorDiv) fdivF := by
  rintro c hc pins s σ H x y v u Q I rx ry ⟨B, a, b, rv, sB, oa, ob, e, k⟩
  unfold fdivF at e
  split at e
  · split at e
    · cases e
      cases ov_int oa; cases ov_int ob
      exact op_fdivW pins s σ H _ _ v u Q I rx ry ⟨_, _, rfl, rfl, by assumption, k _ (.int _)⟩
    · cases e
  · cases e
def powF : Vw → Vw → Option Rv
  | .d (.int a), .d (.int b) => if 0 ≤ b ∧ b ≤ 1000000 ∧ a.natAbs < 2 ^ 64 then some (.val (.int (a ^ b.toNat))) else none
  | _, _ => none
theorem os_pow {S : Sg} : OpS S (binaryOp .Pow) powF := by
  rintro c hc pins s σ H x y v u Q I rx ry ⟨B, a, b, rv, sB, oa, ob, e, k⟩
  unfold powF at e
  split at e
  · split at e
    · cases e
      cases ov_int oa; cases ov_int ob
      exact op_pow pins s σ H _ _ v u Q I rx ry ⟨_, _, rfl, rfl, by assumption, k _ (.int _)⟩
    · cases e
  · cases e
/-! ### comparisons -/
def cmpF (fi : Int → Int → Bool) (fs : Str → Str → Bool) : Vw → Vw → Option Rv
  | .d (.int a), .d (.int b) => some (.val (.bool (fi a b)))
  | .d (.str a), .d (.str b) => some (.val (.bool (fs a b)))
  | _, _ => none
def strLt (a b : Str) : Bool := decide (a.cps.toList < b.cps.toList)
def ltF := cmpF (fun a b => decide (a < b)) strLt
def leF := cmpF (fun a b => decide (a ≤ b)) (fun a b => !decide (b.cps.toList < a.cps.toList))
def gtF := cmpF (fun a b => decide (b < a)) (fun a b => decide (b.cps.toList < a.cps.toList))
def geF := cmpF (fun a b => decide (b ≤ a)) (fun a b => !decide (a.cps.toList < b.cps.toList))
theorem os_lt {S : Sg} : OpS S (compareOp .Lt) ltF := by
  rintro c hc pins s σ H x y v u Q I rx ry ⟨B, a, b, rv, sB, oa, ob, e, k⟩
  unfold ltF cmpF at e
  split at e
  · cases e
    cases ov_int oa; cases ov_int ob
    exact op_lt pins s σ H _ _ v u Q I rx ry ⟨_, _, rfl, rfl, k _ (.bl _)⟩
  · cases e
    cases ov_str oa; cases ov_str ob
    exact op_lt_str pins s σ H _ _ v u Q I rx ry ⟨_, _, rfl, rfl, k _ (.bl _)⟩
  · cases e
theorem os_le {S : Sg} : OpS S (compareOp .LtE) leF := by
  rintro c hc pins s σ H x y v u Q I rx ry ⟨B, a, b, rv, sB, oa, ob, e, k⟩
  unfold leF cmpF at e
  split at e
  · cases e
    cases ov_int oa; cases ov_int ob
    exact op_le pins s σ H _ _ v u Q I rx ry ⟨_, _, rfl, rfl, k _ (.bl _)⟩
  · cases e
    cases ov_str oa; cases ov_str ob
    exact op_le_str pins s σ H _ _ v u Q I rx ry ⟨_, _, rfl, rfl, k _ (.bl _)⟩
  · cases e
theorem os_gt {S : Sg} : OpS S (compareOp .Gt) gtF := by
  rintro c hc pins s σ H x y v u Q I rx ry ⟨B, a, b, rv, sB, oa, ob, e, k⟩
  unfold gtF cmpF at e
  split at e
  · cases e
    cases ov_int oa; cases ov_int ob
    exact op_gt pins s σ H _ _ v u Q I rx ry ⟨_, _, rfl, rfl, k _ (.bl _)⟩
  · cases e
    cases ov_str oa; cases ov_str ob
    exact op_gt_str pins s σ H _ _ v u Q I rx ry ⟨_, _, rfl, rfl, k _ (.bl _)⟩
  · cases e
theorem os_ge {S : Sg} : OpS S (compareOp .GtE) geF := by
  rintro c hc pins s σ H x y v u Q I rx ry ⟨B, a, b, rv, sB, oa, ob, e, k⟩
  unfold geF cmpF at e
  split at e
  · cases e
    cases ov_int oa; cases ov_int ob
    exact op_ge pins s σ H _ _ v u Q I rx ry ⟨_, _, rfl, rfl, k _ (.bl _)⟩
  · cases e
    cases ov_str oa; cases ov_str ob
    exact op_ge_str pins s σ H _ _ v u Q I rx ry ⟨_, _, rfl, rfl, k _ (.bl _)⟩
  · cases e
def vd : Vw → Option PyData
  | .d d => some d
  | .w d => some d
  | _ => none
theorem vd_dp {K : PySem.W.Frag} {B H : Hp} {v : V} {w : Vw} {d : PyData} (s : Same B H) (h : OV K B H v w) (e : vd w = some d) : Dp K H v d := by
  cases w with
  | d d' => cases e; exact OV.dp s h
  | w d' => cases e; exact DW.dp h
  | k _ => cases e
  | t _ => cases e
  | xk _ => cases e
  | xl _ => cases e
  | rk _ => cases e
  | xt _ => cases e
def strs2 : PyData → PyData → Bool
  | .str _, .str _ => true
  | _, _ => false
theorem strs2_of {d e : PyData} (h : strs2 d e = true) : ∃ a b, d = .str a ∧ e = .str b := by
  unfold strs2 at h
  split at h
  · exact ⟨_, _, rfl, rfl⟩
  · cases h
theorem dp_str {K : PySem.W.Frag} {H : Hp} {v : V} {x : Str} (h : Dp K H v (.str x)) : v = .str x := by cases h; rfl
theorem str_beq (a b : Str) : decide (V.str a = V.str b) = PyData.eqv (.str a) (.str b) := by
  have e : PyData.eqv (.str a) (.str b) = (a == b) := by simp only [PyData.eqv]
  rw [e]
  by_cases h : a = b
  · subst h
    rw [decide_eq_true rfl]
    simp
  · rw [decide_eq_false (fun z => h (by cases z; rfl))]
    exact (beq_eq_false_iff_ne.mpr h).symm
def eqG (neg : Bool) : Vw → Vw → Option Rv := fun a b => (vd a).bind fun d => (vd b).bind fun e => if SeqAt.shaped d && SeqAt.shaped e || strs2 d e then some (.val (.bool (if neg then !PyData.eqv d e else PyData.eqv d e))) else none
def eqF := eqG false
def neF := eqG true
theorem os_eq {S : Sg} : OpS S (compareOp .Eq) eqF := by
  rintro c hc pins s σ H x y v u Q I rx ry ⟨B, a, b, rv, sB, oa, ob, e, k⟩
  unfold eqF eqG at e
  obtain ⟨d, e1, e⟩ := Option.bind_eq_some_iff.mp e
  obtain ⟨d2, e2, e⟩ := Option.bind_eq_some_iff.mp e
  split at e
  · rename_i hs
    cases e
    rw [Bool.or_eq_true, Bool.and_eq_true] at hs
    rcases hs with hs | hs
    · exact op_eqD hc.room.units pins s σ H _ _ v u Q I rx ry ⟨d, d2, vd_dp sB oa e1, vd_dp sB ob e2, hs.1, hs.2, k _ (.bl _)⟩
    · obtain ⟨a', b', rfl, rfl⟩ := strs2_of hs
      have ex := dp_str (vd_dp sB oa e1)
      have ey := dp_str (vd_dp sB ob e2)
      subst ex ey
      refine L2.op_eq pins s σ H _ _ v u Q I rx ry ⟨rfl, ?_⟩
      have kk := k _ (.bl _)
      simp only [← str_beq] at kk
      exact kk
  · cases e
theorem os_ne {S : Sg} : OpS S (compareOp .NotEq) neF := by
  rintro c hc pins s σ H x y v u Q I rx ry ⟨B, a, b, rv, sB, oa, ob, e, k⟩
  unfold neF eqG at e
  obtain ⟨d, e1, e⟩ := Option.bind_eq_some_iff.mp e
  obtain ⟨d2, e2, e⟩ := Option.bind_eq_some_iff.mp e
  split at e
  · rename_i hs
    cases e
    rw [Bool.or_eq_true, Bool.and_eq_true] at hs
    rcases hs with hs | hs
    · exact op_neD hc.room.units pins s σ H _ _ v u Q I rx ry ⟨d, d2, vd_dp sB oa e1, vd_dp sB ob e2, hs.1, hs.2, k _ (.bl _)⟩
    · obtain ⟨a', b', rfl, rfl⟩ := strs2_of hs
      have ex := dp_str (vd_dp sB oa e1)
      have ey := dp_str (vd_dp sB ob e2)
      subst ex ey
      refine L2.op_ne pins s σ H _ _ v u Q I rx ry ⟨rfl, ?_⟩
      have kk := k _ (.bl _)
      simp only [← str_beq] at kk
      exact kk
  · cases e
/-! ### a < b < c -/
def wChain (f f' : Vw → Vw → Option Rv) (wa wb wc : WE) : WE := fun Ex δ P => wOp f wa wb Ex δ fun r δ1 => True ∧ P r δ1
section
variable {S : Sg}
def negI : Vw → Option Int
  | .d (.int i) => some i
  | _ => none
def wNeg (wa : WE) : WE := fun Ex δ P => wa Ex δ fun r δ1 => ob (view δ1 r) fun w => ob (negI w) fun i => P (.d (.int (-i))) δ1
theorem de_neg {a : Expr} {wa : WE} {pos : Pos} (ha : DE S a wa) : DE S (.UnaryOp .USub a pos) (wNeg wa) := by
  obtain ⟨t, p, s⟩ := ha
  refine ⟨_, fun c hc => pe_un un_neg (p c hc), ⟨fun Ex Ex' δ P P' hx h w => s.mono _ _ _ _ _ hx (fun r δ1 w => w.imp fun v w => w.imp fun i w => h _ _ w) w, fun Ex F B H vs σ δ P Q hx h w k => ?_⟩⟩
  refine s.run _ _ _ _ _ _ _ _ _ hx h w fun B1 H1 v r δ1 s1 h1 q1 w1 => ?_
  obtain ⟨vw, e1, i, e2, w1⟩ := w1
  have o := view_ok h1 q1 e1
  unfold negI at e2
  split at e2
  · cases e2
    cases ov_int o
    exact ⟨i, rfl, k B1 H1 _ (.d (.int (-i))) δ1 s1 h1 (.int _) w1⟩
  · cases e2
end
end DL
set_option Elab.async false
set_option linter.all false
set_option maxRecDepth 100000
set_option maxHeartbeats 4000000
set_option autoImplicit false
namespace DL
open PySem PySem.Spec PyProof.Rows L2

/-! ### len, list, tuple, str, repr, ord, all, any -/
section
variable {K : PySem.W.Frag} {B H : Hp}
theorem ovs1 {vs : List V} {a : Vw} (h : OVs K B H vs [a]) : ∃ v, vs = [v] ∧ OV K B H v a := by
  cases h with
  | cons q r => cases r; exact ⟨_, rfl, q⟩
theorem ovs2 {vs : List V} {a b : Vw} (h : OVs K B H vs [a, b]) : ∃ v u, vs = [v, u] ∧ OV K B H v a ∧ OV K B H u b := by
  cases h with
  | cons q r => cases r with
    | cons q2 r => cases r; exact ⟨_, _, rfl, q, q2⟩
theorem dpa_length {K : PySem.W.Frag} {H : Hp} : ∀ {vs : List V} {ds : List PyData}, DpAll K H vs ds → vs.length = ds.length
  | _, _, .nil => rfl
  | _, _, .cons _ r => congrArg (· + 1) (dpa_length r)
theorem kds_length {κ : Type} {B : Hp} {ys : List (κ × V)} {kvs : List (κ × PyData)} (h : KDs B ys kvs) : ys.length = kvs.length := Paired.length h
end
def lenD : PyData → Option Nat
  | .str x => if x.length ≤ sizeLine then some x.length else none
  | .list ds => some ds.length
  | .tuple ds => some ds.length
  | _ => none
def lenF : List Vw → Option Rv
  | [.d d] => (lenD d).map fun (n : Nat) => Rv.val (.int (n : Int))
  | [.w d] => (lenD d).map fun (n : Nat) => Rv.val (.int (n : Int))
  | [.k kvs] => some (.val (.int kvs.length))
  | [.rk kvs] => some (.val (.int kvs.length))
  | _ => none
theorem len_dp {K : PySem.W.Frag} {H : Hp} {v : V} {d : PyData} {n : Nat} (h : Dp K H v d) (e : lenD d = some n) : LenV K v H n := by
  cases h with
  | str x =>
    simp only [lenD] at e
    split at e
    · cases e; exact ⟨by assumption, rfl⟩
    · cases e
  | lst r q => cases e; exact .inl ⟨_, r, (dpa_length q).symm⟩
  | tup r q => cases e; exact .inr ⟨_, r, (dpa_length q).symm⟩
  | _ => cases e
theorem call_lenR {X : Cx} : CallR X (.builtin "len") (fun xs H Q => ∃ a kvs, xs = [V.ref a] ∧ Rd H a (.dK kvs) ∧ Q (.int kvs.length) H) := by
  intro pins s σ H xs us Q I r h
  obtain ⟨a, kvs, rfl, ha, q⟩ := h
  obtain ⟨u, rfl, ru⟩ := vals1 r
  cases ru
  exact d_len I ha fun t s' I' => ⟨.int kvs.length, H, I', ⟨t, rfl⟩, q⟩
theorem cs_len {S : Sg} : CallS S (.builtin "len") lenF := by
  rintro c hc pins s σ H xs us Q I rv ⟨B, as, r, sB, ov, e, k⟩
  unfold lenF at e
  split at e
  · obtain ⟨n, e1, e⟩ := Option.map_eq_some_iff.mp e
    cases e
    obtain ⟨v, rfl, q⟩ := ovs1 ov
    exact call_len pins s σ H _ us Q I rv ⟨v, n, rfl, len_dp (OV.dp sB q) e1, k _ (.int _)⟩
  · obtain ⟨n, e1, e⟩ := Option.map_eq_some_iff.mp e
    cases e
    obtain ⟨v, rfl, q⟩ := ovs1 ov
    exact call_len pins s σ H _ us Q I rv ⟨v, n, rfl, len_dp (DW.dp q) e1, k _ (.int _)⟩
  · cases e
    obtain ⟨v, rfl, a, ys, rfl, e1, q⟩ := ovs1 ov
    exact call_lenD pins s σ H _ us Q I rv ⟨a, ys, rfl, e1, by rw [kds_length q]; exact k _ (.int _)⟩
  · cases e
    obtain ⟨v, rfl, a, ys, rfl, e1, q⟩ := ovs1 ov
    exact call_lenR pins s σ H _ us Q I rv ⟨a, ys, rfl, e1, by rw [kds_length q]; exact k _ (.int _)⟩
  · cases e
def listF : List Vw → Option Rv
  | [.d (.list ds)] => some (.lst ds)
  | [.d (.tuple ds)] => some (.lst ds)
  | [.w (.list ds)] => if ds.all scalar then some (.lst ds) else none
  | [.w (.tuple ds)] => if ds.all scalar then some (.lst ds) else none
  | _ => none
theorem cs_list {S : Sg} : CallS S (.type "list") listF := by
  rintro c hc pins s σ H xs us Q I rv ⟨B, as, r, sB, ov, e, k⟩
  unfold listF at e
  split at e
  · cases e
    obtain ⟨v, rfl, q⟩ := ovs1 ov
    obtain ⟨p, zs, rfl, hp, qz⟩ := ov_lst sB q
    exact call_list_of pins s σ H _ us Q I rv ⟨p, zs, rfl, .inl (.inl hp), fun l hl => k l _ hl qz⟩
  · cases e
    obtain ⟨v, rfl, q⟩ := ovs1 ov
    obtain ⟨p, zs, rfl, hp, qz⟩ := ov_tup q
    exact call_list_of pins s σ H _ us Q I rv ⟨p, zs, rfl, .inr (.inl (PlT.mono sB hp).rd), fun l hl => k l _ hl qz⟩
  · split at e
    · rename_i hs
      cases e
      obtain ⟨v, rfl, q⟩ := ovs1 ov
      have q : Dp S.g.K (fun _ => none) v _ := q
      cases q with
      | lst r3 q3 => exact call_list_of pins s σ H _ us Q I rv ⟨_, _, rfl, .inl (L2.Same.seq (fun _ _ z => by cases z) r3), fun l hl => k l _ hl (dp_items q3 hs B)⟩
    · cases e
  · split at e
    · rename_i hs
      cases e
      obtain ⟨v, rfl, q⟩ := ovs1 ov
      have q : Dp S.g.K (fun _ => none) v _ := q
      cases q with
      | tup r3 q3 =>
        refine call_list_of pins s σ H _ us Q I rv ⟨_, _, rfl, .inr ?_, fun l hl => k l _ hl (dp_items q3 hs B)⟩
        rcases r3 with r3 | r3
        · exact .inl (same_rd (B := fun _ => none) (fun _ _ z => by cases z) r3)
        · exact .inr r3
    · cases e
  · cases e
theorem call_tupleP {X : Cx} : CallR X (.type "tuple") (fun xs H Q => ∃ p ys, xs = [.ref p] ∧ ((SqL X.K H p ys ∧ ∀ (l : Addr) (o : Obj), H l = none → o.cls = .type "tuple" → o.dict = none → Q (.ref l) (upd H l (.frz o (.tup ys)))) ∨ (SqT X.K H p ys ∧ Q (.ref p) H))) := by
  intro pins s σ H xs us Q I r h
  obtain ⟨p, ys, rfl, h⟩ := h
  rcases h with ⟨hq, q⟩ | ⟨hq, q⟩
  · obtain ⟨u, rfl, rx⟩ := vals1 r
    cases rx
    obtain ⟨its, r', pl, hz⟩ := I.list hq
    have hlen := r'.length
    refine call_tuple_list pl.isList (fun h' kp => ?_) (by simp only [List.size_toArray] <;> omega)
    have I1 : Inv X pins σ H { s with heap := h' } := I.kept (t' := s.toks) kp
    have I2 : Inv X pins σ (upd H h'.objs.size (.frz { cls := .type "tuple", data := .seq its.toArray } (.tup ys))) { s with heap := h'.push { cls := .type "tuple", data := .seq its.toArray } } :=
      I1.laid (t' := s.toks) (fun b o e => Heap.get?_push_of_some _ e) (Nat.le_refl _) ⟨Heap.get?_push_size _ rfl, (show ObjOk X.prog X.w _ _ _ (.tup ys) from ⟨hz, its, r', IsTup.new _ _⟩)⟩
    exact ⟨.ref h'.objs.size, _, I2, rfl, q _ _ (I1.hok.fresh (Nat.le_refl _)) rfl rfl⟩
  · exact call_tuple_of pins s σ H _ us Q I r ⟨p, ys, rfl, .inr ⟨hq, q⟩⟩
def tupleF : List Vw → Option Rv
  | [.d (.list ds)] => some (.tup ds)
  | [.d (.tuple ds)] => some (.tup ds)
  | _ => none
theorem cs_tuple {S : Sg} : CallS S (.type "tuple") tupleF := by
  rintro c hc pins s σ H xs us Q I rv ⟨B, as, r, sB, ov, e, k⟩
  unfold tupleF at e
  split at e
  · cases e
    obtain ⟨v, rfl, q⟩ := ovs1 ov
    obtain ⟨p, zs, rfl, hp, qz⟩ := ov_lst sB q
    exact call_tupleP pins s σ H _ us Q I rv ⟨p, zs, rfl, .inl ⟨.inl hp, fun l o hl ec ed => k.2 l o _ hl ec ed qz⟩⟩
  · cases e
    obtain ⟨v, rfl, q⟩ := ovs1 ov
    obtain ⟨p, zs, rfl, hp, qz⟩ := ov_tup q
    exact call_tupleP pins s σ H _ us Q I rv ⟨p, zs, rfl, .inr ⟨.inl (PlT.mono sB hp).rd, k.1 _ (.tup hp qz)⟩⟩
  · cases e
def strF : List Vw → Option Rv
  | [.d (.int i)] => if i.natAbs.log2 < 1920 then some (.val (.str (toString i))) else none
  | [.d (.str x)] => some (.val (.str x))
  | [.d (.bool b)] => some (.val (.str (if b then "True" else "False")))
  | _ => none
theorem cs_str {S : Sg} : CallS S (.type "str") strF := by
  rintro c hc pins s σ H xs us Q I rv ⟨B, as, r, sB, ov, e, k⟩
  unfold strF at e
  split at e
  · split at e
    · cases e
      obtain ⟨v, rfl, q⟩ := ovs1 ov
      cases ov_int q
      exact call_str_int pins s σ H _ us Q I rv ⟨_, rfl, by assumption, k _ (.str _)⟩
    · cases e
  · cases e
    obtain ⟨v, rfl, q⟩ := ovs1 ov
    cases ov_str q
    exact SkE.call_str_str pins s σ H _ us Q I rv ⟨_, rfl, k _ (.str _)⟩
  · cases e
    obtain ⟨v, rfl, q⟩ := ovs1 ov
    cases ov_bool q
    obtain ⟨u, rfl, ru⟩ := vals1 rv
    cases ru
    exact PySem.P.str_of_bool ⟨.str _, H, I.tok _, ⟨_, rfl⟩, k _ (.str _)⟩
  · cases e
def ordF : List Vw → Option Rv
  | [.d (.str x)] => if x.length = 1 then some (.val (.int (x.cps.getD 0 0 : Nat))) else none
  | _ => none
theorem cs_ord {S : Sg} : CallS S (.builtin "ord") ordF := by
  rintro c hc pins s σ H xs us Q I rv ⟨B, as, r, sB, ov, e, k⟩
  unfold ordF at e
  split at e
  · split at e
    · cases e
      obtain ⟨v, rfl, q⟩ := ovs1 ov
      cases ov_str q
      exact call_ord pins s σ H _ us Q I rv ⟨_, rfl, by assumption, k _ (.int _)⟩
    · cases e
  · cases e
def bools : List PyData → Option (List Bool)
  | [] => some []
  | .bool b :: ds => (bools ds).map fun bs => b :: bs
  | _ => none
theorem bools_dd {B : Hp} : ∀ {ds : List PyData} {bs : List Bool} {xs : List V}, bools ds = some bs → DDs B xs ds → xs = bs.map V.bl
  | [], _, _, e, q => by cases e; cases q; rfl
  | d :: ds, _, _, e, q => by
    cases q with
    | cons q1 q2 =>
      cases d with
      | bool b =>
        simp only [bools] at e
        obtain ⟨bs, e1, e⟩ := Option.map_eq_some_iff.mp e
        cases e; cases q1
        rw [bools_dd e1 q2]; rfl
      | _ => cases e
def allF : List Vw → Option Rv
  | [.d (.list ds)] => (bools ds).map fun bs => .val (.bool (bs.all id))
  | _ => none
def anyF : List Vw → Option Rv
  | [.d (.list ds)] => (bools ds).map fun bs => .val (.bool (bs.any id))
  | _ => none
theorem cs_all {S : Sg} : CallS S (.builtin "all") allF := by
  rintro c hc pins s σ H xs us Q I rv ⟨B, as, r, sB, ov, e, k⟩
  unfold allF at e
  split at e
  · obtain ⟨bs, e1, e⟩ := Option.map_eq_some_iff.mp e
    cases e
    obtain ⟨v, rfl, q⟩ := ovs1 ov
    obtain ⟨p, zs, rfl, hp, qz⟩ := ov_lst sB q
    have ez := bools_dd e1 qz
    subst ez
    exact cr_all hc.calm pins s σ H _ us Q I rv ⟨p, bs, rfl, .inl hp, k _ (.bl _)⟩
  · cases e
theorem cs_any {S : Sg} : CallS S (.builtin "any") anyF := by
  rintro c hc pins s σ H xs us Q I rv ⟨B, as, r, sB, ov, e, k⟩
  unfold anyF at e
  split at e
  · obtain ⟨bs, e1, e⟩ := Option.map_eq_some_iff.mp e
    cases e
    obtain ⟨v, rfl, q⟩ := ovs1 ov
    obtain ⟨p, zs, rfl, hp, qz⟩ := ov_lst sB q
    have ez := bools_dd e1 qz
    subst ez
    exact cr_any hc.calm pins s σ H _ us Q I rv ⟨p, bs, rfl, .inl hp, k _ (.bl _)⟩
  · cases e
/-- text of data: no dict in it, shown within the line, of some depth at most -/
def showOk (d : PyData) : Bool := d.showable && !d.hasDict && decide (d.shown.length ≤ sizeLine) && decide (d.depth ≤ 60)
@[irreducible] def reprF : List Vw → Option Rv
  | [.d d] => if showOk d then some (.val (.str d.shown)) else none
  | [.w d] => if showOk d then some (.val (.str d.shown)) else none
  | _ => none
theorem repr_run {X : Cx} (hg : X.A.guards = some []) (hu : X.A.units + 64 < cLine) {pins : List (Addr × Obj)} {s : Shared} {σ : L2.St} {H : Hp} {v : V} {u : Value} {Q : VK} {d : PyData} (I : Inv X pins σ H s) (r : RelV v u) (h : Dp X.K H v d) (e : showOk d = true) (q : Q (.str d.shown) H) :
    wpAny (model X.prog X.w) X.A (call (.builtin "repr") [u]) (EP X pins σ Q) X.xe s := by
  unfold showOk at e
  simp only [Bool.and_eq_true, Bool.not_eq_true', decide_eq_true_eq] at e
  obtain ⟨⟨⟨h1, h2⟩, h3⟩, h4⟩ := e
  obtain ⟨as, hr⟩ := Dp.reads I d v u h r
  cases hr with
  | none =>
    refine call_repr_gives (typeIs_none s) F.slot_NoneType_repr F.entry_NoneType_repr (F.args_NoneType_repr_1 _) gives_none_repr ⟨.str _, H, I.tok _, ⟨_, rfl⟩, q⟩ (hx := by decide)
  | bool b =>
    refine call_repr_gives (PySem.typeIs_bool s b) F.slot_bool_repr F.entry_bool_repr (F.args_bool_repr_1 _) (gives_bool_repr b) ⟨.str _, H, I.tok _, ⟨_, rfl⟩, ?_⟩ (hx := by cases b <;> decide)
    simpa only [PyData.shown] using q
  | int i t =>
    exact PySem.P.repr_of_int (by simpa [PyData.showable] using h1) ⟨.str _, H, I.tok _, ⟨_, rfl⟩, by simpa only [PyData.shown] using q⟩
  | str x t =>
    refine call_repr_gives (typeIs_str s x t) F.slot_str_repr F.entry_str_repr (F.args_str_repr_1 _) (gives_str_repr x t) ⟨.str _, H, I.tok _, ⟨_, rfl⟩, by simpa only [PyData.shown] using q⟩ (hx := by simpa only [PyData.shown] using h3)
  | list g1 g2 g3 g4 =>
    exact repr_of_reads' (.list g1 g2 g3 g4) h1 (fun z => by rw [h2] at z; cases z) hg (by omega) (fun _ _ e => e) (fun h' u' tk hk => ⟨.str _, H, I.kept (t' := tk) hk, ⟨_, rfl⟩, q⟩) h3
  | tuple g1 g2 g3 g4 =>
    exact repr_of_reads' (.tuple g1 g2 g3 g4) h1 (fun z => by rw [h2] at z; cases z) hg (by omega) (fun _ _ e => e) (fun h' u' tk hk => ⟨.str _, H, I.kept (t' := tk) hk, ⟨_, rfl⟩, q⟩) h3
  | dict => cases h
theorem cs_repr {S : Sg} : CallS S (.builtin "repr") reprF := by
  rintro c hc pins s σ H xs us Q I rv ⟨B, as, r, sB, ov, e, k⟩
  unfold reprF at e
  split at e
  · split at e
    · cases e
      obtain ⟨v, rfl, q⟩ := ovs1 ov
      obtain ⟨u, rfl, ru⟩ := vals1 rv
      exact repr_run hc.gd hc.room.units I ru (OV.dp sB q) (by assumption) (k _ (.str _))
    · cases e
  · split at e
    · cases e
      obtain ⟨v, rfl, q⟩ := ovs1 ov
      obtain ⟨u, rfl, ru⟩ := vals1 rv
      exact repr_run hc.gd hc.room.units I ru (DW.dp q) (by assumption) (k _ (.str _))
    · cases e
  · cases e
end DL
set_option Elab.async false
set_option linter.all false
set_option maxRecDepth 100000
set_option maxHeartbeats 4000000
set_option autoImplicit false
namespace DL
open PySem PySem.Spec PyProof.Rows L2

/-! ### items -/
theorem dds_at {B : Hp} {xs : List V} {ds : List PyData} {i : Int} {d : PyData} (q : DDs B xs ds) (e : atI ds i = some d) : ∃ v, atI xs i = some v ∧ DD B v d := by
  unfold atI at e ⊢
  obtain ⟨j, e1, e2⟩ := Option.bind_eq_some_iff.mp e
  obtain ⟨v, e3, q3⟩ := q.get e2
  exact ⟨v, by rw [q.length, e1]; exact e3, q3⟩
theorem dpa_at {K : PySem.W.Frag} {H : Hp} {i : Int} {d : PyData} : ∀ {xs : List V} {ds : List PyData}, DpAll K H xs ds → ∀ {j : Nat}, ds[j]? = some d → ∃ v, xs[j]? = some v ∧ Dp K H v d
  | _, _, .nil, j, e => by simp at e
  | _, _, .cons q r, 0, e => by simp at e; subst e; exact ⟨_, rfl, q⟩
  | _, _, .cons q r, j + 1, e => by
    obtain ⟨v, e1, q1⟩ := dpa_at (i := i) r (j := j) (by simpa using e)
    exact ⟨v, by simpa using e1, q1⟩
def lookD {κ : Type} [DecidableEq κ] (kvs : List (κ × PyData)) (k : κ) : Option PyData := (kvs.find? fun kv => decide (kv.1 = k)).map (·.2)
theorem kds_look {κ : Type} [DecidableEq κ] {B : Hp} {ys : List (κ × V)} {kvs : List (κ × PyData)} (h : KDs B ys kvs) (k : κ) : (lookD kvs k = none ∧ valV ys k = none) ∨ ∃ v d, lookD kvs k = some d ∧ valV ys k = some v ∧ DD B v d := by
  induction h with
  | nil => exact .inl ⟨rfl, rfl⟩
  | cons q r ih =>
    rename_i p1 p2 l1 l2
    obtain ⟨e, q⟩ := q
    by_cases hk : p2.1 = k
    · have hk1 : p1.1 = k := e.trans hk
      exact .inr ⟨p1.2, p2.2, by unfold lookD; rw [List.find?_cons]; simp [hk], by unfold valV; rw [List.find?_cons]; simp [hk1], q⟩
    · have hk1 : ¬ p1.1 = k := fun z => hk (e ▸ z)
      have g1 : lookD (p2 :: l2) k = lookD l2 k := by unfold lookD; rw [List.find?_cons]; simp [hk]
      have g2 : valV (p1 :: l1) k = valV l1 k := by unfold valV; rw [List.find?_cons]; simp [hk1]
      rw [g1, g2]; exact ih
def keyD : PyData → Option Key
  | .int i => some (.inl i)
  | .str x => some (.inr x)
  | _ => none
theorem key_dd {B : Hp} {v : V} {d : PyData} {k : Key} (e : keyD d = some k) (h : DD B v d) : v = kV k := by
  cases h with
  | int i => cases e; rfl
  | str x => cases e; rfl
  | _ => cases e
def keysD : List PyData → Option (List Key)
  | [] => some []
  | d :: ds => (keyD d).bind fun k => (keysD ds).map fun ks => k :: ks
theorem keys_dd {B : Hp} : ∀ {ds : List PyData} {vs : List V} {ks : List Key}, keysD ds = some ks → DDs B vs ds → vs = ks.map kV
  | [], _, _, e, q => by cases e; cases q; rfl
  | d :: ds, _, _, e, q => by
    cases q with
    | cons q1 q2 =>
      simp only [keysD] at e
      obtain ⟨k, e1, e⟩ := Option.bind_eq_some_iff.mp e
      obtain ⟨ks, e2, e⟩ := Option.map_eq_some_iff.mp e
      cases e
      rw [key_dd e1 q1, keys_dd e2 q2]; rfl
/-- what a dict has under a thing: none where the thing can't be a key here -/
def dgetF : Vw → PyData → Option (Option PyData)
  | .k kvs, d => (keyD d).map fun k => lookD kvs k
  | _, _ => none
theorem dget_ok {K : PySem.W.Frag} {B H : Hp} {x y : V} {w : Vw} {d : PyData} {o : Option PyData} (sB : Same B H) (ox : OV K B H x w) (oy : OV K B H y (.d d)) (e : dgetF w d = some o) : ∃ a ov, x = .ref a ∧ DGet H a y ov ∧ ((o = none ∧ ov = none) ∨ ∃ v d', o = some d' ∧ ov = some v ∧ DD B v d') := by
  unfold dgetF at e
  split at e
  · obtain ⟨k, e1, e⟩ := Option.map_eq_some_iff.mp e
    obtain ⟨a, ys, rfl, e2, q⟩ := ox
    have ey : y = kV k := by
      rcases oy with oy | ⟨_, _, _, _, z, _⟩
      · exact key_dd e1 oy
      · subst z; cases e1
    subst ey
    refine ⟨a, valV ys k, rfl, DGet.k e2, ?_⟩
    rcases kds_look q k with ⟨z1, z2⟩ | ⟨v, d', z1, z2, q2⟩
    · exact .inl ⟨by rw [← e, z1], z2⟩
    · exact .inr ⟨v, d', by rw [← e, z1], z2, q2⟩
  · cases e
def idxD (d : PyData) (i : Int) : Option PyData := match d with
  | .list ds => atI ds i
  | .tuple ds => atI ds i
  | .str x => if x.length ≤ sizeLine then (atI x.cps.toList i).map fun c => .str ⟨#[c]⟩ else none
  | _ => none
def idxF : Vw → Vw → Option Rv
  | .d d, .d (.int i) => (idxD d i).map .val
  | .w d, .d (.int i) => (idxD d i).bind fun e => if scalar e then some (.val e) else none
  | .k kvs, .d d => ((dgetF (.k kvs) d).bind id).map .val
  | .t kvs, .d d => ((dgetF (.t kvs) d).bind id).map .val
  | _, _ => none
def IxS (S : Sg) (f : Vw → Vw → Option Rv) : Prop := ∀ c, S.ok c → IxR (S.g.cx c) (rF S.g.K f)
theorem ix_all {S : Sg} : IxS S idxF := by
  rintro c hc value slice pins s σ H x y v u Q I rx ry ⟨B, a, b, rv, sB, oa, ob, e, k⟩ hs
  have dict : ∀ {w : Vw} {d : PyData}, OV S.g.K B H x w → OV S.g.K B H y (.d d) → ((dgetF w d).bind id).map Rv.val = some rv → wpAny (model S.g.P S.g.w) c.A (subscriptTail value slice v u) (EP (S.g.cx c) pins σ Q) c.xe s := by
    intro w d ox oy e
    obtain ⟨d', e1, e⟩ := Option.map_eq_some_iff.mp e
    subst e
    obtain ⟨o, e2, e3⟩ := Option.bind_eq_some_iff.mp e1
    have e3 : o = some d' := e3
    subst e3
    obtain ⟨p, ov, rfl, g, z⟩ := dget_ok sB ox oy e2
    rcases z with ⟨z, _⟩ | ⟨v', d2, z, z2, q⟩
    · cases z
    · cases z
      subst z2
      cases rx
      exact tail_any (dict_typeIs I g) F.slot_dict_getitem.lookup (d_getItem (hu_of hc.room) I g ry fun w' s3 I3 rw' => ⟨v', H, I3, rw', k _ q⟩) hs
  unfold idxF at e
  split at e
  · obtain ⟨d, e1, e⟩ := Option.map_eq_some_iff.mp e
    cases e
    cases ov_int ob
    unfold idxD at e1
    split at e1
    · obtain ⟨p, xs, rfl, hp, qx⟩ := ov_lst sB oa
      obtain ⟨z, e2, qz⟩ := dds_at qx e1
      exact ix_list value slice pins s σ H _ _ v u Q I rx ry ⟨p, xs, _, z, rfl, rfl, .inl hp, e2, k _ qz⟩ hs
    · obtain ⟨p, xs, rfl, hp, qx⟩ := ov_tup oa
      obtain ⟨z, e2, qz⟩ := dds_at qx e1
      exact ix_tup value slice pins s σ H _ _ v u Q I rx ry ⟨p, xs, _, z, rfl, rfl, .inl (PlT.mono sB hp).rd, e2, k _ qz⟩ hs
    · split at e1
      · obtain ⟨cc, e2, e1⟩ := Option.map_eq_some_iff.mp e1
        subst e1
        cases ov_str oa
        exact ix_str value slice pins s σ H _ _ v u Q I rx ry ⟨_, _, cc, rfl, rfl, by assumption, e2, k _ (.str _)⟩ hs
      · cases e1
    · cases e1
  · obtain ⟨d, e1, e⟩ := Option.bind_eq_some_iff.mp e
    split at e
    · rename_i hsc
      cases e
      cases ov_int ob
      have oa : Dp S.g.K (fun _ => none) x _ := oa
      unfold idxD atI at e1
      split at e1
      · obtain ⟨j, e2, e3⟩ := Option.bind_eq_some_iff.mp e1
        cases oa with
        | lst r3 q3 =>
          obtain ⟨z, e4, qz⟩ := dpa_at (i := 0) q3 e3
          exact ix_list value slice pins s σ H _ _ v u Q I rx ry ⟨_, _, _, z, rfl, rfl, L2.Same.seq (fun _ _ z => by cases z) r3, by unfold atI; rw [dpa_length q3, e2]; exact e4, k _ (DW.scal qz hsc)⟩ hs
      · obtain ⟨j, e2, e3⟩ := Option.bind_eq_some_iff.mp e1
        cases oa with
        | tup r3 q3 =>
          obtain ⟨z, e4, qz⟩ := dpa_at (i := 0) q3 e3
          refine ix_tup value slice pins s σ H _ _ v u Q I rx ry ⟨_, _, _, z, rfl, rfl, ?_, by unfold atI; rw [dpa_length q3, e2]; exact e4, k _ (DW.scal qz hsc)⟩ hs
          rcases r3 with r3 | r3
          · exact .inl (same_rd (B := fun _ => none) (fun _ _ z => by cases z) r3)
          · exact .inr r3
      · split at e1
        · obtain ⟨cc, e2, e1⟩ := Option.map_eq_some_iff.mp e1
          subst e1
          cases oa
          exact ix_str value slice pins s σ H _ _ v u Q I rx ry ⟨_, _, cc, rfl, rfl, by assumption, e2, k _ (.str _)⟩ hs
        · cases e1
      · cases e1
    · cases e
  · exact dict oa ob e
  · exact dict oa ob e
  · cases e
section
variable {S : Sg}
theorem de_ix {a b : Expr} {wa wb : WE} {pos : Pos} (ha : DE S a wa) (hb : DE S b wb) (hs : PlainIx b := by intro _ _; rfl) : DE S (.Subscript a b pos) (wOp idxF wa wb) := by
  obtain ⟨ta, pa, sa⟩ := ha
  obtain ⟨tb, pb, sb⟩ := hb
  exact ⟨_, fun c hc => pe_ix (ix_all c hc) (pa c hc) (pb c hc) hs, sim_op sa sb⟩
end

/-! ### slices -/
abbrev WO := XP → SEnv → (Option Int → SEnv → Prop) → Prop
structure OSim (K : PySem.W.Frag) (E : XK) (t : TO) (W : WO) : Prop where
  mono : ∀ (Ex Ex' : XP) (δ : SEnv) (P P' : Option Int → SEnv → Prop), (∀ e, Ex e → Ex' e) → (∀ r δ', P r δ' → P' r δ') → W Ex δ P → W Ex' δ P'
  run : ∀ (Ex : XP) (F B H : Hp) (vs : List V) (σ : L2.St) (δ : SEnv) (P : Option Int → SEnv → Prop) (Q : Option Int → Hp → Prop), XOk F B E Ex → Rep K F B H vs σ δ → W Ex δ P →
    (∀ B' H' o δ', Same B B' → Rep K F B' H' vs σ δ' → P o δ' → Q o H') → t σ H Q
def DO (S : Sg) (e : Option Expr) (W : WO) : Prop := ∃ t, (∀ c, S.ok c → PO (S.g.cx c) e t) ∧ OSim S.g.K S.E t W
def intV : Vw → Option Int
  | .d (.int i) => some i
  | _ => none
def wNoP : WO := fun _ δ P => P none δ
def wPart (wa : WE) : WO := fun Ex δ P => wa Ex δ fun r δ1 => ob (view δ1 r) fun w => ob (intV w) fun i => P (some i) δ1
theorem intV_ok {K : PySem.W.Frag} {B H : Hp} {v : V} {w : Vw} {i : Int} (o : OV K B H v w) (e : intV w = some i) : v = .int i := by
  unfold intV at e
  split at e
  · cases e; exact ov_int o
  · cases e
def cutL {α : Type} (xs : List α) (lo hi : Option Int) : List α := (xs.drop (HT.sIx xs.length 0 lo)).take (HT.sIx xs.length xs.length hi - HT.sIx xs.length 0 lo)
theorem dds_cut {B : Hp} {xs : List V} {ds : List PyData} (q : DDs B xs ds) (lo hi : Option Int) : DDs B (cutV xs lo hi) (cutL ds lo hi) := by
  unfold cutV cutL
  rw [q.length]
  exact (q.drop _).take _
theorem cut_all {α : Type} {xs : List α} {lo hi : Option Int} (h : HT.sIx xs.length 0 lo = 0 ∧ HT.sIx xs.length xs.length hi = xs.length) : cutL xs lo hi = xs := by
  unfold cutL
  rw [h.1, h.2, List.drop_zero]
  simp
def rSlP (K : PySem.W.Frag) : V → Option Int → Option Int → Hp → VK → Prop := fun x lo hi H Q => ∃ a xs, x = .ref a ∧ SqT K H a xs ∧
  (HT.sIx xs.length 0 lo = 0 ∧ HT.sIx xs.length xs.length hi = xs.length → Q (.ref a) H) ∧ ∀ (p : Addr) (o : Obj), H p = none → o.cls = .type "tuple" → o.dict = none → Q (.ref p) (upd H p (.frz o (.tup (cutV xs lo hi))))
theorem sl_tupP {X : Cx} : SlR X (rSlP X.K) := by
  intro pins s σ H x v vl vu lo hi sl Q I rx hs pl pu h
  obtain ⟨a, xs, rfl, hx, q1, q2⟩ := h
  cases rx
  obtain ⟨its, r, ht, hz⟩ := I.tuple hx
  have hlen : its.toArray.size = xs.length := by rw [List.size_toArray]; exact r.length.symm
  refine ⟨"tuple", _, PyProof.Rows.slot_tuple_getitem.lookup, ht.typeIs, ?_⟩
  by_cases hw : HT.sIx xs.length 0 lo = 0 ∧ HT.sIx xs.length xs.length hi = xs.length
  · exact getItem_tuple_whole ht hs pl pu (by rw [hlen]; exact hw) ⟨.ref a, H, I, rfl, q1 hw⟩
  · refine HT.getItem_tuple_cut ht hs pl pu (by rw [hlen]; exact hw) ?_ (by rw [hlen]; exact hz)
    rw [hlen]
    refine ⟨.ref s.heap.objs.size, _, I.laid (t' := s.toks) (o := .frz _ (.tup (cutV xs lo hi))) (fun b ob q => Heap.get?_push_of_some _ q) (Nat.le_refl _) ⟨Heap.get?_push_size _ rfl, (show ObjOk X.prog X.w _ _ _ (.tup (cutV xs lo hi)) from ?_)⟩, rfl, q2 _ _ (I.hok.fresh (Nat.le_refl _)) rfl rfl⟩
    exact ⟨Nat.le_trans (cutV_length xs lo hi) hz, _, (r.drop (HT.sIx xs.length 0 lo)).take (HT.sIx xs.length xs.length hi - HT.sIx xs.length 0 lo), IsTup.new _ _⟩
def slF (lo hi : Option Int) : Vw → Option Rv
  | .d (.list ds) => some (.lst (cutL ds lo hi))
  | .d (.tuple ds) => some (.tup (cutL ds lo hi))
  | .d (.str x) => if x.length ≤ sizeLine then some (.val (.str (cutS x lo hi))) else none
  | .w (.list ds) => if ds.all scalar then some (.lst (cutL ds lo hi)) else none
  | _ => none
def rSl (K : PySem.W.Frag) : V → Option Int → Option Int → Hp → VK → Prop := fun x lo hi H Q => ∃ B a rv, Same B H ∧ OV K B H x a ∧ slF lo hi a = some rv ∧ RvK B H Q rv
theorem sl_all {X : Cx} : SlR X (rSl X.K) := by
  rintro pins s σ H x v vl vu lo hi sl Q I rx hs pl pu ⟨B, a, rv, sB, oa, e, k⟩
  unfold slF at e
  split at e
  · cases e
    obtain ⟨p, xs, rfl, hp, qx⟩ := ov_lst sB oa
    exact sl_list pins s σ H _ v vl vu lo hi sl Q I rx hs pl pu ⟨p, xs, rfl, .inl hp, fun l hl => k l _ hl (dds_cut qx lo hi)⟩
  · cases e
    obtain ⟨p, xs, rfl, hp, qx⟩ := ov_tup oa
    refine sl_tupP pins s σ H _ v vl vu lo hi sl Q I rx hs pl pu ⟨p, xs, rfl, .inl (PlT.mono sB hp).rd, fun hw => k.1 _ ?_, fun l o hl ec ed => k.2 l o _ hl ec ed (dds_cut qx lo hi)⟩
    rw [qx.length] at hw
    rw [cut_all hw]
    exact .tup hp qx
  · split at e
    · cases e
      cases ov_str oa
      exact sl_str pins s σ H _ v vl vu lo hi sl Q I rx hs pl pu ⟨_, rfl, by assumption, k _ (.str _)⟩
    · cases e
  · split at e
    · rename_i hsc
      cases e
      have oa : Dp X.K (fun _ => none) x _ := oa
      cases oa with
      | lst r3 q3 => exact sl_list pins s σ H _ v vl vu lo hi sl Q I rx hs pl pu ⟨_, _, rfl, L2.Same.seq (fun _ _ z => by cases z) r3, fun l hl => k l _ hl (dds_cut (dp_items q3 hsc B) lo hi)⟩
    · cases e
  · cases e
def wSl (wa : WE) (wl wh : WO) : WE := fun Ex δ P => wa Ex δ fun ra δ1 => ob (settle ra) fun r' => wl Ex δ1 fun lo δ2 => wh Ex δ2 fun hi δ3 => ob (view δ3 r') fun a => ob (slF lo hi a) fun rv => P rv.r δ3
section
variable {S : Sg}
theorem do_none : DO S none wNoP := ⟨tNoPart, fun _ _ => po_none, ⟨fun _ _ _ _ _ _ h w => h _ _ w, fun Ex F B H vs σ δ P Q hx h w k => k B H none δ (Same.refl _) h w⟩⟩
theorem do_some {e : Expr} {wa : WE} (h : DE S e wa) : DO S (some e) (wPart wa) := by
  obtain ⟨t, p, s⟩ := h
  refine ⟨_, fun c hc => po_some (p c hc), ⟨fun Ex Ex' δ P P' hx h w => s.mono _ _ _ _ _ hx (fun r δ1 w => w.imp fun v w => w.imp fun i w => h _ _ w) w, fun Ex F B H vs σ δ P Q hx h w k => ?_⟩⟩
  refine s.run _ _ _ _ _ _ _ _ _ hx h w fun B1 H1 v r δ1 s1 h1 q1 w1 => ?_
  obtain ⟨vw, e1, i, e2, w1⟩ := w1
  exact ⟨i, intV_ok (view_ok h1 q1 e1) e2, k B1 H1 (some i) δ1 s1 h1 w1⟩
theorem de_sl {a : Expr} {lo hi : Option Expr} {wa : WE} {wl wh : WO} {p2 pos : Pos} (ha : DE S a wa) (hl : DO S lo wl) (hh : DO S hi wh) : DE S (.Subscript a (.Slice lo hi none p2) pos) (wSl wa wl wh) := by
  obtain ⟨ta, pa, sa⟩ := ha
  obtain ⟨tl, pl, sl⟩ := hl
  obtain ⟨th, ph, sh⟩ := hh
  refine ⟨tSl (rSl S.g.K) ta tl th, fun c hc => pe_slice (X := S.g.cx c) sl_all (pa c hc) (pl c hc) (ph c hc), ⟨fun Ex Ex' δ P P' hx h w => ?_, fun Ex F B H vs σ δ P Q hx h w k => ?_⟩⟩
  · refine sa.mono _ _ _ _ _ hx (fun r δ1 w => w.imp fun r' w => ?_) w
    refine sl.mono _ _ _ _ _ hx (fun lo δ2 w => ?_) w
    exact sh.mono _ _ _ _ _ hx (fun hi δ3 w => w.imp fun a w => w.imp fun rv w => h _ _ w) w
  · refine sa.run _ _ _ _ _ _ _ _ _ hx h w fun B1 H1 x ra δ1 s1 h1 q1 w1 => ?_
    obtain ⟨r', e1, w1⟩ := w1
    obtain ⟨B2, s2, h2, q2, n2⟩ := settle_ok h1 q1 e1
    refine sl.run _ _ _ _ _ _ _ _ _ (hx.up (s1.trans s2)) h2 w1 fun B3 H3 l δ2 s3 h3 w3 => ?_
    refine sh.run _ _ _ _ _ _ _ _ _ (hx.up ((s1.trans s2).trans s3)) h3 w3 fun B4 H4 u δ3 s4 h4 w4 => ?_
    obtain ⟨a, e2, rv, e4, w4⟩ := w4
    have q4 := RepR.up (H' := H4) (s3.trans s4) q2 n2 (δ' := δ3)
    exact ⟨B4, a, rv, h4.sb, view_ok h4 q4 e2, e4, rvk_ok (((s1.trans s2).trans s3).trans s4) h4 w4 k⟩
end

/-! ### in -/
theorem eqV_eqv {B : Hp} {x y : V} {d e : PyData} (hx : DD B x d) (hy : DD B y e) (fx : flatV x = true) (fy : flatV y = true) : eqV x y = PyData.eqv d e := by
  cases hx <;> cases hy <;> first | rfl | (cases fx; done) | (cases fy; done) | simp [eqV, PyData.eqv]
theorem inV_any {B : Hp} {x : V} {d : PyData} (hx : DD B x d) (fx : flatV x = true) : ∀ {xs : List V} {ds : List PyData}, DDs B xs ds → xs.all flatV = true → inV x xs = ds.any fun z => PyData.eqv z d
  | _, _, .nil, _ => rfl
  | _, _, .cons q r, h => by
    rw [List.all_cons, Bool.and_eq_true] at h
    unfold inV
    rw [List.any_cons, List.any_cons, eqV_eqv q hx h.1 fx]
    have := inV_any hx fx r h.2
    unfold inV at this
    rw [this]
theorem flat_scal {B : Hp} {v : V} {d : PyData} (h : DD B v d) (e : scalar d = true) : flatV v = true := by
  cases h <;> first | rfl | cases e
theorem flats {B : Hp} : ∀ {vs : List V} {ds : List PyData}, DDs B vs ds → ds.all scalar = true → vs.all flatV = true
  | _, _, .nil, _ => rfl
  | _, _, .cons q r, h => by
    rw [List.all_cons, Bool.and_eq_true] at h ⊢
    exact ⟨flat_scal q h.1, flats r h.2⟩
def subIn (a b : Str) : Bool := !(Builtin.Str.occurrences b a 0 b.length 1).isEmpty
def inB : Vw → Vw → Option Bool
  | .d d, .d (.list ds) => if SeqAt.shaped d && SeqAt.shaped (.list ds) then some (ds.any fun z => PyData.eqv z d) else none
  | .d d, .d (.tuple ds) => if scalar d && ds.all scalar then some (ds.any fun z => PyData.eqv z d) else none
  | .d (.str a), .d (.str b) => some (subIn a b)
  | .d d, .k kvs => (dgetF (.k kvs) d).map (·.isSome)
  | .d d, .t kvs => (dgetF (.t kvs) d).map (·.isSome)
  | _, _ => none
def inG (neg : Bool) : Vw → Vw → Option Rv := fun a b => (inB a b).map fun r => .val (.bool (if neg then !r else r))
theorem os_in_ {S : Sg} (neg : Bool) : OpS S (compareOp (if neg then .NotIn else .In)) (inG neg) := by
  rintro c hc pins s σ H x y v u Q I rx ry ⟨B, a, b, rv, sB, oa, ob, e, k⟩
  unfold inG at e
  obtain ⟨r, e1, e2⟩ := Option.map_eq_some_iff.mp e
  clear e
  have e := e1
  clear e1
  subst e2
  have hu : (S.g.cx c).A.units + 65 < cLine := by have := hc.room.un; show c.A.units + 65 < cLine; omega
  have dict : ∀ {w : Vw} {d : PyData}, OV S.g.K B H x (.d d) → OV S.g.K B H y w → (dgetF w d).map (·.isSome) = some r → wpAny (model S.g.P S.g.w) c.A (compareOp (if neg then .NotIn else .In) v u) (EP (S.g.cx c) pins σ Q) c.xe s := by
    intro w d ox oy e
    obtain ⟨o, e2, e3⟩ := Option.map_eq_some_iff.mp e
    obtain ⟨p, ov, rfl, g, z⟩ := dget_ok sB oy ox e2
    have ei : ov.isSome = r := by
      rw [← e3]
      rcases z with ⟨z1, z2⟩ | ⟨_, _, z1, z2, _⟩ <;> rw [z1, z2] <;> rfl
    cases ry
    cases neg
    · exact d_in (hu_of hc.room) I g rx fun s3 I3 => ⟨.bl ov.isSome, H, I3, rfl, by rw [ei]; exact k _ (.bl _)⟩
    · exact d_notIn (hu_of hc.room) I g rx fun s3 I3 => ⟨.bl (!ov.isSome), H, I3, rfl, by rw [ei]; exact k _ (.bl _)⟩
  unfold inB at e
  split at e
  · split at e
    · rename_i hs
      cases e
      rw [Bool.and_eq_true] at hs
      cases neg
      · exact op_inD hu pins s σ H _ _ v u Q I rx ry ⟨_, _, OV.dp sB oa, OV.dp sB ob, hs.1, hs.2, k _ (.bl _)⟩
      · exact op_notInD hu pins s σ H _ _ v u Q I rx ry ⟨_, _, OV.dp sB oa, OV.dp sB ob, hs.1, hs.2, k _ (.bl _)⟩
    · cases e
  · split at e
    · rename_i d1 ds1 hs
      cases e
      rw [Bool.and_eq_true] at hs
      obtain ⟨p, xs, rfl, hp, qx⟩ := ov_tup ob
      have qd : DD B x d1 := by
        rcases oa with oa | ⟨_, _, _, _, z, _⟩
        · exact oa
        · subst z; cases hs.1
      have f1 := flat_scal qd hs.1
      have f2 := flats qx hs.2
      have ei := inV_any qd f1 qx f2
      cases neg
      · exact op_in_seq pins s σ H _ _ v u Q I rx ry ⟨p, xs, rfl, .inr (.inl (PlT.mono sB hp).rd), f1, f2, by rw [ei]; exact k _ (.bl _)⟩
      · exact op_notIn_seq pins s σ H _ _ v u Q I rx ry ⟨p, xs, rfl, .inr (.inl (PlT.mono sB hp).rd), f1, f2, by rw [ei]; exact k _ (.bl _)⟩
    · cases e
  · cases e
    cases ov_str oa; cases ov_str ob
    cases neg
    · exact op_in_str pins s σ H _ _ v u Q I rx ry ⟨_, _, rfl, rfl, k _ (.bl _)⟩
    · exact op_notin_str pins s σ H _ _ v u Q I rx ry ⟨_, _, rfl, rfl, k _ (.bl _)⟩
  · exact dict oa ob e
  · exact dict oa ob e
  · cases e
theorem os_in {S : Sg} : OpS S (compareOp .In) (inG false) := os_in_ false
theorem os_notin {S : Sg} : OpS S (compareOp .NotIn) (inG true) := os_in_ true
end DL
set_option Elab.async false
set_option linter.all false
set_option maxRecDepth 100000
set_option maxHeartbeats 4000000
set_option autoImplicit false
namespace DL
open PySem PySem.Spec PyProof.Rows L2

/-! ### a < b < c -/
def wChn (f f' : Vw → Vw → Option Rv) (wa wb wc : WE) : WE := fun Ex δ P => wa Ex δ fun ra δ1 => ob (settle ra) fun ra' => wb Ex δ1 fun rb δ2 => ob (settle rb) fun rb' => ob (view δ2 ra') fun a => ob (view δ2 rb') fun b => ob (f a b) fun rv => ob (isB rv.r) fun k =>
  if k = true then wc Ex δ2 fun rc δ3 => ob (view δ3 rb') fun b' => ob (view δ3 rc) fun c => ob (f' b' c) fun rv' => P rv'.r δ3 else P (.d (.bool false)) δ2
theorem rvk_bool {K : PySem.W.Frag} {F B0 B H : Hp} {vs : List V} {σ : L2.St} {δ : SEnv} {rv : Rv} {k : Bool} (e : isB rv.r = some k) {Q : VK} (h : Q (.bl k) H) : RvK B H Q rv := by
  cases rv with
  | val d =>
    cases d with
    | bool b => cases e; intro z q; cases q; exact h
    | _ => cases e
  | _ => cases e
theorem sim_chn {K : PySem.W.Frag} {E : XK} {ta tb tc : TE} {wa wb wc : WE} {f f' : Vw → Vw → Option Rv} (sa : ESim K E ta wa) (sb : ESim K E tb wb) (sc : ESim K E tc wc) : ESim K E (tChain (rF K f) (rF K f') ta tb tc) (wChn f f' wa wb wc) := by
  refine ⟨fun Ex Ex' δ P P' hx h w => ?_, fun Ex F B H vs σ δ P Q hx h w k => ?_⟩
  · refine sa.mono _ _ _ _ _ hx (fun ra δ1 w => w.imp fun ra' w => ?_) w
    refine sb.mono _ _ _ _ _ hx (fun rb δ2 w => w.imp fun rb' w => w.imp fun a w => w.imp fun b w => w.imp fun rv w => w.imp fun kk w => ?_) w
    cases kk with
    | false => exact h _ _ w
    | true => exact sc.mono _ _ _ _ _ hx (fun rc δ3 w => w.imp fun b' w => w.imp fun c w => w.imp fun rv' w => h _ _ w) w
  · refine sa.run _ _ _ _ _ _ _ _ _ hx h w fun B1 H1 x ra δ1 s1 h1 q1 w1 => ?_
    obtain ⟨ra', e1, w1⟩ := w1
    obtain ⟨B2, s2, h2, q2, n2⟩ := settle_ok h1 q1 e1
    refine sb.run _ _ _ _ _ _ _ _ _ (hx.up (s1.trans s2)) h2 w1 fun B3 H3 y rb δ2 s3 h3 q3 w3 => ?_
    obtain ⟨rb', e2, a, e3, b, e4, rv, e5, kk, e6, w3⟩ := w3
    obtain ⟨B4, s4, h4, q4, n4⟩ := settle_ok h3 q3 e2
    have qa := RepR.up (H' := H3) (s3.trans s4) q2 n2 (δ' := δ2)
    have s14 := ((s1.trans s2).trans s3).trans s4
    refine ⟨B4, a, b, rv, h4.sb, view_ok h4 qa e3, view_ok h4 q4 e4, e5, rvk_bool (K := K) (F := F) (B0 := B) (vs := vs) (σ := σ) (δ := δ2) e6 ⟨kk, rfl, ?_⟩⟩
    cases kk with
    | false => exact k B4 H3 _ (.d (.bool false)) δ2 s14 h4 (DD.bl false) w3
    | true =>
      refine sc.run _ _ _ _ _ _ _ _ _ (hx.up s14) h4 w3 fun B5 H5 z rc δ3 s5 h5 q5 w5 => ?_
      obtain ⟨b', e7, c, e8, rv', e9, w5⟩ := w5
      have qb := RepR.up (H' := H5) s5 q4 n4 (δ' := δ3)
      exact ⟨B5, b', c, rv', h5.sb, view_ok h5 qb e7, view_ok h5 q5 e8, e9, rvk_ok (s14.trans s5) h5 w5 k⟩
section
variable {S : Sg}
theorem de_chn {a b c : Expr} {wa wb wc : WE} {pos : Pos} {op op' : CmpOp} {f f' : Vw → Vw → Option Rv} (ho : OpS S (compareOp op) f) (ho' : OpS S (compareOp op') f') (ha : DE S a wa) (hb : DE S b wb) (hc : DE S c wc)
    (hm : lastMarks [op, op'] [b, c] = false := by with_unfolding_all rfl) : DE S (.Compare a [op, op'] [b, c] pos) (wChn f f' wa wb wc) := by
  obtain ⟨ta, pa, sa⟩ := ha
  obtain ⟨tb, pb, sb⟩ := hb
  obtain ⟨tc, pc, sc⟩ := hc
  exact ⟨_, fun c hc => pe_chain (ho c hc) (ho' c hc) (pa c hc) (pb c hc) (pc c hc) hm, sim_chn sa sb sc⟩
theorem dt_chn {a b c : Expr} {wa wb wc : WE} {pos : Pos} {op op' : CmpOp} {f f' : Vw → Vw → Option Rv} (ho : OpS S (compareOp op) f) (ho' : OpS S (compareOp op') f') (ha : DE S a wa) (hb : DE S b wb) (hc : DE S c wc)
    (hm : lastMarks [op, op'] [b, c] = false := by with_unfolding_all rfl) : DT S (.Compare a [op, op'] [b, c] pos) (wB (wChn f f' wa wb wc)) := by
  obtain ⟨ta, pa, sa⟩ := ha
  obtain ⟨tb, pb, sb⟩ := hb
  obtain ⟨tc, pc, sc⟩ := hc
  exact ⟨_, fun c hc => pt_chain (ho c hc) (ho' c hc) (pa c hc) (pb c hc) (pc c hc) hm, sim_test (sim_chn sa sb sc)⟩

/-! ### isinstance -/
def tyD : PyData → String
  | .none => "NoneType"
  | .bool _ => "bool"
  | .int _ => "int"
  | .str _ => "str"
  | .list _ => "list"
  | .tuple _ => "tuple"
  | .dict _ => "dict"
def tyTab (a T : String) : Bool := a == T || (a == "bool" && T == "int")
def isT (T : String) (d : PyData) : Bool := tyTab (tyD d) T
def okT (T : String) : Bool := T == "bool" || T == "int" || T == "str" || T == "list" || T == "tuple" || T == "dict"
theorem kit_tab {T a : String} (h : okT T = true) (ha : okT a = true ∨ a = "NoneType") : kitB a T = some (tyTab a T) := by
  unfold okT at h ha
  simp only [Bool.or_eq_true, beq_iff_eq] at h ha
  rcases h with ((((h | h) | h) | h) | h) | h <;> subst h <;> rcases ha with (((((ha | ha) | ha) | ha) | ha) | ha) | ha <;> subst ha <;> decide +kernel
theorem kit_isT {T : String} (h : okT T = true) (d : PyData) : kitB (tyD d) T = some (isT T d) := kit_tab h (by cases d <;> first | exact .inl rfl | exact .inr rfl)
theorem tyx_dp {K : PySem.W.Frag} {B H : Hp} {v : V} {d : PyData} (s : Same B H) (h : DD B v d) : TyX K H v (.type (tyD d)) := by
  cases h with
  | non => exact .base .non
  | bl b => exact .base (.bl b)
  | int i => exact .base (.int i)
  | str x => exact .base (.str x)
  | lst r q =>
    rcases r with r | ⟨o, r⟩
    · exact .base (.lst (s _ _ r))
    · exact .base (.frz (s _ _ r))
  | tup r q => obtain ⟨o, r, _⟩ := r; exact .fTuple (s _ _ r)
theorem tyx_ov {K : PySem.W.Frag} {B H : Hp} {v : V} {d : PyData} (s : Same B H) (h : OV K B H v (.d d)) : TyX K H v (.type (tyD d)) ∧ ∀ kvs, d ≠ .dict kvs := by
  rcases h with h | ⟨a, xs, ds, rfl, rfl, e, _⟩
  · exact ⟨tyx_dp s h, fun kvs z => by subst z; cases h⟩
  · exact ⟨.base (.lst e), fun kvs z => by cases z⟩
def dV : Vw → Option PyData
  | .d d => some d
  | _ => none
def dI : Vw → Option PyData
  | .d d => some d
  | .xt ds => some (.tuple ds)
  | _ => none
def wIsi (T : String) (wa : WE) : WE := fun Ex δ P => wa Ex δ fun r δ1 => ob (view δ1 r) fun w => ob (dI w) fun d => P (.d (.bool (isT T d))) δ1
theorem de_isi {a : Expr} {wa : WE} {T : String} {x : Str} {p p2 pos : Pos} (hT : okT T = true) (hg : GlS S.sc "isinstance") (hm : S.g.mg "isinstance" = none) (hg2 : GlS S.sc x) (hm2 : S.g.mg x = none) (hv2 : bootBuiltins x = some (.type T)) (ha : DE S a wa)
    (hn2 : x ≠ "__name__" := by decide) (hd2 : (x == ("__debug__" : Str)) = false := by decide)
    (hs : ∀ env, starEach [a, .Name x p2] env = (false, eval a env) :: starEach [.Name x p2] env := by intro _; rfl) (hpl : ∀ env, (backTo pos (starEach [.Name x p2] env)).any (·.1) = false := by intro _; rfl) :
    DE S (.Call (.Name "isinstance" p) [a, .Name x p2] [] pos) (wIsi T wa) := by
  obtain ⟨ta, pa, sa⟩ := ha
  refine ⟨tCB (rIsi S.g.K) (tCons ta (tCons (tC (.ty T)) tNil)), fun c hc => ?_, ⟨fun Ex Ex' δ P P' hx h w => sa.mono _ _ _ _ _ hx (fun r δ1 w => w.imp fun v w => w.imp fun d w => h _ _ w) w, fun Ex F B H vs σ δ P Q hx h w k => ?_⟩⟩
  · exact pe_callB (X := S.g.cx c) call_isi (gl_of hc hg) hm (by decide +kernel) (pa_cons (pa c hc) (pa_cons (pe_bltn (gl_of hc hg2) hm2 hv2 rfl hn2 hd2) pa_nil) (hs _)) (by decide) (by decide) (hs _) (hpl _)
  · refine sa.run _ _ _ _ _ _ _ _ _ hx h w fun B1 H1 v r δ1 s1 h1 q1 w1 => ?_
    obtain ⟨vw, e1, d, e2, w1⟩ := w1
    have o := view_ok h1 q1 e1
    cases vw with
    | d d' =>
      cases e2
      obtain ⟨t1, t2⟩ := tyx_ov h1.sb o
      exact ⟨v, .ty T, .type (tyD d), .type T, isT T d, rfl, .ty T, t1, kit_ty (kit_isT hT d), k B1 H1 _ (.d (.bool (isT T d))) δ1 s1 h1 (.bl _) w1⟩
    | xt ds =>
      cases e2
      obtain ⟨a, u, xs, rfl, e4, _⟩ := o
      exact ⟨.ref a, .ty T, .type (tyD (.tuple ds)), .type T, isT T (.tuple ds), rfl, .ty T, .fTuple (h1.sb _ _ e4), kit_ty (kit_isT hT (.tuple ds)), k B1 H1 _ (.d (.bool (isT T (.tuple ds)))) δ1 s1 h1 (.bl _) w1⟩
    | _ => cases e2
end

/-! ### displays of dicts -/
def putD {κ : Type} [DecidableEq κ] (kvs : List (κ × PyData)) (k : κ) (d : PyData) : List (κ × PyData) :=
  if (kvs.any fun kv => decide (kv.1 = k)) = true then kvs.map (fun kv => if kv.1 = k then (kv.1, d) else kv) else kvs ++ [(k, d)]
theorem kds_any {κ : Type} [DecidableEq κ] {B : Hp} {ys : List (κ × V)} {kvs : List (κ × PyData)} (h : KDs B ys kvs) (k : κ) : (ys.any fun kv => decide (kv.1 = k)) = kvs.any fun kv => decide (kv.1 = k) := by
  induction h with
  | nil => rfl
  | cons q r ih => rw [List.any_cons, List.any_cons, ih, q.1]
theorem kds_map {κ : Type} [DecidableEq κ] {B : Hp} {ys : List (κ × V)} {kvs : List (κ × PyData)} (h : KDs B ys kvs) {k : κ} {v : V} {d : PyData} (q : DD B v d) : KDs B (ys.map fun kv => if kv.1 = k then (kv.1, v) else kv) (kvs.map fun kv => if kv.1 = k then (kv.1, d) else kv) := by
  induction h with
  | nil => exact .nil
  | cons q1 r ih =>
    rename_i p1 p2 l1 l2
    rw [List.map_cons, List.map_cons]
    refine .cons ?_ ih
    by_cases hk : p2.1 = k
    · rw [if_pos (q1.1.trans hk), if_pos hk]; exact ⟨q1.1, q⟩
    · rw [if_neg (fun z => hk (q1.1 ▸ z)), if_neg hk]; exact q1
theorem kds_app {κ : Type} {B : Hp} {ys zs : List (κ × V)} {kvs jvs : List (κ × PyData)} (h : KDs B ys kvs) (h2 : KDs B zs jvs) : KDs B (ys ++ zs) (kvs ++ jvs) := by
  induction h with
  | nil => exact h2
  | cons q r ih => exact .cons q ih
theorem kds_put {κ : Type} [DecidableEq κ] {B : Hp} {ys : List (κ × V)} {kvs : List (κ × PyData)} (h : KDs B ys kvs) {k : κ} {v : V} {d : PyData} (q : DD B v d) : KDs B (putK ys k v) (putD kvs k d) := by
  unfold putK putD
  rw [kds_any h k]
  split
  · exact kds_map h q
  · exact kds_app h (.cons ⟨rfl, q⟩ .nil)
def mergeD (kvs more : List (Key × PyData)) : List (Key × PyData) := more.foldl (fun acc kv => putD acc kv.1 kv.2) kvs
theorem kds_merge {B : Hp} {ys : List (Key × V)} {kvs : List (Key × PyData)} (h : KDs B ys kvs) : ∀ {y0 : List (Key × V)} {k0 : List (Key × PyData)}, KDs B y0 k0 → KDs B (mergeK y0 ys) (mergeD k0 kvs) := by
  induction h with
  | nil => intro y0 k0 h0; exact h0
  | cons q r ih =>
    intro y0 k0 h0
    unfold mergeK mergeD
    rw [List.foldl_cons, List.foldl_cons, q.1]
    exact ih (kds_put h0 q.2)
def wPairs : List (WE × WE) → XP → SEnv → (List (Key × PyData) → SEnv → Prop) → Prop
  | [], _, δ, P => P [] δ
  | (wk, wv) :: r, Ex, δ, P => wk Ex δ fun rk δ1 => ob (view δ1 rk) fun a => ob (dV a) fun dk => ob (keyD dk) fun k => wv Ex δ1 fun rv δ2 => ob (frz δ2 rv) fun p => wPairs r Ex p.2 fun kvs δ3 => P ((k, p.1) :: kvs) δ3
def wDisp (ps : List (WE × WE)) : WE := fun Ex δ P => wPairs ps Ex δ fun kvs δ1 => kvs.length ≤ 15 ∧ P (.n (.k (mergeD [] kvs))) δ1
def DPs (S : Sg) (pos : Pos) (keys : List (Option Expr)) (values : List Expr) (ws : List (WE × WE)) : Prop := ∃ trs : List (TE × TE), (∀ c, S.ok c → PPs (S.g.cx c) pos keys values trs) ∧ Paired (fun (t : TE × TE) (w : WE × WE) => ESim S.g.K S.E t.1 w.1 ∧ ESim S.g.K S.E t.2 w.2) trs ws
section
variable {S : Sg}
theorem dps_nil {pos : Pos} : DPs S pos [] [] [] := ⟨[], fun _ _ => pps_nil, .nil⟩
theorem dps_cons {pos : Pos} {k v : Expr} {ks : List (Option Expr)} {vs : List Expr} {wk wv : WE} {ws : List (WE × WE)} (hk : DE S k wk) (hv : DE S v wv) (hr : DPs S pos ks vs ws) : DPs S pos (some k :: ks) (v :: vs) ((wk, wv) :: ws) := by
  obtain ⟨tk, pk, sk⟩ := hk
  obtain ⟨tv, pv, sv⟩ := hv
  obtain ⟨tr, pr, sr⟩ := hr
  exact ⟨(tk, tv) :: tr, fun c hc => pps_cons (pk c hc) (pv c hc) (pr c hc), .cons ⟨sk, sv⟩ sr⟩
theorem pairs_mono {K : PySem.W.Frag} {E : XK} : ∀ {trs : List (TE × TE)} {ws : List (WE × WE)}, Paired (fun (t : TE × TE) (w : WE × WE) => ESim K E t.1 w.1 ∧ ESim K E t.2 w.2) trs ws → ∀ (Ex Ex' : XP) (δ : SEnv) (P P' : List (Key × PyData) → SEnv → Prop), (∀ e, Ex e → Ex' e) → (∀ r δ', P r δ' → P' r δ') → wPairs ws Ex δ P → wPairs ws Ex' δ P'
  | _, _, .nil, Ex, Ex', δ, P, P', hx, h, w => h _ _ w
  | _, _, .cons (b := (wk, wv)) q r, Ex, Ex', δ, P, P', hx, h, w => by
    refine q.1.mono _ _ _ _ _ hx (fun rk δ1 w => w.imp fun a w => w.imp fun dk w => w.imp fun k w => ?_) w
    refine q.2.mono _ _ _ _ _ hx (fun rv δ2 w => w.imp fun p w => ?_) w
    exact pairs_mono r Ex Ex' _ _ _ hx (fun kvs δ3 w => h _ _ w) w
theorem pairs_run {K : PySem.W.Frag} {E : XK} {vs : List V} {σ : L2.St} : ∀ {trs : List (TE × TE)} {ws : List (WE × WE)}, Paired (fun (t : TE × TE) (w : WE × WE) => ESim K E t.1 w.1 ∧ ESim K E t.2 w.2) trs ws → ∀ (Ex : XP) (F B H : Hp) (δ : SEnv) (P : List (Key × PyData) → SEnv → Prop) (Q : List (V × V) → Hp → Prop), XOk F B E Ex → Rep K F B H vs σ δ → wPairs ws Ex δ P →
    (∀ B' H' ys kvs δ', Same B B' → Rep K F B' H' vs σ δ' → KDs B' ys kvs → P kvs δ' → Q (ys.map fun kv => (kV kv.1, kv.2)) H') → tPairs trs σ H Q
  | _, _, .nil, Ex, F, B, H, δ, P, Q, hx, h, w, k => k B H [] [] δ (Same.refl _) h .nil w
  | _, _, .cons (a := (tk, tv)) (b := (wk, wv)) q r, Ex, F, B, H, δ, P, Q, hx, h, w, kk => by
    refine q.1.run _ _ _ _ _ _ _ _ _ hx h w fun B1 H1 x rk δ1 s1 h1 q1 w1 => ?_
    obtain ⟨a, e1, dk, e2, k, e3, w1⟩ := w1
    have o := view_ok h1 q1 e1
    have ex : x = kV k := by
      cases a with
      | d d =>
        cases e2
        rcases o with o | ⟨_, _, _, _, z, _⟩
        · exact key_dd e3 o
        · subst z; cases e3
      | _ => cases e2
    subst ex
    refine q.2.run _ _ _ _ _ _ _ _ _ (hx.up s1) h1 w1 fun B2 H2 y rv δ2 s2 h2 q2 w2 => ?_
    obtain ⟨⟨d, δ3⟩, e4, w2⟩ := w2
    obtain ⟨B3, s3, h3, q3⟩ := frz_ok h2 q2 e4
    refine pairs_run r Ex F B3 H2 δ3 _ _ (hx.up ((s1.trans s2).trans s3)) h3 w2 fun B4 H4 ys kvs δ4 s4 h4 q4 w4 => ?_
    exact kk B4 H4 ((k, y) :: ys) ((k, d) :: kvs) δ4 (((s1.trans s2).trans s3).trans s4) h4 (.cons ⟨rfl, q3.mono s4⟩ q4) w4
theorem de_disp {pos : Pos} {keys : List (Option Expr)} {values : List Expr} {ws : List (WE × WE)} (h : DPs S pos keys values ws) (hall : keys.all (·.isSome) = true := by rfl) (hl : keys.length = values.length := by rfl) (h0 : keys ≠ [] := by exact fun z => nomatch z) (h15 : keys.length ≤ 15 := by decide) : DE S (.Dict keys values pos) (wDisp ws) := by
  obtain ⟨trs, p, s⟩ := h
  refine ⟨tDisp trs, fun c hc => pe_disp (p c hc) hall hl h0 h15, ⟨fun Ex Ex' δ P P' hx h w => pairs_mono s Ex Ex' δ _ _ hx (fun kvs δ1 w => ⟨w.1, h _ _ w.2⟩) w, fun Ex F B H vs σ δ P Q hx h w k => ?_⟩⟩
  intro p hp
  refine pairs_run s Ex (upd F p (.dK [])) B _ δ _ _ (fun cls da B' H' fs fds t1 t2 t3 t4 t5 t6 t7 => hx cls da B' H' fs fds t1 t2 (fun a o e => t3 a o (by rw [upd_ne (ne_of_none e (nof h.sf hp))]; exact e)) (fun a o e => t4 a o (by rw [upd_ne (ne_of_none e (nof h.sf hp))]; exact e)) t5 t6 t7) (h.lay hp _) w fun B1 H1 ys kvs δ1 s1 h1 q1 w1 => ?_
  have e1 : H1 p = some (.dK []) := h1.sf p _ upd_same
  have hF : F p = none := nof h.sf hp
  refine ⟨e1, ys, rfl, by rw [kds_length q1]; exact w1.1, ?_⟩
  have h2 := (h1.relay (o' := .dK (mergeK [] ys))).unlay hF
  have h1' := h1.relay (o' := .dK (mergeK [] ys))
  exact k B1 _ (.ref p) (.n (.k (mergeD [] kvs))) δ1 s1 h2 ⟨p, rfl, foot_bf rfl (h1.dj p _ upd_same) hF, ⟨_, upd_same, kds_merge q1 .nil⟩, h1'.off⟩ w1.2
theorem de_dnew {pos : Pos} : DE S (.Dict [] [] pos) (fun _ δ P => P (.n (.k [])) δ) := by
  refine ⟨tDNewK, fun c hc => pe_dnewK, ⟨fun Ex Ex' δ P P' hx h w => h _ _ w, fun Ex F B H vs σ δ P Q hx h w k => ?_⟩⟩
  intro p hp
  exact k B _ (.ref p) (.n (.k [])) δ (Same.refl _) (h.newO hp _) ⟨p, rfl, foot_bf rfl (nof h.sb hp) (nof h.sf hp), ⟨[], upd_same, .nil⟩, h.fresh hp _⟩ w
theorem de_dnewT {pos : Pos} : DE S (.Dict [] [] pos) (fun _ δ P => P (.n (.t [])) δ) := by
  refine ⟨tDNewT, fun c hc => pe_dnewT, ⟨fun Ex Ex' δ P P' hx h w => h _ _ w, fun Ex F B H vs σ δ P Q hx h w k => ?_⟩⟩
  intro p hp
  exact k B _ (.ref p) (.n (.t [])) δ (Same.refl _) (h.newO hp _) ⟨p, rfl, foot_bf rfl (nof h.sb hp) (nof h.sf hp), ⟨[], upd_same, .nil⟩, h.fresh hp _⟩ w
end
end DL
set_option Elab.async false
set_option linter.all false
set_option maxRecDepth 100000
set_option maxHeartbeats 4000000
set_option autoImplicit false
namespace DL
open PySem PySem.Spec PyProof.Rows L2

section
variable {K : PySem.W.Frag} {F B H : Hp} {vs : List V} {σ : L2.St} {δ : SEnv}
/-- an object of one's own is changed -/
theorem Rep.mutate (h : Rep K F B H vs σ δ) {i : Nat} {a : Addr} {b : Bool} {c c' : Cont} {o : HO} (e : δ[i]? = some (some (.o b c))) (ea : σ[i]? = some (some (.ref a))) (q : ContOk B (upd H a o) a c') (hf : ∀ p, Foot (upd H a o) a c' p → Foot H a c p := by exact fun _ z => z) (hr : c.real = true := by rfl) :
    Rep K F B (upd H a o) vs σ (δ.set i (some (.o b c'))) := by
  obtain ⟨hBF, _⟩ := h.own_up e ea
  have hB := (hBF a (foot_self hr)).1
  have hF := (hBF a (foot_self hr)).2
  have ne : ∀ {j : Nat} {b2 : Bool} {c2 : Cont} {a2 p : Addr}, j ≠ i → δ[j]? = some (some (.o b2 c2)) → σ[j]? = some (some (.ref a2)) → Foot H a2 c2 p → p ≠ a := fun n z e2 f w => by
    subst w; exact n (h.apart _ _ _ _ _ _ _ _ _ z e e2 ea f (foot_self hr))
  have sm : ∀ {j : Nat} {b2 : Bool} {c2 : Cont} {a2 p : Addr}, j ≠ i → δ[j]? = some (some (.o b2 c2)) → σ[j]? = some (some (.ref a2)) → (Foot (upd H a o) a2 c2 p ↔ Foot H a2 c2 p) := fun n z e2 => foot_eq fun p f => upd_ne (ne n z e2 f)
  refine ⟨fun p u z => ?_, fun p u z => ?_, h.dj, by rw [List.length_set]; exact h.len, fun j s z => ?_, fun j k a1 a2 p b1 c1 b2 c2 z1 z2 z3 z4 f1 f2 => ?_, fun j c1 z => ?_, h.nt⟩
  · rw [upd_ne (ne_of_none z hB)]; exact h.sb p u z
  · rw [upd_ne (ne_of_none z hF)]; exact h.sf p u z
  · rcases set_get z with ⟨ej, z'⟩ | ⟨n, z'⟩
    · subst ej; cases z'; exact ⟨_, ea, a, rfl, fun p f => hBF p (hf p f), q⟩
    · obtain ⟨v, e2, q2⟩ := h.ok j s z'
      refine ⟨v, e2, ?_⟩
      cases s with
      | d d => exact q2
      | w d => exact q2
      | o b2 c2 =>
        obtain ⟨p, e3, hBF2, q3⟩ := q2
        subst e3
        exact ⟨p, rfl, fun r f => hBF2 r ((sm n z' e2).mp f), q3.mono (Same.refl _) fun r f => upd_ne (ne n z' e2 f)⟩
  · rcases set_get z1 with ⟨ej, y1⟩ | ⟨nj, y1⟩
    · rcases set_get z2 with ⟨ek, y2⟩ | ⟨nk, y2⟩
      · rw [ej, ek]
      · cases y1; subst ej
        rw [ea] at z3; cases z3
        exact h.apart _ k _ a2 p _ c _ c2 e y2 ea z4 (hf p f1) ((sm nk y2 z4).mp f2)
    · rcases set_get z2 with ⟨ek, y2⟩ | ⟨nk, y2⟩
      · cases y2; subst ek
        rw [ea] at z4; cases z4
        exact h.apart j _ a1 _ p b1 c1 _ c y1 e z3 ea ((sm nj y1 z3).mp f1) (hf p f2)
      · exact h.apart j k a1 a2 p b1 c1 b2 c2 y1 y2 z3 z4 ((sm nj y1 z3).mp f1) ((sm nk y2 z4).mp f2)
  · rcases set_get z with ⟨ej, z'⟩ | ⟨n, z'⟩
    · subst ej; cases z'; exact h.bor _ c e
    · exact h.bor j c1 z'
theorem own_at (h : Rep K F B H vs σ δ) {i : Nat} {b : Bool} {c : Cont} {v : V} (e : δ[i]? = some (some (.o b c))) (ev : σ[i]? = some (some v)) : ∃ a, v = .ref a ∧ (∀ p, Foot H a c p → B p = none ∧ F p = none) ∧ ContOk B H a c := by
  obtain ⟨v0, e0, q⟩ := h.ok i _ e
  rw [ev] at e0; cases e0
  exact q
end
/-! ### xs.append(e), xs.extend(ys), xs.pop() -/
def ownL (δ : SEnv) (i : Nat) : Option (Bool × List PyData) := match δ[i]? with
  | some (some (.o b (.l ds))) => some (b, ds)
  | _ => none
theorem ownL_at {δ : SEnv} {i : Nat} {b : Bool} {ds : List PyData} (h : ownL δ i = some (b, ds)) : δ[i]? = some (some (.o b (.l ds))) := by
  unfold ownL at h
  split at h
  · cases h; assumption
  · cases h
def wApp (i : Nat) (wa : WE) : WE := fun Ex δ P => ob (ownL δ i) fun _ => wa Ex δ fun r δ1 => ob (frz δ1 r) fun p => ob (ownL p.2 i) fun q => q.2.length < sizeLine ∧ P (.d .none) (p.2.set i (some (.o q.1 (.l (q.2 ++ [p.1])))))
def wExt (i : Nat) (wa : WE) : WE := fun Ex δ P => ob (ownL δ i) fun _ => wa Ex δ fun r δ1 => ob (frz δ1 r) fun p => ob (match p.1 with | .list ds => some ds | _ => none) fun zs => ob (ownL p.2 i) fun q => q.2.length + zs.length ≤ sizeLine ∧ P (.d .none) (p.2.set i (some (.o q.1 (.l (q.2 ++ zs)))))
def wPop (i : Nat) : WE := fun Ex δ P => ob (ownL δ i) fun q => ob (q.2[q.2.length - 1]?) fun d => P (.d d) (δ.set i (some (.o q.1 (.l q.2.dropLast))))
theorem mt_extendRd {X : Cx} : MtR X "list.extend" fun x vs H Q => ∃ l b xs zs, x = .ref l ∧ vs = [.ref b] ∧ H l = some (.lst xs) ∧ Rd H b (.lst zs) ∧ xs.length + zs.length ≤ sizeLine ∧ Q .non (upd H l (.lst (xs ++ zs))) := by
  rintro pins s σ H x vs v us Q I rx rv ⟨l, b, xs, zs, rfl, rfl, hl, hb, hz, q⟩
  cases rx
  obtain ⟨u, rfl, ru⟩ := rv.one
  cases ru
  obtain ⟨z1, its, n, r, e⟩ := I.hok l _ hl
  obtain ⟨z2, its2, n2, r2, e2⟩ := hb.ok I.hok
  have l1 := r.length
  have l2 := r2.length
  have tot : its.toArray.size + its2.toArray.size ≤ sizeLine := by rw [List.size_toArray, List.size_toArray]; omega
  refine call_meets F.slot_list_extend ⟨_, e, rfl⟩ F.entry_list_extend (F.args_list_extend_2 _ _) (AutoSeq1.list_extend_list_list_0 l its.toArray n b its2.toArray n2 (by rw [notLongL tot, Bool.and_false]; exact Bool.false_ne_true) (by rw [List.size_toArray]; omega) (by omega)) ⟨e, e2, ?_⟩
  exact ⟨.non, _, I.lset (its' := its ++ its2) hl e (by simp) (r.append r2) (by rw [List.length_append]; omega), rfl, q⟩
section
variable {S : Sg}
theorem vis_v {c : Cl} (hc : S.ok c) {i : Nat} {x : Str} {p : Pos} (hN : S.N[i]? = some x) (hv : Vis S.sc x) (hd : (x == ("__debug__" : Str)) = false) (hcd : (x == ("__classdict__" : Str)) = false) : PE (S.g.cx c) (.Name x p) (tVar i) :=
  pe_var (by show c.N[i]? = _; rw [hc.hN]; exact hN) (by show Vis c.env.scope x; rw [hc.hs]; exact hv) hd hcd
/-- how a method with one argument is called on a name -/
def few (cpos : Pos) (e : Expr) : Prop := ∀ env, ((backTo cpos (starEach [e] env)).all (fun x => !x.1) && (backToKw cpos (keywordEach [] env)).all (fun x => x.1.isSome) && decide ([e].length + ([] : List Keyword).length + (if ([] : List Keyword).isEmpty then 0 else 1) < 30)) = true
theorem de_app {i : Nat} {x : Str} {e : Expr} {wa : WE} {p apos cpos : Pos} (hN : S.N[i]? = some x) (hv : Vis S.sc x) (ha : DE S e wa) (hd : (x == ("__debug__" : Str)) = false := by decide) (hcd : (x == ("__classdict__" : Str)) = false := by decide)
    (hb : ∀ env, attributeBase (.Name x p) "append" env (eval (.Name x p) env) = eval (.Name x p) env := by intro _; rfl) (hf : few cpos e := by intro _; rfl) (hl : (apos.endLine == cpos.line) = true := by rfl)
    (hs : ∀ env, starEach [e] env = (false, eval e env) :: starEach [] env := by intro _; rfl) (hp : ∀ env, (backTo cpos (starEach [] env)).any (·.1) = false := by intro _; rfl) :
    DE S (.Call (.Attribute (.Name x p) "append" apos) [e] [] cpos) (wApp i wa) := by
  obtain ⟨t, pa, s⟩ := ha
  refine ⟨tBM S.g.K "list" rAppend (tVar i) (tCons t tNil), fun c hc => pe_bm (X := S.g.cx c) PySem.F.plainAttrs_list PySem.F.slot_list_append PySem.F.type_list_append mt_append (vis_v hc hN hv hd hcd) (pa_cons (pa c hc) pa_nil (hs _)) (hb _) (hf _) hl (hs _) (hp _), ⟨fun Ex Ex' δ P P' hx h w => ?_, fun Ex F B H vs σ δ P Q hx h w k => ?_⟩⟩
  · exact w.imp fun _ w => s.mono _ _ _ _ _ hx (fun r δ1 w => w.imp fun p w => w.imp fun q w => ⟨w.1, h _ _ w.2⟩) w
  · obtain ⟨⟨b0, ds0⟩, e0, w⟩ := w
    have a0 := ownL_at e0
    obtain ⟨v, ev, a, rfl, hBF, xs, hx0, q0⟩ := h.ok i _ a0
    refine ⟨_, ev, .inl ⟨rfl, xs, SqL.of hx0⟩, ?_⟩
    refine s.run _ _ _ _ _ _ _ _ _ hx h w fun B1 H1 y r δ1 s1 h1 q1 w1 => ?_
    obtain ⟨⟨d, δ2⟩, e1, ⟨b, ds⟩, e2, hl2, w1⟩ := w1
    obtain ⟨B2, s2, h2, q2⟩ := frz_ok h1 q1 e1
    have a2 := ownL_at e2
    obtain ⟨a', ea, hBF2, ys, hy, qy⟩ := own_at h2 a2 ev
    cases ea
    refine ⟨a, ys, y, rfl, rfl, hy, by rw [qy.length]; exact hl2, ?_⟩
    exact k B2 _ .non (.d .none) _ (s1.trans s2) (h2.mutate (c' := .l (ds ++ [d])) a2 ev ⟨_, upd_same, qy.snoc q2⟩) .non w1
theorem de_ext {i : Nat} {x : Str} {e : Expr} {wa : WE} {p apos cpos : Pos} (hN : S.N[i]? = some x) (hv : Vis S.sc x) (ha : DE S e wa) (hd : (x == ("__debug__" : Str)) = false := by decide) (hcd : (x == ("__classdict__" : Str)) = false := by decide)
    (hb : ∀ env, attributeBase (.Name x p) "extend" env (eval (.Name x p) env) = eval (.Name x p) env := by intro _; rfl) (hf : few cpos e := by intro _; rfl) (hl : (apos.endLine == cpos.line) = true := by rfl)
    (hs : ∀ env, starEach [e] env = (false, eval e env) :: starEach [] env := by intro _; rfl) (hp : ∀ env, (backTo cpos (starEach [] env)).any (·.1) = false := by intro _; rfl) :
    DE S (.Call (.Attribute (.Name x p) "extend" apos) [e] [] cpos) (wExt i wa) := by
  obtain ⟨t, pa, s⟩ := ha
  refine ⟨tBM S.g.K "list" _ (tVar i) (tCons t tNil), fun c hc => pe_bm (X := S.g.cx c) PySem.F.plainAttrs_list PySem.F.slot_list_extend PySem.F.type_list_extend mt_extendRd (vis_v hc hN hv hd hcd) (pa_cons (pa c hc) pa_nil (hs _)) (hb _) (hf _) hl (hs _) (hp _), ⟨fun Ex Ex' δ P P' hx h w => ?_, fun Ex F B H vs σ δ P Q hx h w k => ?_⟩⟩
  · exact w.imp fun _ w => s.mono _ _ _ _ _ hx (fun r δ1 w => w.imp fun p w => w.imp fun zs w => w.imp fun q w => ⟨w.1, h _ _ w.2⟩) w
  · obtain ⟨⟨b0, ds0⟩, e0, w⟩ := w
    have a0 := ownL_at e0
    obtain ⟨v, ev, a, rfl, hBF, xs, hx0, q0⟩ := h.ok i _ a0
    refine ⟨_, ev, .inl ⟨rfl, xs, SqL.of hx0⟩, ?_⟩
    refine s.run _ _ _ _ _ _ _ _ _ hx h w fun B1 H1 y r δ1 s1 h1 q1 w1 => ?_
    obtain ⟨⟨d, δ2⟩, e1, zs, ez, ⟨b, ds⟩, e2, hl2, w1⟩ := w1
    obtain ⟨B2, s2, h2, q2⟩ := frz_ok h1 q1 e1
    have a2 := ownL_at e2
    obtain ⟨a', ea, hBF2, ys, hy, qy⟩ := own_at h2 a2 ev
    cases ea
    have hd0 : d = .list zs := by
      cases d <;> cases ez
      rfl
    subst hd0
    cases q2 with
    | lst rz qz =>
      refine ⟨a, _, ys, _, rfl, rfl, hy, same_rd h2.sb rz, by rw [qy.length, qz.length]; exact hl2, ?_⟩
      exact k B2 _ .non (.d .none) _ (s1.trans s2) (h2.mutate (c' := .l (ds ++ zs)) a2 ev ⟨_, upd_same, qy.append qz⟩) .non w1
theorem de_pop {i : Nat} {x : Str} {p apos cpos : Pos} (hN : S.N[i]? = some x) (hv : Vis S.sc x) (hd : (x == ("__debug__" : Str)) = false := by decide) (hcd : (x == ("__classdict__" : Str)) = false := by decide)
    (hb : ∀ env, attributeBase (.Name x p) "pop" env (eval (.Name x p) env) = eval (.Name x p) env := by intro _; rfl) (hl : (apos.endLine == cpos.line) = true := by rfl) :
    DE S (.Call (.Attribute (.Name x p) "pop" apos) [] [] cpos) (wPop i) := by
  refine ⟨tBM0 S.g.K "list" rPop (tVar i), fun c hc => pe_bm0 (X := S.g.cx c) PySem.F.plainAttrs_list PySem.F.slot_list_pop PySem.F.type_list_pop mt_pop (vis_v hc hN hv hd hcd) (hb _) hl, ⟨fun Ex Ex' δ P P' hx h w => ?_, fun Ex F B H vs σ δ P Q hx h w k => ?_⟩⟩
  · exact w.imp fun _ w => w.imp fun d w => h _ _ w
  · obtain ⟨⟨b, ds⟩, e0, d, ed, w⟩ := w
    have a0 := ownL_at e0
    obtain ⟨v, ev, a, rfl, hBF, xs, hx0, q0⟩ := h.ok i _ a0
    have ed : ds[ds.length - 1]? = some d := ed
    rw [← q0.length] at ed
    obtain ⟨y, ey, qy⟩ := q0.get ed
    refine ⟨_, ev, .inl ⟨rfl, xs, SqL.of hx0⟩, a, xs, y, rfl, rfl, hx0, ey, ?_⟩
    exact k B _ y (.d d) _ (Same.refl _) (h.mutate (c' := .l ds.dropLast) a0 ev ⟨_, upd_same, q0.dropLast⟩) qy w
end

/-! ### o[i] = v -/
def putF (c : Cont) (k : PyData) (d : PyData) : Option Cont := match c with
  | .l ds => match k with
    | .int i => (ixN ds.length i).map fun j => .l (ds.set j d)
    | _ => none
  | .k kvs => if kvs.length < sizeLine then (keyD k).map fun kk => .k (putD kvs kk d) else none
  | _ => none
def ownC (δ : SEnv) (i : Nat) : Option (Bool × Cont) := match δ[i]? with
  | some (some (.o b c)) => some (b, c)
  | _ => none
theorem ownC_at {δ : SEnv} {i : Nat} {b : Bool} {c : Cont} (h : ownC δ i = some (b, c)) : δ[i]? = some (some (.o b c)) := by
  unfold ownC at h
  split at h
  · cases h; assumption
  · cases h
def wPut (i : Nat) (wi wv : WE) : WS := fun d δ => wv d.ex δ fun rv δ1 => ob (frz δ1 rv) fun p => ob (ownC p.2 i) fun _ => wi d.ex p.2 fun ri δ2 => ob (view δ2 ri) fun a => ob (dV a) fun dk => ob (ownC δ2 i) fun q => ob (putF q.2 dk p.1) fun c' => d.nx (δ2.set i (some (.o q.1 c')))
def rPut : TSet := fun o i v H Q => rSetL o i v H Q ∨ rSetD o i v H Q
theorem set_all {X : Cx} (hu : X.A.units + 1 < cLine) : PSet X rPut := by
  intro pins s σ H o i v ov iv u Q I ro ri rv h
  rcases h with h | h
  · exact set_list pins s σ H o i v ov iv u Q I ro ri rv h
  · exact set_dict hu pins s σ H o i v ov iv u Q I ro ri rv h
theorem ds_put {S : Sg} {i : Nat} {x : Str} {ie ve : Expr} {wi wv : WE} {p pos pos' : Pos} (hN : S.N[i]? = some x) (hv : Vis S.sc x) (hi : DE S ie wi) (hw : DE S ve wv) (hd : (x == ("__debug__" : Str)) = false := by decide) (hcd : (x == ("__classdict__" : Str)) = false := by decide)
    (hs : ∀ env, swapsWithSole [.Subscript (.Name x p) ie pos'] ve pos.line env = pure false := by intro _; rfl) (hws : ∀ env, swappedStores [.Subscript (.Name x p) ie pos'] ve env = pure none := by intro _; rfl)
    (hx : ∀ c, S.ok c → ∀ t ti, PE (S.g.cx c) (.Name x p) t → PE (S.g.cx c) ie ti → PG (S.g.cx c) (.Subscript (.Name x p) ie pos') (gSub t ti rPut) := by exact fun c hc t ti h1 h2 => pg_sub h1 h2 (set_all (hu_of hc.room))) :
    DS S (.Assign [.Subscript (.Name x p) ie pos'] ve pos) (wPut i wi wv) := by
  obtain ⟨ti, pi, si⟩ := hi
  obtain ⟨tv, pv, sv⟩ := hw
  refine ⟨tAsg tv (gSub (tVar i) ti rPut), fun c hc => ps_asg (pv c hc) (hx c hc _ _ (vis_v hc hN hv hd hcd) (pi c hc)) (hs _) (hws _), ⟨fun d d' δ h w => ?_, fun F B H vs σ δ D d hx h k w => ?_⟩⟩
  · refine sv.mono _ _ _ _ _ h.ex (fun r δ1 w => w.imp fun p w => w.imp fun _ w => ?_) w
    exact si.mono _ _ _ _ _ h.ex (fun r δ2 w => w.imp fun a w => w.imp fun dk w => w.imp fun q w => w.imp fun c' w => h.nx _ w) w
  · refine sv.run _ _ _ _ _ _ _ _ _ hx h w fun B1 H1 v rv δ1 s1 h1 q1 w1 => ?_
    obtain ⟨⟨dv, δ2⟩, e1, ⟨b0, c0⟩, e0, w1⟩ := w1
    obtain ⟨B2, s2, h2, q2⟩ := frz_ok h1 q1 e1
    obtain ⟨o, eo, p0, rfl, _⟩ := h2.ok i _ (ownC_at e0)
    refine ⟨_, eo, ?_⟩
    refine si.run _ _ _ _ _ _ _ _ _ (hx.up (s1.trans s2)) h2 w1 fun B3 H3 y ri δ3 s3 h3 q3 w3 => ?_
    obtain ⟨a, e2, dk, e3, ⟨b, c⟩, e4, c', e5, w3⟩ := w3
    have a4 := ownC_at e4
    obtain ⟨p1, ep, hBF, qc⟩ := own_at h3 a4 eo
    cases ep
    have ov := view_ok h3 q3 e2
    have q2' := q2.mono s3
    have s123 := (s1.trans s2).trans s3
    cases a with
    | d dk' =>
      cases e3
      cases c with
      | kk _ => simp only [putF] at e5; cases e5
      | ll _ => simp only [putF] at e5; cases e5
      | tp _ => simp only [putF] at e5; cases e5
      | pt _ => simp only [putF] at e5; cases e5
      | fk _ _ => simp only [putF] at e5; cases e5
      | l ds =>
        obtain ⟨ys, hy, qy⟩ := qc
        simp only [putF] at e5
        split at e5
        · obtain ⟨j, e6, e5⟩ := Option.map_eq_some_iff.mp e5
          subst e5
          cases ov_int ov
          exact .inl ⟨p0, ys, _, j, rfl, rfl, hy, by rw [qy.length]; exact e6, k.nx B3 σ _ _ s123 (h3.mutate (c' := .l _) a4 eo ⟨_, upd_same, DDs.set q2' j qy⟩) w3⟩
        · cases e5
      | k kvs =>
        obtain ⟨ys, hy, qy⟩ := qc
        simp only [putF] at e5
        split at e5
        · rename_i hl
          obtain ⟨kk, e6, e5⟩ := Option.map_eq_some_iff.mp e5
          subst e5
          have ey : y = kV kk := by
            rcases ov with ov | ⟨_, _, _, _, z, _⟩
            · exact key_dd e6 ov
            · subst z; cases e6
          subst ey
          exact .inr ⟨p0, _, rfl, DPut.k hy (by rw [kds_length qy]; exact hl), k.nx B3 σ _ _ s123 (h3.mutate (c' := .k _) a4 eo ⟨_, upd_same, kds_put qy q2'⟩) w3⟩
        · cases e5
      | t kvs => cases e5
    | _ => cases e3

/-! ### sep.join(xs) -/
def strsD : List PyData → Option (List Str)
  | [] => some []
  | .str x :: ds => (strsD ds).map fun xs => x :: xs
  | _ => none
theorem strs_dd {B : Hp} : ∀ {ds : List PyData} {xs : List Str} {vs : List V}, strsD ds = some xs → DDs B vs ds → vs = xs.map V.str
  | [], _, _, e, q => by cases e; cases q; rfl
  | d :: ds, _, _, e, q => by
    cases q with
    | cons q1 q2 =>
      cases d with
      | str x =>
        simp only [strsD] at e
        obtain ⟨xs, e1, e⟩ := Option.map_eq_some_iff.mp e
        cases e; cases q1
        rw [strs_dd e1 q2]; rfl
      | _ => cases e
def joinF (a : Str) : PyData → Option Str
  | .list ds => (strsD ds).bind fun ys => if (ys.map (·.length)).sum + ys.length * a.length ≤ 16777216 then some (Txt.join a ys) else none
  | .tuple ds => (strsD ds).bind fun ys => if (ys.map (·.length)).sum + ys.length * a.length ≤ 16777216 then some (Txt.join a ys) else none
  | _ => none
def strV : Vw → Option Str
  | .d (.str x) => some x
  | _ => none
theorem strV_ok {K : PySem.W.Frag} {B H : Hp} {v : V} {w : Vw} {x : Str} (o : OV K B H v w) (e : strV w = some x) : v = .str x := by
  unfold strV at e
  split at e
  · cases e; exact ov_str o
  · cases e
def rJoin (K : PySem.W.Frag) : V → List V → Hp → VK → Prop := fun x xs H Q => ∃ a p, ∃ ys : List Str, x = .str a ∧ xs = [.ref p] ∧ (SqL K H p (ys.map V.str) ∨ SqT K H p (ys.map V.str)) ∧ (ys.map (·.length)).sum + ys.length * a.length ≤ 16777216 ∧ Q (.str (Txt.join a ys)) H
def wJoin (wo wa : WE) : WE := fun Ex δ P => wo Ex δ fun ro δ1 => ob (view δ1 ro) fun a => ob (strV a) fun x => wa Ex δ1 fun r δ2 => ob (view δ2 r) fun b => ob (dV b) fun d => ob (joinF x d) fun y => P (.d (.str y)) δ2
section
variable {S : Sg}
theorem de_join {o e : Expr} {wo wa : WE} {apos pos : Pos} (ho : DE S o wo) (ha : DE S e wa) (hs : ∀ env, starEach [e] env = [(false, eval e env)] := by intro _; rfl) (hb : ∀ env, attributeBase o "join" env (eval o env) = eval o env := by intro _; rfl) (hl : (apos.endLine == pos.line) = true := by rfl) :
    DE S (.Call (.Attribute o "join" apos) [e] [] pos) (wJoin wo wa) := by
  obtain ⟨to', po, so⟩ := ho
  obtain ⟨ta, pa, sa⟩ := ha
  refine ⟨tM1 (rJoin S.g.K) to' ta, fun c hc => pe_join (X := S.g.cx c) (po c hc) (pa c hc) (hs _) (hb _) hl, ⟨fun Ex Ex' δ P P' hx h w => ?_, fun Ex F B H vs σ δ P Q hx h w k => ?_⟩⟩
  · refine so.mono _ _ _ _ _ hx (fun ro δ1 w => w.imp fun a w => w.imp fun x w => ?_) w
    exact sa.mono _ _ _ _ _ hx (fun r δ2 w => w.imp fun b w => w.imp fun d w => w.imp fun y w => h _ _ w) w
  · refine so.run _ _ _ _ _ _ _ _ _ hx h w fun B1 H1 v ro δ1 s1 h1 q1 w1 => ?_
    obtain ⟨a, e1, x, e2, w1⟩ := w1
    cases strV_ok (view_ok h1 q1 e1) e2
    refine ⟨⟨x, rfl⟩, ?_⟩
    refine sa.run _ _ _ _ _ _ _ _ _ (hx.up s1) h1 w1 fun B2 H2 y r δ2 s2 h2 q2 w2 => ?_
    obtain ⟨b, e3, d, e4, z, e5, w2⟩ := w2
    have ov := view_ok h2 q2 e3
    cases b with
    | d d' =>
      cases e4
      unfold joinF at e5
      split at e5
      · obtain ⟨ys, e6, e5⟩ := Option.bind_eq_some_iff.mp e5
        split at e5
        · cases e5
          obtain ⟨p, xs, rfl, hp, qx⟩ := ov_lst h2.sb ov
          have ex := strs_dd e6 qx
          subst ex
          exact ⟨x, p, ys, rfl, rfl, .inl (.inl hp), by assumption, k B2 H2 _ (.d (.str _)) δ2 (s1.trans s2) h2 (.str _) w2⟩
        · cases e5
      · obtain ⟨ys, e6, e5⟩ := Option.bind_eq_some_iff.mp e5
        split at e5
        · cases e5
          obtain ⟨p, xs, rfl, hp, qx⟩ := ov_tup ov
          have ex := strs_dd e6 qx
          subst ex
          exact ⟨x, p, ys, rfl, rfl, .inr (.inl (PlT.mono h2.sb hp).rd), by assumption, k B2 H2 _ (.d (.str _)) δ2 (s1.trans s2) h2 (.str _) w2⟩
        · cases e5
      · cases e5
    | _ => cases e4
end
end DL
set_option Elab.async false
set_option linter.all false
set_option maxRecDepth 100000
set_option maxHeartbeats 4000000
set_option autoImplicit false
namespace DL
open PySem PySem.Spec PyProof.Rows L2

section
variable {S : Sg}
/-! ### name = [.. for ..] -/
theorem ds_setLc {i : Nat} {y : Str} {py : Pos} {elt tg iter : Expr} {ifs : List Expr} {scope : Scope} {own : List (Str × Nat)} {pos spos : Pos} {wi : WI} {G : WG} {wt : WT} {we : WE} {ts : List Nat} (hCX : CXok S.CX) (hy : S.N[i]? = some y) (hyl : S.sc.names.lookup y = some .local) (hk : S.sc.kind = .function)
    (hln : (py.line == pos.line) = true) (hnn : (scope.names.any fun (n, k) => n == y && (k == .local || k == .cell)) = false)
    (hi : DI S tg iter wi) (hblk : blkC S.N S.sc scope own = true) (hg : DG (S.blk scope) tg G ts) (hts : ts.all (fun i => (own.map (·.2)).contains i) = true) (ht : DTs (S.blk scope) ifs wt) (he : DE (S.blk scope) elt we) (hs : ∀ env x, foldedSetIterable iter env x = pure x := by intro _ _; rfl) :
    DS S (.Assign [.Name y py] (.ListComp elt [⟨tg, iter, ifs, 0⟩] scope pos) spos) (wSet i (wLc wi G wt we (own.map (·.2)))) := by
  obtain ⟨ti, pi, si⟩ := hi
  obtain ⟨tg', pg, sg⟩ := hg
  obtain ⟨tt, pt, st⟩ := ht
  obtain ⟨te, pe, se⟩ := he
  have hts' : ∀ i ∈ ts, i ∈ own.map (·.2) := fun i hi => by
    have := List.all_eq_true.mp hts i hi
    simpa using this
  have sl := sim_lc si sg hts' st se
  refine ⟨tAsg (tLc ti tg' tt te (own.map (·.2))) (gName i), fun c hc => ?_, ⟨fun d d' δ h w => sl.mono _ _ _ _ _ h.ex (fun r δ1 w => w.imp fun δ2 w => h.nx _ w) w, fun F B H vs σ δ D d hx h k w => ?_⟩⟩
  · refine ps_setLc (X := S.g.cx c) hc.calm (by show c.N.Nodup; rw [hc.hN]; exact hc.nd) (by show c.N[i]? = _; rw [hc.hN]; exact hy) (by show c.env.scope.names.lookup y = _; rw [hc.hs]; exact hyl) (sw_true (by show c.env.scope.kind = _; rw [hc.hs]; exact hk) (by show c.env.scope.names.lookup y = _; rw [hc.hs]; exact hyl) hln hnn)
      (pi c hc) (by show BlkOk c.N c.env.scope scope own; rw [hc.hN, hc.hs]; exact blkOk_by hblk) (fun s H C cl fp => pg _ (blk_ok hCX hc s H C cl fp)) (fun s H C cl fp => pt _ (blk_ok hCX hc s H C cl fp)) (fun s H C cl fp => pe _ (blk_ok hCX hc s H C cl fp)) (hs _)
  · refine sl.run _ _ _ _ _ _ _ _ _ hx h w fun B1 H1 v r δ1 s1 h1 q1 w1 => ?_
    obtain ⟨δ2, e1, w1⟩ := w1
    obtain ⟨B2, s2, h2⟩ := asgn_ok h1 q1 e1
    exact k.nx B2 _ H1 δ2 (s1.trans s2) h2 w1
/-! ### a, b = x, y -/
def wPar (i j : Nat) (wr : WA) : WS := fun d δ => wr d.ex δ fun rs δ1 => ob (frzs δ1 rs) fun p => ob (match p.1 with | [x, y] => some (x, y) | _ => none) fun q => d.nx ((p.2.set i (some (.d q.1))).set j (some (.d q.2)))
theorem ds_par {i j : Nat} {x y : Str} {a b : Expr} {wr : WA} {px py pt pos : Pos} {kt k2 : Nat} {pt2 : Pos} (hi : S.N[i]? = some x) (hj : S.N[j]? = some y) (hij : i ≠ j) (hx : S.sc.names.lookup x = some .local) (hy : S.sc.names.lookup y = some .local) (ha : DA S [a, b] wr)
    (hw : ∀ env : Env, swappedStores [.Tuple [.Name x px, .Name y py] kt pt] (.Tuple [a, b] k2 pt2) { env with scope := S.sc } = pure (some [x, y]))
    (hs : ∀ env, swapsWithSole [.Tuple [.Name x px, .Name y py] kt pt] (.Tuple [a, b] k2 pt2) pos.line env = pure false := by intro _; rfl)
    :
    DS S (.Assign [.Tuple [.Name x px, .Name y py] kt pt] (.Tuple [a, b] k2 pt2) pos) (wPar i j wr) := by
  obtain ⟨t, p, s⟩ := ha
  refine ⟨tPar i j t, fun c hc => ps_par (X := S.g.cx c) hc.calm (by show c.N.Nodup; rw [hc.hN]; exact hc.nd) (by show c.N[i]? = _; rw [hc.hN]; exact hi) (by show c.N[j]? = _; rw [hc.hN]; exact hj) hij (by show c.env.scope.names.lookup x = _; rw [hc.hs]; exact hx) (by show c.env.scope.names.lookup y = _; rw [hc.hs]; exact hy) (p c hc) (by have q := hw c.env; rw [← hc.hs] at q; exact q) (hs _), ⟨fun d d' δ h w => s.mono _ _ _ _ _ h.ex (fun rs δ1 w => w.imp fun p w => w.imp fun q w => h.nx _ w) w, fun F B H vs σ δ D d hx h k w => ?_⟩⟩
  refine s.run _ _ _ _ _ _ _ _ _ hx h w fun B1 H1 ws rs δ1 s1 h1 q1 w1 => ?_
  obtain ⟨⟨ds, δ2⟩, e1, q, e2, w1⟩ := w1
  obtain ⟨B2, s2, h2, q2⟩ := frzs_ok h1 q1 e1
  split at e2
  · rename_i d1 d2 hd
    cases e2
    have hd : ds = [d1, d2] := hd
    subst hd
    cases q2 with
    | cons qa q2 => cases q2 with
      | cons qb q2 =>
        cases q2
        refine ⟨_, _, rfl, ?_⟩
        have h3 := h2.store i _ (.d d1) qa (fun _ z => nomatch z) (fun a _ c z => nomatch z)
        have h4 := h3.store j _ (.d d2) qb (fun _ z => nomatch z) (fun a _ c z => nomatch z)
        exact k.nx B2 _ H1 _ (s1.trans s2) h4 w1
  · cases e2
/-- a, b = e -/
def wAsg (G : WG) (wa : WE) : WS := fun d δ => wa d.ex δ fun r δ1 => ob (frz δ1 r) fun p => ob (G p.1 p.2) fun δ2 => d.nx δ2
theorem ds_asg {tg e : Expr} {G : WG} {wa : WE} {ts : List Nat} {pos : Pos} (h : DE S e wa) (hg : DG S tg G ts) (hs : ∀ env, swapsWithSole [tg] e pos.line env = pure false := by intro _; rfl) (hw : ∀ c, S.ok c → swappedStores [tg] e c.env = pure none := by intro _ _; rfl) (h1 : ∀ env, (assignEach [tg] env).map (·.2) = [assign tg env] := by intro _; rfl) : DS S (.Assign [tg] e pos) (wAsg G wa) := by
  obtain ⟨t, p, s⟩ := h
  obtain ⟨g, pg, sg⟩ := hg
  refine ⟨tAsg t g, fun c hc => ps_asg (p c hc) (pg c hc) (hs _) (hw c hc) (h1 _), ⟨fun d d' δ h w => s.mono _ _ _ _ _ h.ex (fun r δ1 w => w.imp fun p w => w.imp fun δ2 w => h.nx _ w) w, fun F B H vs σ δ D d hx h k w => ?_⟩⟩
  refine s.run _ _ _ _ _ _ _ _ _ hx h w fun B1 H1 v r δ1 s1 h1 q1 w1 => ?_
  obtain ⟨⟨d0, δ2⟩, e1, δ3, e2, w1⟩ := w1
  obtain ⟨B2, s2, h2, q2⟩ := frz_ok h1 q1 e1
  exact sg.run F B2 H1 vs σ δ2 δ3 v d0 _ h2 q2 e2 fun σ' h3 _ => k.nx B2 σ' H1 δ3 (s1.trans s2) h3 w1
end

/-! ### xs[::-1] -/
theorem adjust_back (n : Nat) : Builtin.Slice.sliceAdjust none none (-1) (n : Int) = ((n : Int) - 1, -1) := rfl
theorem places_back (n : Nat) : Builtin.Slice.slicePlaces ((n : Int) - 1) (-1) (-1) = n := by
  unfold Builtin.Slice.slicePlaces
  rw [if_neg (by decide)]
  by_cases h : n = 0
  · subst h; rfl
  · rw [if_pos (by omega)]
    have : ((n : Int) - 1 - -1 - 1) / (- -1) + 1 = n := by
      rw [show (- -1 : Int) = 1 by decide, Int.ediv_one]; omega
    rw [this]; rfl

section
variable {prog : Program} {w : World} {A : Around} {E : Value → Shared → Prop} {s : Shared}
theorem sliced_back {sl : Addr} {vk : Value} {n : Nat} {Q : Int × Int × Nat → Shared → Prop} (hs : s.heap.IsSliceOf sl .none .none vk) (pk : IsPart vk (some (-1)))
    (h : Q ((n : Int) - 1, -1, n) s) : wpAny (model prog w) A (Builtin.Slice.sliceApplied (.ref sl) (pure (n : Int))) Q E s := by
  obtain ⟨os, hos, hcs, hds⟩ := id hs
  unfold Builtin.Slice.sliceApplied Builtin.Slice.sliceFields
  refine wpAny_bind (wpAny_bind (wpAny_field hos hds (x := .none) rfl (wpAny_bind (wpAny_field hos hds (x := .none) rfl (wpAny_bind (wpAny_field hos hds (x := vk) rfl (wpAny_pure ?_)))))))
  refine wpAny_bind (HT.slicePart_ pk ?_)
  show wpAny _ _ (if ((-1 : Int) == 0) = true then _ else _) _ _ s
  rw [if_neg (by decide)]
  refine wpAny_bind (HT.slicePart_ .none (wpAny_bind (HT.slicePart_ .none (wpAny_bind (wpAny_pure ?_)))))
  show wpAny _ _ (match Builtin.Slice.sliceAdjust none none (-1) (n : Int) with | (lo, hi) => pure (lo, (-1 : Int), Builtin.Slice.slicePlaces lo hi (-1))) _ _ s
  rw [adjust_back n]
  show wpAny _ _ (pure ((n : Int) - 1, (-1 : Int), Builtin.Slice.slicePlaces ((n : Int) - 1) (-1) (-1))) _ _ s
  rw [places_back]
  exact wpAny_pure h
theorem fm_map {α β : Type} {f : α → Option β} {g : α → β} : ∀ {l : List α}, (∀ m ∈ l, f m = some (g m)) → l.filterMap f = l.map g
  | [], _ => rfl
  | a :: l, h => by
    rw [List.filterMap_cons, h a (List.mem_cons_self ..), List.map_cons, fm_map fun m hm => h m (List.mem_cons_of_mem _ hm)]
theorem pick_back (xs : List Value) : (((List.range xs.length).filterMap fun (m : Nat) => xs.toArray[(((xs.length : Nat) : Int) - 1 + (m : Int) * (-1)).toNat]?)) = xs.reverse := by
  refine List.ext_getElem? fun j => ?_
  have e : ((List.range xs.length).filterMap fun (m : Nat) => xs.toArray[(((xs.length : Nat) : Int) - 1 + (m : Int) * (-1)).toNat]?) = (List.range xs.length).map fun m => xs[xs.length - 1 - m]?.getD .none := by
    refine fm_map fun m hm => ?_
    have hm := List.mem_range.mp hm
    have e1 : (((xs.length : Nat) : Int) - 1 + (m : Int) * (-1)).toNat = xs.length - 1 - m := by omega
    rw [e1, List.getElem?_toArray, List.getElem?_eq_getElem (by omega)]
    rfl
  rw [e, List.getElem?_map]
  by_cases hj : j < xs.length
  · rw [List.getElem?_range hj, List.getElem?_reverse hj, Option.map_some, List.getElem?_eq_getElem (by omega)]
    rfl
  · rw [List.getElem?_eq_none (by rw [List.length_range]; omega), List.getElem?_eq_none (by rw [List.length_reverse]; omega)]
    rfl
theorem getItem_tuple_back {t sl : Addr} {items : List Value} {vk : Value} {Q : Value → Shared → Prop} (ht : IsTup s.heap t items.toArray) (hs : s.heap.IsSliceOf sl .none .none vk) (pk : IsPart vk (some (-1)))
    (h : Q (.ref s.heap.objs.size) { s with heap := s.heap.push { cls := .type "tuple", data := .seq items.reverse.toArray } })
    (hsz : items.length ≤ sizeLine) : wpAny (model prog w) A (getItem (.ref t) (.ref sl)) Q E s := by
  have htake : sizeOk (.seq items.reverse.toArray) := by
    show items.reverse.toArray.size ≤ sizeLine
    rw [List.size_toArray, List.length_reverse]
    exact hsz
  obtain ⟨os, hos, hcs, hds⟩ := id hs
  have hTs : s.TypeIs (.ref sl) "slice" := ⟨os, hos, hcs⟩
  unfold getItem
  try with_reducible refine wpAny_holding ?_
  first | refine wpAny_bind (wpAny_pure ?_) | skip
  refine wpAny_bind (wpAny_sequenceKey ht.typeIs (by decide) ?_)
  refine wpAny_bind (wpAny_callSpecial?_slot (name := Str.ofString "__getitem__") ht.typeIs PyProof.Rows.slot_tuple_getitem
    (wpAny_call_entry PyProof.Rows.slot_tuple_getitem ht.typeIs entry_tuple_getitem ?_ (args_tuple_getitem _ _)))
  show wpAny _ _ (Builtin.Tuple.tupleItemsOf (.ref t) >>= _) _ _ s
  refine wpAny_bind (PyProof.Rows.tupleItemsOf_ ht ?_)
  refine wpAny_bind (wpAny_typeOf hTs ?_)
  rw [if_pos (by decide)]
  refine wpAny_bind (sliced_back (n := items.toArray.size) hs pk ?_)
  have hno : ¬ ((((items.toArray.size : Int) - 1) == 0 && (-1 : Int) == 1 && items.toArray.size == items.toArray.size) = true) := by
    intro q
    rw [Bool.and_eq_true, Bool.and_eq_true] at q
    exact absurd q.1.2 (by decide)
  show wpAny _ _ (if (((items.toArray.size : Int) - 1) == 0 && (-1 : Int) == 1 && items.toArray.size == items.toArray.size) = true then _ else _) _ _ s
  rw [if_neg hno]
  have hp : ((List.range items.toArray.size).filterMap fun (m : Nat) => items.toArray[((items.toArray.size : Int) - 1 + (m : Int) * (-1)).toNat]?).toArray = items.reverse.toArray := by
    rw [List.size_toArray, pick_back]
  rw [hp]
  first
    | exact wpAny_bind (m := Builtin.Tuple.tupleExact _) (wpAny_newObj_type (wpAny_pure ⟨_, rfl, wpAny_pure h⟩) htake)
    | exact wpAny_bind (m := Builtin.Tuple.tupleExact _) (wpAny_newObj_type (wpAny_bind (wpAny_pure (wpAny_pure ⟨_, rfl, wpAny_pure h⟩))) htake)
    | exact wpAny_bind (wpAny_bind (m := Builtin.Tuple.tupleExact _) (wpAny_newObj_type (wpAny_pure (wpAny_pure ⟨_, rfl, wpAny_pure h⟩)) htake))
    | exact wpAny_bind (wpAny_bind (m := Builtin.Tuple.tupleExact _) (wpAny_newObj_type (wpAny_pure ⟨_, rfl, wpAny_pure h⟩) htake))
end
/-! data backwards -/
def revF : Vw → Option Rv
  | .d (.list ds) => some (.lst ds.reverse)
  | .d (.tuple ds) => some (.tup ds.reverse)
  | _ => none
def rRev (K : PySem.W.Frag) : V → Hp → VK → Prop := fun x H Q => ∃ B a rv, Same B H ∧ OV K B H x a ∧ revF a = some rv ∧ RvK B H Q rv
def tRv (K : PySem.W.Frag) (te : TE) : TE := fun σ H Q => te σ H fun x H1 => rRev K x H1 Q
theorem pe_rv {X : Cx} {e : Expr} {te : TE} {k : Nat} {p1 p2 p3 pos : Pos} (he : PE X e te) : PE X (.Subscript e (.Slice none none (some (.UnaryOp .USub (.Constant (.int 1) k p1) p2)) p3) pos) (tRv X.K te) := by
  refine ⟨fun pins s σ H Q I h => ?_⟩
  refine Subscript_ (thn (he.run pins s σ H _ I h) fun v s1 ⟨x, H1, I1, rx, q1⟩ => ?_)
  have hst : PO X (some (.UnaryOp .USub (.Constant (.int 1) k p1) p2)) (tPart (tUn (rU fun i => .int (-i)) (tC (.int 1)))) := po_some (pe_un un_neg pe_int)
  refine wpAny_Slice (thn (po_none.run pins s1 σ H1 (fun o H2 => o = none ∧ H2 = H1) I1 ⟨rfl, rfl⟩) fun vl s2 ⟨l, H2, I2, pl, el, e2⟩ => ?_)
  subst el e2
  refine thn (po_none.run pins s2 σ H2 (fun o H3 => o = none ∧ H3 = H2) I2 ⟨rfl, rfl⟩) fun vu s3 ⟨u, H3, I3, pu, eu, e3⟩ => ?_
  subst eu e3
  refine thn (hst.run pins s3 σ H3 (fun o H4 => o = some (-1) ∧ H4 = H3) I3 ⟨1, rfl, -1, rfl, rfl, rfl⟩) fun vs s4 ⟨o, H4, I4, ps, eo, e4⟩ => ?_
  subst eo e4
  have I5 : Inv X pins σ H4 { s4 with heap := s4.heap.push { cls := .type "slice", data := .fields #[vl, vu, vs] } } := I4.kept (t' := s4.toks) fun b ob q => Heap.get?_push_of_some _ q
  show wpAny (model X.prog X.w) X.A (subscriptTail e (.Slice none none (some (.UnaryOp .USub (.Constant (.int 1) k p1) p2)) p3) v (.ref s4.heap.objs.size)) (EP X pins σ Q) X.xe { s4 with heap := s4.heap.push { cls := .type "slice", data := .fields #[vl, vu, vs] } }
  obtain ⟨B, a, rv, sB, oa, er, kk⟩ := q1
  unfold revF at er
  split at er
  · cases er
    obtain ⟨p, xs, rfl, hp, qx⟩ := ov_lst sB oa
    cases rx
    obtain ⟨its, r, ht, hz⟩ := I5.list (a := p) (.inl hp)
    have hlen := r.length
    refine tail_any (ops := [.ref _, .ref s4.heap.objs.size]) ht.isList.typeIs (PySem.slot_list_getitem.lookup) ?_ (by with_unfolding_all rfl)
    refine wpAny_getItem_list_slice ht.isList (Heap.IsSliceOf.new _ vl vu vs) pl pu ps (by decide) ?_ (by rw [List.size_toArray]; omega)
    rw [PySem.W.krv_pick]
    refine ⟨.ref _, _, I5.laid (t' := s4.toks) (o := .lst xs.reverse) (fun b ob q => Heap.get?_push_of_some _ q) (Nat.le_refl _) ?_, rfl, kk _ _ (I5.hok.fresh (Nat.le_refl _)) qx.reverse⟩
    exact ⟨by rw [List.length_reverse]; exact hz, _, 0, r.reverse, Heap.get?_push_size _ rfl⟩
  · cases er
    obtain ⟨p, xs, rfl, hp, qx⟩ := ov_tup oa
    cases rx
    obtain ⟨its, r, ht, hz⟩ := I5.tuple (.inl (PlT.mono sB hp).rd)
    have hlen := r.length
    refine tail_any (ops := [.ref _, .ref s4.heap.objs.size]) ht.typeIs (PyProof.Rows.slot_tuple_getitem.lookup) ?_ (by with_unfolding_all rfl)
    cases pl; cases pu
    refine getItem_tuple_back ht (Heap.IsSliceOf.new ..) ps ?_ (by omega)
    refine ⟨.ref _, _, I5.laid (t' := s4.toks) (o := .frz _ (.tup xs.reverse)) (fun b ob q => Heap.get?_push_of_some _ q) (Nat.le_refl _) ⟨Heap.get?_push_size _ rfl, (show ObjOk X.prog X.w _ _ _ (.tup xs.reverse) from ?_)⟩, rfl, kk.2 _ _ _ (I5.hok.fresh (Nat.le_refl _)) rfl rfl qx.reverse⟩
    exact ⟨by rw [List.length_reverse]; exact hz, _, r.reverse, IsTup.new _ _⟩
  · cases er
def wRev (wa : WE) : WE := fun Ex δ P => wa Ex δ fun ra δ1 => ob (view δ1 ra) fun a => ob (revF a) fun rv => P rv.r δ1
section
variable {S : Sg}
theorem de_rev {a : Expr} {wa : WE} {k : Nat} {p1 p2 p3 pos : Pos} (ha : DE S a wa) : DE S (.Subscript a (.Slice none none (some (.UnaryOp .USub (.Constant (.int 1) k p1) p2)) p3) pos) (wRev wa) := by
  obtain ⟨ta, pa, sa⟩ := ha
  refine ⟨tRv S.g.K ta, fun c hc => pe_rv (X := S.g.cx c) (pa c hc), ⟨fun Ex Ex' δ P P' hx h w => ?_, fun Ex F B H vs σ δ P Q hx h w k => ?_⟩⟩
  · exact sa.mono _ _ _ _ _ hx (fun r δ1 w => w.imp fun a w => w.imp fun rv w => h _ _ w) w
  · refine sa.run _ _ _ _ _ _ _ _ _ hx h w fun B1 H1 x ra δ1 s1 h1 q1 w1 => ?_
    obtain ⟨a, e1, rv, e2, w1⟩ := w1
    exact ⟨B1, a, rv, h1.sb, view_ok h1 q1 e1, e2, rvk_ok s1 h1 w1 k⟩
end
end DL
set_option Elab.async false
set_option linter.all false
set_option maxRecDepth 100000
set_option maxHeartbeats 4000000
set_option autoImplicit false
namespace DL
open PySem PySem.Spec PyProof.Rows L2

/-! ### a def by its name -/
def Cal (g : Gx) (CX : CXT) (k : Nat) (x : Str) (ps : List Str) (W : FSpec) : Prop :=
  ∃ (f : Addr) (fd : FuncData), FnG g CX k f fd ps (spOf g.K ps.length W) ∧ g.mg x = some (.ref f) ∧ PySem.W.keepIn g.K (.ref f) = true ∧ Binds g.K fd ps []
theorem Cal.mono {g : Gx} {CX : CXT} {j k : Nat} {x : Str} {ps : List Str} {W : FSpec} (h : Cal g CX j x ps W) (l : j ≤ k) : Cal g CX k x ps W := by
  obtain ⟨f, fd, F, m, q, b⟩ := h
  exact ⟨f, fd, F.mono l, m, q, b⟩
theorem Cal.imp {g : Gx} {CX : CXT} {k : Nat} {x : Str} {ps : List Str} {W W' : FSpec} (h : Cal g CX k x ps W) (l : ∀ ss Ex P, W' ss Ex P → W ss Ex P) : Cal g CX k x ps W' := by
  obtain ⟨f, fd, F, m, q, b⟩ := h
  exact ⟨f, fd, spOf_imp F l, m, q, b⟩
section
variable {S : Sg}
theorem de_cal {n : Nat} {W : FSpec} {ms : List Bool} {wr : WA} {x : Str} {ps : List Str} {p pos : Pos} {e : Expr} {es : List Expr} (h : Cal S.g S.CX S.k x ps W) (hW : FMono W) (hg : GlS S.sc x) (ha : DA S (e :: es) wr)
    (hs : ∀ env, starEach (e :: es) env = (false, eval e env) :: starEach es env := by intro _; rfl) (hpl : ∀ env, (backTo pos (starEach es env)).any (·.1) = false := by intro _; rfl) (hdb : (x == ("__debug__" : Str)) = false := by decide) (hn : ps.length = n := by rfl) :
    DE S (.Call (.Name x p) (e :: es) [] pos) (wCall n W ms wr) := by
  subst hn
  obtain ⟨f, fd, F, m, q, b⟩ := h
  exact de_call hW F (Nat.le_refl _) hg m q b ha hs hpl hdb
end
/-! ### what a def promises: `pre` of what it is given, `post` of what it answers and leaves -/
def Ct (pre : List Sl → Prop) (post : List Sl → R → List Sl → Prop) : FSpec := fun ss _ P => pre ss ∧ ∀ r ss', post ss r ss' → P r ss'
theorem ct_mono {pre : List Sl → Prop} {post : List Sl → R → List Sl → Prop} : FMono (Ct pre post) := fun ss Ex Ex' P P' _ hp ⟨h1, h2⟩ => ⟨h1, fun r ss' q => hp _ _ (h2 r ss' q)⟩
/-! ### a def that stands at the top -/
def Got (g : Gx) (x : Str) (st : Stmt) : Prop := ∃ (f : Addr) (fd : FuncData), g.mg x = some (.ref f) ∧ Fun g.K x x st f fd
/-- nothing is asked, nothing is promised -/
theorem cal_void {g : Gx} {CX : CXT} {k : Nat} {x : Str} {st : Stmt} {ps : List Str} {W : FSpec} (h : Got g x st) (bd : ∀ f fd, Fun g.K x x st f fd → Binds g.K fd ps []) (no : ∀ ss Ex P, ¬ W ss Ex P) : Cal g CX k x ps W := by
  obtain ⟨f, fd, m, F⟩ := h
  refine ⟨f, fd, ⟨fun vs H Q E ⟨_, _, _, ss, Ex, P, _, _, w, _⟩ => absurd w (no ss Ex P), fun A outer sh H args us vs Q E _ _ _ _ _ ⟨_, _, _, ss, Ex, P, _, _, w, _⟩ => absurd w (no ss Ex P)⟩, m, F.kp, bd f fd F⟩
theorem got_mk {P : Program} {w : World} {K : PySem.W.Frag} {mg : Str → Option Value} {base h : Heap} (X : K.In h) (G : h.Ns mainGlobals mg) {x : Str} {st : Stmt} {f : Addr} {oc : Value} {od an : Option Addr} {osl : Array (Option Value)} {kV doc pm cdv ct : Value}
    (a : PySem.W.nsIn K mainGlobals x = some (some (.ref f))) (l : K.lookup f = some ⟨oc, od, .func (PySem.W.fnOf x x (defArgs st) (defBody st) (defScope st) .none kV doc pm an cdv ct), osl⟩)
    (c : PySem.W.codeIn K cdv x = true) (k : PySem.W.keepIn K (.ref f) = true) : Got ⟨P, w, K, mg, base⟩ x st := ⟨f, _, PySem.W.mg_of X G a, fun_mk l c k⟩
end DL
set_option Elab.async false
set_option linter.all false
set_option maxRecDepth 100000
set_option maxHeartbeats 4000000
set_option autoImplicit false
set_option exponentiation.threshold 4000
namespace DL
open PySem PySem.Spec PyProof.Rows L2

/-! ### data of bounded numbers, depth and bulk -/
mutual
def intsB (N : Nat) : PyData → Bool
  | .none | .bool _ | .str _ => true
  | .int i => decide (i.natAbs ≤ N)
  | .list xs | .tuple xs => intsBs N xs
  | .dict _ => false
def intsBs (N : Nat) : List PyData → Bool
  | [] => true
  | x :: xs => intsB N x && intsBs N xs
end
structure Nd (N D : Nat) (d : PyData) : Prop where
  lay : d.canLay0 = true
  nums : intsB N d = true
  dep : d.depth ≤ D
def Nds (N D : Nat) (xs : List PyData) : Prop := ∀ x ∈ xs, Nd N D x
theorem lay_all : ∀ {xs : List PyData}, PyData.canLayAll0 xs = true ↔ ∀ x ∈ xs, x.canLay0 = true
  | [] => by simp [PyData.canLayAll0]
  | x :: xs => by simp [PyData.canLayAll0, lay_all (xs := xs)]
theorem ints_all {N : Nat} : ∀ {xs : List PyData}, intsBs N xs = true ↔ ∀ x ∈ xs, intsB N x = true
  | [] => by simp [intsBs]
  | x :: xs => by simp [intsBs, ints_all (xs := xs)]
theorem dep_all {D : Nat} : ∀ {xs : List PyData}, PyData.depthAll xs ≤ D ↔ ∀ x ∈ xs, x.depth ≤ D
  | [] => by simp [PyData.depthAll]
  | x :: xs => by simp [PyData.depthAll, dep_all (xs := xs), Nat.max_le]
section
variable {N D : Nat}
theorem nd_none : Nd N D .none := ⟨rfl, rfl, Nat.zero_le _⟩
theorem nd_bool {b : Bool} : Nd N D (.bool b) := ⟨rfl, rfl, Nat.zero_le _⟩
theorem nd_int {i : Int} (h : i.natAbs ≤ N) : Nd N D (.int i) := ⟨rfl, by simp [intsB, h], Nat.zero_le _⟩
theorem nd_str {x : Str} (h : PyData.strOk x = true) : Nd N D (.str x) := ⟨by simp [PyData.canLay0, h], rfl, Nat.zero_le _⟩
theorem nd_tup {xs : List PyData} (h : Nds N D xs) : Nd N (D + 1) (.tuple xs) :=
  ⟨by simp only [PyData.canLay0]; exact lay_all.mpr fun x m => (h x m).lay, by simp only [intsB]; exact ints_all.mpr fun x m => (h x m).nums, by simp only [PyData.depth]; exact Nat.succ_le_succ (dep_all.mpr fun x m => (h x m).dep)⟩
theorem nd_lst {xs : List PyData} (h : Nds N D xs) : Nd N (D + 1) (.list xs) :=
  ⟨by simp only [PyData.canLay0]; exact lay_all.mpr fun x m => (h x m).lay, by simp only [intsB]; exact ints_all.mpr fun x m => (h x m).nums, by simp only [PyData.depth]; exact Nat.succ_le_succ (dep_all.mpr fun x m => (h x m).dep)⟩
theorem Nd.tup {xs : List PyData} (h : Nd N (D + 1) (.tuple xs)) : Nds N D xs := fun x m =>
  ⟨lay_all.mp (by simpa only [PyData.canLay0] using h.lay) x m, ints_all.mp (by simpa only [intsB] using h.nums) x m, dep_all.mp (Nat.le_of_succ_le_succ (by simpa only [PyData.depth] using h.dep)) x m⟩
theorem Nd.lst {xs : List PyData} (h : Nd N (D + 1) (.list xs)) : Nds N D xs := fun x m =>
  ⟨lay_all.mp (by simpa only [PyData.canLay0] using h.lay) x m, ints_all.mp (by simpa only [intsB] using h.nums) x m, dep_all.mp (Nat.le_of_succ_le_succ (by simpa only [PyData.depth] using h.dep)) x m⟩
theorem Nd.pos {xs : List PyData} (h : Nd N D (.tuple xs)) : ∃ D', D = D' + 1 := by
  have := h.dep
  simp only [PyData.depth] at this
  exact ⟨D - 1, by omega⟩
theorem Nd.int {i : Int} (h : Nd N D (.int i)) : i.natAbs ≤ N := by simpa [intsB] using h.nums
theorem Nd.str {x : Str} (h : Nd N D (.str x)) : PyData.strOk x = true := by simpa [PyData.canLay0] using h.lay
mutual
theorem intsB_mono {N' : Nat} (h : N ≤ N') : ∀ d : PyData, intsB N d = true → intsB N' d = true
  | .none, _ => rfl
  | .bool _, _ => rfl
  | .str _, _ => rfl
  | .int i, e => by simp only [intsB, decide_eq_true_eq] at *; omega
  | .list xs, e => by simp only [intsB] at *; exact intsBs_mono h xs e
  | .tuple xs, e => by simp only [intsB] at *; exact intsBs_mono h xs e
  | .dict _, e => by simp [intsB] at e
theorem intsBs_mono {N' : Nat} (h : N ≤ N') : ∀ xs : List PyData, intsBs N xs = true → intsBs N' xs = true
  | [], _ => rfl
  | x :: xs, e => by
    simp only [intsBs, Bool.and_eq_true] at *
    exact ⟨intsB_mono h x e.1, intsBs_mono h xs e.2⟩
end
theorem Nd.mono {N' D' : Nat} {d : PyData} (h : Nd N D d) (h1 : N ≤ N') (h2 : D ≤ D') : Nd N' D' d := ⟨h.lay, intsB_mono h1 d h.nums, Nat.le_trans h.dep h2⟩
theorem Nds.mono {N' D' : Nat} {xs : List PyData} (h : Nds N D xs) (h1 : N ≤ N') (h2 : D ≤ D') : Nds N' D' xs := fun x m => (h x m).mono h1 h2
theorem nds_nil : Nds N D [] := fun _ m => by cases m
theorem nds_cons {x : PyData} {xs : List PyData} (h : Nd N D x) (r : Nds N D xs) : Nds N D (x :: xs) := fun y m => by
  rcases List.mem_cons.mp m with rfl | m
  · exact h
  · exact r y m
theorem Nds.append {xs ys : List PyData} (h : Nds N D xs) (r : Nds N D ys) : Nds N D (xs ++ ys) := fun y m => (List.mem_append.mp m).elim (h y) (r y)
theorem Nds.sub {xs ys : List PyData} (h : Nds N D xs) (s : ∀ y ∈ ys, y ∈ xs) : Nds N D ys := fun y m => h y (s y m)
theorem nd_shaped {d : PyData} (h : Nd N D d) (hD : D ≤ 64) : SeqAt.shaped d = true := by
  unfold SeqAt.shaped
  rw [h.lay, Bool.true_and]
  exact decide_eq_true (Nat.le_trans h.dep hD)
end
theorem log_lt {a : Nat} (h : a < 2 ^ 1920) : a.log2 < 1920 := by
  by_cases h0 : a = 0
  · subst h0; decide
  · exact (Nat.log2_lt h0).mpr h
mutual
theorem intsB_show {N : Nat} (h : N < 2 ^ 1920) : ∀ d : PyData, d.canLay0 = true → intsB N d = true → d.showable = true ∧ d.hasDict = false
  | .none, _, _ => ⟨rfl, rfl⟩
  | .bool _, _, _ => ⟨rfl, rfl⟩
  | .str _, _, _ => ⟨rfl, rfl⟩
  | .int i, _, e => by
    simp only [intsB, decide_eq_true_eq] at e
    exact ⟨by simp only [PyData.showable, decide_eq_true_eq]; exact log_lt (by omega), rfl⟩
  | .list xs, l, e => by simp only [intsB, PyData.canLay0, PyData.showable, PyData.hasDict] at *; exact intsBs_show h xs l e
  | .tuple xs, l, e => by simp only [intsB, PyData.canLay0, PyData.showable, PyData.hasDict] at *; exact intsBs_show h xs l e
  | .dict _, _, e => by simp [intsB] at e
theorem intsBs_show {N : Nat} (h : N < 2 ^ 1920) : ∀ xs : List PyData, PyData.canLayAll0 xs = true → intsBs N xs = true → PyData.showableAll xs = true ∧ PyData.hasDictAll xs = false
  | [], _, _ => ⟨rfl, rfl⟩
  | x :: xs, l, e => by
    simp only [intsBs, PyData.canLayAll0, PyData.showableAll, PyData.hasDictAll, Bool.and_eq_true, Bool.or_eq_false_iff] at *
    have a := intsB_show h x l.1 e.1
    have b := intsBs_show h xs l.2 e.2
    exact ⟨⟨a.1, b.1⟩, a.2, b.2⟩
end
theorem int_shown {i : Int} {k : Nat} (hk : 0 < k) (h : i.natAbs < 10 ^ k) : (PyData.shown (.int i)).length ≤ k + 1 := by
  have := int_text_length_le10 hk h
  simp only [PyData.shown]
  rw [PySem.ofString_length]
  exact this
mutual
theorem leaves_short {N k : Nat} (hk : 0 < k) (h : N < 10 ^ k) : ∀ d : PyData, d.canLay0 = true → intsB N d = true → d.leavesShort (k + 1) = true
  | .none, _, _ => rfl
  | .bool _, _, _ => rfl
  | .str x, l, _ => PyData.leavesShort_of_canLay0 (k + 1) (.str x) l rfl
  | .int i, _, e => by
    simp only [intsB, decide_eq_true_eq] at e
    simp only [PyData.leavesShort, decide_eq_true_eq]
    exact int_shown hk (by omega)
  | .list xs, l, e => by simp only [intsB, PyData.canLay0, PyData.leavesShort] at *; exact leaves_shorts hk h xs l e
  | .tuple xs, l, e => by simp only [intsB, PyData.canLay0, PyData.leavesShort] at *; exact leaves_shorts hk h xs l e
  | .dict _, _, e => by simp [intsB] at e
theorem leaves_shorts {N k : Nat} (hk : 0 < k) (h : N < 10 ^ k) : ∀ xs : List PyData, PyData.canLayAll0 xs = true → intsBs N xs = true → PyData.leavesShortAll (k + 1) xs = true
  | [], _, _ => rfl
  | x :: xs, l, e => by
    simp only [intsBs, PyData.canLayAll0, PyData.leavesShortAll, Bool.and_eq_true] at *
    exact ⟨leaves_short hk h x l.1 e.1, leaves_shorts hk h xs l.2 e.2⟩
end
theorem ten_two : (10 : Nat) ^ 200 < 2 ^ 1920 := by
  refine Nat.lt_of_lt_of_le (Nat.pow_lt_pow_left (by decide : 10 < 16) (by decide)) ?_
  rw [show (16 : Nat) = 2 ^ 4 from rfl, ← Nat.pow_mul]
  exact Nat.pow_le_pow_right (by decide) (by decide)
theorem nd_show {N D b : Nat} {d : PyData} (h : Nd N D d) (hN : N < 10 ^ 200) (hD : D ≤ 60) (hb : d.bulk ≤ b) (hb2 : b ≤ 80000) : showOk d = true := by
  have h1 := intsB_show (N := N) (Nat.lt_trans hN ten_two) d h.lay h.nums
  have h2 := PyData.shown_le_bulk 201 (by decide) d (leaves_short (by decide) hN d h.lay h.nums)
  have h3 : d.shown.length ≤ sizeLine := by
    have e : sizeLine = 16777216 := by decide
    have e2 : (201 + 2) * d.bulk ≤ 203 * 80000 := Nat.mul_le_mul (by decide) (by omega)
    omega
  unfold showOk
  rw [h1.1, h1.2, decide_eq_true h3, decide_eq_true (Nat.le_trans h.dep hD)]
  rfl
/-! bulk -/
theorem bulk_app : ∀ xs ys : List PyData, PyData.bulkAll (xs ++ ys) = PyData.bulkAll xs + PyData.bulkAll ys
  | [], ys => by simp [PyData.bulkAll]
  | x :: xs, ys => by simp only [List.cons_append, PyData.bulkAll, bulk_app xs ys]; omega
theorem bulk_mem : ∀ {xs : List PyData} {x : PyData}, x ∈ xs → x.bulk + 1 ≤ PyData.bulkAll xs
  | [], _, m => by cases m
  | y :: xs, x, m => by
    rcases List.mem_cons.mp m with rfl | m
    · simp only [PyData.bulkAll]; omega
    · have := bulk_mem m; simp only [PyData.bulkAll]; omega
theorem bulk_len : ∀ xs : List PyData, xs.length ≤ PyData.bulkAll xs
  | [] => Nat.zero_le _
  | x :: xs => by have := bulk_len xs; simp only [PyData.bulkAll, List.length_cons]; omega
theorem bulk_rev : ∀ xs : List PyData, PyData.bulkAll xs.reverse = PyData.bulkAll xs
  | [] => rfl
  | x :: xs => by rw [List.reverse_cons, bulk_app, bulk_rev xs]; simp only [PyData.bulkAll]; omega
theorem bulk_take (k : Nat) (xs : List PyData) : PyData.bulkAll (xs.take k) ≤ PyData.bulkAll xs := by
  have := bulk_app (xs.take k) (xs.drop k)
  rw [List.take_append_drop] at this
  omega
theorem bulk_drop (k : Nat) (xs : List PyData) : PyData.bulkAll (xs.drop k) ≤ PyData.bulkAll xs := by
  have := bulk_app (xs.take k) (xs.drop k)
  rw [List.take_append_drop] at this
  omega
theorem bulk_cut (xs : List PyData) (lo hi : Option Int) : PyData.bulkAll (cutL xs lo hi) ≤ PyData.bulkAll xs := Nat.le_trans (bulk_take _ _) (bulk_drop _ _)
theorem cut_mem {α : Type} {xs : List α} {lo hi : Option Int} {x : α} (h : x ∈ cutL xs lo hi) : x ∈ xs := List.mem_of_mem_drop (List.mem_of_mem_take h)
end DL
set_option Elab.async false
set_option linter.all false
set_option maxRecDepth 100000
set_option maxHeartbeats 4000000
set_option autoImplicit false
namespace DL
open PySem PySem.Spec PyProof.Rows L2

theorem ifT {c : Bool} {A B : Prop} (h : c = true) (a : A) : if c = true then A else B := by rw [if_pos h]; exact a
theorem ifF {c : Bool} {A B : Prop} (h : c = false) (b : B) : if c = true then A else B := by rw [if_neg (by rw [h]; decide)]; exact b
/-! ### turns by an invariant: what is gone through, what is gathered, how the slots stand -/
theorem lc_inv {G : WG} {wt : WT} {we : WE} {own : List Nat} {ds : List PyData} {P : List PyData → SEnv → Prop} (I : List PyData → List PyData → SEnv → Prop) (fin : ∀ acc δ, I ds acc δ → P acc δ)
    (step : ∀ (pre : List PyData) (x : PyData) (post acc : List PyData) (δ : SEnv) (Q : List PyData → SEnv → Prop), ds = pre ++ x :: post → I pre acc δ → (∀ acc' δ', I (pre ++ [x]) acc' δ' → Q acc' δ') →
      ob (G x (forgetAll δ own)) fun δ1 => wt Ex0 δ1 fun b δ2 => if b = true then we Ex0 δ2 fun r δ3 => ob (frz δ3 r) fun p => acc.length < sizeLine ∧ Q (acc ++ [p.1]) p.2 else Q acc δ2) :
    ∀ {δ : SEnv}, I [] [] δ → wLcR G wt we own ds [] δ P := by
  have go : ∀ (post pre acc : List PyData) (δ : SEnv), ds = pre ++ post → I pre acc δ → wLcR G wt we own post acc δ P := by
    intro post
    induction post with
    | nil =>
      intro pre acc δ e h
      rw [List.append_nil] at e
      subst e
      exact fin _ _ h
    | cons x post ih =>
      intro pre acc δ e h
      exact step pre x post acc δ (fun acc' δ' => wLcR G wt we own post acc' δ' P) e h fun acc' δ' h' => ih (pre ++ [x]) acc' δ' (by rw [e, List.append_assoc]; rfl) h'
  intro δ h
  exact go ds [] [] δ rfl h
theorem for_inv {G : WG} {body : WS} {ds : List PyData} {d : DEnds} (I : List PyData → SEnv → Prop) (fin : ∀ δ, I ds δ → d.nx δ)
    (step : ∀ (pre : List PyData) (x : PyData) (post : List PyData) (δ : SEnv) (Q : SEnv → Prop), ds = pre ++ x :: post → I pre δ → (∀ δ', I (pre ++ [x]) δ' → Q δ') → ob (G x δ) fun δ1 => body { d with nx := Q, bk := d.nx, ct := Q } δ1) :
    ∀ {δ : SEnv}, I [] δ → wForR G body ds d δ := by
  have go : ∀ (post pre : List PyData) (δ : SEnv), ds = pre ++ post → I pre δ → wForR G body post d δ := by
    intro post
    induction post with
    | nil =>
      intro pre δ e h
      rw [List.append_nil] at e
      subst e
      exact fin _ h
    | cons x post ih =>
      intro pre δ e h
      exact step pre x post δ (wForR G body post d) e h fun δ' h' => ih (pre ++ [x]) δ' (by rw [e, List.append_assoc]; rfl) h'
  intro δ h
  exact go ds [] δ rfl h
/-- a list by a pure rule: those that are kept, each as it is written -/
theorem lc_pure {G : WG} {wt : WT} {we : WE} {own : List Nat} {ds : List PyData} {P : List PyData → SEnv → Prop} {δ δf : SEnv} (p : PyData → Bool) (f : PyData → PyData) (h0 : forgetAll δ own = δf) (hl : ds.length ≤ sizeLine)
    (step : ∀ x ∈ ds, ∀ (Q : R → SEnv → Prop) (Q' : SEnv → Prop), (p x = true → ∀ δ1, forgetAll δ1 own = δf → Q (.d (f x)) δ1) → (p x = false → ∀ δ1, forgetAll δ1 own = δf → Q' δ1) →
      ob (G x δf) fun δ1 => wt Ex0 δ1 fun b δ2 => if b = true then we Ex0 δ2 Q else Q' δ2)
    (k : ∀ δ', forgetAll δ' own = δf → P ((ds.filter p).map f) δ') : wLcR G wt we own ds [] δ P := by
  refine lc_inv (fun pre acc δ => acc = (pre.filter p).map f ∧ forgetAll δ own = δf) (fun acc δ ⟨e, h⟩ => by subst e; exact k δ h) (fun pre x post acc δ Q e ⟨ea, h⟩ hQ => ?_) ⟨rfl, h0⟩
  rw [h]
  have hx : x ∈ ds := by rw [e]; exact List.mem_append_right _ (List.mem_cons_self ..)
  have hlen : acc.length < sizeLine := by
    have h1 : acc.length ≤ pre.length := by rw [ea, List.length_map]; exact List.length_filter_le _ _
    have h2 : pre.length < ds.length := by rw [e, List.length_append, List.length_cons]; omega
    omega
  refine step x hx (fun r δ3 => ob (frz δ3 r) fun p => acc.length < sizeLine ∧ Q (acc ++ [p.1]) p.2) (fun δ2 => Q acc δ2) (fun hp δ1 h1 => ⟨_, rfl, hlen, hQ _ _ ⟨?_, h1⟩⟩) (fun hp δ1 h1 => hQ _ _ ⟨?_, h1⟩)
  · rw [ea, List.filter_append, List.map_append, List.filter_cons, if_pos hp]
    rfl
  · rw [ea, List.filter_append, List.map_append, List.filter_cons, if_neg (by rw [hp]; decide)]
    simp
theorem bools_map : ∀ bs : List Bool, bools (bs.map .bool) = some bs
  | [] => rfl
  | b :: bs => by
    show (bools (bs.map PyData.bool)).map _ = _
    rw [bools_map bs]
    rfl
theorem all_bools (bs : List Bool) : allF [.d (.list (bs.map .bool))] = some (.val (.bool (bs.all id))) := by
  show (bools _).map _ = _
  rw [bools_map]
  rfl
theorem all_map (g : PyData → Bool) (ds : List PyData) : allF [.d (.list (ds.map fun y => .bool (g y)))] = some (.val (.bool (ds.all g))) := by
  have h := all_bools (ds.map g)
  rw [List.map_map, List.all_map] at h
  exact h
/-- a sign against a sign -/
theorem sign_lt (a c : Nat) : decide (([c] : List Nat) < [a]) = decide (c < a) := by
  refine decide_eq_decide.mpr ?_
  rw [List.cons_lt_cons_iff]
  constructor
  · rintro (h | ⟨_, h⟩)
    · exact h
    · exact absurd h (List.lt_irrefl _)
  · exact .inl
theorem sign_le (a c : Nat) : (!decide (([c] : List Nat) < [a])) = decide (a ≤ c) := by
  rw [sign_lt, ← decide_not]
  exact decide_eq_decide.mpr (by omega)
end DL
set_option Elab.async false
set_option linter.all false
set_option maxRecDepth 100000
set_option maxHeartbeats 4000000
set_option autoImplicit false
namespace DL
open PySem PySem.Spec PyProof.Rows L2

/-! ### is None, is not None -/
def isNon : Vw → Bool
  | .d .none => true
  | .w .none => true
  | _ => false
def isG (neg : Bool) : Vw → Vw → Option Rv := fun a b => if isNon b then some (.val (.bool (if neg then !isNon a else isNon a))) else none
def isF := isG false
def isNotF := isG true
theorem non_of {K : PySem.W.Frag} {B H : Hp} {v : V} {w : Vw} (sB : Same B H) (h : OV K B H v w) : decide (v = .non) = isNon w := by
  cases w with
  | d d =>
    rcases h with h | ⟨_, _, _, e1, e2, _⟩
    · cases h <;> rfl
    · subst e1 e2; rfl
  | w d =>
    have h : Dp K (fun _ => none) v d := h
    cases h <;> rfl
  | k _ => obtain ⟨a, ys, rfl, _⟩ := h; rfl
  | t _ => obtain ⟨a, ys, rfl, _⟩ := h; rfl
  | xk _ => obtain ⟨a, ys, rfl, _⟩ := h; rfl
  | xl _ => obtain ⟨a, ys, rfl, _⟩ := h; rfl
  | rk _ => obtain ⟨a, ys, rfl, _⟩ := h; rfl
  | xt _ => obtain ⟨a, o, ys, rfl, _⟩ := h; rfl
theorem isnon_eq {K : PySem.W.Frag} {B H : Hp} {v : V} {w : Vw} (sB : Same B H) (h : OV K B H v w) (e : isNon w = true) : v = .non := of_decide_eq_true ((non_of sB h).trans e)
theorem os_is {S : Sg} : OpS S (compareOp .Is) isF := by
  rintro c hc pins s σ H x y v u Q I rx ry ⟨B, a, b, rv, sB, oa, ob, e, k⟩
  unfold isF isG at e
  split at e
  · cases e
    refine op_isN pins s σ H _ _ v u Q I rx ry ⟨isnon_eq sB ob (by assumption), ?_⟩
    rw [non_of sB oa]
    exact k _ (.bl _)
  · cases e
theorem os_isnot {S : Sg} : OpS S (compareOp .IsNot) isNotF := by
  rintro c hc pins s σ H x y v u Q I rx ry ⟨B, a, b, rv, sB, oa, ob, e, k⟩
  unfold isNotF isG at e
  split at e
  · cases e
    refine op_notN pins s σ H _ _ v u Q I rx ry ⟨isnon_eq sB ob (by assumption), ?_⟩
    rw [non_of sB oa]
    exact k _ (.bl _)
  · cases e
/-! ### while -/
def wWh (wt : WT) (wb : WS) : Nat → WS
  | 0 => fun _ _ => False
  | n + 1 => fun d δ => wt d.ex δ fun b δ1 => if b = true then wb { nx := wWh wt wb n d, rt := d.rt, bk := d.nx, ct := wWh wt wb n d, ex := d.ex } δ1 else d.nx δ1
def wWhile (wt : WT) (wb : WS) : WS := fun d δ => ∃ n, wWh wt wb n d δ
theorem wWh_mono {wt : WT} {wb : WS} (ht : ∀ (Ex Ex' : XP) (δ : SEnv) (P P' : Bool → SEnv → Prop), (∀ e, Ex e → Ex' e) → (∀ r δ', P r δ' → P' r δ') → wt Ex δ P → wt Ex' δ P') (hb : ∀ (d d' : DEnds) (δ : SEnv), d.le d' → wb d δ → wb d' δ) :
    ∀ (n : Nat) (d d' : DEnds) (δ : SEnv), d.le d' → wWh wt wb n d δ → wWh wt wb n d' δ
  | 0, _, _, _, _, w => w
  | n + 1, d, d', δ, h, w => by
    refine ht d.ex d'.ex δ _ _ h.ex (fun b δ1 w => ?_) w
    cases b with
    | true =>
      rw [if_pos rfl] at w ⊢
      exact hb { nx := wWh wt wb n d, rt := d.rt, bk := d.nx, ct := wWh wt wb n d, ex := d.ex } { nx := wWh wt wb n d', rt := d'.rt, bk := d'.nx, ct := wWh wt wb n d', ex := d'.ex } δ1
          ⟨fun δ w => wWh_mono ht hb n d d' δ h w, h.rt, h.nx, fun δ w => wWh_mono ht hb n d d' δ h w, h.ex⟩ w
    | false =>
      rw [if_neg (by decide)] at w ⊢
      exact h.nx _ w
section
variable {S : Sg}
theorem ds_while {c : Expr} {body : List Stmt} {wt : WT} {wb : WS} {pos : Pos} (hc : DT S c wt) (hb : DSs S body wb) : DS S (.While c body [] pos) (wWhile wt wb) := by
  obtain ⟨tc, pc, sc⟩ := hc
  obtain ⟨tb, pb, sb⟩ := hb
  refine ⟨tWhile tc tb, fun c hc => ps_while hc.po (pc c hc) (pb c hc), ⟨fun d d' δ h w => w.imp fun n w => wWh_mono sc.mono sb.mono n d d' δ h w, fun F B H vs σ δ D d hx h k w => ?_⟩⟩
  obtain ⟨n, w⟩ := w
  refine ⟨fun m σ H => ∃ B' δ', Same B B' ∧ Rep S.g.K F B' H vs σ δ' ∧ wWh wt wb m d δ', ⟨n, B, δ, Same.refl _, h, w⟩, ?_⟩
  rintro m σ1 H1 ⟨B1, δ1, s1, h1, w1⟩
  cases m with
  | zero => exact w1.elim
  | succ m =>
    refine sc.run _ _ _ _ _ _ _ _ _ (hx.up s1) h1 w1 fun B2 H2 b δ2 s2 h2 w2 => ?_
    cases b with
    | true =>
      rw [if_pos rfl]
      refine ⟨fun σ' H' => ∃ B' δ', Same B B' ∧ Rep S.g.K F B' H' vs σ' δ' ∧ wWh wt wb m d δ', fun σ' H' q => ⟨m, Nat.lt_succ_self m, q⟩, ?_⟩
      have s3 : Same B B2 := s1.trans s2
      exact sb.run F B2 H2 vs σ1 δ2 _ { nx := wWh wt wb m d, rt := d.rt, bk := d.nx, ct := wWh wt wb m d, ex := d.ex } (hx.up s3) h2
        ⟨fun B' σ' H' δ' t1 t2 t3 => ⟨B', δ', s3.trans t1, t2, t3⟩, (k.up s3).rt, (k.up s3).nx, fun B' σ' H' δ' t1 t2 t3 => ⟨B', δ', s3.trans t1, t2, t3⟩⟩ w2
    | false =>
      rw [if_neg (by decide)]
      exact (k.up (s1.trans s2)).nx B2 _ _ _ (Same.refl _) h2 w2
end
/-! ### max of two -/
def maxF : List Vw → Option Rv
  | [.d (.int i), .d (.int j)] => some (.val (.int (if j > i then j else i)))
  | _ => none
theorem cs_max {S : Sg} : CallS S (.builtin "max") maxF := by
  rintro c hc pins s σ H xs us Q I rv ⟨B, as, r, sB, ov, e, k⟩
  unfold maxF at e
  split at e
  · cases e
    cases ov with
    | cons q1 ov =>
      cases ov with
      | cons q2 ov =>
        cases ov
        cases ov_int q1; cases ov_int q2
        exact call_max2 hc.calm pins s σ H _ us Q I rv ⟨_, _, rfl, k _ (.int _)⟩
  · cases e
/-! ### a name of the module that stands for data -/
def wGlob (d : PyData) : WE := fun _ δ P => P (.w d) δ
section
variable {S : Sg}
theorem de_glob {x : Str} {v : V} {u : Value} {d : PyData} {pos : Pos} (hg : GlS S.sc x) (hm : S.g.mg x = some u) (r : RelV v u) (q : DW S.g.K v d) (hd : (x == ("__debug__" : Str)) = false := by decide) : DE S (.Name x pos) (wGlob d) :=
  ⟨tC v, fun c hc => pe_glob (gl_of hc hg) hm r hd, ⟨fun _ _ _ _ _ _ h w => h _ _ w, fun Ex F B H vs σ δ P Q hx h w k => k B H v (.w d) δ (Same.refl _) h q w⟩⟩
/-- a name of the module stands for data -/
def Glo (g : Gx) (x : Str) (d : PyData) : Prop := ∃ (v : V) (u : Value), g.mg x = some u ∧ RelV v u ∧ DW g.K v d
theorem de_gl {x : Str} {d : PyData} {pos : Pos} (h : Glo S.g x d) (hg : GlS S.sc x) (hd : (x == ("__debug__" : Str)) = false := by decide) : DE S (.Name x pos) (wGlob d) := by
  obtain ⟨v, u, m, r, q⟩ := h
  exact de_glob hg m r q hd
end
/-! ### name.get(k), name.get(k, x): an own dict of ints and texts -/
def ownK (δ : SEnv) (i : Nat) : Option (Bool × List (Key × PyData)) := match δ[i]? with
  | some (some (.o b (.k kvs))) => some (b, kvs)
  | _ => none
theorem ownK_at {δ : SEnv} {i : Nat} {b : Bool} {kvs : List (Key × PyData)} (h : ownK δ i = some (b, kvs)) : δ[i]? = some (some (.o b (.k kvs))) := by
  unfold ownK at h
  split at h
  · cases h; assumption
  · cases h
def keyV (w : Vw) : Option Key := (dV w).bind keyD
def wGet1 (i : Nat) (wa : WE) : WE := fun Ex δ P => ob (ownK δ i) fun _ => wa Ex δ fun r δ1 => ob (view δ1 r) fun w => ob (keyV w) fun k => ob (ownK δ1 i) fun q => P (.d ((lookD q.2 k).getD .none)) δ1
def wGet2 (i : Nat) (wa wb : WE) : WE := fun Ex δ P => ob (ownK δ i) fun _ => wa Ex δ fun r δ1 => ob (view δ1 r) fun w => ob (keyV w) fun k => wb Ex δ1 fun r2 δ2 => ob (frz δ2 r2) fun p => ob (ownK p.2 i) fun q => P (.d ((lookD q.2 k).getD p.1)) p.2
theorem key_ov {K : PySem.W.Frag} {B H : Hp} {v : V} {w : Vw} {k : Key} (h : OV K B H v w) (e : keyV w = some k) : v = kV k := by
  unfold keyV at e
  obtain ⟨d, e1, e2⟩ := Option.bind_eq_some_iff.mp e
  cases w with
  | d d' =>
    cases e1
    rcases h with h | ⟨_, _, _, _, z, _⟩
    · exact key_dd e2 h
    · subst z; cases e2
  | _ => cases e1
section
variable {S : Sg}
theorem de_get1 {i : Nat} {x : Str} {e : Expr} {wa : WE} {p apos cpos : Pos} (hN : S.N[i]? = some x) (hv : Vis S.sc x) (ha : DE S e wa) (hd : (x == ("__debug__" : Str)) = false := by decide) (hcd : (x == ("__classdict__" : Str)) = false := by decide)
    (hm : ∀ X : Cx, M1 X (.Name x p) "get" apos e cpos := by exact fun _ => ⟨rfl, rfl, rfl, rfl⟩) : DE S (.Call (.Attribute (.Name x p) "get" apos) [e] [] cpos) (wGet1 i wa) := by
  obtain ⟨t, pa, s⟩ := ha
  refine ⟨tDGet1 (tVar i) t, fun c hc => pe_dget1 (X := S.g.cx c) (hu_of hc.room) (vis_v hc hN hv hd hcd) (pa c hc) (hm _), ⟨fun Ex Ex' δ P P' hx h w => ?_, fun Ex F B H vs σ δ P Q hx h w k => ?_⟩⟩
  · exact w.imp fun _ w => s.mono _ _ _ _ _ hx (fun r δ1 w => w.imp fun a w => w.imp fun kk w => w.imp fun q w => h _ _ w) w
  · obtain ⟨⟨b0, kvs0⟩, e0, w⟩ := w
    obtain ⟨v, ev, a, rfl, hBF, ys0, hy0, q0⟩ := h.ok i _ (ownK_at e0)
    refine ⟨_, ev, a, rfl, .inl ⟨ys0, .inl hy0⟩, ?_⟩
    refine s.run _ _ _ _ _ _ _ _ _ hx h w fun B1 H1 y r δ1 s1 h1 q1 w1 => ?_
    obtain ⟨vw, e1, kk, e2, ⟨b, kvs⟩, e3, w1⟩ := w1
    have ey := key_ov (view_ok h1 q1 e1) e2
    subst ey
    obtain ⟨a', ea, hBF2, ys, hy, qy⟩ := own_at h1 (ownK_at e3) ev
    cases ea
    refine ⟨_, DGet.k hy, ?_⟩
    rcases kds_look qy kk with ⟨z1, z2⟩ | ⟨v', d', z1, z2, q2⟩
    · rw [z2]
      rw [show lookD (b, kvs).2 kk = none from z1] at w1
      exact k B1 _ .non (.d .none) _ s1 h1 .non w1
    · rw [z2]
      rw [show lookD (b, kvs).2 kk = some d' from z1] at w1
      exact k B1 _ v' (.d d') _ s1 h1 q2 w1
theorem de_get2 {i : Nat} {x : Str} {e f : Expr} {wa wb : WE} {p apos cpos : Pos} (hN : S.N[i]? = some x) (hv : Vis S.sc x) (ha : DE S e wa) (hf : DE S f wb) (hd : (x == ("__debug__" : Str)) = false := by decide) (hcd : (x == ("__classdict__" : Str)) = false := by decide)
    (hm : ∀ X : Cx, M2 X (.Name x p) "get" apos e f cpos := by exact fun _ => ⟨rfl, rfl, rfl, rfl⟩) : DE S (.Call (.Attribute (.Name x p) "get" apos) [e, f] [] cpos) (wGet2 i wa wb) := by
  obtain ⟨t, pa, s⟩ := ha
  obtain ⟨tf, pf, sf⟩ := hf
  refine ⟨tDGet2 (tVar i) t tf, fun c hc => pe_dget2 (X := S.g.cx c) (hu_of hc.room) (vis_v hc hN hv hd hcd) (pa c hc) (pf c hc) (hm _), ⟨fun Ex Ex' δ P P' hx h w => ?_, fun Ex F B H vs σ δ P Q hx h w k => ?_⟩⟩
  · exact w.imp fun _ w => s.mono _ _ _ _ _ hx (fun r δ1 w => w.imp fun a w => w.imp fun kk w => sf.mono _ _ _ _ _ hx (fun r2 δ2 w => w.imp fun p w => w.imp fun q w => h _ _ w) w) w
  · obtain ⟨⟨b0, kvs0⟩, e0, w⟩ := w
    obtain ⟨v, ev, a, rfl, hBF, ys0, hy0, q0⟩ := h.ok i _ (ownK_at e0)
    refine ⟨_, ev, a, rfl, .inl ⟨ys0, .inl hy0⟩, ?_⟩
    refine s.run _ _ _ _ _ _ _ _ _ hx h w fun B1 H1 y r δ1 s1 h1 q1 w1 => ?_
    obtain ⟨vw, e1, kk, e2, w1⟩ := w1
    have ey := key_ov (view_ok h1 q1 e1) e2
    subst ey
    refine sf.run _ _ _ _ _ _ _ _ _ (hx.up s1) h1 w1 fun B2 H2 z r2 δ2 s2 h2 q2 w2 => ?_
    obtain ⟨⟨d0, δ3⟩, e4, ⟨b, kvs⟩, e3, w2⟩ := w2
    obtain ⟨B3, s3, h3, q3⟩ := frz_ok h2 q2 e4
    obtain ⟨a', ea, hBF2, ys, hy, qy⟩ := own_at h3 (ownK_at e3) ev
    cases ea
    refine ⟨_, DGet.k hy, ?_⟩
    rcases kds_look qy kk with ⟨z1, z2⟩ | ⟨v', d', z1, z2, q2⟩
    · rw [z2]
      rw [show lookD (b, kvs).2 kk = none from z1] at w2
      exact k B3 _ z (.d d0) _ ((s1.trans s2).trans s3) h3 q3 w2
    · rw [z2]
      rw [show lookD (b, kvs).2 kk = some d' from z1] at w2
      exact k B3 _ v' (.d d') _ ((s1.trans s2).trans s3) h3 q2 w2
end
/-! ### sorted: a list of ints, an own dict of ints -/
def sortI (ns : List Int) : List Int := ns.mergeSort fun a b => decide (a ≤ b)
theorem sortI_perm (ns : List Int) : (sortI ns).Perm ns := List.mergeSort_perm _ _
theorem sortI_up (ns : List Int) : (sortI ns).Pairwise (· ≤ ·) := by
  have h := List.pairwise_mergeSort (le := fun (a b : Int) => decide (a ≤ b)) (fun a b c h1 h2 => by simp only [decide_eq_true_eq] at *; omega) (fun a b => by simp only [Bool.or_eq_true, decide_eq_true_eq]; omega) ns
  exact h.imp fun h => of_decide_eq_true h
theorem sortI_one {ms ns : List Int} (h1 : ms.Perm ns) (h2 : ms.Pairwise (· ≤ ·)) : ms = sortI ns :=
  List.Perm.eq_of_pairwise (fun a b _ _ x y => Int.le_antisymm x y) h2 (sortI_up ns) (h1.trans (sortI_perm ns).symm)
def numsD : List PyData → Option (List Int)
  | [] => some []
  | .int i :: ds => (numsD ds).map fun ns => i :: ns
  | _ => none
theorem nums_dd {B : Hp} : ∀ {ds : List PyData} {ns : List Int} {xs : List V}, numsD ds = some ns → DDs B xs ds → xs = ns.map V.int
  | [], _, _, e, q => by cases e; cases q; rfl
  | d :: ds, _, _, e, q => by
    cases q with
    | cons q1 q2 =>
      cases d with
      | int i =>
        simp only [numsD] at e
        obtain ⟨ns, e1, e⟩ := Option.map_eq_some_iff.mp e
        cases e; cases q1
        rw [nums_dd e1 q2]; rfl
      | _ => cases e
theorem dds_ofI {B : Hp} (ns : List Int) : DDs B (ns.map V.int) (ns.map .int) := DDs.of_ints ns
def numK : List Key → Option (List Int)
  | [] => some []
  | .inl i :: ks => (numK ks).map fun ns => i :: ns
  | _ => none
theorem numK_eq : ∀ {ks : List Key} {ns : List Int}, numK ks = some ns → ks = ns.map Sum.inl
  | [], _, e => by cases e; rfl
  | k :: ks, _, e => by
    cases k with
    | inl i =>
      simp only [numK] at e
      obtain ⟨ns, e1, e⟩ := Option.map_eq_some_iff.mp e
      cases e
      rw [numK_eq e1]; rfl
    | inr x => cases e
theorem kds_keys {κ : Type} [DecidableEq κ] {B : Hp} {ys : List (κ × V)} {kvs : List (κ × PyData)} (h : KDs B ys kvs) : ys.map (·.1) = kvs.map (·.1) := by
  induction h with
  | nil => rfl
  | cons q r ih => rw [List.map_cons, List.map_cons, ih, q.1]
def sortF : List Vw → Option Rv
  | [.d (.list ds)] => (numsD ds).bind fun ns => if ns.length < 64 then some (.lst ((sortI ns).map .int)) else none
  | [.k kvs] => (numK (kvs.map (·.1))).bind fun ns => if ns.length < 64 then some (.lst ((sortI ns).map .int)) else none
  | _ => none
theorem cr_sortRd {X : Cx} (hc : X.calm = true) : CallR X (.builtin "sorted") (fun vs H Q => ∃ (a : Addr) (ns : List Int), vs = [V.ref a] ∧ Rd H a (.lst (ns.map V.int)) ∧ ns.length < 64 ∧
    ∀ (ns' : List Int) (p : Addr), ns'.Perm ns → ns'.Pairwise (· ≤ ·) → H p = none → Q (.ref p) (upd H p (.lst (ns'.map V.int)))) := by
  intro pins s σ H vs us Q I r h
  obtain ⟨a, ns, rfl, hs, h64, q⟩ := h
  exact cr_sorted pins s σ H _ us Q I r ⟨a, ns, rfl, .inl hs, h64, q⟩
theorem cs_sorted {S : Sg} : CallS S (.builtin "sorted") sortF := by
  rintro c hc pins s σ H xs us Q I rv ⟨B, as, r, sB, ov, e, k⟩
  unfold sortF at e
  split at e
  · obtain ⟨ns, e1, e⟩ := Option.bind_eq_some_iff.mp e
    split at e
    · cases e
      obtain ⟨v, rfl, q⟩ := ovs1 ov
      obtain ⟨p, zs, rfl, hp, qz⟩ := ov_lst sB q
      have ez := nums_dd e1 qz
      subst ez
      refine cr_sortRd hc.calm pins s σ H _ us Q I rv ⟨p, ns, rfl, hp, by assumption, fun ns' p' h1 h2 hp' => ?_⟩
      rw [sortI_one h1 h2]
      exact k p' _ hp' (dds_ofI _)
    · cases e
  · obtain ⟨ns, e1, e⟩ := Option.bind_eq_some_iff.mp e
    split at e
    · cases e
      obtain ⟨v, rfl, a, ys, rfl, hy, q⟩ := ovs1 ov
      refine call_sortedDI hc.calm pins s σ H _ us Q I rv ⟨a, ys, ns, rfl, .inl hy, by rw [kds_keys q]; exact numK_eq e1, by assumption, fun ns' p' h1 h2 hp' => ?_⟩
      rw [sortI_one h1 h2]
      exact k p' _ hp' (dds_ofI _)
    · cases e
  · cases e
end DL
set_option Elab.async false
set_option linter.all false
set_option maxRecDepth 100000
set_option maxHeartbeats 4000000
set_option autoImplicit false
namespace DL
open PySem PySem.Spec PyProof.Rows L2

/-! ### enumerate, zip: of lists -/
def enumD (ds : List PyData) : List PyData := ds.mapIdx fun i d => .tuple [.int (i : Nat), d]
def zipD (ds es : List PyData) : List PyData := List.zipWith (fun d e => .tuple [d, e]) ds es
def oneL : List PyData → Option (List PyData)
  | [.list ds] => some ds
  | _ => none
def twoL : List PyData → Option (List PyData × List PyData)
  | [.list ds, .list es] => some (ds, es)
  | _ => none
def wEnum (wr : WA) : WI := fun Ex δ P => wr Ex δ fun rs δ1 => ob (frzs δ1 rs) fun p => ob (oneL p.1) fun ds => P (enumD ds) p.2
def wZip (wr : WA) : WI := fun Ex δ P => wr Ex δ fun rs δ1 => ob (frzs δ1 rs) fun p => ob (twoL p.1) fun q => P (zipD q.1 q.2) p.2
def intF : List Vw → Option Rv
  | [.d (.int i)] => some (.val (.int i))
  | [.d (.bool b)] => some (.val (.int (if b then 1 else 0)))
  | _ => none
theorem cs_int {S : Sg} : CallS S (.type "int") intF := by
  rintro c hc pins s σ H xs us Q I rv ⟨B, as, r, sB, ov, e, k⟩
  unfold intF at e
  split at e
  · cases e
    obtain ⟨v, rfl, q⟩ := ovs1 ov
    cases ov_int q
    exact call_int1 pins s σ H _ us Q I rv (.inl ⟨_, rfl, k _ (.int _)⟩)
  · cases e
    obtain ⟨v, rfl, q⟩ := ovs1 ov
    cases ov_bool q
    exact call_int1 pins s σ H _ us Q I rv (.inr ⟨_, rfl, k _ (.int _)⟩)
  · cases e
def pairsD : List PyData → Option (List (Key × PyData))
  | [] => some []
  | .tuple [k, v] :: ds => (keyD k).bind fun kk => (pairsD ds).map fun r => (kk, v) :: r
  | _ => none
theorem pairs_dd {K : PySem.W.Frag} {B H : Hp} (sB : Same B H) : ∀ {ds : List PyData} {kvs : List (Key × PyData)} {xs : List V}, pairsD ds = some kvs → DDs B xs ds →
    ∃ (ps : List Addr) (ys : List (Key × V)), xs = ps.map V.ref ∧ Paired (fun p kv => SqT K H p [kV kv.1, kv.2]) ps ys ∧ KDs B ys kvs
  | [], _, _, e, q => by
    cases e; cases q
    exact ⟨[], [], rfl, .nil, .nil⟩
  | d :: ds, _, _, e, q => by
    cases q with
    | cons q1 q2 =>
      unfold pairsD at e
      split at e
      · rename_i z
        cases z
      · rename_i k v ds' z
        cases z
        obtain ⟨kk, e1, e⟩ := Option.bind_eq_some_iff.mp e
        obtain ⟨r, e2, e⟩ := Option.map_eq_some_iff.mp e
        cases e
        obtain ⟨ps, ys, rfl, h1, h2⟩ := pairs_dd sB e2 q2
        cases q1 with
        | tup hp qx =>
          cases qx with
          | cons a1 qx =>
            cases qx with
            | cons a2 qx =>
              cases qx
              have ek := key_dd e1 a1
              subst ek
              exact ⟨_ :: ps, (kk, _) :: ys, rfl, .cons (.inl (PlT.mono sB hp).rd) h1, .cons ⟨rfl, a2⟩ h2⟩
      · cases e
def dictF : List Vw → Option Rv
  | [.k kvs] => some (.dk kvs)
  | [.d (.list ds)] => (pairsD ds).map fun kvs => .dk (mergeD [] kvs)
  | _ => none
theorem cs_dict {S : Sg} : CallS S (.type "dict") dictF := by
  rintro c hc pins s σ H xs us Q I rv ⟨B, as, r, sB, ov, e, k⟩
  unfold dictF at e
  split at e
  · cases e
    obtain ⟨v, rfl, a, ys, rfl, hy, q⟩ := ovs1 ov
    exact call_dictD pins s σ H _ us Q I rv ⟨a, ys, rfl, .inl hy, fun p hp => k p ys hp q⟩
  · obtain ⟨kvs, e1, e⟩ := Option.map_eq_some_iff.mp e
    cases e
    obtain ⟨v, rfl, q⟩ := ovs1 ov
    obtain ⟨p, zs, rfl, hp, qz⟩ := ov_lst sB q
    obtain ⟨ps, ys, rfl, h1, h2⟩ := pairs_dd (K := S.g.K) sB e1 qz
    exact call_dictP hc.calm pins s σ H _ us Q I rv ⟨p, ps, ys, rfl, .inl hp, h1, fun p' hp' => k p' _ hp' (kds_merge h2 .nil)⟩
  · cases e
end DL
set_option Elab.async false
set_option linter.all false
set_option maxRecDepth 100000
set_option maxHeartbeats 4000000
set_option autoImplicit false
namespace DL
open PySem PySem.Spec PyProof.Rows L2

/-! ### a text's methods -/
def rTm (K : PySem.W.Frag) (f : Str → List Vw → Option Rv) : V → List V → Hp → VK → Prop := fun x xs H Q => ∃ B a as rv, Same B H ∧ x = .str a ∧ OVs K B H xs as ∧ f a as = some rv ∧ RvK B H Q rv
def TmS (S : Sg) (id : String) (f : Str → List Vw → Option Rv) : Prop := ∀ c, S.ok c → MtR (S.g.cx c) id (rTm S.g.K f)
def wTm (f : Str → List Vw → Option Rv) (wo : WE) (wr : WA) : WE := fun Ex δ P => wo Ex δ fun ro δ1 => ob (view δ1 ro) fun w => ob (strV w) fun a => wr Ex δ1 fun rs δ2 => ob (views δ2 rs) fun as => ob (f a as) fun rv => P rv.r δ2
section
variable {S : Sg}
theorem de_tm {o e : Expr} {es : List Expr} {wo : WE} {wr : WA} {f : Str → List Vw → Option Rv} {name : Str} {id : String} {apos cpos : Pos} (slot : Slot "str" name id) (hty : typeOf (.builtin id) = pure (.type "method_descriptor")) (hm : TmS S id f) (ho : DE S o wo) (ha : DA S (e :: es) wr)
    (hb : ∀ env, attributeBase o name env (eval o env) = eval o env := by intro _; rfl) (hf : ∀ env, ((backTo cpos (starEach (e :: es) env)).all (fun x => !x.1) && (backToKw cpos (keywordEach [] env)).all (fun x => x.1.isSome) && decide ((e :: es).length + ([] : List Keyword).length + (if ([] : List Keyword).isEmpty then 0 else 1) < 30)) = true := by intro _; rfl)
    (hl : (apos.endLine == cpos.line) = true := by rfl) (hs : ∀ env, starEach (e :: es) env = (false, eval e env) :: starEach es env := by intro _; rfl) (hp : ∀ env, (backTo cpos (starEach es env)).any (·.1) = false := by intro _; rfl) :
    DE S (.Call (.Attribute o name apos) (e :: es) [] cpos) (wTm f wo wr) := by
  obtain ⟨to', po, so⟩ := ho
  obtain ⟨ta, pa, sa⟩ := ha
  refine ⟨tBM S.g.K "str" (rTm S.g.K f) to' ta, fun c hc => pe_bm (X := S.g.cx c) PySem.F.plainAttrs_str slot hty (hm c hc) (po c hc) (pa c hc) (hb _) (hf _) hl (hs _) (hp _), ⟨fun Ex Ex' δ P P' hx h w => ?_, fun Ex F B H vs σ δ P Q hx h w k => ?_⟩⟩
  · refine so.mono _ _ _ _ _ hx (fun ro δ1 w => w.imp fun a w => w.imp fun x w => ?_) w
    exact sa.mono _ _ _ _ _ hx (fun r δ2 w => w.imp fun b w => w.imp fun d w => h _ _ w) w
  · refine so.run _ _ _ _ _ _ _ _ _ hx h w fun B1 H1 v ro δ1 s1 h1 q1 w1 => ?_
    obtain ⟨a, e1, x, e2, w1⟩ := w1
    cases strV_ok (view_ok h1 q1 e1) e2
    refine ⟨rfl, ?_⟩
    refine sa.run _ _ _ _ _ _ _ _ _ (hx.up s1) h1 w1 fun B2 H2 ys rs δ2 s2 h2 q2 w2 => ?_
    obtain ⟨as, e3, rv, e4, w2⟩ := w2
    exact ⟨B2, x, as, rv, h2.sb, rfl, views_ok h2 q2 e3, e4, rvk_ok (s1.trans s2) h2 w2 k⟩
theorem de_tm0 {o : Expr} {wo : WE} {f : Str → List Vw → Option Rv} {name : Str} {id : String} {apos cpos : Pos} (slot : Slot "str" name id) (hty : typeOf (.builtin id) = pure (.type "method_descriptor")) (hm : TmS S id f) (ho : DE S o wo)
    (hb : ∀ env, attributeBase o name env (eval o env) = eval o env := by intro _; rfl) (hl : (apos.endLine == cpos.line) = true := by rfl) : DE S (.Call (.Attribute o name apos) [] [] cpos) (wTm f wo wNil) := by
  obtain ⟨to', po, so⟩ := ho
  refine ⟨tBM0 S.g.K "str" (rTm S.g.K f) to', fun c hc => pe_bm0 (X := S.g.cx c) PySem.F.plainAttrs_str slot hty (hm c hc) (po c hc) (hb _) hl, ⟨fun Ex Ex' δ P P' hx h w => ?_, fun Ex F B H vs σ δ P Q hx h w k => ?_⟩⟩
  · exact so.mono _ _ _ _ _ hx (fun ro δ1 w => w.imp fun a w => w.imp fun x w => w.imp fun b w => w.imp fun d w => h _ _ w) w
  · refine so.run _ _ _ _ _ _ _ _ _ hx h w fun B1 H1 v ro δ1 s1 h1 q1 w1 => ?_
    obtain ⟨a, e1, x, e2, as, e3, rv, e4, w1⟩ := w1
    cases strV_ok (view_ok h1 q1 e1) e2
    exact ⟨rfl, B1, x, as, rv, h1.sb, rfl, views_ok h1 .nil e3, e4, rvk_ok s1 h1 w1 k⟩
def findF : Str → List Vw → Option Rv
  | a, [.d (.str b)] => some (.val (.int (PySem.Txt.find a b)))
  | _, _ => none
theorem tm_find : TmS S "str.find" findF := by
  rintro c hc pins s σ H x xs v us Q I rx rv ⟨B, a, as, r, sB, rfl, ov, e, k⟩
  unfold findF at e
  split at e
  · cases e
    obtain ⟨v, rfl, q⟩ := ovs1 ov
    cases ov_str q
    exact mt_find pins s σ H _ _ _ us Q I rx rv ⟨_, _, rfl, rfl, k _ (.int _)⟩
  · cases e
def upperF : Str → List Vw → Option Rv
  | a, [] => if a.length ≤ 5592405 then some (.val (.str (PySem.Txt.upper a))) else none
  | _, _ => none
theorem tm_upper : TmS S "str.upper" upperF := by
  rintro c hc pins s σ H x xs v us Q I rx rv ⟨B, a, as, r, sB, rfl, ov, e, k⟩
  unfold upperF at e
  split at e
  · split at e
    · cases e
      cases ov
      exact mt_upper pins s σ H _ _ _ us Q I rx rv ⟨_, rfl, rfl, by assumption, k _ (.str _)⟩
    · cases e
  · cases e
theorem de_find {o e : Expr} {wo : WE} {wr : WA} {apos cpos : Pos} (ho : DE S o wo) (ha : DA S [e] wr) (hb : ∀ env, attributeBase o "find" env (eval o env) = eval o env := by intro _; rfl)
    (hf : ∀ env, ((backTo cpos (starEach [e] env)).all (fun x => !x.1) && (backToKw cpos (keywordEach [] env)).all (fun x => x.1.isSome) && decide (([e] : List Expr).length + ([] : List Keyword).length + (if ([] : List Keyword).isEmpty then 0 else 1) < 30)) = true := by intro _; rfl)
    (hl : (apos.endLine == cpos.line) = true := by rfl) (hs : ∀ env, starEach [e] env = (false, eval e env) :: starEach [] env := by intro _; rfl) (hp : ∀ env, (backTo cpos (starEach [] env)).any (·.1) = false := by intro _; rfl) : DE S (.Call (.Attribute o "find" apos) [e] [] cpos) (wTm findF wo wr) :=
  de_tm PySem.F.slot_str_find PySem.F.type_str_find tm_find ho ha hb hf hl hs hp
theorem de_upper {o : Expr} {wo : WE} {apos cpos : Pos} (ho : DE S o wo) (hb : ∀ env, attributeBase o "upper" env (eval o env) = eval o env := by intro _; rfl) (hl : (apos.endLine == cpos.line) = true := by rfl) : DE S (.Call (.Attribute o "upper" apos) [] [] cpos) (wTm upperF wo wNil) :=
  de_tm0 PySem.F.slot_str_upper PySem.F.type_str_upper tm_upper ho hb hl
end
end DL
set_option Elab.async false
set_option linter.all false
set_option maxRecDepth 100000
set_option maxHeartbeats 4000000
set_option autoImplicit false
/-! {k: v for a in xs for b in ys}: no tests. -/
namespace DL
open PySem PySem.Spec PyProof.Rows L2

abbrev dc2 (kx vx ta ia tb ib : Expr) (sc : Scope) (p : Pos) : Expr := .DictComp kx vx [⟨ta, ia, [], 0⟩, ⟨tb, ib, [], 0⟩] sc p
theorem dc2_turnA (kx vx ta ia tb ib : Expr) (sc : Scope) (p : Pos) (it : Value) (D : Addr) (env : Env) : compTurn (dc2 kx vx ta ia tb ib sc p) 0 it (.ref D) env =
    (standAt ia.pos >>= fun _ => pyNext it >>= fun r => match r with
      | none => pure (.done .next)
      | some v => letOwnedTupleGo ta it v >>= fun _ => assign ta env v >>= fun _ => eval ib env >>= fun x => standAt ib.pos >>= fun _ => foldedSetIterable ib env x >>= fun x => holding [x] (pyIter x) >>= fun j =>
          runOwn (.compStart (dc2 kx vx ta ia tb ib sc p) 1 j (.ref D) env) env >>= fun _ => again (.compLoop (dc2 kx vx ta ia tb ib sc p) 0 it (.ref D) env)) := by rfl
theorem dc2_turnB (kx vx ta ia tb ib : Expr) (sc : Scope) (p : Pos) (it : Value) (D : Addr) (env : Env) : compTurn (dc2 kx vx ta ia tb ib sc p) 1 it (.ref D) env =
    (standAt ib.pos >>= fun _ => pyNext it >>= fun r => match r with
      | none => pure (.done .next)
      | some v => letOwnedTupleGo tb it v >>= fun _ => assign tb env v >>= fun _ => (eval kx env >>= fun kk => holding [kk] (eval vx env) >>= fun vv => standAt { kx.pos with endLine := vx.pos.endLine, endCol := vx.pos.endCol } >>= fun _ => holding [kk, vv] (dictSet D kk vv)) >>= fun _ =>
          again (.compLoop (dc2 kx vx ta ia tb ib sc p) 1 it (.ref D) env)) := by rfl
section
variable {prog : Program} {w : World} {A : Around} {R : Result → Shared → Prop} {s : Shared} {kx vx ta ia tb ib : Expr} {sc : Scope} {p : Pos} {it : Value} {D : Addr} {env : Env}
theorem dc2_loopA (hf : ∀ x, foldedSetIterable ib env x = pure x) (J : Nat → Shared → Prop)
    (turn : ∀ n t, J n t → wpAny (model prog w) A (pyNext it) (fun r t1 => match r with
      | none => R (.ok .next) t1
      | some v => wpAny (model prog w) A (letOwnedTupleGo ta it v) (fun _ t2 => wpAny (model prog w) A (assign ta env v) (fun _ t3 => wpAny (model prog w) A (eval ib env) (fun x t4 => wpAny (model prog w) A (pyIter x) (fun jt t5 =>
              codeAny (model prog w) A (.compStart (dc2 kx vx ta ia tb ib sc p) 1 jt (.ref D) env) (fun r t6 => match r with | .ok _ => ∃ m, m < n ∧ J m t6 | .error _ => False) t5) (notedBy (model prog w) A env fun e t' => R (.error e) t') t4)
            (notedBy (model prog w) A env fun e t' => R (.error e) t') t3) (notedBy (model prog w) A env fun e t' => R (.error e) t') t2) (notedBy (model prog w) A env fun e t' => R (.error e) t') t1) (notedBy (model prog w) A env fun e t' => R (.error e) t') t)
    (n : Nat) (h : J n s) : codeAny (model prog w) A (.compLoop (dc2 kx vx ta ia tb ib sc p) 0 it (.ref D) env) R s := by
  refine codeAny_loop rfl J (fun n t hJ => ?_) n h
  show wpAny _ A ((compTurn (dc2 kx vx ta ia tb ib sc p) 0 it (.ref D) env).onRaise (fun x => do noteFrame x env; theTreesLotGoes x)) _ _ t
  refine wpAny_noted ?_
  rw [dc2_turnA]
  refine wpAny_bind (wpAny_standAt (wpAny_bind (wpAny_mono (turn n t hJ) (fun r t1 g1 => ?_) fun _ _ z => z)))
  cases r with
  | none => exact wpAny_pure g1
  | some v =>
    refine wpAny_bind (wpAny_mono g1 (fun _ t2 g2 => wpAny_bind (wpAny_mono g2 (fun _ t3 g3 => ?_) fun _ _ z => z)) fun _ _ z => z)
    refine wpAny_bind (wpAny_mono g3 (fun x t4 g4 => wpAny_bind (wpAny_standAt (wpAny_bind (wpAny_of_eq (hf x) ?_)))) fun _ _ z => z)
    refine wpAny_bind (wpAny_holding (wpAny_mono g4 (fun jt t5 g5 => ?_) fun _ _ z => z))
    refine wpAny_bind (wpAny_runOwn ?_)
    rw [Around.mark_none]
    refine codeAny_mono g5 fun r t6 g6 => ?_
    cases r with
    | error e => exact g6.elim
    | ok f => first | exact wpAny_pure ⟨rfl, g6⟩ | exact wpAny_bind (wpAny_pure (wpAny_pure ⟨rfl, g6⟩))
theorem dc2_loopB (J : Nat → Shared → Prop)
    (turn : ∀ n t, J n t → wpAny (model prog w) A (pyNext it) (fun r t1 => match r with
      | none => R (.ok .next) t1
      | some v => wpAny (model prog w) A (letOwnedTupleGo tb it v) (fun _ t2 => wpAny (model prog w) A (assign tb env v) (fun _ t3 => wpAny (model prog w) A (eval kx env) (fun kk t4 => wpAny (model prog w) A (eval vx env) (fun vv t5 =>
              wpAny (model prog w) A (dictSet D kk vv) (fun _ t6 => ∃ m, m < n ∧ J m t6) (notedBy (model prog w) A env fun e t' => R (.error e) t') t5) (notedBy (model prog w) A env fun e t' => R (.error e) t') t4)
            (notedBy (model prog w) A env fun e t' => R (.error e) t') t3) (notedBy (model prog w) A env fun e t' => R (.error e) t') t2) (notedBy (model prog w) A env fun e t' => R (.error e) t') t1) (notedBy (model prog w) A env fun e t' => R (.error e) t') t)
    (n : Nat) (h : J n s) : codeAny (model prog w) A (.compLoop (dc2 kx vx ta ia tb ib sc p) 1 it (.ref D) env) R s := by
  refine codeAny_loop rfl J (fun n t hJ => ?_) n h
  show wpAny _ A ((compTurn (dc2 kx vx ta ia tb ib sc p) 1 it (.ref D) env).onRaise (fun x => do noteFrame x env; theTreesLotGoes x)) _ _ t
  refine wpAny_noted ?_
  rw [dc2_turnB]
  refine wpAny_bind (wpAny_standAt (wpAny_bind (wpAny_mono (turn n t hJ) (fun r t1 g1 => ?_) fun _ _ z => z)))
  cases r with
  | none => exact wpAny_pure g1
  | some v =>
    refine wpAny_bind (wpAny_mono g1 (fun _ t2 g2 => wpAny_bind (wpAny_mono g2 (fun _ t3 g3 => ?_) fun _ _ z => z)) fun _ _ z => z)
    refine wpAny_bind (wpAny_bind (wpAny_mono g3 (fun kk t4 g4 => ?_) fun _ _ z => z))
    refine wpAny_bind (wpAny_holding (wpAny_mono g4 (fun vv t5 g5 => ?_) fun _ _ z => z))
    refine wpAny_bind (wpAny_standAt (wpAny_holding (wpAny_mono g5 (fun _ t6 g6 => ?_) fun _ _ z => z)))
    exact wpAny_pure ⟨rfl, g6⟩
theorem dc2_startB (hl : codeAny (model prog w) A (.compLoop (dc2 kx vx ta ia tb ib sc p) 1 it (.ref D) env) R s)
    (h : wpAny (model prog w) A (pyIter it) (fun jt t => codeAny (model prog w) A (.compLoop (dc2 kx vx ta ia tb ib sc p) 1 jt (.ref D) env) R t) (notedBy (model prog w) A env fun x t => R (.error x) t) s) :
    codeAny (model prog w) A (.compStart (dc2 kx vx ta ia tb ib sc p) 1 it (.ref D) env) R s := by
  refine codeAny_of_tree ?_
  show wpAny _ _ ((compStart (dc2 kx vx ta ia tb ib sc p) 1 it (.ref D) env).onRaise (fun x => do noteFrame x env; standAt theWindowsPlace)) _ _ s
  refine wpAny_notedAt ?_
  unfold compStart
  show wpAny _ _ (ask >>= _) _ _ s
  refine wpAny_bind (wpAny_askSetting (wpAny_ite ?_))
  split
  · first | exact wpAny_bind (wpAny_pure (wpAny_pure (And.intro rfl hl))) | exact wpAny_pure (And.intro rfl hl)
  · first
      | exact wpAny_bind (wpAny_rule (wpAny_bind (wpAny_standAt (wpAny_bind (wpAny_mono h (fun jt t g => wpAny_pure (And.intro rfl g)) fun _ _ z => z)))))
      | (refine wpAny_bind (wpAny_rule ?_); show wpAny _ _ (standAt ib.pos >>= _) _ _ s; exact wpAny_bind (wpAny_standAt (wpAny_bind (wpAny_mono h (fun jt t g => wpAny_pure (And.intro rfl g)) fun _ _ z => z))))
end
end DL
set_option Elab.async false
set_option linter.all false
set_option maxRecDepth 100000
set_option maxHeartbeats 4000000
set_option autoImplicit false
namespace DL
open PySem PySem.Spec PyProof.Rows L2
section
variable {X : Cx}
/-- what is asked of {k: v for a in xs for b in ys}: us the block's slots, ws those of b -/
def tDc2 (wi : TI) (ga : TG) (wj : TI) (gb : TG) (tk tv : TE) (us ws : List Nat) : TE := fun σ H Q => wi σ H fun J H1 => ∀ D, H1 D = none → ∃ U : Nat → Nat → Hp → Prop, (∃ m, U 0 m (upd H1 D (.dK []))) ∧ ∀ i m H, U i m H →
  (J.stop i H ∧ Q (.ref D) H) ∨ (J.go i H ∧ ∃ Z : Hp → Prop, (∀ H', Z H' → ∃ m', m' < m ∧ U (i + 1) m' H') ∧ ∀ x H', J.yld i H x H' → ga x (wipe σ us) H' fun σ2 H2 => wipe σ2 us = wipe σ us ∧
    wj σ2 H2 fun J1 H4 => ∃ U1 : Nat → Nat → Hp → Prop, (∃ m, U1 0 m H4) ∧ ∀ j k H, U1 j k H →
      (J1.stop j H ∧ Z H) ∨ (J1.go j H ∧ ∃ Z1 : Hp → Prop, (∀ H', Z1 H' → ∃ k', k' < k ∧ U1 (j + 1) k' H') ∧ ∀ y H', J1.yld j H y H' → gb y (wipe σ2 ws) H' fun σ3 H5 => wipe σ3 ws = wipe σ2 ws ∧
        tk σ3 H5 fun y H6 => tv σ3 H6 fun z H7 => ∃ kvs k, y = kV k ∧ H7 D = some (.dK kvs) ∧ kvs.length < sizeLine ∧ Z1 (upd H7 D (.dK (putK kvs k z)))))
theorem dc2_core {pins : List (Addr × Obj)} {s : Shared} {σ : L2.St} {H : Hp} {Q : VK} {use : Option (Value → Sem Unit)} {Qf : Value → Shared → Prop} {p' : Pos} {kx vx ta ia tb ib : Expr} {sc : Scope} {own : List (Str × Nat)} {ws : List Nat} {p : Pos} {wi wj : TI} {ga gb : TG} {tk tv : TE} (hc : X.calm = true) (hN : X.N.Nodup) (I : Inv X pins σ H s) (hi : PI X ta ia wi) (ok : BlkOk X.N X.env.scope sc own) (hv : ∀ i ∈ ws, i ∈ own.map (·.2))
    (ha : ∀ (s : Shared) (H : Hp) (C : Addr) (cl : List (Str × Addr)) (fp : List Addr), PG (X.blk s H sc (compEnvC sc cl C X.env) fp) ta ga) (hj : ∀ (s : Shared) (H : Hp) (C : Addr) (cl : List (Str × Addr)) (fp : List Addr), PI (X.blk s H sc (compEnvC sc cl C X.env) fp) tb ib wj)
    (hb : ∀ (s : Shared) (H : Hp) (C : Addr) (cl : List (Str × Addr)) (fp : List Addr), PG (X.blk s H sc (compEnvC sc cl C X.env) fp) tb gb) (hk : ∀ (s : Shared) (H : Hp) (C : Addr) (cl : List (Str × Addr)) (fp : List Addr), PE (X.blk s H sc (compEnvC sc cl C X.env) fp) kx tk)
    (he : ∀ (s : Shared) (H : Hp) (C : Addr) (cl : List (Str × Addr)) (fp : List Addr), PE (X.blk s H sc (compEnvC sc cl C X.env) fp) vx tv) (h1 : ∀ x, foldedSetIterable ia X.env x = pure x) (h2 : ∀ env x, foldedSetIterable ib env x = pure x)
    (h : tDc2 wi ga wj gb tk tv (own.map (·.2)) ws σ H Q) (fin' : ∀ D C s' m H', Inv X pins σ H' s' → Q (.ref D) H' → s'.heap.Ns C m → FpOk X pins H' C → compPost (model X.prog X.w) X.A X.xe use Qf (.ref D) C (.ok .next) s') :
    wpAny (model X.prog X.w) X.A (comprehension (dc2 kx vx ta ia tb ib sc p) sc X.env p' newDict false (eval ia X.env) use) Qf X.xe s := by
  refine wpAny_comprehension_free (use := use) rfl h1 (closure_ok fun y hy e => (ok.free y hy e).elim (fun k => I.ok.has _ (.inl k)) fun k => I.ok.has _ (.inr k)) ok.kind (fun y hy e => by rw [ok.uniq y hy, e]) (thn (hi.run pins s σ H _ I h) fun _ q1 hx => thn hx fun itv q2 hy => ?_)
  obtain ⟨it, fp, tn, J, H2, rfl, I2, T, z2, f2, q⟩ := hy
  refine wpAny_newObj_type (newEnv_comp ?_)
  generalize hD : q2.heap.objs.size = D
  have nD : H2 D = none := I2.hok.fresh (Nat.le_of_eq hD)
  obtain ⟨U, ⟨m0, u0⟩, turn⟩ := q D nD
  generalize hq3 : ({ q2 with heap := q2.heap.push { cls := .type "dict", data := .dict #[] } } : Shared) = q3
  have I3 : Inv X pins σ (upd H2 D (.dK [])) q3 := by
    rw [← hq3]
    refine I2.laid (t' := q2.toks) (fun b o e => Heap.get?_push_of_some _ e) (Nat.le_of_eq hD) ?_
    rw [← hD]; exact dk_empty q2.heap I2.big
  have hp3 : q3.heap = q2.heap.push { cls := .type "dict", data := .dict #[] } := by rw [← hq3]
  have f3 : ∀ b ∈ fp, FpOk X pins (upd H2 D (.dK [])) b ∧ b < q3.heap.objs.size := fun b hb => by
    obtain ⟨o, e, _⟩ := T.obj _ _ z2 b hb
    have lt := Heap.lt_size e
    refine ⟨⟨?_, (f2 b hb).2⟩, by rw [hp3, Heap.size_push]; exact Nat.lt_succ_of_lt lt⟩
    rw [upd_ne (by rw [← hD]; exact Nat.ne_of_lt lt)]; exact (f2 b hb).1
  have z3 : tn 0 q3.heap := T.keep _ _ _ z2 fun b _ o e => by rw [hp3]; exact Heap.get?_push_of_some _ e
  have I4 := block_start I3 ok hN f3
  let cl := cellsFrom (q3.heap.objs.size + 1) sc.names (cloFrom X.env.cells sc.names [])
  have pa := ha q3 (upd H2 D (.dK [])) q3.heap.objs.size cl fp
  have pj := hj q3 (upd H2 D (.dK [])) q3.heap.objs.size cl fp
  have pb := hb q3 (upd H2 D (.dK [])) q3.heap.objs.size cl fp
  have pk := hk q3 (upd H2 D (.dK [])) q3.heap.objs.size cl fp
  have pv := he q3 (upd H2 D (.dK [])) q3.heap.objs.size cl fp
  show codeAny _ _ (.compStart (dc2 kx vx ta ia tb ib sc p) 0 (.ref it) (.ref D) (compEnvC sc cl q3.heap.objs.size X.env)) (compPost (model X.prog X.w) X.A X.xe use Qf (.ref D) q3.heap.objs.size) { q3 with heap := pushCells (q3.heap.push { cls := .type "dict", data := .dict #[] }) sc.names }
  have nfp : ∀ b ∈ fp, (upd H2 D (.dK [])) b = none := fun b hb => (f3 b hb).1.1
  generalize hce : compEnvC sc cl q3.heap.objs.size X.env = ce at pa pj pb pk pv ⊢
  have I4 : Inv (X.blk q3 (upd H2 D (.dK [])) sc ce fp) [] (wipe σ (own.map (·.2))) (upd H2 D (.dK [])) { q3 with heap := pushCells (q3.heap.push { cls := .type "dict", data := .dict #[] }) sc.names } := by rw [← hce]; exact I4
  have cL : ce.locals = q3.heap.objs.size := by subst hce; rfl
  generalize hH3 : upd H2 D (.dK []) = H3 at I3 I4 pa pj pb pk pv u0 nfp f3
  generalize hq4 : ({ q3 with heap := pushCells (q3.heap.push { cls := .type "dict", data := .dict #[] }) sc.names } : Shared) = q4 at I4 ⊢
  have z4 : tn 0 q4.heap := T.keep _ _ _ z3 fun b _ o e => by rw [← hq4]; exact pushCells_keeps _ _ _ _ (Heap.get?_push_of_some _ e)
  generalize hX : X.blk q3 H3 sc ce fp = Y at I4 pa pj pb pk pv
  have still : ∀ {σ' : L2.St} {H' : Hp} {t : Shared}, Inv Y [] σ' H' t → (∀ b ∈ fp, H' b = none) → ∀ b ∈ fp, FpOk Y [] H' b := by
    subst hX
    exact fun {σ' H' t} I' hn b hb => ⟨hn b hb, (I'.ok.exf b hb).1, I'.ok.exfs b hb, .inl hb, fun x c e => (I'.ok.exf b hb).2 x c e, fun p hp => absurd (show p ∈ ([] : List (Addr × Obj)) ++ [] from hp) (by simp)⟩
  have eP : Y.prog = X.prog ∧ Y.w = X.w ∧ Y.A = X.A ∧ Y.env = ce ∧ Y.calm = true := by subst hX; exact ⟨rfl, rfl, rfl, rfl, hc⟩
  have loop : codeAny (model X.prog X.w) X.A (.compLoop (dc2 kx vx ta ia tb ib sc p) 0 (.ref it) (.ref D) ce) (compPost (model X.prog X.w) X.A X.xe use Qf (.ref D) q3.heap.objs.size) q4 := by
    refine dc2_loopA (h2 ce) (fun n t => ∃ i H', Inv Y [] (wipe σ (own.map (·.2))) H' t ∧ tn i t.heap ∧ (∀ b ∈ fp, H' b = none) ∧ U i n H') ?_ m0 ⟨0, H3, I4, z4, nfp, u0⟩
    rintro n q5 ⟨i, H5, I5, z5, n5, u5⟩
    rcases turn i n H5 u5 with ⟨stop, qq⟩ | ⟨go, Z, hZ, step⟩
    · subst hX
      refine thnF (T.done (X.blk q3 H3 sc ce fp) rfl rfl rfl hc i [] q5 _ H5 (fun _ _ => False) I5 (still I5 n5) z5 stop) fun r q6 ⟨hr, I6⟩ => ?_
      subst hr
      have I7 : Inv X pins σ H5 q6 := I3.call' (ch := fp) I6.os I6.base I6.hok I6.bare fun b hb => ⟨(f3 b hb).1.2.2.2.1, (f3 b hb).1.2.1, (f3 b hb).1.2.2.2.2.1, (f3 b hb).1.2.2.2.2.2⟩
      have nC : H5 q3.heap.objs.size = none := cL ▸ (show H5 ce.locals = none from I6.free)
      obtain ⟨m, hn, _⟩ := I6.loc
      have hn : q6.heap.Ns q3.heap.objs.size m := cL ▸ (show q6.heap.Ns ce.locals m from hn)
      exact fin' D q3.heap.objs.size q6 m H5 I7 qq hn (I3.fpOk (Nat.le_refl _) nC)
    · have ti := T.item Y (by subst hX; rfl) (by subst hX; rfl) (by subst hX; rfl) (by subst hX; exact hc) i [] q5 _ H5 (fun _ _ => False) I5 (still I5 n5) z5 go
      subst hX
      refine thnF ti fun r q6 ⟨u, hr, h6⟩ => ?_
      subst hr
      refine thnF h6 fun _ q7 ⟨x, H7, I7, r7, y7, z7, n7⟩ => ?_
      have I7' := I7.pinned (still I7 n7) (T.obj _ _ z7)
      refine thnF (pa.run _ q7 _ H7 x u _ I7' r7 (step x H7 y7)) fun _ q8 ⟨σ8, H8, I8, e8, w8⟩ => ?_
      have l8 : (wipe σ (own.map (·.2))).length = σ8.length := by rw [← e8, wipe_length]
      have k9 : ∀ (j : Nat) v, (wipe σ (own.map (·.2)))[j]? = some (some v) → (wipe σ8 ws)[j]? = some (some v) := fun j v e => by
        rw [← e8] at e
        obtain ⟨e1, e2⟩ := wipe_some e
        rw [wipe_out fun z => e2 (hv j z)]; exact e1
      have fin : ∀ {σ9 : L2.St} {t : Shared} {H' : Hp}, Inv (X.blk q3 H3 sc ce fp) ([] ++ pinsAt fp q7.heap) σ9 H' t → (wipe σ (own.map (·.2))).length = σ9.length → (∀ (j : Nat) v, (wipe σ (own.map (·.2)))[j]? = some (some v) → σ9[j]? = some (some v)) → Z H' →
          ∃ m, m < n ∧ ∃ i H', Inv (X.blk q3 H3 sc ce fp) [] (wipe σ (own.map (·.2))) H' t ∧ tn i t.heap ∧ (∀ b ∈ fp, H' b = none) ∧ U i m H' := fun {σ9 t H'} I' hl hkk zz => by
        obtain ⟨m', lm, u'⟩ := hZ H' zz
        have pin' : ∀ b ∈ fp, ∀ o, q7.heap.get? b = some o → t.heap.get? b = some o ∧ H' b = none := fun b hb o e =>
          let y := I'.pin (b, o) (List.mem_append_right _ (List.mem_append_right _ (mem_pinsAt hb e))); ⟨y.1, y.2.1⟩
        refine ⟨m', lm, i + 1, H', (I'.unpinned (pins := [])).weak hl hkk, T.keep _ _ _ z7 fun b hb o e => (pin' b hb o e).1, fun b hb => ?_, u'⟩
        obtain ⟨o, e, _⟩ := T.obj _ _ z7 b hb
        exact (pin' b hb o e).2
      refine thnF (pj.run _ q8 σ8 H8 _ I8 w8) fun xv q10 hx => thnF hx fun jv q11 h11 => ?_
      obtain ⟨jt, fq, tm, J1, H11, rfl, I11, T1, z11, f11, U1, ⟨m1, u1⟩, turn1⟩ := h11
      have still1 : ∀ {H' : Hp}, (∀ b ∈ fq, H' b = none) → ∀ b ∈ fq, FpOk (X.blk q3 H3 sc ce fp) ([] ++ pinsAt fp q7.heap) H' b := fun hn b hb => ⟨hn b hb, (f11 b hb).2⟩
      have inner : codeAny (model X.prog X.w) X.A (.compLoop (dc2 kx vx ta ia tb ib sc p) 1 (.ref jt) (.ref D) ce)
          (fun r t => match r with | .ok _ => ∃ m, m < n ∧ ∃ i H', Inv (X.blk q3 H3 sc ce fp) [] (wipe σ (own.map (·.2))) H' t ∧ tn i t.heap ∧ (∀ b ∈ fp, H' b = none) ∧ U i m H' | .error _ => False) q11 := by
        refine dc2_loopB (fun k t => ∃ j H', Inv (X.blk q3 H3 sc ce fp) ([] ++ pinsAt fp q7.heap) (wipe σ8 ws) H' t ∧ tm j t.heap ∧ (∀ b ∈ fq, H' b = none) ∧ U1 j k H') ?_ m1 ⟨0, H11, I11.weak (wipe_length _ _) (fun j v e => (wipe_some e).1), z11, fun b hb => (f11 b hb).1, u1⟩
        rintro k q12 ⟨j, H12, I12, z12, n12, u12⟩
        rcases turn1 j k H12 u12 with ⟨stop1, zz⟩ | ⟨go1, Z1, hZ1, step1⟩
        · refine thnF (T1.done (X.blk q3 H3 sc ce fp) rfl rfl rfl hc j _ q12 (wipe σ8 ws) H12 (fun _ _ => False) I12 (still1 n12) z12 stop1) fun r q13 ⟨hr, I13⟩ => ?_
          subst hr
          exact fin I13 (l8.trans (wipe_length σ8 ws).symm) k9 zz
        · refine thnF (T1.item (X.blk q3 H3 sc ce fp) rfl rfl rfl hc j _ q12 (wipe σ8 ws) H12 (fun _ _ => False) I12 (still1 n12) z12 go1) fun r q13 ⟨u', hr, h13⟩ => ?_
          subst hr
          refine thnF h13 fun _ q14 ⟨y, H14, I14, r14, y14, z14, n14⟩ => ?_
          have I14' := I14.pinned (still1 n14) (T1.obj _ _ z14)
          refine thnF (pb.run _ q14 (wipe σ8 ws) H14 y u' _ I14' r14 (step1 y H14 y14)) fun _ q15 ⟨σ15, H15, I15, e15, w15⟩ => ?_
          refine thnF (pk.run _ q15 σ15 H15 _ I15 w15) fun kk q16 ⟨yk, H16, I16, r16, w16⟩ => ?_
          refine thnF (pv.run _ q16 σ15 H16 _ I16 w16) fun vv q17 ⟨yv, H17, I17, r17, kvs, kk', ek, hD17, lz, nx⟩ => ?_
          subst ek
          refine d_dictSet (X := X.blk q3 H3 sc ce fp) I17 hD17 lz r16 r17 fun q18 I18 => ?_
          obtain ⟨m', lm, u'⟩ := hZ1 _ nx
          have pin' : ∀ b ∈ fq, ∀ o, q14.heap.get? b = some o → q18.heap.get? b = some o ∧ (upd H17 D (.dK (putK kvs kk' yv))) b = none := fun b hb o e =>
            let y := I18.pin (b, o) (List.mem_append_right _ (List.mem_append_right _ (mem_pinsAt hb e))); ⟨y.1, y.2.1⟩
          refine ⟨m', lm, j + 1, _, I18.unpinned.weak (by rw [← e15, wipe_length]) (fun j v e => by rw [← e15] at e; exact (wipe_some e).1), T1.keep _ _ _ z14 fun b hb o e => (pin' b hb o e).1, fun b hb => ?_, u'⟩
          obtain ⟨o, e, _⟩ := T1.obj _ _ z14 b hb
          exact (pin' b hb o e).2
      exact dc2_startB inner (T1.self X.A 0 _ _ _ z11 inner)
  exact codeAny_compStart_dict loop (T.self X.A 0 _ _ _ z4 loop)
theorem pe_dc2 {kx vx ta ia tb ib : Expr} {sc : Scope} {own : List (Str × Nat)} {ws : List Nat} {p : Pos} {wi wj : TI} {ga gb : TG} {tk tv : TE} (hc : X.calm = true) (hN : X.N.Nodup) (hi : PI X ta ia wi) (ok : BlkOk X.N X.env.scope sc own) (hv : ∀ i ∈ ws, i ∈ own.map (·.2))
    (ha : ∀ (s : Shared) (H : Hp) (C : Addr) (cl : List (Str × Addr)) (fp : List Addr), PG (X.blk s H sc (compEnvC sc cl C X.env) fp) ta ga) (hj : ∀ (s : Shared) (H : Hp) (C : Addr) (cl : List (Str × Addr)) (fp : List Addr), PI (X.blk s H sc (compEnvC sc cl C X.env) fp) tb ib wj)
    (hb : ∀ (s : Shared) (H : Hp) (C : Addr) (cl : List (Str × Addr)) (fp : List Addr), PG (X.blk s H sc (compEnvC sc cl C X.env) fp) tb gb) (hk : ∀ (s : Shared) (H : Hp) (C : Addr) (cl : List (Str × Addr)) (fp : List Addr), PE (X.blk s H sc (compEnvC sc cl C X.env) fp) kx tk)
    (he : ∀ (s : Shared) (H : Hp) (C : Addr) (cl : List (Str × Addr)) (fp : List Addr), PE (X.blk s H sc (compEnvC sc cl C X.env) fp) vx tv) (h1 : ∀ x, foldedSetIterable ia X.env x = pure x := by intro _; rfl) (h2 : ∀ env x, foldedSetIterable ib env x = pure x := by intro _ _; rfl) :
    PE X (dc2 kx vx ta ia tb ib sc p) (tDc2 wi ga wj gb tk tv (own.map (·.2)) ws) := by
  refine ⟨fun pins s σ H Q I h => ?_⟩
  rw [arm_eval_DictComp]
  refine dc2_core hc hN I hi ok hv ha hj hb hk he h1 h2 h fun D C t m H' I' q hn f => ⟨m, hn, fun h'' sb => ?_⟩
  obtain ⟨g0, g1, g2, g3, g4, g5⟩ := f
  exact ⟨.ref D, H', I'.turned (t' := t.toks) (fun b o hb e => (sb.2 b hb).trans e) g0 g1 g3 g4 g5, rfl, q⟩
theorem ps_setDc2 {i : Nat} {y : Str} {py spos : Pos} {kx vx ta ia tb ib : Expr} {sc : Scope} {own : List (Str × Nat)} {ws : List Nat} {p : Pos} {wi wj : TI} {ga gb : TG} {tk tv : TE} (hc : X.calm = true) (hN : X.N.Nodup) (hi : PI X ta ia wi) (ok : BlkOk X.N X.env.scope sc own) (hv : ∀ i ∈ ws, i ∈ own.map (·.2))
    (ha : ∀ (s : Shared) (H : Hp) (C : Addr) (cl : List (Str × Addr)) (fp : List Addr), PG (X.blk s H sc (compEnvC sc cl C X.env) fp) ta ga) (hj : ∀ (s : Shared) (H : Hp) (C : Addr) (cl : List (Str × Addr)) (fp : List Addr), PI (X.blk s H sc (compEnvC sc cl C X.env) fp) tb ib wj)
    (hb : ∀ (s : Shared) (H : Hp) (C : Addr) (cl : List (Str × Addr)) (fp : List Addr), PG (X.blk s H sc (compEnvC sc cl C X.env) fp) tb gb) (hk : ∀ (s : Shared) (H : Hp) (C : Addr) (cl : List (Str × Addr)) (fp : List Addr), PE (X.blk s H sc (compEnvC sc cl C X.env) fp) kx tk)
    (he : ∀ (s : Shared) (H : Hp) (C : Addr) (cl : List (Str × Addr)) (fp : List Addr), PE (X.blk s H sc (compEnvC sc cl C X.env) fp) vx tv) (h1 : ∀ x, foldedSetIterable ia X.env x = pure x := by intro _; rfl) (h2 : ∀ env x, foldedSetIterable ib env x = pure x := by intro _ _; rfl) (hy : X.N[i]? = some y) (hl : X.env.scope.names.lookup y = some .local) (hw : swapsWith (dc2 kx vx ta ia tb ib sc p) (some (.Name y py)) spos.line X.env = pure true) :
    PS X (.Assign [.Name y py] (dc2 kx vx ta ia tb ib sc p) spos) (tAsg (tDc2 wi ga wj gb tk tv (own.map (·.2)) ws) (gName i)) := by
  refine ⟨fun pins s σ H D I h => ?_⟩
  rw [exec_Assign_Name_used _ _ _ _ hw]
  refine wpAny_bind (wpAny_standAt (wpAny_bind ?_))
  show wpAny _ X.A (do let _ ← comprehension (dc2 kx vx ta ia tb ib sc p) sc X.env (firstIterPos [⟨ta, ia, [], 0⟩, ⟨tb, ib, [], 0⟩] p) newDict false (eval ia X.env) (some (assign (.Name y py) X.env))) _ _ s
  refine wpAny_bind (thn (dc2_core (Q := fun x H1 => gName i x σ H1 D.nx) (Qf := fun _ t => SP X pins D .next t) hc hN I hi ok hv ha hj hb hk he h1 h2 h fun L C t m H' I' q hn f => ?_) fun _ t hq => wpAny_pure (wpAny_pure hq))
  show wpAny _ _ (assign (.Name y py) X.env (.ref L)) _ _ _
  refine wpAny_assign_Name (store_ok2 (v := V.ref L) I' hN hy (.inl hl) rfl (fun t2 I2 ⟨a, sb, z⟩ => ?_) (.inr hl))
  obtain ⟨g0, g1, g2, g3, g4, g5⟩ := f
  have ne : C ≠ a := z.elim (fun z => by rw [z]; exact g1) fun z e => g4 y a z e.symm
  exact ⟨m, hn.sameBut sb ne, fun h3 sb3 => ⟨_, H', I2.turned (t' := t2.toks) (fun b o hb e => (sb3.2 b hb).trans e) g0 g1 g3 g4 g5, q⟩⟩
end
end DL
set_option Elab.async false
set_option linter.all false
set_option maxRecDepth 100000
set_option maxHeartbeats 4000000
set_option autoImplicit false
namespace DL
open PySem PySem.Spec PyProof.Rows L2
/-! ### {k: v for a in xs for b in ys}, over data -/
def wKV (wk wv : WE) (acc : List (Key × PyData)) (δ : SEnv) (P : List (Key × PyData) → SEnv → Prop) : Prop :=
  wk Ex0 δ fun r δ1 => ob (view δ1 r) fun w => ob (keyV w) fun k => wv Ex0 δ1 fun r2 δ2 => ob (frz δ2 r2) fun p => acc.length < sizeLine ∧ P (putD acc k p.1) p.2
def wDcB (Gb : WG) (wk wv : WE) (ws : List Nat) : List PyData → List (Key × PyData) → SEnv → (List (Key × PyData) → SEnv → Prop) → Prop
  | [], acc, δ, P => P acc δ
  | y :: ys, acc, δ, P => ob (Gb y (forgetAll δ ws)) fun δ1 => wKV wk wv acc δ1 fun acc' δ2 => wDcB Gb wk wv ws ys acc' δ2 P
def wDcA (Ga : WG) (wj : WI) (Gb : WG) (wk wv : WE) (us ws : List Nat) : List PyData → List (Key × PyData) → SEnv → (List (Key × PyData) → SEnv → Prop) → Prop
  | [], acc, δ, P => P acc δ
  | x :: xs, acc, δ, P => ob (Ga x (forgetAll δ us)) fun δ1 => wj Ex0 δ1 fun ys δ2 => wDcB Gb wk wv ws ys acc δ2 fun acc' δ3 => wDcA Ga wj Gb wk wv us ws xs acc' δ3 P
def wDc2 (wi : WI) (Ga : WG) (wj : WI) (Gb : WG) (wk wv : WE) (us ws : List Nat) : WE := fun Ex δ P => wi Ex δ fun xs δ1 => wDcA Ga wj Gb wk wv us ws xs [] δ1 fun acc δ2 => P (.n (.k acc)) (restore δ1 (forgetAll δ2 us) us)
section
variable {K : PySem.W.Frag} {E0' : XK} {tk tv : TE} {wk wv : WE} {Ga Gb : WG} {wj : WI} {us ws : List Nat}
theorem wKV_mono (sk : ESim K E0' tk wk) (sv : ESim K E0' tv wv) {acc : List (Key × PyData)} {δ : SEnv} {P P' : List (Key × PyData) → SEnv → Prop} (h : ∀ a δ, P a δ → P' a δ) (w : wKV wk wv acc δ P) : wKV wk wv acc δ P' :=
  sk.mono _ _ _ _ _ (fun _ z => z) (fun r δ1 w => w.imp fun a w => w.imp fun k w => sv.mono _ _ _ _ _ (fun _ z => z) (fun r2 δ2 w => w.imp fun p w => ⟨w.1, h _ _ w.2⟩) w) w
theorem wDcB_mono (sk : ESim K E0' tk wk) (sv : ESim K E0' tv wv) : ∀ (ys : List PyData) (acc : List (Key × PyData)) (δ : SEnv) (P P' : List (Key × PyData) → SEnv → Prop), (∀ a δ, P a δ → P' a δ) → wDcB Gb wk wv ws ys acc δ P → wDcB Gb wk wv ws ys acc δ P'
  | [], _, _, _, _, h, w => h _ _ w
  | y :: ys, acc, δ, P, P', h, w => w.imp fun δ1 w => wKV_mono sk sv (fun a δ w => wDcB_mono sk sv ys a δ P P' h w) w
theorem wDcA_mono {tj : TI} (sj : ISim K E0' tj wj) (sk : ESim K E0' tk wk) (sv : ESim K E0' tv wv) : ∀ (xs : List PyData) (acc : List (Key × PyData)) (δ : SEnv) (P P' : List (Key × PyData) → SEnv → Prop), (∀ a δ, P a δ → P' a δ) → wDcA Ga wj Gb wk wv us ws xs acc δ P → wDcA Ga wj Gb wk wv us ws xs acc δ P'
  | [], _, _, _, _, h, w => h _ _ w
  | x :: xs, acc, δ, P, P', h, w => w.imp fun δ1 w => sj.mono _ _ _ _ _ (fun _ z => z) (fun ys δ2 w => wDcB_mono sk sv ys acc δ2 _ _ (fun a δ w => wDcA_mono sj sk sv xs a δ P P' h w) w) w
theorem forget_sub {δ : SEnv} {us ws : List Nat} (h : ∀ i ∈ ws, i ∈ us) : forgetAll (forgetAll δ ws) us = forgetAll δ us := by
  refine List.ext_getElem? fun j => ?_
  rw [forgetAll_at, forgetAll_at, forgetAll_at]
  by_cases hj : j ∈ us
  · rw [if_pos hj, if_pos hj]
    split
    · cases δ[j]? <;> rfl
    · rfl
  · rw [if_neg hj, if_neg hj, if_neg fun z => hj (h j z)]
/-- the key and the thing of an entry, put into the dict under way -/
theorem kv_run {F B1 B H0 : Hp} {vs : List V} {σ2 : L2.St} {δ : SEnv} {D : Addr} {ys : List (Key × V)} {acc : List (Key × PyData)} {P : List (Key × PyData) → SEnv → Prop} {Q : Hp → Prop} (sk : ESim K E0' tk wk) (sv : ESim K E0' tv wv)
    (h : Rep K (upd F D (.dK ys)) B H0 vs σ2 δ) (q : KDs B ys acc) (w : wKV wk wv acc δ P)
    (k : ∀ B' H' ys' acc' δ', Same B B' → Rep K (upd F D (.dK ys')) B' H' vs σ2 δ' → KDs B' ys' acc' → P acc' δ' → Q H') :
    tk σ2 H0 fun y H6 => tv σ2 H6 fun z H7 => ∃ kvs k, y = kV k ∧ H7 D = some (.dK kvs) ∧ kvs.length < sizeLine ∧ Q (upd H7 D (.dK (putK kvs k z))) := by
  refine sk.run Ex0 _ B _ vs σ2 δ _ _ (fun _ _ _ _ _ _ _ _ _ _ _ _ z => z.elim) h w fun B2 H2 y r δ1 s1 h1 q1 w1 => ?_
  obtain ⟨vw, e1, kk, e2, w1⟩ := w1
  have ey := key_ov (view_ok h1 q1 e1) e2
  subst ey
  refine sv.run Ex0 _ B2 H2 vs σ2 δ1 _ _ (fun _ _ _ _ _ _ _ _ _ _ _ _ z => z.elim) h1 w1 fun B3 H3 z r2 δ2 s2 h2 q2 w2 => ?_
  obtain ⟨⟨d, δ3⟩, e3, hl, w3⟩ := w2
  obtain ⟨B4, s4, h4, d4⟩ := frz_ok h2 q2 e3
  refine ⟨ys, kk, rfl, h4.sf D _ upd_same, by rw [kds_length q]; exact hl, ?_⟩
  have s : Same B B4 := s1.trans (s2.trans s4)
  exact k B4 _ (putK ys kk z) _ δ3 s (h4.relay (o' := .dK (putK ys kk z))) (kds_put (q.mono s) d4) w3
/-- the inner loop -/
theorem dcB_run {gb : TG} {tb : List Nat} {F B1 H1 : Hp} {vs : List V} {σ8 : L2.St} {δ1 : SEnv} {J : It} {ds : List PyData} {D : Addr} {ys0 : List (Key × V)} {acc0 : List (Key × PyData)} {P : List (Key × PyData) → SEnv → Prop} {Q : Hp → Prop}
    (sg : GSim K gb Gb tb) (htb : ∀ i ∈ tb, i ∈ ws) (sk : ESim K E0' tk wk) (sv : ESim K E0' tv wv) (h : Rep K (upd F D (.dK ys0)) B1 H1 vs σ8 δ1) (qj : ItOk B1 J ds) (q0 : KDs B1 ys0 acc0) (w : wDcB Gb wk wv ws ds acc0 δ1 P)
    (k : ∀ B' H' ys' acc' δ', Same B1 B' → Rep K (upd F D (.dK ys')) B' H' vs σ8 (forgetAll δ' ws) → KDs B' ys' acc' → P acc' δ' → Q H') :
    ∃ U1 : Nat → Nat → Hp → Prop, (∃ m, U1 0 m H1) ∧ ∀ j n H, U1 j n H →
      (J.stop j H ∧ Q H) ∨ (J.go j H ∧ ∃ Z1 : Hp → Prop, (∀ H', Z1 H' → ∃ k', k' < n ∧ U1 (j + 1) k' H') ∧ ∀ y H', J.yld j H y H' → gb y (wipe σ8 ws) H' fun σ3 H5 => wipe σ3 ws = wipe σ8 ws ∧
        tk σ3 H5 fun y H6 => tv σ3 H6 fun z H7 => ∃ kvs k, y = kV k ∧ H7 D = some (.dK kvs) ∧ kvs.length < sizeLine ∧ Z1 (upd H7 D (.dK (putK kvs k z)))) := by
  refine ⟨fun j n H => n = ds.length - j ∧ j ≤ ds.length ∧ ∃ B' δ' acc ys, Same B1 B' ∧ Rep K (upd F D (.dK ys)) B' H vs σ8 (forgetAll δ' ws) ∧ KDs B' ys acc ∧ wDcB Gb wk wv ws (ds.drop j) acc δ' P,
    ⟨ds.length, by simp, Nat.zero_le _, B1, δ1, acc0, ys0, Same.refl _, h.dim (by rw [forgetAll_length]; exact h.len) (fun i s e => ⟨(forgetAll_get e).1, rfl⟩), q0, w⟩, ?_⟩
  rintro j n H ⟨rfl, hj, B2, δ2, acc, ys, s2, h2, q2, w2⟩
  by_cases hlt : j < ds.length
  · refine .inr ⟨qj.go j H (s2.trans h2.sb) hlt, fun H' => ∃ B' δ' acc ys, Same B1 B' ∧ Rep K (upd F D (.dK ys)) B' H' vs σ8 (forgetAll δ' ws) ∧ KDs B' ys acc ∧ wDcB Gb wk wv ws (ds.drop (j + 1)) acc δ' P, fun H' hz => ⟨ds.length - (j + 1), by omega, rfl, hlt, hz⟩, fun y H' yy => ?_⟩
    rw [List.drop_eq_getElem_cons hlt] at w2
    obtain ⟨δ3, e3, w3⟩ := w2
    have hw : Rep K (upd F D (.dK ys)) B2 H vs (wipe σ8 ws) (forgetAll δ2 ws) := by
      have := h2.wiped ws
      rw [forgetAll_twice] at this; exact this
    have fin : ∀ (B3 H3 : Hp) (y : V), Same B2 B3 → Rep K (upd F D (.dK ys)) B3 H3 vs (wipe σ8 ws) (forgetAll δ2 ws) → DD B3 y ds[j] → gb y (wipe σ8 ws) H3 fun σ3 H5 => wipe σ3 ws = wipe σ8 ws ∧
        tk σ3 H5 fun y H6 => tv σ3 H6 fun z H7 => ∃ kvs k, y = kV k ∧ H7 D = some (.dK kvs) ∧ kvs.length < sizeLine ∧ (∃ B' δ' acc ys, Same B1 B' ∧ Rep K (upd F D (.dK ys)) B' (upd H7 D (.dK (putK kvs k z))) vs σ8 (forgetAll δ' ws) ∧ KDs B' ys acc ∧ wDcB Gb wk wv ws (ds.drop (j + 1)) acc δ' P) := by
      intro B3 H3 y s3 h3 q3
      refine sg.run _ B3 H3 vs (wipe σ8 ws) _ δ3 y _ _ h3 q3 e3 fun σ3 h4 b2 => ⟨by rw [b2.2 ws htb, wipe_wipe], ?_⟩
      refine kv_run (B1 := B1) (Q := fun H' => ∃ B' δ' acc ys, Same B1 B' ∧ Rep K (upd F D (.dK ys)) B' H' vs σ8 (forgetAll δ' ws) ∧ KDs B' ys acc ∧ wDcB Gb wk wv ws (ds.drop (j + 1)) acc δ' P) sk sv h4 (q2.mono s3) w3 fun B5 H5 ys5 acc5 δ5 s5 h5 q5 w5 => ?_
      exact ⟨B5, δ5, acc5, ys5, s2.trans (s3.trans s5), h5.unwiped (by rw [b2.2 ws htb, wipe_wipe]) (by rw [b2.1, wipe_length]), q5, w5⟩
    obtain ⟨B3', s3', g3', q3'⟩ := qj.yld j H B2 y H' ds[j] s2 h2.sb yy (by simp [hlt])
    exact fin B3' H' y s3' (g3' _ _ _ _ _ hw) q3'
  · have e : j = ds.length := by omega
    subst e
    rw [List.drop_length] at w2
    exact .inl ⟨qj.stop _ H (s2.trans h2.sb) (Nat.le_refl _), k B2 H ys acc δ2 s2 h2 q2 w2⟩
/-- the outer loop, its dict at D -/
theorem dcA_run {ga gb : TG} {tj : TI} {ta tb : List Nat} {F B1 H1 : Hp} {vs : List V} {σ : L2.St} {δ1 : SEnv} {J : It} {ds : List PyData} (sa : GSim K ga Ga ta) (hta : ∀ i ∈ ta, i ∈ us) (sj : ISim K E0' tj wj) (sg : GSim K gb Gb tb) (htb : ∀ i ∈ tb, i ∈ ws) (hw : ∀ i ∈ ws, i ∈ us) (sk : ESim K E0' tk wk) (sv : ESim K E0' tv wv)
    (h1 : Rep K F B1 H1 vs σ δ1) (qj : ItOk B1 J ds) {D : Addr} (hD : H1 D = none) {P : List (Key × PyData) → SEnv → Prop} {Qd : Hp → Prop} (w1 : wDcA Ga wj Gb wk wv us ws ds [] δ1 P)
    (k : ∀ B' H' ys acc δ', Same B1 B' → Rep K (upd F D (.dK ys)) B' H' vs σ (forgetAll δ' us) → KDs B' ys acc → P acc δ' → Qd H') :
    ∃ U : Nat → Nat → Hp → Prop, (∃ m, U 0 m (upd H1 D (.dK []))) ∧ ∀ i m H, U i m H →
      (J.stop i H ∧ Qd H) ∨ (J.go i H ∧ ∃ Z : Hp → Prop, (∀ H', Z H' → ∃ m', m' < m ∧ U (i + 1) m' H') ∧ ∀ x H', J.yld i H x H' → ga x (wipe σ us) H' fun σ2 H2 => wipe σ2 us = wipe σ us ∧
        tj σ2 H2 fun J1 H4 => ∃ U1 : Nat → Nat → Hp → Prop, (∃ m, U1 0 m H4) ∧ ∀ j k H, U1 j k H →
          (J1.stop j H ∧ Z H) ∨ (J1.go j H ∧ ∃ Z1 : Hp → Prop, (∀ H', Z1 H' → ∃ k', k' < k ∧ U1 (j + 1) k' H') ∧ ∀ y H', J1.yld j H y H' → gb y (wipe σ2 ws) H' fun σ3 H5 => wipe σ3 ws = wipe σ2 ws ∧
            tk σ3 H5 fun y H6 => tv σ3 H6 fun z H7 => ∃ kvs k, y = kV k ∧ H7 D = some (.dK kvs) ∧ kvs.length < sizeLine ∧ Z1 (upd H7 D (.dK (putK kvs k z))))) := by
  have hF : F D = none := nof h1.sf hD
  refine ⟨fun i m H => m = ds.length - i ∧ i ≤ ds.length ∧ ∃ B' δ' acc ys, Same B1 B' ∧ Rep K (upd F D (.dK ys)) B' H vs σ (forgetAll δ' us) ∧ KDs B' ys acc ∧ wDcA Ga wj Gb wk wv us ws (ds.drop i) acc δ' P,
    ⟨ds.length, by simp, Nat.zero_le _, B1, δ1, [], [], Same.refl _, (h1.lay hD _).dim (by rw [forgetAll_length]; exact h1.len) (fun i s e => ⟨(forgetAll_get e).1, rfl⟩), .nil, w1⟩, ?_⟩
  rintro i m H ⟨rfl, hi, B2, δ2, acc, ys, s2, h2, q2, w2⟩
  by_cases hlt : i < ds.length
  · refine .inr ⟨qj.go i H (s2.trans h2.sb) hlt, fun H' => ∃ B' δ' acc ys, Same B1 B' ∧ Rep K (upd F D (.dK ys)) B' H' vs σ (forgetAll δ' us) ∧ KDs B' ys acc ∧ wDcA Ga wj Gb wk wv us ws (ds.drop (i + 1)) acc δ' P, fun H' hz => ⟨ds.length - (i + 1), by omega, rfl, hlt, hz⟩, fun x H' xx => ?_⟩
    rw [List.drop_eq_getElem_cons hlt] at w2
    obtain ⟨δ3, e3, w3⟩ := w2
    have hwp : Rep K (upd F D (.dK ys)) B2 H vs (wipe σ us) (forgetAll δ2 us) := by
      have := h2.wiped us
      rw [forgetAll_twice] at this; exact this
    have fin : ∀ (B3 H3 : Hp) (x : V), Same B2 B3 → Rep K (upd F D (.dK ys)) B3 H3 vs (wipe σ us) (forgetAll δ2 us) → DD B3 x ds[i] → ga x (wipe σ us) H3 fun σ2 H2 => wipe σ2 us = wipe σ us ∧
        tj σ2 H2 fun J1 H4 => ∃ U1 : Nat → Nat → Hp → Prop, (∃ m, U1 0 m H4) ∧ ∀ j k H, U1 j k H →
          (J1.stop j H ∧ (∃ B' δ' acc ys, Same B1 B' ∧ Rep K (upd F D (.dK ys)) B' H vs σ (forgetAll δ' us) ∧ KDs B' ys acc ∧ wDcA Ga wj Gb wk wv us ws (ds.drop (i + 1)) acc δ' P)) ∨ (J1.go j H ∧ ∃ Z1 : Hp → Prop, (∀ H', Z1 H' → ∃ k', k' < k ∧ U1 (j + 1) k' H') ∧ ∀ y H', J1.yld j H y H' → gb y (wipe σ2 ws) H' fun σ3 H5 => wipe σ3 ws = wipe σ2 ws ∧
            tk σ3 H5 fun y H6 => tv σ3 H6 fun z H7 => ∃ kvs k, y = kV k ∧ H7 D = some (.dK kvs) ∧ kvs.length < sizeLine ∧ Z1 (upd H7 D (.dK (putK kvs k z)))) := by
      intro B3 H3 x s3 h3 q3
      refine sa.run _ B3 H3 vs (wipe σ us) _ δ3 x _ _ h3 q3 e3 fun σ2 h4 b2 => ⟨by rw [b2.2 us hta, wipe_wipe], ?_⟩
      refine sj.run Ex0 _ B3 H3 vs σ2 δ3 _ _ (fun _ _ _ _ _ _ _ _ _ _ _ _ z => z.elim) h4 w3 fun B4 H4 J1 ds1 δ4 s4 h5 qj1 w4 => ?_
      refine dcB_run (Q := fun H => ∃ B' δ' acc ys, Same B1 B' ∧ Rep K (upd F D (.dK ys)) B' H vs σ (forgetAll δ' us) ∧ KDs B' ys acc ∧ wDcA Ga wj Gb wk wv us ws (ds.drop (i + 1)) acc δ' P) sg htb sk sv h5 qj1 (q2.mono (s3.trans s4)) w4 fun B5 H5 ys5 acc5 δ5 s5 h6 q6 w6 => ?_
      refine ⟨B5, δ5, acc5, ys5, s2.trans (s3.trans (s4.trans s5)), ?_, q6, w6⟩
      have := h6.unwiped (σ := σ) (is := us) (by rw [b2.2 us hta, wipe_wipe]) (by rw [b2.1, wipe_length])
      rw [forget_sub hw] at this
      exact this
    obtain ⟨B3', s3', g3', q3'⟩ := qj.yld i H B2 x H' ds[i] s2 h2.sb xx (by simp [hlt])
    exact fin B3' H' x s3' (g3' _ _ _ _ _ hwp) q3'
  · have e : i = ds.length := by omega
    subst e
    rw [List.drop_length] at w2
    exact .inl ⟨qj.stop _ H (s2.trans h2.sb) (Nat.le_refl _), k B2 H ys acc δ2 s2 h2 q2 w2⟩
theorem sim_dc2 {E : XK} {ti tj : TI} {ga gb : TG} {wi : WI} {ta tb : List Nat} (si : ISim K E ti wi) (sa : GSim K ga Ga ta) (hta : ∀ i ∈ ta, i ∈ us) (sj : ISim K E0' tj wj) (sg : GSim K gb Gb tb) (htb : ∀ i ∈ tb, i ∈ ws) (hw : ∀ i ∈ ws, i ∈ us) (sk : ESim K E0' tk wk) (sv : ESim K E0' tv wv) :
    ESim K E (tDc2 ti ga tj gb tk tv us ws) (wDc2 wi Ga wj Gb wk wv us ws) := by
  refine ⟨fun Ex Ex' δ P P' hx h w => si.mono _ _ _ _ _ hx (fun ds δ1 w => wDcA_mono sj sk sv ds [] δ1 _ _ (fun acc δ2 w => h _ _ w) w) w, fun Ex F B H vs σ δ P Q hx h w k => ?_⟩
  refine si.run _ _ _ _ _ _ _ _ _ hx h w fun B1 H1 J ds δ1 s1 h1 q1 w1 => ?_
  intro D hD
  refine dcA_run sa hta sj sg htb hw sk sv h1 q1 hD w1 fun B' H' ys acc δ' s2 h2 qa w2 => ?_
  have hF : F D = none := nof h1.sf hD
  have h3 : Rep K F B' H' vs σ (restore δ1 (forgetAll δ' us) us) := Rep.restored h1 s2 (h2.unlay hF)
  exact k B' H' (.ref D) (.n (.k acc)) _ (s1.trans s2) h3 ⟨D, rfl, foot_bf rfl (h2.dj D _ upd_same) hF, ⟨ys, h2.sf D _ upd_same, qa⟩, off_restore h2.off us⟩ w2
end
section
variable {S : Sg}
theorem de_dc2 {kx vx ta ia tb ib : Expr} {scope : Scope} {own : List (Str × Nat)} {ws t1 t2 : List Nat} {pos : Pos} {wi wj : WI} {Ga Gb : WG} {wk wv : WE} (hCX : CXok S.CX) (hi : DI S ta ia wi) (hblk : blkC S.N S.sc scope own = true) (ha : DG (S.blk scope) ta Ga t1) (hta : t1.all (fun i => (own.map (·.2)).contains i) = true)
    (hj : DI (S.blk scope) tb ib wj) (hb : DG (S.blk scope) tb Gb t2) (htb : t2.all (fun i => ws.contains i) = true) (hws : ws.all (fun i => (own.map (·.2)).contains i) = true) (hk : DE (S.blk scope) kx wk) (hv : DE (S.blk scope) vx wv)
    (h1 : ∀ env x, foldedSetIterable ia env x = pure x := by intro _ _; rfl) (h2 : ∀ env x, foldedSetIterable ib env x = pure x := by intro _ _; rfl) :
    DE S (.DictComp kx vx [⟨ta, ia, [], 0⟩, ⟨tb, ib, [], 0⟩] scope pos) (wDc2 wi Ga wj Gb wk wv (own.map (·.2)) ws) := by
  obtain ⟨ti, pi, si⟩ := hi
  obtain ⟨ga, pa, sa⟩ := ha
  obtain ⟨tj, pj, sj⟩ := hj
  obtain ⟨gb, pb, sb⟩ := hb
  obtain ⟨tk, pk, sk⟩ := hk
  obtain ⟨tv, pv, sv⟩ := hv
  have all : ∀ {a b : List Nat}, a.all (fun i => b.contains i) = true → ∀ i ∈ a, i ∈ b := fun h i hi => by simpa using List.all_eq_true.mp h i hi
  refine ⟨tDc2 ti ga tj gb tk tv (own.map (·.2)) ws, fun c hc => ?_, sim_dc2 si sa (all hta) sj sb (all htb) (all hws) sk sv⟩
  refine DL.pe_dc2 (X := S.g.cx c) hc.calm (by show c.N.Nodup; rw [hc.hN]; exact hc.nd) (pi c hc) (by show BlkOk c.N c.env.scope scope own; rw [hc.hN, hc.hs]; exact blkOk_by hblk) (all hws) (fun s H C cl fp => ?_) (fun s H C cl fp => ?_) (fun s H C cl fp => ?_) (fun s H C cl fp => ?_) (fun s H C cl fp => ?_) (h1 _) h2
  · exact pa _ (blk_ok hCX hc s H C cl fp)
  · exact pj _ (blk_ok hCX hc s H C cl fp)
  · exact pb _ (blk_ok hCX hc s H C cl fp)
  · exact pk _ (blk_ok hCX hc s H C cl fp)
  · exact pv _ (blk_ok hCX hc s H C cl fp)
theorem swc_true {kx vx : Expr} {gs : List Comprehension} {scope : Scope} {pos py : Pos} {y : Str} {l : Nat} {env : Env} (hk : env.scope.kind = .function) (hy : env.scope.names.lookup y = some .local) (hl : (py.line == pos.line) = true)
    (ha : (scope.names.any fun (n, k) => n == y && (k == .local || k == .cell)) = false) : swapsWith (.DictComp kx vx gs scope pos) (some (.Name y py)) l env = pure true := by
  have k1 : env.kindOf y = some .local := hy
  have k2 : env.blockKind = .function := by unfold Env.blockKind; rw [hk]; rfl
  unfold swapsWith
  simp only [k2, k1, ha, Expr.pos, hl]
  rfl
theorem ds_setDc2 {i : Nat} {y : Str} {py spos : Pos} {kx vx ta ia tb ib : Expr} {scope : Scope} {own : List (Str × Nat)} {ws t1 t2 : List Nat} {pos : Pos} {wi wj : WI} {Ga Gb : WG} {wk wv : WE} (hCX : CXok S.CX) (hy : S.N[i]? = some y) (hyl : S.sc.names.lookup y = some .local) (hkd : S.sc.kind = .function)
    (hln : (py.line == pos.line) = true) (hnn : (scope.names.any fun (n, k) => n == y && (k == .local || k == .cell)) = false) (hi : DI S ta ia wi) (hblk : blkC S.N S.sc scope own = true) (ha : DG (S.blk scope) ta Ga t1) (hta : t1.all (fun i => (own.map (·.2)).contains i) = true)
    (hj : DI (S.blk scope) tb ib wj) (hb : DG (S.blk scope) tb Gb t2) (htb : t2.all (fun i => ws.contains i) = true) (hws : ws.all (fun i => (own.map (·.2)).contains i) = true) (hk : DE (S.blk scope) kx wk) (hv : DE (S.blk scope) vx wv)
    (h1 : ∀ env x, foldedSetIterable ia env x = pure x := by intro _ _; rfl) (h2 : ∀ env x, foldedSetIterable ib env x = pure x := by intro _ _; rfl) :
    DS S (.Assign [.Name y py] (.DictComp kx vx [⟨ta, ia, [], 0⟩, ⟨tb, ib, [], 0⟩] scope pos) spos) (wSet i (wDc2 wi Ga wj Gb wk wv (own.map (·.2)) ws)) := by
  obtain ⟨ti, pi, si⟩ := hi
  obtain ⟨ga, pa, sa⟩ := ha
  obtain ⟨tj, pj, sj⟩ := hj
  obtain ⟨gb, pb, sb⟩ := hb
  obtain ⟨tk, pk, sk⟩ := hk
  obtain ⟨tv, pv, sv⟩ := hv
  have all : ∀ {a b : List Nat}, a.all (fun i => b.contains i) = true → ∀ i ∈ a, i ∈ b := fun h i hi => by simpa using List.all_eq_true.mp h i hi
  have sl := sim_dc2 si sa (all hta) sj sb (all htb) (all hws) sk sv
  refine ⟨tAsg (tDc2 ti ga tj gb tk tv (own.map (·.2)) ws) (gName i), fun c hc => ?_, ⟨fun d d' δ h w => sl.mono _ _ _ _ _ h.ex (fun r δ1 w => w.imp fun δ2 w => h.nx _ w) w, fun F B H vs σ δ D d hx h k w => ?_⟩⟩
  · exact ps_setDc2 (X := S.g.cx c) hc.calm (by show c.N.Nodup; rw [hc.hN]; exact hc.nd) (pi c hc) (by show BlkOk c.N c.env.scope scope own; rw [hc.hN, hc.hs]; exact blkOk_by hblk) (all hws) (fun s H C cl fp => pa _ (blk_ok hCX hc s H C cl fp)) (fun s H C cl fp => pj _ (blk_ok hCX hc s H C cl fp)) (fun s H C cl fp => pb _ (blk_ok hCX hc s H C cl fp)) (fun s H C cl fp => pk _ (blk_ok hCX hc s H C cl fp)) (fun s H C cl fp => pv _ (blk_ok hCX hc s H C cl fp)) (h1 _) h2
      (by show c.N[i]? = _; rw [hc.hN]; exact hy) (by show c.env.scope.names.lookup y = _; rw [hc.hs]; exact hyl) (swc_true (by show c.env.scope.kind = _; rw [hc.hs]; exact hkd) (by show c.env.scope.names.lookup y = _; rw [hc.hs]; exact hyl) hln hnn)
  · refine sl.run _ _ _ _ _ _ _ _ _ hx h w fun B1 H1 v r δ1 s1 h1 q1 w1 => ?_
    obtain ⟨δ2, e1, w1⟩ := w1
    obtain ⟨B2, s2, h2⟩ := asgn_ok h1 q1 e1
    exact k.nx B2 _ H1 δ2 (s1.trans s2) h2 w1
end
end DL
set_option Elab.async false
set_option linter.all false
set_option maxRecDepth 100000
set_option maxHeartbeats 6400000
set_option autoImplicit false
namespace DL
open PySem PySem.Spec PyProof.Rows L2
section
variable {P : Program} {w : World} {A : Around} {E : Value → Shared → Prop} {s : Shared}
abbrev bareSet (w : World) : Obj := { cls := .type "set", dict := none, data := .set #[] 0 (.fresh 0 0 (!w.params.followText "set-order")) }
/-- set(xs), xs a list of ints -/
theorem set_of_ints {l : Addr} {its : Array Value} (ns : List Int) {Q : Value → Shared → Prop} (ha : A.handled = none) (hl : s.heap.IsList l its) (hi : IntsAre its.toList ns) (hb : ns.length + 1 < scanBound)
    (h : ∀ (g : Heap) (tk c : Nat), SetR w g s.heap.objs.size (fun j => decide (j ∈ ns)) c → c ≤ ns.length → (∀ b o, s.heap.get? b = some o → g.get? b = some o) → Q (.ref s.heap.objs.size) { s with heap := g, toks := tk }) :
    wpAny (model P w) A (call (.type "set") [.ref l]) Q E s := by
  have hsz : its.size = ns.length := by rw [← Array.length_toList]; exact IntsAre.length hi
  obtain ⟨c, tl, hmro⟩ := F.called_set.mro
  have m1 := F.called_set.made
  have m2 := F.called_set.sub
  refine wpAny_call (codeAny_of_tree ?_)
  show wpAny _ _ (callAny (.type "set") _) _ _ _
  refine wpAny_pure ⟨Code.quiet_builtin _ (by decide +kernel), codeAny_builtin F.entry_type_call ?_⟩
  rw [Around.under_plain (weight_type_call_type "set" [.ref l] []) rfl]
  have m3 := F.called_set.notType
  have m4 := F.called_set.canCreate
  have m5 := F.typeCall_set_1 (.ref l)
  repeat (any_goals (first | assumption | wp_step))

  refine codeAny_mono (code_set_led1 (.ref l) (E := E) (Q₁ := fun ob t => ob = .ref s.heap.objs.size ∧ t = { s with heap := s.heap.push { cls := .type "set", dict := none, data := .set #[] 0 (.fresh 0 0 (!w.params.followText "set-order")) } }) ⟨rfl, rfl⟩) fun r t ht => ?_
  cases r with
  | error e => exact ht
  | ok fl =>
    cases fl with
    | ret ob =>
      obtain ⟨rfl, rfl⟩ := ht
      have n1 : (s.heap.push { cls := .type "set", dict := none, data := .set #[] 0 (.fresh 0 0 (!w.params.followText "set-order")) }).get? s.heap.objs.size = some (bareSet w) := Heap.get?_push_size _ rfl
      have n2 : Shared.TypeIs { s with heap := s.heap.push { cls := .type "set", dict := none, data := .set #[] 0 (.fresh 0 0 (!w.params.followText "set-order")) } } (.ref s.heap.objs.size) "set" := ⟨_, n1, rfl⟩
      have n3 := F.called_set.init.lookup
      have n4 := F.called_set.init.bind (.ref s.heap.objs.size)
      repeat (any_goals (first | assumption | wp_step))

      refine codeAny_mono (codeAny_call_builtin (R := wants (fun r t2 => r = .none ∧ ∃ g tk c, t2 = { s with heap := g, toks := tk } ∧ SetR w g s.heap.objs.size (fun j => decide (j ∈ ns)) c ∧ c ≤ ns.length ∧ (∀ b o, s.heap.get? b = some o → g.get? b = some o)) E)
          F.called_set.init.plain F.entry_set_init (check_set_init_1 n2 ?_)) fun r2 t2 ht2 => ?_
      · obtain ⟨⟨k1, k2, k3, k4⟩, hol, e1, nl, e2⟩ := hl
        simp only at e1 e2
        subst e1; subst e2
        have up : (s.heap.push { cls := .type "set", dict := none, data := .set #[] 0 (.fresh 0 0 (!w.params.followText "set-order")) }).get? l = some { cls := .type "list", dict := k2, data := .seq its nl, slots := k4 } := Heap.get?_push_of_some _ hol
        have o1 := F.sub_list_set
        have o2 := F.sub_list_frozenset
        have o3 : (Value.type "list" == Value.type "dict") = false := by decide
        have isl : (s.heap.push { cls := .type "set", dict := none, data := .set #[] 0 (.fresh 0 0 (!w.params.followText "set-order")) }).IsList l its := ⟨_, up, rfl, nl, rfl⟩
        unfold Builtin.«set.__init__» noKeywords Builtin.Frozenset.updateFrom
        generalize hg : pyIter = G
        wp_walk
        subst hg

        refine wpAny_pyIter_list isl (wpAny_bind (wpAny_runValue ?_))
        have lt : l < s.heap.objs.size := Heap.lt_size hol
        have a3 : A.in1.in1.in1.handled = none := by simp [ha]
        have zz : (s.heap.push (bareSet w)).objs.size = s.heap.objs.size + 1 := Heap.size_push ..
        have neI : l ≠ (s.heap.push { cls := .type "set", dict := none, data := .set #[] 0 (.fresh 0 0 (!w.params.followText "set-order")) }).objs.size := Nat.ne_of_lt (by rw [zz]; exact Nat.lt_succ_of_lt lt)
        have out : s.heap.objs.size ∉ [(s.heap.push { cls := .type "set", dict := none, data := .set #[] 0 (.fresh 0 0 (!w.params.followText "set-order")) }).objs.size, l] := by
          rw [zz]; intro hm
          rcases List.mem_cons.mp hm with e | e
          · exact absurd e (Nat.ne_of_lt (Nat.lt_succ_self _))
          · exact absurd (List.mem_singleton.mp e) (Nat.ne_of_gt lt)
        refine set_update_ints ((Walks.list a3 _ l neI its).toS) s.heap.objs.size out ns hsz hb (fun i v hv => ?_) (its.size - 0) 0 _ (by omega) (Nat.zero_le _) ⟨⟨_, Heap.get?_push_size _ rfl, rfl, rfl⟩, (isl.push _)⟩ ⟨0, Nat.le_refl 0, setR_new_at (Heap.get?_push_of_some _ n1)⟩ (fun t3 c3 hm hc3 hS => ?_)
        · have lti : i < ns.length := by rw [← hsz]; exact (Array.getElem?_eq_some_iff.mp hv).1
          obtain ⟨t, e⟩ := IntsAre.int_at hi i v (by rw [Array.getElem?_toList]; exact hv)
          exact ⟨ns[i], t, List.getElem?_eq_getElem lti, by rw [e, List.getD_eq_getElem?_getD, List.getElem?_eq_getElem lti]; rfl⟩
        · obtain ⟨g, gg, dd, tk, oo⟩ := t3
          cases (hm.gens : gg = s.gens)
          cases (hm.drawn : dd = s.drawn)
          cases (hm.os : oo = s.os)
          refine wpAny_pure ?_
          show wpAny _ _ (ret Value.none) _ _ _
          rw [hsz] at hc3
          refine wpAny_pure ⟨rfl, g, tk, c3, rfl, hS, hc3, fun b o e => hm.heap b o ?_ (Heap.get?_push_of_some _ (Heap.get?_push_of_some _ e))⟩
          have b0 : b < s.heap.objs.size := Heap.lt_size e
          intro hq
          rcases List.mem_cons.mp hq with e | e
          · exact absurd e (Nat.ne_of_lt b0)
          · exact absurd ((List.mem_singleton.mp e).trans zz) (Nat.ne_of_lt (Nat.lt_succ_of_lt b0))
      · cases r2 with
        | error e => exact ht2
        | ok fl2 =>
          cases fl2 with
          | ret r =>
            obtain ⟨rfl, g, tk, c3, rfl, hS, hc3, hk⟩ := ht2
            repeat (any_goals (first | assumption | wp_step))
            exact h _ _ _ hS hc3 hk
          | _ => exact ht2.elim
    | _ => exact ht.elim
end
end DL
set_option Elab.async false
set_option linter.all false
set_option maxRecDepth 100000
set_option maxHeartbeats 4000000
set_option autoImplicit false
namespace DL
open PySem PySem.Spec PyProof.Rows L2
/-! ### new things held while more is reckoned -/
open Classical in
noncomputable def layF (F H : Hp) (f : Addr → Prop) : Hp := fun p => if f p then H p else F p
theorem layF_in {F H : Hp} {f : Addr → Prop} {p : Addr} (h : f p) : layF F H f p = H p := by unfold layF; rw [if_pos h]
theorem layF_out {F H : Hp} {f : Addr → Prop} {p : Addr} (h : ¬ f p) : layF F H f p = F p := by unfold layF; rw [if_neg h]
def rfoot (H : Hp) (v : V) : R → Addr → Prop
  | .n c, p => ∃ a, v = .ref a ∧ Foot H a c p
  | _, _ => False
section
variable {K : PySem.W.Frag} {F B H : Hp} {vs : List V} {σ : L2.St} {δ : SEnv} {v : V} {r : R}
theorem rfoot_ok (h : RepR K F B H σ δ v r) {p : Addr} (f : rfoot H v r p) : B p = none ∧ F p = none ∧ ∃ u, H p = some u := by
  cases r with
  | n c =>
    obtain ⟨a, rfl, hBF, qc, _⟩ := h
    obtain ⟨a', e, f⟩ := f
    cases e
    exact ⟨(hBF p f).1, (hBF p f).2, qc.there f⟩
  | _ => exact f.elim
theorem rfoot_off (h : RepR K F B H σ δ v r) : Off H σ δ (rfoot H v r) := by
  cases r with
  | n c =>
    obtain ⟨a, rfl, _, _, off⟩ := h
    intro i b c' a' p e ea f f'
    obtain ⟨a0, e0, f'⟩ := f'
    cases e0
    exact off i b c' a' p e ea f f'
  | _ => exact fun _ _ _ _ _ _ _ _ z => z.elim
theorem Rep.hold (h : Rep K F B H vs σ δ) (q : RepR K F B H σ δ v r) : Rep K (layF F H (rfoot H v r)) B H vs σ δ := by
  refine ⟨h.sb, fun p u e => ?_, fun p u e => ?_, h.len, fun i s e => ?_, h.apart, h.bor, h.nt⟩
  · by_cases f : rfoot H v r p
    · rw [layF_in f] at e; exact e
    · rw [layF_out f] at e; exact h.sf p u e
  · by_cases f : rfoot H v r p
    · exact (rfoot_ok q f).1
    · rw [layF_out f] at e; exact h.dj p u e
  · obtain ⟨w, e1, q1⟩ := h.ok i s e
    refine ⟨w, e1, ?_⟩
    cases s with
    | d d => exact q1
    | w d => exact q1
    | o b c =>
      obtain ⟨a, e2, hBF, q2⟩ := q1
      subst e2
      refine ⟨a, rfl, fun p f => ⟨(hBF p f).1, ?_⟩, q2⟩
      rw [layF_out (rfoot_off q i b c a p e e1 f)]
      exact (hBF p f).2
theorem hold_xok {E : XK} {Ex : Exc → Prop} (q : RepR K F B H σ δ v r) (hx : XOk F B E Ex) : XOk (layF F H (rfoot H v r)) B E Ex := by
  have up : ∀ a o, F a = some o → layF F H (rfoot H v r) a = some o := fun a o e => by
    by_cases f : rfoot H v r a
    · have := (rfoot_ok q f).2.1; rw [e] at this; cases this
    · rw [layF_out f]; exact e
  exact fun cls da B' H' fs fds s1 s2 s3 s4 e f x => hx cls da B' H' fs fds s1 s2 (fun a o z => s3 a o (up a o z)) (fun a o z => s4 a o (up a o z)) e f x
/-- behind what was reckoned meanwhile -/
theorem held {B2 H2 : Hp} {δ2 : SEnv} (q : RepR K F B H σ δ v r) (no : ∀ i, r ≠ .o i) (s : Same B B2) (h : Rep K (layF F H (rfoot H v r)) B2 H2 vs σ δ2) : Rep K F B2 H2 vs σ δ2 ∧ RepR K F B2 H2 σ δ2 v r ∧ (∀ p, rfoot H2 v r p ↔ rfoot H v r p) := by
  have keep : ∀ p, rfoot H v r p → H2 p = H p ∧ B2 p = none := fun p f => by
    obtain ⟨u, hu⟩ := (rfoot_ok q f).2.2
    have e : layF F H (rfoot H v r) p = some u := by rw [layF_in f]; exact hu
    exact ⟨by rw [hu]; exact h.sf p u e, h.dj p u e⟩
  have out : ∀ p u, F p = some u → ¬ rfoot H v r p := fun p u e f => by have := (rfoot_ok q f).2.1; rw [e] at this; cases this
  have offl : ∀ {i : Nat} {b : Bool} {c : Cont} {a p : Addr}, δ2[i]? = some (some (.o b c)) → σ[i]? = some (some (.ref a)) → Foot H2 a c p → ¬ rfoot H v r p := fun e ea f g => by
    have z := ((h.own_up e ea).1 _ f).2
    obtain ⟨u, hu⟩ := (rfoot_ok q g).2.2
    rw [layF_in g, hu] at z; cases z
  refine ⟨⟨h.sb, fun p u e => h.sf p u (by rw [layF_out (out p u e)]; exact e), fun p u e => h.dj p u (by rw [layF_out (out p u e)]; exact e), h.len, fun i s' e => ?_, h.apart, h.bor, h.nt⟩, ?_⟩
  · obtain ⟨w, e1, q1⟩ := h.ok i s' e
    refine ⟨w, e1, ?_⟩
    cases s' with
    | d d => exact q1
    | w d => exact q1
    | o b c =>
      obtain ⟨a, e2, hBF, q2⟩ := q1
      subst e2
      refine ⟨a, rfl, fun p f => ⟨(hBF p f).1, ?_⟩, q2⟩
      have z := (hBF p f).2
      rw [layF_out (offl e e1 f)] at z
      exact z
  · cases r with
    | d d => exact ⟨DD.mono s q, fun _ => Iff.rfl⟩
    | w d => exact ⟨q, fun _ => Iff.rfl⟩
    | o i => exact absurd rfl (no i)
    | n c =>
      obtain ⟨a, rfl, hBF, qc, off⟩ := q
      have k2 : ∀ p, Foot H a c p → H2 p = H p ∧ B2 p = none := fun p f => keep p ⟨a, rfl, f⟩
      have fe : ∀ p, Foot H2 a c p ↔ Foot H a c p := fun p => foot_eq fun p f => (k2 p f).1
      refine ⟨⟨a, rfl, fun p f => ⟨(k2 p ((fe p).mp f)).2, (hBF p ((fe p).mp f)).2⟩, qc.mono s fun p f => (k2 p f).1, fun i b c' a' p e ea f f' => offl e ea f ⟨a, rfl, (fe p).mp f'⟩⟩, fun p => ?_⟩
      exact ⟨fun ⟨a', e, f⟩ => by cases e; exact ⟨a, rfl, (fe p).mp f⟩, fun ⟨a', e, f⟩ => by cases e; exact ⟨a, rfl, (fe p).mpr f⟩⟩
/-- things told one beside the other, new ones apart -/
def RepO (K : PySem.W.Frag) (F B H : Hp) (σ : L2.St) (δ : SEnv) (ws : List V) (rs : List R) : Prop := Paired (fun v r => RepR K F B H σ δ v r ∧ ∀ i, r ≠ .o i) ws rs ∧
  ∀ (i j : Nat) (v w : V) (r r' : R) (p : Addr), i ≠ j → ws[i]? = some v → ws[j]? = some w → rs[i]? = some r → rs[j]? = some r' → rfoot H v r p → ¬ rfoot H w r' p
end
abbrev WAO := WA
structure AOSim (K : PySem.W.Frag) (E : XK) (t : TA) (W : WA) : Prop where
  mono : ∀ (Ex Ex' : XP) (δ : SEnv) (P P' : List R → SEnv → Prop), (∀ e, Ex e → Ex' e) → (∀ r δ', P r δ' → P' r δ') → W Ex δ P → W Ex' δ P'
  run : ∀ (Ex : XP) (F B H : Hp) (vs : List V) (σ : L2.St) (δ : SEnv) (P : List R → SEnv → Prop) (Q : List V → Hp → Prop), XOk F B E Ex → Rep K F B H vs σ δ → W Ex δ P →
    (∀ B' H' ws rs δ', Same B B' → Rep K F B' H' vs σ δ' → RepO K F B' H' σ δ' ws rs → P rs δ' → Q ws H') → t σ H Q
def DAO (S : Sg) (es : List Expr) (W : WA) : Prop := ∃ t, (∀ c, S.ok c → PA (S.g.cx c) es t) ∧ AOSim S.g.K S.E t W
/-- an own list under a name is taken as data -/
def frzN (δ : SEnv) : R → Option (R × SEnv)
  | .o i => (frz δ (.o i)).map fun p => (.d p.1, p.2)
  | r => some (r, δ)
def wConsO (wa : WE) (wr : WA) : WA := fun Ex δ P => wa Ex δ fun r δ1 => ob (frzN δ1 r) fun p => wr Ex p.2 fun rs δ2 => P (p.1 :: rs) δ2
theorem frzN_ok {K : PySem.W.Frag} {F B H : Hp} {vs : List V} {σ : L2.St} {δ δ' : SEnv} {v : V} {r r' : R} (h : Rep K F B H vs σ δ) (q : RepR K F B H σ δ v r) (e : frzN δ r = some (r', δ')) : ∃ B', Same B B' ∧ Rep K F B' H vs σ δ' ∧ RepR K F B' H σ δ' v r' ∧ ∀ i, r' ≠ .o i := by
  cases r with
  | d d => cases e; exact ⟨B, Same.refl _, h, q, fun _ z => nomatch z⟩
  | w d => cases e; exact ⟨B, Same.refl _, h, q, fun _ z => nomatch z⟩
  | n c => cases e; exact ⟨B, Same.refl _, h, q, fun _ z => nomatch z⟩
  | o i =>
    simp only [frzN] at e
    obtain ⟨⟨d, δ1⟩, e1, e⟩ := Option.map_eq_some_iff.mp e
    cases e
    obtain ⟨B', s, h', q'⟩ := frz_ok h q e1
    exact ⟨B', s, h', q', fun _ z => nomatch z⟩
section
variable {S : Sg}
theorem dao_nil : DAO S [] wNil := ⟨tNil, fun _ _ => pa_nil, ⟨fun _ _ δ P P' _ h w => h _ _ w, fun Ex F B H vs σ δ P Q hx h w k => k B H [] [] δ (Same.refl _) h ⟨.nil, fun i j v w r r' p _ e => by simp at e⟩ w⟩⟩
theorem dao_cons {e : Expr} {es : List Expr} {wa : WE} {wr : WA} (ha : DE S e wa) (hr : DAO S es wr) (hs : ∀ env, starEach (e :: es) env = (false, eval e env) :: starEach es env := by intro _; rfl) : DAO S (e :: es) (wConsO wa wr) := by
  obtain ⟨ta, pa, sa⟩ := ha
  obtain ⟨tr, pr, sr⟩ := hr
  refine ⟨_, fun c hc => pa_cons (pa c hc) (pr c hc) (hs _), ⟨fun Ex Ex' δ P P' hx h w => ?_, fun Ex F B H vs σ δ P Q hx h w k => ?_⟩⟩
  · exact sa.mono _ _ _ _ _ hx (fun r δ1 w => w.imp fun p w => sr.mono _ _ _ _ _ hx (fun rs δ2 w => h _ _ w) w) w
  · refine sa.run _ _ _ _ _ _ _ _ _ hx h w fun B1 H1 x r0 δ0 s1 h0 q0 w1 => ?_
    obtain ⟨⟨r, δ1⟩, e1, w1⟩ := w1
    obtain ⟨B2, s2, h1, q1, no⟩ := frzN_ok h0 q0 e1
    have s12 := s1.trans s2
    refine sr.run Ex _ B2 H1 vs σ δ1 _ _ (hold_xok q1 (hx.up s12)) (h1.hold q1) w1 fun B3 H3 ws rs δ2 s3 h3 q3 w3 => ?_
    obtain ⟨h4, q4, fe⟩ := held q1 no s3 h3
    refine k B3 H3 (x :: ws) (r :: rs) δ2 (s12.trans s3) h4 ⟨.cons ⟨q4, no⟩ (Paired.mapP q3.1 fun v r' z => ⟨?_, z.2⟩), ?_⟩ w3
    · obtain ⟨z, _⟩ := z
      cases r' with
      | d d => exact z
      | w d => exact z
      | o i => exact z
      | n c =>
        obtain ⟨a, rfl, hBF, qc, off⟩ := z
        refine ⟨a, rfl, fun p f => ⟨(hBF p f).1, ?_⟩, qc, off⟩
        have y := (hBF p f).2
        by_cases g : rfoot H1 x r p
        · exact (rfoot_ok q1 g).2.1
        · rw [layF_out g] at y; exact y
    · have apart : ∀ (j : Nat) (w : V) (r' : R) (p : Addr), ws[j]? = some w → rs[j]? = some r' → rfoot H3 x r p → ¬ rfoot H3 w r' p := by
        intro j w r' p e2 e3 f f'
        obtain ⟨y, e4, z⟩ := paired_at q3.1 e2
        rw [e3] at e4; cases e4
        have y := (rfoot_ok z.1 f').2.1
        have g := (fe p).mp f
        obtain ⟨u, hu⟩ := (rfoot_ok q1 g).2.2
        rw [layF_in g, hu] at y; cases y
      intro i j v w r1 r2 p ne e2 e3 e4 e5 f f'
      cases i with
      | zero =>
        cases j with
        | zero => exact ne rfl
        | succ j => simp at e2 e4; subst e2 e4; exact apart j w r2 p (by simpa using e3) (by simpa using e5) f f'
      | succ i =>
        cases j with
        | zero => simp at e3 e5; subst e3 e5; exact apart i v r1 p (by simpa using e2) (by simpa using e4) f' f
        | succ j => exact q3.2 i j v w r1 r2 p (fun z => ne (by rw [z])) (by simpa using e2) (by simpa using e3) (by simpa using e4) (by simpa using e5) f f'
end
/-! ### stored -/
def stN (δ : SEnv) (i : Nat) : R → Option SEnv
  | .d d => some (δ.set i (some (.d d)))
  | .w d => some (δ.set i (some (.w d)))
  | .n c => some (δ.set i (some (.o false c)))
  | .o _ => none
theorem stN_ok {K : PySem.W.Frag} {F B H : Hp} {vs : List V} {σ : L2.St} {δ δ' : SEnv} {i : Nat} {v : V} {r : R} (h : Rep K F B H vs σ δ) (q : RepR K F B H σ δ v r) (e : stN δ i r = some δ') : Rep K F B H vs (σ.set i (some v)) δ' ∧
    ∀ (w : V) (r' : R), RepR K F B H σ δ w r' → (∀ k, r' ≠ .o k) → (∀ p, rfoot H v r p → ¬ rfoot H w r' p) → RepR K F B H (σ.set i (some v)) δ' w r' := by
  have gen : ∀ (s : Sl), δ' = δ.set i (some s) → (∀ b c a p, s = .o b c → v = .ref a → Foot H a c p → rfoot H v r p) → Rep K F B H vs (σ.set i (some v)) δ' → ∀ (w : V) (r' : R), RepR K F B H σ δ w r' → (∀ k, r' ≠ .o k) → (∀ p, rfoot H v r p → ¬ rfoot H w r' p) → RepR K F B H (σ.set i (some v)) δ' w r' := by
    intro s ed hs hR w r' q' no dis
    cases r' with
    | d d => exact q'
    | w d => exact q'
    | o k => exact absurd rfl (no k)
    | n c =>
      obtain ⟨a, rfl, hBF, qc, off⟩ := q'
      refine ⟨a, rfl, hBF, qc, fun j b c' a' p e1 e2 f f' => ?_⟩
      subst ed
      by_cases hj : j = i
      · subst hj
        have z := set_look e1
        cases z
        rw [List.getElem?_set_self (len_lt h e1)] at e2
        cases e2
        exact dis p (hs b c' a' p rfl rfl f) ⟨a, rfl, f'⟩
      · rw [List.getElem?_set_ne (Ne.symm hj)] at e1 e2
        exact off j b c' a' p e1 e2 f f'
  cases r with
  | d d => cases e; have hR := h.store i v (.d d) q (fun _ z => nomatch z) (fun a _ c z => nomatch z); exact ⟨hR, gen (.d d) rfl (fun _ _ _ _ z => nomatch z) hR⟩
  | w d => cases e; have hR := h.store i v (.w d) q (fun _ z => nomatch z) (fun a _ c z => nomatch z); exact ⟨hR, gen (.w d) rfl (fun _ _ _ _ z => nomatch z) hR⟩
  | o k => cases e
  | n c =>
    cases e
    obtain ⟨a, rfl, hBF, qc, off⟩ := q
    have hR := h.store i (.ref a) (.o false c) ⟨a, rfl, hBF, qc⟩ (fun _ z => nomatch z) (fun a' ea' c' ec => by cases ea'; cases ec; exact off)
    exact ⟨hR, gen (.o false c) rfl (fun b c' a' p z ea f => by cases z; cases ea; exact ⟨a, rfl, f⟩) hR⟩
def stNs (δ : SEnv) : List Nat → List R → Option SEnv
  | [], [] => some δ
  | i :: is, r :: rs => (stN δ i r).bind fun δ1 => stNs δ1 is rs
  | _, _ => none
def sets (σ : L2.St) : List Nat → List V → L2.St
  | i :: is, v :: vs => sets (σ.set i (some v)) is vs
  | _, _ => σ
theorem stNs_ok {K : PySem.W.Frag} {F B H : Hp} {vs : List V} : ∀ {is : List Nat} {rs : List R} {ws : List V} {σ : L2.St} {δ δ' : SEnv}, Rep K F B H vs σ δ → RepO K F B H σ δ ws rs → stNs δ is rs = some δ' → Rep K F B H vs (sets σ is ws) δ'
  | [], [], ws, σ, δ, δ', h, q, e => by cases e; obtain ⟨q, _⟩ := q; cases q; exact h
  | [], _ :: _, _, _, _, _, _, _, e => nomatch e
  | _ :: _, [], _, _, _, _, _, _, e => nomatch e
  | i :: is, r :: rs, ws, σ, δ, δ', h, q, e => by
    obtain ⟨q, dis⟩ := q
    cases q with
    | @cons v _ ws _ q1 q2 =>
      simp only [stNs] at e
      obtain ⟨δ1, e1, e⟩ := Option.bind_eq_some_iff.mp e
      obtain ⟨h1, up⟩ := stN_ok h q1.1 e1
      show Rep K F B H vs (sets (σ.set i (some v)) is ws) δ'
      refine stNs_ok (is := is) (rs := rs) (σ := σ.set i (some v)) h1 ⟨paired_mono q2 fun j w r' e2 e3 z => ⟨up w r' z.1 z.2 fun p f => dis 0 (j + 1) v w r r' p (by omega) rfl (by simpa using e2) rfl (by simpa using e3) f, z.2⟩, fun a b w w' r1 r2 p ne e2 e3 e4 e5 f => ?_⟩ e
      exact dis (a + 1) (b + 1) w w' r1 r2 p (by omega) (by simpa using e2) (by simpa using e3) (by simpa using e4) (by simpa using e5) f
/-- a, b = x, y and a, b, c = x, y, z -/
def wParO (is : List Nat) (wr : WA) : WS := fun d δ => wr d.ex δ fun rs δ1 => ob (stNs δ1 is rs) fun δ2 => d.nx δ2
section
variable {S : Sg}
theorem ds_parO2 {i j : Nat} {x y : Str} {a b : Expr} {wr : WA} {px py pt pos : Pos} {kt k2 : Nat} {pt2 : Pos} (hi : S.N[i]? = some x) (hj : S.N[j]? = some y) (hij : i ≠ j) (hx : S.sc.names.lookup x = some .local) (hy : S.sc.names.lookup y = some .local) (ha : DAO S [a, b] wr)
    (hw : ∀ env : Env, swappedStores [.Tuple [.Name x px, .Name y py] kt pt] (.Tuple [a, b] k2 pt2) { env with scope := S.sc } = pure (some [x, y]))
    (hs : ∀ env, swapsWithSole [.Tuple [.Name x px, .Name y py] kt pt] (.Tuple [a, b] k2 pt2) pos.line env = pure false := by intro _; rfl) :
    DS S (.Assign [.Tuple [.Name x px, .Name y py] kt pt] (.Tuple [a, b] k2 pt2) pos) (wParO [i, j] wr) := by
  obtain ⟨t, p, s⟩ := ha
  refine ⟨tPar i j t, fun c hc => ps_par (X := S.g.cx c) hc.calm (by show c.N.Nodup; rw [hc.hN]; exact hc.nd) (by show c.N[i]? = _; rw [hc.hN]; exact hi) (by show c.N[j]? = _; rw [hc.hN]; exact hj) hij (by show c.env.scope.names.lookup x = _; rw [hc.hs]; exact hx) (by show c.env.scope.names.lookup y = _; rw [hc.hs]; exact hy) (p c hc) (by have q := hw c.env; rw [← hc.hs] at q; exact q) (hs _), ⟨fun d d' δ h w => s.mono _ _ _ _ _ h.ex (fun rs δ1 w => w.imp fun p w => h.nx _ w) w, fun F B H vs σ δ D d hx h k w => ?_⟩⟩
  refine s.run _ _ _ _ _ _ _ _ _ hx h w fun B1 H1 ws rs δ1 s1 h1 q1 w1 => ?_
  obtain ⟨δ2, e1, w1⟩ := w1
  have h2 := stNs_ok h1 q1 e1
  match rs, ws, q1.1, e1 with
  | [r1, r2], [v, w], _, e1 => exact ⟨v, w, rfl, k.nx B1 _ H1 _ s1 h2 w1⟩
  | [], _, _, e1 => exact nomatch e1
  | [_], _, _, e1 => simp only [stNs] at e1; obtain ⟨_, _, e1⟩ := Option.bind_eq_some_iff.mp e1; exact nomatch e1
  | _ :: _ :: _ :: _, _, _, e1 => simp only [stNs] at e1; obtain ⟨_, _, e1⟩ := Option.bind_eq_some_iff.mp e1; obtain ⟨_, _, e1⟩ := Option.bind_eq_some_iff.mp e1; exact nomatch e1
theorem ds_parO3 {i j l : Nat} {x y z : Str} {a b c : Expr} {wr : WA} {px py pz pt pos : Pos} {kt k2 : Nat} {pt2 : Pos} (hi : S.N[i]? = some x) (hj : S.N[j]? = some y) (hl : S.N[l]? = some z) (hij : i ≠ j) (hil : i ≠ l) (hjl : j ≠ l)
    (hx : S.sc.names.lookup x = some .local) (hy : S.sc.names.lookup y = some .local) (hz : S.sc.names.lookup z = some .local) (ha : DAO S [a, b, c] wr)
    (hw : ∀ env : Env, swappedStores [.Tuple [.Name x px, .Name y py, .Name z pz] kt pt] (.Tuple [a, b, c] k2 pt2) { env with scope := S.sc } = pure (some [x, y, z]))
    (hs : ∀ env, swapsWithSole [.Tuple [.Name x px, .Name y py, .Name z pz] kt pt] (.Tuple [a, b, c] k2 pt2) pos.line env = pure false := by intro _; rfl) :
    DS S (.Assign [.Tuple [.Name x px, .Name y py, .Name z pz] kt pt] (.Tuple [a, b, c] k2 pt2) pos) (wParO [i, j, l] wr) := by
  obtain ⟨t, p, s⟩ := ha
  refine ⟨tPar3 i j l t, fun c hc => ps_par3 (X := S.g.cx c) hc.calm (by show c.N.Nodup; rw [hc.hN]; exact hc.nd) (by show c.N[i]? = _; rw [hc.hN]; exact hi) (by show c.N[j]? = _; rw [hc.hN]; exact hj) (by show c.N[l]? = _; rw [hc.hN]; exact hl) hij hil hjl (by show c.env.scope.names.lookup x = _; rw [hc.hs]; exact hx) (by show c.env.scope.names.lookup y = _; rw [hc.hs]; exact hy) (by show c.env.scope.names.lookup z = _; rw [hc.hs]; exact hz) (p c hc) (by have q := hw c.env; rw [← hc.hs] at q; exact q) (hs _), ⟨fun d d' δ h w => s.mono _ _ _ _ _ h.ex (fun rs δ1 w => w.imp fun p w => h.nx _ w) w, fun F B H vs σ δ D d hx h k w => ?_⟩⟩
  refine s.run _ _ _ _ _ _ _ _ _ hx h w fun B1 H1 ws rs δ1 s1 h1 q1 w1 => ?_
  obtain ⟨δ2, e1, w1⟩ := w1
  have h2 := stNs_ok h1 q1 e1
  match rs, ws, q1.1, e1 with
  | [r1, r2, r3], [u, v, w], _, e1 => exact ⟨u, v, w, rfl, k.nx B1 _ H1 _ s1 h2 w1⟩
  | [], _, _, e1 => exact nomatch e1
  | [_], _, _, e1 => simp only [stNs] at e1; obtain ⟨_, _, e1⟩ := Option.bind_eq_some_iff.mp e1; exact nomatch e1
  | [_, _], _, _, e1 => simp only [stNs] at e1; obtain ⟨_, _, e1⟩ := Option.bind_eq_some_iff.mp e1; obtain ⟨_, _, e1⟩ := Option.bind_eq_some_iff.mp e1; exact nomatch e1
  | _ :: _ :: _ :: _ :: _, _, _, e1 =>
    simp only [stNs] at e1
    obtain ⟨_, _, e1⟩ := Option.bind_eq_some_iff.mp e1; obtain ⟨_, _, e1⟩ := Option.bind_eq_some_iff.mp e1; obtain ⟨_, _, e1⟩ := Option.bind_eq_some_iff.mp e1; exact nomatch e1
end
/-! ### a tuple of own parts, told and taken apart -/
def ptOf : R → Option Pt
  | .d d => some (.d d)
  | .w d => if scalar d then some (.d d) else none
  | .n (.l ds) => some (.l ds)
  | .n (.k kvs) => some (.k kvs)
  | .n (.pt ds) => some (.p ds)
  | _ => none
def ptsOf : List R → Option (List Pt)
  | [] => some []
  | r :: rs => (ptOf r).bind fun p => (ptsOf rs).map fun ps => p :: ps
def wTupO (wr : WA) : WE := fun Ex δ P => wr Ex δ fun rs δ1 => ob (ptsOf rs) fun ps => rs.length ≤ sizeLine ∧ P (.n (.tp ps)) δ1
theorem pts_at : ∀ {rs : List R} {ps : List Pt}, ptsOf rs = some ps → rs.length = ps.length ∧ ∀ {i : Nat} {q : Pt}, ps[i]? = some q → ∃ r, rs[i]? = some r ∧ ptOf r = some q
  | [], _, e => by cases e; exact ⟨rfl, fun e => by simp at e⟩
  | r :: rs, _, e => by
    simp only [ptsOf] at e
    obtain ⟨p, e1, e⟩ := Option.bind_eq_some_iff.mp e
    obtain ⟨ps, e2, e⟩ := Option.map_eq_some_iff.mp e
    cases e
    obtain ⟨l, f⟩ := pts_at e2
    refine ⟨by rw [List.length_cons, List.length_cons, l], fun {i q} e3 => ?_⟩
    cases i with
    | zero => simp at e3; subst e3; exact ⟨r, rfl, e1⟩
    | succ i => obtain ⟨r', h1, h2⟩ := f (i := i) (by simpa using e3); exact ⟨r', by simpa using h1, h2⟩
theorem pt_rep {K : PySem.W.Frag} {F B H : Hp} {σ : L2.St} {δ : SEnv} {v : V} {r : R} {q : Pt} {p : Addr} {o : HO} (z : RepR K F B H σ δ v r) (e : ptOf r = some q) (hp : H p = none) : PtOk B (upd H p o) p v q ∧ (q.own = true → ∃ a, v = .ref a ∧ ∀ b, rfoot H v r b ↔ b = a) := by
  have inr : ∀ {b : Addr} {u : HO}, H b = some u → b ≠ p ∧ (upd H p o) b = some u := fun e => by
    have n := ne_of_none e hp
    exact ⟨n, by rw [upd_ne n]; exact e⟩
  cases r with
  | d d => cases e; exact ⟨z, fun x => nomatch x⟩
  | w d =>
    simp only [ptOf] at e
    split at e
    · cases e; exact ⟨DW.scal z (by assumption), fun x => nomatch x⟩
    · cases e
  | o i => cases e
  | n c =>
    cases c with
    | l ds =>
      cases e
      obtain ⟨a, rfl, _, ⟨xs, hx, qx⟩, _⟩ := z
      exact ⟨⟨a, xs, rfl, (inr hx).1, (inr hx).2, qx⟩, fun _ => ⟨a, rfl, fun b => ⟨fun ⟨a', e, f⟩ => by cases e; exact f, fun e => ⟨a, rfl, e⟩⟩⟩⟩
    | k kvs =>
      cases e
      obtain ⟨a, rfl, _, ⟨xs, hx, qx⟩, _⟩ := z
      exact ⟨⟨a, xs, rfl, (inr hx).1, (inr hx).2, qx⟩, fun _ => ⟨a, rfl, fun b => ⟨fun ⟨a', e, f⟩ => by cases e; exact f, fun e => ⟨a, rfl, e⟩⟩⟩⟩
    | pt ds =>
      cases e
      obtain ⟨a, rfl, _, ⟨u, xs, hx, ec, ed, qx⟩, _⟩ := z
      exact ⟨⟨a, u, xs, rfl, hx, ec, ed, qx⟩, fun z => nomatch z⟩
    | _ => cases e
section
variable {S : Sg}
theorem de_tupO {es : List Expr} {wr : WA} {x1 : Nat} {pos : Pos} (h : DAO S es wr) : DE S (.Tuple es x1 pos) (wTupO wr) := by
  obtain ⟨t, p, s⟩ := h
  refine ⟨_, fun c hc => pe_tup (p c hc), ⟨fun Ex Ex' δ P P' hx h w => s.mono _ _ _ _ _ hx (fun r δ1 w => w.imp fun z w => ⟨w.1, h _ _ w.2⟩) w, fun Ex F B H vs σ δ P Q hx h w k => ?_⟩⟩
  refine s.run _ _ _ _ _ _ _ _ _ hx h w fun B1 H1 ws rs δ1 s1 h1 q1 w1 => ?_
  obtain ⟨ps, e, hl, w1⟩ := w1
  obtain ⟨q1, dis⟩ := q1
  have lw : ws.length = rs.length := Paired.length q1
  obtain ⟨lp, at_⟩ := pts_at e
  refine ⟨by rw [lw]; exact hl, fun p hp => ?_⟩
  -- each part
  have part : ∀ {i : Nat} {v : V} {q : Pt}, ws[i]? = some v → ps[i]? = some q → ∃ r, rs[i]? = some r ∧ RepR S.g.K F B1 H1 σ δ1 v r ∧ ptOf r = some q := fun e1 e2 => by
    obtain ⟨r, e3, e4⟩ := at_ e2
    obtain ⟨r', e5, z⟩ := paired_at q1 e1
    rw [e3] at e5; cases e5
    exact ⟨r, e3, z.1, e4⟩
  have pw : Paired (PtOk B1 (upd H1 p (.tup ws)) p) ws ps := by
    have gen : ∀ {xs : List V} {ys : List Pt}, xs.length = ys.length → (∀ (i : Nat) (v : V) (q : Pt), xs[i]? = some v → ys[i]? = some q → PtOk B1 (upd H1 p (.tup ws)) p v q) → Paired (PtOk B1 (upd H1 p (.tup ws)) p) xs ys := by
      intro xs
      induction xs with
      | nil => intro ys l _; cases ys with
        | nil => exact .nil
        | cons _ _ => cases l
      | cons x xs ih => intro ys l f; cases ys with
        | nil => cases l
        | cons y ys => exact .cons (f 0 x y rfl rfl) (ih (by simpa using l) fun i v q e1 e2 => f (i + 1) v q (by simpa using e1) (by simpa using e2))
    refine gen (by rw [lw, lp]) fun i v q e1 e2 => ?_
    obtain ⟨r, _, z, e4⟩ := part e1 e2
    exact (pt_rep z e4 hp).1
  refine k B1 _ (.ref p) (.n (.tp ps)) δ1 s1 (h1.newO hp _) ⟨p, rfl, fun b f => ?_, ⟨ws, upd_same, pw, fun i j b q q' e1 e2 o1 o2 e3 e4 => ?_⟩, fun i b c a b' e1 e2 f f' => ?_⟩ w1
  · rcases f with rfl | ⟨xs, ex, i, q, e1, o1, e2⟩
    · exact ⟨nof h1.sb hp, nof h1.sf hp⟩
    · rw [upd_same] at ex; cases ex
      obtain ⟨r, _, z, e4⟩ := part e2 e1
      obtain ⟨a, ea, fa⟩ := (pt_rep (o := .tup ws) z e4 hp).2 o1
      cases ea
      have := rfoot_ok z ((fa b).mpr rfl)
      exact ⟨this.1, this.2.1⟩
  · by_cases hij : i = j
    · exact hij
    · obtain ⟨r, e5, z, e6⟩ := part e3 e1
      obtain ⟨r', e7, z', e8⟩ := part e4 e2
      obtain ⟨a, ea, fa⟩ := (pt_rep (o := .tup ws) z e6 hp).2 o1
      obtain ⟨a', ea', fa'⟩ := (pt_rep (o := .tup ws) z' e8 hp).2 o2
      cases ea; cases ea'
      exact absurd ((fa' b).mpr rfl) (dis i j _ _ r r' b hij e3 e4 e5 e7 ((fa b).mpr rfl))
  · have ku := (h1.own_up e1 e2).2
    have f1 := (foot_upd ku hp).mp f
    rcases f' with rfl | ⟨xs, ex, j, q, e3, o1, e4⟩
    · exact foot_new (o := .tup ws) ku hp f1 rfl
    · rw [upd_same] at ex; cases ex
      obtain ⟨r, _, z, e6⟩ := part e4 e3
      obtain ⟨a', ea', fa'⟩ := (pt_rep (o := .tup ws) z e6 hp).2 o1
      cases ea'
      exact rfoot_off z i b c a b' e1 e2 f1 ((fa' b').mpr rfl)
end
def Pt.r : Pt → R
  | .d x => R.d x
  | .l xs => R.n (Cont.l xs)
  | .k xs => R.n (Cont.k xs)
  | .p xs => R.n (Cont.pt xs)
/-- a, b, .. = a tuple -/
def unp (δ : SEnv) (is : List Nat) : R → Option SEnv
  | .n (.tp ps) => stNs δ is (ps.map Pt.r)
  | r => (frz δ r).bind fun p => match p.1 with
    | .tuple ds => stNs p.2 is (ds.map R.d)
    | _ => none
def wUnp (is : List Nat) (wa : WE) : WS := fun d δ => wa d.ex δ fun r δ1 => ob (unp δ1 is r) fun δ2 => d.nx δ2
theorem stNs_len : ∀ {is : List Nat} {rs : List R} {δ δ' : SEnv}, stNs δ is rs = some δ' → is.length = rs.length
  | [], [], _, _, _ => rfl
  | [], _ :: _, _, _, e => nomatch e
  | _ :: _, [], _, _, e => nomatch e
  | i :: is, r :: rs, _, _, e => by
    simp only [stNs] at e
    obtain ⟨δ1, _, e⟩ := Option.bind_eq_some_iff.mp e
    rw [List.length_cons, List.length_cons, stNs_len e]
theorem dds_reps {K : PySem.W.Frag} {F B H : Hp} {σ : L2.St} {δ : SEnv} : ∀ {ws : List V} {ds : List PyData}, DDs B ws ds → Paired (fun v r => RepR K F B H σ δ v r ∧ ∀ i, r ≠ .o i) ws (ds.map R.d)
  | _, _, .nil => .nil
  | _, _, .cons q r => .cons ⟨q, fun _ z => nomatch z⟩ (dds_reps r)
theorem repo_ds {K : PySem.W.Frag} {F B H : Hp} {σ : L2.St} {δ : SEnv} {ws : List V} {ds : List PyData} (q : DDs B ws ds) : RepO K F B H σ δ ws (ds.map R.d) := by
  refine ⟨dds_reps q, fun i j v w r r' p _ _ _ e _ f => ?_⟩
  rw [List.getElem?_map] at e
  obtain ⟨d, _, rfl⟩ := Option.map_eq_some_iff.mp e
  exact f.elim
theorem repo_pts {K : PySem.W.Frag} {F B H : Hp} {σ : L2.St} {δ : SEnv} {a : Addr} {ps : List Pt} {xs : List V} (ha : H a = some (.tup xs)) (hBF : ∀ p, Foot H a (.tp ps) p → B p = none ∧ F p = none) (q : Paired (PtOk B H a) xs ps)
    (d : ∀ (i j : Nat) (b : Addr) (p q : Pt), ps[i]? = some p → ps[j]? = some q → p.own = true → q.own = true → xs[i]? = some (.ref b) → xs[j]? = some (.ref b) → i = j) (off : Off H σ δ (Foot H a (.tp ps))) : RepO K F B H σ δ xs (ps.map Pt.r) := by
  have one : ∀ {i : Nat} {v : V} {p : Pt}, xs[i]? = some v → ps[i]? = some p → PtOk B H a v p → RepR K F B H σ δ v p.r ∧ (∀ b, rfoot H v p.r b → v = .ref b ∧ p.own = true) := by
    intro i v p e1 e2 z
    cases p with
    | d d =>
      show RepR K F B H σ δ v (.d d) ∧ ∀ b, rfoot H v (.d d) b → _
      exact ⟨z, fun b f => f.elim⟩
    | l ds =>
      show RepR K F B H σ δ v (.n (.l ds)) ∧ ∀ b, rfoot H v (.n (.l ds)) b → _
      obtain ⟨b, zs, rfl, n, hb, qz⟩ := z
      have fb : Foot H a (.tp ps) b := .inr ⟨xs, ha, i, _, e2, rfl, e1⟩
      exact ⟨⟨b, rfl, fun p f => by cases f; exact hBF _ fb, ⟨zs, hb, qz⟩, fun j b' c a' p e3 e4 f f' => by cases f'; exact off j b' c a' _ e3 e4 f fb⟩, fun b' ⟨a', e, f⟩ => by cases e; cases f; exact ⟨rfl, rfl⟩⟩
    | k kvs =>
      show RepR K F B H σ δ v (.n (.k kvs)) ∧ ∀ b, rfoot H v (.n (.k kvs)) b → _
      obtain ⟨b, zs, rfl, n, hb, qz⟩ := z
      have fb : Foot H a (.tp ps) b := .inr ⟨xs, ha, i, _, e2, rfl, e1⟩
      exact ⟨⟨b, rfl, fun p f => by cases f; exact hBF _ fb, ⟨zs, hb, qz⟩, fun j b' c a' p e3 e4 f f' => by cases f'; exact off j b' c a' _ e3 e4 f fb⟩, fun b' ⟨a', e, f⟩ => by cases e; cases f; exact ⟨rfl, rfl⟩⟩
    | p ds =>
      show RepR K F B H σ δ v (.n (.pt ds)) ∧ ∀ b, rfoot H v (.n (.pt ds)) b → _
      obtain ⟨b, o, zs, rfl, hb, ec, ed, qz⟩ := z
      exact ⟨⟨b, rfl, fun p f => f.elim, ⟨o, zs, hb, ec, ed, qz⟩, fun _ _ _ _ _ _ _ _ f => f⟩, fun b' ⟨a', e, f⟩ => f.elim⟩
  refine ⟨?_, fun i j v w r r' p ne e1 e2 e3 e4 f f' => ?_⟩
  · have gen : ∀ {ys : List V} {qs : List Pt}, Paired (PtOk B H a) ys qs → (∀ (i : Nat) (v : V) (p : Pt), ys[i]? = some v → qs[i]? = some p → PtOk B H a v p → RepR K F B H σ δ v p.r) → Paired (fun v r => RepR K F B H σ δ v r ∧ ∀ i, r ≠ .o i) ys (qs.map Pt.r) := by
      intro ys qs h
      induction h with
      | nil => intro _; exact .nil
      | @cons v p _ _ z _ ih => intro f; exact .cons ⟨f 0 v p rfl rfl z, fun i y => by cases p <;> cases y⟩ (ih fun i v p e1 e2 z => f (i + 1) v p (by simpa using e1) (by simpa using e2) z)
    exact gen q fun i v p e1 e2 z => (one e1 e2 z).1
  · rw [List.getElem?_map] at e3 e4
    obtain ⟨p1, g3, rfl⟩ := Option.map_eq_some_iff.mp e3
    obtain ⟨p2, g4, rfl⟩ := Option.map_eq_some_iff.mp e4
    obtain ⟨p1', e5, z1⟩ := paired_at q e1
    obtain ⟨p2', e6, z2⟩ := paired_at q e2
    rw [g3] at e5; cases e5
    rw [g4] at e6; cases e6
    obtain ⟨ev, o1⟩ := (one e1 g3 z1).2 p f
    obtain ⟨ew, o2⟩ := (one e2 g4 z2).2 p f'
    subst ev ew
    exact ne (d i j p p1 p2 g3 g4 o1 o2 e1 e2)
/-- the names of a target -/
def gNames : List Nat → TGs
  | [] => gNil
  | i :: is => gCons (gName i) (gNames is)
theorem gNames_run {H : Hp} {Q : L2.St → Hp → Prop} : ∀ {is : List Nat} {ws : List V} {σ : L2.St}, is.length = ws.length → Q (sets σ is ws) H → gNames is ws σ H Q
  | [], [], _, _, q => ⟨rfl, q⟩
  | [], _ :: _, _, l, _ => by cases l
  | _ :: _, [], _, l, _ => by cases l
  | i :: is, w :: ws, σ, l, q => ⟨w, ws, rfl, gNames_run (σ := σ.set i (some w)) (by simpa using l) q⟩
def DNs (S : Sg) (tgs : List Expr) (is : List Nat) : Prop := ∀ c, S.ok c → PGs (S.g.cx c) tgs (gNames is)
section
variable {S : Sg}
theorem dns_nil : DNs S [] [] := fun _ _ => pgs_nil
theorem dns_cons {i : Nat} {is : List Nat} {x : Str} {p : Pos} {es : List Expr} (hi : S.N[i]? = some x) (hx : Loc S.sc x) (h : DNs S es is) (ht : S.top = true ∨ S.sc.names.lookup x = some .local := by first | exact .inl rfl | exact .inr rfl)
    (hs : ∀ env, (assignEach (.Name x p :: es) env).map (·.2) = assign (.Name x p) env :: (assignEach es env).map (·.2) := by intro _; rfl) : DNs S (.Name x p :: es) (i :: is) :=
  fun c hc => pgs_cons (pg_name (X := S.g.cx c) (by show c.N.Nodup; rw [hc.hN]; exact hc.nd) (by show c.N[i]? = _; rw [hc.hN]; exact hi) (by show Loc c.env.scope x; rw [hc.hs]; exact hx) (fn_ok hc ht)) (h c hc) (hs _)
theorem ds_unp {tgs : List Expr} {k n : Nat} {is : List Nat} {pt pos : Pos} {e : Expr} {wa : WE} (h : DE S e wa) (hg : DNs S tgs is) (hl : is.length = n) (hn : ∀ env, (assignEach tgs env).length = n := by intro _; rfl) (hst : ∀ env, (assignEach tgs env).findIdx? (·.1) = none := by intro _; rfl)
    (hs : ∀ env, swapsWithSole [.Tuple tgs k pt] e pos.line env = pure false := by intro _; rfl) (hw : ∀ c, S.ok c → swappedStores [.Tuple tgs k pt] e c.env = pure none := by intro _ _; rfl) (h1 : ∀ env, (assignEach [.Tuple tgs k pt] env).map (·.2) = [assign (.Tuple tgs k pt) env] := by intro _; rfl) :
    DS S (.Assign [.Tuple tgs k pt] e pos) (wUnp is wa) := by
  obtain ⟨t, p, s⟩ := h
  refine ⟨tAsg t (gTup S.g.K n (gNames is)), fun c hc => ps_asg (p c hc) (pg_tup (X := S.g.cx c) hc.calm (hg c hc) (hn _) (hst _)) (hs _) (hw c hc) (h1 _), ⟨fun d d' δ h w => s.mono _ _ _ _ _ h.ex (fun r δ1 w => w.imp fun p w => h.nx _ w) w, fun F B H vs σ δ D d hx h k w => ?_⟩⟩
  refine s.run _ _ _ _ _ _ _ _ _ hx h w fun B1 H1 v r δ1 s1 h1 q1 w1 => ?_
  obtain ⟨δ2, e1, w1⟩ := w1
  have dat : ((frz δ1 r).bind fun p => match p.1 with | .tuple ds => stNs p.2 is (ds.map R.d) | _ => none) = some δ2 → gTup S.g.K n (gNames is) v σ H1 D.nx := by
    intro e1
    obtain ⟨⟨d0, δ3⟩, e2, e1⟩ := Option.bind_eq_some_iff.mp e1
    obtain ⟨B2, s2, h2, q2⟩ := frz_ok h1 q1 e2
    cases q2 with
    | @tup a xs ds r3 q3 =>
      have h3 := stNs_ok h2 (repo_ds q3) e1
      have l := stNs_len e1
      rw [List.length_map] at l
      exact ⟨a, xs, rfl, .inl (PlT.mono h2.sb r3).rd, by rw [q3.length, ← l, hl], gNames_run (by rw [l, q3.length]) (k.nx B2 _ H1 _ (s1.trans s2) h3 w1)⟩
    | _ => cases e1
  cases r with
  | n c =>
    cases c with
    | tp ps =>
      obtain ⟨a, rfl, hBF, ⟨xs, hx2, qx, dx⟩, off⟩ := q1
      have h3 := stNs_ok h1 (repo_pts hx2 hBF qx dx off) e1
      have l := stNs_len e1
      rw [List.length_map] at l
      have lx := Paired.length qx
      exact ⟨a, xs, rfl, .inl (.inl hx2), by rw [lx, ← l, hl], gNames_run (by rw [l, lx]) (k.nx B1 _ H1 _ s1 h3 w1)⟩
    | _ => exact dat e1
  | _ => exact dat e1
end
end DL
set_option Elab.async false
set_option linter.all false
set_option maxRecDepth 100000
set_option maxHeartbeats 4000000
set_option autoImplicit false
namespace DL
open PySem PySem.Spec PyProof.Rows L2
/-! ### sorted(set(xs)), xs ints -/
def insU (n : Int) : List Int → List Int
  | [] => [n]
  | m :: ms => if n < m then n :: m :: ms else if n = m then m :: ms else m :: insU n ms
def upI (ns : List Int) : List Int := ns.foldr insU []
theorem mem_insU {n k : Int} : ∀ {ms : List Int}, k ∈ insU n ms ↔ k = n ∨ k ∈ ms
  | [] => by simp [insU]
  | m :: ms => by
    unfold insU
    split
    · simp
    · split
      · rename_i e; subst e; simp
      · rw [List.mem_cons, mem_insU (ms := ms), List.mem_cons]
        constructor
        · rintro (h | h | h)
          · exact .inr (.inl h)
          · exact .inl h
          · exact .inr (.inr h)
        · rintro (h | h | h)
          · exact .inr (.inl h)
          · exact .inl h
          · exact .inr (.inr h)
theorem mem_upI {k : Int} : ∀ {ns : List Int}, k ∈ upI ns ↔ k ∈ ns
  | [] => by simp [upI]
  | n :: ns => by
    show k ∈ insU n (upI ns) ↔ _
    rw [mem_insU, mem_upI (ns := ns), List.mem_cons]
theorem up_insU {n : Int} : ∀ {ms : List Int}, ms.Pairwise (· < ·) → (insU n ms).Pairwise (· < ·)
  | [], _ => by simp [insU]
  | m :: ms, h => by
    obtain ⟨h1, h2⟩ := List.pairwise_cons.mp h
    unfold insU
    split
    · rename_i hl
      refine List.pairwise_cons.mpr ⟨fun k hk => ?_, h⟩
      rcases List.mem_cons.mp hk with e | e
      · omega
      · have := h1 k e; omega
    · split
      · exact h
      · refine List.pairwise_cons.mpr ⟨fun k hk => ?_, up_insU h2⟩
        rcases mem_insU.mp hk with e | e
        · omega
        · exact h1 k e
theorem up_upI : ∀ (ns : List Int), (upI ns).Pairwise (· < ·)
  | [] => by simp [upI]
  | n :: ns => up_insU (up_upI ns)
theorem upI_one {ms ns : List Int} (h1 : ms.Pairwise (· < ·)) (h2 : ∀ k : Int, k ∈ ms ↔ k ∈ ns) : ms = upI ns := by
  have nd : ∀ {l : List Int}, l.Pairwise (· < ·) → l.Nodup := fun h => h.imp fun h e => by omega
  have hp : ms.Perm (upI ns) := (List.perm_ext_iff_of_nodup (nd h1) (nd (up_upI ns))).mpr fun k => by rw [h2 k, mem_upI]
  exact List.Perm.eq_of_pairwise (le := fun (a b : Int) => a < b) (fun a b _ _ x y => by omega) h1 (up_upI ns) hp
theorem len_insU {n : Int} : ∀ {ms : List Int}, (insU n ms).length ≤ ms.length + 1
  | [] => by simp [insU]
  | m :: ms => by
    unfold insU
    split
    · simp
    · split
      · simp
      · rw [List.length_cons, List.length_cons]; have := len_insU (n := n) (ms := ms); omega
theorem len_upI : ∀ {ns : List Int}, (upI ns).length ≤ ns.length
  | [] => by simp [upI]
  | n :: ns => by
    show (insU n (upI ns)).length ≤ _
    have := len_insU (n := n) (ms := upI ns)
    have := len_upI (ns := ns)
    rw [List.length_cons]; omega
section
variable {X : Cx}
def rSetI (K : PySem.W.Frag) (w : World) : List V → Hp → VK → Prop := fun xs H Q => ∃ (l : Addr) (ns : List Int), xs = [.ref l] ∧ (SqL K H l (ns.map V.int) ∨ SqT K H l (ns.map V.int)) ∧ ns.length ≤ 1000 ∧
  ∀ p c, H p = none → c ≤ ns.length → Q (.ref p) (upd H p (SetO w p (fun j => decide (j ∈ ns)) c))
theorem cr_setI (hc : X.calm = true) : CallR X (.type "set") (rSetI X.K X.w) := by
  intro pins s σ H xs us Q I r h
  obtain ⟨l, ns, rfl, hs, hl, q⟩ := h
  rw [Vals.ref1 r]
  have hb : ns.length + 1 < scanBound := by unfold scanBound; omega
  rcases hs with hs | hs
  · obtain ⟨its, rv, pl, hz⟩ := I.list hs
    refine set_of_ints ns (I.ok.hd hc) pl.isList (by simpa using ints_of_vals rv) hb fun g tk c hS hc2 hk => ?_
    exact ⟨.ref s.heap.objs.size, _, I.laid (t' := tk) hk (Nat.le_refl _) (setO_new hS), rfl, q _ c (I.hok.fresh (Nat.le_refl _)) hc2⟩
  · obtain ⟨its, rv, pt, hz⟩ := I.tuple hs
    refine call_set_tupI ns (I.ok.hd hc) (show s.heap.IsTuple l its.toArray from pt) (by simpa using ints_of_vals rv) hb fun g tk c hS hc2 hk => ?_
    exact ⟨.ref s.heap.objs.size, _, I.laid (t' := tk) hk (Nat.le_refl _) (setO_new hS), rfl, q _ c (I.hok.fresh (Nat.le_refl _)) hc2⟩
end
def ssetF : List Vw → Option Rv
  | [.d (.list ds)] => (numsD ds).bind fun ns => if ns.length < 64 then some (.lst ((upI ns).map .int)) else none
  | [.d (.tuple ds)] => (numsD ds).bind fun ns => if ns.length < 64 then some (.lst ((upI ns).map .int)) else none
  | _ => none
section
variable {S : Sg}
theorem de_sortedSet {a : Expr} {wa : WE} {p p2 q pos : Pos} (hg : GlS S.sc "sorted") (hm : S.g.mg "sorted" = none) (hg2 : GlS S.sc "set") (hm2 : S.g.mg "set" = none) (ha : DE S a wa)
    (hs : ∀ env, starEach [a] env = (false, eval a env) :: starEach [] env := by intro _; rfl) (hs2 : ∀ env, starEach [Expr.Call (.Name "set" p2) [a] [] q] env = (false, eval (Expr.Call (.Name "set" p2) [a] [] q) env) :: starEach [] env := by intro _; rfl)
    (hp : ∀ env, (backTo pos (starEach [] env)).any (·.1) = false := by intro _; rfl) (hp2 : ∀ env, (backTo q (starEach [] env)).any (·.1) = false := by intro _; rfl) :
    DE S (.Call (.Name "sorted" p) [.Call (.Name "set" p2) [a] [] q] [] pos) (wCB ssetF (wCons wa wNil)) := by
  obtain ⟨t, pa, s⟩ := ha
  refine ⟨tCB (rSortedSet S.g.w) (tCons (tCB (rSetI S.g.K S.g.w) (tCons t tNil)) tNil), fun c hc => ?_, ⟨fun Ex Ex' δ P P' hx h w => ?_, fun Ex F B H vs σ δ P Q hx h w k => ?_⟩⟩
  · exact pe_callB (cr_sortedSet hc.calm) (gl_of hc hg) hm (by first | rfl | decide +kernel) (pa_cons (pe_callTy (cr_setI hc.calm) (gl_of hc hg2) hm2 (by first | rfl | decide +kernel) (pa_cons (pa c hc) pa_nil (hs _)) (by decide) (by decide) (hs _) (hp2 _)) pa_nil (hs2 _)) (by decide) (by decide) (hs2 _) (hp _)
  · exact s.mono _ _ _ _ _ hx (fun r δ1 w => w.imp fun r' w => w.imp fun as w => w.imp fun rv w => h _ _ w) w
  · refine s.run _ _ _ _ _ _ _ _ _ hx h w fun B1 H1 x r δ1 s1 h1 q1 w1 => ?_
    obtain ⟨r', e1, as, e2, rv, e3, w1⟩ := w1
    obtain ⟨B2, s2, h2, q2, n2⟩ := settle_ok h1 q1 e1
    have ov := views_ok h2 (show RepRs S.g.K F B2 H1 σ δ1 [x] [r'] from .cons ⟨q2, n2⟩ .nil) e2
    have key : ∀ (p : Addr) (ns : List Int), x = .ref p → (SqL S.g.K H1 p (ns.map V.int) ∨ SqT S.g.K H1 p (ns.map V.int)) → ns.length < 64 → rv = .lst ((upI ns).map .int) → rSetI S.g.K S.g.w [x] H1 fun y H2 => rSortedSet S.g.w [y] H2 Q := by
      intro p ns ex hsq hl ev
      subst ex ev
      refine ⟨p, ns, rfl, hsq, by omega, fun a c ha hc2 => ⟨a, _, c, rfl, upd_same, by omega, fun ns' b hb1 hb2 hb3 hb => ?_⟩⟩
      have en : ns' = upI ns := upI_one hb1 fun k => by rw [hb2 k, decide_eq_true_eq]
      subst en
      exact rvk_ok (s1.trans s2) (h2.newO ha _) w1 k b _ hb (dds_ofI _)
    unfold ssetF at e3
    split at e3
    · obtain ⟨ns, e4, e3⟩ := Option.bind_eq_some_iff.mp e3
      split at e3
      · cases e3
        obtain ⟨v, ev, q⟩ := ovs1 ov
        cases ev
        obtain ⟨p, xs, rfl, hr, qx⟩ := ov_lst h2.sb q
        cases nums_dd e4 qx
        exact key p ns rfl (.inl (.inl hr)) (by assumption) rfl
      · cases e3
    · obtain ⟨ns, e4, e3⟩ := Option.bind_eq_some_iff.mp e3
      split at e3
      · cases e3
        obtain ⟨v, ev, q⟩ := ovs1 ov
        cases ev
        obtain ⟨p, xs, rfl, hr, qx⟩ := ov_tup q
        cases nums_dd e4 qx
        exact key p ns rfl (.inr (.inl (PlT.mono h2.sb hr).rd)) (by assumption) rfl
      · cases e3
    · cases e3
end
/-! ### min of two, max of two or of a list -/
def minF : List Vw → Option Rv
  | [.d (.int i), .d (.int j)] => some (.val (.int (if j < i then j else i)))
  | _ => none
theorem cs_min {S : Sg} : CallS S (.builtin "min") minF := by
  rintro c hc pins s σ H xs us Q I rv ⟨B, as, r, sB, ov, e, k⟩
  unfold minF at e
  split at e
  · cases e
    obtain ⟨v, u, rfl, q1, q2⟩ := ovs2 ov
    cases ov_int q1; cases ov_int q2
    exact call_min2 hc.calm pins s σ H _ us Q I rv ⟨_, _, rfl, k _ (.int _)⟩
  · cases e
def maxL : List Int → Int
  | [] => 0
  | n :: ns => ns.foldl (fun a b => if b > a then b else a) n
theorem foldl_max : ∀ (ns : List Int) (n : Int), (ns.foldl (fun a b => if b > a then b else a) n = n ∨ ns.foldl (fun a b => if b > a then b else a) n ∈ ns) ∧ n ≤ ns.foldl (fun a b => if b > a then b else a) n ∧ ∀ m ∈ ns, m ≤ ns.foldl (fun a b => if b > a then b else a) n
  | [], n => ⟨.inl rfl, Int.le_refl _, fun m h => by simp at h⟩
  | m :: ns, n => by
    rw [List.foldl_cons]
    obtain ⟨h1, h2, h3⟩ := foldl_max ns (if m > n then m else n)
    refine ⟨?_, ?_, fun k hk => ?_⟩
    · rcases h1 with h1 | h1
      · rw [h1]
        split
        · exact .inr List.mem_cons_self
        · exact .inl rfl
      · exact .inr (List.mem_cons_of_mem _ h1)
    · refine Int.le_trans ?_ h2; split <;> omega
    · rcases List.mem_cons.mp hk with e | e
      · subst e; refine Int.le_trans ?_ h2; split <;> omega
      · exact h3 k e
theorem maxL_mem {ns : List Int} (h : 0 < ns.length) : maxL ns ∈ ns ∧ ∀ m ∈ ns, m ≤ maxL ns := by
  cases ns with
  | nil => simp at h
  | cons n ns =>
    obtain ⟨h1, h2, h3⟩ := foldl_max ns n
    refine ⟨?_, fun m hm => ?_⟩
    · rcases h1 with h1 | h1
      · show ns.foldl _ n ∈ _; rw [h1]; exact List.mem_cons_self
      · exact List.mem_cons_of_mem _ h1
    · rcases List.mem_cons.mp hm with e | e
      · subst e; exact h2
      · exact h3 m e
theorem maxL_one {ns : List Int} {m : Int} (h : m ∈ ns) (hm : ∀ y ∈ ns, y ≤ m) : m = maxL ns := by
  obtain ⟨h1, h2⟩ := maxL_mem (List.length_pos_of_mem h)
  exact Int.le_antisymm (h2 m h) (hm _ h1)
def maxF2 : List Vw → Option Rv
  | [.d (.int i), .d (.int j)] => some (.val (.int (if j > i then j else i)))
  | [.d (.list ds)] => (numsD ds).bind fun ns => if 0 < ns.length then some (.val (.int (maxL ns))) else none
  | _ => none
theorem cs_max2 {S : Sg} : CallS S (.builtin "max") maxF2 := by
  rintro c hc pins s σ H xs us Q I rv ⟨B, as, r, sB, ov, e, k⟩
  unfold maxF2 at e
  split at e
  · cases e
    obtain ⟨v, u, rfl, q1, q2⟩ := ovs2 ov
    cases ov_int q1; cases ov_int q2
    exact call_max2 hc.calm pins s σ H _ us Q I rv ⟨_, _, rfl, k _ (.int _)⟩
  · obtain ⟨ns, e1, e⟩ := Option.bind_eq_some_iff.mp e
    split at e
    · cases e
      obtain ⟨v, rfl, q⟩ := ovs1 ov
      obtain ⟨p, xs, rfl, hr, qx⟩ := ov_lst sB q
      cases nums_dd e1 qx
      refine cr_max hc.calm pins s σ H _ us Q I rv ⟨p, ns, rfl, .inl hr, by assumption, fun m hm hle => ?_⟩
      rw [maxL_one hm hle]
      exact k _ (.int _)
    · cases e
  · cases e
/-! ### xs.index(y), xs a list that stays -/
def findD (y : PyData) : List PyData → Option Nat
  | [] => none
  | z :: zs => if PyData.eqv z y then some 0 else (findD y zs).map (· + 1)
theorem findD_at {y : PyData} : ∀ {zs : List PyData} {j : Nat}, findD y zs = some j → (∃ z, zs[j]? = some z ∧ PyData.eqv z y = true) ∧ ∀ (m : Nat) (z : PyData), m < j → zs[m]? = some z → PyData.eqv z y = false
  | [], _, e => by cases e
  | z :: zs, j, e => by
    unfold findD at e
    split at e
    · cases e; exact ⟨⟨z, rfl, by assumption⟩, fun m _ h => absurd h (Nat.not_lt_zero _)⟩
    · rename_i hn
      obtain ⟨i, e1, rfl⟩ := Option.map_eq_some_iff.mp e
      obtain ⟨⟨z', h1, h2⟩, h3⟩ := findD_at e1
      refine ⟨⟨z', by simpa using h1, h2⟩, fun m z2 hm e2 => ?_⟩
      cases m with
      | zero => simp at e2; subst e2; exact Bool.eq_false_iff.mpr hn
      | succ m => exact h3 m z2 (by omega) (by simpa using e2)
def listV : Vw → Option (List PyData)
  | .d (.list ds) => some ds
  | _ => none
def wIdx (wo wa : WE) : WE := fun Ex δ P => wo Ex δ fun ro δ1 => ob (settle ro) fun ro' => ob (view δ1 ro') fun w0 => ob (listV w0) fun _ => wa Ex δ1 fun r δ2 => ob (settle r) fun r' => ob (view δ2 ro') fun w => ob (listV w) fun ds => ob (view δ2 r') fun u => ob (dV u) fun y =>
  (ds.all scalar = true ∧ scalar y = true) ∧ ob (findD y ds) fun j => P (.d (.int (j : Nat))) δ2
theorem lst_of {K : PySem.W.Frag} {B H : Hp} {v : V} {w : Vw} {ds : List PyData} (sB : Same B H) (h : OV K B H v w) (e : listV w = some ds) : ∃ p xs, v = .ref p ∧ Rd H p (.lst xs) ∧ DDs B xs ds := by
  unfold listV at e
  split at e
  · cases e; exact ov_lst sB h
  · cases e
section
variable {S : Sg}
theorem de_index {o e : Expr} {wo wa : WE} {apos cpos : Pos} (ho : DE S o wo) (ha : DE S e wa)
    (hb : ∀ env, attributeBase o "index" env (eval o env) = eval o env := by intro _; rfl) (hf : few cpos e := by intro _; rfl)
    (hl : (apos.endLine == cpos.line) = true := by rfl) (hs : ∀ env, starEach [e] env = (false, eval e env) :: starEach [] env := by intro _; rfl) (hp : ∀ env, (backTo cpos (starEach [] env)).any (·.1) = false := by intro _; rfl) :
    DE S (.Call (.Attribute o "index" apos) [e] [] cpos) (wIdx wo wa) := by
  obtain ⟨to', po, so⟩ := ho
  obtain ⟨ta, pa, sa⟩ := ha
  refine ⟨tBM S.g.K "list" (rIndex S.g.K) to' (tCons ta tNil), fun c hc => pe_bm (X := S.g.cx c) PySem.F.plainAttrs_list PySem.F.slot_list_index PySem.F.type_list_index mt_index (po c hc) (pa_cons (pa c hc) pa_nil (hs _)) (hb _) (hf _) hl (hs _) (hp _), ⟨fun Ex Ex' δ P P' hx h w => ?_, fun Ex F B H vs σ δ P Q hx h w k => ?_⟩⟩
  · refine so.mono _ _ _ _ _ hx (fun ro δ1 w => w.imp fun a w => w.imp fun x w => w.imp fun y w => ?_) w
    exact sa.mono _ _ _ _ _ hx (fun r δ2 w => w.imp fun b w => w.imp fun d w => w.imp fun d w => w.imp fun d w => w.imp fun d w => ⟨w.1, w.2.imp fun j w => h _ _ w⟩) w
  · refine so.run _ _ _ _ _ _ _ _ _ hx h w fun B1 H1 v ro δ1 s1 h1 q1 w1 => ?_
    obtain ⟨ro', e1, w0, e2, ds0, e3, w1⟩ := w1
    obtain ⟨B2, s2, h2, q2, n2⟩ := settle_ok h1 q1 e1
    obtain ⟨p, xs0, rfl, hr0, _⟩ := lst_of h2.sb (view_ok h2 q2 e2) e3
    refine ⟨.inl ⟨rfl, xs0, .inl hr0⟩, ?_⟩
    refine sa.run _ _ _ _ _ _ _ _ _ (hx.up (s1.trans s2)) h2 w1 fun B3 H3 y r δ2 s3 h3 q3 w3 => ?_
    obtain ⟨r', e4, w5, e5, ds, e6, u, e7, d, e8, ⟨hsc, hsy⟩, j, e9, w3⟩ := w3
    obtain ⟨B4, s4, h4, q4, n4⟩ := settle_ok h3 q3 e4
    have q5 := RepR.up (H' := H3) (s3.trans s4) q2 n2 (δ' := δ2)
    obtain ⟨p', xs, ep, hr, qx⟩ := lst_of h4.sb (view_ok h4 q5 e5) e6
    cases ep
    have ov := view_ok h4 q4 e7
    have qy : DD B4 y d := by
      cases u with
      | d d' =>
        cases e8
        rcases ov with ov | ⟨_, _, _, _, z, _⟩
        · exact ov
        · subst z; cases hsy
      | _ => cases e8
    have fx := flats qx hsc
    have fy := flat_scal qy hsy
    obtain ⟨⟨z, g1, g2⟩, g3⟩ := findD_at e9
    obtain ⟨zv, g4, qz⟩ := qx.get g1
    refine ⟨p, xs, y, j, zv, rfl, rfl, .inl hr, fy, fx, g4, ?_, fun m z' hm hz' => ?_, ?_⟩
    · rw [eqV_eqv qz qy (flat_at fx g4) fy]; exact g2
    · obtain ⟨d', g5, q6⟩ := qx.getV hz'
      rw [eqV_eqv q6 qy (flat_at fx hz') fy]; exact g3 m d' hm g5
    · exact k B4 _ _ (.d (.int (j : Nat))) δ2 ((s1.trans s2).trans (s3.trans s4)) h4 (.int _) w3
end
/-! ### xs.pop(i), xs.insert(i, y): an own list -/
def wPopI (i : Nat) (wa : WE) : WE := fun Ex δ P => ob (ownL δ i) fun _ => wa Ex δ fun r δ1 => ob (view δ1 r) fun w => ob (intV w) fun n => ob (ownL δ1 i) fun q => (-(2 ^ 63) ≤ n ∧ n < 2 ^ 63) ∧ ob (ixN q.2.length n) fun j => ob (q.2[j]?) fun d => P (.d d) (δ1.set i (some (.o q.1 (.l (q.2.eraseIdx j)))))
def wIns (i : Nat) (wa wb : WE) : WE := fun Ex δ P => ob (ownL δ i) fun _ => wa Ex δ fun r δ1 => ob (view δ1 r) fun w => ob (intV w) fun n => wb Ex δ1 fun r2 δ2 => ob (frz δ2 r2) fun p => ob (ownL p.2 i) fun q => (0 ≤ n ∧ n < 2 ^ 63 ∧ q.2.length < sizeLine) ∧ P (.d .none) (p.2.set i (some (.o q.1 (.l (q.2.take n.toNat ++ [p.1] ++ q.2.drop n.toNat)))))
theorem dds_erase {B : Hp} : ∀ {xs : List V} {ds : List PyData} (j : Nat), DDs B xs ds → DDs B (xs.eraseIdx j) (ds.eraseIdx j)
  | _, _, _, .nil => .nil
  | _, _, 0, .cons _ r => r
  | _, _, j + 1, .cons q r => .cons q (dds_erase j r)
section
variable {S : Sg}
theorem de_popI {i : Nat} {x : Str} {e : Expr} {wa : WE} {p apos cpos : Pos} (hN : S.N[i]? = some x) (hv : Vis S.sc x) (ha : DE S e wa) (hd : (x == ("__debug__" : Str)) = false := by decide) (hcd : (x == ("__classdict__" : Str)) = false := by decide)
    (hb : ∀ env, attributeBase (.Name x p) "pop" env (eval (.Name x p) env) = eval (.Name x p) env := by intro _; rfl) (hf : few cpos e := by intro _; rfl) (hl : (apos.endLine == cpos.line) = true := by rfl)
    (hs : ∀ env, starEach [e] env = (false, eval e env) :: starEach [] env := by intro _; rfl) (hp : ∀ env, (backTo cpos (starEach [] env)).any (·.1) = false := by intro _; rfl) :
    DE S (.Call (.Attribute (.Name x p) "pop" apos) [e] [] cpos) (wPopI i wa) := by
  obtain ⟨t, pa, s⟩ := ha
  refine ⟨tBM S.g.K "list" rPopAt (tVar i) (tCons t tNil), fun c hc => pe_bm (X := S.g.cx c) PySem.F.plainAttrs_list PySem.F.slot_list_pop PySem.F.type_list_pop mt_popAt (vis_v hc hN hv hd hcd) (pa_cons (pa c hc) pa_nil (hs _)) (hb _) (hf _) hl (hs _) (hp _), ⟨fun Ex Ex' δ P P' hx h w => ?_, fun Ex F B H vs σ δ P Q hx h w k => ?_⟩⟩
  · exact w.imp fun _ w => s.mono _ _ _ _ _ hx (fun r δ1 w => w.imp fun p w => w.imp fun q w => w.imp fun q w => ⟨w.1, w.2.imp fun j w => w.imp fun d w => h _ _ w⟩) w
  · obtain ⟨⟨b0, ds0⟩, e0, w⟩ := w
    have a0 := ownL_at e0
    obtain ⟨v, ev, a, rfl, hBF, xs, hx0, q0⟩ := h.ok i _ a0
    refine ⟨_, ev, .inl ⟨rfl, xs, SqL.of hx0⟩, ?_⟩
    refine s.run _ _ _ _ _ _ _ _ _ hx h w fun B1 H1 y r δ1 s1 h1 q1 w1 => ?_
    obtain ⟨vw, e1, n, e2, ⟨b, ds⟩, e3, ⟨l1, l2⟩, j, e4, d, e5, w1⟩ := w1
    cases intV_ok (view_ok h1 q1 e1) e2
    have a2 := ownL_at e3
    obtain ⟨a', ea, hBF2, ys, hy, qy⟩ := own_at h1 a2 ev
    cases ea
    have e4 : ixN ds.length n = some j := e4
    obtain ⟨z, e6, qz⟩ := qy.get e5
    refine ⟨a, ys, n, j, z, rfl, rfl, hy, l1, l2, (ixN_seq (by rw [qy.length]; exact e4)).1, e6, ?_⟩
    exact k B1 _ z (.d d) _ s1 (h1.mutate (c' := .l (ds.eraseIdx j)) a2 ev ⟨_, upd_same, dds_erase j qy⟩) qz w1
theorem de_ins {i : Nat} {x : Str} {e f : Expr} {wa wb : WE} {p apos cpos : Pos} (hN : S.N[i]? = some x) (hv : Vis S.sc x) (ha : DE S e wa) (hfb : DE S f wb) (hd : (x == ("__debug__" : Str)) = false := by decide) (hcd : (x == ("__classdict__" : Str)) = false := by decide)
    (hb : ∀ env, attributeBase (.Name x p) "insert" env (eval (.Name x p) env) = eval (.Name x p) env := by intro _; rfl)
    (hf : ∀ env, ((backTo cpos (starEach [e, f] env)).all (fun x => !x.1) && (backToKw cpos (keywordEach [] env)).all (fun x => x.1.isSome) && decide ([e, f].length + ([] : List Keyword).length + (if ([] : List Keyword).isEmpty then 0 else 1) < 30)) = true := by intro _; rfl) (hl : (apos.endLine == cpos.line) = true := by rfl)
    (hs : ∀ env, starEach [e, f] env = (false, eval e env) :: starEach [f] env := by intro _; rfl) (hs2 : ∀ env, starEach [f] env = (false, eval f env) :: starEach [] env := by intro _; rfl) (hp : ∀ env, (backTo cpos (starEach [f] env)).any (·.1) = false := by intro _; rfl) :
    DE S (.Call (.Attribute (.Name x p) "insert" apos) [e, f] [] cpos) (wIns i wa wb) := by
  obtain ⟨t, pa, s⟩ := ha
  obtain ⟨tf, pf, sf⟩ := hfb
  refine ⟨tBM S.g.K "list" _ (tVar i) (tCons t (tCons tf tNil)), fun c hc => pe_bm (X := S.g.cx c) PySem.F.plainAttrs_list PySem.F.slot_list_insert PySem.F.type_list_insert mt_insert (vis_v hc hN hv hd hcd) (pa_cons (pa c hc) (pa_cons (pf c hc) pa_nil (hs2 _)) (hs _)) (hb _) (hf _) hl (hs _) (hp _), ⟨fun Ex Ex' δ P P' hx h w => ?_, fun Ex F B H vs σ δ P Q hx h w k => ?_⟩⟩
  · exact w.imp fun _ w => s.mono _ _ _ _ _ hx (fun r δ1 w => w.imp fun p w => w.imp fun q w => sf.mono _ _ _ _ _ hx (fun r2 δ2 w => w.imp fun p w => w.imp fun q w => ⟨w.1, h _ _ w.2⟩) w) w
  · obtain ⟨⟨b0, ds0⟩, e0, w⟩ := w
    have a0 := ownL_at e0
    obtain ⟨v, ev, a, rfl, hBF, xs, hx0, q0⟩ := h.ok i _ a0
    refine ⟨_, ev, .inl ⟨rfl, xs, SqL.of hx0⟩, ?_⟩
    refine s.run _ _ _ _ _ _ _ _ _ hx h w fun B1 H1 y r δ1 s1 h1 q1 w1 => ?_
    obtain ⟨vw, e1, n, e2, w1⟩ := w1
    cases intV_ok (view_ok h1 q1 e1) e2
    refine sf.run _ _ _ _ _ _ _ _ _ (hx.up s1) h1 w1 fun B2 H2 z r2 δ2 s2 h2 q2 w2 => ?_
    obtain ⟨⟨d, δ3⟩, e3, ⟨b, ds⟩, e4, ⟨l1, l2, l3⟩, w2⟩ := w2
    obtain ⟨B3, s3, h3, q3⟩ := frz_ok h2 q2 e3
    have a2 := ownL_at e4
    obtain ⟨a', ea, hBF2, ys, hy, qy⟩ := own_at h3 a2 ev
    cases ea
    have l3 : ds.length < sizeLine := l3
    refine ⟨a, ys, n, z, rfl, rfl, hy, by rw [qy.length]; exact l3, l1, l2, ?_⟩
    exact k B3 _ .non (.d .none) _ ((s1.trans s2).trans s3) (h3.mutate (c' := .l (ds.take n.toNat ++ [d] ++ ds.drop n.toNat)) a2 ev ⟨_, upd_same, ((qy.take _).append (.cons q3 .nil)).append (qy.drop _)⟩) .non w2
end
end DL
set_option Elab.async false
set_option linter.all false
set_option maxRecDepth 100000
set_option maxHeartbeats 400000
set_option autoImplicit false
namespace DL
open PySem PySem.Spec PyProof.Rows L2
/-! ### list(d.values()) -/
def tLstVals (td : TE) : TE := fun σ H Q => td σ H fun x H1 => ∃ a kvs, x = V.ref a ∧ H1 a = some (.dK kvs) ∧ ∀ p, H1 p = none → Q (.ref p) (upd H1 p (.lst (kvs.map (·.2))))
section
variable {X : Cx} {o : Expr} {p pos apos mpos : Pos} {td : TE}
theorem pe_lstVals (hc : X.calm = true) (hg : Gl X "list") (hm : X.mg "list" = none) (hd : PE X o td) (hbase : attributeBase o "values" X.env (eval o X.env) = eval o X.env := by rfl) (hline : (apos.endLine == mpos.line) = true := by rfl)
    (hse : starEach [Expr.Call (.Attribute o "values" apos) [] [] mpos] X.env = (false, eval (Expr.Call (.Attribute o "values" apos) [] [] mpos) X.env) :: starEach [] X.env := by rfl) :
    PE X (.Call (.Name "list" p) [.Call (.Attribute o "values" apos) [] [] mpos] [] pos) (tLstVals td) := by
  refine ⟨fun pins s σ H Q I h => ?_⟩
  refine Call_ (ld_blt I hg hm PyProof.Rows.boot_list (PyProof.Rows.callWith_type1 (args_cons (wpAny_Call_method0_late hbase hline (thn (hd.run pins s σ H _ I h) fun v s1 ⟨x, H1, I1, r1, a, kvs, ex, ha, q⟩ => ?_)) hse) hse))
  subst ex
  cases (show v = Value.ref a from r1)
  obtain ⟨hz, hsys, us, rel, dof⟩ := dk_of I1.hok ha
  obtain ⟨ep, dat⟩ := dof.dictAt
  obtain ⟨ob, es, ho, exd, _⟩ := id dat
  refine ⟨"dict", "dict.values", F.plainAttrs_dict, F.slot_dict_values, F.type_dict_values, ⟨ob, ho, exd.1⟩, fun b e => ?_, Calls.callWith_builtin rfl (PySem.evalArgs_none ?_)⟩
  · cases e; exact ⟨ob, ho, exd.2.1⟩
  refine call_meetsIn F.slot_dict_values ⟨ob, ho, exd.1⟩ F.entry_dict_values (F.args_dict_values_1 _) (meets_dict_values (mixKind X.prog X.w) a hsys) ⟨⟨us, dof⟩, ?_⟩
  refine args_nil ?_
  have up : ∀ b u, s1.heap.get? b = some u → (s1.heap.push { cls := .type "dict_values", data := .fields #[.ref a] }).get? b = some u := fun b u e => Heap.get?_push_of_some _ e
  have I2 : Inv X pins σ H1 { s1 with heap := s1.heap.push { cls := .type "dict_values", data := .fields #[.ref a] } } := I1.kept (t' := s1.toks) up
  have ll : kvs.length = us.length := KV.length rel
  refine PySem.W.kdl_call (n := us.length) (PySem.W.kdl_values (knd := mixKind X.prog X.w) (kvs := us) (ep := ep)) (I1.ok.hd hc) ⟨⟨_, Heap.get?_push_size _ rfl, rfl, rfl⟩, dat.keep up⟩ (by rw [← ll]; exact hz) fun g tk acc c hk hS hacc => ?_
  have lacc : acc.toList.length = us.length := by rw [Array.length_toList]; exact hacc.1
  refine ⟨.ref _, upd H1 _ (.lst (kvs.map (·.2))), I2.laid (t' := tk) hk (Nat.le_refl _) (show ObjOk X.prog X.w _ _ _ (.lst (kvs.map (·.2))) from ⟨?_, acc.toList, c, vals_of_at ?_ fun j x u e1 e2 => ?_, ?_⟩), rfl, q _ (I2.hok.fresh (Nat.le_refl _))⟩
  · rw [List.length_map]; exact hz
  · rw [List.length_map, lacc, ll]
  · obtain ⟨kk, e3⟩ := hacc.2 j u (by rw [← Array.getElem?_toList]; exact e2)
    obtain ⟨y, e4, e5⟩ := KV.at' rel e3
    rw [List.getElem?_map, e4] at e1
    cases e1
    exact e5
  · rw [Array.toArray_toList]; exact hS
end
def kvsV : Vw → Option (List (Key × PyData))
  | .k kvs => some kvs
  | _ => none
def wLstVals (wa : WE) : WE := fun Ex δ P => wa Ex δ fun r δ1 => ob (view δ1 r) fun w => ob (kvsV w) fun kvs => P (.n (.l (kvs.map (·.2)))) δ1
theorem kds_vals {κ : Type} {B : Hp} {ys : List (κ × V)} {kvs : List (κ × PyData)} (h : KDs B ys kvs) : DDs B (ys.map (·.2)) (kvs.map (·.2)) := by
  induction h with
  | nil => exact .nil
  | cons q r ih => exact .cons q.2 ih
section
variable {S : Sg}
theorem de_lstVals {o : Expr} {wa : WE} {p pos apos mpos : Pos} (hg : GlS S.sc "list") (hm : S.g.mg "list" = none) (ha : DE S o wa) (hbase : ∀ env, attributeBase o "values" env (eval o env) = eval o env := by intro _; rfl) (hline : (apos.endLine == mpos.line) = true := by rfl)
    (hse : ∀ env, starEach [Expr.Call (.Attribute o "values" apos) [] [] mpos] env = (false, eval (Expr.Call (.Attribute o "values" apos) [] [] mpos) env) :: starEach [] env := by intro _; rfl) :
    DE S (.Call (.Name "list" p) [.Call (.Attribute o "values" apos) [] [] mpos] [] pos) (wLstVals wa) := by
  obtain ⟨t, pa, s⟩ := ha
  refine ⟨tLstVals t, fun c hc => DL.pe_lstVals (X := S.g.cx c) hc.calm (gl_of hc hg) hm (pa c hc) (hbase _) hline (hse _), ⟨fun Ex Ex' δ P P' hx h w => ?_, fun Ex F B H vs σ δ P Q hx h w k => ?_⟩⟩
  · exact s.mono _ _ _ _ _ hx (fun r δ1 w => w.imp fun a w => w.imp fun kk w => h _ _ w) w
  · refine s.run _ _ _ _ _ _ _ _ _ hx h w fun B1 H1 x r δ1 s1 h1 q1 w1 => ?_
    obtain ⟨vw, e1, kvs, e2, w1⟩ := w1
    have ov := view_ok h1 q1 e1
    unfold kvsV at e2
    split at e2
    · cases e2
      obtain ⟨a, ys, rfl, hy, qy⟩ := ov
      exact ⟨a, ys, rfl, hy, fun p hp => rvk_ok (rv := .lst (kvs.map (·.2))) s1 h1 w1 k p _ hp (kds_vals qy)⟩
    · cases e2
end
end DL
set_option Elab.async false
set_option linter.all false
set_option maxRecDepth 100000
set_option maxHeartbeats 1000000
set_option autoImplicit false
namespace DL
open PySem PySem.Spec PyProof.Rows L2
/-! ### None asked of a dict -/
def inN (neg : Bool) (a b : Vw) : Option Rv := match a, b with
  | .d .none, .k _ => some (.val (.bool neg))
  | .d .none, .rk _ => some (.val (.bool neg))
  | .d d, .rk kvs => (keyD d).map fun k => .val (.bool (if neg then !(lookD kvs k).isSome else (lookD kvs k).isSome))
  | a, b => inG neg a b
theorem look_same {B : Hp} {ys : List (Key × V)} {kvs : List (Key × PyData)} (q : KDs B ys kvs) (k : Key) : (valV ys k).isSome = (lookD kvs k).isSome := by
  rcases kds_look q k with ⟨z1, z2⟩ | ⟨_, _, z1, z2, _⟩ <;> rw [z1, z2] <;> rfl
theorem os_inN_ {S : Sg} (neg : Bool) : OpS S (compareOp (if neg then .NotIn else .In)) (inN neg) := by
  rintro c hc pins s σ H x y v u Q I rx ry ⟨B, a, b, rv, sB, oa, ob, e, k⟩
  unfold inN at e
  split at e
  · cases e
    cases ov_non oa
    obtain ⟨p, ys, rfl, hy, _⟩ := ob
    cases (show v = Value.none from rx)
    cases (show u = Value.ref p from ry)
    cases neg
    · exact d_inNone (X := S.g.cx c) I (.inl hy) fun s3 I3 => ⟨.bl false, H, I3, rfl, k _ (.bl _)⟩
    · exact d_notInNone (X := S.g.cx c) I (.inl hy) fun s3 I3 => ⟨.bl true, H, I3, rfl, k _ (.bl _)⟩
  · cases e
    cases ov_non oa
    obtain ⟨p, ys, rfl, hy, _⟩ := ob
    cases (show v = Value.none from rx)
    cases (show u = Value.ref p from ry)
    cases neg
    · exact d_inNone (X := S.g.cx c) I hy fun s3 I3 => ⟨.bl false, H, I3, rfl, k _ (.bl _)⟩
    · exact d_notInNone (X := S.g.cx c) I hy fun s3 I3 => ⟨.bl true, H, I3, rfl, k _ (.bl _)⟩
  · obtain ⟨kk, e1, e⟩ := Option.map_eq_some_iff.mp e
    subst e
    obtain ⟨p, ys, rfl, hy, qy⟩ := ob
    have ey : x = kV kk := by
      rcases oa with oa | ⟨_, _, _, _, z, _⟩
      · exact key_dd e1 oa
      · subst z; cases e1
    subst ey
    have g : DGet H p (kV kk) (valV ys kk) := .inl ⟨ys, kk, hy, rfl, rfl⟩
    have ei := look_same qy kk
    cases (show u = Value.ref p from ry)
    cases neg
    · exact d_in (hu_of hc.room) I g rx fun s3 I3 => ⟨.bl (valV ys kk).isSome, H, I3, rfl, by rw [ei]; exact k _ (.bl _)⟩
    · exact d_notIn (hu_of hc.room) I g rx fun s3 I3 => ⟨.bl (!(valV ys kk).isSome), H, I3, rfl, by rw [ei]; exact k _ (.bl _)⟩
  · exact os_in_ neg c hc pins s σ H x y v u Q I rx ry ⟨B, _, _, rv, sB, oa, ob, e, k⟩
theorem os_inN {S : Sg} : OpS S (compareOp .In) (inN false) := os_inN_ false
theorem os_notinN {S : Sg} : OpS S (compareOp .NotIn) (inN true) := os_inN_ true
section
variable {X : Cx} {pins : List (Addr × Obj)} {σ : L2.St} {H : Hp} {s : Shared} {a : Addr} {kvs : List (Key × V)} {A : Around} {E : Value → Shared → Prop} {r : Value}
theorem d_get2None {Q : Value → Shared → Prop} (I : Inv X pins σ H s) (e : Rd H a (.dK kvs)) (h : ∀ s', Inv X pins σ H s' → Q r s') : wpAny (model X.prog X.w) A (call (.builtin "dict.get") [.ref a, .none, r]) Q E s := by
  obtain ⟨_, hd, vs, _, dd⟩ := dk_rd I.hok e
  obtain ⟨f, hm, hf⟩ := none_map dd
  refine call_meetsIn PySem.F.slot_dict_get dd.typeIs PySem.F.entry_dict_get (PySem.F.args_dict_get_3 _ _ _) (meets_dict_get_default (noneKind X.prog X.w) a (k := none) rfl hd r) ⟨_, hm, ?_⟩
  rw [hf]
  exact h _ (I.tok _)
end
/-- d.get(y, x), y perhaps None -/
def tDGetN (td ty tx : TE) : TE := fun σ H Q => td σ H fun x H1 => ∃ a, x = V.ref a ∧ IsD H1 a ∧ ty σ H1 fun y H2 => tx σ H2 fun z H3 => (∃ o, DGet H3 a y o ∧ Q (o.getD z) H3) ∨ (y = .non ∧ ∃ kvs, Rd H3 a (.dK kvs) ∧ Q z H3)
section
variable {X : Cx} {o e f : Expr} {td ty tx : TE} {apos cpos : Pos}
theorem pe_dgetN (hu : X.A.units + 1 < cLine) (ho : PE X o td) (he : PE X e ty) (hf : PE X f tx) (m : M2 X o "get" apos e f cpos) : PE X (.Call (.Attribute o "get" apos) [e, f] [] cpos) (tDGetN td ty tx) := by
  refine ⟨fun pins s σ H Q I h => ?_⟩
  refine wpAny_Call_method m.base m.few m.line PySem.F.plainAttrs_dict PySem.F.slot_dict_get PySem.F.type_dict_get (thn (ho.run pins s σ H _ I h) fun u s1 ⟨x, H1, I1, rx, a, ex, d, q1⟩ => ?_)
  subst ex
  cases (show u = Value.ref a from rx)
  obtain ⟨t1, t2, _⟩ := isD_at I1 d
  refine ⟨t1, t2, ?_⟩
  rw [m.trees]
  refine Calls.callWith_builtin rfl (Calls.evalArgs_plain (Calls.spliced_cons (thn (he.run pins s1 σ H1 _ I1 q1) fun iv s2 ⟨y, H2, I2, ry, q2⟩ => Calls.spliced_cons (thn (hf.run pins s2 σ H2 _ I2 q2) fun fv s3 ⟨z, H3, I3, rz, q3⟩ => Calls.spliced_nil ?_))))
  rcases q3 with ⟨ov, g, q3⟩ | ⟨ey, kvs, hr, q3⟩
  · exact d_get2 hu I3 g ry rz fun w' s4 I4 rw' => ⟨_, H3, I4, rw', q3⟩
  · subst ey
    cases (show iv = Value.none from ry)
    exact d_get2None I3 hr fun s4 I4 => ⟨z, H3, I4, rz, q3⟩
end
/-- what a dict of ints and texts has under a thing, None too -/
def keyN (w : Vw) : Option (Option Key) := match w with
  | .d .none => some none
  | w => (keyV w).map some
def lookN (kvs : List (Key × PyData)) : Option Key → Option PyData
  | none => none
  | some k => lookD kvs k
/-- an own dict, locked or not -/
def ownR (δ : SEnv) (i : Nat) : Option (List (Key × PyData)) := match δ[i]? with
  | some (some (.o _ (.k kvs))) => some kvs
  | some (some (.o _ (.fk _ kvs))) => some kvs
  | _ => none
theorem ownR_at {K : PySem.W.Frag} {F B H : Hp} {vs : List V} {σ : L2.St} {δ : SEnv} {i : Nat} {kvs : List (Key × PyData)} {v : V} (h : Rep K F B H vs σ δ) (e : ownR δ i = some kvs) (ev : σ[i]? = some (some v)) : ∃ a ys, v = .ref a ∧ Rd H a (.dK ys) ∧ KDs B ys kvs := by
  unfold ownR at e
  split at e
  · cases e
    obtain ⟨a, rfl, _, ys, hy, qy⟩ := own_at h (by assumption) ev
    exact ⟨a, ys, rfl, .inl hy, qy⟩
  · cases e
    obtain ⟨a, rfl, _, _, o, ys, hy, qy⟩ := own_at h (by assumption) ev
    exact ⟨a, ys, rfl, .inr ⟨o, h.sb _ _ hy⟩, qy⟩
  · cases e
theorem ownR_there {K : PySem.W.Frag} {F B H : Hp} {vs : List V} {σ : L2.St} {δ : SEnv} {i : Nat} {kvs : List (Key × PyData)} (h : Rep K F B H vs σ δ) (e : ownR δ i = some kvs) : ∃ v, σ[i]? = some (some v) := by
  unfold ownR at e
  split at e
  · obtain ⟨v, e1, _⟩ := h.ok i _ (by assumption); exact ⟨v, e1⟩
  · obtain ⟨v, e1, _⟩ := h.ok i _ (by assumption); exact ⟨v, e1⟩
  · cases e
def wGetN (i : Nat) (wa wb : WE) : WE := fun Ex δ P => ob (ownR δ i) fun _ => wa Ex δ fun r δ1 => ob (view δ1 r) fun w => ob (keyN w) fun k => wb Ex δ1 fun r2 δ2 => ob (frz δ2 r2) fun p => ob (ownR p.2 i) fun q => P (.d ((lookN q k).getD p.1)) p.2
section
variable {S : Sg}
theorem de_getN {i : Nat} {x : Str} {e f : Expr} {wa wb : WE} {p apos cpos : Pos} (hN : S.N[i]? = some x) (hv : Vis S.sc x) (ha : DE S e wa) (hf : DE S f wb) (hd : (x == ("__debug__" : Str)) = false := by decide) (hcd : (x == ("__classdict__" : Str)) = false := by decide)
    (hm : ∀ X : Cx, M2 X (.Name x p) "get" apos e f cpos := by exact fun _ => ⟨rfl, rfl, rfl, rfl⟩) : DE S (.Call (.Attribute (.Name x p) "get" apos) [e, f] [] cpos) (wGetN i wa wb) := by
  obtain ⟨t, pa, s⟩ := ha
  obtain ⟨tf, pf, sf⟩ := hf
  refine ⟨tDGetN (tVar i) t tf, fun c hc => pe_dgetN (X := S.g.cx c) (hu_of hc.room) (vis_v hc hN hv hd hcd) (pa c hc) (pf c hc) (hm _), ⟨fun Ex Ex' δ P P' hx h w => ?_, fun Ex F B H vs σ δ P Q hx h w k => ?_⟩⟩
  · exact w.imp fun _ w => s.mono _ _ _ _ _ hx (fun r δ1 w => w.imp fun a w => w.imp fun kk w => sf.mono _ _ _ _ _ hx (fun r2 δ2 w => w.imp fun p w => w.imp fun q w => h _ _ w) w) w
  · obtain ⟨kvs0, e0, w⟩ := w
    obtain ⟨v, ev⟩ := ownR_there h e0
    obtain ⟨a, ys0, rfl, hy0, _⟩ := ownR_at h e0 ev
    refine ⟨_, ev, a, rfl, .inl ⟨ys0, hy0⟩, ?_⟩
    refine s.run _ _ _ _ _ _ _ _ _ hx h w fun B1 H1 y r δ1 s1 h1 q1 w1 => ?_
    obtain ⟨vw, e1, kk, e2, w1⟩ := w1
    have ov := view_ok h1 q1 e1
    refine sf.run _ _ _ _ _ _ _ _ _ (hx.up s1) h1 w1 fun B2 H2 z r2 δ2 s2 h2 q2 w2 => ?_
    obtain ⟨⟨d0, δ3⟩, e4, kvs, e3, w2⟩ := w2
    obtain ⟨B3, s3, h3, q3⟩ := frz_ok h2 q2 e4
    obtain ⟨a', ys, ea, hy, qy⟩ := ownR_at h3 e3 ev
    cases ea
    unfold keyN at e2
    split at e2
    · cases e2
      cases ov_non ov
      exact .inr ⟨rfl, ys, hy, k B3 _ z (.d d0) _ ((s1.trans s2).trans s3) h3 q3 w2⟩
    · obtain ⟨kk', e5, rfl⟩ := Option.map_eq_some_iff.mp e2
      have ey := key_ov ov e5
      subst ey
      refine .inl ⟨_, .inl ⟨ys, kk', hy, rfl, rfl⟩, ?_⟩
      rcases kds_look qy kk' with ⟨z1, z2⟩ | ⟨v', d', z1, z2, q2⟩
      · rw [z2]
        rw [show lookN kvs (some kk') = none from z1] at w2
        exact k B3 _ z (.d d0) _ ((s1.trans s2).trans s3) h3 q3 w2
      · rw [z2]
        rw [show lookN kvs (some kk') = some d' from z1] at w2
        exact k B3 _ v' (.d d') _ ((s1.trans s2).trans s3) h3 q2 w2
end
end DL
set_option Elab.async false
set_option linter.all false
set_option maxRecDepth 100000
set_option maxHeartbeats 1000000
set_option autoImplicit false
namespace DL
open PySem PySem.Spec PyProof.Rows L2
/-! ### an own dict, locked while it is gone through -/
def delH (B : Hp) (a : Addr) : Hp := fun p => if p = a then none else B p
theorem del_ne {B : Hp} {a p : Addr} (h : p ≠ a) : delH B a p = B p := by unfold delH; rw [if_neg h]
theorem del_at {B : Hp} {a : Addr} : delH B a a = none := by unfold delH; rw [if_pos rfl]
def NoSeq (B : Hp) (a : Addr) : Prop := ∀ xs, ¬ Rd B a (.lst xs) ∧ ¬ Rd B a (.tup xs)
theorem rd_del {B : Hp} {a p : Addr} {u : HO} (h : Rd B p u) (n : p ≠ a) : Rd (delH B a) p u := by
  unfold Rd; rw [del_ne n]; exact h
theorem pl_del {B : Hp} {a p : Addr} {xs : List V} (h : PlT B p xs) (n : p ≠ a) : PlT (delH B a) p xs := by
  obtain ⟨o, e, r⟩ := h
  exact ⟨o, by rw [del_ne n]; exact e, r⟩
mutual
theorem DD.del {B : Hp} {a : Addr} (n : NoSeq B a) : ∀ {v : V} {d : PyData}, DD B v d → DD (delH B a) v d
  | _, _, .non => .non
  | _, _, .bl b => .bl b
  | _, _, .int i => .int i
  | _, _, .str x => .str x
  | _, _, .lst r q => .lst (rd_del r fun e => (n _).1 (e ▸ r)) (DDs.del n q)
  | _, _, .tup (xs := xs) r q => .tup (pl_del r fun e => (n xs).2 (e ▸ r.rd)) (DDs.del n q)
theorem DDs.del {B : Hp} {a : Addr} (n : NoSeq B a) : ∀ {vs : List V} {ds : List PyData}, DDs B vs ds → DDs (delH B a) vs ds
  | _, _, .nil => .nil
  | _, _, .cons q r => .cons (DD.del n q) (DDs.del n r)
end
theorem KDs.del {κ : Type} {B : Hp} {a : Addr} (n : NoSeq B a) {ys : List (κ × V)} {kvs : List (κ × PyData)} (q : KDs B ys kvs) : KDs (delH B a) ys kvs := Paired.mapP q fun _ _ z => ⟨z.1, z.2.del n⟩
def fkAt (a : Addr) : Cont → Prop
  | .fk d _ => d = a
  | _ => False
theorem ContOk.del {B H : Hp} {a p : Addr} {c : Cont} (n : NoSeq B a) (nf : ¬ fkAt a c) (q : ContOk B H p c) : ContOk (delH B a) H p c := by
  cases c with
  | l ds => obtain ⟨xs, e, r⟩ := q; exact ⟨xs, e, r.del n⟩
  | k kvs => obtain ⟨xs, e, r⟩ := q; exact ⟨xs, e, r.del n⟩
  | t kvs => obtain ⟨xs, e, r⟩ := q; exact ⟨xs, e, r.del n⟩
  | pt ds => obtain ⟨o, xs, e, ec, ed, r⟩ := q; exact ⟨o, xs, (del_ne fun z => (n xs).2 (by subst z; exact .inr ⟨o, e⟩)).trans e, ec, ed, r.del n⟩
  | fk d kvs =>
    obtain ⟨rfl, o, xs, e, r⟩ := q
    exact ⟨rfl, o, xs, (del_ne fun z => nf z).trans e, r.del n⟩
  | kk kvs => obtain ⟨ys, e, r, d⟩ := q; exact ⟨ys, e, Paired.mapP r fun x y z => ⟨z.1, by obtain ⟨b, zs, e1, e2, e3, e4⟩ := z.2; exact ⟨b, zs, e1, e2, e3, e4.del n⟩⟩, d⟩
  | ll dss => obtain ⟨xs, e, r, d⟩ := q; exact ⟨xs, e, Paired.mapP r fun x y z => by obtain ⟨b, zs, e1, e2, e3, e4⟩ := z; exact ⟨b, zs, e1, e2, e3, e4.del n⟩, d⟩
  | tp ps =>
    obtain ⟨xs, e, r, d⟩ := q
    refine ⟨xs, e, Paired.mapP r fun x y z => ?_, d⟩
    cases y with
    | d _ => exact DD.del n z
    | l _ => obtain ⟨b, zs, e1, e2, e3, e4⟩ := z; exact ⟨b, zs, e1, e2, e3, e4.del n⟩
    | k _ => obtain ⟨b, zs, e1, e2, e3, e4⟩ := z; exact ⟨b, zs, e1, e2, e3, e4.del n⟩
    | p _ => obtain ⟨b, o, zs, e1, e3, ec, ed, e4⟩ := z; exact ⟨b, o, zs, e1, (del_ne fun z => (n zs).2 (by subst z; exact .inr ⟨o, e3⟩)).trans e3, ec, ed, e4.del n⟩
section
variable {K : PySem.W.Frag} {F B H : Hp} {vs : List V} {σ : L2.St} {δ : SEnv}
theorem Rep.lock (h : Rep K F B H vs σ δ) {i : Nat} {b : Bool} {kvs : List (Key × PyData)} {a : Addr} {ys : List (Key × V)} (e : δ[i]? = some (some (.o b (.k kvs)))) (ea : σ[i]? = some (some (.ref a))) (hy : H a = some (.dK ys)) (od : Obj) :
    Rep K F (upd B a (.frz od (.dK ys))) (upd H a (.frz od (.dK ys))) vs σ (δ.set i (some (.o b (.fk a kvs)))) ∧ Same B (upd B a (.frz od (.dK ys))) := by
  obtain ⟨hBF, ys', hy', qy⟩ := h.own_up e ea
  rw [hy] at hy'; cases hy'
  have hB := (hBF a foot_self).1
  have hF := (hBF a foot_self).2
  have sB : Same B (upd B a (.frz od (.dK ys))) := same_new hB _
  have ne : ∀ {j : Nat} {b2 : Bool} {c2 : Cont} {a2 p : Addr}, j ≠ i → δ[j]? = some (some (.o b2 c2)) → σ[j]? = some (some (.ref a2)) → Foot H a2 c2 p → p ≠ a := fun n z e2 f w => by
    subst w; exact n (h.apart _ _ _ _ _ _ _ _ _ z e e2 ea f foot_self)
  have sm : ∀ {j : Nat} {b2 : Bool} {c2 : Cont} {a2 p : Addr}, j ≠ i → δ[j]? = some (some (.o b2 c2)) → σ[j]? = some (some (.ref a2)) → (Foot (upd H a (.frz od (.dK ys))) a2 c2 p ↔ Foot H a2 c2 p) := fun n z e2 => foot_eq fun p f => upd_ne (ne n z e2 f)
  refine ⟨⟨fun p u z => ?_, fun p u z => ?_, fun p u z => ?_, by rw [List.length_set]; exact h.len, fun j s z => ?_, fun j k a1 a2 p b1 c1 b2 c2 z1 z2 z3 z4 f1 f2 => ?_, fun j c1 z => ?_, nt_upd h.nt (by intro _ z; cases z)⟩, sB⟩
  · by_cases hp : p = a
    · subst hp; rw [upd_same] at z ⊢; exact z
    · rw [upd_ne hp] at z ⊢; exact h.sb p u z
  · rw [upd_ne (ne_of_none z hF)]; exact h.sf p u z
  · rw [upd_ne (ne_of_none z hF)]; exact h.dj p u z
  · rcases set_get z with ⟨ej, z'⟩ | ⟨n, z'⟩
    · subst ej; cases z'; exact ⟨_, ea, a, rfl, fun p f => f.elim, rfl, od, ys, upd_same, qy.mono sB⟩
    · obtain ⟨v, e2, q2⟩ := h.ok j s z'
      refine ⟨v, e2, ?_⟩
      cases s with
      | d d => exact DD.mono sB q2
      | w d => exact q2
      | o b2 c2 =>
        obtain ⟨p, e3, hBF2, q3⟩ := q2
        subst e3
        refine ⟨p, rfl, fun r f => ?_, q3.mono sB fun r f => upd_ne (ne n z' e2 f)⟩
        have f' := (sm n z' e2).mp f
        rw [upd_ne (ne n z' e2 f')]
        exact hBF2 r f'
  · rcases set_get z1 with ⟨ej, y1⟩ | ⟨nj, y1⟩
    · cases y1; exact f1.elim
    · rcases set_get z2 with ⟨ek, y2⟩ | ⟨nk, y2⟩
      · cases y2; exact f2.elim
      · exact h.apart j k a1 a2 p b1 c1 b2 c2 y1 y2 z3 z4 ((sm nj y1 z3).mp f1) ((sm nk y2 z4).mp f2)
  · rcases set_get z with ⟨ej, z'⟩ | ⟨n, z'⟩
    · subst ej; cases z'; exact h.bor _ _ e
    · exact h.bor j c1 z'
/-- the only locked slot -/
def OnlyFk (δ : SEnv) (i : Nat) (a : Addr) : Prop := ∀ (j : Nat) (b : Bool) (c : Cont), δ[j]? = some (some (.o b c)) → fkAt a c → j = i
theorem Rep.unlock (h : Rep K F B H vs σ δ) {i : Nat} {b : Bool} {kvs : List (Key × PyData)} {a : Addr} {ys : List (Key × V)} {od : Obj} (e : δ[i]? = some (some (.o b (.fk a kvs)))) (hy : B a = some (.frz od (.dK ys))) (of : OnlyFk δ i a) :
    Rep K F (delH B a) (upd H a (.dK ys)) vs σ (δ.set i (some (.o b (.k kvs)))) ∧ H a = some (.frz od (.dK ys)) ∧ NoSeq B a := by
  have n : NoSeq B a := fun xs => ⟨fun r => by rcases r with r | ⟨o, r⟩ <;> (rw [hy] at r; cases r), fun r => by rcases r with r | ⟨o, r⟩ <;> (rw [hy] at r; cases r)⟩
  obtain ⟨v, ea, a', ev, _, ed, o, ys', hy', qy⟩ := h.ok i _ e
  subst ed ev
  rw [hy] at hy'; cases hy'
  have hF : F a' = none := by
    cases q : F a' with
    | none => rfl
    | some u => have := h.dj a' u q; rw [hy] at this; cases this
  have ne : ∀ {j : Nat} {b2 : Bool} {c2 : Cont} {a2 p : Addr}, δ[j]? = some (some (.o b2 c2)) → σ[j]? = some (some (.ref a2)) → Foot H a2 c2 p → p ≠ a' := fun z e2 f w => by
    have := ((h.own_up z e2).1 _ f).1
    rw [w, hy] at this; cases this
  have sm : ∀ {j : Nat} {b2 : Bool} {c2 : Cont} {a2 p : Addr}, δ[j]? = some (some (.o b2 c2)) → σ[j]? = some (some (.ref a2)) → (Foot (upd H a' (.dK ys)) a2 c2 p ↔ Foot H a2 c2 p) := fun z e2 => foot_eq fun p f => upd_ne (ne z e2 f)
  refine ⟨⟨fun p u z => ?_, fun p u z => ?_, fun p u z => ?_, by rw [List.length_set]; exact h.len, fun j s z => ?_, fun j k a1 a2 p b1 c1 b2 c2 z1 z2 z3 z4 f1 f2 => ?_, fun j c1 z => ?_, fun p ps z => by (by_cases hp : p = a'); (subst hp; rw [del_at] at z; cases z); (rw [del_ne hp] at z; exact h.nt _ _ z)⟩, h.sb _ _ hy, n⟩
  · by_cases hp : p = a'
    · subst hp; rw [del_at] at z; cases z
    · rw [del_ne hp] at z; rw [upd_ne hp]; exact h.sb p u z
  · rw [upd_ne (ne_of_none z hF)]; exact h.sf p u z
  · rw [del_ne (ne_of_none z hF)]; exact h.dj p u z
  · rcases set_get z with ⟨ej, z'⟩ | ⟨nj, z'⟩
    · subst ej; cases z'; exact ⟨_, ea, a', rfl, foot_bf rfl del_at hF, ys, upd_same, qy.del n⟩
    · obtain ⟨v, e2, q2⟩ := h.ok j s z'
      refine ⟨v, e2, ?_⟩
      cases s with
      | d d => exact DD.del n q2
      | w d => exact q2
      | o b2 c2 =>
        obtain ⟨p, e3, hBF2, q3⟩ := q2
        subst e3
        refine ⟨p, rfl, fun r f => ?_, ContOk.del n (fun z2 => nj (of j b2 c2 z' z2)) (q3.mono (Same.refl _) fun r f => upd_ne (ne z' e2 f))⟩
        have f' := (sm z' e2).mp f
        rw [del_ne (ne z' e2 f')]
        exact hBF2 r f'
  · rcases set_get z1 with ⟨ej, y1⟩ | ⟨nj, y1⟩
    · rcases set_get z2 with ⟨ek, y2⟩ | ⟨nk, y2⟩
      · rw [ej, ek]
      · cases y1; subst ej
        rw [ea] at z3; cases z3
        cases (show p = a' from f1)
        exact absurd rfl (ne y2 z4 ((sm y2 z4).mp f2))
    · rcases set_get z2 with ⟨ek, y2⟩ | ⟨nk, y2⟩
      · cases y2; subst ek
        rw [ea] at z4; cases z4
        cases (show p = a' from f2)
        exact absurd rfl (ne y1 z3 ((sm y1 z3).mp f1))
      · exact h.apart j k a1 a2 p b1 c1 b2 c2 y1 y2 z3 z4 ((sm y1 z3).mp f1) ((sm y2 z4).mp f2)
  · rcases set_get z with ⟨ej, z'⟩ | ⟨nj, z'⟩
    · subst ej; cases z'; exact h.bor _ _ e
    · exact h.bor j c1 z'
theorem same_del {B0 B : Hp} {a : Addr} {o : HO} (h0 : B0 a = none) (s : Same (upd B0 a o) B) : Same B0 (delH B a) := fun p u e => by
  have hp : p ≠ a := ne_of_none e h0
  rw [del_ne hp]; exact s p u (by rw [upd_ne hp]; exact e)
end
/-- how the slots stand when the lock goes -/
def unfk (i : Nat) (b : Bool) (a : Addr) (kvs : List (Key × PyData)) (P : SEnv → Prop) : SEnv → Prop := fun δ => δ[i]? = some (some (.o b (.fk a kvs))) ∧ OnlyFk δ i a ∧ P (δ.set i (some (.o b (.k kvs))))
def simpR : R → Bool
  | .d _ => true
  | .w _ => true
  | .n c => c.simple
  | _ => false
def lockD (d : DEnds) (i : Nat) (b : Bool) (a : Addr) (kvs : List (Key × PyData)) : DEnds := ⟨unfk i b a kvs d.nx, fun r => unfk i b a kvs fun δ => simpR r = true ∧ d.rt r δ, unfk i b a kvs d.bk, unfk i b a kvs d.ct, d.ex⟩
def wLock (i : Nat) (w : WS) : WS := fun d δ => ob (ownK δ i) fun q => ∀ a, w (lockD d i q.1 a q.2) (δ.set i (some (.o q.1 (.fk a q.2))))
theorem lockD_le {d d' : DEnds} {i : Nat} {b : Bool} {a : Addr} {kvs : List (Key × PyData)} (h : d.le d') : (lockD d i b a kvs).le (lockD d' i b a kvs) :=
  ⟨fun δ w => ⟨w.1, w.2.1, h.nx _ w.2.2⟩, fun r δ w => ⟨w.1, w.2.1, w.2.2.1, h.rt _ _ w.2.2.2⟩, fun δ w => ⟨w.1, w.2.1, h.bk _ w.2.2⟩, fun δ w => ⟨w.1, w.2.1, h.ct _ w.2.2⟩, h.ex⟩
section
variable {S : Sg}
theorem ds_lock {st : Stmt} {w : WS} {i : Nat} (h : DS S st w) : DS S st (wLock i w) := by
  obtain ⟨t, p, s⟩ := h
  refine ⟨tLock t, fun c hc => ps_lock (p c hc), ⟨fun d d' δ hd w => w.imp fun q w a => s.mono _ _ _ (lockD_le hd) (w a), fun F B H vs σ δ D d hx h k w => ?_⟩⟩
  obtain ⟨⟨b, kvs⟩, e, w⟩ := w
  have e' := ownK_at e
  obtain ⟨v, ea, a, rfl, hBF, ys, hy, qy⟩ := h.ok i _ e'
  have hB := (hBF a foot_self).1
  refine ⟨a, .dK ys, hy, trivial, fun od => ?_⟩
  obtain ⟨h1, s1⟩ := h.lock e' ea hy od
  have back : ∀ {B' H' : Hp} {σ' : L2.St} {δ' : SEnv}, Same (upd B a (.frz od (.dK ys))) B' → Rep S.g.K F B' H' vs σ' δ' → δ'[i]? = some (some (.o b (.fk a kvs))) → OnlyFk δ' i a → H' a = some (.frz od (.dK ys)) ∧ Same B (delH B' a) ∧ Rep S.g.K F (delH B' a) (upd H' a (.dK ys)) vs σ' (δ'.set i (some (.o b (.k kvs)))) ∧ NoSeq B' a ∧ F a = none := by
    intro B' H' σ' δ' s2 h2 e2 of
    obtain ⟨h3, h4, h5⟩ := h2.unlock e2 (s2 a _ upd_same) of
    exact ⟨h4, same_del hB s2, h3, h5, (hBF a foot_self).2⟩
  refine s.run F _ _ vs σ _ _ (lockD d i b a kvs) (hx.up s1) h1 ⟨fun B' σ' H' δ' s2 h2 q => ?_, fun B' σ' H' δ' v r s2 h2 q2 q => ?_, fun B' σ' H' δ' s2 h2 q => ?_, fun B' σ' H' δ' s2 h2 q => ?_⟩ (w a)
  · obtain ⟨g1, g2, g3, _⟩ := back s2 h2 q.1 q.2.1
    exact ⟨g1, k.nx _ σ' _ _ g2 g3 q.2.2⟩
  · obtain ⟨g1, g2, g3, g4, gF⟩ := back s2 h2 q.1 q.2.1
    obtain ⟨hfk, _, hs, q⟩ := q
    refine ⟨g1, k.rt _ σ' _ _ v r g2 g3 ?_ q⟩
    cases r with
    | d d => exact DD.del g4 q2
    | w d => exact q2
    | o j => cases hs
    | n c =>
      obtain ⟨a2, rfl, hBF2, qc, off⟩ := q2
      have na : a2 ≠ a := fun z => by
        have := (hBF2 a2 (foot_self (real_of hs))).1
        rw [z, s2 a _ upd_same] at this; cases this
      have fe : ∀ p, Foot (upd H' a (.dK ys)) a2 c p ↔ Foot H' a2 c p := fun p => foot_eq fun q f => by cases foot_one hs f; exact upd_ne na
      refine ⟨a2, rfl, fun p f => ?_, ContOk.del g4 (fun z => by cases c <;> first | exact z | cases hs) (qc.mono (Same.refl _) fun p f => by cases foot_one hs f; exact upd_ne na), fun j b' c' a' p e1 e2 f f' => ?_⟩
      · cases foot_one hs f
        rw [del_ne na]; exact hBF2 _ (foot_self (real_of hs))
      · cases foot_one hs f'
        rcases set_get e1 with ⟨ej, z⟩ | ⟨nj, z⟩
        · cases z
          cases (show a2 = a' from f)
          subst ej
          obtain ⟨v', e3, a3, e4, _, e5, _⟩ := h2.ok j _ hfk
          rw [e2] at e3; cases e3; cases e4
          exact na e5
        · have f2 : Foot H' a' c' a2 := by
            refine (foot_eq fun p f => ?_).mp f
            have z2 := ((h2.own_up z e2).1 _ f).1
            exact upd_ne fun w => by rw [w, s2 a _ upd_same] at z2; cases z2
          exact off j b' c' a' a2 z e2 f2 (foot_self (real_of hs))
  · obtain ⟨g1, g2, g3, _⟩ := back s2 h2 q.1 q.2.1
    exact ⟨g1, k.bk _ σ' _ _ g2 g3 q.2.2⟩
  · obtain ⟨g1, g2, g3, _⟩ := back s2 h2 q.1 q.2.1
    exact ⟨g1, k.ct _ σ' _ _ g2 g3 q.2.2⟩
/-- the keys of a locked dict -/
def keyP : Key → PyData
  | .inl n => .int n
  | .inr x => .str x
def fkV : Option (Option Sl) → Option (List (Key × PyData))
  | some (some (.o _ (.fk _ kvs))) => some kvs
  | _ => none
def wItK (i : Nat) : WI := fun _ δ P => ob (fkV δ[i]?) fun kvs => P (kvs.map fun kv => keyP kv.1) δ
theorem keyP_dd {B : Hp} (k : Key) : DD B (kV k) (keyP k) := by
  cases k with
  | inl n => exact .int n
  | inr x => exact .str x
theorem di_keys {tg : Expr} {i : Nat} {x : Str} {p : Pos} (hN : S.N[i]? = some x) (hv : Vis S.sc x) (hd : (x == ("__debug__" : Str)) = false := by decide) (hcd : (x == ("__classdict__" : Str)) = false := by decide) : DI S tg (.Name x p) (wItK i) := by
  refine ⟨iKeys (tVar i), fun c hc => pi_keys (vis_v hc hN hv hd hcd), ⟨fun Ex Ex' δ P P' hx h w => w.imp fun kvs w => h _ _ w, fun Ex F B H vs σ δ P R' hx h w k => ?_⟩⟩
  obtain ⟨kvs, e, w⟩ := w
  have e' : ∃ b a, δ[i]? = some (some (.o b (.fk a kvs))) := by
    unfold fkV at e
    split at e
    · cases e; exact ⟨_, _, by assumption⟩
    · cases e
  obtain ⟨b, a0, e1⟩ := e'
  obtain ⟨v, ev, a, rfl, _, ea, o, ys, hy, qy⟩ := h.ok i _ e1
  refine ⟨_, ev, a, o, rfl, .inl ⟨ys, h.sb _ _ hy, ?_⟩⟩
  refine k B H (Itk a o ys) _ δ (Same.refl _) h ⟨fun j H1 s hj => ⟨s _ _ hy, by rw [List.length_map, ← kds_length qy] at hj; exact hj⟩, fun j H1 s hj => ⟨s _ _ hy, by rw [List.length_map, ← kds_length qy] at hj; exact hj⟩, fun j H1 B2 y H2 d s s2 z e2 => ?_⟩ w
  obtain ⟨e3, kk, vv, e4, e5⟩ := z
  refine yl_same e3 ?_ s
  subst e5
  rw [List.getElem?_map] at e2
  obtain ⟨kv, e6, rfl⟩ := Option.map_eq_some_iff.mp e2
  obtain ⟨kv', e7, e8, _⟩ := paired_at qy e4
  rw [e6] at e7; cases e7
  rw [show kk = kv.1 from e8]
  exact keyP_dd _
end
end DL
set_option Elab.async false
set_option linter.all false
set_option maxRecDepth 100000
set_option maxHeartbeats 1000000
set_option autoImplicit false
namespace DL
open PySem PySem.Spec PyProof.Rows L2
section
variable {S : Sg}
theorem sw_cell {v : Expr} {py : Pos} {y : Str} {l : Nat} {env : Env} (hc : env.scope.names.lookup y = some .cell) (hv : (match v with | .ListComp .. => true | .DictComp .. => true | _ => false) = true) : swapsWith v (some (.Name y py)) l env = pure false := by
  have k1 : env.kindOf y = some .cell := hc
  cases v <;> first | (cases hv; done) | (unfold swapsWith; simp only [k1]; cases env.blockKind <;> rfl)
/-- a name that a comprehension captures = a comprehension -/
theorem ds_setC {i : Nat} {x : Str} {e : Expr} {wa : WE} {pos pos' : Pos} (hi : S.N[i]? = some x) (hx : Loc S.sc x) (hcl : S.sc.names.lookup x = some .cell) (hv : (match e with | .ListComp .. => true | .DictComp .. => true | _ => false) = true) (h : DE S e wa) (ht : S.top = true ∨ S.sc.names.lookup x = some .local := by exact .inl rfl) :
    DS S (.Assign [.Name x pos'] e pos) (wSet i wa) := by
  obtain ⟨t, p, s⟩ := h
  refine ⟨_, fun c hc => ps_set (X := S.g.cx c) (i := i) (by show c.N.Nodup; rw [hc.hN]; exact hc.nd) (by show c.N[i]? = _; rw [hc.hN]; exact hi) (by show Loc c.env.scope x; rw [hc.hs]; exact hx) (p c hc) (sw_cell (by show c.env.scope.names.lookup x = _; rw [hc.hs]; exact hcl) hv) (fn_ok hc ht), ⟨fun d d' δ h w => s.mono _ _ _ _ _ h.ex (fun r δ1 w => w.imp fun δ2 w => h.nx _ w) w, fun F B H vs σ δ D d hx h k w => ?_⟩⟩
  refine s.run _ _ _ _ _ _ _ _ _ hx h w fun B1 H1 v r δ1 s1 h1 q1 w1 => ?_
  obtain ⟨δ2, e1, w1⟩ := w1
  obtain ⟨B2, s2, h2⟩ := asgn_ok h1 q1 e1
  exact k.nx B2 _ H1 δ2 (s1.trans s2) h2 w1
end
end DL
set_option Elab.async false
set_option linter.all false
set_option maxRecDepth 100000
set_option maxHeartbeats 1000000
set_option autoImplicit false
namespace DL
open PySem PySem.Spec PyProof.Rows L2
/-! ### xs.extend(ys), ys a list or a tuple -/
theorem ext_tup (l : Addr) (xs : Array Value) (n : Nat) (b : Addr) (ys : Array Value) (m : Nat) (dd : Option Addr) (ss : Array (Option Value)) (h0 : ¬(!xs.isEmpty && Builtin.List.listTooLong (xs.size + ys.size)) = true) (h1 : xs.size ≤ sizeLine) (h2 : xs.size + ys.size ≤ sizeLine + 1) :
    Meets (Builtin.«list.extend» ⟨[.ref l, .ref b], []⟩) (fun _ R s => s.heap.get? l = some { cls := .type "list", dict := none, data := .seq xs n, slots := #[] } ∧ s.heap.get? b = some { cls := .type "tuple", dict := dd, data := .seq ys m, slots := ss } ∧
      R (.ok (.ret Value.none)) { s with heap := s.heap.update l (Obj.mapSeq fun x => x ++ ys), toks := s.toks }) :=
  .of_wp fun prog w A R s h => by
    obtain ⟨a1, a2, a3, a4, a5⟩ := s
    obtain ⟨hl, hb, h⟩ := h
    have f1 := AutoSeq1.idx_int
    have f2 := AutoSeq1.sub_tuple_tuple
    have f3 := AutoSeq1.sub_list_list
    have f4 := AutoSeq1.sub_tuple_list
    have f5 := AutoSeq1.sub_list_tuple
    have z : (xs ++ ys).size ≤ sizeLine + 1 := by rw [Array.size_append]; exact h2
    wp_walk using (wpAny_updateSeq hl rfl (hz := h1) (_hz' := z)), AutoSeq1.wpAny_loadPart' hl, AutoSeq1.wpAny_loadPart' hb
    exact ⟨_, rfl, h⟩
def rExtT (K : PySem.W.Frag) : V → List V → Hp → VK → Prop := fun x vs H Q => ∃ l b xs zs, x = .ref l ∧ vs = [.ref b] ∧ H l = some (.lst xs) ∧ (Rd H b (.lst zs) ∨ SqT K H b zs) ∧ xs.length + zs.length ≤ sizeLine ∧ Q .non (upd H l (.lst (xs ++ zs)))
theorem mt_extT {X : Cx} : MtR X "list.extend" (rExtT X.K) := by
  rintro pins s σ H x vs v us Q I rx rv ⟨l, b, xs, zs, rfl, rfl, hl, hb, hz, q⟩
  rcases hb with hb | hb
  · exact mt_extendRd pins s σ H _ _ v us Q I rx rv ⟨l, b, xs, zs, rfl, rfl, hl, hb, hz, q⟩
  · cases rx
    obtain ⟨u, rfl, ru⟩ := rv.one
    cases ru
    obtain ⟨z1, its, n, r, e⟩ := I.hok l _ hl
    obtain ⟨its2, r2, ⟨⟨c2, d2, dt2, sl2⟩, ho2, hc2, n2, hd2⟩, hz2⟩ := I.tuple hb
    simp only at hc2 hd2
    subst hc2 hd2
    have l1 := r.length
    have l2 := r2.length
    have tot : its.toArray.size + its2.toArray.size ≤ sizeLine := by rw [List.size_toArray, List.size_toArray]; omega
    refine call_meets F.slot_list_extend ⟨_, e, rfl⟩ F.entry_list_extend (F.args_list_extend_2 _ _) (ext_tup l its.toArray n b its2.toArray n2 d2 sl2 (by rw [notLongL tot, Bool.and_false]; exact Bool.false_ne_true) (by rw [List.size_toArray]; omega) (by omega)) ⟨e, ho2, ?_⟩
    exact ⟨.non, _, I.lset (its' := its ++ its2) hl e (by simp) (r.append r2) (by rw [List.length_append]; omega), rfl, q⟩
def seqD : PyData → Option (List PyData)
  | .list ds => some ds
  | .tuple ds => some ds
  | _ => none
def wExtT (i : Nat) (wa : WE) : WE := fun Ex δ P => ob (ownL δ i) fun _ => wa Ex δ fun r δ1 => ob (frz δ1 r) fun p => ob (seqD p.1) fun zs => ob (ownL p.2 i) fun q => q.2.length + zs.length ≤ sizeLine ∧ P (.d .none) (p.2.set i (some (.o q.1 (.l (q.2 ++ zs)))))
section
variable {S : Sg}
theorem de_extT {i : Nat} {x : Str} {e : Expr} {wa : WE} {p apos cpos : Pos} (hN : S.N[i]? = some x) (hv : Vis S.sc x) (ha : DE S e wa) (hd : (x == ("__debug__" : Str)) = false := by decide) (hcd : (x == ("__classdict__" : Str)) = false := by decide)
    (hb : ∀ env, attributeBase (.Name x p) "extend" env (eval (.Name x p) env) = eval (.Name x p) env := by intro _; rfl) (hf : few cpos e := by intro _; rfl) (hl : (apos.endLine == cpos.line) = true := by rfl)
    (hs : ∀ env, starEach [e] env = (false, eval e env) :: starEach [] env := by intro _; rfl) (hp : ∀ env, (backTo cpos (starEach [] env)).any (·.1) = false := by intro _; rfl) :
    DE S (.Call (.Attribute (.Name x p) "extend" apos) [e] [] cpos) (wExtT i wa) := by
  obtain ⟨t, pa, s⟩ := ha
  refine ⟨tBM S.g.K "list" (rExtT S.g.K) (tVar i) (tCons t tNil), fun c hc => pe_bm (X := S.g.cx c) PySem.F.plainAttrs_list PySem.F.slot_list_extend PySem.F.type_list_extend mt_extT (vis_v hc hN hv hd hcd) (pa_cons (pa c hc) pa_nil (hs _)) (hb _) (hf _) hl (hs _) (hp _), ⟨fun Ex Ex' δ P P' hx h w => ?_, fun Ex F B H vs σ δ P Q hx h w k => ?_⟩⟩
  · exact w.imp fun _ w => s.mono _ _ _ _ _ hx (fun r δ1 w => w.imp fun p w => w.imp fun zs w => w.imp fun q w => ⟨w.1, h _ _ w.2⟩) w
  · obtain ⟨⟨b0, ds0⟩, e0, w⟩ := w
    have a0 := ownL_at e0
    obtain ⟨v, ev, a, rfl, hBF, xs, hx0, q0⟩ := h.ok i _ a0
    refine ⟨_, ev, .inl ⟨rfl, xs, SqL.of hx0⟩, ?_⟩
    refine s.run _ _ _ _ _ _ _ _ _ hx h w fun B1 H1 y r δ1 s1 h1 q1 w1 => ?_
    obtain ⟨⟨d, δ2⟩, e1, zs, ez, ⟨b, ds⟩, e2, hl2, w1⟩ := w1
    obtain ⟨B2, s2, h2, q2⟩ := frz_ok h1 q1 e1
    have a2 := ownL_at e2
    obtain ⟨a', ea, hBF2, ys, hy, qy⟩ := own_at h2 a2 ev
    cases ea
    have fin : ∀ {us : List V}, DDs B2 us zs → Q .non (upd H1 a (.lst (ys ++ us))) := fun qu => k B2 _ .non (.d .none) _ (s1.trans s2) (h2.mutate (c' := .l (ds ++ zs)) a2 ev ⟨_, upd_same, qy.append qu⟩) .non w1
    cases q2 with
    | lst r q => cases ez; exact ⟨a, _, ys, _, rfl, rfl, hy, .inl (same_rd h2.sb r), by rw [qy.length, q.length]; exact hl2, fin q⟩
    | tup r q => cases ez; exact ⟨a, _, ys, _, rfl, rfl, hy, .inr (.inl (PlT.mono h2.sb r).rd), by rw [qy.length, q.length]; exact hl2, fin q⟩
    | _ => cases ez
end
/-! ### sorted(xs), xs a list of pairs of ints -/
def pairB : PyData → Bool
  | .tuple [.int x, .int y] => decide (0 ≤ x) && decide (x < 1099511627776) && decide (0 ≤ y) && decide (y < 1099511627776)
  | _ => false
theorem pairB_of {d : PyData} (h : pairB d = true) : ∃ x y : Int, d = .tuple [.int x, .int y] ∧ 0 ≤ x ∧ x < 1099511627776 ∧ 0 ≤ y ∧ y < 1099511627776 := by
  unfold pairB at h
  split at h
  · simp only [Bool.and_eq_true, decide_eq_true_eq] at h
    exact ⟨_, _, rfl, h.1.1.1, h.1.1.2, h.1.2, h.2⟩
  · cases h
theorem dds_perm {B : Hp} {ys xs : List V} (p : ys.Perm xs) : ∀ {ds : List PyData}, DDs B xs ds → ∃ es, es.Perm ds ∧ DDs B ys es := by
  induction p with
  | nil => intro ds q; exact ⟨ds, .refl _, q⟩
  | cons x _ ih => intro ds q; cases q with
    | cons q r => obtain ⟨es, p, q2⟩ := ih r; exact ⟨_ :: es, p.cons _, .cons q q2⟩
  | swap x y l => intro ds q; cases q with
    | cons q1 r => cases r with
      | cons q2 r => exact ⟨_, List.Perm.swap _ _ _, .cons q2 (.cons q1 r)⟩
  | trans _ _ ih1 ih2 => intro ds q; obtain ⟨es, p1, q1⟩ := ih2 q; obtain ⟨fs, p2, q2⟩ := ih1 q1; exact ⟨fs, p2.trans p1, q2⟩
def wSortP (wa : WE) : WE := fun Ex δ P => wa Ex δ fun r δ1 => ob (settle r) fun r' => ob (view δ1 r') fun w => ob (listV w) fun ds => (ds.length < 64 ∧ ds.all pairB = true) ∧ ∀ es : List PyData, es.Perm ds → P (.n (.l es)) δ1
section
variable {S : Sg}
theorem de_sortP {a : Expr} {wa : WE} {p pos : Pos} (hg : GlS S.sc "sorted") (hm : S.g.mg "sorted" = none) (ha : DE S a wa) (hs : ∀ env, starEach [a] env = (false, eval a env) :: starEach [] env := by intro _; rfl) (hp : ∀ env, (backTo pos (starEach [] env)).any (·.1) = false := by intro _; rfl) :
    DE S (.Call (.Name "sorted" p) [a] [] pos) (wSortP wa) := by
  obtain ⟨t, pa, s⟩ := ha
  refine ⟨tCB (rSortU S.g.K 2 1099511627776) (tCons t tNil), fun c hc => pe_callB (cr_sortT (by decide)) (gl_of hc hg) hm (by first | rfl | decide +kernel) (pa_cons (pa c hc) pa_nil (hs _)) (by decide) (by decide) (hs _) (hp _), ⟨fun Ex Ex' δ P P' hx h w => ?_, fun Ex F B H vs σ δ P Q hx h w k => ?_⟩⟩
  · exact s.mono _ _ _ _ _ hx (fun r δ1 w => w.imp fun a w => w.imp fun b w => w.imp fun ds w => ⟨w.1, fun es pe => h _ _ (w.2 es pe)⟩) w
  · refine s.run _ _ _ _ _ _ _ _ _ hx h w fun B1 H1 x r δ1 s1 h1 q1 w1 => ?_
    obtain ⟨r', e1, vw, e2, ds, e3, ⟨hl, hb⟩, w1⟩ := w1
    obtain ⟨B2, s2, h2, q2, n2⟩ := settle_ok h1 q1 e1
    obtain ⟨a, xs, rfl, hr, qx⟩ := lst_of h2.sb (view_ok h2 q2 e2) e3
    refine ⟨a, xs, rfl, .inl hr, by rw [qx.length]; exact hl, fun x hm => ?_, fun ys p hp _ hn => ?_⟩
    · obtain ⟨i, hi, ei⟩ := List.getElem_of_mem hm
      obtain ⟨d, e4, qd⟩ := qx.getV (i := i) (v := x) (by rw [List.getElem?_eq_getElem hi, ei])
      obtain ⟨u, v, rfl, g⟩ := pairB_of (List.all_eq_true.mp hb d (List.mem_of_getElem? e4))
      cases qd with
      | tup r q =>
        cases DDs.ints (ns := [u, v]) q
        refine ⟨[u, v], ⟨_, rfl, .inl (PlT.mono h2.sb r).rd⟩, rfl, fun z hz => ?_⟩
        simp at hz
        rcases hz with rfl | rfl <;> omega
    · obtain ⟨es, pe, qe⟩ := dds_perm hp qx
      exact rvk_ok (rv := .lst es) (s1.trans s2) h2 (w1 es pe) k p ys hn qe
end
end DL
set_option Elab.async false
set_option linter.all false
set_option maxRecDepth 100000
set_option maxHeartbeats 1000000
set_option autoImplicit false
/-! dict(f(..)), f(..) a new tuple of pairs that was made by tuple(..) of a list: its object is told whole. -/
namespace DL
open PySem PySem.Spec PyProof.Rows L2
section
variable {X : Cx}
def rTupF (K : PySem.W.Frag) : List V → Hp → VK → Prop := fun xs H Q => ∃ p ys, xs = [.ref p] ∧ SqL K H p ys ∧ ∀ (l : Addr) (o : Obj), H l = none → o.cls = .type "tuple" → o.dict = none → Q (.ref l) (upd H l (.frz o (.tup ys)))
theorem call_tupleF : CallR X (.type "tuple") (rTupF X.K) := by
  intro pins s σ H xs us Q I r h
  obtain ⟨p, ys, rfl, hq, q⟩ := h
  obtain ⟨u, rfl, rx⟩ := vals1 r
  cases rx
  obtain ⟨its, r', pl, hz⟩ := I.list hq
  have hlen := r'.length
  refine call_tuple_list pl.isList (fun h' kp => ?_) (by simp only [List.size_toArray] <;> omega)
  have I1 : Inv X pins σ H { s with heap := h' } := I.kept (t' := s.toks) kp
  have I2 : Inv X pins σ (upd H h'.objs.size (.frz { cls := .type "tuple", data := .seq its.toArray } (.tup ys))) { s with heap := h'.push { cls := .type "tuple", data := .seq its.toArray } } :=
    I1.laid (t' := s.toks) (fun b o e => Heap.get?_push_of_some _ e) (Nat.le_refl _) ⟨Heap.get?_push_size _ rfl, (show ObjOk X.prog X.w _ _ _ (.tup ys) from ⟨hz, its, r', IsTup.new _ _⟩)⟩
  exact ⟨.ref h'.objs.size, _, I2, rfl, q _ _ (I1.hok.fresh (Nat.le_refl _)) rfl rfl⟩
theorem pairs_of2 {pins : List (Addr × Obj)} {σ : L2.St} {H : Hp} {s : Shared} (I : Inv X pins σ H s) : ∀ {ps : List Addr} {kvs : List (Key × V)}, Paired (fun p kv => SqT X.K H p [kV kv.1, kv.2]) ps kvs →
    ∃ (prs : List (Key × Value)) (qs : List (Value × Value)), KV kvs prs ∧ prs.length = ps.length ∧ qs.length = ps.length ∧ ∀ (j : Nat) (k v : Value), qs[j]? = some (k, v) → ∃ (b : Addr) (kk : Key), ps[j]? = some b ∧ IsTup s.heap b #[k, v] ∧ prs[j]? = some (kk, v) ∧ keyIs kk k = true
  | _, _, .nil => ⟨[], [], .nil, rfl, rfl, fun j k v e => by simp at e⟩
  | _, _, .cons (a := p) (b := kv) h t => by
    obtain ⟨prs, qs, r, hl, hl2, hp⟩ := pairs_of2 I t
    obtain ⟨its, rv, ht, _⟩ := I.tuple h
    obtain ⟨u, y, ei, ru, ry⟩ := vals2 rv
    subst ei
    refine ⟨(kv.1, y) :: prs, (u, y) :: qs, .cons ⟨rfl, ry⟩ r, by rw [List.length_cons, List.length_cons, hl], by rw [List.length_cons, List.length_cons, hl2], fun j k v e => ?_⟩
    cases j with
    | zero =>
      cases (Option.some.inj e : (u, y) = (k, v))
      exact ⟨p, kv.1, rfl, ht, rfl, kV_is (P := X.prog) (w := X.w) ru⟩
    | succ j =>
      obtain ⟨b, kk, e1, e2, e3, e4⟩ := hp j k v (by simpa using e)
      exact ⟨b, kk, by simpa using e1, e2, by simpa using e3, e4⟩
def rDictT (K : PySem.W.Frag) : List V → Hp → VK → Prop := fun xs H Q => ∃ (a : Addr) (o : Obj) (ps : List Addr) (kvs : List (Key × V)), xs = [.ref a] ∧ H a = some (.frz o (.tup (ps.map V.ref))) ∧ o.cls = .type "tuple" ∧ o.dict = none ∧ Paired (fun p kv => SqT K H p [kV kv.1, kv.2]) ps kvs ∧
    ∀ p, H p = none → Q (.ref p) (upd H p (.dK (mergeK [] kvs)))
theorem call_dictT (hcalm : X.calm = true) : CallR X (.type "dict") (rDictT X.K) := by
  intro pins s σ H xs us Q I r q
  obtain ⟨a, o, ps, kvs, rfl, hq, ec, ed, hp, q⟩ := q
  obtain ⟨u, rfl, rx⟩ := vals1 r
  cases rx
  obtain ⟨ho, hz, its, rv, hT⟩ := I.hok a _ hq
  obtain ⟨o', ho', _, n, hdat⟩ := hT
  rw [ho] at ho'; cases ho'
  have ei := refs_at rv
  subst ei
  rw [List.length_map] at hz
  obtain ⟨prs, qs, rel, hl, hl2, hpr⟩ := pairs_of2 I hp
  refine PySem.call_dict_pairs (knd := mixKind X.prog X.w) (PairArg.tuple a (ps.map Value.ref).toArray (fun j => ps.getD j 0) qs) (I.ok.hd hcalm) ⟨⟨o, n, ho, ec, ed, hdat⟩, by simp [hl2], fun j k v e => ?_⟩ (kvs := prs) ⟨by rw [hl, hl2], fun i key v e => ?_⟩ (by rw [hl2]; exact hz) fun h' tk hd' k => ?_
  · obtain ⟨b, kk, e1, e2, _, _⟩ := hpr j k v e
    refine ⟨by simp [e1], .inl ?_⟩
    show s.heap.IsTuple (ps.getD j 0) #[k, v]
    rw [show ps.getD j 0 = b by simp [e1]]
    exact e2
  · obtain ⟨b, kk, _, _, e3, e4⟩ := hpr i key v e
    exact ⟨kk, e3, e4⟩
  · have k' : ∀ b o, s.heap.get? b = some o → h'.get? b = some o := fun b o e => k b o (by simp) e
    have hm : (s.heap.objs.size == sysModules) = false := beq_eq_false_iff_ne.mpr (Nat.ne_of_gt I.big)
    have hlen : (mergeK [] kvs).length ≤ sizeLine := by
      refine Nat.le_trans (length_mergeK kvs []) ?_
      rw [List.length_nil, Nat.zero_add, rel.length, hl]
      exact hz
    exact ⟨.ref s.heap.objs.size, upd H s.heap.objs.size (.dK (mergeK [] kvs)), I.laid (t' := tk) k' (Nat.le_refl _) (show ObjOk X.prog X.w _ _ _ (.dK (mergeK [] kvs)) from ⟨hlen, hm, merged [] prs, KV.merge rel .nil, hd'⟩), rfl, q _ (I.hok.fresh (Nat.le_refl _))⟩
end
def wTupP (wa : WE) : WE := fun Ex δ P => wa Ex δ fun r δ1 => ob (settle r) fun r' => ob (view δ1 r') fun w => ob (listV w) fun ds => P (.n (.pt ds)) δ1
def ptR (δ : SEnv) : R → Option (List PyData)
  | .n (.pt ds) => some ds
  | .d (.tuple ds) => some ds
  | .o i => plainAt δ i
  | _ => none
theorem ptR_ok {K : PySem.W.Frag} {F B H : Hp} {vs : List V} {σ : L2.St} {δ : SEnv} {v : V} {r : R} {ds : List PyData} (h : Rep K F B H vs σ δ) (q : RepR K F B H σ δ v r) (e : ptR δ r = some ds) : InP B v ds := by
  cases r with
  | d d =>
    cases d <;> first | (cases e; done) | skip
    cases e
    cases (show DD B v _ from q) with
    | tup r q => obtain ⟨o, r, ec, ed⟩ := r; exact ⟨_, o, _, rfl, r, ec, ed, q⟩
  | w d => cases e
  | n c =>
    cases c <;> first | (cases e; done) | skip
    cases e
    obtain ⟨a, rfl, _, ⟨o, xs, e1, e2, e3, q⟩, _⟩ := q
    exact ⟨a, o, xs, rfl, e1, e2, e3, q⟩
  | o i => exact plain_ok h q e
def wDictP (wa : WE) : WE := fun Ex δ P => wa Ex δ fun r δ1 => ob (ptR δ1 r) fun ds => ob (pairsD ds) fun kvs => P (.n (.k (mergeD [] kvs))) δ1
section
variable {S : Sg}
theorem de_tupP {a : Expr} {wa : WE} {p pos : Pos} (hg : GlS S.sc "tuple") (hm : S.g.mg "tuple" = none) (ha : DE S a wa) (hs : ∀ env, starEach [a] env = (false, eval a env) :: starEach [] env := by intro _; rfl) (hp : ∀ env, (backTo pos (starEach [] env)).any (·.1) = false := by intro _; rfl) :
    DE S (.Call (.Name "tuple" p) [a] [] pos) (wTupP wa) := by
  obtain ⟨t, pa, s⟩ := ha
  refine ⟨tCB (rTupF S.g.K) (tCons t tNil), fun c hc => pe_callTy (call_tupleF (X := S.g.cx c)) (gl_of hc hg) hm (by first | rfl | decide +kernel) (pa_cons (pa c hc) pa_nil (hs _)) (by decide) (by decide) (hs _) (hp _), ⟨fun Ex Ex' δ P P' hx h w => ?_, fun Ex F B H vs σ δ P Q hx h w k => ?_⟩⟩
  · exact s.mono _ _ _ _ _ hx (fun r δ1 w => w.imp fun a w => w.imp fun b w => w.imp fun ds w => h _ _ w) w
  · refine s.run _ _ _ _ _ _ _ _ _ hx h w fun B1 H1 x r δ1 s1 h1 q1 w1 => ?_
    obtain ⟨r', e1, vw, e2, ds, e3, w1⟩ := w1
    obtain ⟨B2, s2, h2, q2, n2⟩ := settle_ok h1 q1 e1
    obtain ⟨a, xs, rfl, hr, qx⟩ := lst_of h2.sb (view_ok h2 q2 e2) e3
    refine ⟨a, xs, rfl, .inl hr, fun l o hl ec ed => ?_⟩
    have hB := nof h2.sb hl
    have hF := nof h2.sf hl
    exact k _ _ (.ref l) (.n (.pt ds)) δ1 ((s1.trans s2).trans (same_new hB _)) (h2.new hl _) ⟨l, rfl, fun b f => f.elim, ⟨o, xs, upd_same, ec, ed, qx.mono (same_new hB _)⟩, fun _ _ _ _ _ _ _ _ f => f⟩ w1
theorem de_dictP {a : Expr} {wa : WE} {p pos : Pos} (hg : GlS S.sc "dict") (hm : S.g.mg "dict" = none) (ha : DE S a wa) (hs : ∀ env, starEach [a] env = (false, eval a env) :: starEach [] env := by intro _; rfl) (hp : ∀ env, (backTo pos (starEach [] env)).any (·.1) = false := by intro _; rfl) :
    DE S (.Call (.Name "dict" p) [a] [] pos) (wDictP wa) := by
  obtain ⟨t, pa, s⟩ := ha
  refine ⟨tCB (rDictT S.g.K) (tCons t tNil), fun c hc => pe_callTy (call_dictT (X := S.g.cx c) hc.calm) (gl_of hc hg) hm (by first | rfl | decide +kernel) (pa_cons (pa c hc) pa_nil (hs _)) (by decide) (by decide) (hs _) (hp _), ⟨fun Ex Ex' δ P P' hx h w => ?_, fun Ex F B H vs σ δ P Q hx h w k => ?_⟩⟩
  · exact s.mono _ _ _ _ _ hx (fun r δ1 w => w.imp fun a w => w.imp fun b w => h _ _ w) w
  · refine s.run _ _ _ _ _ _ _ _ _ hx h w fun B1 H1 x r δ1 s1 h1 q1 w1 => ?_
    obtain ⟨ds, e1, kvs, e2, w1⟩ := w1
    obtain ⟨a, o, xs, rfl, ha, ec, ed, qx⟩ := ptR_ok h1 q1 e1
    obtain ⟨ps, ys, rfl, p1, p2⟩ := pairs_dd (K := S.g.K) h1.sb e2 qx
    exact ⟨a, o, ps, ys, rfl, h1.sb _ _ ha, ec, ed, p1, fun p hp => rvk_ok (rv := .dk (mergeD [] kvs)) s1 h1 w1 k p _ hp (kds_merge p2 .nil)⟩
end
end DL
set_option Elab.async false
set_option linter.all false
set_option maxRecDepth 100000
set_option maxHeartbeats 1000000
set_option autoImplicit false
/-! Going over an own dict within an expression: the dict is locked as long as that lasts. -/
namespace DL
open PySem PySem.Spec PyProof.Rows L2
def wLockE (i : Nat) (w : WE) : WE := fun Ex δ P => ob (ownK δ i) fun q => ∀ a, w Ex (δ.set i (some (.o q.1 (.fk a q.2)))) fun r => unfk i q.1 a q.2 fun δ2 => simpR r = true ∧ P r δ2
section
variable {S : Sg}
theorem de_lock {e : Expr} {w : WE} {i : Nat} (h : DE S e w) : DE S e (wLockE i w) := by
  obtain ⟨t, p, s⟩ := h
  refine ⟨tLockE t, fun c hc => pe_lock (p c hc), ⟨fun Ex Ex' δ P P' hx hP w => w.imp fun q w a => s.mono _ _ _ _ _ hx (fun r δ' w => ⟨w.1, w.2.1, w.2.2.1, hP _ _ w.2.2.2⟩) (w a), fun Ex F B H vs σ δ P Q hx h w k => ?_⟩⟩
  obtain ⟨⟨b, kvs⟩, e, w⟩ := w
  have e' := ownK_at e
  obtain ⟨v, ea, a, rfl, hBF, ys, hy, qy⟩ := h.ok i _ e'
  have hB := (hBF a foot_self).1
  refine ⟨a, .dK ys, hy, trivial, fun od => ?_⟩
  obtain ⟨h1, s1⟩ := h.lock e' ea hy od
  have back : ∀ {B' H' : Hp} {σ' : L2.St} {δ' : SEnv}, Same (upd B a (.frz od (.dK ys))) B' → Rep S.g.K F B' H' vs σ' δ' → δ'[i]? = some (some (.o b (.fk a kvs))) → OnlyFk δ' i a → H' a = some (.frz od (.dK ys)) ∧ Same B (delH B' a) ∧ Rep S.g.K F (delH B' a) (upd H' a (.dK ys)) vs σ' (δ'.set i (some (.o b (.k kvs)))) ∧ NoSeq B' a ∧ F a = none := by
    intro B' H' σ' δ' s2 h2 e2 of
    obtain ⟨h3, h4, h5⟩ := h2.unlock e2 (s2 a _ upd_same) of
    exact ⟨h4, same_del hB s2, h3, h5, (hBF a foot_self).2⟩
  refine s.run _ F _ _ vs σ _ _ _ (hx.up s1) h1 (w a) fun B' H' v r δ' s2 h2 q2 q => ?_
  obtain ⟨g1, g2, g3, g4, gF⟩ := back s2 h2 q.1 q.2.1
  obtain ⟨hfk, _, hs, q⟩ := q
  refine ⟨g1, k _ _ v r _ g2 g3 ?_ q⟩
  cases r with
  | d d => exact DD.del g4 q2
  | w d => exact q2
  | o j => cases hs
  | n c =>
    obtain ⟨a2, rfl, hBF2, qc, off⟩ := q2
    have na : a2 ≠ a := fun z => by
      have := (hBF2 a2 (foot_self (real_of hs))).1
      rw [z, s2 a _ upd_same] at this; cases this
    have fe : ∀ p, Foot (upd H' a (.dK ys)) a2 c p ↔ Foot H' a2 c p := fun p => foot_eq fun q f => by cases foot_one hs f; exact upd_ne na
    refine ⟨a2, rfl, fun p f => ?_, ContOk.del g4 (fun z => by cases c <;> first | exact z | cases hs) (qc.mono (Same.refl _) fun p f => by cases foot_one hs f; exact upd_ne na), fun j b' c' a' p e1 e2 f f' => ?_⟩
    · cases foot_one hs f
      rw [del_ne na]; exact hBF2 _ (foot_self (real_of hs))
    · cases foot_one hs f'
      rcases set_get e1 with ⟨ej, z⟩ | ⟨nj, z⟩
      · cases z
        cases (show a2 = a' from f)
        subst ej
        obtain ⟨v', e3, a3, e4, _, e5, _⟩ := h2.ok j _ hfk
        rw [e2] at e3; cases e3; cases e4
        exact na e5
      · have f2 : Foot H' a' c' a2 := by
          refine (foot_eq fun p f => ?_).mp f
          have z2 := ((h2.own_up z e2).1 _ f).1
          exact upd_ne fun w => by rw [w, s2 a _ upd_same] at z2; cases z2
        exact off j b' c' a' a2 z e2 f2 (foot_self (real_of hs))
end
end DL
set_option Elab.async false
set_option linter.all false
set_option maxRecDepth 100000
set_option maxHeartbeats 1000000
set_option autoImplicit false
/-! An own dict of own dicts: its inner ones are changed, asked, gone into. -/
namespace DL
open PySem PySem.Spec PyProof.Rows L2
section
variable {K : PySem.W.Frag} {F B H : Hp} {vs : List V} {σ : L2.St} {δ : SEnv}
/-- an object that belongs to one's own is changed; others may come to belong to it that belonged to none -/
theorem Rep.mutIn (h : Rep K F B H vs σ δ) {i : Nat} {a p0 : Addr} {b : Bool} {c c' : Cont} {o : HO} (e : δ[i]? = some (some (.o b c))) (ea : σ[i]? = some (some (.ref a))) (f0 : Foot H a c p0) (q : ContOk B (upd H p0 o) a c') (hf : ∀ p, Foot (upd H p0 o) a c' p → Foot H a c p ∨ (B p = none ∧ F p = none ∧ Off H σ δ fun q => q = p)) :
    Rep K F B (upd H p0 o) vs σ (δ.set i (some (.o b c'))) := by
  obtain ⟨hBF, _⟩ := h.own_up e ea
  have hB := (hBF p0 f0).1
  have hF := (hBF p0 f0).2
  have ne : ∀ {j : Nat} {b2 : Bool} {c2 : Cont} {a2 p : Addr}, j ≠ i → δ[j]? = some (some (.o b2 c2)) → σ[j]? = some (some (.ref a2)) → Foot H a2 c2 p → p ≠ p0 := fun n z e2 f w => by
    subst w; exact n (h.apart _ _ _ _ _ _ _ _ _ z e e2 ea f f0)
  have sm : ∀ {j : Nat} {b2 : Bool} {c2 : Cont} {a2 p : Addr}, j ≠ i → δ[j]? = some (some (.o b2 c2)) → σ[j]? = some (some (.ref a2)) → (Foot (upd H p0 o) a2 c2 p ↔ Foot H a2 c2 p) := fun n z e2 => foot_eq fun p f => upd_ne (ne n z e2 f)
  refine ⟨fun p u z => ?_, fun p u z => ?_, h.dj, by rw [List.length_set]; exact h.len, fun j s z => ?_, fun j k a1 a2 p b1 c1 b2 c2 z1 z2 z3 z4 f1 f2 => ?_, fun j c1 z => ?_, h.nt⟩
  · rw [upd_ne (ne_of_none z hB)]; exact h.sb p u z
  · rw [upd_ne (ne_of_none z hF)]; exact h.sf p u z
  · rcases set_get z with ⟨ej, z'⟩ | ⟨n, z'⟩
    · subst ej; cases z'; exact ⟨_, ea, a, rfl, fun p f => (hf p f).elim (hBF p) fun z => ⟨z.1, z.2.1⟩, q⟩
    · obtain ⟨v, e2, q2⟩ := h.ok j s z'
      refine ⟨v, e2, ?_⟩
      cases s with
      | d d => exact q2
      | w d => exact q2
      | o b2 c2 =>
        obtain ⟨p, e3, hBF2, q3⟩ := q2
        subst e3
        exact ⟨p, rfl, fun r f => hBF2 r ((sm n z' e2).mp f), q3.mono (Same.refl _) fun r f => upd_ne (ne n z' e2 f)⟩
  · rcases set_get z1 with ⟨ej, y1⟩ | ⟨nj, y1⟩
    · rcases set_get z2 with ⟨ek, y2⟩ | ⟨nk, y2⟩
      · rw [ej, ek]
      · cases y1; subst ej
        rw [ea] at z3; cases z3
        exact (hf p f1).elim (fun g => h.apart _ k _ a2 p _ c _ c2 e y2 ea z4 g ((sm nk y2 z4).mp f2)) fun g => (g.2.2 k b2 c2 a2 p y2 z4 ((sm nk y2 z4).mp f2) rfl).elim
    · rcases set_get z2 with ⟨ek, y2⟩ | ⟨nk, y2⟩
      · cases y2; subst ek
        rw [ea] at z4; cases z4
        exact (hf p f2).elim (fun g => h.apart j _ a1 _ p b1 c1 _ c y1 e z3 ea ((sm nj y1 z3).mp f1) g) fun g => (g.2.2 j b1 c1 a1 p y1 z3 ((sm nj y1 z3).mp f1) rfl).elim
      · exact h.apart j k a1 a2 p b1 c1 b2 c2 y1 y2 z3 z4 ((sm nj y1 z3).mp f1) ((sm nk y2 z4).mp f2)
  · rcases set_get z with ⟨ej, z'⟩ | ⟨n, z'⟩
    · subst ej; cases z'; exact h.bor _ c e
    · exact h.bor j c1 z'
end
end DL
set_option Elab.async false
set_option linter.all false
set_option maxRecDepth 100000
set_option maxHeartbeats 4000000
set_option autoImplicit false
/-! {k: v for a in xs if ..}: one for. -/
namespace DL
open PySem PySem.Spec PyProof.Rows L2
def wDcR (G : WG) (wt : WT) (wk wv : WE) (own : List Nat) : List PyData → List (Key × PyData) → SEnv → (List (Key × PyData) → SEnv → Prop) → Prop
  | [], acc, δ, P => P acc δ
  | x :: xs, acc, δ, P => ob (G x (forgetAll δ own)) fun δ1 => wt Ex0 δ1 fun b δ2 => if b = true then wKV wk wv acc δ2 fun acc' δ3 => wDcR G wt wk wv own xs acc' δ3 P else wDcR G wt wk wv own xs acc δ2 P
def wDc (wi : WI) (G : WG) (wt : WT) (wk wv : WE) (own : List Nat) : WE := fun Ex δ P => wi Ex δ fun ds δ1 => wDcR G wt wk wv own ds [] δ1 fun acc δ2 => P (.n (.k acc)) (restore δ1 (forgetAll δ2 own) own)
section
variable {K : PySem.W.Frag} {E0' : XK} {tt : TT} {tk tv : TE} {wt : WT} {wk wv : WE} {G : WG} {own ts : List Nat} {tg' : TG}
theorem wDcR_mono (st : TSim K E0' tt wt) (sk : ESim K E0' tk wk) (sv : ESim K E0' tv wv) : ∀ (xs : List PyData) (acc : List (Key × PyData)) (δ : SEnv) (P P' : List (Key × PyData) → SEnv → Prop), (∀ a δ, P a δ → P' a δ) → wDcR G wt wk wv own xs acc δ P → wDcR G wt wk wv own xs acc δ P'
  | [], _, _, _, _, h, w => h _ _ w
  | x :: xs, acc, δ, P, P', h, w => w.imp fun δ1 w => by
    refine st.mono _ _ _ _ _ (fun _ z => z) (fun b δ2 w => ?_) w
    cases b with
    | false => exact wDcR_mono st sk sv xs acc δ2 P P' h w
    | true => exact wKV_mono sk sv (fun a δ w => wDcR_mono st sk sv xs a δ P P' h w) w
theorem dc_run {F B1 H1 : Hp} {vs : List V} {σ : L2.St} {δ1 : SEnv} {J : It} {ds : List PyData} (sg : GSim K tg' G ts) (hts : ∀ i ∈ ts, i ∈ own) (st : TSim K E0' tt wt) (sk : ESim K E0' tk wk) (sv : ESim K E0' tv wv)
    (h1 : Rep K F B1 H1 vs σ δ1) (q1 : ItOk B1 J ds) {D : Addr} (hD : H1 D = none) {P : List (Key × PyData) → SEnv → Prop} (w1 : wDcR G wt wk wv own ds [] δ1 P) {Qd : Hp → Prop}
    (k : ∀ B' H' acc ys δ', Same B1 B' → Rep K (upd F D (.dK ys)) B' H' vs σ (forgetAll δ' own) → KDs B' ys acc → P acc δ' → Qd H') :
    ∃ W : Nat → Nat → Hp → Prop, (∃ m, W 0 m (upd H1 D (.dK []))) ∧ ∀ i m H, W i m H →
      (J.stop i H ∧ Qd H) ∨ (J.go i H ∧ ∃ Nx : Hp → Prop, (∀ H', Nx H' → ∃ m', m' < m ∧ W (i + 1) m' H') ∧ ∀ x H', J.yld i H x H' → tg' x (wipe σ own) H' fun σ2 H2 => wipe σ2 own = wipe σ own ∧ tt σ2 H2 fun b H3 =>
        if b = true then tk σ2 H3 fun y H4 => tv σ2 H4 fun z H5 => ∃ kvs k, y = kV k ∧ H5 D = some (.dK kvs) ∧ kvs.length < sizeLine ∧ Nx (upd H5 D (.dK (putK kvs k z))) else Nx H3) := by
  refine ⟨fun i m H => m = ds.length - i ∧ i ≤ ds.length ∧ ∃ B' δ' acc ys, Same B1 B' ∧ Rep K (upd F D (.dK ys)) B' H vs σ (forgetAll δ' own) ∧ KDs B' ys acc ∧ wDcR G wt wk wv own (ds.drop i) acc δ' P, ⟨ds.length, by simp, Nat.zero_le _, B1, δ1, [], [], Same.refl _, ?_, .nil, w1⟩, ?_⟩
  · exact (h1.lay hD _).dim (by rw [forgetAll_length]; exact h1.len) fun i s e => ⟨(forgetAll_get e).1, rfl⟩
  rintro i m H2 ⟨rfl, hi, B2, δ2, acc, ys, s2, h2, qa, w2⟩
  by_cases hlt : i < ds.length
  · refine .inr ⟨q1.go i H2 (s2.trans h2.sb) hlt, fun H' => ∃ B' δ' acc ys, Same B1 B' ∧ Rep K (upd F D (.dK ys)) B' H' vs σ (forgetAll δ' own) ∧ KDs B' ys acc ∧ wDcR G wt wk wv own (ds.drop (i + 1)) acc δ' P, fun H' hz => ⟨ds.length - (i + 1), by omega, rfl, hlt, hz⟩, fun x H' y => ?_⟩
    have ed : ds.drop i = ds[i] :: ds.drop (i + 1) := List.drop_eq_getElem_cons hlt
    rw [ed] at w2
    obtain ⟨δ3, e3, w3⟩ := w2
    have hw : Rep K (upd F D (.dK ys)) B2 H2 vs (wipe σ own) (forgetAll δ2 own) := by
      have := h2.wiped own
      rw [forgetAll_twice] at this; exact this
    have fin : ∀ (B3 H3 : Hp) (x : V), Same B2 B3 → Rep K (upd F D (.dK ys)) B3 H3 vs (wipe σ own) (forgetAll δ2 own) → DD B3 x ds[i] → tg' x (wipe σ own) H3 fun σ2 H2' => wipe σ2 own = wipe σ own ∧ tt σ2 H2' fun b H3' =>
        if b = true then tk σ2 H3' fun y H4 => tv σ2 H4 fun z H5 => ∃ kvs k, y = kV k ∧ H5 D = some (.dK kvs) ∧ kvs.length < sizeLine ∧ (∃ B' δ' acc ys, Same B1 B' ∧ Rep K (upd F D (.dK ys)) B' (upd H5 D (.dK (putK kvs k z))) vs σ (forgetAll δ' own) ∧ KDs B' ys acc ∧ wDcR G wt wk wv own (ds.drop (i + 1)) acc δ' P)
        else ∃ B' δ' acc ys, Same B1 B' ∧ Rep K (upd F D (.dK ys)) B' H3' vs σ (forgetAll δ' own) ∧ KDs B' ys acc ∧ wDcR G wt wk wv own (ds.drop (i + 1)) acc δ' P := by
      intro B3 H3 x s3 h3 q3
      refine sg.run _ B3 H3 vs (wipe σ own) _ δ3 x _ _ h3 q3 e3 fun σ2 h4 b2 => ⟨by rw [b2.2 own hts, wipe_wipe], ?_⟩
      refine st.run Ex0 _ B3 H3 vs σ2 δ3 _ _ (fun _ _ _ _ _ _ _ _ _ _ _ _ z => z.elim) h4 w3 fun B4 H4 b δ4 s4 h5 w4 => ?_
      cases b with
      | false => exact ⟨B4, δ4, acc, ys, s2.trans (s3.trans s4), h5.unwiped (by rw [b2.2 own hts, wipe_wipe]) (by rw [b2.1, wipe_length]), qa.mono (s3.trans s4), w4⟩
      | true =>
        rw [if_pos rfl] at w4
        rw [if_pos rfl]
        refine kv_run (B1 := B1) (Q := fun H' => ∃ B' δ' acc ys, Same B1 B' ∧ Rep K (upd F D (.dK ys)) B' H' vs σ (forgetAll δ' own) ∧ KDs B' ys acc ∧ wDcR G wt wk wv own (ds.drop (i + 1)) acc δ' P) sk sv h5 (qa.mono (s3.trans s4)) w4 fun B5 H5 ys5 acc5 δ5 s5 h6 q5 w5 => ?_
        exact ⟨B5, δ5, acc5, ys5, s2.trans (s3.trans (s4.trans s5)), h6.unwiped (by rw [b2.2 own hts, wipe_wipe]) (by rw [b2.1, wipe_length]), q5, w5⟩
    obtain ⟨B3', s3', g3', q3'⟩ := q1.yld i H2 B2 x H' ds[i] s2 h2.sb y (by simp [hlt])
    exact fin B3' H' x s3' (g3' _ _ _ _ _ hw) q3'
  · have e : i = ds.length := by omega
    subst e
    rw [List.drop_length] at w2
    exact .inl ⟨q1.stop _ H2 (s2.trans h2.sb) (Nat.le_refl _), k B2 H2 acc ys δ2 s2 h2 qa w2⟩
theorem sim_dc {E : XK} {ti : TI} {wi : WI} (si : ISim K E ti wi) (sg : GSim K tg' G ts) (hts : ∀ i ∈ ts, i ∈ own) (st : TSim K E0' tt wt) (sk : ESim K E0' tk wk) (sv : ESim K E0' tv wv) : ESim K E (tDc ti tg' tt tk tv own) (wDc wi G wt wk wv own) := by
  refine ⟨fun Ex Ex' δ P P' hx h w => si.mono _ _ _ _ _ hx (fun ds δ1 w => wDcR_mono st sk sv ds [] δ1 _ _ (fun acc δ2 w => h _ _ w) w) w, fun Ex F B H vs σ δ P Q hx h w k => ?_⟩
  refine si.run _ _ _ _ _ _ _ _ _ hx h w fun B1 H1 J ds δ1 s1 h1 q1 w1 => ?_
  intro D hD
  refine dc_run sg hts st sk sv h1 q1 hD w1 fun B' H' acc ys δ' s2 h2 qa w2 => ?_
  have hF : F D = none := nof h1.sf hD
  have h3 : Rep K F B' H' vs σ (restore δ1 (forgetAll δ' own) own) := Rep.restored h1 s2 (h2.unlay hF)
  exact k B' H' (.ref D) (.n (.k acc)) _ (s1.trans s2) h3 ⟨D, rfl, foot_bf rfl (h2.dj D _ upd_same) hF, ⟨ys, h2.sf D _ upd_same, qa⟩, off_restore h2.off own⟩ w2
end
section
variable {S : Sg}
theorem de_dc {kx vx tg iter : Expr} {ifs : List Expr} {scope : Scope} {own : List (Str × Nat)} {pos : Pos} {wi : WI} {G : WG} {wt : WT} {wk wv : WE} {ts : List Nat} (hCX : CXok S.CX) (hi : DI S tg iter wi) (hblk : blkC S.N S.sc scope own = true) (hg : DG (S.blk scope) tg G ts) (hts : ts.all (fun i => (own.map (·.2)).contains i) = true)
    (ht : DTs (S.blk scope) ifs wt) (hk : DE (S.blk scope) kx wk) (hv : DE (S.blk scope) vx wv) (hs : ∀ env x, foldedSetIterable iter env x = pure x := by intro _ _; rfl) : DE S (.DictComp kx vx [⟨tg, iter, ifs, 0⟩] scope pos) (wDc wi G wt wk wv (own.map (·.2))) := by
  obtain ⟨ti, pi, si⟩ := hi
  obtain ⟨tg', pg, sg⟩ := hg
  obtain ⟨tt, pt, st⟩ := ht
  obtain ⟨tk, pk, sk⟩ := hk
  obtain ⟨tv, pv, sv⟩ := hv
  have hts' : ∀ i ∈ ts, i ∈ own.map (·.2) := fun i hi => by
    have := List.all_eq_true.mp hts i hi
    simpa using this
  refine ⟨tDc ti tg' tt tk tv (own.map (·.2)), fun c hc => ?_, sim_dc si sg hts' st sk sv⟩
  refine pe_dc (X := S.g.cx c) hc.calm (by show c.N.Nodup; rw [hc.hN]; exact hc.nd) (pi c hc) (by show BlkOk c.N c.env.scope scope own; rw [hc.hN, hc.hs]; exact blkOk_by hblk) (fun s H C cl fp => ?_) (fun s H C cl fp => ?_) (fun s H C cl fp => ?_) (fun s H C cl fp => ?_) (hs _)
  · exact pg _ (blk_ok hCX hc s H C cl fp)
  · exact pt _ (blk_ok hCX hc s H C cl fp)
  · exact pk _ (blk_ok hCX hc s H C cl fp)
  · exact pv _ (blk_ok hCX hc s H C cl fp)
end
end DL
set_option Elab.async false
set_option linter.all false
set_option maxRecDepth 100000
set_option maxHeartbeats 1000000
set_option autoImplicit false
/-! f(e, .., k = e, ..): every parameter is written, those by keywords behind the others, in their order. -/
namespace DL
open PySem PySem.Spec PyProof.Rows L2
def BindsK (K : PySem.W.Frag) (fd : FuncData) (ps ks : List Str) (n : Nat) : Prop := ∀ (s : Shared) (us ws : List Value), K.In s.heap → us.length = n → ws.length = ks.length → BindsTo s fd ⟨us, ks.zip ws⟩ (ps.zip (us ++ ws))
def DK (S : Sg) (kws : List Keyword) (W : WA) : Prop := ∃ t, (∀ c, S.ok c → PK (S.g.cx c) kws t) ∧ ASim S.g.K S.E t W
def wApp2 (n m : Nat) (wr wk : WA) : WA := fun Ex δ P => wr Ex δ fun rs δ1 => wk Ex δ1 fun rs2 δ2 => rs.length = n ∧ rs2.length = m ∧ P (rs ++ rs2) δ2
def tApp2 (n m : Nat) (t tk : TA) : TA := fun σ H Q => t σ H fun vs H1 => tk σ H1 fun zs H2 => vs.length = n ∧ zs.length = m ∧ Q (vs ++ zs) H2
section
variable {S : Sg}
theorem dk_nil : DK S [] wNil := ⟨tNil, fun _ _ => pk_nil, ⟨fun _ _ δ P P' _ h w => h _ _ w, fun Ex F B H vs σ δ P Q hx h w k => k B H [] [] δ (Same.refl _) h .nil w⟩⟩
theorem dk_cons {e : Expr} {kws : List Keyword} {nm : Option Str} {kpos : Pos} {wa : WE} {wr : WA} (ha : DE S e wa) (hr : DK S kws wr) : DK S (⟨nm, e, kpos⟩ :: kws) (wCons wa wr) := by
  obtain ⟨ta, pa, sa⟩ := ha
  obtain ⟨tr, pr, sr⟩ := hr
  refine ⟨_, fun c hc => pk_cons (pa c hc) (pr c hc), ⟨fun Ex Ex' δ P P' hx h w => ?_, fun Ex F B H vs σ δ P Q hx h w k => ?_⟩⟩
  · refine sa.mono _ _ _ _ _ hx (fun r δ1 w => w.imp fun r' w => ?_) w
    exact sr.mono _ _ _ _ _ hx (fun rs δ2 w => h _ _ w) w
  · refine sa.run _ _ _ _ _ _ _ _ _ hx h w fun B1 H1 x r δ1 s1 h1 q1 w1 => ?_
    obtain ⟨r', e1, w1⟩ := w1
    obtain ⟨B2, s2, h2, q2, n2⟩ := settle_ok h1 q1 e1
    refine sr.run _ _ _ _ _ _ _ _ _ (hx.up (s1.trans s2)) h2 w1 fun B3 H3 ws rs δ2 s3 h3 q3 w3 => ?_
    exact k B3 H3 (x :: ws) (r' :: rs) δ2 ((s1.trans s2).trans s3) h3 (.cons ⟨RepR.up s3 q2 n2, n2⟩ q3) w3
theorem reps_up {K : PySem.W.Frag} {F B B' H H' : Hp} {σ : L2.St} {δ δ' : SEnv} (s : Same B B') : ∀ {ws : List V} {rs : List R}, RepRs K F B H σ δ ws rs → RepRs K F B' H' σ δ' ws rs
  | _, _, .nil => .nil
  | _, _, .cons q r => .cons ⟨RepR.up s q.1 q.2, q.2⟩ (reps_up s r)
theorem reps_app {K : PySem.W.Frag} {F B H : Hp} {σ : L2.St} {δ : SEnv} : ∀ {ws : List V} {rs : List R} {ws2 : List V} {rs2 : List R}, RepRs K F B H σ δ ws rs → RepRs K F B H σ δ ws2 rs2 → RepRs K F B H σ δ (ws ++ ws2) (rs ++ rs2)
  | _, _, _, _, .nil, h => h
  | _, _, _, _, .cons q r, h => .cons q (reps_app r h)
theorem sim_app2 {K : PySem.W.Frag} {E : XK} {n m : Nat} {t tk : TA} {wr wk : WA} (s : ASim K E t wr) (sk : ASim K E tk wk) : ASim K E (tApp2 n m t tk) (wApp2 n m wr wk) := by
  refine ⟨fun Ex Ex' δ P P' hx h w => ?_, fun Ex F B H vs σ δ P Q hx h w k => ?_⟩
  · exact s.mono _ _ _ _ _ hx (fun rs δ1 w => sk.mono _ _ _ _ _ hx (fun rs2 δ2 w => ⟨w.1, w.2.1, h _ _ w.2.2⟩) w) w
  · refine s.run _ _ _ _ _ _ _ _ _ hx h w fun B1 H1 ws rs δ1 s1 h1 q1 w1 => ?_
    refine sk.run _ _ _ _ _ _ _ _ _ (hx.up s1) h1 w1 fun B2 H2 ws2 rs2 δ2 s2 h2 q2 w2 => ?_
    exact ⟨(Paired.length q1).trans w2.1, (Paired.length q2).trans w2.2.1, k B2 H2 _ _ δ2 (s1.trans s2) h2 (reps_app (reps_up s2 q1) q2) w2.2.2⟩
theorem runGK {g : Gx} {c : Cl} {k n : Nat} {f : Addr} {fd : FuncData} {ps ks : List Str} {sp : Sp} {E : XK} {pins : List (Addr × Obj)} {σ : L2.St} {H : Hp} {sh : Shared} {Q : VK} {us ws : List Value} {vs zs : List V} (Fk : FnG g CX0 k f fd ps sp) (hgd : c.A.guards = some [])
    (hr : Room k c.A) (hb : BindsK g.K fd ps ks n) (hx : Passes CX0 (g.cx c) E) (I : Inv (g.cx c) pins σ H sh) (rv : Vals vs us) (rz : Vals zs ws) (l1 : vs.length = n) (l2 : zs.length = ks.length) (h : sp (vs ++ zs) H Q E) : wpAny (model g.P g.w) c.A (call (.ref f) us (ks.zip ws)) (EP (g.cx c) pins σ Q) c.xe sh := by
  have r2 : Vals (vs ++ zs) (us ++ ws) := by
    clear h l1 l2
    induction rv with
    | nil => exact rz
    | cons a _ ih => exact .cons a ih
  refine wpAny_call (codeAny_mono (Fk.run c.A c.stack sh H _ (us ++ ws) (vs ++ zs) Q E hgd hr I.env0 (hb sh us ws I.kIn (rv.length.symm.trans l1) (rz.length.symm.trans l2)) r2 h) fun res sh' hq => ?_)
  cases res with
  | error e => exact hx _ _ _ _ _ _ I hq
  | ok fl => cases fl with
    | ret u => exact I.after hq
    | _ => exact hq.elim
theorem de_callK {np k n : Nat} {W : FSpec} {ms : List Bool} {wr wk : WA} {x : Str} {f : Addr} {fd : FuncData} {ps ks : List Str} {p pos : Pos} {e : Expr} {es : List Expr} {kws : List Keyword} (hS : S.CX = CX0) (hW : FMono W) (Fk : FnG S.g CX0 k f fd ps (spOf S.g.K np W)) (hk : k ≤ S.k)
    (hg : GlS S.sc x) (hm : S.g.mg x = some (.ref f)) (hkp : PySem.W.keepIn S.g.K (.ref f) = true) (hb : BindsK S.g.K fd ps ks n) (ha : DA S (e :: es) wr) (hkw : DK S kws wk)
    (hall : ∀ env, (backToKw pos (keywordEach kws env)).all (·.1.isSome) = true := by intro _; rfl) (hks : ∀ env, (backToKw pos (keywordEach kws env)).filterMap (·.1) = ks := by intro _; rfl)
    (hs : ∀ env, starEach (e :: es) env = (false, eval e env) :: starEach es env := by intro _; rfl)
    (hpl : ∀ env, ((backTo pos (starEach (e :: es) env)).any (·.1) || (backToKw pos (keywordEach kws env)).any (·.1.isNone)) = false := by intro _; rfl) (hdb : (x == ("__debug__" : Str)) = false := by decide) :
    DE S (.Call (.Name x p) (e :: es) kws pos) (wCall np W ms (wApp2 n ks.length wr wk)) := by
  obtain ⟨t, pa, s⟩ := ha
  obtain ⟨tk, pk, sk⟩ := hkw
  refine ⟨_, fun c hc => ⟨fun pins sh σ H Q I h => ?_⟩, sim_call hW (sim_app2 s sk)⟩
  have hgl : Gl (S.g.cx c) x := gl_of hc hg
  refine wpAny_Call_Name_kw (ld_glob I hgl hm ?_ hdb)
  refine PySem.W.callWith_KW (h₀ := S.g.base) I.ok.mod.kin hkp (hall _) (thn ((pa c hc).run pos pins sh σ H _ I h) fun us s1 ⟨vs, H1, I1, r, q⟩ => ?_) (hpl _) (hs _)
  refine thn ((pk c hc).run pos pins s1 σ H1 _ I1 q) fun ws s2 ⟨zs, H2, I2, rz, q2⟩ => ⟨I2.kIn, ?_⟩
  obtain ⟨l1, l2, q2⟩ := q2
  rw [hks]
  have q2 : spOf S.g.K np W ((vs ++ zs) ++ []) H2 Q S.E := q2
  rw [List.append_nil] at q2
  have hps := hc.ps
  rw [hS] at hps
  exact runGK Fk hc.gd (hc.room.mono hk) hb hps I2 r rz l1 l2 q2
end
end DL
set_option Elab.async false
set_option linter.all false
set_option maxRecDepth 100000
set_option maxHeartbeats 1000000
set_option autoImplicit false
/-! <, >, <=, >= over data of one build (tuples of numbers and texts). -/
namespace DL
open PySem PySem.Spec PyProof.Rows L2
def noneD : PyData → Bool
  | .none => true
  | _ => false
def cmpD (f : PyData → PyData → Bool) : Vw → Vw → Option Rv := fun a b => (vd a).bind fun d => (vd b).bind fun e => if (SeqAt.shaped d && PySem.W.alike d e && !noneD d) = true then some (.val (.bool (f d e))) else none
section
variable {X : Cx}
def rCmpD (K : PySem.W.Frag) (f : PyData → PyData → Bool) : R2 := fun x y H Q => ∃ d e, Dp K H x d ∧ Dp K H y e ∧ SeqAt.shaped d = true ∧ PySem.W.alike d e = true ∧ d ≠ .none ∧ Q (.bl (f d e)) H
theorem few_units {A : Around} (hu : A.units + 64 < cLine) {d e : PyData} (h : SeqAt.shaped d = true) : A.units + min d.depth e.depth < cLine := by
  have := SeqAt.depth_of_shaped h
  omega
theorem op_ltD (hu : X.A.units + 64 < cLine) : OpR X (compareOp .Lt) (rCmpD X.K PySem.W.dataLt) := by
  intro pins s σ H x y v u Q I rx ry h
  obtain ⟨d, e, hd, he, sd, al, nn, q⟩ := h
  obtain ⟨as, r1⟩ := Dp.reads I d x v hd rx
  obtain ⟨bs, r2⟩ := Dp.reads I e y u he ry
  exact PySem.W.lt_data r1 r2 al nn (few_units hu sd) ⟨.bl _, H, I, rfl, q⟩
theorem op_gtD (hu : X.A.units + 64 < cLine) : OpR X (compareOp .Gt) (rCmpD X.K fun d e => PySem.W.dataLt e d) := by
  intro pins s σ H x y v u Q I rx ry h
  obtain ⟨d, e, hd, he, sd, al, nn, q⟩ := h
  obtain ⟨as, r1⟩ := Dp.reads I d x v hd rx
  obtain ⟨bs, r2⟩ := Dp.reads I e y u he ry
  exact PySem.W.gt_data r1 r2 al nn (few_units hu sd) ⟨.bl _, H, I, rfl, q⟩
theorem op_leD (hu : X.A.units + 64 < cLine) : OpR X (compareOp .LtE) (rCmpD X.K fun d e => !PySem.W.dataLt e d) := by
  intro pins s σ H x y v u Q I rx ry h
  obtain ⟨d, e, hd, he, sd, al, nn, q⟩ := h
  obtain ⟨as, r1⟩ := Dp.reads I d x v hd rx
  obtain ⟨bs, r2⟩ := Dp.reads I e y u he ry
  exact PySem.W.le_data r1 r2 al nn (few_units hu sd) ⟨.bl _, H, I, rfl, q⟩
end
theorem cmpD_of {K : PySem.W.Frag} {B H : Hp} {f : PyData → PyData → Bool} {x y : V} {a b : Vw} {rv : Rv} {Q : VK} (sB : Same B H) (oa : OV K B H x a) (ob : OV K B H y b) (e : cmpD f a b = some rv) (k : RvK B H Q rv) : rCmpD K f x y H Q := by
  unfold cmpD at e
  obtain ⟨d, e1, e⟩ := Option.bind_eq_some_iff.mp e
  obtain ⟨d2, e2, e⟩ := Option.bind_eq_some_iff.mp e
  split at e
  · rename_i hs
    cases e
    simp only [Bool.and_eq_true, Bool.not_eq_true'] at hs
    refine ⟨d, d2, vd_dp sB oa e1, vd_dp sB ob e2, hs.1.1, hs.1.2, fun z => ?_, k _ (.bl _)⟩
    subst z
    exact absurd hs.2 (by decide)
  · cases e
theorem os_ltD {S : Sg} : OpS S (compareOp .Lt) (cmpD PySem.W.dataLt) := by
  rintro c hc pins s σ H x y v u Q I rx ry ⟨B, a, b, rv, sB, oa, ob, e, k⟩
  exact op_ltD hc.room.units pins s σ H _ _ v u Q I rx ry (cmpD_of sB oa ob e k)
theorem os_gtD {S : Sg} : OpS S (compareOp .Gt) (cmpD fun d e => PySem.W.dataLt e d) := by
  rintro c hc pins s σ H x y v u Q I rx ry ⟨B, a, b, rv, sB, oa, ob, e, k⟩
  exact op_gtD hc.room.units pins s σ H _ _ v u Q I rx ry (cmpD_of sB oa ob e k)
theorem os_leD {S : Sg} : OpS S (compareOp .LtE) (cmpD fun d e => !PySem.W.dataLt e d) := by
  rintro c hc pins s σ H x y v u Q I rx ry ⟨B, a, b, rv, sB, oa, ob, e, k⟩
  exact op_leD hc.room.units pins s σ H _ _ v u Q I rx ry (cmpD_of sB oa ob e k)
end DL
set_option Elab.async false
set_option linter.all false
set_option maxRecDepth 100000
set_option maxHeartbeats 1000000
set_option autoImplicit false
/-! is True, is not False: truths. -/
namespace DL
open PySem PySem.Spec PyProof.Rows L2
section
variable {X : Cx}
theorem op_isB : OpR X (compareOp .Is) (fun x y H Q => ∃ a b, x = .bl a ∧ y = .bl b ∧ Q (.bl (decide (a = b))) H) := by
  intro pins s σ H x y v u Q I rx ry h
  obtain ⟨a, b, rfl, rfl, q⟩ := h
  cases rx
  cases ry
  show wpAny _ _ ((isSame (Value.bool a) (Value.bool b)) >>= fun z => pure (Value.bool z)) _ _ s
  cases a <;> cases b <;> exact wpAny_bind (wpAny_pure (wpAny_pure (fin_bl I q rfl)))
theorem op_isnotB : OpR X (compareOp .IsNot) (fun x y H Q => ∃ a b, x = .bl a ∧ y = .bl b ∧ Q (.bl (!decide (a = b))) H) := by
  intro pins s σ H x y v u Q I rx ry h
  obtain ⟨a, b, rfl, rfl, q⟩ := h
  cases rx
  cases ry
  show wpAny _ _ ((isSame (Value.bool a) (Value.bool b)) >>= fun z => pure (Value.bool (!z))) _ _ s
  cases a <;> cases b <;> exact wpAny_bind (wpAny_pure (wpAny_pure (fin_bl I q rfl)))
end
def isBF (neg : Bool) : Vw → Vw → Option Rv
  | .d (.bool a), .d (.bool b) => some (.val (.bool (if neg then !decide (a = b) else decide (a = b))))
  | _, _ => none
theorem os_isB {S : Sg} : OpS S (compareOp .Is) (isBF false) := by
  rintro c hc pins s σ H x y v u Q I rx ry ⟨B, a, b, rv, sB, oa, ob, e, k⟩
  unfold isBF at e
  split at e
  · cases e
    exact op_isB pins s σ H _ _ v u Q I rx ry ⟨_, _, ov_bl oa, ov_bl ob, k _ (.bl _)⟩
  · cases e
theorem os_isnotB {S : Sg} : OpS S (compareOp .IsNot) (isBF true) := by
  rintro c hc pins s σ H x y v u Q I rx ry ⟨B, a, b, rv, sB, oa, ob, e, k⟩
  unfold isBF at e
  split at e
  · cases e
    exact op_isnotB pins s σ H _ _ v u Q I rx ry ⟨_, _, ov_bl oa, ov_bl ob, k _ (.bl _)⟩
  · cases e
end DL
set_option Elab.async false
set_option linter.all false
set_option maxRecDepth 100000
set_option maxHeartbeats 1000000
set_option autoImplicit false
/-! max(xs, default=c): ints. -/
namespace DL
open PySem PySem.Spec PyProof.Rows L2
theorem fold_max : ∀ (ns : List Int) (n : Int), ns.foldl max n = ns.foldl (fun a b => if b > a then b else a) n
  | [], _ => rfl
  | m :: ns, n => by
    rw [List.foldl_cons, List.foldl_cons, fold_max ns]
    congr 1
    split <;> omega
def maxDef (d : Int) (ns : List Int) : Int := if ns = [] then d else maxL ns
theorem depth_ints (ns : List Int) : PyData.depthAll (ns.map .int) = 0 := by
  have : PyData.depthAll (ns.map .int) ≤ 0 := dep_all.mpr fun x m => by
    obtain ⟨i, _, rfl⟩ := List.mem_map.mp m
    exact Nat.le_refl 0
  omega
section
variable {X : Cx} {pins : List (Addr × Obj)} {s : Shared} {σ : L2.St} {H : Hp} {a : Addr} {ns : List Int} {d : Int} {u : Value} {Q : VK}
theorem call_maxDef (hc : X.calm = true) (hu : X.A.units + 64 < cLine) (I : Inv X pins σ H s) (hs : SqL X.K H a (ns.map V.int)) (ru : RelV (.int d) u) (q : Q (.int (maxDef d ns)) H) :
    wpAny (model X.prog X.w) X.A (call (.builtin "max") [.ref a] [(Str.ofString "default", u)]) (EP X pins σ Q) X.xe s := by
  obtain ⟨its, rv, pl, hz⟩ := I.list hs
  obtain ⟨as, hr⟩ := Dp.readsAll I (ns.map .int) _ _ (dps_ints (K := X.K) (H := H) ns) rv
  refine PySem.W.max_list_default (xs := ns.map .int) (I.ok.hd hc) pl.isList (by simpa using hr) ⟨fun x mx y my => ?_, fun x mx => ?_⟩ (by rw [depth_ints]; omega) (fun e h' tk hk => ?_) fun y ys i v h' tk bs e _ rd hk => ?_
  · obtain ⟨i, _, rfl⟩ := List.mem_map.mp mx
    obtain ⟨j, _, rfl⟩ := List.mem_map.mp my
    rfl
  · obtain ⟨i, _, rfl⟩ := List.mem_map.mp mx
    exact fun z => by cases z
  · have en : ns = [] := List.map_eq_nil_iff.mp e
    refine ⟨.int d, H, I.kept (t' := tk) hk, ru, ?_⟩
    rw [show maxDef d ns = d from if_pos en] at q
    exact q
  · cases ns with
    | nil => cases e
    | cons n ns =>
      rw [List.map_cons, List.cons.injEq] at e
      obtain ⟨rfl, rfl⟩ := e
      rw [PySem.W.maxD_ints, fold_max] at rd
      have ev : RelV (.int (maxDef d (n :: ns))) v := by
        show RelV (.int (maxL (n :: ns))) v
        cases rd with
        | int => exact ⟨_, rfl⟩
      exact ⟨_, H, I.kept (t' := tk) hk, ev, q⟩
end
def tMaxDef (K : PySem.W.Frag) (t tk : TA) : TE := fun σ H Q => t σ H fun vs H1 => tk σ H1 fun zs H2 => ∃ (a : Addr) (ns : List Int) (d : Int), vs = [.ref a] ∧ zs = [.int d] ∧ SqL K H2 a (ns.map V.int) ∧ Q (.int (maxDef d ns)) H2
theorem pe_maxDef {X : Cx} {e : Expr} {t tk : TA} {p pos : Pos} {kws : List Keyword} (hc : X.calm = true) (hu : X.A.units + 64 < cLine) (hg : Gl X "max") (hm : X.mg "max" = none) (ha : PA X [e] t) (hkw : PK X kws tk)
    (hks : (backToKw pos (keywordEach kws X.env)).filterMap (·.1) = [(Str.ofString "default")]) (he : backTo pos (starEach [e] X.env) = (false, eval e X.env) :: backTo pos (starEach [] X.env)) (hpl : (backTo pos (starEach [e] X.env)).any (·.1) = false)
    (hall : (backToKw pos (keywordEach kws X.env)).all (·.1.isSome) = true) (hno : (backToKw pos (keywordEach kws X.env)).any (·.1.isNone) = false) :
    PE X (.Call (.Name "max" p) [e] kws pos) (tMaxDef X.K t tk) := by
  refine ⟨fun pins s σ H Q I h => ?_⟩
  refine wpAny_Call_Name_kw (ld_blt I hg hm (u := .builtin "max") (by first | rfl | decide +kernel) ?_ (by decide) (by decide))
  refine PyProof.Rows.callWith_kw (thn (ha.run pos pins s σ H _ I h) fun us s1 ⟨vs, H1, I1, r1, q1⟩ => ?_) he hpl hall hno
  refine thn (hkw.run pos pins s1 σ H1 _ I1 q1) fun ws s2 ⟨zs, H2, I2, rz, a, ns, d, e1, e2, hs, q⟩ => ?_
  subst e1 e2
  obtain ⟨u, rfl, ru⟩ := vals1 r1
  obtain ⟨w, rfl, rw'⟩ := vals1 rz
  cases ru
  rw [hks]
  exact call_maxDef hc hu I2 hs rw' q
def wMaxDef (wa wb : WE) : WE := fun Ex δ P => wa Ex δ fun r δ1 => ob (settle r) fun r' => wb Ex δ1 fun rb δ2 => ob (settle rb) fun rb' => ob (view δ2 rb') fun vb => ob (intV vb) fun d => ob (view δ2 r') fun w => ob (listV w) fun ds => ob (numsD ds) fun ns => P (.d (.int (maxDef d ns))) δ2
section
variable {S : Sg}
theorem de_maxDef {e f : Expr} {wa wb : WE} {p pos kpos : Pos} (hg : GlS S.sc "max") (hm : S.g.mg "max" = none) (ha : DE S e wa) (hb : DE S f wb)
    (hs : ∀ env, starEach [e] env = (false, eval e env) :: starEach [] env := by intro _; rfl)
    (hks : ∀ env, (backToKw pos (keywordEach [⟨some (Str.ofString "default"), f, kpos⟩] env)).filterMap (·.1) = [(Str.ofString "default")] := by intro _; rfl) (he : ∀ env, backTo pos (starEach [e] env) = (false, eval e env) :: backTo pos (starEach [] env) := by intro _; rfl) (hpl : ∀ env, (backTo pos (starEach [e] env)).any (·.1) = false := by intro _; rfl)
    (hall : ∀ env, (backToKw pos (keywordEach [⟨some (Str.ofString "default"), f, kpos⟩] env)).all (·.1.isSome) = true := by intro _; rfl) (hno : ∀ env, (backToKw pos (keywordEach [⟨some (Str.ofString "default"), f, kpos⟩] env)).any (·.1.isNone) = false := by intro _; rfl) :
    DE S (.Call (.Name "max" p) [e] [⟨some (Str.ofString "default"), f, kpos⟩] pos) (wMaxDef wa wb) := by
  obtain ⟨t, pa, s⟩ := ha
  obtain ⟨tf, pf, sf⟩ := hb
  refine ⟨tMaxDef S.g.K (tCons t tNil) (tCons tf tNil), fun c hc => pe_maxDef (X := S.g.cx c) hc.calm hc.room.units (gl_of hc hg) hm (pa_cons (pa c hc) pa_nil (hs _)) (pk_cons (pf c hc) pk_nil) (hks _) (he _) (hpl _) (hall _) (hno _), ⟨fun Ex Ex' δ P P' hx h w => ?_, fun Ex F B H vs σ δ P Q hx h w k => ?_⟩⟩
  · exact s.mono _ _ _ _ _ hx (fun r δ1 w => w.imp fun r' w => sf.mono _ _ _ _ _ hx (fun rb δ2 w => w.imp fun a w => w.imp fun b w => w.imp fun c w => w.imp fun d w => w.imp fun e w => w.imp fun f w => h _ _ w) w) w
  · refine s.run _ _ _ _ _ _ _ _ _ hx h w fun B1 H1 x r δ1 s1 h1 q1 w1 => ?_
    obtain ⟨r', e1, w1⟩ := w1
    obtain ⟨B2, s2, h2, q2, n2⟩ := settle_ok h1 q1 e1
    refine sf.run _ _ _ _ _ _ _ _ _ (hx.up (s1.trans s2)) h2 w1 fun B3 H3 y rb δ2 s3 h3 q3 w3 => ?_
    obtain ⟨rb', e2, vb, e3, d, e4, w', e5, ds, e6, ns, e7, w3⟩ := w3
    obtain ⟨B4, s4, h4, q4, n4⟩ := settle_ok h3 q3 e2
    have q5 := RepR.up (H' := H3) (s3.trans s4) q2 n2 (δ' := δ2)
    cases intV_ok (view_ok h4 q4 e3) e4
    obtain ⟨a, xs, rfl, hr, qx⟩ := lst_of h4.sb (view_ok h4 q5 e5) e6
    cases nums_dd e7 qx
    exact ⟨a, ns, d, rfl, rfl, .inl hr, k B4 _ (.int _) (.d (.int (maxDef d ns))) δ2 ((s1.trans s2).trans (s3.trans s4)) h4 (.int _) w3⟩
end
end DL
set_option Elab.async false
set_option linter.all false
set_option maxRecDepth 100000
set_option maxHeartbeats 1000000
set_option autoImplicit false
/-! one rule or the other; defs called by keywords, by name. -/
namespace DL
open PySem PySem.Spec PyProof.Rows L2
def orF (f g : Vw → Vw → Option Rv) : Vw → Vw → Option Rv := fun a b => match f a b with
  | some r => some r
  | none => g a b
theorem os_or {S : Sg} {op : Value → Value → Sem Value} {f g : Vw → Vw → Option Rv} (hf : OpS S op f) (hg : OpS S op g) : OpS S op (orF f g) := by
  rintro c hc pins s σ H x y v u Q I rx ry ⟨B, a, b, rv, sB, oa, ob, e, k⟩
  unfold orF at e
  split at e
  · cases e
    exact hf c hc pins s σ H x y v u Q I rx ry ⟨B, a, b, _, sB, oa, ob, by assumption, k⟩
  · exact hg c hc pins s σ H x y v u Q I rx ry ⟨B, a, b, _, sB, oa, ob, e, k⟩
def ltU := orF ltF (cmpD PySem.W.dataLt)
def gtU := orF gtF (cmpD fun d e => PySem.W.dataLt e d)
def leU := orF leF (cmpD fun d e => !PySem.W.dataLt e d)
def isU := orF isF (isBF false)
def isNotU := orF isNotF (isBF true)
theorem os_ltU {S : Sg} : OpS S (compareOp .Lt) ltU := os_or os_lt os_ltD
theorem os_gtU {S : Sg} : OpS S (compareOp .Gt) gtU := os_or os_gt os_gtD
theorem os_leU {S : Sg} : OpS S (compareOp .LtE) leU := os_or os_le os_leD
theorem os_isU {S : Sg} : OpS S (compareOp .Is) isU := os_or os_is os_isB
theorem os_isnotU {S : Sg} : OpS S (compareOp .IsNot) isNotU := os_or os_isnot os_isnotB
/-- a def, by its name, called with these keywords behind n others -/
def CalK (g : Gx) (k : Nat) (x : Str) (ps ks : List Str) (n : Nat) (W : FSpec) : Prop := ∃ (f : Addr) (fd : FuncData), FnG g CX0 k f fd ps (spOf g.K ps.length W) ∧ g.mg x = some (.ref f) ∧ PySem.W.keepIn g.K (.ref f) = true ∧ BindsK g.K fd ps ks n
theorem CalK.mono {g : Gx} {j k n : Nat} {x : Str} {ps ks : List Str} {W : FSpec} (h : CalK g j x ps ks n W) (l : j ≤ k) : CalK g k x ps ks n W := by
  obtain ⟨f, fd, F, m, q, b⟩ := h
  exact ⟨f, fd, F.mono l, m, q, b⟩
theorem CalK.imp {g : Gx} {k n : Nat} {x : Str} {ps ks : List Str} {W W' : FSpec} (h : CalK g k x ps ks n W) (l : ∀ ss Ex P, W' ss Ex P → W ss Ex P) : CalK g k x ps ks n W' := by
  obtain ⟨f, fd, F, m, q, b⟩ := h
  exact ⟨f, fd, spOf_imp F l, m, q, b⟩
theorem Fun.bindsK {K : PySem.W.Frag} {x qual : Str} {st : Stmt} {f : Addr} {fd : FuncData} {ps ks : List Str} {n : Nat} (F : Fun K x qual st f fd)
    (h : ∀ (kV doc pm : Value) (an : Option Addr) (cdv ct : Value) (us ws : List Value), us.length = n → ws.length = ks.length → bindArgs (PySem.W.fnOf x qual (defArgs st) (defBody st) (defScope st) .none kV doc pm an cdv ct) ⟨us, ks.zip ws⟩ = pure (ps.zip (us ++ ws))) : BindsK K fd ps ks n := by
  obtain ⟨oc, od, kV, doc, pm, an, cdv, ct, osl, rfl, lk, hcd⟩ := F.ex
  exact fun s us ws _ h1 h2 => .of_eq (h kV doc pm an cdv ct us ws h1 h2)
def wNever : WS := fun _ _ => False
section
variable {S : Sg}
theorem de_calK {np n nk : Nat} {W : FSpec} {ms : List Bool} {wr wk : WA} {x : Str} {ps ks : List Str} {p pos : Pos} {e : Expr} {es : List Expr} {kws : List Keyword} (hS : S.CX = CX0) (h : CalK S.g S.k x ps ks n W) (hW : FMono W) (hg : GlS S.sc x) (ha : DA S (e :: es) wr) (hkw : DK S kws wk)
    (hall : ∀ env, (backToKw pos (keywordEach kws env)).all (·.1.isSome) = true := by intro _; rfl) (hks : ∀ env, (backToKw pos (keywordEach kws env)).filterMap (·.1) = ks := by intro _; rfl)
    (hs : ∀ env, starEach (e :: es) env = (false, eval e env) :: starEach es env := by intro _; rfl)
    (hpl : ∀ env, ((backTo pos (starEach (e :: es) env)).any (·.1) || (backToKw pos (keywordEach kws env)).any (·.1.isNone)) = false := by intro _; rfl) (hdb : (x == ("__debug__" : Str)) = false := by decide) (hn : ps.length = np := by rfl) (hnk : ks.length = nk := by rfl) :
    DE S (.Call (.Name x p) (e :: es) kws pos) (wCall np W ms (wApp2 n nk wr wk)) := by
  subst hn hnk
  obtain ⟨f, fd, F, m, q, b⟩ := h
  exact de_callK hS hW F (Nat.le_refl _) hg m q b ha hkw hall hks hs hpl hdb
/-- a statement that isn't come to -/
theorem ds_never {st : Stmt} : DS S st wNever := ⟨fun _ _ _ => False, fun c hc => ⟨fun pins s σ H D I h => h.elim⟩, ⟨fun _ _ _ _ w => w, fun F B H vs σ δ D d hx h k w => w.elim⟩⟩
end
end DL
set_option Elab.async false
set_option linter.all false
set_option maxRecDepth 100000
set_option maxHeartbeats 1000000
set_option autoImplicit false
/-! a part of a tuple that was told with own parts, by a constant place. -/
namespace DL
open PySem PySem.Spec PyProof.Rows L2
def partN : R → Int → Option PyData
  | .n (.tp ps), j => (atI ps j).bind fun p => match p with
    | .d d => some d
    | _ => none
  | .d (.tuple ds), j => atI ds j
  | _, _ => none
def wIxN (j : Int) (wa : WE) : WE := fun Ex δ P => wa Ex δ fun r δ1 => ob (partN r j) fun d => P (.d d) δ1
theorem paired_atI {α β : Type} {G : α → β → Prop} {xs : List α} {ys : List β} {j : Int} {y : β} (h : Paired G xs ys) (e : atI ys j = some y) : ∃ x, atI xs j = some x ∧ G x y := by
  unfold atI at e ⊢
  rw [Paired.length h]
  obtain ⟨i, e1, e2⟩ := Option.bind_eq_some_iff.mp e
  obtain ⟨x, e3, q⟩ := paired_get h e2
  exact ⟨x, by rw [e1]; exact e3, q⟩
section
variable {S : Sg}
theorem de_ixN {a : Expr} {wa : WE} {j : Int} {n : Nat} {pos p2 : Pos} (ha : DE S a wa) (hs : PlainIx (.Constant (.int j) n p2) := by intro _ _; rfl) : DE S (.Subscript a (.Constant (.int j) n p2) pos) (wIxN j wa) := by
  obtain ⟨ta, pa, sa⟩ := ha
  refine ⟨tOp (rIxT S.g.K) ta (tC (.int j)), fun c hc => pe_ix (ix_tup (X := S.g.cx c)) (pa c hc) pe_int hs, ⟨fun Ex Ex' δ P P' hx h w => sa.mono _ _ _ _ _ hx (fun r δ1 w => w.imp fun d w => h _ _ w) w, fun Ex F B H vs σ δ P Q hx h w k => ?_⟩⟩
  refine sa.run _ _ _ _ _ _ _ _ _ hx h w fun B1 H1 v r δ1 s1 h1 q1 w1 => ?_
  obtain ⟨d, e, w1⟩ := w1
  show rIxT S.g.K v (.int j) H1 Q
  unfold partN at e
  split at e
  · obtain ⟨p, e1, e2⟩ := Option.bind_eq_some_iff.mp e
    split at e2
    · cases e2
      obtain ⟨a, rfl, _, ⟨xs, e3, q, _⟩, _⟩ := q1
      obtain ⟨x, e4, q4⟩ := paired_atI q e1
      exact ⟨a, xs, j, x, rfl, rfl, .inl (.inl e3), e4, k B1 H1 _ (.d d) δ1 s1 h1 q4 w1⟩
    · cases e2
  · obtain ⟨a, xs, rfl, hp, qx⟩ := ov_tup (K := S.g.K) (H := H1) (.inl q1)
    obtain ⟨x, e4, q4⟩ := dds_at qx e
    exact ⟨a, xs, j, x, rfl, rfl, .inl (PlT.mono h1.sb hp).rd, e4, k B1 H1 _ (.d d) δ1 s1 h1 q4 w1⟩
  · cases e
end
end DL
set_option Elab.async false
set_option linter.all false
set_option maxRecDepth 100000
set_option maxHeartbeats 1000000
set_option autoImplicit false
/-! [x for a in xs if .. for b in ys if ..]. -/
namespace DL
open PySem PySem.Spec PyProof.Rows L2
def wLcA (Ga : WG) (wt : WT) (wj : WI) (Gb : WG) (wt1 : WT) (we : WE) (us ws : List Nat) : List PyData → List PyData → SEnv → (List PyData → SEnv → Prop) → Prop
  | [], acc, δ, P => P acc δ
  | x :: xs, acc, δ, P => ob (Ga x (forgetAll δ us)) fun δ1 => wt Ex0 δ1 fun b δ2 => if b = true then wj Ex0 δ2 fun ys δ3 => wLcR Gb wt1 we ws ys acc δ3 fun acc' δ4 => wLcA Ga wt wj Gb wt1 we us ws xs acc' δ4 P else wLcA Ga wt wj Gb wt1 we us ws xs acc δ2 P
def wLc2 (wi : WI) (Ga : WG) (wt : WT) (wj : WI) (Gb : WG) (wt1 : WT) (we : WE) (us ws : List Nat) : WE := fun Ex δ P => wi Ex δ fun ds δ1 => wLcA Ga wt wj Gb wt1 we us ws ds [] δ1 fun acc δ2 => P (.n (.l acc)) (restore δ1 (forgetAll δ2 us) us)
section
variable {K : PySem.W.Frag} {E0' : XK} {te : TE} {tt tt1 : TT} {we : WE} {wt wt1 : WT} {Ga Gb : WG} {wj : WI} {us ws : List Nat}
theorem wLcA_mono {tj : TI} (st : TSim K E0' tt wt) (sj : ISim K E0' tj wj) (st1 : TSim K E0' tt1 wt1) (se : ESim K E0' te we) : ∀ (xs acc : List PyData) (δ : SEnv) (P P' : List PyData → SEnv → Prop), (∀ a δ, P a δ → P' a δ) → wLcA Ga wt wj Gb wt1 we us ws xs acc δ P → wLcA Ga wt wj Gb wt1 we us ws xs acc δ P'
  | [], _, _, _, _, h, w => h _ _ w
  | x :: xs, acc, δ, P, P', h, w => w.imp fun δ1 w => by
    refine st.mono _ _ _ _ _ (fun _ z => z) (fun b δ2 w => ?_) w
    cases b with
    | false => exact wLcA_mono st sj st1 se xs acc δ2 P P' h w
    | true => exact sj.mono _ _ _ _ _ (fun _ z => z) (fun ys δ3 w => wLcR_mono st1 se ys acc δ3 _ _ (fun a δ w => wLcA_mono st sj st1 se xs a δ P P' h w) w) w
/-- the inner loop -/
theorem lcB_run {gb : TG} {tb : List Nat} {F B1 H1 : Hp} {vs : List V} {σ8 : L2.St} {δ1 : SEnv} {J : It} {ds : List PyData} {D : Addr} {xs0 : List V} {acc0 : List PyData} {P : List PyData → SEnv → Prop} {Q : Hp → Prop}
    (sg : GSim K gb Gb tb) (htb : ∀ i ∈ tb, i ∈ ws) (st : TSim K E0' tt1 wt1) (se : ESim K E0' te we) (h : Rep K (upd F D (.lst xs0)) B1 H1 vs σ8 δ1) (qj : ItOk B1 J ds) (q0 : DDs B1 xs0 acc0) (w : wLcR Gb wt1 we ws ds acc0 δ1 P)
    (k : ∀ B' H' xs' acc' δ', Same B1 B' → Rep K (upd F D (.lst xs')) B' H' vs σ8 (forgetAll δ' ws) → DDs B' xs' acc' → P acc' δ' → Q H') :
    ∃ U1 : Nat → Nat → Hp → Prop, (∃ m, U1 0 m H1) ∧ ∀ j n H, U1 j n H →
      (J.stop j H ∧ Q H) ∨ (J.go j H ∧ ∃ Z1 : Hp → Prop, (∀ H', Z1 H' → ∃ k', k' < n ∧ U1 (j + 1) k' H') ∧ ∀ y H', J.yld j H y H' → gb y (wipe σ8 ws) H' fun σ3 H5 => wipe σ3 ws = wipe σ8 ws ∧ tt1 σ3 H5 fun b H6 =>
        if b = true then te σ3 H6 fun y H7 => ∃ acc, H7 D = some (.lst acc) ∧ acc.length < sizeLine ∧ Z1 (upd H7 D (.lst (acc ++ [y]))) else Z1 H6) := by
  let Z := fun (j : Nat) (H' : Hp) => ∃ B' δ' acc xs, Same B1 B' ∧ Rep K (upd F D (.lst xs)) B' H' vs σ8 (forgetAll δ' ws) ∧ DDs B' xs acc ∧ wLcR Gb wt1 we ws (ds.drop j) acc δ' P
  refine ⟨fun j n H => n = ds.length - j ∧ j ≤ ds.length ∧ Z j H,
    ⟨ds.length, by simp, Nat.zero_le _, B1, δ1, acc0, xs0, Same.refl _, h.dim (by rw [forgetAll_length]; exact h.len) (fun i s e => ⟨(forgetAll_get e).1, rfl⟩), q0, w⟩, ?_⟩
  rintro j n H ⟨rfl, hj, B2, δ2, acc, xs, s2, h2, q2, w2⟩
  by_cases hlt : j < ds.length
  · refine .inr ⟨qj.go j H (s2.trans h2.sb) hlt, Z (j + 1), fun H' hz => ⟨ds.length - (j + 1), by omega, rfl, hlt, hz⟩, fun y H' yy => ?_⟩
    rw [List.drop_eq_getElem_cons hlt] at w2
    obtain ⟨δ3, e3, w3⟩ := w2
    have hw : Rep K (upd F D (.lst xs)) B2 H vs (wipe σ8 ws) (forgetAll δ2 ws) := by
      have := h2.wiped ws
      rw [forgetAll_twice] at this; exact this
    have fin : ∀ (B3 H3 : Hp) (y : V), Same B2 B3 → Rep K (upd F D (.lst xs)) B3 H3 vs (wipe σ8 ws) (forgetAll δ2 ws) → DD B3 y ds[j] → gb y (wipe σ8 ws) H3 fun σ3 H5 => wipe σ3 ws = wipe σ8 ws ∧ tt1 σ3 H5 fun b H6 =>
        if b = true then te σ3 H6 fun y H7 => ∃ acc, H7 D = some (.lst acc) ∧ acc.length < sizeLine ∧ Z (j + 1) (upd H7 D (.lst (acc ++ [y]))) else Z (j + 1) H6 := by
      intro B3 H3 y s3 h3 q3
      refine sg.run _ B3 H3 vs (wipe σ8 ws) _ δ3 y _ _ h3 q3 e3 fun σ3 h4 b2 => ⟨by rw [b2.2 ws htb, wipe_wipe], ?_⟩
      have away : ∀ {B5 H5 : Hp} {δ5 : SEnv} {xs' : List V}, Rep K (upd F D (.lst xs')) B5 H5 vs σ3 δ5 → Rep K (upd F D (.lst xs')) B5 H5 vs σ8 (forgetAll δ5 ws) := fun h5 =>
        h5.unwiped (by rw [b2.2 ws htb, wipe_wipe]) (by rw [b2.1, wipe_length])
      refine st.run Ex0 _ B3 H3 vs σ3 δ3 _ _ (fun _ _ _ _ _ _ _ _ _ _ _ _ z => z.elim) h4 w3 fun B4 H4 b δ4 s4 h5 w4 => ?_
      cases b with
      | false => exact ⟨B4, δ4, acc, xs, s2.trans (s3.trans s4), away h5, q2.mono (s3.trans s4), w4⟩
      | true =>
        refine se.run Ex0 _ B4 H4 vs σ3 δ4 _ _ (fun _ _ _ _ _ _ _ _ _ _ _ _ z => z.elim) h5 w4 fun B5 H5 v r δ5 s5 h6 q6 w5 => ?_
        obtain ⟨⟨d, δ6⟩, e6, hl, w6⟩ := w5
        obtain ⟨B6, s6, h7, d7⟩ := frz_ok h6 q6 e6
        exact ⟨xs, h7.sf D _ upd_same, by rw [q2.length]; exact hl, B6, δ6, acc ++ [d], xs ++ [v], s2.trans (s3.trans (s4.trans (s5.trans s6))), (away h7).relay (o' := .lst (xs ++ [v])), ((q2.mono (s3.trans (s4.trans (s5.trans s6)))).snoc d7), w6⟩
    obtain ⟨B3', s3', g3', q3'⟩ := qj.yld j H B2 y H' ds[j] s2 h2.sb yy (by simp [hlt])
    exact fin B3' H' y s3' (g3' _ _ _ _ _ hw) q3'
  · have e : j = ds.length := by omega
    subst e
    rw [List.drop_length] at w2
    exact .inl ⟨qj.stop _ H (s2.trans h2.sb) (Nat.le_refl _), k B2 H xs acc δ2 s2 h2 q2 w2⟩
/-- the outer loop, its list at D -/
theorem lcA_run {ga gb : TG} {tj : TI} {ta tb : List Nat} {F B1 H1 : Hp} {vs : List V} {σ : L2.St} {δ1 : SEnv} {J : It} {ds : List PyData} (sa : GSim K ga Ga ta) (hta : ∀ i ∈ ta, i ∈ us) (st : TSim K E0' tt wt) (sj : ISim K E0' tj wj) (sg : GSim K gb Gb tb) (htb : ∀ i ∈ tb, i ∈ ws) (hw : ∀ i ∈ ws, i ∈ us) (st1 : TSim K E0' tt1 wt1) (se : ESim K E0' te we)
    (h1 : Rep K F B1 H1 vs σ δ1) (qj : ItOk B1 J ds) {D : Addr} (hD : H1 D = none) {P : List PyData → SEnv → Prop} {Qd : Hp → Prop} (w1 : wLcA Ga wt wj Gb wt1 we us ws ds [] δ1 P)
    (k : ∀ B' H' xs acc δ', Same B1 B' → Rep K (upd F D (.lst xs)) B' H' vs σ (forgetAll δ' us) → DDs B' xs acc → P acc δ' → Qd H') :
    ∃ U : Nat → Nat → Hp → Prop, (∃ m, U 0 m (upd H1 D (.lst []))) ∧ ∀ i m H, U i m H →
      (J.stop i H ∧ Qd H) ∨ (J.go i H ∧ ∃ Z : Hp → Prop, (∀ H', Z H' → ∃ m', m' < m ∧ U (i + 1) m' H') ∧ ∀ x H', J.yld i H x H' → ga x (wipe σ us) H' fun σ2 H2 => wipe σ2 us = wipe σ us ∧ tt σ2 H2 fun b H3 =>
        if b = true then tj σ2 H3 fun J1 H4 => ∃ U1 : Nat → Nat → Hp → Prop, (∃ m, U1 0 m H4) ∧ ∀ j k H, U1 j k H →
          (J1.stop j H ∧ Z H) ∨ (J1.go j H ∧ ∃ Z1 : Hp → Prop, (∀ H', Z1 H' → ∃ k', k' < k ∧ U1 (j + 1) k' H') ∧ ∀ x H', J1.yld j H x H' → gb x (wipe σ2 ws) H' fun σ3 H5 => wipe σ3 ws = wipe σ2 ws ∧ tt1 σ3 H5 fun b H6 =>
            if b = true then te σ3 H6 fun y H7 => ∃ acc, H7 D = some (.lst acc) ∧ acc.length < sizeLine ∧ Z1 (upd H7 D (.lst (acc ++ [y]))) else Z1 H6)
        else Z H3) := by
  have hF : F D = none := nof h1.sf hD
  let Z := fun (i : Nat) (H' : Hp) => ∃ B' δ' acc xs, Same B1 B' ∧ Rep K (upd F D (.lst xs)) B' H' vs σ (forgetAll δ' us) ∧ DDs B' xs acc ∧ wLcA Ga wt wj Gb wt1 we us ws (ds.drop i) acc δ' P
  refine ⟨fun i m H => m = ds.length - i ∧ i ≤ ds.length ∧ Z i H,
    ⟨ds.length, by simp, Nat.zero_le _, B1, δ1, [], [], Same.refl _, (h1.lay hD _).dim (by rw [forgetAll_length]; exact h1.len) (fun i s e => ⟨(forgetAll_get e).1, rfl⟩), .nil, w1⟩, ?_⟩
  rintro i m H ⟨rfl, hi, B2, δ2, acc, xs, s2, h2, q2, w2⟩
  by_cases hlt : i < ds.length
  · refine .inr ⟨qj.go i H (s2.trans h2.sb) hlt, Z (i + 1), fun H' hz => ⟨ds.length - (i + 1), by omega, rfl, hlt, hz⟩, fun x H' xx => ?_⟩
    rw [List.drop_eq_getElem_cons hlt] at w2
    obtain ⟨δ3, e3, w3⟩ := w2
    have hwp : Rep K (upd F D (.lst xs)) B2 H vs (wipe σ us) (forgetAll δ2 us) := by
      have := h2.wiped us
      rw [forgetAll_twice] at this; exact this
    have fin : ∀ (B3 H3 : Hp) (x : V), Same B2 B3 → Rep K (upd F D (.lst xs)) B3 H3 vs (wipe σ us) (forgetAll δ2 us) → DD B3 x ds[i] → ga x (wipe σ us) H3 fun σ2 H2 => wipe σ2 us = wipe σ us ∧ tt σ2 H2 fun b H3 =>
        if b = true then tj σ2 H3 fun J1 H4 => ∃ U1 : Nat → Nat → Hp → Prop, (∃ m, U1 0 m H4) ∧ ∀ j k H, U1 j k H →
          (J1.stop j H ∧ Z (i + 1) H) ∨ (J1.go j H ∧ ∃ Z1 : Hp → Prop, (∀ H', Z1 H' → ∃ k', k' < k ∧ U1 (j + 1) k' H') ∧ ∀ x H', J1.yld j H x H' → gb x (wipe σ2 ws) H' fun σ3 H5 => wipe σ3 ws = wipe σ2 ws ∧ tt1 σ3 H5 fun b H6 =>
            if b = true then te σ3 H6 fun y H7 => ∃ acc, H7 D = some (.lst acc) ∧ acc.length < sizeLine ∧ Z1 (upd H7 D (.lst (acc ++ [y]))) else Z1 H6)
        else Z (i + 1) H3 := by
      intro B3 H3 x s3 h3 q3
      refine sa.run _ B3 H3 vs (wipe σ us) _ δ3 x _ _ h3 q3 e3 fun σ2 h4 b2 => ⟨by rw [b2.2 us hta, wipe_wipe], ?_⟩
      have away : ∀ {B5 H5 : Hp} {δ5 : SEnv} {xs' : List V}, Rep K (upd F D (.lst xs')) B5 H5 vs σ2 δ5 → Rep K (upd F D (.lst xs')) B5 H5 vs σ (forgetAll δ5 us) := fun h5 =>
        h5.unwiped (by rw [b2.2 us hta, wipe_wipe]) (by rw [b2.1, wipe_length])
      refine st.run Ex0 _ B3 H3 vs σ2 δ3 _ _ (fun _ _ _ _ _ _ _ _ _ _ _ _ z => z.elim) h4 w3 fun B4 H4 b δ4 s4 h5 w4 => ?_
      cases b with
      | false => exact ⟨B4, δ4, acc, xs, s2.trans (s3.trans s4), away h5, q2.mono (s3.trans s4), w4⟩
      | true =>
        refine sj.run Ex0 _ B4 H4 vs σ2 δ4 _ _ (fun _ _ _ _ _ _ _ _ _ _ _ _ z => z.elim) h5 w4 fun B5 H5 J1 ds1 δ5 s5 h6 qj1 w5 => ?_
        refine lcB_run (Q := Z (i + 1)) sg htb st1 se h6 qj1 (q2.mono (s3.trans (s4.trans s5))) w5 fun B6 H6 xs6 acc6 δ6 s6 h7 q7 w7 => ?_
        refine ⟨B6, δ6, acc6, xs6, s2.trans (s3.trans (s4.trans (s5.trans s6))), ?_, q7, w7⟩
        have := h7.unwiped (σ := σ) (is := us) (by rw [b2.2 us hta, wipe_wipe]) (by rw [b2.1, wipe_length])
        rw [forget_sub hw] at this
        exact this
    obtain ⟨B3', s3', g3', q3'⟩ := qj.yld i H B2 x H' ds[i] s2 h2.sb xx (by simp [hlt])
    exact fin B3' H' x s3' (g3' _ _ _ _ _ hwp) q3'
  · have e : i = ds.length := by omega
    subst e
    rw [List.drop_length] at w2
    exact .inl ⟨qj.stop _ H (s2.trans h2.sb) (Nat.le_refl _), k B2 H xs acc δ2 s2 h2 q2 w2⟩
theorem sim_lc2 {E : XK} {ti tj : TI} {ga gb : TG} {wi : WI} {ta tb : List Nat} (si : ISim K E ti wi) (sa : GSim K ga Ga ta) (hta : ∀ i ∈ ta, i ∈ us) (st : TSim K E0' tt wt) (sj : ISim K E0' tj wj) (sg : GSim K gb Gb tb) (htb : ∀ i ∈ tb, i ∈ ws) (hw : ∀ i ∈ ws, i ∈ us) (st1 : TSim K E0' tt1 wt1) (se : ESim K E0' te we) :
    ESim K E (tLc2 ti ga tt tj gb tt1 te us ws) (wLc2 wi Ga wt wj Gb wt1 we us ws) := by
  refine ⟨fun Ex Ex' δ P P' hx h w => si.mono _ _ _ _ _ hx (fun ds δ1 w => wLcA_mono st sj st1 se ds [] δ1 _ _ (fun acc δ2 w => h _ _ w) w) w, fun Ex F B H vs σ δ P Q hx h w k => ?_⟩
  refine si.run _ _ _ _ _ _ _ _ _ hx h w fun B1 H1 J ds δ1 s1 h1 q1 w1 => ?_
  intro D hD
  refine lcA_run sa hta st sj sg htb hw st1 se h1 q1 hD w1 fun B' H' xs acc δ' s2 h2 qa w2 => ?_
  have hF : F D = none := nof h1.sf hD
  have h3 : Rep K F B' H' vs σ (restore δ1 (forgetAll δ' us) us) := Rep.restored h1 s2 (h2.unlay hF)
  exact k B' H' (.ref D) (.n (.l acc)) _ (s1.trans s2) h3 ⟨D, rfl, foot_bf rfl (h2.dj D _ upd_same) hF, ⟨xs, h2.sf D _ upd_same, qa⟩, off_restore h2.off us⟩ w2
end
section
variable {S : Sg} {elt ta ia tb ib : Expr} {if0 if1 : List Expr} {scope : Scope} {own : List (Str × Nat)} {ws t1 t2 : List Nat} {pos : Pos} {wi wj : WI} {Ga Gb : WG} {wt wt1 : WT} {we : WE}
theorem de_lc2 (hCX : CXok S.CX) (hi : DI S ta ia wi) (hblk : blkC S.N S.sc scope own = true) (ha : DG (S.blk scope) ta Ga t1) (hta : t1.all (fun i => (own.map (·.2)).contains i) = true) (ht : DTs (S.blk scope) if0 wt)
    (hj : DI (S.blk scope) tb ib wj) (hb : DG (S.blk scope) tb Gb t2) (htb : t2.all (fun i => ws.contains i) = true) (hws : ws.all (fun i => (own.map (·.2)).contains i) = true) (ht1 : DTs (S.blk scope) if1 wt1) (he : DE (S.blk scope) elt we)
    (h1 : ∀ env x, foldedSetIterable ia env x = pure x := by intro _ _; rfl) (h2 : ∀ env x, foldedSetIterable ib env x = pure x := by intro _ _; rfl) :
    DE S (.ListComp elt [⟨ta, ia, if0, 0⟩, ⟨tb, ib, if1, 0⟩] scope pos) (wLc2 wi Ga wt wj Gb wt1 we (own.map (·.2)) ws) := by
  obtain ⟨ti, pi, si⟩ := hi
  obtain ⟨ga, pa, sa⟩ := ha
  obtain ⟨tt, pt, st⟩ := ht
  obtain ⟨tj, pj, sj⟩ := hj
  obtain ⟨gb, pb, sb⟩ := hb
  obtain ⟨tt1, pt1, st1⟩ := ht1
  obtain ⟨te, pe, se⟩ := he
  have all : ∀ {a b : List Nat}, a.all (fun i => b.contains i) = true → ∀ i ∈ a, i ∈ b := fun h i hi => by simpa using List.all_eq_true.mp h i hi
  refine ⟨tLc2 ti ga tt tj gb tt1 te (own.map (·.2)) ws, fun c hc => ?_, sim_lc2 si sa (all hta) st sj sb (all htb) (all hws) st1 se⟩
  exact pe_lc2 (X := S.g.cx c) hc.calm (by show c.N.Nodup; rw [hc.hN]; exact hc.nd) (pi c hc) (by show BlkOk c.N c.env.scope scope own; rw [hc.hN, hc.hs]; exact blkOk_by hblk) (all hws) (fun s H C cl fp => pa _ (blk_ok hCX hc s H C cl fp)) (fun s H C cl fp => pt _ (blk_ok hCX hc s H C cl fp)) (fun s H C cl fp => pj _ (blk_ok hCX hc s H C cl fp)) (fun s H C cl fp => pb _ (blk_ok hCX hc s H C cl fp)) (fun s H C cl fp => pt1 _ (blk_ok hCX hc s H C cl fp)) (fun s H C cl fp => pe _ (blk_ok hCX hc s H C cl fp)) (h1 _) h2
theorem ds_setLc2 {i : Nat} {y : Str} {py spos : Pos} (hCX : CXok S.CX) (hy : S.N[i]? = some y) (hyl : S.sc.names.lookup y = some .local) (hkd : S.sc.kind = .function)
    (hln : (py.line == pos.line) = true) (hnn : (scope.names.any fun (n, k) => n == y && (k == .local || k == .cell)) = false) (hi : DI S ta ia wi) (hblk : blkC S.N S.sc scope own = true) (ha : DG (S.blk scope) ta Ga t1) (hta : t1.all (fun i => (own.map (·.2)).contains i) = true) (ht : DTs (S.blk scope) if0 wt)
    (hj : DI (S.blk scope) tb ib wj) (hb : DG (S.blk scope) tb Gb t2) (htb : t2.all (fun i => ws.contains i) = true) (hws : ws.all (fun i => (own.map (·.2)).contains i) = true) (ht1 : DTs (S.blk scope) if1 wt1) (he : DE (S.blk scope) elt we)
    (h1 : ∀ env x, foldedSetIterable ia env x = pure x := by intro _ _; rfl) (h2 : ∀ env x, foldedSetIterable ib env x = pure x := by intro _ _; rfl) :
    DS S (.Assign [.Name y py] (.ListComp elt [⟨ta, ia, if0, 0⟩, ⟨tb, ib, if1, 0⟩] scope pos) spos) (wSet i (wLc2 wi Ga wt wj Gb wt1 we (own.map (·.2)) ws)) := by
  obtain ⟨ti, pi, si⟩ := hi
  obtain ⟨ga, pa, sa⟩ := ha
  obtain ⟨tt, pt, st⟩ := ht
  obtain ⟨tj, pj, sj⟩ := hj
  obtain ⟨gb, pb, sb⟩ := hb
  obtain ⟨tt1, pt1, st1⟩ := ht1
  obtain ⟨te, pe, se⟩ := he
  have all : ∀ {a b : List Nat}, a.all (fun i => b.contains i) = true → ∀ i ∈ a, i ∈ b := fun h i hi => by simpa using List.all_eq_true.mp h i hi
  have sl := sim_lc2 si sa (all hta) st sj sb (all htb) (all hws) st1 se
  refine ⟨tAsg (tLc2 ti ga tt tj gb tt1 te (own.map (·.2)) ws) (gName i), fun c hc => ?_, ⟨fun d d' δ h w => sl.mono _ _ _ _ _ h.ex (fun r δ1 w => w.imp fun δ2 w => h.nx _ w) w, fun F B H vs σ δ D d hx h k w => ?_⟩⟩
  · exact ps_setLc2 (X := S.g.cx c) hc.calm (by show c.N.Nodup; rw [hc.hN]; exact hc.nd) (by show c.N[i]? = _; rw [hc.hN]; exact hy) (by show c.env.scope.names.lookup y = _; rw [hc.hs]; exact hyl) (sw_true (by show c.env.scope.kind = _; rw [hc.hs]; exact hkd) (by show c.env.scope.names.lookup y = _; rw [hc.hs]; exact hyl) hln hnn)
      (pi c hc) (by show BlkOk c.N c.env.scope scope own; rw [hc.hN, hc.hs]; exact blkOk_by hblk) (all hws) (fun s H C cl fp => pa _ (blk_ok hCX hc s H C cl fp)) (fun s H C cl fp => pt _ (blk_ok hCX hc s H C cl fp)) (fun s H C cl fp => pj _ (blk_ok hCX hc s H C cl fp)) (fun s H C cl fp => pb _ (blk_ok hCX hc s H C cl fp)) (fun s H C cl fp => pt1 _ (blk_ok hCX hc s H C cl fp)) (fun s H C cl fp => pe _ (blk_ok hCX hc s H C cl fp)) (h1 _) h2
  · refine sl.run _ _ _ _ _ _ _ _ _ hx h w fun B1 H1 v r δ1 s1 h1 q1 w1 => ?_
    obtain ⟨δ2, e1, w1⟩ := w1
    obtain ⟨B2, s2, h2⟩ := asgn_ok h1 q1 e1
    exact k.nx B2 _ H1 δ2 (s1.trans s2) h2 w1
end
end DL
set_option Elab.async false
set_option linter.all false
set_option maxRecDepth 100000
set_option maxHeartbeats 1000000
set_option autoImplicit false
/-! sorted of ints, any number; len(set(..)) of ints. -/
namespace DL
open PySem PySem.Spec PyProof.Rows L2
def sortA : List Vw → Option Rv
  | [.d (.list ds)] => (numsD ds).map fun ns => .lst ((sortI ns).map .int)
  | _ => none
theorem cr_sortedRdI {X : Cx} : CallR X (.builtin "sorted") (fun vs H Q => ∃ (a : Addr) (ns : List Int), vs = [V.ref a] ∧ Rd H a (.lst (ns.map V.int)) ∧
    ∀ (ns' : List Int) (p : Addr), ns'.Perm ns → ns'.Pairwise (· ≤ ·) → H p = none → Q (.ref p) (upd H p (.lst (ns'.map V.int)))) := by
  intro pins s σ H vs us Q I r h
  obtain ⟨a, ns, rfl, hs, q⟩ := h
  exact cr_sortedI pins s σ H _ us Q I r ⟨a, ns, rfl, .inl hs, q⟩
theorem cs_sortA {S : Sg} : CallS S (.builtin "sorted") sortA := by
  rintro c hc pins s σ H xs us Q I rv ⟨B, as, r, sB, ov, e, k⟩
  unfold sortA at e
  split at e
  · obtain ⟨ns, e1, e⟩ := Option.map_eq_some_iff.mp e
    cases e
    obtain ⟨v, rfl, q⟩ := ovs1 ov
    obtain ⟨p, zs, rfl, hp, qz⟩ := ov_lst sB q
    have ez := nums_dd e1 qz
    subst ez
    refine cr_sortedRdI pins s σ H _ us Q I rv ⟨p, ns, rfl, hp, fun ns' p' h1 h2 hp' => ?_⟩
    rw [sortI_one h1 h2]
    exact k p' _ hp' (dds_ofI _)
  · cases e
def met (ns : List Int) : List Int := firstMet (fun i => ns.getD i 0) ns.length
section
variable {X : Cx}
def tLenSetG (K : PySem.W.Frag) (ta : TE) : TE := fun σ H Q => ta σ H fun x H1 => ∃ (l : Addr) (ns : List Int), x = V.ref l ∧ SqL K H1 l (ns.map V.int) ∧ ns.length ≤ 1000 ∧ Q (.int (met ns).length) H1
theorem pe_lenSetG {a : Expr} {ta : TE} {p p2 q pos : Pos} (hc : X.calm = true) (hg : Gl X "len") (hm : X.mg "len" = none) (hg2 : Gl X "set") (hm2 : X.mg "set" = none) (ha : PE X a ta)
    (na : starEach [a] X.env = (false, eval a X.env) :: starEach [] X.env := by rfl) : PE X (.Call (.Name "len" p) [.Call (.Name "set" p2) [a] [] q] [] pos) (tLenSetG X.K ta) := by
  refine ⟨fun pins s σ H Q I h => ?_⟩
  refine Call_ (ld_blt I hg hm PySem.boot_len ?_)
  refine PyProof.Rows.callWith_builtin1 (PyProof.Rows.args_cons ?_ rfl) rfl rfl
  refine Call_ (ld_blt I hg2 hm2 PyProof.Rows.boot_set ?_)
  refine PyProof.Rows.callWith_type1 (PyProof.Rows.args_cons (thn (ha.run pins s σ H _ I h) fun v s1 ⟨x, H1, I1, r1, q1⟩ => PyProof.Rows.args_nil ?_) na) na rfl
  obtain ⟨l, ns, rfl, hq, h1, q1⟩ := q1
  cases r1
  obtain ⟨its, r, pl, hz⟩ := I1.list hq
  have hl : its.toArray.size = ns.length := by rw [List.size_toArray, ← r.length, List.length_map]
  refine call_set_list (I1.ok.hd hc) pl.isList (ns := ns) (by simpa using r.ints) (by unfold scanBound; omega) fun h' tk hS hk => ?_
  rw [hl] at hS
  refine PyProof.Rows.args_nil ?_
  obtain ⟨o, es, ep, t, ho, hex, hd, _, _, _, hf, hn⟩ := hS
  have I2 : Inv X pins σ H1 { s1 with heap := h', toks := tk } := I1.kept fun b o e => hk b o (Heap.lt_size e) e
  have hm : (met ns).length ≤ ns.length := firstMet_length_le _ _
  refine call_len_set ho hex hd hf (by rw [hn]; show (((met ns).length : Nat) : Int) < 2 ^ 63; omega) ⟨.int (met ns).length, H1, I2.tok _, ⟨_, by rw [hn]; rfl⟩, q1⟩
end
theorem met_go (ns : List Int) : ∀ i, i ≤ ns.length → (∀ x, x ∈ firstMet (fun i => ns.getD i 0) i ↔ x ∈ ns.take i) ∧ ((firstMet (fun i => ns.getD i 0) i).length = i ↔ (ns.take i).Nodup)
  | 0, _ => by rw [firstMet_zero, List.take_zero]; exact ⟨fun x => Iff.rfl, ⟨fun _ => List.nodup_nil, fun _ => rfl⟩⟩
  | i + 1, hi => by
    obtain ⟨h1, h2⟩ := met_go ns i (by omega)
    have hl := firstMet_length_le (fun i => ns.getD i 0) i
    have e : ns.getD i 0 = ns[i] := by rw [List.getD_eq_getElem?_getD, List.getElem?_eq_getElem (by omega)]; rfl
    rw [firstMet_succ, List.take_succ, List.getElem?_eq_getElem (by omega : i < ns.length)]
    show (∀ x, x ∈ step_dedup _ (ns.getD i 0) ↔ x ∈ ns.take i ++ [ns[i]]) ∧ ((step_dedup _ (ns.getD i 0)).length = i + 1 ↔ (ns.take i ++ [ns[i]]).Nodup)
    rw [e]
    unfold step_dedup
    by_cases m : ns[i] ∈ ns.take i
    · have hm := (h1 _).mpr m
      have ha : ((firstMet (fun i => ns.getD i 0) i).any fun x => x == ns[i]) = true := List.any_eq_true.mpr ⟨_, hm, beq_self_eq_true _⟩
      rw [if_pos ha]
      refine ⟨fun x => ?_, ⟨fun z => by omega, fun z => ?_⟩⟩
      · rw [List.mem_append, List.mem_singleton, h1]
        exact ⟨.inl, fun z => z.elim id fun z => z ▸ m⟩
      · rw [List.nodup_append] at z
        exact absurd rfl (z.2.2 _ m _ (List.mem_singleton.mpr rfl))
    · have hm : ¬ ns[i] ∈ firstMet (fun i => ns.getD i 0) i := fun z => m ((h1 _).mp z)
      have ha : ¬ ((firstMet (fun i => ns.getD i 0) i).any fun x => x == ns[i]) = true := fun z => by
        obtain ⟨x, mx, ex⟩ := List.any_eq_true.mp z
        exact hm (by rw [← beq_iff_eq.mp ex]; exact mx)
      rw [if_neg ha]
      refine ⟨fun x => by rw [List.mem_append, List.mem_append, h1], ?_⟩
      rw [List.length_append, List.length_singleton, List.nodup_append]
      refine ⟨fun z => ⟨h2.mp (by omega), by simp, fun x mx y my => ?_⟩, fun z => by rw [h2.mpr z.1]⟩
      rw [List.mem_singleton] at my
      subst my
      exact fun z => m (z ▸ mx)
theorem met_len (ns : List Int) : (met ns).length = ns.length ↔ ns.Nodup := by
  have := (met_go ns ns.length (Nat.le_refl _)).2
  rw [List.take_length] at this
  exact this
def wLenSet (wa : WE) : WE := fun Ex δ P => wa Ex δ fun r δ1 => ob (settle r) fun r' => ob (view δ1 r') fun w => ob (listV w) fun ds => ob (numsD ds) fun ns => ns.length ≤ 1000 ∧ P (.d (.int (met ns).length)) δ1
section
variable {S : Sg}
theorem de_lenSet {a : Expr} {wa : WE} {p p2 q pos : Pos} (hg : GlS S.sc "len") (hm : S.g.mg "len" = none) (hg2 : GlS S.sc "set") (hm2 : S.g.mg "set" = none) (ha : DE S a wa)
    (hs : ∀ env, starEach [a] env = (false, eval a env) :: starEach [] env := by intro _; rfl) :
    DE S (.Call (.Name "len" p) [.Call (.Name "set" p2) [a] [] q] [] pos) (wLenSet wa) := by
  obtain ⟨t, pa, s⟩ := ha
  refine ⟨tLenSetG S.g.K t, fun c hc => pe_lenSetG (X := S.g.cx c) hc.calm (gl_of hc hg) hm (gl_of hc hg2) hm2 (pa c hc) (hs _), ⟨fun Ex Ex' δ P P' hx h w => ?_, fun Ex F B H vs σ δ P Q hx h w k => ?_⟩⟩
  · exact s.mono _ _ _ _ _ hx (fun r δ1 w => w.imp fun r' w => w.imp fun v w => w.imp fun ds w => w.imp fun ns w => ⟨w.1, h _ _ w.2⟩) w
  · refine s.run _ _ _ _ _ _ _ _ _ hx h w fun B1 H1 x r δ1 s1 h1 q1 w1 => ?_
    obtain ⟨r', e1, vw, e2, ds, e3, ns, e4, hl, w1⟩ := w1
    obtain ⟨B2, s2, h2, q2, n2⟩ := settle_ok h1 q1 e1
    obtain ⟨a, xs, rfl, hr, qx⟩ := lst_of h2.sb (view_ok h2 q2 e2) e3
    cases nums_dd e4 qx
    exact ⟨a, ns, rfl, .inl hr, hl, k B2 _ (.int _) (.d (.int (met ns).length)) δ1 (s1.trans s2) h2 (.int _) w1⟩
end
end DL
set_option Elab.async false
set_option linter.all false
set_option maxRecDepth 100000
set_option maxHeartbeats 1000000
set_option autoImplicit false
/-! calls where what may be left out is left out. -/
namespace DL
open PySem PySem.Spec PyProof.Rows L2
theorem paired_app {α β : Type} {G : α → β → Prop} {xs xs' : List α} {ys ys' : List β} (h : Paired G xs ys) (r : Paired G xs' ys') : Paired G (xs ++ xs') (ys ++ ys') := by
  induction h with
  | nil => exact r
  | cons q _ ih => exact .cons q ih
theorem vals_app {vs zs : List V} {us ws : List Value} (rv : Vals vs us) (rz : Vals zs ws) : Vals (vs ++ zs) (us ++ ws) := by
  induction rv with
  | nil => exact rz
  | cons a _ ih => exact .cons a ih
def wAppD (wr : WA) (dd : List PyData) : WA := fun Ex δ P => wr Ex δ fun rs δ1 => P (rs ++ dd.map R.w) δ1
def tAppD (t : TA) (dvs : List V) : TA := fun σ H Q => t σ H fun vs H1 => Q (vs ++ dvs) H1
theorem dw_reps {K : PySem.W.Frag} {F B H : Hp} {σ : L2.St} {δ : SEnv} {dvs : List V} {dd : List PyData} (q : Paired (DW K) dvs dd) : RepRs K F B H σ δ dvs (dd.map R.w) := by
  induction q with
  | nil => exact .nil
  | cons a _ ih => exact .cons ⟨a, fun _ z => nomatch z⟩ ih
theorem sim_appD {K : PySem.W.Frag} {E : XK} {t : TA} {wr : WA} {dvs : List V} {dd : List PyData} (s : ASim K E t wr) (q : Paired (DW K) dvs dd) : ASim K E (tAppD t dvs) (wAppD wr dd) :=
  ⟨fun Ex Ex' δ P P' hx h w => s.mono _ _ _ _ _ hx (fun r δ1 w => h _ _ w) w, fun Ex F B H vs σ δ P Q hx h w k =>
    s.run _ _ _ _ _ _ _ _ _ hx h w fun B1 H1 ws rs δ1 s1 h1 q1 w1 => k B1 H1 _ _ δ1 s1 h1 (paired_app q1 (dw_reps q)) w1⟩
/-- a def, by its name, called without its last ones, which are these then -/
def CalD (g : Gx) (k : Nat) (x : Str) (ps : List Str) (dd : List PyData) (W : FSpec) : Prop := ∃ (f : Addr) (fd : FuncData) (dvs : List V) (ds : List Value), FnG g CX0 k f fd ps (spOf g.K ps.length W) ∧ g.mg x = some (.ref f) ∧ PySem.W.keepIn g.K (.ref f) = true ∧ Binds g.K fd ps ds ∧ Vals dvs ds ∧ Paired (DW g.K) dvs dd
theorem CalD.mono {g : Gx} {j k : Nat} {x : Str} {ps : List Str} {dd : List PyData} {W : FSpec} (h : CalD g j x ps dd W) (l : j ≤ k) : CalD g k x ps dd W := by
  obtain ⟨f, fd, dvs, ds, F, r⟩ := h
  exact ⟨f, fd, dvs, ds, F.mono l, r⟩
theorem CalD.imp {g : Gx} {k : Nat} {x : Str} {ps : List Str} {dd : List PyData} {W W' : FSpec} (h : CalD g k x ps dd W) (l : ∀ ss Ex P, W' ss Ex P → W ss Ex P) : CalD g k x ps dd W' := by
  obtain ⟨f, fd, dvs, ds, F, r⟩ := h
  exact ⟨f, fd, dvs, ds, spOf_imp F l, r⟩
theorem runGD {g : Gx} {c : Cl} {k : Nat} {f : Addr} {fd : FuncData} {ps : List Str} {sp : Sp} {E : XK} {pins : List (Addr × Obj)} {σ : L2.St} {H : Hp} {sh : Shared} {Q : VK} {us ds : List Value} {vs dvs : List V} (Fk : FnG g CX0 k f fd ps sp) (hgd : c.A.guards = some [])
    (hr : Room k c.A) (hb : Binds g.K fd ps ds) (hx : Passes CX0 (g.cx c) E) (I : Inv (g.cx c) pins σ H sh) (rv : Vals vs us) (rd : Vals dvs ds) (h : sp (vs ++ dvs) H Q E) : wpAny (model g.P g.w) c.A (call (.ref f) us) (EP (g.cx c) pins σ Q) c.xe sh := by
  have r2 := vals_app rv rd
  have hl : (us ++ ds).length = ps.length := r2.length.symm.trans (Fk.len _ _ _ _ h)
  refine wpAny_call (codeAny_mono (Fk.run c.A c.stack sh H _ (us ++ ds) (vs ++ dvs) Q E hgd hr I.env0 (hb sh us I.kIn hl) r2 h) fun res sh' hq => ?_)
  cases res with
  | error e => exact hx _ _ _ _ _ _ I hq
  | ok fl => cases fl with
    | ret u => exact I.after hq
    | _ => exact hq.elim
section
variable {S : Sg}
theorem de_calD {np : Nat} {W : FSpec} {ms : List Bool} {wr : WA} {x : Str} {ps : List Str} {dd : List PyData} {p pos : Pos} {e : Expr} {es : List Expr} (hS : S.CX = CX0) (h : CalD S.g S.k x ps dd W) (hW : FMono W) (hg : GlS S.sc x) (ha : DA S (e :: es) wr)
    (hs : ∀ env, starEach (e :: es) env = (false, eval e env) :: starEach es env := by intro _; rfl) (hpl : ∀ env, (backTo pos (starEach es env)).any (·.1) = false := by intro _; rfl) (hdb : (x == ("__debug__" : Str)) = false := by decide) (hn : ps.length = np := by rfl) :
    DE S (.Call (.Name x p) (e :: es) [] pos) (wCall np W ms (wAppD wr dd)) := by
  subst hn
  obtain ⟨f, fd, dvs, ds, F, m, kp, b, rd, qd⟩ := h
  obtain ⟨t, pa, s⟩ := ha
  refine ⟨_, fun c hc => ⟨fun pins sh σ H Q I h => ?_⟩, sim_call hW (sim_appD s qd)⟩
  have hgl : Gl (S.g.cx c) x := gl_of hc hg
  refine wpAny_Call_Name_kw (ld_glob I hgl m ?_ hdb)
  refine PySem.W.callWith_K (h₀ := S.g.base) I.ok.mod.kin kp ?_ (hs _) (hpl _)
  refine thn ((pa c hc).run pos pins sh σ H _ I h) fun us sh1 ⟨vs, H1, I1, rv, q⟩ => ⟨I1.kIn, ?_⟩
  have q : spOf S.g.K ps.length W ((vs ++ dvs) ++ []) H1 Q S.E := q
  rw [List.append_nil] at q
  have hps := hc.ps
  rw [hS] at hps
  exact runGD F hc.gd (hc.room.mono (Nat.le_refl _)) b hps I1 rv rd q
end
/-- a def at the top with what its keyword-only ones are when left out -/
def GotD (g : Gx) (x : Str) (st : Stmt) (kws : List (Str × V)) : Prop := ∃ (f : Addr) (fd : FuncData), g.mg x = some (.ref f) ∧ Fun g.K x x st f fd ∧ FunD g.K x x (defArgs st) (defBody st) (defScope st) [] kws f fd
theorem GotD.got {g : Gx} {x : Str} {st : Stmt} {kws : List (Str × V)} (h : GotD g x st kws) : Got g x st := by
  obtain ⟨f, fd, m, F, _⟩ := h
  exact ⟨f, fd, m, F⟩
theorem gotD_mk {P : Program} {w : World} {K : PySem.W.Frag} {mg : Str → Option Value} {base h : Heap} (X : K.In h) (G : h.Ns mainGlobals mg) {x : Str} {st : Stmt} {f : Addr} {oc : Value} {od an : Option Addr} {osl : Array (Option Value)} {kV doc pm cdv ct : Value} {kws : List (Str × V)}
    (a : PySem.W.nsIn K mainGlobals x = some (some (.ref f))) (l : K.lookup f = some ⟨oc, od, .func (PySem.W.fnOf x x (defArgs st) (defBody st) (defScope st) .none kV doc pm an cdv ct), osl⟩)
    (c : PySem.W.codeIn K cdv x = true) (k : PySem.W.keepIn K (.ref f) = true) (q : KwdV K kV kws) : GotD ⟨P, w, K, mg, base⟩ x st kws :=
  ⟨f, _, PySem.W.mg_of X G a, fun_mk l c k, ⟨⟨oc, od, .none, kV, doc, pm, an, cdv, ct, osl, rfl, l, c, .inl ⟨rfl, rfl⟩, q⟩, k⟩⟩
theorem kwd_one {K : PySem.W.Frag} {kV : Value} {x : Str} {D T : Addr} (e : kV = .ref D) (n : PySem.W.nsIn K D x = some (some (.ref T))) : KwdV K kV [(x, .ref T)] :=
  .inr ⟨D, e, fun q hq => by rw [List.mem_singleton] at hq; subst hq; exact ⟨_, n, rfl⟩⟩
theorem dw_void {K : PySem.W.Frag} {T : Addr} {o : Obj} {n : Nat} (l : K.lookup T = some o) (c : o.cls = .type "tuple") (d : o.data = .seq #[] n) : DW K (.ref T) (.tuple []) :=
  .tup (.inr ⟨o, #[], n, l, c, d, Nat.zero_le _, .nil⟩) .nil
end DL
set_option Elab.async false
set_option linter.all false
set_option maxRecDepth 100000
set_option maxHeartbeats 1000000
set_option autoImplicit false
/-! refusals of two fields: made, raised; a def that raises them. -/
namespace DL
open PySem PySem.Spec PyProof.Rows L2
/-! ### __init__ -/
def spIni2 (K : PySem.W.Frag) (f1 f2 : Str) : Sp := fun vs H Q _ => ∃ (a C : Addr) (v1 v2 : V), vs = [.ref a, v1, v2] ∧ OexC K C ∧ PySem.W.findIn K (.ref C) f1 = some none ∧ PySem.W.findIn K (.ref C) f2 = some none ∧ H a = some (exo a C none) ∧
  ∀ dx, H dx = none → dx ≠ a → Q .non (upd (upd (upd H dx (exd dx [(f1, v1)])) a (exo a C (some dx))) dx (exd dx [(f2, v2), (f1, v1)]))
theorem ini2_ok {g : Gx} {qual : Str} {st : Stmt} {f : Addr} {fd : FuncData} {s p1 p2 f1 f2 : Str} {q1 q2 q3 q4 q5 q6 q7 q8 : Pos} (F : Fun g.K "__init__" qual st f fd) (S : FnScope [s, p1, p2] [s, p1, p2] (defScope st))
    (hb : defBody st = [.Assign [.Attribute (.Name s q1) f1 q2] (.Name p1 q3) q4, .Assign [.Attribute (.Name s q5) f2 q6] (.Name p2 q7) q8])
    (d0 : (s == ("__debug__" : Str)) = false) (d1 : (p1 == ("__debug__" : Str)) = false) (d2 : (p2 == ("__debug__" : Str)) = false) (c0 : (s == ("__classdict__" : Str)) = false) (c1 : (p1 == ("__classdict__" : Str)) = false) (c2 : (p2 == ("__classdict__" : Str)) = false) :
    FnOk g.P g.w g.K g.mg g.base CX0 1 f fd [s, p1, p2] (spIni2 g.K f1 f2) := by
  have vis : ∀ y ∈ [s, p1, p2], Vis (defScope st) y := fun y hy => (S.par y hy).imp id .inl
  refine F.ok S (fun vs H Q E ⟨a, C, v1, v2, e, _⟩ => by rw [e]; rfl) fun cdv A outer sh H vs Q E hr hsp => ?_
  obtain ⟨a, C, v1, v2, rfl, T, n1, n2, ea, k⟩ := hsp
  rw [hb]
  have v0 : ∀ {pos : Pos}, PE (cxOf CX0 g.P g.w g.K g.mg g.base [s, p1, p2] qual (defScope st) f cdv A outer sh H E).nox (.Name s pos) (tVar 0) := pe_var (i := 0) rfl (vis s (by simp)) d0 c0
  have v1' : ∀ {pos : Pos}, PE (cxOf CX0 g.P g.w g.K g.mg g.base [s, p1, p2] qual (defScope st) f cdv A outer sh H E).nox (.Name p1 pos) (tVar 1) := pe_var (i := 1) rfl (vis p1 (by simp)) d1 c1
  have v2' : ∀ {pos : Pos}, PE (cxOf CX0 g.P g.w g.K g.mg g.base [s, p1, p2] qual (defScope st) f cdv A outer sh H E).nox (.Name p2 pos) (tVar 2) := pe_var (i := 2) rfl (vis p2 (by simp)) d2 c2
  refine ⟨_, pss_cons (ps_ost v0 v1') (pss_one (ps_ost v0 v2')), ?_⟩
  refine ⟨v1, rfl, .ref a, rfl, a, C, rfl, T, n1, .inl ⟨ea, fun dx hd hne => ?_⟩⟩
  refine ⟨v2, rfl, .ref a, rfl, a, C, rfl, T, n2, .inr ⟨dx, [(f1, v1)], upd_same, ?_, by show 1 ≤ 900; decide, k dx hd hne⟩⟩
  rw [upd_ne hne, upd_same]
/-- a class of refusals, at C, whose making keeps its two arguments as f1, f2 -/
structure RfC (g : Gx) (C : Addr) (f1 f2 : Str) : Prop where
  ox : OexC g.K C
  n1 : PySem.W.findIn g.K (.ref C) f1 = some none
  n2 : PySem.W.findIn g.K (.ref C) f2 = some none
  ini : ∃ (fI : Addr) (fd : FuncData) (ps : List Str), PySem.W.findIn g.K (.ref C) "__init__" = some (some (.ref fI)) ∧ PySem.W.typeIn g.K (.ref fI) = some (.type "function") ∧ Binds g.K fd ps [] ∧ FnOk g.P g.w g.K g.mg g.base CX0 1 fI fd ps (spIni2 g.K f1 f2)
/-! ### raise -/
def twoD : List PyData → Option (PyData × PyData)
  | [a, b] => some (a, b)
  | _ => none
def wRaise2 (C : Addr) (f1 f2 : Str) (wa : WA) : WS := fun d δ => wa d.ex δ fun rs δ1 => ob (frzs δ1 rs) fun p => ob (twoD p.1) fun q => d.ex ⟨.ref C, [(f2, q.2), (f1, q.1)]⟩
section
variable {S : Sg}
theorem ds_raise2 {x f1 f2 : Str} {C : Addr} {e : Expr} {es : List Expr} {wa : WA} {p pos pos' : Pos} (ht : S.thr = true) (R : RfC S.g C f1 f2) (hk : 2 ≤ S.k) (hg : GlS S.sc x) (hm : S.g.mg x = some (.ref C)) (ha : DA S (e :: es) wa)
    (hs : ∀ env, starEach (e :: es) env = (false, eval e env) :: starEach es env := by intro _; rfl) (hpl : ∀ env, (backTo pos (starEach es env)).any (·.1) = false := by intro _; rfl) (hdb : (x == ("__debug__" : Str)) = false := by decide) :
    DS S (.Raise (some (.Call (.Name x p) (e :: es) [] pos)) none pos') (wRaise2 C f1 f2 wa) := by
  obtain ⟨t, pa, s⟩ := ha
  obtain ⟨fI, fd, ps, h1, h2, h3, h4⟩ := R.ini
  refine ⟨fun _ σ H => tMkO C (spIni2 S.g.K f1 f2) [] t σ H fun cls d H' => S.E cls d H', fun c hc => ps_raise hc.calm (hc.tk ht) (pmk_oex (X := S.g.cx c) R.ox h1 h2 h4 (hc.room.mono hk) h3 .nil pass0 (gl_of hc hg) hm (pa c hc) hdb (hs _) (hpl _)), ⟨fun d d' δ h w => ?_, fun F B H vs σ δ D d hx h k w => ?_⟩⟩
  · exact s.mono _ _ _ _ _ h.ex (fun rs δ1 w => w.imp fun p w => w.imp fun q w => h.ex _ w) w
  · refine s.run _ _ _ _ _ _ _ _ _ hx h w fun B1 H1 ws rs δ1 s1 h1' q1 w1 => ?_
    obtain ⟨⟨ds, δ2⟩, e1, ⟨d1, d2⟩, e2, w1⟩ := w1
    obtain ⟨B2, s2, hr2, dd⟩ := frzs_ok h1' q1 e1
    have ed : ds = [d1, d2] := by
      have e3 : twoD ds = some (d1, d2) := e2
      match ds, e3 with
      | [a, b], e3 => cases e3; rfl
    subst ed
    obtain ⟨v1, v2, rfl, a1, a2⟩ : ∃ v1 v2, ws = [v1, v2] ∧ DD B2 v1 d1 ∧ DD B2 v2 d2 := by
      match ws, dd with
      | [v1, v2], .cons a1 (.cons a2 .nil) => exact ⟨v1, v2, rfl, a1, a2⟩
    refine ⟨by show 2 ≤ 1000; decide, fun a ha => ⟨a, C, v1, v2, rfl, R.ox, R.n1, R.n2, upd_same, fun dx hdx hne => ⟨rfl, dx, [(f2, v2), (f1, v1)], ?_, upd_same, ?_, ?_⟩⟩⟩
    · rw [upd_ne (Ne.symm hne), upd_same]
    · rwa [upd_ne hne] at hdx
    · have hd1 : H1 dx = none := by rwa [upd_ne hne] at hdx
      have key : Same H1 (upd (L2.del (upd (upd (upd (upd H1 a (exo a C none)) dx (exd dx [(f1, v1)])) a (exo a C (some dx))) dx (exd dx [(f2, v2), (f1, v1)])) a) dx (.xd [(f2, v2), (f1, v1)])) := fun b o e => by
        have hb : b ≠ dx := ne_of_none e hd1
        have hb2 : b ≠ a := ne_of_none e ha
        rw [upd_ne hb, L2.del_ne hb2, upd_ne hb, upd_ne hb2, upd_ne hb, upd_ne hb2]
        exact e
      have hB : B2 dx = none := nof hr2.sb hd1
      refine hx (.ref C) dx (upd B2 dx (.xd [(f2, v2), (f1, v1)])) _ [(f2, v2), (f1, v1)] [(f2, d2), (f1, d1)] ⟨(s1.trans s2).trans (same_new hB _), nt_upd hr2.nt (by intro _ z; cases z)⟩ (fun b o e => ?_) (hr2.sf.trans key) (fun b o e => ?_) upd_same ?_ w1
      · by_cases hb : b = dx
        · subst hb
          rw [upd_same] at e ⊢
          exact e
        · rw [upd_ne hb] at e
          exact key b o (hr2.sb b o e)
      · have hb : b ≠ dx := ne_of_none (hr2.sf b o e) hd1
        rw [upd_ne hb]
        exact hr2.dj b o e
      · exact .cons ⟨rfl, a2.mono (same_new hB _)⟩ (.cons ⟨rfl, a1.mono (same_new hB _)⟩ .nil)
end
/-! ### a def that may raise -/
theorem FnG.any {g : Gx} {CX : CXT} {k : Nat} {f : Addr} {fd : FuncData} {ps : List Str} {sp : Sp} (F : FnG g CX0 k f fd ps sp) : FnG g CX k f fd ps sp :=
  ⟨F.len, fun A outer sh H args us vs Q E hg hr he hb hv hs => codeAny_mono (F.run A outer sh H args us vs Q E hg hr he hb hv hs) fun res s' q => by
    cases res with
    | error e => exact (show False from q).elim
    | ok fl => cases fl <;> exact q⟩
theorem Cal.any {g : Gx} {CX : CXT} {k : Nat} {x : Str} {ps : List Str} {W : FSpec} (h : Cal g CX0 k x ps W) : Cal g CX k x ps W := by
  obtain ⟨f, fd, F, r⟩ := h
  exact ⟨f, fd, F.any, r⟩
abbrev Gx.ex (g : Gx) : CXT := L2.CX g.P g.w
theorem cxE_ok {g : Gx} : CXok g.ex := fun _ _ _ _ _ h => by
  obtain ⟨_, _, _, _, _, _, _, _, _, _, _, _, z⟩ := h
  exact z
theorem fn_dlx {g : Gx} {x qual : Str} {st : Stmt} {f : Addr} {fd : FuncData} {N ps : List Str} {k : Nat} {w : WS} (Fn : Fun g.K x qual st f fd) (Sc : FnScope N ps (defScope st)) (hb : ∀ E, DSs ⟨g, g.ex, N, defScope st, k, E, true, true⟩ (defBody st) w) (hp : ps.length ≤ N.length) :
    FnG g g.ex (k + 1) f fd ps (spOf g.K ps.length (fnW ps.length N.length w)) := by
  obtain ⟨oc, od, kV, doc, pm, an, cdv, ct, osl, rfl, lk, hcd⟩ := Fn.ex
  refine ⟨fun vs H Q E h => h.1, fun A outer sh H args us vs Q E hgd hr e0 hbd rv hsp => ?_⟩
  have KX : g.K.In sh.heap := e0.mod.kin.keeps fun b o e => (e0.bs b o e).1
  have cell_or : ∀ y ∈ ps.zip us, (defScope st).names.lookup y.1 = some .local ∨ ((defScope st).names.lookup y.1 = some .cell ∧ ((cellsFrom (sh.heap.objs.size + 1) (defScope st).names []).lookup y.1).isSome = true) := by
    rintro ⟨nm, v⟩ hy
    have hz := Sc.par nm (List.of_mem_zip hy).1
    exact hz.imp id fun q => ⟨q, PySem.W.cellsFrom_some _ _ _ (.inl q)⟩
  refine codeAny_call_function hr.depth (KX _ _ lk) rfl Sc.co Sc.gen rfl (PySem.W.codeRec_of KX hcd) (hbd _ _ _ _ ?_)
  refine wpAny_newFunctionEnv_cells Sc.kind cell_or fun env he sh1 inC => ?_
  subst he
  refine ⟨(e0.mod.nolimit.keeps fun b o e => (e0.bs b o e).1).keeps inC.toInCall.keep, codeAny_func ?_⟩
  let X := cxOf g.ex g.P g.w g.K g.mg g.base N qual (defScope st) f cdv A outer sh H E
  have I : Inv X [] (L2.start N vs) H sh1 := inv_start Sc hr.hd e0 hsp.1 rv inC
  obtain ⟨t, p, sm⟩ := hb E
  let c : Cl := ⟨X.A, X.N, X.s_0, X.H_0, X.env, X.outer, X.stack, X.ex, X.fn, X.calm, X.pn, X.xe⟩
  have tk : Takes X fun cls d _ H => E cls d H := takes_of rfl rfl rfl rfl
  have hc : Sg.ok ⟨g, g.ex, N, defScope st, k, E, true, true⟩ c := ⟨rfl, Sc.nd, rfl, rfl, hr.deeper _, passes_call tk fun _ _ _ _ h => h, passes_of (X := X) rfl, fun _ _ => rfl, hgd, fun _ => tk⟩
  refine wpAny_mono ((p c hc : PSs X (defBody st) t).run [] sh1 _ H _ I (body_run hp sm hsp)) (fun fl sh' hs => ?_) fun e sh' hs => hs
  have ends : ∀ {σ' : L2.St} {H' : Hp} {v : V} {u : Value}, Inv X [] σ' H' sh' → RelV v u → Q v H' → CE outer g.P g.w H sh Q u sh' := fun J r q => ⟨_, _, J.os, J.bare, J.base, J.hok, r, q⟩
  cases fl with
  | ret u => obtain ⟨v, σ', H', J, r, q⟩ := hs; exact ends J r q
  | next => obtain ⟨σ', H', J, q⟩ := hs; exact ends (v := .non) (u := Value.none) J rfl q
  | brk => obtain ⟨_, _, _, q⟩ := hs; exact q.elim
  | cont => obtain ⟨_, _, _, q⟩ := hs; exact q.elim
end DL
set_option Elab.async false
set_option linter.all false
set_option maxRecDepth 100000
set_option maxHeartbeats 1000000
set_option autoImplicit false
/-! a lambda without parameters, handed to a def that calls it. -/
namespace DL
open PySem PySem.Spec PyProof.Rows L2 LamX
/-- a lambda at f, made in X at s: called above, where nothing is being shown, it keeps its reading -/
def LamG (X : Cx) (H : Hp) (s : Shared) (f c' : Addr) (k : Nat) (tl : XK → Hp → VK → Prop) : Prop :=
  ∀ (A : Around) (outer : List Env) (s1 : Shared) (HZ : Hp) (Q : VK) (E : XK), A.guards = some [] → Room (k + 1) A → Env0 X.prog X.w X.K X.mg X.base A outer s1 HZ → Un (frs X.stack) [] H HZ s.heap s1.heap →
    HZ c' = some (CodeO c' (X.env.qual ++ "<lambda>")) → tl E HZ Q → codeAny (model X.prog X.w) A (.call (.ref f) ⟨[], []⟩) (CR (L2.CX X.prog X.w) outer X.prog X.w HZ s1 Q E) s1
/-- a reading, weakened at will -/
def TL (tb : XK → TE) (σ : L2.St) : XK → Hp → VK → Prop := fun E H Q => ∃ (E1 : XK) (Q1 : VK), tb E1 σ H Q1 ∧ (∀ c d H', E1 c d H' → E c d H') ∧ ∀ v H', Q1 v H' → Q v H'
theorem TL.mono {tb : XK → TE} {σ : L2.St} {E E' : XK} {H : Hp} {Q Q' : VK} (h1 : ∀ c d H', E c d H' → E' c d H') (h2 : ∀ v H', Q v H' → Q' v H') (h : TL tb σ E H Q) : TL tb σ E' H Q' := by
  obtain ⟨E1, Q1, a, b, c⟩ := h
  exact ⟨E1, Q1, a, fun _ _ _ z => h1 _ _ _ (b _ _ _ z), fun _ _ z => h2 _ _ (c _ _ z)⟩
theorem lamG_mk {X : Cx} {pins : List (Addr × Obj)} {σ : L2.St} {H : Hp} {s : Shared} {f c' : Addr} {pm ctv : Value} {params : Arguments} {body : Expr} {scope : Scope} {k : Nat} {tb : XK → TE} (I : Inv X pins σ H s) (L : LamS X.env.scope scope)
    (hf : s.heap.get? f = some (PySem.W.kla_obj "<lambda>" (X.env.qual ++ "<lambda>") params body scope (cloFrom X.env.cells scope.names []) pm c' ctv)) (hfn : H f = none) (hfr : f ∉ frs X.stack)
    (hbind : bindArgs (PySem.W.kla_fn "<lambda>" (X.env.qual ++ "<lambda>") params body scope (cloFrom X.env.cells scope.names []) pm (.ref c') ctv) ⟨[], []⟩ = pure [])
    (hbody : ∀ (A : Around) (outer : List Env) (s1 : Shared) (HZ : Hp) (E : XK), A.guards = some [] → Room k (A.deeper (lamEnv X scope s1.heap.objs.size f c')) → PE (lamCx X A outer s1 HZ E scope f c') body (tb E)) :
    LamG X H s f c' k (TL tb σ) := by
  intro A outer s1 HZ Q0 E0' hg hr e0 un hc ⟨E, Q, ht, hE, hQ⟩
  suffices z : codeAny (model X.prog X.w) A (.call (.ref f) ⟨[], []⟩) (CR (L2.CX X.prog X.w) outer X.prog X.w HZ s1 Q E) s1 by
    refine codeAny_mono z fun r s' hq => ?_
    cases r with
    | error e =>
      obtain ⟨a, B, H', cls, d, q1, q2, q3, q4, q5, q6, q7, q8⟩ := hq
      exact ⟨a, B, H', cls, d, q1, q2, q3, q4, q5, q6, q7, hE _ _ _ q8⟩
    | ok fl =>
      cases fl with
      | ret u =>
        obtain ⟨v, H', q1, q2, q3, q4, q5, q6⟩ := hq
        exact ⟨v, H', q1, q2, q3, q4, q5, hQ _ _ q6⟩
      | next => exact hq
      | brk => exact hq
      | cont => exact hq
  have at_f := un.keep f _ hf hfn hfr (fun z => nomatch z)
  obtain ⟨⟨oc, vs, t, ho, hd, hv⟩, _⟩ := e0.hok c' _ hc
  have lim : s1.heap.NoLimit := e0.mod.nolimit.keeps fun b o e => (e0.bs b o e).1
  refine PySem.W.kla_callFunE hr.depth at_f rfl L.co L.gen rfl ⟨c', oc, vs, t, rfl, ho, hd, hv⟩ ?_
  rw [hbind]
  refine wpAny_pure (wpAny_newFunctionEnv (fun y hy => (L.own y hy).2) (fun y hy => nomatch hy) (fun h1 hns hsb => ⟨lim.fresh _ hsb, ?_⟩) L.kind)
  have kp : ∀ b o, s1.heap.get? b = some o → h1.get? b = some o := fun b o e => hsb.extBut b o (Nat.ne_of_lt (Heap.lt_size e)) (Heap.get?_push_of_some _ e)
  have J := lam_start2 (E := E) (f := f) (c' := c') (tk := s1.toks + ([] : List (Str × Value)).length) I L e0 hr.hd un hns kp
  refine PySem.W.kla_codeExpr (wpAny_mono ((hbody A outer s1 HZ E hg (hr.deeper _)).run [] _ _ HZ Q J ht) (fun v s' hq => ?_) fun e s' hq => hq)
  obtain ⟨w, H', K, r, q⟩ := hq
  exact ⟨w, H', K.os, K.bare, K.base, K.hok, r, q⟩
/-- x(), x the slot that holds the lambda -/
theorem pe_ask {X Z : Cx} {H : Hp} {s : Shared} {f c' : Addr} {k i : Nat} {tl : XK → Hp → VK → Prop} {a : Str} {W : WX} {p1 p2 : Pos} (hL : LamG X H s f c' k tl) (hX : Z.prog = X.prog ∧ Z.w = X.w ∧ Z.K = X.K ∧ Z.mg = X.mg ∧ Z.base = X.base)
    (hb : ∀ {pins : List (Addr × Obj)} {σ : L2.St} {HZ : Hp} {s1 : Shared}, Inv Z pins σ HZ s1 → Un (frs X.stack) [] H HZ s.heap s1.heap) (hfo : ∃ (scope : Scope) (params : Arguments) (body : Expr) (pm ctv : Value), s.heap.get? f = some (PySem.W.kla_obj "<lambda>" (X.env.qual ++ "<lambda>") params body scope (cloFrom X.env.cells scope.names []) pm c' ctv)) (hfn : H f = none) (hfr : f ∉ frs X.stack)
    (hg : Z.A.guards = some []) (hr : Room (k + 1) Z.A) (tk : Takes Z W) (hN : Z.N[i]? = some a) (hv : Vis Z.env.scope a) (hd : (a == ("__debug__" : Str)) = false := by decide) (hcd : (a == ("__classdict__" : Str)) = false := by decide) :
    PE Z (.Call (.Name a p1) [] [] p2) (fun σ HZ Q => σ[i]? = some (some (.ref f)) ∧ HZ c' = some (CodeO c' (X.env.qual ++ "<lambda>")) ∧ tl (fun cls d H' => W cls d σ H') HZ Q) := by
  obtain ⟨e1, e2, e3, e4, e5⟩ := hX
  refine ⟨fun pins s1 σ HZ Q I h => ?_⟩
  obtain ⟨hs, hc, ht⟩ := h
  refine wpAny_Call_Name_kw (thn ((pe_var (pos := p1) (i := i) hN hv hd hcd).run pins s1 σ HZ (fun v H1 => v = .ref f ∧ H1 = HZ) I ⟨.ref f, hs, rfl, rfl⟩) fun u s2 ⟨v, H1, I1, r1, q1⟩ => ?_)
  obtain ⟨rfl, rfl⟩ := q1
  obtain rfl : u = Value.ref f := r1
  have un := hb I1
  obtain ⟨scope, params, body, pm, ctv, ho⟩ := hfo
  have at_f := un.keep f _ ho hfn hfr (fun z => nomatch z)
  refine PySem.W.callWith_F0 ⟨_, _, _, _, at_f⟩ ?_
  have e0 : Env0 X.prog X.w X.K X.mg X.base Z.A Z.stack s2 H1 := by have := I1.env0; rwa [e1, e2, e3, e4, e5] at this
  rw [e1, e2]
  refine wpAny_call (codeAny_mono (hL Z.A Z.stack s2 H1 Q _ hg hr e0 un hc ht) fun r s' hq => ?_)
  cases r with
  | error e =>
    refine tk _ _ ?_
    have hq : L2.CX Z.prog Z.w Z.stack H1 s2 (fun cls d H' => W cls d σ H') e s' := by rw [e1, e2]; exact hq
    exact XE.of_call I1 (fun _ _ _ h => h) hq
  | ok fl =>
    cases fl with
    | ret u =>
      have hq : CE Z.stack Z.prog Z.w H1 s2 Q u s' := by rw [e1, e2]; exact hq
      exact I1.after hq
    | next => exact False.elim hq
    | brk => exact False.elim hq
    | cont => exact False.elim hq
end DL
set_option Elab.async false
set_option linter.all false
set_option maxRecDepth 100000
set_option maxHeartbeats 1000000
set_option autoImplicit false
/-! a refusal caught: isinstance, its fields; the def that asks and tells what it got. -/
namespace DL
open PySem PySem.Spec PyProof.Rows L2 LamX
/-- what a class of refusals must say, so that isinstance and its fields are asked rightly -/
structure RxC (K : PySem.W.Frag) (C : Addr) : Prop where
  xf : XfC K C
  cl : (PySem.W.clsIn K C).isSome = true
  ha : PySem.W.findIn K (.ref C) "__class__" = some (some (.builtin "object.__class__"))
  hn : PySem.W.specialIn K (.builtin "object.__class__") "__get__" = some (some (.builtin "getset_descriptor.__get__"))
  ht : PySem.W.takesIn K (.builtin "object.__class__") = some true
  hm : PySem.W.mroIn K C (.type "object") = some true
def rIsX (K : PySem.W.Frag) (C a dd : Addr) : List V → Hp → VK → Prop := fun xs H Q => (∃ fs, H dd = some (.xd fs)) ∧
  ((∃ (D : Addr) (b : Bool), xs = [.ref a, .ref D] ∧ PySem.W.kitOne K (.ref C) (.ref D) = some b ∧ Q (.bl b) H) ∨
    ∃ (p : Addr) (Ds : List Addr) (b : Bool), xs = [.ref a, .ref p] ∧ H p = some (.tup (Ds.map V.ref)) ∧ PySem.W.kitAny K (.ref C) (Ds.map Value.ref) = some b ∧ Q (.bl b) H)
theorem vals_refs : ∀ {Ds : List Addr} {its : List Value}, Vals (Ds.map V.ref) its → its = Ds.map Value.ref
  | [], _, .nil => rfl
  | _ :: _, _, .cons r rs => by rw [List.map_cons, ← vals_refs rs]; congr 1
theorem call_isX {X : Cx} {a C dd : Addr} {oe : Obj} {pn : List (Addr × Obj)} (T : RxC X.K C) (hz : Zc (.ref C) (some dd) oe) (hf : ∃ vs, oe.data = .fields vs) : CallR (X.suite a ((a, oe) :: pn)) (.builtin "isinstance") (rIsX X.K C a dd) := by
  intro pins s σ H xs us Q I r h
  obtain ⟨⟨fs, ed⟩, h⟩ := h
  obtain ⟨ha, _⟩ := I.pin (a, oe) (List.mem_append_left _ List.mem_cons_self)
  obtain ⟨vs, hd⟩ := hf
  have hx : ObjOk X.prog X.w H s.heap dd (.xd fs) := I.hok dd _ ed
  obtain ⟨mA, hns, _⟩ := hx
  obtain ⟨od, ho, _⟩ := lookIn_ns hns
  have J : PySem.W.InstAt s.heap a oe C (some od) := ⟨ha, hz.1, by unfold PySem.W.notCls; rw [hd] <;> rfl, by rw [hz.2]; exact ho⟩
  have kit := PySem.W.kitx_exc (x := a) (ox := oe) (od := some od) T.cl T.xf.ga T.xf.gg T.xf.exC T.ha T.hn T.ht T.hm
  rcases h with ⟨D, b, rfl, e, q⟩ | ⟨p, Ds, b, rfl, hp, e, q⟩
  · match us, r with
    | [_, _], .cons r1 (.cons r2 .nil) =>
      cases r1; cases r2
      exact PySem.W.kia_one kit I.kIn J e (fun z => nomatch z) fun tk => ⟨.bl b, H, I.kept (t' := tk) fun _ _ z => z, rfl, q⟩
  · match us, r with
    | [_, _], .cons r1 (.cons r2 .nil) =>
      cases r1; cases r2
      have hx : ObjOk X.prog X.w H s.heap p (.tup (Ds.map V.ref)) := I.hok p _ hp
      obtain ⟨_, its, rv, tp⟩ := hx
      have ei := vals_refs rv
      subst ei
      obtain ⟨n, sl, o⟩ : ∃ (n : Nat) (sl : Array (Option Value)) , ∃ dd, s.heap.get? p = some ⟨.type "tuple", dd, .seq (Ds.map Value.ref).toArray n, sl⟩ := by
        obtain ⟨o, e1, e2, n, e3⟩ := tp
        obtain ⟨oc, od, oda, osl⟩ := o
        dsimp only at e2 e3
        subst e2 e3
        exact ⟨n, osl, od, e1⟩
      obtain ⟨dd', o⟩ := o
      exact PySem.W.kia_tup kit I.kIn J o e (fun z => nomatch z) fun tk => ⟨.bl b, H, I.kept (t' := tk) fun _ _ z => z, rfl, q⟩
/-! ### the def that asks -/
/-- the classes that it names: all, runs, texts, orders, papers' own, papers -/
structure SaidC (K : PySem.W.Frag) (mg : Str → Option Value) (CD CR CT CO CN CP : Addr) (f1 f2 : Str) : Prop where
  gD : mg "DrawerError" = some (.ref CD)
  gR : mg "RunError" = some (.ref CR)
  gT : mg "TextError" = some (.ref CT)
  gO : mg "NoOrder" = some (.ref CO)
  gN : mg "NoPaper" = some (.ref CN)
  gP : mg "PaperError" = some (.ref CP)
  gI : mg "isinstance" = none
  em : PySem.W.exmOne K (.ref CN) (.ref CD) = some true
  k1 : PySem.W.kitAny K (.ref CN) [.ref CR, .ref CT, .ref CO] = some false
  k2 : PySem.W.kitOne K (.ref CN) (.ref CN) = some true
  k3 : PySem.W.kitOne K (.ref CN) (.ref CP) = some true
  rx : RxC K CN
  n1 : PySem.W.findIn K (.ref CN) f1 = some none
  n2 : PySem.W.findIn K (.ref CN) f2 = some none
/-- what is wanted of the refusal -/
def wSaidX (CR CT CO CN : Addr) (f1 f2 : Str) (Q : VK) : XK := fun cls d H => cls = .ref CN ∧ ∃ (dd : Addr) (fs : List (Str × V)) (v1 v2 : V), d = some dd ∧ H dd = some (.xd fs) ∧ fs.lookup f1 = some v1 ∧ fs.lookup f2 = some v2 ∧
  ∀ (r0 p : Addr) (o : Obj), H r0 = none → upd H r0 (.tup [.ref CR, .ref CT, .ref CO]) p = none → o.cls = .type "tuple" → o.dict = none → Q (.ref p) (upd (upd H r0 (.tup [.ref CR, .ref CT, .ref CO])) p (.frz o (.tup [.str "no", v1, v2])))
def TTsaid (CR CT CO CN : Addr) (f1 f2 : Str) (tl : XK → Hp → VK → Prop) (H : Hp) (Q : VK) : Prop := ∀ p0, H p0 = none →
  tl (wSaidX CR CT CO CN f1 f2 Q) (upd H p0 (.tup [.str "other", .non])) fun v H' => ∀ (p : Addr) (o : Obj), H' p = none → o.cls = .type "tuple" → o.dict = none → Q (.ref p) (upd H' p (.frz o (.tup [.str "told", v])))
abbrev saidB (a fo e st f1 f2 : Str) (p : Nat → Pos) : List Stmt :=
  [.Assign [.Name fo (p 0)] (.Tuple [.Constant (.str "other") 0 (p 1), .Constant .none 0 (p 2)] 0 (p 3)) (p 4),
   .Try [.Assign [.Name fo (p 5)] (.Tuple [.Constant (.str "told") 0 (p 6), .Call (.Name a (p 7)) [] [] (p 8)] 0 (p 9)) (p 10)]
    [.ExceptHandler (some (.Name "DrawerError" (p 11))) (some e)
      [.Assign [.Name st (p 12)] (.Call (.Name "isinstance" (p 13)) [.Name e (p 14), .Tuple [.Name "RunError" (p 15), .Name "TextError" (p 16), .Name "NoOrder" (p 17)] 0 (p 18)] [] (p 19)) (p 20),
       .If (.BoolOp .And [.Call (.Name "isinstance" (p 21)) [.Name e (p 22), .Name "NoPaper" (p 23)] [] (p 24), .Call (.Name "isinstance" (p 25)) [.Name e (p 26), .Name "PaperError" (p 27)] [] (p 28), .UnaryOp .Not (.Name st (p 29)) (p 30)] (p 31))
        [.Assign [.Name fo (p 32)] (.Tuple [.Constant (.str "no") 0 (p 33), .Attribute (.Name e (p 34)) f1 (p 35), .Attribute (.Name e (p 36)) f2 (p 37)] 0 (p 38)) (p 39)] [] (p 40)] (p 41)] [] [] (p 42),
   .Return (some (.Name fo (p 43))) (p 44)]
theorem PSs.imp {X : Cx} {b : List Stmt} {t u : TS} (h : PSs X b t) (i : ∀ D σ H, u D σ H → t D σ H) : PSs X b u := ⟨fun pins s σ H D I q => h.run pins s σ H D I (i D σ H q)⟩
abbrev suiteB (fo e st f1 f2 : Str) (p : Nat → Pos) : List Stmt :=
  [.Assign [.Name st (p 12)] (.Call (.Name "isinstance" (p 13)) [.Name e (p 14), .Tuple [.Name "RunError" (p 15), .Name "TextError" (p 16), .Name "NoOrder" (p 17)] 0 (p 18)] [] (p 19)) (p 20),
   .If (.BoolOp .And [.Call (.Name "isinstance" (p 21)) [.Name e (p 22), .Name "NoPaper" (p 23)] [] (p 24), .Call (.Name "isinstance" (p 25)) [.Name e (p 26), .Name "PaperError" (p 27)] [] (p 28), .UnaryOp .Not (.Name st (p 29)) (p 30)] (p 31))
    [.Assign [.Name fo (p 32)] (.Tuple [.Constant (.str "no") 0 (p 33), .Attribute (.Name e (p 34)) f1 (p 35), .Attribute (.Name e (p 36)) f2 (p 37)] 0 (p 38)) (p 39)] [] (p 40)]
/-- what the suite asks -/
def wSuite (CR CT CO : Addr) (f1 f2 : Str) (a0 dd : Addr) : TS := fun D σ H => σ[2]? = some (some (.ref a0)) ∧ σ.length = 4 ∧ ∃ (fs : List (Str × V)) (v1 v2 : V), H dd = some (.xd fs) ∧ fs.lookup f1 = some v1 ∧ fs.lookup f2 = some v2 ∧
  ∀ (r0 p : Addr) (o : Obj), H r0 = none → upd H r0 (.tup [.ref CR, .ref CT, .ref CO]) p = none → o.cls = .type "tuple" → o.dict = none → D.nx ((σ.set 3 (some (.bl false))).set 1 (some (.ref p))) (upd (upd H r0 (.tup [.ref CR, .ref CT, .ref CO])) p (.frz o (.tup [.str "no", v1, v2])))
section
variable {Z : Cx} {CD CR CT CO CN CP : Addr} {a fo e st f1 f2 : Str} {p : Nat → Pos}
theorem suite_body (hN : Z.N = [a, fo, e, st]) (nd : Z.N.Nodup) (hfn : ∀ x, Z.fn x = true)
    (lf : Z.env.scope.names.lookup fo = some .local) (le : Z.env.scope.names.lookup e = some .local) (lst : Z.env.scope.names.lookup st = some .local)
    (gl : ∀ x ∈ (["DrawerError", "isinstance", "RunError", "TextError", "NoOrder", "NoPaper", "PaperError"] : List Str), Z.env.scope.names.lookup x = some .globalImplicit)
    (S : SaidC Z.K Z.mg CD CR CT CO CN CP f1 f2) (df : (fo == ("__debug__" : Str)) = false) (de : (e == ("__debug__" : Str)) = false) (ds : (st == ("__debug__" : Str)) = false)
    (cf : (fo == ("__classdict__" : Str)) = false) (ce : (e == ("__classdict__" : Str)) = false) (cs : (st == ("__classdict__" : Str)) = false)
    (a0 dd : Addr) (oe : Obj) (pn : List (Addr × Obj)) (hz : Zc (.ref CN) (some dd) oe) (hf : ∃ vs, oe.data = .fields vs) : PSs (Z.suite a0 ((a0, oe) :: pn)) (suiteB fo e st f1 f2 p) (wSuite CR CT CO f1 f2 a0 dd) := by
  let Y := Z.suite a0 ((a0, oe) :: pn)
  have ve : ∀ {pos : Pos}, PE Y (.Name e pos) (tVar 2) := pe_var (i := 2) (by show Z.N[2]? = _; rw [hN]; rfl) (.inl le) de ce
  have vs : ∀ {pos : Pos}, PE Y (.Name st pos) (tVar 3) := pe_var (i := 3) (by show Z.N[3]? = _; rw [hN]; rfl) (.inl lst) ds cs
  have g : ∀ {x : Str} {C : Addr} {pos : Pos}, x ∈ (["DrawerError", "isinstance", "RunError", "TextError", "NoOrder", "NoPaper", "PaperError"] : List Str) → Z.mg x = some (.ref C) → (x == ("__debug__" : Str)) = false → PE Y (.Name x pos) (tC (.ref C)) := fun hx hm hd => pe_glob (X := Y) (gl _ hx) hm rfl hd
  have gi : Gl Y "isinstance" := gl "isinstance" (by decide)
  have bi : bootBuiltins "isinstance" = some (.builtin "isinstance") := by first | rfl | decide +kernel
  have isx := call_isX (X := Z) (a := a0) (pn := pn) S.rx hz hf
  refine PSs.imp (pss_cons (ps_set (X := Y) (i := 3) nd (by show Z.N[3]? = _; rw [hN]; rfl) (.inl lst) (pe_callB isx gi S.gI bi (pa_cons ve (pa_cons (pe_tup (pa_cons (g (by decide) S.gR (by decide)) (pa_cons (g (by decide) S.gT (by decide)) (pa_cons (g (by decide) S.gO (by decide)) pa_nil)))) pa_nil))) (by rfl) (.inl (hfn _)))
    (pss_one (ps_if (PW.pt (pw_and (pt_truth (pe_callB isx gi S.gI bi (pa_cons ve (pa_cons (g (by decide) S.gN (by decide)) pa_nil))) (fun _ => rfl)) (pw_and (pt_truth (pe_callB isx gi S.gI bi (pa_cons ve (pa_cons (g (by decide) S.gP (by decide)) pa_nil))) (fun _ => rfl)) (pw_and1 (pt_not (pt_truth vs (fun _ => rfl)))))))
      (pss_one (ps_set (X := Y) (i := 1) nd (by show Z.N[1]? = _; rw [hN]; rfl) (.inl lf) (pe_tupF (pa_cons pe_str (pa_cons (pe_xf (X := Z) S.rx.xf S.n1 hz hf ve (by rfl)) (pa_cons (pe_xf (X := Z) S.rx.xf S.n2 hz hf ve (by rfl)) pa_nil)))) (by rfl) (.inl (hfn _)))) pss_nil))) ?_
  rintro D σ H ⟨h2, hl, fs, v1, v2, hd, l1, l2, k⟩
  refine ⟨.ref a0, h2, ⟨by show 3 ≤ sizeLine; decide, fun r0 hr0 => ?_⟩⟩
  have n0 : dd ≠ r0 := ne_of_none hd hr0
  have hd1 : upd H r0 (.tup [.ref CR, .ref CT, .ref CO]) dd = some (.xd fs) := by rw [upd_ne n0]; exact hd
  refine ⟨⟨fs, hd1⟩, .inr ⟨r0, [CR, CT, CO], false, rfl, upd_same, S.k1, ?_⟩⟩
  have h2' : (σ.set 3 (some (.bl false)))[2]? = some (some (.ref a0)) := by rw [List.getElem?_set_ne (by decide)]; exact h2
  have h3' : (σ.set 3 (some (.bl false)))[3]? = some (some (.bl false)) := List.getElem?_set_self (by omega)
  refine ⟨.ref a0, h2', ⟨⟨fs, hd1⟩, .inl ⟨CN, true, rfl, S.k2, ⟨true, rfl, ?_⟩⟩⟩⟩
  refine iteT ⟨.ref a0, h2', ⟨⟨fs, hd1⟩, .inl ⟨CP, true, rfl, S.k3, ⟨true, rfl, ?_⟩⟩⟩⟩
  refine iteT ⟨.bl false, h3', ⟨false, rfl, ?_⟩⟩
  refine iteT ?_
  refine ⟨.ref a0, h2', rfl, rfl, dd, fs, v1, rfl, hd1, l1, ?_⟩
  refine ⟨.ref a0, h2', rfl, rfl, dd, fs, v2, rfl, hd1, l2, ?_⟩
  exact ⟨by show 3 ≤ sizeLine; decide, fun p o hp ec ed => k r0 p o hr0 hp ec ed⟩
end
section
variable {Z : Cx} {c' f : Addr} {q : Str} {tl : XK → Hp → VK → Prop} {CD CR CT CO CN CP : Addr} {a fo e st f1 f2 : Str} {p : Nat → Pos}
theorem said_body (hN : Z.N = [a, fo, e, st]) (nd : Z.N.Nodup) (hs : Z.stack = Z.env :: Z.outer) (hf : Z.env.frame = some Z.env.locals) (hfn : ∀ x, Z.fn x = true)
    (la : Z.env.scope.names.lookup a = some .local) (lf : Z.env.scope.names.lookup fo = some .local) (le : Z.env.scope.names.lookup e = some .local) (lst : Z.env.scope.names.lookup st = some .local) (hk : Z.env.scope.kind = .function)
    (gl : ∀ x ∈ (["DrawerError", "isinstance", "RunError", "TextError", "NoOrder", "NoPaper", "PaperError"] : List Str), Z.env.scope.names.lookup x = some .globalImplicit)
    (S : SaidC Z.K Z.mg CD CR CT CO CN CP f1 f2) (da : (a == ("__debug__" : Str)) = false) (df : (fo == ("__debug__" : Str)) = false) (de : (e == ("__debug__" : Str)) = false) (ds : (st == ("__debug__" : Str)) = false)
    (ca : (a == ("__classdict__" : Str)) = false) (cf : (fo == ("__classdict__" : Str)) = false) (ce : (e == ("__classdict__" : Str)) = false) (cs : (st == ("__classdict__" : Str)) = false)
    (ask : ∀ (W : WX) (pn : List (Addr × Obj)) (xe : Value → Shared → Prop), Takes (Z.tr pn xe) W → PE (Z.tr pn xe) (.Call (.Name a (p 7)) [] [] (p 8)) (fun σ H Q => σ[0]? = some (some (.ref f)) ∧ H c' = some (CodeO c' q) ∧ tl (fun cls d H' => W cls d σ H') H Q)) :
    ∃ t, PSs Z (saidB a fo e st f1 f2 p) t ∧ ∀ (D : Ends) (H : Hp), H c' = some (CodeO c' q) → (∀ E E' H Q Q', (∀ c d H', E c d H' → E' c d H') → (∀ v H', Q v H' → Q' v H') → tl E H Q → tl E' H Q') → TTsaid CR CT CO CN f1 f2 tl H D.rt → t D [some (.ref f), none, none, none] H := by
  have n1 : ∀ {X : Cx}, X.N = Z.N → X.N[1]? = some fo := fun h => by rw [h, hN]; rfl
  have vf : PE Z (.Name fo (p 43)) (tVar 1) := pe_var (i := 1) (n1 rfl) (.inl lf) df cf
  have ts := fun (a0 : Addr) (oe : Obj) (cls : Value) (d : Option Addr) (pn : List (Addr × Obj)) (hz : Zc cls d oe) (hf : ∃ vs, oe.data = .fields vs) =>
    (⟨fun pins s σ H D I ⟨dd, h1, h2, h⟩ => by
      subst h1 h2
      exact (suite_body (a := a) hN nd hfn lf le lst gl S df de ds cf ce cs a0 dd oe pn hz hf).run pins s σ H D I h⟩ : PSs (Z.suite a0 ((a0, oe) :: pn)) (suiteB fo e st f1 f2 p) (fun D σ H => ∃ dd, cls = .ref CN ∧ d = some dd ∧ wSuite CR CT CO f1 f2 a0 dd D σ H))
  refine ⟨_, pss_cons (ps_set (i := 1) nd (n1 rfl) (.inl lf) (pe_tup (pa_cons pe_str (pa_cons pe_non pa_nil))) (by rfl) (.inl (hfn _)))
    (pss_cons (ps_try_as (i := 2) (c := .ref CD) (tb := fun W => tAsg (tTupF (tCons (tC (.str "told")) (tCons (fun σ H Q => σ[0]? = some (some (.ref f)) ∧ H c' = some (CodeO c' q) ∧ tl (fun cls d H' => W cls d σ H') H Q) tNil))) (gName 1)) (ts := fun a0 cls d D σ H => ∃ dd, cls = .ref CN ∧ d = some dd ∧ wSuite CR CT CO f1 f2 a0 dd D σ H) hs hf nd (by rw [hN]; rfl) le ⟨gl _ (by decide), by decide, .inl S.gD⟩ L2.takes0
      (fun W pn xe tk _ => pss_one (ps_set (X := Z.tr pn xe) (i := 1) nd (n1 rfl) (.inl lf) (pe_tupF (pa_cons pe_str (pa_cons (ask W pn xe tk) pa_nil))) (by rfl) (.inl (hfn _)))) ts)
      (pss_one (ps_ret vf))), ?_⟩
  intro D H hc mono h
  refine ⟨by show 2 ≤ sizeLine; decide, fun p0 hp0 => ?_⟩
  have hc1 : upd H p0 (.tup [.str "other", .non]) c' = some (CodeO c' q) := by rw [upd_ne (ne_of_none hc hp0)]; exact hc
  refine ⟨rfl, hc1, mono _ _ _ _ _ ?_ ?_ (h p0 hp0)⟩
  · rintro cls d H' ⟨rfl, dd, fs, v1, v2, rfl, hd, l1, l2, k⟩
    exact ⟨true, S.em, fun _ a0 ha0 => ⟨dd, rfl, rfl, rfl, rfl, fs, v1, v2, hd, l1, l2, fun r0 p o hr hp ec ed => ⟨.ref p, rfl, k r0 p o hr hp ec ed⟩⟩, fun z => nomatch z⟩
  · intro v H' k
    exact ⟨by show 2 ≤ sizeLine; decide, fun p o hp ec ed => ⟨.ref p, rfl, k p o hp ec ed⟩⟩
end
end DL
set_option Elab.async false
set_option linter.all false
set_option maxRecDepth 100000
set_option maxHeartbeats 1000000
set_option autoImplicit false
/-! a def that makes lambdas: its table of code objects grows. -/
namespace DL
open PySem PySem.Spec PyProof.Rows L2 LamX
theorem ContOk.kind {B H : Hp} {a p : Addr} {c : Cont} (q : ContOk B H a c) (f : Foot H a c p) : ∃ o, H p = some o ∧ (∀ x, o ≠ CodeO p x) ∧ ∀ ps, o ≠ .tbl ps := by
  have n1 : ∀ {xs : List V} {x : Str}, HO.lst xs ≠ CodeO p x := fun z => by unfold CodeO at z; cases z
  have n2 : ∀ {xs : List (Key × V)} {x : Str}, HO.dK xs ≠ CodeO p x := fun z => by unfold CodeO at z; cases z
  have n3 : ∀ {xs : List (List Key × V)} {x : Str}, HO.dT xs ≠ CodeO p x := fun z => by unfold CodeO at z; cases z
  have n4 : ∀ {xs : List V} {x : Str}, HO.tup xs ≠ CodeO p x := fun z => by unfold CodeO at z; cases z
  cases c with
  | fk _ _ => exact f.elim
  | l ds => cases f; obtain ⟨xs, e, _⟩ := q; exact ⟨_, e, fun _ => n1, fun _ z => nomatch z⟩
  | k kvs => cases f; obtain ⟨xs, e, _⟩ := q; exact ⟨_, e, fun _ => n2, fun _ z => nomatch z⟩
  | t kvs => cases f; obtain ⟨xs, e, _⟩ := q; exact ⟨_, e, fun _ => n3, fun _ z => nomatch z⟩
  | pt ds => exact f.elim
  | kk kvs =>
    obtain ⟨ys, e, r, _⟩ := q
    rcases f with rfl | ⟨ys', e', i, k, f⟩
    · exact ⟨_, e, fun _ => n2, fun _ z => nomatch z⟩
    · rw [e] at e'; cases e'
      obtain ⟨y, _, _, b, zs, eb, _, q, _⟩ := paired_at r f
      cases eb; exact ⟨_, q, fun _ => n2, fun _ z => nomatch z⟩
  | ll dss =>
    obtain ⟨xs, e, r, _⟩ := q
    rcases f with rfl | ⟨xs', e', i, f⟩
    · exact ⟨_, e, fun _ => n1, fun _ z => nomatch z⟩
    · rw [e] at e'; cases e'
      obtain ⟨y, _, b, zs, eb, _, q, _⟩ := paired_at r f
      cases eb; exact ⟨_, q, fun _ => n1, fun _ z => nomatch z⟩
  | tp ps =>
    obtain ⟨xs, e, r, _⟩ := q
    rcases f with rfl | ⟨xs', e', i, y, e1, eo, f⟩
    · exact ⟨_, e, fun _ => n4, fun _ z => nomatch z⟩
    · rw [e] at e'; cases e'
      obtain ⟨y', e2, q⟩ := paired_at r f
      rw [e1] at e2; cases e2
      cases y with
      | d _ => cases eo
      | l _ => obtain ⟨b, zs, eb, _, q, _⟩ := q; cases eb; exact ⟨_, q, fun _ => n1, fun _ z => nomatch z⟩
      | k _ => obtain ⟨b, zs, eb, _, q, _⟩ := q; cases eb; exact ⟨_, q, fun _ => n2, fun _ z => nomatch z⟩
      | p _ => cases eo
section
variable {K : PySem.W.Frag} {F B H : Hp} {vs : List V} {σ : L2.St} {δ : SEnv}
/-- elsewhere all may be otherwise -/
theorem Rep.moved (h : Rep K F B H vs σ δ) {F1 B1 H1 : Hp} (sb : Same B1 H1) (sf : Same F1 H1) (dj : ∀ a o, F1 a = some o → B1 a = none) (nt : ∀ a ps, B1 a ≠ some (.tbl ps)) (s : Same B B1)
    (keep : ∀ p u, H p = some u → ((∀ x, u ≠ CodeO p x) ∧ ∀ ps, u ≠ .tbl ps) → B p = none → F p = none → H1 p = some u ∧ B1 p = none ∧ F1 p = none) : Rep K F1 B1 H1 vs σ δ := by
  have at_ : ∀ {i : Nat} {b : Bool} {c : Cont} {a p : Addr}, δ[i]? = some (some (.o b c)) → σ[i]? = some (some (.ref a)) → Foot H a c p → H1 p = H p ∧ B1 p = none ∧ F1 p = none := by
    intro i b c a p e ea f
    obtain ⟨q1, q2⟩ := h.own_up e ea
    obtain ⟨u, hu, n⟩ := q2.kind f
    obtain ⟨k1, k2, k3⟩ := keep p u hu n (q1 p f).1 (q1 p f).2
    exact ⟨by rw [k1, hu], k2, k3⟩
  have ft : ∀ {i : Nat} {b : Bool} {c : Cont} {a p : Addr}, δ[i]? = some (some (.o b c)) → σ[i]? = some (some (.ref a)) → (Foot H1 a c p ↔ Foot H a c p) := fun e ea => foot_eq fun p f => (at_ e ea f).1
  refine ⟨sb, sf, dj, h.len, fun i s' e => ?_, fun i j a a' p b c b' c' e1 e2 e3 e4 f1 f2 => h.apart i j a a' p b c b' c' e1 e2 e3 e4 ((ft e1 e3).mp f1) ((ft e2 e4).mp f2), h.bor, nt⟩
  obtain ⟨v, e1, q⟩ := h.ok i s' e
  refine ⟨v, e1, ?_⟩
  cases s' with
  | d d => exact DD.mono s q
  | w d => exact q
  | o b c =>
    obtain ⟨a, ea, hBF, qc⟩ := q
    subst ea
    exact ⟨a, rfl, fun p f => (at_ e e1 ((ft e e1).mp f)).2, qc.mono s fun p f => (at_ e e1 f).1⟩
/-- the slots that hold data alone -/
def dOnly (δ : SEnv) : SEnv := δ.map fun s => match s with
  | some (.o _ _) => none
  | s => s
theorem dOnly_get {i : Nat} {s : Sl} (h : (dOnly δ)[i]? = some (some s)) : δ[i]? = some (some s) ∧ ∀ b c, s ≠ .o b c := by
  unfold dOnly at h
  rw [List.getElem?_map] at h
  obtain ⟨x, e1, e2⟩ := Option.map_eq_some_iff.mp h
  match x, e2 with
  | some (.d d), e2 => cases e2; exact ⟨e1, fun _ _ z => nomatch z⟩
  | some (.w d), e2 => cases e2; exact ⟨e1, fun _ _ z => nomatch z⟩
/-- .. as a callee's frame sees it -/
theorem Rep.only (h : Rep K F B H vs σ δ) {F3 : Hp} (hF : ∀ a, F3 a = if B a = none then H a else none) : Rep K F3 B H [] σ (dOnly δ) := by
  refine ⟨h.sb, fun a o e => ?_, fun a o e => ?_, by unfold dOnly; rw [List.length_map]; exact h.len, fun i s e => ?_, fun i j a a' p b c b' c' e1 e2 _ _ _ _ => absurd rfl ((dOnly_get e1).2 _ _), fun i c e => absurd rfl ((dOnly_get e).2 _ _), h.nt⟩
  · rw [hF] at e
    split at e
    · exact e
    · cases e
  · rw [hF] at e
    split at e
    · assumption
    · cases e
  · obtain ⟨e1, n⟩ := dOnly_get e
    obtain ⟨v, e2, q⟩ := h.ok i s e1
    refine ⟨v, e2, ?_⟩
    cases s with
    | d d => exact q
    | w d => exact q
    | o b c => exact absurd rfl (n _ _)
end
/-! ### the table -/
def TabF (P : Addr) (q : Str) (F B : Hp) : Prop := ∃ ps : Array Value, F P = some (.tbl ps) ∧ TriplesOk ps.toList ∧ ∀ (pos : Pos) (cv : Value), codeAmong pos ps.toList = some cv → ∃ c, cv = .ref c ∧ B c = some (CodeO c q)
theorem TabF.up {P : Addr} {q : Str} {F B B' : Hp} (h : TabF P q F B) (s : Same B B') : TabF P q F B' := by
  obtain ⟨ps, h1, h2, h3⟩ := h
  exact ⟨ps, h1, h2, fun pos cv e => by
    obtain ⟨c, e1, e2⟩ := h3 pos cv e
    exact ⟨c, e1, s _ _ e2⟩⟩
structure EndsT (K : PySem.W.Frag) (P : Addr) (q : Str) (B : Hp) (vs : List V) (D : Ends) (d : DEnds) : Prop where
  nx : ∀ F' B' σ' H' δ', TabF P q F' B' → Same B B' → Rep K F' B' H' vs σ' δ' → d.nx δ' → D.nx σ' H'
  rt : ∀ F' B' σ' H' δ' v r, TabF P q F' B' → Same B B' → Rep K F' B' H' vs σ' δ' → RepR K F' B' H' σ' δ' v r → d.rt r δ' → D.rt v H'
  bk : ∀ F' B' σ' H' δ', TabF P q F' B' → Same B B' → Rep K F' B' H' vs σ' δ' → d.bk δ' → D.bk σ' H'
  ct : ∀ F' B' σ' H' δ', TabF P q F' B' → Same B B' → Rep K F' B' H' vs σ' δ' → d.ct δ' → D.ct σ' H'
theorem EndsT.up {K : PySem.W.Frag} {P : Addr} {q : Str} {B B1 : Hp} {vs : List V} {D : Ends} {d : DEnds} (h : EndsT K P q B vs D d) (s : Same B B1) : EndsT K P q B1 vs D d :=
  ⟨fun F' B' σ' H' δ' t s1 => h.nx F' B' σ' H' δ' t (s.trans s1), fun F' B' σ' H' δ' v r t s1 => h.rt F' B' σ' H' δ' v r t (s.trans s1), fun F' B' σ' H' δ' t s1 => h.bk F' B' σ' H' δ' t (s.trans s1), fun F' B' σ' H' δ' t s1 => h.ct F' B' σ' H' δ' t (s.trans s1)⟩
structure SSimT (K : PySem.W.Frag) (P : Addr) (q : Str) (t : TS) (W : WS) : Prop where
  mono : ∀ (d d' : DEnds) (δ : SEnv), d.le d' → W d δ → W d' δ
  run : ∀ (F B H : Hp) (vs : List V) (σ : L2.St) (δ : SEnv) (D : Ends) (d : DEnds), TabF P q F B → (∀ e, ¬ d.ex e) → Rep K F B H vs σ δ → EndsT K P q B vs D d → W d δ → t D σ H
/-- the maker's own code object and its table -/
structure TabOk (S : Sg) (cc P : Addr) (q : Str) (c : Cl) : Prop where
  ok : S.ok c
  code : c.env.code = .ref cc
  qual : q = c.env.qual ++ "<lambda>"
  tab : TabB S.g.base S.g.mg cc P
def DST (S : Sg) (cc P : Addr) (q : Str) (st : Stmt) (W : WS) : Prop := ∃ t, (∀ c, TabOk S cc P q c → PS (S.g.cx c) st t) ∧ SSimT S.g.K P q t W
def DSsT (S : Sg) (cc P : Addr) (q : Str) (st : List Stmt) (W : WS) : Prop := ∃ t, (∀ c, TabOk S cc P q c → PSs (S.g.cx c) st t) ∧ SSimT S.g.K P q t W
section
variable {S : Sg} {cc P : Addr} {q : Str}
theorem SSim.toT {K : PySem.W.Frag} {E : XK} {t : TS} {W : WS} (s : SSim K E t W) : SSimT K P q t W :=
  ⟨s.mono, fun F B H vs σ δ D d hT hx h k w => s.run F B H vs σ δ D d (fun _ _ _ _ _ _ _ _ _ _ _ _ z => (hx _ z).elim) h ⟨fun B' σ' H' δ' s1 h1 w1 => k.nx F B' σ' H' δ' (hT.up s1) s1 h1 w1, fun B' σ' H' δ' v r s1 h1 q1 w1 => k.rt F B' σ' H' δ' v r (hT.up s1) s1 h1 q1 w1, fun B' σ' H' δ' s1 h1 w1 => k.bk F B' σ' H' δ' (hT.up s1) s1 h1 w1, fun B' σ' H' δ' s1 h1 w1 => k.ct F B' σ' H' δ' (hT.up s1) s1 h1 w1⟩ w⟩
theorem DS.toT {st : Stmt} {W : WS} (h : DS S st W) : DST S cc P q st W := by
  obtain ⟨t, p, s⟩ := h
  exact ⟨t, fun c hc => p c hc.ok, s.toT⟩
theorem DSs.toT {st : List Stmt} {W : WS} (h : DSs S st W) : DSsT S cc P q st W := by
  obtain ⟨t, p, s⟩ := h
  exact ⟨t, fun c hc => p c hc.ok, s.toT⟩
theorem dsT_one {st : Stmt} {w : WS} (h : DST S cc P q st w) : DSsT S cc P q [st] w := by
  obtain ⟨t, p, s⟩ := h
  exact ⟨t, fun c hc => pss_one (p c hc), s⟩
theorem dsT_cons {st : Stmt} {rest : List Stmt} {w u : WS} (h : DST S cc P q st w) (hr : DSsT S cc P q rest u) : DSsT S cc P q (st :: rest) (wSeq w u) := by
  obtain ⟨t, p, s1⟩ := h
  obtain ⟨tr, pr, s2⟩ := hr
  refine ⟨_, fun c hc => pss_cons (p c hc) (pr c hc), ⟨fun d d' δ h w' => ?_, fun F B H vs σ δ D d hT hx h k w' => ?_⟩⟩
  · exact s1.mono { d with nx := u d } { d' with nx := u d' } δ ⟨fun δ w => s2.mono d d' δ h w, h.rt, h.bk, h.ct, h.ex⟩ w'
  · exact s1.run F B H vs σ δ { D with nx := tr D } { d with nx := u d } hT hx h ⟨fun F' B' σ' H' δ' t1 s h' w' => s2.run F' B' H' vs σ' δ' D d t1 hx h' (k.up s) w', k.rt, k.bk, k.ct⟩ w'
theorem dsT_for {tg iter : Expr} {body : List Stmt} {wi : WI} {G : WG} {wb : WS} {pos : Pos} {ts : List Nat} (hi : DI S tg iter wi) (hg : DG S tg G ts) (hb : DSsT S cc P q body wb) (hf : ∀ env x, foldedSetIterable iter env x = pure x := by intro _ _; rfl) : DST S cc P q (.For tg iter body [] pos) (wFor wi G wb) := by
  obtain ⟨ti, pi, si⟩ := hi
  obtain ⟨tg', pg, sg⟩ := hg
  obtain ⟨tb, pb, sb⟩ := hb
  refine ⟨tFor ti tg' tb, fun c hc => ps_for hc.ok.po hc.ok.calm (pi c hc.ok) (pg c hc.ok) (pb c hc) (hf _), ⟨fun d d' δ h w => ?_, fun F B H vs σ δ D d hT hx h k w => ?_⟩⟩
  · exact si.mono _ _ _ _ _ h.ex (fun ds δ1 w => wForR_mono sb.mono ds d d' δ1 h w) w
  · refine si.run _ _ _ _ _ _ _ _ _ (fun _ _ _ _ _ _ _ _ _ _ _ _ z => (hx _ z).elim) h w fun B1 H1 J ds δ1 s1 h1 q1 w1 => ?_
    refine ⟨fun i m σ H => m = ds.length - i ∧ i ≤ ds.length ∧ ∃ F' B' δ', TabF P q F' B' ∧ Same B1 B' ∧ Rep S.g.K F' B' H vs σ δ' ∧ wForR G wb (ds.drop i) d δ', ⟨ds.length, by simp, Nat.zero_le _, F, B1, δ1, hT.up s1, Same.refl _, h1, w1⟩, ?_⟩
    rintro i m σ2 H2 ⟨rfl, hi, F2, B2, δ2, hT2, s2, h2, w2⟩
    by_cases hlt : i < ds.length
    · refine .inr ⟨q1.go i H2 (s2.trans h2.sb) hlt, fun σ' H' => ∃ F' B' δ', TabF P q F' B' ∧ Same B1 B' ∧ Rep S.g.K F' B' H' vs σ' δ' ∧ wForR G wb (ds.drop (i + 1)) d δ', fun σ' H' ⟨F', B', δ', t0, t1, t2, t3⟩ => ⟨ds.length - (i + 1), by omega, rfl, hlt, F', B', δ', t0, t1, t2, t3⟩, fun x H' y => ?_⟩
      have ed : ds.drop i = ds[i] :: ds.drop (i + 1) := List.drop_eq_getElem_cons hlt
      rw [ed] at w2
      obtain ⟨δ3, e3, w3⟩ := w2
      have fin : ∀ (B3 H3 : Hp) (x : V), Same B2 B3 → Rep S.g.K F2 B3 H3 vs σ2 δ2 → DD B3 x ds[i] → tg' x σ2 H3 fun σ2' H2' => tb { D with nx := fun σ' H' => ∃ F' B' δ', TabF P q F' B' ∧ Same B1 B' ∧ Rep S.g.K F' B' H' vs σ' δ' ∧ wForR G wb (ds.drop (i + 1)) d δ', ct := fun σ' H' => ∃ F' B' δ', TabF P q F' B' ∧ Same B1 B' ∧ Rep S.g.K F' B' H' vs σ' δ' ∧ wForR G wb (ds.drop (i + 1)) d δ', bk := D.nx } σ2' H2' := by
        intro B3 H3 x s3 h3 q3
        refine sg.run F2 B3 H3 vs σ2 δ2 δ3 x _ _ h3 q3 e3 fun σ3 h4 _ => ?_
        have s4 : Same B B3 := s1.trans (s2.trans s3)
        refine sb.run F2 B3 H3 vs σ3 δ3 _ { nx := wForR G wb (ds.drop (i + 1)) d, rt := d.rt, bk := d.nx, ct := wForR G wb (ds.drop (i + 1)) d, ex := d.ex } (hT2.up s3) hx h4 ⟨fun F' B' σ' H' δ' t0 t1 t2 t3 => ⟨F', B', δ', t0, (s2.trans s3).trans t1, t2, t3⟩, (k.up s4).rt, (k.up s4).nx, fun F' B' σ' H' δ' t0 t1 t2 t3 => ⟨F', B', δ', t0, (s2.trans s3).trans t1, t2, t3⟩⟩ w3
      obtain ⟨B3', s3', g3', q3'⟩ := q1.yld i H2 B2 x H' ds[i] s2 h2.sb y (by simp [hlt])
      exact fin B3' H' x s3' (g3' _ _ _ _ _ h2) q3'
    · have e : i = ds.length := by omega
      subst e
      rw [List.drop_length] at w2
      exact .inl ⟨q1.stop _ H2 (s2.trans h2.sb) (Nat.le_refl _), k.nx F2 B2 σ2 H2 δ2 hT2 (s1.trans s2) h2 w2⟩
theorem dsT_if {c : Expr} {a b : List Stmt} {wt : WT} {w u : WS} {pos : Pos} (hc : DT S c wt) (ha : DSsT S cc P q a w) (hb : DSsT S cc P q b u) : DST S cc P q (.If c a b pos) (wIfS wt w u) := by
  obtain ⟨tt, pt, st⟩ := hc
  obtain ⟨ta, pa, sa⟩ := ha
  obtain ⟨tb, pb, sb⟩ := hb
  refine ⟨_, fun c hc => ps_if (pt c hc.ok) (pa c hc) (pb c hc), ⟨fun d d' δ h w => ?_, fun F B H vs σ δ D d hT hx h k w => ?_⟩⟩
  · refine st.mono _ _ _ _ _ h.ex (fun bb δ1 w => ?_) w
    cases bb with
    | true => exact sa.mono _ _ _ h w
    | false => exact sb.mono _ _ _ h w
  · refine st.run _ _ _ _ _ _ _ _ _ (fun _ _ _ _ _ _ _ _ _ _ _ _ z => (hx _ z).elim) h w fun B1 H1 bb δ1 s1 h1 w1 => ?_
    cases bb with
    | true => exact sa.run _ _ _ _ _ _ _ _ (hT.up s1) hx h1 (k.up s1) w1
    | false => exact sb.run _ _ _ _ _ _ _ _ (hT.up s1) hx h1 (k.up s1) w1
end
end DL
set_option Elab.async false
set_option linter.all false
set_option maxRecDepth 100000
set_option maxHeartbeats 1000000
set_option autoImplicit false
/-! x = said(lambda: ..) -/
namespace DL
open PySem PySem.Spec PyProof.Rows L2 LamX
/-- the def that asks, as it stands at the top -/
structure SaidF (K : PySem.W.Frag) (x a fo e st f1 f2 : Str) (p : Nat → Pos) (stS : Stmt) (gS : Addr) (fdS : FuncData) : Prop where
  F : Fun K x x stS gS fdS
  bd : Binds K fdS [a] []
  Sc : FnScope [a, fo, e, st] [a] (defScope stS)
  hB : defBody stS = saidB a fo e st f1 f2 p
  la : (defScope stS).names.lookup a = some .local
  lf : (defScope stS).names.lookup fo = some .local
  le : (defScope stS).names.lookup e = some .local
  ls : (defScope stS).names.lookup st = some .local
  gl : ∀ x ∈ (["DrawerError", "isinstance", "RunError", "TextError", "NoOrder", "NoPaper", "PaperError"] : List Str), (defScope stS).names.lookup x = some .globalImplicit
  d1 : (a == ("__debug__" : Str)) = false
  d2 : (fo == ("__debug__" : Str)) = false
  d3 : (e == ("__debug__" : Str)) = false
  d4 : (st == ("__debug__" : Str)) = false
  c1 : (a == ("__classdict__" : Str)) = false
  c2 : (fo == ("__classdict__" : Str)) = false
  c3 : (e == ("__classdict__" : Str)) = false
  c4 : (st == ("__classdict__" : Str)) = false
section
variable {X : Cx} {x a fo e st f1 f2 : Str} {p : Nat → Pos} {stS : Stmt} {gS cc P CD CR CT CO CN CP : Addr} {fdS : FuncData} {params : Arguments} {body : Expr} {scope : Scope} {lpos pp pos : Pos} {k : Nat} {tb : XK → TE}
theorem pe_said (hg : Gl X x) (hm : X.mg x = some (.ref gS)) (SF : SaidF X.K x a fo e st f1 f2 p stS gS fdS) (SC : SaidC X.K X.mg CD CR CT CO CN CP f1 f2) (TB : TabB X.base X.mg cc P) (hcode : X.env.code = .ref cc) (hgd : X.A.guards = some []) (hr : Room (k + 2) X.A)
    (L : LamS X.env.scope scope) (hdef : defaultsOf params X.env = ([], [])) (hbind : ∀ (q : Str) (cl : List (Str × Addr)) (pm cv ctv : Value), bindArgs (PySem.W.kla_fn "<lambda>" q params body scope cl pm cv ctv) ⟨[], []⟩ = pure [])
    (hbody : ∀ (A : Around) (outer : List Env) (s1 : Shared) (HZ : Hp) (E : XK) (f c' : Addr), A.guards = some [] → Room k (A.deeper (lamEnv X scope s1.heap.objs.size f c')) → PE (lamCx X A outer s1 HZ E scope f c') body (tb E)) (hdb : (x == ("__debug__" : Str)) = false := by decide) :
    PE X (.Call (.Name x pp) [.Lambda params body scope lpos] [] pos) (fun σ H Q => Tabs [(P, X.env.qual ++ "<lambda>")] H ∧ ∀ H1, ExtN H H1 → Tabs [(P, X.env.qual ++ "<lambda>")] H1 → TTsaid CR CT CO CN f1 f2 (TL tb σ) H1 Q) := by
  refine ⟨fun pins s σ H Q I ⟨hT, h⟩ => ?_⟩
  refine wpAny_Call_Name_kw (ld_glob I hg hm ?_ hdb)
  refine PySem.W.callWith_K (h₀ := X.base) I.ok.mod.kin SF.F.kp ?_ (by rfl) (by rfl)
  show wpAny _ _ (spliced ((false, eval (.Lambda params body scope lpos) X.env) :: backTo pos (starEach [] X.env))) _ _ s
  refine Calls.spliced_cons (lam_make2 I TB hcode (List.mem_singleton.mpr rfl) (fun z hz _ => by rw [List.mem_singleton.mp hz]) hT hdef (L.has I.ok) fun f c' pm' ctv H1 s' I1 eN T1 hf hfn hfr hco => ?_)
  refine Calls.spliced_nil ⟨I1.kIn, ?_⟩
  obtain ⟨oc, od, kV, doc, pm, an, cdv, ct, osl, efd, lk, hcd⟩ := SF.F.ex
  have bd := SF.bd
  rw [efd] at lk bd
  have rc : codeAny (model X.prog X.w) X.A (.call (.ref gS) ⟨[.ref f], []⟩) (L2.CR CX0 X.stack X.prog X.w H1 s' Q E0) s' := by
    refine run_ofS (N := [a, fo, e, st]) (ps := [a]) (us := [.ref f]) (vs := [.ref f]) lk hcd SF.Sc hr I1.env0 (bd s' [.ref f] I1.kIn rfl) (.cons rfl .nil) rfl fun hr' => ?_
    let Z := (cxOf CX0 X.prog X.w X.K X.mg X.base [a, fo, e, st] x (defScope stS) gS cdv X.A X.stack s' H1 E0).nox
    have hL : LamG X H1 s' f c' k (TL tb σ) := lamG_mk I1 L hf hfn hfr (hbind _ _ _ _ _) fun A outer s1 HZ E hg hr => hbody A outer s1 HZ E f c' hg hr
    obtain ⟨t, pt, ht⟩ := said_body (Z := Z) (c' := c') (f := f) (q := X.env.qual ++ "<lambda>") (tl := TL tb σ) (p := p) rfl SF.Sc.nd rfl rfl (fun _ => rfl) SF.la SF.lf SF.le SF.ls SF.Sc.kind SF.gl SC SF.d1 SF.d2 SF.d3 SF.d4 SF.c1 SF.c2 SF.c3 SF.c4
      fun W pn xe tk => pe_ask (X := X) (Z := Z.tr pn xe) (i := 0) hL ⟨rfl, rfl, rfl, rfl, rfl⟩ (fun J => J.base) ⟨scope, params, body, pm', ctv, hf⟩ hfn hfr hgd hr' tk rfl (.inl SF.la) SF.d1 SF.c1
    rw [SF.hB]
    exact ⟨t, pt.nox, ht _ _ hco (fun _ _ _ _ _ h1 h2 h3 => h3.mono h1 h2) (h H1 eN T1)⟩
  refine wpAny_call (codeAny_mono rc fun r s2 hq => ?_)
  cases r with
  | error e => exact (show False from hq).elim
  | ok fl =>
    cases fl with
    | ret u => exact I1.after hq
    | next => exact False.elim hq
    | brk => exact False.elim hq
    | cont => exact False.elim hq
end
/-! ### over slots -/
def wSaid (CN : Addr) (f1 f2 : Str) (wb : WE) : WE := fun _ δ P => wb (fun exc => ∃ d1 d2, exc = ⟨.ref CN, [(f2, d2), (f1, d1)]⟩ ∧ P (.d (.tuple [.str "no", d1, d2])) δ) (dOnly δ) fun r δ1 => ob (frz δ1 r) fun p => P (.d (.tuple [.str "told", p.1])) δ
section
variable {K : PySem.W.Frag} {P CR CT CO CN : Addr} {q f1 f2 : Str} {F B H : Hp} {vs : List V} {σ : L2.St} {δ : SEnv} {tb : XK → TE} {wb : WE} {Ex : XP} {Pd : R → SEnv → Prop} {Qv : VK}
theorem dd_tup3 {B : Hp} {p : Addr} {o : Obj} {s : Str} {v1 v2 : V} {d1 d2 : PyData} (hp : B p = none) (ec : o.cls = .type "tuple") (ed : o.dict = none) (h1 : DD B v1 d1) (h2 : DD B v2 d2) : DD (upd B p (.frz o (.tup [.str s, v1, v2]))) (.ref p) (.tuple [.str s, d1, d2]) :=
  DD.tup ⟨o, upd_same, ec, ed⟩ (.cons (.str s) (.cons (h1.mono (same_new hp _)) (.cons (h2.mono (same_new hp _)) .nil)))
theorem dd_tup2 {B : Hp} {p : Addr} {o : Obj} {s : Str} {v1 : V} {d1 : PyData} (hp : B p = none) (ec : o.cls = .type "tuple") (ed : o.dict = none) (h1 : DD B v1 d1) : DD (upd B p (.frz o (.tup [.str s, v1]))) (.ref p) (.tuple [.str s, d1]) :=
  DD.tup ⟨o, upd_same, ec, ed⟩ (.cons (.str s) (.cons (h1.mono (same_new hp _)) .nil))
open Classical in
theorem said_run (hne : (f1 == f2) = false) (sim : ∀ E, ESim K E (tb E) wb) (hT : TabF P q F B) (h : Rep K F B H vs σ δ) (w : wSaid CN f1 f2 wb Ex δ Pd) (k : ∀ F' B' H' v d, TabF P q F' B' → Same B B' → Rep K F' B' H' vs σ δ → DD B' v d → Pd (.d d) δ → Qv v H') :
    Tabs [(P, q)] H ∧ ∀ H1, ExtN H H1 → Tabs [(P, q)] H1 → TTsaid CR CT CO CN f1 f2 (TL tb σ) H1 Qv := by
  obtain ⟨ps, hP, ok, cod⟩ := hT
  have hPH := h.sf _ _ hP
  refine ⟨fun z hz => ?_, fun H1 eN T1 p0 hp0 => ?_⟩
  · rw [List.mem_singleton.mp hz]
    exact ⟨ps, hPH, ok, fun pos cv e => by
      obtain ⟨c, e1, e2⟩ := cod pos cv e
      exact ⟨c, e1, h.sb _ _ e2⟩⟩
  obtain ⟨ps1, hP1, ok1, cod1⟩ := T1 _ (List.mem_singleton.mpr rfl)
  have hP1 : H1 P = some (.tbl ps1) := hP1
  have nc : ∀ {b : Addr} {x : Str} {ps : Array Value}, some (CodeO b x) ≠ some (HO.tbl ps) := fun z => by unfold CodeO at z; cases z
  -- the codes are data from now on
  obtain ⟨B1, eB1⟩ : ∃ B1 : Hp, ∀ b, B1 b = if B b = none ∧ H1 b = some (CodeO b q) then H1 b else B b := ⟨_, fun _ => rfl⟩
  obtain ⟨F1, eF1⟩ : ∃ F1 : Hp, ∀ b, F1 b = if b = P then some (.tbl ps1) else none := ⟨_, fun _ => rfl⟩
  have old : ∀ b o, B b = some o → B1 b = some o := fun b o e => by rw [eB1, if_neg (by rw [e]; rintro ⟨z, _⟩; cases z)]; exact e
  have sB1 : Same B1 H1 := fun b o e => by
    rw [eB1] at e
    split at e
    · exact e
    · exact eN b o (h.sb b o e) fun ps' z => h.nt b ps' (by rw [e, z])
  have inF : ∀ a o, F1 a = some o → a = P ∧ o = .tbl ps1 := fun a o e => by
    rw [eF1] at e
    split at e
    · cases e; exact ⟨by assumption, rfl⟩
    · cases e
  have hPB1 : B1 P = none := by
    rw [eB1, if_neg (by rw [hP1]; exact fun z => nc z.2.symm)]
    exact h.dj _ _ hP
  have nt1 : ∀ (a : Addr) (ps : Array Value), B1 a ≠ some (.tbl ps) := fun a ps' e => by
    rw [eB1] at e
    split at e
    · rename_i z; rw [z.2] at e; exact nc e
    · exact h.nt _ _ e
  have hT1 : TabF P q F1 B1 := ⟨ps1, by rw [eF1, if_pos rfl], ok1, fun pos cv e => by
    obtain ⟨c, e1, e2⟩ := cod1 pos cv e
    refine ⟨c, e1, ?_⟩
    rw [eB1]
    split
    · exact e2
    · rename_i z
      cases hb : B c with
      | none => exact absurd ⟨hb, e2⟩ z
      | some o =>
        have := eN c o (h.sb c o hb) fun ps' z => h.nt c ps' (by rw [hb, z])
        rw [← this]; exact e2⟩
  have R1 : Rep K F1 B1 H1 vs σ δ := h.moved sB1 (fun a o e => by obtain ⟨rfl, rfl⟩ := inF a o e; exact hP1) (fun a o e => by obtain ⟨rfl, rfl⟩ := inF a o e; exact hPB1) nt1 old fun p u hu n hb hf => by
    have hu1 := eN p u hu fun ps' z => n.2 ps' z
    refine ⟨hu1, ?_, ?_⟩
    · rw [eB1, if_neg (by rintro ⟨_, z⟩; rw [hu1] at z; exact n.1 q (Option.some.inj z))]
      exact hb
    · rw [eF1, if_neg (by rintro rfl; rw [hPH] at hu; exact n.2 _ (Option.some.inj hu).symm)]
  have R2 := R1.new hp0 (.tup [.str "other", .non])
  have s02 : Same B (upd B1 p0 (.tup [.str "other", .non])) := (show Same B B1 from old).trans (same_new (nof R1.sb hp0) _)
  have hT2 := hT1.up (same_new (nof R1.sb hp0) (.tup [.str "other", .non]))
  generalize upd B1 p0 (.tup [.str "other", .non]) = B2 at R2 s02 hT2
  generalize upd H1 p0 (.tup [.str "other", .non]) = H2 at R2 ⊢
  obtain ⟨F3, eF3⟩ : ∃ F3 : Hp, ∀ a, F3 a = if B2 a = none then H2 a else none := ⟨_, fun _ => rfl⟩
  have R3 := R2.only eF3
  -- from behind the lambda
  have back : ∀ {B' H' : Hp}, Same B2 B' → Same B' H' → Same F3 H' → (∀ a o, F3 a = some o → B' a = none) → (∀ (a : Addr) (ps : Array Value), B' a ≠ some (.tbl ps)) → Rep K F1 B' H' vs σ δ := by
    intro B' H' s1 s2 s3 s4 n
    have toF : ∀ a o, F1 a = some o → F3 a = some o := fun a o e => by rw [eF3, if_pos (R2.dj a o e)]; exact R2.sf a o e
    refine R2.moved s2 (fun a o e => s3 a o (toF a o e)) (fun a o e => s4 a o (toF a o e)) n s1 fun p u hu _ hb hf => ?_
    have e3 : F3 p = some u := by rw [eF3, if_pos hb]; exact hu
    exact ⟨s3 _ _ e3, s4 _ _ e3, hf⟩
  refine ⟨_, _, (sim _).run _ F3 B2 H2 [] σ (dOnly δ) _ _ ?_ R3 w ?_, fun _ _ _ z => z, fun _ _ z => z⟩
  · rintro cls da B' H' fs fds ⟨s1, n⟩ s2 s3 s4 hda hfl ⟨d1, d2, e, hp⟩
    cases e
    have R4 := back s1 s2 s3 s4 n
    match fs, hfl with
    | [(g2, v2), (g1, v1)], .cons ⟨e2, a2⟩ (.cons ⟨e1, a1⟩ .nil) =>
      cases e1; cases e2
      refine ⟨rfl, da, _, v1, v2, rfl, s2 _ _ hda, ?_, by simp [List.lookup], fun r0 p o hr hp' ec ed => ?_⟩
      · show (match f1 == f2 with | true => some v2 | false => List.lookup f1 [(f1, v1)]) = _
        rw [hne]
        simp [List.lookup]
      · have R5 := R4.new hr (.tup [.ref CR, .ref CT, .ref CO])
        have R6 := R5.new hp' (.frz o (.tup [.str "no", v1, v2]))
        have n5 := same_new (nof R4.sb hr) (.tup [.ref CR, .ref CT, .ref CO])
        have n6 := same_new (nof R5.sb hp') (.frz o (.tup [.str "no", v1, v2]))
        exact k _ _ _ _ _ (((hT2.up s1).up n5).up n6) (((s02.trans s1).trans n5).trans n6) R6 (dd_tup3 (nof R5.sb hp') ec ed (a1.mono n5) (a2.mono n5)) hp
  · intro B' H' v r δ' s1 R4 q4 w4
    obtain ⟨⟨d, δ2⟩, e5, w4⟩ := w4
    obtain ⟨B5, s5, R5, d5⟩ := frz_ok R4 q4 e5
    have R6 := back (s1.trans s5) R5.sb R5.sf R5.dj R5.nt
    intro p o hp ec ed
    have n6 := same_new (nof R6.sb hp) (.frz o (.tup [.str "told", v]))
    exact k _ _ _ _ _ ((hT2.up (s1.trans s5)).up n6) ((s02.trans (s1.trans s5)).trans n6) (R6.new hp _) (dd_tup2 (nof R6.sb hp) ec ed d5) w4
end
end DL
set_option Elab.async false
set_option linter.all false
set_option maxRecDepth 100000
set_option maxHeartbeats 1000000
set_option autoImplicit false
/-! a law that makes lambdas. -/
namespace DL
open PySem PySem.Spec PyProof.Rows L2 LamX
section
variable {S : Sg} {cc P gS CD CR CT CO CN CP : Addr} {q x y a fo e st f1 f2 : Str} {p : Nat → Pos} {stS : Stmt} {fdS : FuncData} {params : Arguments} {body : Expr} {scope : Scope} {lpos pp pos pos' pos0 : Pos} {kl i : Nat} {wb : WE}
theorem dsT_setSaid (hi : S.N[i]? = some y) (hy : Loc S.sc y) (hk : kl + 2 ≤ S.k) (hg : GlS S.sc x) (hm : S.g.mg x = some (.ref gS)) (SF : SaidF S.g.K x a fo e st f1 f2 p stS gS fdS) (SC : SaidC S.g.K S.g.mg CD CR CT CO CN CP f1 f2) (hne : (f1 == f2) = false)
    (L : lamSB S.sc scope = true) (hdef : ∀ env, defaultsOf params env = ([], [])) (hbind : ∀ (q : Str) (cl : List (Str × Addr)) (pm cv ctv : Value), bindArgs (PySem.W.kla_fn "<lambda>" q params body scope cl pm cv ctv) ⟨[], []⟩ = pure [])
    (hb : ∀ E, DE ⟨S.g, S.g.ex, S.N, scope, kl, E, false, false⟩ body wb) (hs : ∀ env, swapsWith (.Call (.Name x pp) [.Lambda params body scope lpos] [] pos) (some (.Name y pos')) pos0.line env = pure false := by intro _; rfl)
    (ht : S.top = true ∨ S.sc.names.lookup y = some .local := by exact .inl rfl) (hdb : (x == ("__debug__" : Str)) = false := by decide) :
    DST S cc P q (.Assign [.Name y pos'] (.Call (.Name x pp) [.Lambda params body scope lpos] [] pos) pos0) (wSet i (wSaid CN f1 f2 wb)) := by
  have ch : ∃ tb : XK → TE, ∀ E, (∀ c, (⟨S.g, S.g.ex, S.N, scope, kl, E, false, false⟩ : Sg).ok c → PE (S.g.cx c) body (tb E)) ∧ ESim S.g.K E (tb E) wb := ⟨fun E => (hb E).choose, fun E => (hb E).choose_spec⟩
  obtain ⟨tb, hpe⟩ := ch
  refine ⟨tAsg (fun σ H Q => Tabs [(P, q)] H ∧ ∀ H1, ExtN H H1 → Tabs [(P, q)] H1 → TTsaid CR CT CO CN f1 f2 (TL tb σ) H1 Q) (gName i), fun c hc => ?_, ⟨fun d d' δ h w => ?_, fun F B H vs σ δ D d hT hx h k w => ?_⟩⟩
  · have Lc : LamS c.env.scope scope := by rw [hc.ok.hs]; exact lamS_by L
    have pe := pe_said (X := S.g.cx c) (cc := cc) (P := P) (lpos := lpos) (pp := pp) (pos := pos) (k := kl) (tb := tb) (gl_of hc.ok hg) hm SF SC hc.tab hc.code hc.ok.gd (hc.ok.room.mono hk) Lc (hdef _) hbind (fun A outer s1 HZ E f c' hgd hr => by
      let Y := lamCx (S.g.cx c) A outer s1 HZ E scope f c'
      have tk : Takes Y fun cls d _ H => E cls d H := takes_of rfl rfl rfl rfl
      exact (hpe E).1 ⟨Y.A, Y.N, Y.s_0, Y.H_0, Y.env, Y.outer, Y.stack, Y.ex, Y.fn, Y.calm, Y.pn, Y.xe⟩ ⟨hc.ok.hN, hc.ok.nd, rfl, rfl, hr, passes_call tk fun _ _ _ _ h => h, passes_of (X := Y) rfl, (fun z => nomatch z), hgd, (fun z => nomatch z)⟩) hdb
    have eq : (S.g.cx c).env.qual ++ "<lambda>" = q := hc.qual.symm
    rw [eq] at pe
    exact ps_set (X := S.g.cx c) (i := i) (by show c.N.Nodup; rw [hc.ok.hN]; exact hc.ok.nd) (by show c.N[i]? = _; rw [hc.ok.hN]; exact hi) (by show Loc c.env.scope y; rw [hc.ok.hs]; exact hy) pe (hs _) (fn_ok hc.ok ht)
  · exact (hpe fun _ _ _ => False).2.mono _ _ _ _ _ (fun exc ⟨d1, d2, e, δ2, e2, w⟩ => ⟨d1, d2, e, δ2, e2, h.nx _ w⟩) (fun r δ1 w => w.imp fun p ⟨δ2, e2, w⟩ => ⟨δ2, e2, h.nx _ w⟩) w
  · exact said_run (Ex := d.ex) (Pd := fun r δ1 => ob (asgn δ1 i r) fun δ2 => d.nx δ2) hne (fun E => (hpe E).2) hT h w fun F' B' H' v d0 hT' s1 R dd w => by
      obtain ⟨δ2, e2, w⟩ := w
      obtain ⟨B2, s2, h2⟩ := asgn_ok (v := v) (r := .d d0) R dd e2
      exact k.nx F' B2 _ H' δ2 (hT'.up s2) (s1.trans s2) h2 w
end
/-! ### the law's body -/
def wLaw (n : Nat) (w : WS) (s : Sl) : Prop := let fin := fun r δ => ob (retR δ r) fun r' => r' = .d (.bool true)
  w ⟨fun δ => fin (.d .none) δ, fin, fun _ => False, fun _ => False, fun _ => False⟩ (some s :: List.replicate (n - 1) none)
abbrev lamQ (qual : Str) : Str := (qual ++ (".<locals>." : Str)) ++ ("<lambda>" : Str)
theorem law_body {g : Gx} {x qual : Str} {st : Stmt} {f cc P : Addr} {fd : FuncData} {N : List Str} {k : Nat} {w : WS} (Fn : Fun g.K "law" qual st f fd) (Sc : FnScope N [x] (defScope st)) (hcode : fd.code = .ref cc) (TB : TabB g.base g.mg cc P) (hN : 1 ≤ N.length)
    (hb : ∀ E, DSsT ⟨g, CX0, N, defScope st, k, E, true, false⟩ cc P (lamQ qual) (defBody st) w) {A : Around} {outer : List Env} {sh : Shared} {H : Hp} {args : Args} {u : Value} {v : V} {F B : Hp} {s : Sl} (hgd : A.guards = some []) (hr : Room (k + 1) A) (e0 : Env0 g.P g.w g.K g.mg g.base A outer sh H)
    (hbd : BindsTo sh fd args [(x, u)]) (rv : RelV v u) (hT : TabF P (lamQ qual) F B) (h : Rep g.K F B H [v] [some v] [some s]) (hw : wLaw N.length w s) : codeAny (model g.P g.w) A (.call (.ref f) args) (L2.CR CX0 outer g.P g.w H sh (fun v _ => v = .bl true) E0) sh := by
  obtain ⟨oc, od, kV, doc, pm, an, cdv, ct, osl, rfl, lk, hcd⟩ := Fn.ex
  have hcode : cdv = .ref cc := by exact hcode
  have KX : g.K.In sh.heap := e0.mod.kin.keeps fun b o e => (e0.bs b o e).1
  have cell_or : ∀ y ∈ [x].zip [u], (defScope st).names.lookup y.1 = some .local ∨ ((defScope st).names.lookup y.1 = some .cell ∧ ((cellsFrom (sh.heap.objs.size + 1) (defScope st).names []).lookup y.1).isSome = true) := by
    rintro ⟨nm, v⟩ hy
    exact (Sc.par nm (List.of_mem_zip hy).1).imp id fun q => ⟨q, PySem.W.cellsFrom_some _ _ _ (.inl q)⟩
  refine codeAny_call_function hr.depth (KX _ _ lk) rfl Sc.co Sc.gen rfl (PySem.W.codeRec_of KX hcd) (hbd _ _ _ _ ?_)
  refine wpAny_newFunctionEnv_cells Sc.kind cell_or fun env he sh1 inC => ?_
  subst he
  refine ⟨(e0.mod.nolimit.keeps fun b o e => (e0.bs b o e).1).keeps inC.toInCall.keep, codeAny_func ?_⟩
  let X := cxOf CX0 g.P g.w g.K g.mg g.base N qual (defScope st) f cdv A outer sh H E0
  have I : Inv X [] (L2.start N [v]) H sh1 := inv_start (vs := [v]) (us := [u]) Sc hr.hd e0 rfl (.cons rv .nil) inC
  obtain ⟨t, p, sm⟩ := hb E0
  let Y := X.nox
  let c : Cl := ⟨Y.A, Y.N, Y.s_0, Y.H_0, Y.env, Y.outer, Y.stack, Y.ex, Y.fn, Y.calm, Y.pn, Y.xe⟩
  have hc : TabOk ⟨g, CX0, N, defScope st, k, E0, true, false⟩ cc P (lamQ qual) c := ⟨⟨rfl, Sc.nd, rfl, rfl, hr.deeper _, fun _ _ _ _ _ _ _ h => h.elim, PassesOwn.never, fun _ _ => rfl, hgd, fun z => nomatch z⟩, hcode, congrArg (fun z => z ++ ("<lambda>" : Str)) (rfl : qual ++ (".<locals>." : Str) = c.env.qual), TB⟩
  have fin : ∀ {F' B' : Hp} {σ' : L2.St} {H' : Hp} {δ' : SEnv} {v' : V} {r : R}, Rep g.K F' B' H' [v] σ' δ' → RepR g.K F' B' H' σ' δ' v' r → (ob (retR δ' r) fun r' => r' = .d (.bool true)) → v' = .bl true := by
    rintro F' B' σ' H' δ' v' r h3 q3 ⟨r', e1, rfl⟩
    have bt : ∀ {B : Hp} {v : V}, DD B v (.bool true) → v = .bl true := fun q => by cases q; rfl
    cases r with
    | d d => cases e1; exact bt q3
    | w d => cases e1
    | n c => cases e1
    | o i =>
      simp only [retR] at e1
      split at e1
      · rename_i d hd
        cases e1
        obtain ⟨v2, e5, q5⟩ := h3.ok i _ hd
        have q3 : σ'[i]? = some (some v') := q3
        rw [q3] at e5; cases e5
        exact bt q5
      · cases e1
      · cases e1
      · cases e1
  have h0 : Rep g.K F B H [v] (L2.start N [v]) (some s :: List.replicate (N.length - 1) none) := by
    refine h.dim (by unfold L2.start; simp [List.length_replicate]) fun j s' e => ?_
    cases j with
    | zero => exact ⟨e, rfl⟩
    | succ j =>
      rw [List.getElem?_cons_succ, List.getElem?_replicate] at e
      split at e <;> cases e
  have run := sm.run F B H [v] (L2.start N [v]) _ { nx := fun _ H' => V.non = .bl true, rt := fun v' _ => v' = .bl true } _ hT (fun _ z => z) h0
    ⟨fun F' B' σ' H' δ' _ _ h3 w3 => fin (v' := .non) (r := .d .none) h3 DD.non w3, fun F' B' σ' H' δ' v' r _ _ h3 q3 w3 => fin h3 q3 w3, fun _ _ _ _ _ _ _ _ z => (show False from z).elim, fun _ _ _ _ _ _ _ _ z => (show False from z).elim⟩ hw
  refine wpAny_mono (((p c hc : PSs Y (defBody st) t).nox).run [] sh1 _ H _ I run) (fun fl sh' hs => ?_) fun e sh' hs => hs
  have ends : ∀ {σ' : L2.St} {H' : Hp} {v : V} {u : Value}, Inv X [] σ' H' sh' → RelV v u → v = .bl true → CE outer g.P g.w H sh (fun v _ => v = .bl true) u sh' := fun J r q => ⟨_, _, J.os, J.bare, J.base, J.hok, r, q⟩
  cases fl with
  | ret u => obtain ⟨v, σ', H', J, r, q⟩ := hs; exact ends J r q
  | next => obtain ⟨σ', H', J, q⟩ := hs; exact ends (v := .non) (u := Value.none) J rfl q
  | brk => obtain ⟨_, _, _, q⟩ := hs; exact (show False from q).elim
  | cont => obtain ⟨_, _, _, q⟩ := hs; exact (show False from q).elim
/-! ### the law's call -/
section
variable {P : Program} {w : World} {K : PySem.W.Frag} {mg mb : Str → Option Value} {fa a cc T : Addr} {fd : FuncData} {x : Str} {sh : Shared} {vs : List Value} {ns : List Int}
theorem law_runT (KX : K.In sh.heap) (hns : sh.heap.Ns mainGlobals mg) (hb : sh.heap.Ns builtinsNs mb) (hbb : ∀ y : Str, y ≠ "__name__" → mb y = bootBuiltins y) (hlim : sh.heap.NoLimit) (hgn : sh.gens = #[])
    (hbm : ∃ (bm : Addr) (ob : Obj), mg "__builtins__" = some (.ref bm) ∧ bm ≠ builtinsNs ∧ sh.heap.get? bm = some ob ∧ ob.cls = .type "module" ∧ ob.dict = some builtinsNs ∧ ob.data = .plain)
    (hT : sh.heap.get? T = some { cls := .none, data := .fields #[] }) (nT : K.lookup T = none) (C : PySem.W.CodeHd sh.heap cc T)
    (ha : sh.heap.get? a = some { cls := .type "list", data := .seq vs.toArray }) (hi : IntsAre vs ns) (hl : ns.length ≤ sizeLine)
    (hF : ∀ (base : Heap) (H : Hp) (s : Sl) (F B : Hp), K.In base → base.Ns mainGlobals mg → TabB base mg cc T → Env0 P w K mg base callerA [] sh H → (s = .d (.list (ns.map .int)) ∨ s = .w (.list (ns.map .int))) → TabF T (lamQ "law") F B → Rep K F B H [.ref a] [some (.ref a)] [some s] →
      codeAny (model P w) callerA (.call (.ref fa) ⟨[.ref a], []⟩) (L2.CR CX0 [] P w H sh (fun v _ => v = .bl true) E0) sh) :
    codeAny (model P w) callerA (.call (.ref fa) ⟨[.ref a], []⟩) (fun r s' => r = .ok (.ret (.bool true)) ∧ OldK sh.heap s'.heap ∧ s'.os = sh.os ∧ AllBare s'.gens) sh := by
  have rv := vals_ints hi
  have aT : a ≠ T := fun z => by
    rw [z, hT] at ha
    have e := congrArg Obj.data (Option.some.inj ha)
    cases e
  have main : ∀ (H F B : Hp) (s : Sl), HOk P w H sh.heap → (∀ b u, H b = some u → (b = T ∧ u = .tbl #[]) ∨ (b = a ∧ K.lookup a = none ∧ ∃ o xs, u = .frz o (.lst xs))) → H T = some (.tbl #[]) → (s = .d (.list (ns.map .int)) ∨ s = .w (.list (ns.map .int))) → TabF T (lamQ "law") F B → Rep K F B H [.ref a] [some (.ref a)] [some s] →
      codeAny (model P w) callerA (.call (.ref fa) ⟨[.ref a], []⟩) (fun r s' => r = .ok (.ret (.bool true)) ∧ OldK sh.heap s'.heap ∧ s'.os = sh.os ∧ AllBare s'.gens) sh := by
    intro H F B s hok hA hHT hs hTF hR
    have free : ∀ {b : Addr} {o : Obj}, sh.heap.get? b = some o → (∀ xs n, o.data ≠ .seq xs n) → o.data ≠ .fields #[] → H b = none := by
      intro b o e n1 n2
      cases q : H b with
      | none => rfl
      | some u =>
        rcases hA b u q with ⟨rfl, _⟩ | ⟨rfl, _⟩
        · rw [hT] at e; cases e; exact absurd rfl n2
        · rw [ha] at e; cases e; exact absurd rfl (n1 _ _)
    have ns_of : ∀ {b : Addr} {m : Str → Option Value}, sh.heap.Ns b m → (hidT sh.heap H).Ns b m := by
      rintro b m ⟨o, es, ep, e, d, r⟩
      exact ⟨o, es, ep, hidT_get e (free e (fun _ _ z => by rw [d] at z; cases z) (fun z => by rw [d] at z; cases z)), d, r⟩
    have KH : K.In (hidT sh.heap H) := fun b o e => hidT_get (KX b o e) (by
      cases q : H b with
      | none => rfl
      | some u =>
        rcases hA b u q with ⟨rfl, _⟩ | ⟨rfl, z, _⟩
        · rw [nT] at e; cases e
        · rw [z] at e; cases e)
    have hM : Mod K mg (hidT sh.heap H) := by
      obtain ⟨mc, h1, h2⟩ := hlim
      exact ⟨KH, ns_of hns, ⟨mb, ns_of hb, hbb⟩, ⟨mc, ns_of h1, h2⟩⟩
    have TB : TabB (hidT sh.heap H) mg cc T := by
      refine ⟨?_, ?_, fun z => ?_⟩
      · obtain ⟨o, us, file, tf, flags, tg, inF, text, tt, e1, r1, r2, r3, r⟩ := C
        refine ⟨o, us, file, tf, flags, tg, inF, text, tt, hidT_get e1 (free e1 (fun _ _ z => by rw [r2] at z; cases z) (fun z => ?_)), r1, r2, r3, r⟩
        rw [r2] at z; cases z; simp at r3
      · obtain ⟨bm, ob, b1, b2, b3, b4, b5, b6⟩ := hbm
        refine ⟨bm, ob, b1, b2, fun z => ?_, fun z => ?_, hidT_get b3 (free b3 (fun _ _ z => by rw [b6] at z; cases z) (fun z => by rw [b6] at z; cases z)), b4, b5, b6⟩
        · obtain ⟨o, es, ep, e, hd, _⟩ := hns
          rw [z, e] at b3; cases b3
          rw [hd] at b6; cases b6
        · rw [z, hT] at b3; cases b3; cases b6
      · obtain ⟨o, es, ep, e, hd, _⟩ := hns
        rw [z, hT] at e; cases e; cases hd
    have e0 : Env0 P w K mg (hidT sh.heap H) callerA [] sh H := by
      refine ⟨rfl, hM, fun b o e => of_hidT e, Nat.le_of_eq (hidT_size _ _), trivial, fun b z => ?_, hok, .of_eq hgn⟩
      exact absurd (show b ∈ ([] : List Addr) from z) (by simp)
    refine codeAny_mono (hF _ H s F B KH (ns_of hns) TB e0 hs hTF hR) fun r s' h => ?_
    cases r with
    | error e => exact (show False from h).elim
    | ok fl => cases fl with
      | ret u =>
        obtain ⟨v, H', os, bare, un, hok', r', q⟩ := h
        have q : v = .bl true := q
        subst q
        obtain rfl : u = Value.bool true := r'
        obtain ⟨more, z⟩ := un.tbls T #[] hHT
        have hm : s'.heap.get? T = some { cls := .none, data := .fields more } := by
          have := hok' T _ z
          rw [Array.empty_append] at this
          exact this
        have keep : ∀ b o, b ≠ T → sh.heap.get? b = some o → s'.heap.get? b = some o := by
          intro b o n e
          cases q : H b with
          | none => exact un.keep b o e q (fun z => absurd (show b ∈ ([] : List Addr) from z) (by simp)) (by simp)
          | some u =>
            rcases hA b u q with ⟨rfl, _⟩ | ⟨_, _, ob, xs, rfl⟩
            · exact absurd rfl n
            · obtain ⟨e1, _⟩ := hok b _ q
              obtain ⟨e2, _⟩ := hok' b _ (un.frzs b ob _ q)
              rw [e] at e1; cases e1
              exact e2
        refine ⟨rfl, ⟨fun b o e => ?_, fun b o e => ?_⟩, os, bare⟩
        · by_cases n : b = T
          · subst n
            rw [hT] at e; cases e
            exact .inr (.inl ⟨(C.tab hT).isCodeTable, rfl, #[], more, rfl, by rw [Array.empty_append]; exact hm⟩)
          · exact .inl (keep b o n e)
        · by_cases n : b = T
          · subst n; exact ⟨_, hm⟩
          · exact ⟨o, keep b o n e⟩
      | _ => exact (show False from h).elim
  have tf : ∀ B : Hp, TabF T (lamQ "law") (upd (fun _ => none) T (.tbl #[])) B := fun B => ⟨#[], upd_same, trivial, fun pos cv z => by
    have z : codeAmong pos [] = some cv := z
    simp [codeAmong] at z⟩
  have inT : ∀ (b : Addr) (o : HO), upd (fun _ => none) T (.tbl #[]) b = some o → b = T ∧ o = .tbl #[] := fun b o e => by
    by_cases h : b = T
    · subst h; rw [upd_same] at e; cases e; exact ⟨rfl, rfl⟩
    · rw [upd_ne h] at e; cases e
  cases hk : K.lookup a with
  | some o =>
    have e := KX a o hk
    rw [ha] at e
    cases e
    refine main (upd (fun _ => none) T (.tbl #[])) (upd (fun _ => none) T (.tbl #[])) (fun _ => none) (.w (.list (ns.map .int))) (fun b u z => ?_) (fun b u z => .inl (inT b u z)) upd_same (.inr rfl) (tf _)
      ⟨fun _ _ z => (nomatch z), fun _ _ z => z, fun _ _ _ => rfl, rfl, fun i s' e => ?_, fun i j b b3 p c b1 c1 b2 e1 => ?_, fun i c e => ?_, fun _ _ z => (nomatch z)⟩
    · obtain ⟨rfl, rfl⟩ := inT b u z; exact hT
    · match i, e with
      | 0, e => cases e; exact ⟨.ref a, rfl, Dp.lst (.inr ⟨_, vs.toArray, _, hk, rfl, rfl, rfl, by rw [List.size_toArray, hi.length]; exact hl, by simpa using rv⟩) (dps_ints ns)⟩
    · match i, e1 with
      | 0, e1 => cases e1
    · match i, e with
      | 0, e => cases e
  | none =>
    let o : HO := .frz { cls := .type "list", data := .seq vs.toArray } (.lst (ns.map V.int))
    have hB : upd (fun _ => none) a o T = none := by rw [upd_ne (Ne.symm aT)]
    have inA : ∀ (b : Addr) (u : HO), upd (fun _ => none) a o b = some u → b = a ∧ u = o := fun b u e => by
      by_cases h : b = a
      · subst h; rw [upd_same] at e; cases e; exact ⟨rfl, rfl⟩
      · rw [upd_ne h] at e; cases e
    have inH : ∀ (b : Addr) (u : HO), upd (upd (fun _ => none) a o) T (.tbl #[]) b = some u → (b = T ∧ u = .tbl #[]) ∨ (b = a ∧ u = o) := fun b u e => by
      by_cases h : b = T
      · subst h; rw [upd_same] at e; cases e; exact .inl ⟨rfl, rfl⟩
      · rw [upd_ne h] at e; exact .inr (inA b u e)
    refine main (upd (upd (fun _ => none) a o) T (.tbl #[])) (upd (fun _ => none) T (.tbl #[])) (upd (fun _ => none) a o) (.d (.list (ns.map .int))) (fun b u z => ?_) (fun b u z => ?_) upd_same (.inl rfl) (tf _)
      ⟨same_new hB _, fun b u z => ?_, fun b u z => ?_, rfl, fun i s' e => ?_, fun i j b b3 p c b1 c1 b2 e1 => ?_, fun i c e => ?_, fun b ps z => ?_⟩
    · rcases inH b u z with ⟨rfl, rfl⟩ | ⟨rfl, rfl⟩
      · exact hT
      · exact ⟨ha, by rw [List.length_map]; exact hl, vs, _, rv, ha⟩
    · rcases inH b u z with z | ⟨rfl, rfl⟩
      · exact .inl z
      · exact .inr ⟨rfl, hk, _, _, rfl⟩
    · obtain ⟨rfl, rfl⟩ := inT b u z; exact upd_same
    · obtain ⟨rfl, rfl⟩ := inT b u z; exact hB
    · match i, e with
      | 0, e => cases e; exact ⟨.ref a, rfl, DD.lst (.inr ⟨_, upd_same⟩) (DDs.of_ints ns)⟩
    · match i, e1 with
      | 0, e1 => cases e1
    · match i, e with
      | 0, e => cases e
    · obtain ⟨_, z⟩ := inA b _ z
      exact nomatch (show HO.tbl ps = .frz { cls := .type "list", data := .seq vs.toArray } (.lst (ns.map V.int)) from z)
end
/-- the head's end, for a law that makes lambdas: its code object at cc, the table at T -/
theorem law_walkT {l : PySem.W.OpenLaw} {n k : Nat} {q : Program} {loose : List Str} {XP : (Str → Option Value) → Heap → Prop} {YP : World → Heap → Prop} {d : DefRec} {K : Params → PySem.W.Frag} {x : Str} {st : Stmt} {N : List Str} {w : WS} (hn : l.most = some n) (hn2 : n ≤ sizeLine) (hdf : d.params.defaults = []) (hr : Room (k + 1) callerA)
    (hY : ∀ (w : World) (h : Heap), YP w h → (K w.params).In h) (Sc : FnScope N [x] (defScope st)) (hN : 1 ≤ N.length)
    (hF : ∀ (w' : World) (mg : Str → Option Value) (fa : Addr) (h : Heap), (K w'.params).In h → h.Ns mainGlobals mg → mg d.name = some (.ref fa) → ∃ (fd : FuncData) (cc T : Addr), (∀ (s : Shared) (u : Value), BindsTo s fd ⟨[u], []⟩ [(x, u)]) ∧ Fun (K w'.params) "law" "law" st fa fd ∧ fd.code = .ref cc ∧ (K w'.params).lookup T = none ∧
      PySem.W.tabIn (K w'.params) "law" = some (cc, T) ∧ (recsOf q).find? (fun e => e.name == ("law" : Str)) = some d ∧
      ∀ base : Heap, (K w'.params).In base → base.Ns mainGlobals mg → TabB base mg cc T → ∀ E, DSsT ⟨⟨l.prog, w', K w'.params, mg, base⟩, CX0, N, defScope st, k, E, true, false⟩ cc T (lamQ "law") (defBody st) w)
    (hW : ∀ (ns : List Int) (s : Sl), ns.length ≤ n → Scr ns s → wLaw N.length w s) :
    PySem.W.WalkO q loose XP YP l.row.toRowW d [] (fun f vs => PySem.call f vs) := by
  refine Att.attach_call hn hdf fun w' s₀ sh mg mb fa o pm cd doc a vs ns G Y ho hd hcd hmg hobj hints hlen hgn => ?_
  have KX := hY w' _ Y
  obtain ⟨fd, cc, T, hbd, Fn, hcode, nT, ht, hrec, hD⟩ := hF w' mg fa _ KX G.T.g hmg
  obtain ⟨C, hT⟩ := PySem.W.tab_of G.T KX hrec ht
  refine law_runT KX G.T.g G.T.b G.T.builtins G.T.nolimit hgn G.T.bmain hT nT C hobj hints (Nat.le_trans hlen hn2) fun base H s F B KB nsB TB e0 hs hTF hR => ?_
  exact law_body (g := ⟨l.prog, w', K w'.params, mg, base⟩) (qual := "law") Fn Sc hcode TB hN (hD base KB nsB TB) rfl hr e0 (hbd sh (.ref a)) (show RelV (.ref a) (.ref a) from rfl) hTF hR (hW ns s hlen hs)
end DL
set_option Elab.async false
set_option linter.all false
set_option maxRecDepth 100000
set_option maxHeartbeats 1000000
set_option autoImplicit false
/-! sorted of pairs of ints, with its order. -/
namespace DL
open PySem PySem.Spec PyProof.Rows L2
def pLe (d e : PyData) : Prop := ∀ x y x' y' : Int, d = .tuple [.int x, .int y] → e = .tuple [.int x', .int y'] → x < x' ∨ (x = x' ∧ y ≤ y')
def wSortQ (wa : WE) : WE := fun Ex δ P => wa Ex δ fun r δ1 => ob (settle r) fun r' => ob (view δ1 r') fun w => ob (listV w) fun ds => (ds.length < 64 ∧ ds.all pairB = true) ∧ ∀ es : List PyData, es.Perm ds → es.Pairwise pLe → P (.n (.l es)) δ1
theorem code2 {a b x y : Int} (h : TS.code 1099511627776 [a, b] ≤ TS.code 1099511627776 [x, y]) (h1 : 0 ≤ b) (h2 : b < 1099511627776) (h3 : 0 ≤ y) (h4 : y < 1099511627776) : a < x ∨ (a = x ∧ b ≤ y) := by
  simp only [TS.code] at h
  simp at h
  omega
section
variable {S : Sg}
theorem dds_permX {K : PySem.W.Frag} {B H : Hp} (sB : Same B H) {ys xs : List V} {ds : List PyData} (hb : ds.all pairB = true) (p : ys.Perm xs) (q : DDs B xs ds)
    (hs : ys.Pairwise (fun x y => ∀ n m, TupI K H x n → TupI K H y m → TS.code 1099511627776 n ≤ TS.code 1099511627776 m)) : ∃ es, es.Perm ds ∧ es.Pairwise pLe ∧ DDs B ys es := by
  obtain ⟨es, pe, qe⟩ := dds_perm p q
  refine ⟨es, pe, ?_, qe⟩
  rw [List.pairwise_iff_getElem] at hs ⊢
  intro i j hi hj hij x y x' y' e1 e2
  have hl := qe.length
  obtain ⟨v, ev, qv⟩ := qe.get (i := i) (List.getElem?_eq_getElem hi)
  obtain ⟨u, eu, qu⟩ := qe.get (i := j) (List.getElem?_eq_getElem hj)
  have hi' : i < ys.length := by omega
  have hj' : j < ys.length := by omega
  rw [List.getElem?_eq_getElem hi'] at ev
  rw [List.getElem?_eq_getElem hj'] at eu
  have bi := List.all_eq_true.mp hb _ (pe.mem_iff.mp (List.getElem_mem hi))
  have bj := List.all_eq_true.mp hb _ (pe.mem_iff.mp (List.getElem_mem hj))
  rw [e1] at qv bi
  rw [e2] at qu bj
  have tup : ∀ {v : V} {x y : Int}, DD B v (.tuple [.int x, .int y]) → TupI K H v [x, y] := fun {v x y} q => by
    cases q with
    | tup r q =>
      cases DDs.ints (ns := [x, y]) q
      exact ⟨_, rfl, .inl (PlT.mono sB r).rd⟩
  have h := hs i j hi' hj' hij [x, y] [x', y'] (by rw [Option.some.inj ev]; exact tup qv) (by rw [Option.some.inj eu]; exact tup qu)
  simp only [pairB, Bool.and_eq_true, decide_eq_true_eq] at bi bj
  exact code2 h bi.1.2 bi.2 bj.1.2 bj.2
theorem de_sortQ {a : Expr} {wa : WE} {p pos : Pos} (hg : GlS S.sc "sorted") (hm : S.g.mg "sorted" = none) (ha : DE S a wa) (hs : ∀ env, starEach [a] env = (false, eval a env) :: starEach [] env := by intro _; rfl) (hp : ∀ env, (backTo pos (starEach [] env)).any (·.1) = false := by intro _; rfl) :
    DE S (.Call (.Name "sorted" p) [a] [] pos) (wSortQ wa) := by
  obtain ⟨t, pa, s⟩ := ha
  refine ⟨tCB (rSortU S.g.K 2 1099511627776) (tCons t tNil), fun c hc => pe_callB (cr_sortT (by decide)) (gl_of hc hg) hm (by first | rfl | decide +kernel) (pa_cons (pa c hc) pa_nil (hs _)) (by decide) (by decide) (hs _) (hp _), ⟨fun Ex Ex' δ P P' hx h w => ?_, fun Ex F B H vs σ δ P Q hx h w k => ?_⟩⟩
  · exact s.mono _ _ _ _ _ hx (fun r δ1 w => w.imp fun a w => w.imp fun b w => w.imp fun ds w => ⟨w.1, fun es pe pp => h _ _ (w.2 es pe pp)⟩) w
  · refine s.run _ _ _ _ _ _ _ _ _ hx h w fun B1 H1 x r δ1 s1 h1 q1 w1 => ?_
    obtain ⟨r', e1, vw, e2, ds, e3, ⟨hl, hb⟩, w1⟩ := w1
    obtain ⟨B2, s2, h2, q2, n2⟩ := settle_ok h1 q1 e1
    obtain ⟨a, xs, rfl, hr, qx⟩ := lst_of h2.sb (view_ok h2 q2 e2) e3
    refine ⟨a, xs, rfl, .inl hr, by rw [qx.length]; exact hl, fun x hm => ?_, fun ys p hp hsort hn => ?_⟩
    · obtain ⟨i, hi, ei⟩ := List.getElem_of_mem hm
      obtain ⟨d, e4, qd⟩ := qx.getV (i := i) (v := x) (by rw [List.getElem?_eq_getElem hi, ei])
      obtain ⟨u, v, rfl, g⟩ := pairB_of (List.all_eq_true.mp hb d (List.mem_of_getElem? e4))
      cases qd with
      | tup r q =>
        cases DDs.ints (ns := [u, v]) q
        refine ⟨[u, v], ⟨_, rfl, .inl (PlT.mono h2.sb r).rd⟩, rfl, fun z hz => ?_⟩
        simp at hz
        rcases hz with rfl | rfl <;> omega
    · obtain ⟨es, pe, pp, qe⟩ := dds_permX h2.sb hb hp qx hsort
      exact rvk_ok (rv := .lst es) (s1.trans s2) h2 (w1 es pe pp) k p ys hn qe
end
end DL
set_option Elab.async false
set_option linter.all false
set_option maxRecDepth 100000
set_option maxHeartbeats 1000000
set_option autoImplicit false
/-! what the top has left, for a law that makes lambdas and catches refusals. -/
namespace DL
open PySem PySem.Spec PyProof.Rows L2 LamX
/-- the head's end, for a law that makes lambdas: its code object at cc, the table at T -/
theorem law_walkX {l : PySem.W.OpenLaw} {n k : Nat} {q : Program} {loose : List Str} {XP : (Str → Option Value) → Heap → Prop} {YP : World → Heap → Prop} {d : DefRec} {K : Params → PySem.W.Frag} {x : Str} {st : Stmt} {N : List Str} (hn : l.most = some n) (hn2 : n ≤ sizeLine) (hdf : d.params.defaults = []) (hr : Room (k + 1) callerA)
    (hY : ∀ (w : World) (h : Heap), YP w h → (K w.params).In h) (Sc : FnScope N [x] (defScope st)) (hN : 1 ≤ N.length)
    (hF : ∀ (w' : World) (mg : Str → Option Value) (fa : Addr) (h : Heap), (K w'.params).In h → h.Ns mainGlobals mg → mg d.name = some (.ref fa) → ∃ (fd : FuncData) (cc T : Addr) (w : WS), (∀ (ns : List Int) (s : Sl), ns.length ≤ n → Scr ns s → wLaw N.length w s) ∧ (∀ (s : Shared) (u : Value), BindsTo s fd ⟨[u], []⟩ [(x, u)]) ∧ Fun (K w'.params) "law" "law" st fa fd ∧ fd.code = .ref cc ∧ (K w'.params).lookup T = none ∧
      PySem.W.tabIn (K w'.params) "law" = some (cc, T) ∧ (recsOf q).find? (fun e => e.name == ("law" : Str)) = some d ∧
      ∀ base : Heap, (K w'.params).In base → base.Ns mainGlobals mg → TabB base mg cc T → ∀ E, DSsT ⟨⟨l.prog, w', K w'.params, mg, base⟩, CX0, N, defScope st, k, E, true, false⟩ cc T (lamQ "law") (defBody st) w) :
    PySem.W.WalkO q loose XP YP l.row.toRowW d [] (fun f vs => PySem.call f vs) := by
  refine Att.attach_call hn hdf fun w' s₀ sh mg mb fa o pm cd doc a vs ns G Y ho hd hcd hmg hobj hints hlen hgn => ?_
  have KX := hY w' _ Y
  obtain ⟨fd, cc, T, W, hW, hbd, Fn, hcode, nT, ht, hrec, hD⟩ := hF w' mg fa _ KX G.T.g hmg
  obtain ⟨C, hT⟩ := PySem.W.tab_of G.T KX hrec ht
  refine law_runT KX G.T.g G.T.b G.T.builtins G.T.nolimit hgn G.T.bmain hT nT C hobj hints (Nat.le_trans hlen hn2) fun base H s F B KB nsB TB e0 hs hTF hR => ?_
  exact law_body (g := ⟨l.prog, w', K w'.params, mg, base⟩) (qual := "law") Fn Sc hcode TB hN (hD base KB nsB TB) rfl hr e0 (hbd sh (.ref a)) (show RelV (.ref a) (.ref a) from rfl) hTF hR (hW ns s hlen hs)
section
variable {K : PySem.W.Frag}
theorem kitCls_of {t : Value} {C : Addr} {b : Bool} (i : PySem.W.isClsIn K C = true) (t1 : PySem.W.typeIn K (.ref C) = some (.type "type")) (s : PySem.W.subIn K t (.ref C) = some b) : PySem.W.kitCls K t (.ref C) = some b := by
  have i : (PySem.W.clsIn K C).isSome = true := i
  show (if ((PySem.W.clsIn K C).isSome && PySem.W.typeIn K (.ref C) == some (.type "type")) = true then PySem.W.subIn K t (.ref C) else none) = some b
  rw [if_pos (by rw [i, t1]; rfl)]
  exact s
theorem kitOne_t {t : Value} {C : Addr} (i : PySem.W.isClsIn K C = true) (t1 : PySem.W.typeIn K (.ref C) = some (.type "type")) (s : PySem.W.subIn K t (.ref C) = some true) : PySem.W.kitOne K t (.ref C) = some true := by
  unfold PySem.W.kitOne
  split
  · rfl
  · exact kitCls_of i t1 s
theorem kitOne_f {N C : Addr} (sN : PySem.W.subIn K (.ref N) (.ref N) = some true) (i : PySem.W.isClsIn K C = true) (t1 : PySem.W.typeIn K (.ref C) = some (.type "type")) (s : PySem.W.subIn K (.ref N) (.ref C) = some false) : PySem.W.kitOne K (.ref N) (.ref C) = some false := by
  unfold PySem.W.kitOne
  split
  · rename_i h
    have e : Value.ref N = .ref C := eq_of_beq h
    cases e
    rw [sN] at s; cases s
  · exact kitCls_of i t1 s
theorem exmOne_of {t : Value} {C : Addr} (e : PySem.W.subIn K (.ref C) (.type "BaseException") = some true) (i : PySem.W.isClsIn K C = true) (t1 : PySem.W.typeIn K (.ref C) = some (.type "type")) (s : PySem.W.subIn K t (.ref C) = some true) : PySem.W.exmOne K t (.ref C) = some true := by
  unfold PySem.W.exmOne
  rw [if_pos (by rw [e]; rfl)]
  exact kitCls_of i t1 s
theorem saidC_mk {h : Heap} {mg : Str → Option Value} (X : K.In h) (G : h.Ns mainGlobals mg) {CD CR CT CO CN CP : Addr} {f1 f2 : Str}
    (aD : PySem.W.nsIn K mainGlobals "DrawerError" = some (some (.ref CD))) (iD : PySem.W.isClsIn K CD = true) (tD : PySem.W.typeIn K (.ref CD) = some (.type "type")) (sD : PySem.W.subIn K (.ref CN) (.ref CD) = some true) (bD : PySem.W.subIn K (.ref CD) (.type "BaseException") = some true)
    (aR : PySem.W.nsIn K mainGlobals "RunError" = some (some (.ref CR))) (iR : PySem.W.isClsIn K CR = true) (tR : PySem.W.typeIn K (.ref CR) = some (.type "type")) (sR : PySem.W.subIn K (.ref CN) (.ref CR) = some false)
    (aT : PySem.W.nsIn K mainGlobals "TextError" = some (some (.ref CT))) (iT : PySem.W.isClsIn K CT = true) (tT : PySem.W.typeIn K (.ref CT) = some (.type "type")) (sT : PySem.W.subIn K (.ref CN) (.ref CT) = some false)
    (aO : PySem.W.nsIn K mainGlobals "NoOrder" = some (some (.ref CO))) (iO : PySem.W.isClsIn K CO = true) (tO : PySem.W.typeIn K (.ref CO) = some (.type "type")) (sO : PySem.W.subIn K (.ref CN) (.ref CO) = some false)
    (aP : PySem.W.nsIn K mainGlobals "PaperError" = some (some (.ref CP))) (iP : PySem.W.isClsIn K CP = true) (tP : PySem.W.typeIn K (.ref CP) = some (.type "type")) (sP : PySem.W.subIn K (.ref CN) (.ref CP) = some true)
    (aN : PySem.W.nsIn K mainGlobals "NoPaper" = some (some (.ref CN))) (iN : PySem.W.isClsIn K CN = true) (tN : PySem.W.typeIn K (.ref CN) = some (.type "type")) (sN : PySem.W.subIn K (.ref CN) (.ref CN) = some true)
    (zI : PySem.W.nsIn K mainGlobals "isinstance" = some none)
    (ga : PySem.W.findIn K (.ref CN) "__getattribute__" = some (some (.builtin "BaseException.__getattribute__"))) (gg : PySem.W.findIn K (.ref CN) "__getattr__" = some none) (eN : PySem.W.subIn K (.ref CN) (.type "BaseException") = some true) (hN : PySem.W.hasDictIn K CN = true)
    (cN : PySem.W.findIn K (.ref CN) "__class__" = some (some (.builtin "object.__class__"))) (pN : PySem.W.specialIn K (.builtin "object.__class__") "__get__" = some (some (.builtin "getset_descriptor.__get__"))) (kN : PySem.W.takesIn K (.builtin "object.__class__") = some true) (mN : PySem.W.mroIn K CN (.type "object") = some true)
    (n1 : PySem.W.findIn K (.ref CN) f1 = some none) (n2 : PySem.W.findIn K (.ref CN) f2 = some none) : SaidC K mg CD CR CT CO CN CP f1 f2 :=
  ⟨PySem.W.mg_of X G aD, PySem.W.mg_of X G aR, PySem.W.mg_of X G aT, PySem.W.mg_of X G aO, PySem.W.mg_of X G aN, PySem.W.mg_of X G aP, PySem.W.mg_none_of X G zI, exmOne_of bD iD tD sD,
    by simp only [PySem.W.kitAny, kitOne_f sN iR tR sR, kitOne_f sN iT tT sT, kitOne_f sN iO tO sO], kitOne_t iN tN sN, kitOne_t iP tP sP, ⟨⟨ga, gg, eN, hN⟩, iN, cN, pN, kN, mN⟩, n1, n2⟩
theorem rfC_mk {P : Program} {w : World} {mg : Str → Option Value} {base : Heap} {C fI : Addr} {f1 f2 p1 p2 : Str} {qual : Str} {st : Stmt} {fd : FuncData} {q1 q2 q3 q4 q5 q6 q7 q8 : Pos}
    (ox : OexC K C) (n1 : PySem.W.findIn K (.ref C) f1 = some none) (n2 : PySem.W.findIn K (.ref C) f2 = some none)
    (aI : PySem.W.findIn K (.ref C) "__init__" = some (some (.ref fI))) (tI : PySem.W.typeIn K (.ref fI) = some (.type "function")) (F : Fun K "__init__" qual st fI fd) (S : FnScope ["self", p1, p2] ["self", p1, p2] (defScope st))
    (hb : defBody st = [.Assign [.Attribute (.Name "self" q1) f1 q2] (.Name p1 q3) q4, .Assign [.Attribute (.Name "self" q5) f2 q6] (.Name p2 q7) q8]) (bd : Binds K fd ["self", p1, p2] [])
    (d1 : (p1 == ("__debug__" : Str)) = false) (d2 : (p2 == ("__debug__" : Str)) = false) (c1 : (p1 == ("__classdict__" : Str)) = false) (c2 : (p2 == ("__classdict__" : Str)) = false) : RfC ⟨P, w, K, mg, base⟩ C f1 f2 :=
  ⟨ox, n1, n2, fI, fd, ["self", p1, p2], aI, tI, bd, ini2_ok (g := ⟨P, w, K, mg, base⟩) F S hb (by decide) d1 d2 (by decide) c1 c2⟩
theorem tab_mk {x : Str} {f cc T : Addr} {oc v1 : Value} {od v2 : Option Addr} {fd : FuncData} {sl v4 : Array (Option Value)} {vs : Array Value} (a : PySem.W.nsIn K mainGlobals x = some (some (.ref f))) (l : K.lookup f = some ⟨oc, od, .func fd, sl⟩) (e : fd.code = .ref cc)
    (lc : K.lookup cc = some ⟨v1, v2, .fields vs, v4⟩) (v : vs[11]? = some (.ref T)) : PySem.W.tabIn K x = some (cc, T) := by
  unfold PySem.W.tabIn
  simp only [a, l, e, lc, v]
end
end DL
set_option Elab.async false
set_option linter.all false
set_option maxRecDepth 100000
set_option maxHeartbeats 1000000
set_option autoImplicit false
/-! zip over lists and tuples, its pair told whole; however the pair before was let go. -/
namespace DL
open PySem PySem.Spec PyProof.Rows L2
open Builtin.SmallTypes (nextOf)
/-- true: a tuple -/
def ItK : Bool → Heap → Addr → Addr → Nat → Prop
  | true, h, it, a, i => h.IsTupleIter it a i
  | false, h, it, a, i => h.IsListIter it a i
def IsK : Bool → Heap → Addr → Array Value → Prop
  | true, h, a, items => h.IsTuple a items
  | false, h, a, items => h.IsList a items
def SqK : Bool → PySem.W.Frag → Hp → Addr → List V → Prop
  | true, K, H, a, xs => SqT K H a xs
  | false, K, H, a, xs => SqL K H a xs
def itO (t : Bool) (a : Addr) : Obj := { cls := .type (if t then "tuple_iterator" else "list_iterator"), data := .fields #[.ref a, .int 0 0] }
theorem IsK.at_ {t : Bool} {h h' : Heap} {a : Addr} {items : Array Value} (q : IsK t h a items) (k : ∀ o, h.get? a = some o → h'.get? a = some o) : IsK t h' a items := by
  cases t
  · exact Heap.IsList.at q k
  · exact Heap.IsTuple.at q k
theorem ItK.at_ {t : Bool} {h h' : Heap} {it a : Addr} {i : Nat} (q : ItK t h it a i) (k : ∀ o, h.get? it = some o → h'.get? it = some o) : ItK t h' it a i := by
  cases t
  · exact Heap.IsListIter.at q k
  · exact Heap.IsTupleIter.at q k
theorem ItK.ob {t : Bool} {h : Heap} {it a : Addr} {i : Nat} (q : ItK t h it a i) : ∃ o, h.get? it = some o ∧ o.cls = .type (if t then "tuple_iterator" else "list_iterator") ∧ ∃ d, o.data = .fields d := by
  cases t
  · obtain ⟨o, e, c, d⟩ := q; exact ⟨o, e, c, _, d⟩
  · obtain ⟨o, e, c, d⟩ := q; exact ⟨o, e, c, _, d⟩
theorem IsK.ob {t : Bool} {h : Heap} {a : Addr} {items : Array Value} (q : IsK t h a items) : ∃ o, h.get? a = some o ∧ o.cls = .type (if t then "tuple" else "list") := by
  cases t
  · obtain ⟨o, e, c, _⟩ := q; exact ⟨o, e, c⟩
  · obtain ⟨o, e, c, _⟩ := q; exact ⟨o, e, c⟩
theorem draws_k {prog : Program} {w : World} {A : Around} (t : Bool) (hh : A.handled = none) (it a : Addr) (hne : a ≠ it) (items : Array Value) :
    Draws prog w A it [it, a] items.size (fun i v => items[i]? = some v) (fun i h => ItK t h it a i ∧ IsK t h a items) := by
  cases t
  · exact Draws.list hh it a hne items
  · exact Draws.tuple hh it a hne items
theorem draws_end {prog : Program} {w : World} {A : Around} (t : Bool) (hh : A.handled = none) (it a : Addr) (items : Array Value) (i : Nat) (he : items[i]? = none) :
    Draws prog w A it [it, a] i (fun _ _ => False) (fun j h => j = i ∧ ItK t h it a i ∧ IsK t h a items) where
  live := fun _ _ st => let ⟨o, ho, _⟩ := st.2.1.ob; ⟨o, ho⟩
  frame := fun _ _ _ st hk => ⟨st.1, st.2.1.at_ fun o e => hk it (by simp) o e, st.2.2.at_ fun o e => hk a (by simp) o e⟩
  item := fun j s Q E hi st hQ => by have := st.1; omega
  done := fun s Q E st hE => by
    obtain ⟨_, h1, h2⟩ := st
    cases t
    · exact wpAny_nextOf_list_end hh h1 h2 he hE
    · exact wpAny_nextOf_tuple_end hh h1 h2 he hE
theorem begins_k (t : Bool) (a : Addr) (items : Array Value) : Begins (.ref a) (itO t a) fun h => IsK t h a items := by
  cases t
  · exact begins_list a items
  · exact begins_tuple a items
theorem seq_k {X : Cx} {pins : List (Addr × Obj)} {σ : L2.St} {H : Hp} {s : Shared} (I : Inv X pins σ H s) {t : Bool} {a : Addr} {xs : List V} (q : SqK t X.K H a xs) : ∃ its : List Value, Vals xs its ∧ IsK t s.heap a its.toArray := by
  cases t
  · obtain ⟨its, rv, p, _⟩ := I.list q; exact ⟨its, rv, p.isList⟩
  · obtain ⟨its, rv, p, _⟩ := I.tuple q; exact ⟨its, rv, p⟩
theorem inj_k {X : Cx} {pins : List (Addr × Obj)} {σ : L2.St} {H : Hp} {s : Shared} (I : Inv X pins σ H s) {t : Bool} {a : Addr} {xs ys : List V} (q : SqK t X.K H a xs) (r : SqK t X.K H a ys) : xs = ys := by
  cases t
  · exact I.list_inj q r
  · exact I.tuple_inj q r

/-- a zip's own object, with the pair handed out and its mark -/
abbrev ZObj (h : Heap) (z TI TO : Addr) (f0 : Value) (m : Bool) : Prop :=
  h.get? z = some { cls := .type "zip", dict := none, data := .fields #[f0, .bool m, .bool false, .ref TI, .ref TO], slots := #[] }
/-- it holds no pair, or the one at T -/
def ZFr (f0 : Value) : Prop := f0 = .none ∨ ∃ T : Addr, f0 = rawInt (T : Nat)
abbrev ZPair (h : Heap) (T : Addr) (x y : Value) : Prop := h.get? T = some { cls := .type "tuple", data := .seq #[x, y] }
section
variable {prog : Program} {w : World} {A : Around} {E : Value → Shared → Prop} {s : Shared} {z TI TO i1 i2 : Addr} {fa fb : List Addr} {na nb i : Nat} {Pa Pb : Nat → Value → Prop} {Sa Sb : Nat → Heap → Prop} {u v f0 : Value} {m : Bool}
theorem alive_any {a : Addr} {Q : Option Obj → Shared → Prop} (h : Q (s.heap.get? a) s) : wpAny (model prog w) A (loadIfAlive a) Q E s := fun _ _ _ => h
/-- whether the pair is free again -/
theorem zfree {Q : Bool → Shared → Prop} (hz : ZObj s.heap z TI TO f0 m) (hf : ZFr f0) (hT : Q true s) (hF : ∀ (T : Nat) h', f0 = rawInt T → ZObj h' z TI TO f0 true → Heap.SameBut z s.heap h' → Q false { s with heap := h' }) : wpAny (model prog w) A (Builtin.SmallTypes.ownedTupleIsFree (.ref z)) Q E s := by
  unfold Builtin.SmallTypes.ownedTupleIsFree
  rcases hf with rfl | ⟨T, rfl⟩
  · exact wpAny_bind (wpAny_field hz rfl (x := .none) rfl (wpAny_pure hT))
  · refine wpAny_bind (wpAny_field hz rfl (x := rawInt T) rfl ?_)
    show wpAny _ _ (loadIfAlive (T : Int).toNat >>= _) _ _ _
    rw [Int.toNat_natCast]
    refine wpAny_bind (alive_any ?_)
    cases hg : s.heap.get? T with
    | none =>
      simp only [Option.isNone_none, if_true]
      exact wpAny_pure hT
    | some o =>
      simp only [Option.isNone_some, Bool.false_eq_true, if_false]
      refine wpAny_bind (wpAny_field hz rfl (x := .bool m) rfl ?_)
      cases m
      · simp only [show ((Value.bool false) != .bool true) = true from rfl, if_true]
        exact wpAny_bind (wpAny_setField_rec hz (by simp) fun h1 hz1 hs1 => wpAny_pure (hF T h1 rfl hz1 hs1))
      · simp only [show ((Value.bool true) != .bool true) = false from rfl, Bool.false_eq_true, if_false]
        exact wpAny_bind (wpAny_pure (wpAny_pure (hF T s.heap rfl hz ⟨rfl, fun _ _ => rfl⟩)))
theorem sb_get {a : Addr} {h h' : Heap} (k : Heap.SameBut a h h') {b : Addr} {o : Obj} (n : b ≠ a) (e : h.get? b = some o) : h'.get? b = some o := k.extBut _ _ n e
/-- a zip's next pair -/
theorem zip_nextU {Q : Value → Shared → Prop} (S : ZipSep2 z TI TO i1 i2 fa fb) (Da : Draws prog w A i1 fa na Pa Sa) (Db : Draws prog w A i2 fb nb Pb Sb)
    (hz : ZObj s.heap z TI TO f0 m) (hf : ZFr f0) (hI : ZPair s.heap TI (.ref i1) (.ref i2)) (hO : ZPair s.heap TO u v) (sa : Sa i s.heap) (sb : Sb i s.heap) (la : i < na) (lb : i < nb)
    (k : ∀ x y h' tk f1 m1, Pa i x → Pb i y → ZObj h' z TI TO f1 m1 → ZFr f1 → (∃ u' v', ZPair h' TO u' v') → Sa (i + 1) h' → Sb (i + 1) h' → ZPair h' s.heap.objs.size x y → h'.objs.size = s.heap.objs.size + 1 →
      (∀ c o, c ≠ z → c ≠ TO → c ≠ i1 → c ≠ i2 → s.heap.get? c = some o → h'.get? c = some o) → (f0 = .none ∧ m = false → f1 = rawInt s.heap.objs.size ∧ m1 = false) → Q (.ref s.heap.objs.size) { s with heap := h', toks := tk }) :
    wpAny (model prog w) A (Builtin.«zip.__next__» ⟨[.ref z], []⟩) (fun fin s' => ∃ v, fin = .done (.ret v) ∧ Q v s') E s := by
  obtain ⟨hp, gg, dd, tk0, oo⟩ := s
  show wpAny _ _ (field (.ref z) 2 >>= _) _ _ _
  refine wpAny_bind (wpAny_field hz rfl (x := .bool false) rfl ?_)
  show wpAny _ _ (field (.ref z) 3 >>= _) _ _ _
  refine wpAny_bind (wpAny_field hz rfl (x := .ref TI) rfl ?_)
  refine wpAny_bind (wpAny_seqItems hI rfl ?_)
  show wpAny _ _ (Builtin.SmallTypes.ownedTupleIsFree (.ref z) >>= _) _ _ _
  refine wpAny_bind (zfree (m := m) hz hf ?_ ?_)
  · -- the pair of its own, again
    simp only [if_true]
    refine wpAny_bind (wpAny_rule ?_)
    refine wpAny_bind (wpAny_field hz rfl (x := .ref TO) rfl ?_)
    refine wpAny_bind (wpAny_setField_rec hz (by simp) fun k0 z0 e0 => ?_)
    replace z0 : ZObj k0 z TI TO .ellipsis m := z0
    replace e0 : Heap.SameBut z hp k0 := e0
    refine wpAny_bind ?_
    simp only [List.zipIdx_cons, List.zipIdx_nil, List.forIn_cons, List.forIn_nil]
    refine wpAny_bind (wpAny_bind (wpAny_onRaise ?_))
    show wpAny _ _ (nextOf (.ref i1) >>= _) _ _ ⟨k0, gg, dd, tk0, oo⟩
    refine wpAny_bind (Da.item i _ _ _ la (Da.over sa e0 S.zf1) fun x j1 t1 px q1 r1 => wpAny_pure ?_)
    replace r1 : Heap.SameBut i1 k0 j1 := r1
    have o1 : ZPair j1 TO u v := sb_get r1 S.Ti1 (sb_get e0 S.TOz hO)
    refine wpAny_bind (wpAny_seqItems (s := ⟨j1, gg, dd, t1, oo⟩) o1 rfl ?_)
    refine wpAny_bind (updateSeq_IsTupOf2 (s := ⟨j1, gg, dd, t1, oo⟩) o1 fun k1 p1 e1 => ?_)
    replace p1 : ZPair k1 TO x v := p1
    replace e1 : Heap.SameBut TO j1 k1 := e1
    refine wpAny_bind (wpAny_letGo (wpAny_pure ?_))
    refine wpAny_bind (wpAny_bind (wpAny_onRaise ?_))
    show wpAny _ _ (nextOf (.ref i2) >>= _) _ _ ⟨k1, gg, dd, t1, oo⟩
    refine wpAny_bind (Db.item i _ _ _ lb (Db.over (Db.over (Db.over sb e0 S.zf2) r1 S.sep1_2) e1 S.Tf2) fun y j2 t2 py q2 r2 => wpAny_pure ?_)
    replace r2 : Heap.SameBut i2 k1 j2 := r2
    have o2 : ZPair j2 TO x v := sb_get r2 S.Ti2 p1
    refine wpAny_bind (wpAny_seqItems (s := ⟨j2, gg, dd, t2, oo⟩) o2 rfl ?_)
    refine wpAny_bind (updateSeq_IsTupOf2 (s := ⟨j2, gg, dd, t2, oo⟩) o2 fun k2 p2 e2 => ?_)
    replace p2 : ZPair k2 TO x y := p2
    replace e2 : Heap.SameBut TO j2 k2 := e2
    refine wpAny_bind (wpAny_letGo (wpAny_pure (wpAny_pure ?_)))
    refine wpAny_bind (wpAny_seqItems (s := ⟨k2, gg, dd, t2, oo⟩) p2 rfl ?_)
    refine wpAny_bind (wpAny_newTuple ?_)
    have sz : k2.objs.size = hp.objs.size := by rw [e2.1, r2.1, e1.1, r1.1, e0.1]
    have zz : ZObj k2 z TI TO .ellipsis m := sb_get e2 S.TOz.symm (sb_get r2 S.zi2 (sb_get e1 S.TOz.symm (sb_get r1 S.zi1 z0)))
    have kk : ∀ c o, c ≠ z → c ≠ TO → c ≠ i1 → c ≠ i2 → hp.get? c = some o → k2.get? c = some o := fun c o cz cT c1 c2 e => sb_get e2 cT (sb_get r2 c2 (sb_get e1 cT (sb_get r1 c1 (sb_get e0 cz e))))
    have ja : Sa (i + 1) k2 := Da.over (Da.over (Da.over q1 e1 S.Tf1) r2 S.sep2_1) e2 S.Tf1
    have jb : Sb (i + 1) k2 := Db.over q2 e2 S.Tf2
    have zl : z < k2.objs.size := Heap.lt_size zz
    show wpAny _ _ (Builtin.SmallTypes.ownedTupleHandOut (.ref z) (.ref k2.objs.size) >>= _) _ _ ⟨k2.push { cls := .type "tuple", data := .seq #[x, y] }, gg, dd, t2, oo⟩
    refine wpAny_bind ?_
    unfold Builtin.SmallTypes.ownedTupleHandOut
    have z6 : ZObj (k2.push { cls := .type "tuple", data := .seq #[x, y] }) z TI TO .ellipsis m := Heap.get?_push_of_some _ zz
    refine wpAny_bind (wpAny_setField_rec z6 (by simp) fun k7 z7 e7 => ?_)
    replace z7 : ZObj k7 z TI TO (rawInt k2.objs.size) m := z7
    refine wpAny_setField_rec z7 (by simp) fun k8 z8 e8 => ?_
    replace z8 : ZObj k8 z TI TO (rawInt k2.objs.size) false := z8
    replace e7 : Heap.SameBut z (k2.push { cls := .type "tuple", data := .seq #[x, y] }) k7 := e7
    replace e8 : Heap.SameBut z k7 k8 := e8
    have up : ∀ c o, c ≠ z → k2.get? c = some o → k8.get? c = some o := fun c o c1 e => sb_get e8 c1 (sb_get e7 c1 (Heap.get?_push_of_some _ e))
    have T8 : ZPair k8 k2.objs.size x y := sb_get e8 (Nat.ne_of_gt zl) (sb_get e7 (Nat.ne_of_gt zl) (Heap.get?_push_size _ rfl))
    have s8 : k8.objs.size = k2.objs.size + 1 := by rw [e8.1, e7.1, Heap.size_push]
    rw [sz] at z8 T8 s8
    refine wpAny_pure ⟨_, rfl, ?_⟩
    show Q (.ref k2.objs.size) ⟨k8, gg, dd, t2, oo⟩
    rw [sz]
    exact k x y k8 t2 _ _ px py z8 (.inr ⟨_, rfl⟩) ⟨_, _, up _ _ S.TOz p2⟩ (Da.frame _ _ _ ja fun b hb o e => up b o (fun q => S.zf1 (q ▸ hb)) e) (Db.frame _ _ _ jb fun b hb o e => up b o (fun q => S.zf2 (q ▸ hb)) e) T8 s8 (fun c o cz cT c1 c2 e => up c o cz (kk c o cz cT c1 c2 e)) fun _ => ⟨rfl, rfl⟩
  · -- another pair
    intro T k0 ef z0 e0
    replace e0 : Heap.SameBut z hp k0 := e0
    simp only [Bool.false_eq_true, if_false]
    have sa0 : Sa i k0 := Da.over sa e0 S.zf1
    have sb0 : Sb i k0 := Db.over sb e0 S.zf2
    simp only [List.forIn_toArray, List.forIn_cons, List.forIn_nil]
    refine wpAny_bind (wpAny_bind (wpAny_bind (wpAny_holding ?_)))
    show wpAny _ _ (nextOf (.ref i1) >>= _) _ _ ⟨k0, gg, dd, tk0, oo⟩
    refine wpAny_bind (Da.item i _ _ _ la sa0 fun x j1 t1 px q1 r1 => wpAny_pure ?_)
    replace r1 : Heap.SameBut i1 k0 j1 := r1
    refine wpAny_pure ?_
    refine wpAny_bind (wpAny_bind (wpAny_holding ?_))
    show wpAny _ _ (nextOf (.ref i2) >>= _) _ _ ⟨j1, gg, dd, t1, oo⟩
    refine wpAny_bind (Db.item i _ _ _ lb (Db.over sb0 r1 S.sep1_2) fun y j2 t2 py q2 r2 => wpAny_pure ?_)
    replace r2 : Heap.SameBut i2 j1 j2 := r2
    refine wpAny_pure (wpAny_pure ?_)
    have sz : j2.objs.size = hp.objs.size := by rw [r2.1, r1.1, e0.1]
    have zz : ZObj j2 z TI TO f0 true := sb_get r2 S.zi2 (sb_get r1 S.zi1 z0)
    have OO : ZPair j2 TO u v := sb_get r2 S.Ti2 (sb_get r1 S.Ti1 (sb_get e0 S.TOz hO))
    have kk : ∀ c o, c ≠ z → c ≠ TO → c ≠ i1 → c ≠ i2 → hp.get? c = some o → j2.get? c = some o := fun c o cz cT c1 c2 e => sb_get r2 c2 (sb_get r1 c1 (sb_get e0 cz e))
    have ja : Sa (i + 1) j2 := Da.over q1 r2 S.sep2_1
    show wpAny _ _ (newTuple [x, y] >>= _) _ _ ⟨j2, gg, dd, t2, oo⟩
    refine wpAny_bind (wpAny_newTuple ?_)
    have up : ∀ c o, j2.get? c = some o → (j2.push { cls := .type "tuple", data := .seq #[x, y] }).get? c = some o := fun c o e => Heap.get?_push_of_some _ e
    refine wpAny_pure ⟨_, rfl, ?_⟩
    show Q (.ref j2.objs.size) ⟨j2.push { cls := .type "tuple", data := .seq #[x, y] }, gg, dd, t2, oo⟩
    rw [show j2.objs.size = hp.objs.size from sz]
    exact k x y _ t2 _ _ px py (up _ _ zz) (.inr ⟨_, ef⟩) ⟨_, _, up _ _ OO⟩ (Da.frame _ _ _ ja fun b hb o e => up b o e) (Db.frame _ _ _ q2 fun b hb o e => up b o e) (by rw [← sz]; exact Heap.get?_push_size _ rfl) (by rw [Heap.size_push, sz]) (fun c o cz cT c1 c2 e => up c o (kk c o cz cT c1 c2 e)) fun z => by rw [ef] at z; cases z.1
end
end DL
set_option Elab.async false
set_option linter.all false
set_option maxRecDepth 100000
set_option maxHeartbeats 1000000
set_option autoImplicit false
/-! one step of an iterator, with what it makes; enumerate and zip by it. -/
namespace DL
open PySem PySem.Spec PyProof.Rows L2
open Builtin.SmallTypes (nextOf)
section
variable {prog : Program} {w : World} {A : Around} {E : Value → Shared → Prop} {s : Shared} {z TI TO i1 i2 : Addr} {fa fb : List Addr} {na nb i : Nat} {Pa Pb : Nat → Value → Prop} {Sa Sb : Nat → Heap → Prop} {u v f0 : Value} {m : Bool}
/-- a zip's end -/
theorem zip_endU {Q : Fin → Shared → Prop} (S : ZipSep2 z TI TO i1 i2 fa fb) (Da : Draws prog w A i1 fa na Pa Sa) (Db : Draws prog w A i2 fb nb Pb Sb)
    (hz : ZObj s.heap z TI TO f0 m) (hf : ZFr f0) (hI : ZPair s.heap TI (.ref i1) (.ref i2)) (hO : ZPair s.heap TO u v) (sa : Sa i s.heap) (sb : Sb i s.heap) (la : i ≤ na) (lb : i ≤ nb) (hend : i = na ∨ i = nb)
    (k : ∀ h' tk e, (∀ c o, c ≠ z → c ≠ TO → c ≠ i1 → c ≠ i2 → s.heap.get? c = some o → h'.get? c = some o) → (∃ o, h'.get? e = some o ∧ o.cls = .type "StopIteration") → E (.ref e) { s with heap := h', toks := tk }) :
    wpAny (model prog w) A (Builtin.«zip.__next__» ⟨[.ref z], []⟩) Q E s := by
  obtain ⟨hp, gg, dd, tk0, oo⟩ := s
  show wpAny _ _ (field (.ref z) 2 >>= _) _ _ _
  refine wpAny_bind (wpAny_field hz rfl (x := .bool false) rfl ?_)
  show wpAny _ _ (field (.ref z) 3 >>= _) _ _ _
  refine wpAny_bind (wpAny_field hz rfl (x := .ref TI) rfl ?_)
  refine wpAny_bind (wpAny_seqItems hI rfl ?_)
  show wpAny _ _ (Builtin.SmallTypes.ownedTupleIsFree (.ref z) >>= _) _ _ _
  refine wpAny_bind (zfree (m := m) hz hf ?_ ?_)
  · simp only [if_true]
    refine wpAny_bind (wpAny_rule ?_)
    refine wpAny_bind (wpAny_field hz rfl (x := .ref TO) rfl ?_)
    refine wpAny_bind (wpAny_setField_rec hz (by simp) fun k0 z0 e0 => ?_)
    replace z0 : ZObj k0 z TI TO .ellipsis m := z0
    replace e0 : Heap.SameBut z hp k0 := e0
    refine wpAny_bind ?_
    simp only [List.zipIdx_cons, List.zipIdx_nil, List.forIn_cons, List.forIn_nil]
    refine wpAny_bind (wpAny_bind (wpAny_onRaise ?_))
    show wpAny _ _ (nextOf (.ref i1) >>= _) _ _ ⟨k0, gg, dd, tk0, oo⟩
    by_cases c1 : i < na
    · refine wpAny_bind (Da.item i _ _ _ c1 (Da.over sa e0 S.zf1) fun x j1 t1 px q1 r1 => wpAny_pure ?_)
      replace r1 : Heap.SameBut i1 k0 j1 := r1
      have o1 : ZPair j1 TO u v := sb_get r1 S.Ti1 (sb_get e0 S.TOz hO)
      refine wpAny_bind (wpAny_seqItems (s := ⟨j1, gg, dd, t1, oo⟩) o1 rfl ?_)
      refine wpAny_bind (updateSeq_IsTupOf2 (s := ⟨j1, gg, dd, t1, oo⟩) o1 fun k1 p1 e1 => ?_)
      replace p1 : ZPair k1 TO x v := p1
      replace e1 : Heap.SameBut TO j1 k1 := e1
      refine wpAny_bind (wpAny_letGo (wpAny_pure ?_))
      have e2 : i = nb := by omega
      refine wpAny_bind (wpAny_bind (wpAny_onRaise ?_))
      show wpAny _ _ (nextOf (.ref i2) >>= _) _ _ ⟨k1, gg, dd, t1, oo⟩
      refine wpAny_bind (Db.done ⟨k1, gg, dd, t1, oo⟩ _ _ (by rw [← e2]; exact Db.over (Db.over (Db.over sb e0 S.zf2) r1 S.sep1_2) e1 S.Tf2) fun q e hq he => ?_)
      replace hq : Heap.ExtBut i2 k1 q := hq
      obtain ⟨oe, he, hc⟩ := he
      replace he : q.get? e = some oe := he
      have zq : ZObj q z TI TO .ellipsis m := hq _ _ S.zi2 (sb_get e1 S.TOz.symm (sb_get r1 S.zi1 z0))
      have ez : e ≠ z := fun x => by subst x; rw [zq] at he; cases he; simp at hc
      refine wpAny_setField_rec (s := ⟨q, gg, dd, t1, oo⟩) zq (by simp) fun q' _ hq' => ?_
      replace hq' : Heap.SameBut z q q' := hq'
      exact k q' t1 e (fun c o cz cT a1 a2 x => sb_get hq' cz (hq _ _ a2 (sb_get e1 cT (sb_get r1 a1 (sb_get e0 cz x))))) ⟨oe, sb_get hq' ez he, hc⟩
    · have e1 : i = na := by omega
      refine wpAny_bind (Da.done ⟨k0, gg, dd, tk0, oo⟩ _ _ (by rw [← e1]; exact Da.over sa e0 S.zf1) fun q e hq he => ?_)
      replace hq : Heap.ExtBut i1 k0 q := hq
      obtain ⟨oe, he, hc⟩ := he
      replace he : q.get? e = some oe := he
      have zq : ZObj q z TI TO .ellipsis m := hq _ _ S.zi1 z0
      have ez : e ≠ z := fun x => by subst x; rw [zq] at he; cases he; simp at hc
      refine wpAny_setField_rec (s := ⟨q, gg, dd, tk0, oo⟩) zq (by simp) fun q' _ hq' => ?_
      replace hq' : Heap.SameBut z q q' := hq'
      exact k q' tk0 e (fun c o cz cT a1 a2 x => sb_get hq' cz (hq _ _ a1 (sb_get e0 cz x))) ⟨oe, sb_get hq' ez he, hc⟩
  · intro T k0 ef z0 e0
    replace e0 : Heap.SameBut z hp k0 := e0
    simp only [Bool.false_eq_true, if_false]
    have sa0 : Sa i k0 := Da.over sa e0 S.zf1
    have sb0 : Sb i k0 := Db.over sb e0 S.zf2
    simp only [List.forIn_toArray, List.forIn_cons, List.forIn_nil]
    refine wpAny_bind (wpAny_bind (wpAny_bind (wpAny_holding ?_)))
    show wpAny _ _ (nextOf (.ref i1) >>= _) _ _ ⟨k0, gg, dd, tk0, oo⟩
    by_cases c1 : i < na
    · refine wpAny_bind (Da.item i _ _ _ c1 sa0 fun x j1 t1 px q1 r1 => wpAny_pure ?_)
      replace r1 : Heap.SameBut i1 k0 j1 := r1
      refine wpAny_pure ?_
      have e2 : i = nb := by omega
      refine wpAny_bind (wpAny_bind (wpAny_holding ?_))
      show wpAny _ _ (nextOf (.ref i2) >>= _) _ _ ⟨j1, gg, dd, t1, oo⟩
      refine wpAny_bind (Db.done ⟨j1, gg, dd, t1, oo⟩ _ _ (by rw [← e2]; exact Db.over sb0 r1 S.sep1_2) fun q e hq he => ?_)
      replace hq : Heap.ExtBut i2 j1 q := hq
      exact k q t1 e (fun c o cz cT a1 a2 x => hq _ _ a2 (sb_get r1 a1 (sb_get e0 cz x))) he
    · have e1 : i = na := by omega
      refine wpAny_bind (Da.done ⟨k0, gg, dd, tk0, oo⟩ _ _ (by rw [← e1]; exact sa0) fun q e hq he => ?_)
      replace hq : Heap.ExtBut i1 k0 q := hq
      exact k q tk0 e (fun c o cz cT a1 a2 x => hq _ _ a1 (sb_get e0 cz x)) he
/-- a step of an iterator from s on: what comes, and the heap behind; ch: what it changes of what was -/
def StepN (prog : Program) (w : World) (A : Around) (it : Addr) (ch : List Addr) (s : Shared) (R : Value → Heap → Prop) : Prop := ∀ (Q E : Value → Shared → Prop), (∀ x h' tk, R x h' → s.heap.objs.size ≤ h'.objs.size → (∀ b o, b ∉ ch → s.heap.get? b = some o → h'.get? b = some o) → Q x { s with heap := h', toks := tk }) → wpAny (model prog w) A (nextOf (.ref it)) Q E s
def StopN (prog : Program) (w : World) (A : Around) (it : Addr) (ch : List Addr) (s : Shared) : Prop := ∀ (Q E : Value → Shared → Prop), (∀ e h' tk, (∃ o, h'.get? e = some o ∧ o.cls = .type "StopIteration") → (∀ b o, b ∉ ch → s.heap.get? b = some o → h'.get? b = some o) → E (.ref e) { s with heap := h', toks := tk }) → wpAny (model prog w) A (nextOf (.ref it)) Q E s
theorem next_zip {Q E : Value → Shared → Prop} (hz : ZObj s.heap z TI TO f0 m) (h : wpAny (model prog w) A.in1 (Builtin.«zip.__next__» ⟨[.ref z], []⟩) (fun fin s' => ∃ v, fin = .done (.ret v) ∧ Q v s') E s) : wpAny (model prog w) A (nextOf (.ref z)) Q E s := by
  have hT : s.TypeIs (.ref z) "zip" := ⟨_, hz, rfl⟩
  unfold nextOf
  refine wpAny_bind (wpAny_callSpecial?_slot (name := Str.ofString "__next__") hT F.slot_zip_next (wpAny_call_entry F.slot_zip_next hT F.entry_zip_next ?_ (F.args_zip_next_1 _)))
  exact thn h fun r s' ⟨v, e, q⟩ => ⟨v, e, wpAny_pure q⟩
/-- enumerate's next pair, over whatever it draws from -/
theorem enum_nextN {e it : Addr} {ch : List Addr} {c : Int} {old : Value} {R : Value → Heap → Prop} {Q : Value → Shared → Prop} (D : StepN prog w A it ch s R) (he : IsEnum s.heap e it c old) (hc : e ∉ ch)
    (k : ∀ x h1 t1 h' , R x h1 → s.heap.objs.size ≤ h1.objs.size → (∀ b o, b ∉ ch → s.heap.get? b = some o → h1.get? b = some o) → IsEnumOut h' e it (c + 1) x h1.objs.size → h'.get? h1.objs.size = some { cls := .type "tuple", data := .seq #[.int c t1, x] } →
      (∀ b o, b ≠ e → h1.get? b = some o → h'.get? b = some o) → Q (.ref h1.objs.size) { s with heap := h', toks := t1 + 1 }) :
    wpAny (model prog w) A (Builtin.«enumerate.__next__» ⟨[.ref e], []⟩) (fun fin s' => ∃ v, fin = .done (.ret v) ∧ Q v s') E s := by
  obtain ⟨hp, gg, dd, tk0, oo⟩ := s
  show wpAny _ _ (field (.ref e) 2 >>= _) _ _ _
  refine wpAny_bind (wpAny_field he rfl (x := .ref it) rfl ?_)
  refine wpAny_bind (D _ _ fun x h1 t1 hR hsz hk => ?_)
  replace hk : ∀ b o, b ∉ ch → hp.get? b = some o → h1.get? b = some o := hk
  have e1 : IsEnum h1 e it c old := hk _ _ hc he
  show wpAny _ _ (field (.ref e) 3 >>= _) _ _ ⟨h1, gg, dd, t1, oo⟩
  refine wpAny_bind (wpAny_field e1 rfl (x := rawInt c) rfl ?_)
  show wpAny _ _ (field (.ref e) 4 >>= _) _ _ ⟨h1, gg, dd, t1, oo⟩
  refine wpAny_bind (wpAny_field e1 rfl (x := .none) rfl ?_)
  show wpAny _ _ (mkInt c >>= _) _ _ ⟨h1, gg, dd, t1, oo⟩
  refine wpAny_bind (wpAny_mkInt ?_)
  show wpAny _ _ (setField (.ref e) 3 (rawInt (c + 1)) >>= _) _ _ ⟨h1, gg, dd, t1 + 1, oo⟩
  refine wpAny_bind (wpAny_setField_rec e1 (by simp) fun h2 e2 s2 => ?_)
  replace s2 : Heap.SameBut e h1 h2 := s2
  replace e2 : IsEnum h2 e it (c + 1) old := e2
  show wpAny _ _ (setField (.ref e) 4 .none >>= _) _ _ ⟨h2, gg, dd, t1 + 1, oo⟩
  refine wpAny_bind (wpAny_setField_rec e2 (by simp) fun h3 e3 s3 => ?_)
  replace s3 : Heap.SameBut e h2 h3 := s3
  replace e3 : IsEnum h3 e it (c + 1) old := e3
  show wpAny _ _ (newTuple [.int c t1, x] >>= _) _ _ ⟨h3, gg, dd, t1 + 1, oo⟩
  refine wpAny_bind (wpAny_newTuple ?_)
  have z3 : h3.objs.size = h1.objs.size := by rw [s3.1, s2.1]
  have le : e < h1.objs.size := Heap.lt_size e1
  have e4 : IsEnum (h3.push { cls := .type "tuple", data := .seq #[.int c t1, x] }) e it (c + 1) old := Heap.get?_push_of_some _ e3
  have T4 : (h3.push { cls := .type "tuple", data := .seq #[.int c t1, x] }).get? h1.objs.size = some { cls := .type "tuple", data := .seq #[.int c t1, x] } := by rw [← z3]; exact Heap.get?_push_size _ rfl
  have k4 : ∀ b o, b ≠ e → h1.get? b = some o → (h3.push { cls := .type "tuple", data := .seq #[.int c t1, x] }).get? b = some o := fun b o n q => Heap.get?_push_of_some _ (sb_get s3 n (sb_get s2 n q))
  generalize h3.push { cls := .type "tuple", data := .seq #[.int c t1, x] } = h4 at e4 T4 k4
  show wpAny _ _ (Builtin.SmallTypes.ownedTupleIsFree (.ref e) >>= _) _ _ ⟨h4, gg, dd, t1 + 1, oo⟩
  rw [z3]
  refine wpAny_bind ?_
  unfold Builtin.SmallTypes.ownedTupleIsFree
  refine wpAny_bind (wpAny_field e4 rfl (x := .none) rfl (wpAny_pure ?_))
  simp only [if_true]
  refine wpAny_bind (wpAny_rule ?_)
  refine wpAny_bind (wpAny_field e4 rfl (x := old) rfl ?_)
  refine wpAny_bind (wpAny_setField_rec e4 (by simp) fun h5 e5 s5 => ?_)
  replace s5 : Heap.SameBut e h4 h5 := s5
  replace e5 : IsEnum h5 e it (c + 1) x := e5
  show wpAny _ _ (Builtin.SmallTypes.ownedTupleHandOut (.ref e) (.ref h1.objs.size) >>= _) _ _ ⟨h5, gg, dd, t1 + 1, oo⟩
  refine wpAny_bind ?_
  unfold Builtin.SmallTypes.ownedTupleHandOut
  refine wpAny_bind (wpAny_setField_rec e5 (by simp) fun h6 e6 s6 => ?_)
  replace s6 : Heap.SameBut e h5 h6 := s6
  replace e6 : IsEnumOut h6 e it (c + 1) x h1.objs.size := e6
  refine wpAny_setField_rec e6 (by simp) fun h7 e7 s7 => ?_
  replace s7 : Heap.SameBut e h6 h7 := s7
  replace e7 : IsEnumOut h7 e it (c + 1) x h1.objs.size := e7
  refine wpAny_bind (wpAny_letGo (wpAny_pure ⟨_, rfl, ?_⟩))
  exact k x h1 t1 h7 hR hsz hk e7 (sb_get s7 (Nat.ne_of_gt le) (sb_get s6 (Nat.ne_of_gt le) (sb_get s5 (Nat.ne_of_gt le) T4))) fun b o n q => sb_get s7 n (sb_get s6 n (sb_get s5 n (k4 b o n q)))
theorem py_enumN {e it : Addr} {ch : List Addr} {c : Int} {old : Value} {R : Value → Heap → Prop} {Q : Option Value → Shared → Prop} (D : StepN prog w A.in1 it ch s R) (he : IsEnum s.heap e it c old) (hc : e ∉ ch)
    (k : ∀ x h1 t1 h' , R x h1 → s.heap.objs.size ≤ h1.objs.size → (∀ b o, b ∉ ch → s.heap.get? b = some o → h1.get? b = some o) → IsEnumOut h' e it (c + 1) x h1.objs.size → h'.get? h1.objs.size = some { cls := .type "tuple", data := .seq #[.int c t1, x] } →
      (∀ b o, b ≠ e → h1.get? b = some o → h'.get? b = some o) → Q (some (.ref h1.objs.size)) { s with heap := h', toks := t1 + 1 }) : wpAny (model prog w) A (pyNext (.ref e)) Q E s := by
  have hT : s.TypeIs (.ref e) "enumerate" := ⟨_, he, rfl⟩
  unfold pyNext
  exact wpAny_bind (wpAny_attempt (wpAny_callSpecial?_slot (name := Str.ofString "__next__") hT F.slot_enumerate_next (wpAny_call_entry F.slot_enumerate_next hT F.entry_enumerate_next
    (enum_nextN D he hc fun x h1 t1 h' a b c d e' f => wpAny_pure (k x h1 t1 h' a b c d e' f)) (F.args_enumerate_next_1 _))))
theorem py_enumEnd {e it : Addr} {ch : List Addr} {c : Int} {old : Value} {Q : Option Value → Shared → Prop} (D : StopN prog w A.in1 it ch s) (he : IsEnum s.heap e it c old)
    (k : ∀ h' tk, (∀ b o, b ∉ ch → s.heap.get? b = some o → h'.get? b = some o) → Q none { s with heap := h', toks := tk }) : wpAny (model prog w) A (pyNext (.ref e)) Q E s := by
  have hT : s.TypeIs (.ref e) "enumerate" := ⟨_, he, rfl⟩
  unfold pyNext
  refine wpAny_bind (wpAny_attempt (wpAny_callSpecial?_slot (name := Str.ofString "__next__") hT F.slot_enumerate_next (wpAny_call_entry F.slot_enumerate_next hT F.entry_enumerate_next ?_ (F.args_enumerate_next_1 _))))
  show wpAny _ _ (field (.ref e) 2 >>= _) _ _ _
  refine wpAny_bind (wpAny_field he rfl (x := .ref it) rfl ?_)
  refine wpAny_bind (D _ _ fun x h' tk hx hk => ?_)
  obtain ⟨o, ho, hc⟩ := hx
  refine wpAny_bind (wpAny_isInstance (T := "StopIteration") (b := true) ⟨o, ho, hc⟩ isSubtype_stop ?_)
  exact wpAny_pure (k _ _ hk)
end
end DL
set_option Elab.async false
set_option linter.all false
set_option maxRecDepth 100000
set_option maxHeartbeats 1000000
set_option autoImplicit false
/-! turns: enumerate over a list, a tuple, a zip; zip. -/
namespace DL
open PySem PySem.Spec PyProof.Rows L2
open Builtin.SmallTypes (nextOf)
section
variable {prog : Program} {w : World} {A : Around} {E : Value → Shared → Prop} {s : Shared}
theorem step_draws {it : Addr} {fp : List Addr} {n i : Nat} {P : Nat → Value → Prop} {St : Nat → Heap → Prop} (D : Draws prog w A it fp n P St) (hi : i < n) (hst : St i s.heap) : StepN prog w A it [it] s fun x h' => P i x ∧ St (i + 1) h' ∧ h'.objs.size = s.heap.objs.size := fun Q E k =>
  D.item i s Q E hi hst fun x h' tk p st sb => k x h' tk ⟨p, st, sb.1⟩ (Nat.le_of_eq sb.1.symm) fun b o n e => sb_get sb (by simpa using n) e
theorem stop_draws {it : Addr} {fp : List Addr} {n : Nat} {P : Nat → Value → Prop} {St : Nat → Heap → Prop} (D : Draws prog w A it fp n P St) (hst : St n s.heap) : StopN prog w A it [it] s := fun Q E k =>
  D.done s Q E hst fun h' e x he => k e h' s.toks he fun b o n q => x b o (by simpa using n) q
end
abbrev tupO (vs : Array Value) : Obj := { cls := .type "tuple", data := .seq vs }
/-- item i of the sequence at a, in a new pair -/
def IteF (t : Bool) (K : PySem.W.Frag) (a : Addr) : It :=
  ⟨fun i H => ∃ (xs : List V) (x : V), SqK t K H a xs ∧ xs[i]? = some x, fun i H v H' => ∃ T o x, v = .ref T ∧ H T = none ∧ H' = upd H T (.frz o (.tup [.int (i : Nat), x])) ∧ o.cls = .type "tuple" ∧ o.dict = none ∧ ∀ xs, SqK t K H a xs → xs[i]? = some x, fun i H => ∃ xs : List V, SqK t K H a xs ∧ xs.length ≤ i⟩
theorem ne_src {t : Bool} {h : Heap} {a it : Addr} {items : Array Value} {i : Nat} {b : Addr} (p : IsK t h a items) (q : ItK t h it b i) : a ≠ it := fun e => by
  obtain ⟨o, e1, c1⟩ := p.ob
  obtain ⟨o', e2, c2, _⟩ := q.ob
  rw [e, e2] at e1; cases e1
  rw [c1] at c2
  exact absurd c2 (by cases t <;> decide)
theorem src_end {prog : Program} {w : World} {A : Around} {s : Shared} {t : Bool} (hh : A.handled = none) {it a : Addr} {items : Array Value} {i : Nat} (h1 : ItK t s.heap it a i) (h2 : IsK t s.heap a items) (he : items.size ≤ i) : StopN prog w A it [it] s :=
  stop_draws (draws_end t hh it a items i (by simp; omega)) ⟨rfl, h1, h2⟩
theorem turn_enumF {P : Program} {w : World} {K : PySem.W.Frag} {elts : List Expr} {kk : Nat} {tpos : Pos} {t : Bool} (a e it : Addr) :
    Turn P w K (.Tuple elts kk tpos) (IteF t K a) [e, it] e (fun i h => (∃ old, IsEnum h e it ((i : Nat) : Int) old) ∧ ItK t h it a i ∧ e ≠ it) where
  mem := by simp
  obj := fun i h st b hb => by
    obtain ⟨⟨old, he⟩, hi, _⟩ := st
    obtain ⟨o, ho, _, d, hd⟩ := hi.ob
    have e' : b = e ∨ b = it := by simpa using hb
    rcases e' with z | z
    · rw [z]; exact ⟨_, he, fun v q => nomatch q⟩
    · rw [z]; exact ⟨o, ho, fun v q => by rw [hd] at q; cases q⟩
  keep := fun i h h' st k => let ⟨⟨old, he⟩, hi, hne⟩ := st; ⟨⟨old, k e (by simp) _ he⟩, hi.at_ fun o q => k it (by simp) o q, hne⟩
  item := by
    intro X hP hw hK hc i pins s σ H E I hf st hg
    subst hP hw hK
    obtain ⟨⟨old, he⟩, hit, hne⟩ := st
    obtain ⟨xs, x, hq, hx⟩ := hg
    obtain ⟨its, rv, p⟩ := seq_k I hq
    obtain ⟨u, hu, ru⟩ := rv.get hx
    have nai := ne_src p hit
    have hlt : i < its.toArray.size := by
      have := (List.getElem?_eq_some_iff.mp hu).1
      simpa using this
    have hel : e < s.heap.objs.size := Heap.lt_size he
    have hil : it < s.heap.objs.size := by obtain ⟨_, q, _⟩ := hit.ob; exact Heap.lt_size q
    refine py_enumN (step_draws (draws_k t (A := X.A.in1) (show X.A.in1.handled = none from I.ok.hd hc) it a nai its.toArray) hlt ⟨hit, p⟩) he (by simpa using hne) fun x' h1 t1 h' ⟨hPx, hst, hsz⟩ hle hk ho hT hk2 => ?_
    have ex : x' = u := by
      have hPx : its.toArray[i]? = some x' := hPx
      rw [List.getElem?_toArray, hu] at hPx
      exact (Option.some.inj hPx).symm
    subst ex
    refine ⟨_, rfl, wpAny_letOwnedTupleGo_enum (s := { s with heap := h', toks := t1 + 1 }) ho fun h'' he' sb => ?_⟩
    rw [hsz] at hT ho
    have hT2 : h''.get? s.heap.objs.size = some (tupO #[.int i t1, x']) := sb_get sb (Nat.ne_of_gt hel) hT
    have new : ObjOk X.prog X.w (upd H s.heap.objs.size (.frz (tupO #[.int i t1, x']) (.tup [.int (i : Nat), x]))) h'' s.heap.objs.size (.frz (tupO #[.int i t1, x']) (.tup [.int (i : Nat), x])) :=
      ⟨hT2, by show 2 ≤ sizeLine; decide, [.int i t1, x'], .cons ⟨_, rfl⟩ (.cons ru .nil), ⟨_, hT2, rfl, _, rfl⟩⟩
    have I1 := I.turnedNew (h' := h'') (t' := t1 + 1) (ch := [e, it]) (fun b ob hb q => sb_get sb (fun z => hb (by simp [z])) (hk2 b ob (fun z => hb (by simp [z])) (hk b ob (fun z => hb (List.mem_cons_of_mem _ z)) q))) hf (Nat.le_refl _) new
    rw [hsz]
    refine ⟨.ref s.heap.objs.size, _, I1, rfl, ⟨_, _, x, rfl, I.hok.fresh (Nat.le_refl _), rfl, rfl, rfl, fun ys hy => by rw [inj_k I hy hq]; exact hx⟩, ⟨⟨x', ?_⟩, hst.1.at_ fun o q => sb_get sb (Ne.symm hne) (hk2 _ _ (Ne.symm hne) q), hne⟩, fun b hb => ?_⟩
    · have e1 : ((i + 1 : Nat) : Int) = (i : Int) + 1 := by omega
      rw [e1]; exact he'
    · have hb' : b < s.heap.objs.size := by
        have e' : b = e ∨ b = it := by simpa using hb
        rcases e' with z | z
        · rw [z]; exact hel
        · rw [z]; exact hil
      rw [upd_ne (Nat.ne_of_lt hb')]
      exact (hf b hb).1
  done := by
    intro X hP hw hK hc i pins s σ H E I hf st hg
    subst hP hw hK
    obtain ⟨⟨old, he⟩, hit, hne⟩ := st
    obtain ⟨xs, hq, hx⟩ := hg
    obtain ⟨its, rv, p⟩ := seq_k I hq
    have hl := rv.length
    refine py_enumEnd (src_end (A := X.A.in1) (show X.A.in1.handled = none from I.ok.hd hc) hit p (by simp; omega)) he fun h' tk hk => ⟨rfl, I.turnedL (t' := tk) (ch := [e, it]) (fun b o hb q => hk b o (fun z => hb (List.mem_cons_of_mem _ z)) q) hf⟩
  self := fun A i s Q E st h => let ⟨⟨_, he⟩, _⟩ := st; wpAny_pyIter_enum he h
/-- the two as they stand at each turn, the items in new pairs -/
def ItzF (t1 t2 : Bool) (K : PySem.W.Frag) (a b : Addr) : It :=
  ⟨fun i H => ∃ (xs ys : List V) (x y : V), SqK t1 K H a xs ∧ SqK t2 K H b ys ∧ xs[i]? = some x ∧ ys[i]? = some y,
    fun i H v H' => ∃ T o x y, v = .ref T ∧ H T = none ∧ H' = upd H T (.frz o (.tup [x, y])) ∧ o.cls = .type "tuple" ∧ o.dict = none ∧ (∀ xs, SqK t1 K H a xs → xs[i]? = some x) ∧ ∀ ys, SqK t2 K H b ys → ys[i]? = some y,
    fun i H => ∃ xs ys : List V, SqK t1 K H a xs ∧ SqK t2 K H b ys ∧ (xs.length ≤ i ∨ ys.length ≤ i)⟩
/-- each of those pairs in a new pair with its number -/
def IteZ (t1 t2 : Bool) (K : PySem.W.Frag) (a b : Addr) : It :=
  ⟨fun i H => ∃ (xs ys : List V) (x y : V), SqK t1 K H a xs ∧ SqK t2 K H b ys ∧ xs[i]? = some x ∧ ys[i]? = some y,
    fun i H v H' => ∃ p o T o2 x y, v = .ref T ∧ H p = none ∧ upd H p (.frz o (.tup [x, y])) T = none ∧ H' = upd (upd H p (.frz o (.tup [x, y]))) T (.frz o2 (.tup [.int (i : Nat), .ref p])) ∧ o.cls = .type "tuple" ∧ o.dict = none ∧ o2.cls = .type "tuple" ∧ o2.dict = none ∧ (∀ xs, SqK t1 K H a xs → xs[i]? = some x) ∧ ∀ ys, SqK t2 K H b ys → ys[i]? = some y,
    fun i H => ∃ xs ys : List V, SqK t1 K H a xs ∧ SqK t2 K H b ys ∧ (xs.length ≤ i ∨ ys.length ≤ i)⟩
/-- a zip under way at turn i -/
structure ZAt (h : Heap) (t1 t2 : Bool) (a b z TI TO i1 i2 : Addr) (i : Nat) : Prop where
  zo : ∃ f0 m, ZObj h z TI TO f0 m ∧ ZFr f0
  ti : ZPair h TI (.ref i1) (.ref i2)
  to : ∃ x y, ZPair h TO x y
  k1 : ItK t1 h i1 a i
  k2 : ItK t2 h i2 b i
theorem ZAt.keep {h h' : Heap} {t1 t2 : Bool} {a b z TI TO i1 i2 : Addr} {i : Nat} (st : ZAt h t1 t2 a b z TI TO i1 i2 i) (k : ∀ c ∈ [z, TI, TO, i1, i2], ∀ o, h.get? c = some o → h'.get? c = some o) : ZAt h' t1 t2 a b z TI TO i1 i2 i := by
  obtain ⟨⟨f0, m, e, f⟩, hI, ⟨x, y, hO⟩, h1, h2⟩ := st
  exact ⟨⟨f0, m, k z (by simp) _ e, f⟩, k TI (by simp) _ hI, ⟨x, y, k TO (by simp) _ hO⟩, h1.at_ fun o q => k i1 (by simp) o q, h2.at_ fun o q => k i2 (by simp) o q⟩
theorem ZAt.obj {h : Heap} {t1 t2 : Bool} {a b z TI TO i1 i2 : Addr} {i : Nat} (st : ZAt h t1 t2 a b z TI TO i1 i2 i) : ∀ c ∈ [z, TI, TO, i1, i2], ∃ o, h.get? c = some o ∧ ∀ v, o.data ≠ .cell v := fun c hc => by
  obtain ⟨⟨f0, m, e, f⟩, hI, ⟨x, y, hO⟩, h1, h2⟩ := st
  obtain ⟨o1, e1, _, f1, d1⟩ := h1.ob
  obtain ⟨o2, e2, _, f2, d2⟩ := h2.ob
  have e' : c = z ∨ c = TI ∨ c = TO ∨ c = i1 ∨ c = i2 := by simpa using hc
  rcases e' with q | q | q | q | q
  · rw [q]; exact ⟨_, e, fun v q => nomatch q⟩
  · rw [q]; exact ⟨_, hI, fun v q => nomatch q⟩
  · rw [q]; exact ⟨_, hO, fun v q => nomatch q⟩
  · rw [q]; exact ⟨o1, e1, fun v q => by rw [d1] at q; cases q⟩
  · rw [q]; exact ⟨o2, e2, fun v q => by rw [d2] at q; cases q⟩
section
variable {prog : Program} {w : World} {A : Around} {s : Shared} {t1 t2 : Bool} {a b z TI TO i1 i2 : Addr} {i : Nat}
theorem ZAt.step (S : ZipSep2 z TI TO i1 i2 [i1, a] [i2, b]) (hh : A.in1.handled = none) (st : ZAt s.heap t1 t2 a b z TI TO i1 i2 i) {xs ys : Array Value} (p : IsK t1 s.heap a xs) (q : IsK t2 s.heap b ys) (l1 : i < xs.size) (l2 : i < ys.size) :
    StepN prog w A z [z, TO, i1, i2] s fun x h' => x = .ref s.heap.objs.size ∧ h'.objs.size = s.heap.objs.size + 1 ∧ ZAt h' t1 t2 a b z TI TO i1 i2 (i + 1) ∧ (∃ u v, xs[i]? = some u ∧ ys[i]? = some v ∧ ZPair h' s.heap.objs.size u v) ∧ (IsZip s.heap z TI TO .none → IsZip h' z TI TO (rawInt s.heap.objs.size)) := by
  intro Q E k
  have n1 := ne_src p st.k1
  have n2 := ne_src q st.k2
  obtain ⟨⟨f0, m, e, f⟩, hI, ⟨x0, y0, hO⟩, h1, h2⟩ := st
  refine next_zip e (zip_nextU S (draws_k t1 (A := A.in1) hh i1 a n1 xs) (draws_k t2 (A := A.in1) hh i2 b n2 ys) e f hI hO ⟨h1, p⟩ ⟨h2, q⟩ l1 l2 fun x y h' tk f1 m1 px py z' fr' O' sa sb hT hsz hk hz => ?_)
  refine k _ h' tk ⟨rfl, hsz, ⟨⟨f1, m1, z', fr'⟩, hk _ _ S.TIz S.TITO S.TIi1 S.TIi2 hI, O', sa.1, sb.1⟩, ⟨x, y, px, py, hT⟩, fun e0 => ?_⟩ (by rw [hsz]; exact Nat.le_succ _) fun c o hc e => hk c o (fun q' => hc (by simp [q'])) (fun q' => hc (by simp [q'])) (fun q' => hc (by simp [q'])) (fun q' => hc (by simp [q'])) e
  have e1 := e.symm.trans e0
  simp at e1
  obtain ⟨ea, eb⟩ := hz ⟨e1.1, e1.2⟩
  rw [ea, eb] at z'
  exact z'
theorem ZAt.stop (S : ZipSep2 z TI TO i1 i2 [i1, a] [i2, b]) (hh : A.in1.handled = none) (st : ZAt s.heap t1 t2 a b z TI TO i1 i2 i) {xs ys : Array Value} (p : IsK t1 s.heap a xs) (q : IsK t2 s.heap b ys) (l : xs.size ≤ i ∨ ys.size ≤ i) :
    StopN prog w A z [z, TO, i1, i2] s := by
  intro Q E k
  have n1 := ne_src p st.k1
  have n2 := ne_src q st.k2
  obtain ⟨⟨f0, m, e, f⟩, hI, ⟨x0, y0, hO⟩, h1, h2⟩ := st
  have fin : ∀ (h' : Heap) (tk : Nat) (x : Addr), (∀ c o, c ≠ z → c ≠ TO → c ≠ i1 → c ≠ i2 → s.heap.get? c = some o → h'.get? c = some o) → (∃ o, h'.get? x = some o ∧ o.cls = .type "StopIteration") → E (.ref x) { s with heap := h', toks := tk } := fun h' tk x hk hx =>
    k x h' tk hx fun c o hc e => hk c o (fun q' => hc (by simp [q'])) (fun q' => hc (by simp [q'])) (fun q' => hc (by simp [q'])) (fun q' => hc (by simp [q'])) e
  by_cases c1 : xs.size ≤ i
  · by_cases c2 : ys.size ≤ i
    · exact next_zip e (zip_endU S (draws_end t1 hh i1 a xs i (by simp; omega)) (draws_end t2 hh i2 b ys i (by simp; omega)) e f hI hO ⟨rfl, h1, p⟩ ⟨rfl, h2, q⟩ (Nat.le_refl _) (Nat.le_refl _) (.inl rfl) fin)
    · exact next_zip e (zip_endU S (draws_end t1 hh i1 a xs i (by simp; omega)) (draws_k t2 hh i2 b n2 ys) e f hI hO ⟨rfl, h1, p⟩ ⟨h2, q⟩ (Nat.le_refl _) (by omega) (.inl rfl) fin)
  · have c2 : ys.size ≤ i := by omega
    exact next_zip e (zip_endU S (draws_k t1 hh i1 a n1 xs) (draws_end t2 hh i2 b ys i (by simp; omega)) e f hI hO ⟨h1, p⟩ ⟨rfl, h2, q⟩ (by omega) (Nat.le_refl _) (.inr rfl) fin)
end
end DL
set_option Elab.async false
set_option linter.all false
set_option maxRecDepth 100000
set_option maxHeartbeats 1000000
set_option autoImplicit false
namespace DL
open PySem PySem.Spec PyProof.Rows L2
open Builtin.SmallTypes (nextOf)
theorem zat_lt {h : Heap} {t1 t2 : Bool} {a b z TI TO i1 i2 : Addr} {i : Nat} (st : ZAt h t1 t2 a b z TI TO i1 i2 i) : ∀ c ∈ [z, TI, TO, i1, i2], c < h.objs.size := fun c hc => by
  obtain ⟨o, e, _⟩ := st.obj c hc
  exact Heap.lt_size e
theorem sub_zat {z TI TO i1 i2 : Addr} {c : Addr} (h : c ∈ [z, TO, i1, i2]) : c ∈ [z, TI, TO, i1, i2] := by
  simp at h ⊢
  rcases h with h | h | h | h <;> simp [h]
theorem turn_zipF {P : Program} {w : World} {K : PySem.W.Frag} {elts : List Expr} {kk : Nat} {tpos : Pos} {t1 t2 : Bool} {a b z TI TO i1 i2 : Addr} (S : ZipSep2 z TI TO i1 i2 [i1, a] [i2, b]) :
    Turn P w K (.Tuple elts kk tpos) (ItzF t1 t2 K a b) [z, TI, TO, i1, i2] z (fun i h => IsZip h z TI TO .none ∧ ZAt h t1 t2 a b z TI TO i1 i2 i) where
  mem := by simp
  obj := fun i h st c hc => st.2.obj c hc
  keep := fun i h h' st k => ⟨k z (by simp) _ st.1, st.2.keep k⟩
  item := by
    intro X hP hw hK hc i pins s σ H E I hf st hg
    subst hP hw hK
    obtain ⟨xs, ys, x, y, hqx, hqy, hx, hy⟩ := hg
    obtain ⟨its, rv, p⟩ := seq_k I hqx
    obtain ⟨its2, rv2, p2⟩ := seq_k I hqy
    obtain ⟨u, hu, ru⟩ := rv.get hx
    obtain ⟨u2, hu2, ru2⟩ := rv2.get hy
    have hl := zat_lt st.2
    have l1 : i < its.toArray.size := by have := (List.getElem?_eq_some_iff.mp hu).1; simpa using this
    have l2 : i < its2.toArray.size := by have := (List.getElem?_eq_some_iff.mp hu2).1; simpa using this
    have hT : s.TypeIs (.ref z) "zip" := ⟨_, st.1, rfl⟩
    have hh : X.A.in1.handled = none := I.ok.hd hc
    have n1 := ne_src p st.2.k1
    have n2 := ne_src p2 st.2.k2
    obtain ⟨hz, ⟨_, hI, ⟨x0, y0, hO⟩, h1, h2⟩⟩ := st
    unfold pyNext
    refine wpAny_bind (wpAny_attempt (wpAny_callSpecial?_slot (name := Str.ofString "__next__") hT F.slot_zip_next (wpAny_call_entry F.slot_zip_next hT F.entry_zip_next
      (zip_nextU S (draws_k t1 hh i1 a n1 its.toArray) (draws_k t2 hh i2 b n2 its2.toArray) hz (.inl rfl) hI hO ⟨h1, p⟩ ⟨h2, p2⟩ l1 l2 fun x1 x2 h' tk f1 m1 y1 y2 z' fr' O' sa sb hT hsz hk hzz => wpAny_pure ?_) (F.args_zip_next_1 _))))
    obtain ⟨ef, em⟩ := hzz ⟨rfl, rfl⟩
    rw [ef, em] at z'
    have ex : x1 = u := by
      have y1 : its.toArray[i]? = some x1 := y1
      rw [List.getElem?_toArray, hu] at y1
      exact (Option.some.inj y1).symm
    have ey : x2 = u2 := by
      have y2 : its2.toArray[i]? = some x2 := y2
      rw [List.getElem?_toArray, hu2] at y2
      exact (Option.some.inj y2).symm
    subst ex ey
    refine ⟨_, rfl, wpAny_letOwnedTupleGo_zip (s := { s with heap := h', toks := tk }) z' fun h'' z'' sc => ?_⟩
    have hzl : z < s.heap.objs.size := hl z (by simp)
    have hT2 : h''.get? s.heap.objs.size = some (tupO #[x1, x2]) := sb_get sc (Nat.ne_of_gt hzl) hT
    have new : ObjOk X.prog X.w (upd H s.heap.objs.size (.frz (tupO #[x1, x2]) (.tup [x, y]))) h'' s.heap.objs.size (.frz (tupO #[x1, x2]) (.tup [x, y])) :=
      ⟨hT2, by show 2 ≤ sizeLine; decide, [x1, x2], .cons ru (.cons ru2 .nil), ⟨_, hT2, rfl, _, rfl⟩⟩
    have I1 := I.turnedNew (h' := h'') (t' := tk) (ch := [z, TI, TO, i1, i2]) (fun c o hb q => sb_get sc (fun q' => hb (by simp [q'])) (hk c o (fun q' => hb (by simp [q'])) (fun q' => hb (by simp [q'])) (fun q' => hb (by simp [q'])) (fun q' => hb (by simp [q'])) q)) hf (Nat.le_refl _) new
    refine ⟨.ref s.heap.objs.size, _, I1, rfl, ⟨_, _, x, y, rfl, I.hok.fresh (Nat.le_refl _), rfl, rfl, rfl, fun l hl => by rw [inj_k I hl hqx]; exact hx, fun l hl => by rw [inj_k I hl hqy]; exact hy⟩, ⟨z'', ⟨⟨_, _, z'', .inl rfl⟩, ?_, ?_, ?_, ?_⟩⟩, fun c hcm => ?_⟩
    · exact sb_get sc S.TIz (hk _ _ S.TIz S.TITO S.TIi1 S.TIi2 hI)
    · obtain ⟨u', v', O'⟩ := O'; exact ⟨u', v', sb_get sc S.TOz O'⟩
    · exact sa.1.at_ fun o q => sb_get sc (Ne.symm S.zi1) q
    · exact sb.1.at_ fun o q => sb_get sc (Ne.symm S.zi2) q
    · rw [upd_ne (Nat.ne_of_lt (hl c hcm))]
      exact (hf c hcm).1
  done := by
    intro X hP hw hK hc i pins s σ H E I hf st hg
    subst hP hw hK
    obtain ⟨xs, ys, hqx, hqy, hend⟩ := hg
    obtain ⟨its, rv, p⟩ := seq_k I hqx
    obtain ⟨its2, rv2, p2⟩ := seq_k I hqy
    have l1 := rv.length
    have l2 := rv2.length
    have hT : s.TypeIs (.ref z) "zip" := ⟨_, st.1, rfl⟩
    have hh : X.A.in1.handled = none := I.ok.hd hc
    have n1 := ne_src p st.2.k1
    have n2 := ne_src p2 st.2.k2
    obtain ⟨hz, ⟨_, hI, ⟨x0, y0, hO⟩, h1, h2⟩⟩ := st
    unfold pyNext
    refine wpAny_bind (wpAny_attempt (wpAny_callSpecial?_slot (name := Str.ofString "__next__") hT F.slot_zip_next (wpAny_call_entry F.slot_zip_next hT F.entry_zip_next ?_ (F.args_zip_next_1 _))))
    have fin : ∀ (h' : Heap) (tk : Nat), (∀ c o, c ≠ z → c ≠ TO → c ≠ i1 → c ≠ i2 → s.heap.get? c = some o → h'.get? c = some o) → (none : Option Value) = none ∧ Inv X pins σ H { s with heap := h', toks := tk } := fun h' tk hk =>
      ⟨rfl, I.turnedL (t' := tk) (ch := [z, TI, TO, i1, i2]) (fun c o hb q => hk c o (fun q' => hb (by simp [q'])) (fun q' => hb (by simp [q'])) (fun q' => hb (by simp [q'])) (fun q' => hb (by simp [q'])) q) hf⟩
    by_cases c1 : xs.length ≤ i
    · by_cases c2 : ys.length ≤ i
      · exact zip_endU S (draws_end t1 hh i1 a its.toArray i (by simp; omega)) (draws_end t2 hh i2 b its2.toArray i (by simp; omega)) hz (.inl rfl) hI hO ⟨rfl, h1, p⟩ ⟨rfl, h2, p2⟩ (Nat.le_refl _) (Nat.le_refl _) (.inl rfl) fun h' tk e hk ⟨o, ho, hc'⟩ => wpAny_bind (wpAny_isInstance (T := "StopIteration") (b := true) ⟨o, ho, hc'⟩ isSubtype_stop (wpAny_pure (fin h' tk hk)))
      · exact zip_endU S (draws_end t1 hh i1 a its.toArray i (by simp; omega)) (draws_k t2 hh i2 b n2 its2.toArray) hz (.inl rfl) hI hO ⟨rfl, h1, p⟩ ⟨h2, p2⟩ (Nat.le_refl _) (by simp; omega) (.inl rfl) fun h' tk e hk ⟨o, ho, hc'⟩ => wpAny_bind (wpAny_isInstance (T := "StopIteration") (b := true) ⟨o, ho, hc'⟩ isSubtype_stop (wpAny_pure (fin h' tk hk)))
    · have c2 : ys.length ≤ i := by omega
      exact zip_endU S (draws_k t1 hh i1 a n1 its.toArray) (draws_end t2 hh i2 b its2.toArray i (by simp; omega)) hz (.inl rfl) hI hO ⟨h1, p⟩ ⟨rfl, h2, p2⟩ (by simp; omega) (Nat.le_refl _) (.inr rfl) fun h' tk e hk ⟨o, ho, hc'⟩ => wpAny_bind (wpAny_isInstance (T := "StopIteration") (b := true) ⟨o, ho, hc'⟩ isSubtype_stop (wpAny_pure (fin h' tk hk)))
  self := fun A i s Q E st h => wpAny_pyIter_zip st.1 h
theorem turn_enumZ {P : Program} {w : World} {K : PySem.W.Frag} {elts : List Expr} {kk : Nat} {tpos : Pos} {t1 t2 : Bool} {a b e z TI TO i1 i2 : Addr} (S : ZipSep2 z TI TO i1 i2 [i1, a] [i2, b]) (hne : e ∉ [z, TI, TO, i1, i2]) :
    Turn P w K (.Tuple elts kk tpos) (IteZ t1 t2 K a b) [e, z, TI, TO, i1, i2] e (fun i h => (∃ old, IsEnum h e z ((i : Nat) : Int) old) ∧ ZAt h t1 t2 a b z TI TO i1 i2 i) where
  mem := by simp
  obj := fun i h st c hc => by
    rcases List.mem_cons.mp hc with q | q
    · obtain ⟨⟨old, he⟩, _⟩ := st
      rw [q]; exact ⟨_, he, fun v q => nomatch q⟩
    · exact st.2.obj c q
  keep := fun i h h' st k => let ⟨⟨old, he⟩, z⟩ := st; ⟨⟨old, k e (by simp) _ he⟩, z.keep fun c hc => k c (List.mem_cons_of_mem _ hc)⟩
  item := by
    intro X hP hw hK hc i pins s σ H E I hf st hg
    subst hP hw hK
    obtain ⟨xs, ys, x, y, hqx, hqy, hx, hy⟩ := hg
    obtain ⟨its, rv, p⟩ := seq_k I hqx
    obtain ⟨its2, rv2, p2⟩ := seq_k I hqy
    obtain ⟨u, hu, ru⟩ := rv.get hx
    obtain ⟨u2, hu2, ru2⟩ := rv2.get hy
    obtain ⟨⟨old, he⟩, st⟩ := st
    have hl := zat_lt st
    have hel : e < s.heap.objs.size := Heap.lt_size he
    have l1 : i < its.toArray.size := by have := (List.getElem?_eq_some_iff.mp hu).1; simpa using this
    have l2 : i < its2.toArray.size := by have := (List.getElem?_eq_some_iff.mp hu2).1; simpa using this
    have hh : X.A.in1.handled = none := I.ok.hd hc
    refine py_enumN (ZAt.step (A := X.A.in1) S hh st p p2 l1 l2) he (fun q => hne (sub_zat q)) fun x' h1 tk1 h' ⟨ex, hsz, st1, ⟨v1, v2, e1, e2, hP1⟩, _⟩ hle hk ho hT hk2 => ?_
    have q1 : v1 = u := by
      rw [List.getElem?_toArray, hu] at e1
      exact (Option.some.inj e1).symm
    have q2 : v2 = u2 := by
      rw [List.getElem?_toArray, hu2] at e2
      exact (Option.some.inj e2).symm
    subst q1 q2 ex
    refine ⟨_, rfl, wpAny_letOwnedTupleGo_enum (s := { s with heap := h', toks := tk1 + 1 }) ho fun h'' he' sb => ?_⟩
    have hfz : ∀ c ∈ [z, TI, TO, i1, i2], FpOk X pins H c := fun c hc => hf c (List.mem_cons_of_mem _ hc)
    have new1 : ObjOk X.prog X.w (upd H s.heap.objs.size (.frz (tupO #[v1, v2]) (.tup [x, y]))) h1 s.heap.objs.size (.frz (tupO #[v1, v2]) (.tup [x, y])) :=
      ⟨hP1, by show 2 ≤ sizeLine; decide, [v1, v2], .cons ru (.cons ru2 .nil), ⟨_, hP1, rfl, _, rfl⟩⟩
    have I1 := I.turnedNew (h' := h1) (t' := tk1) (ch := [z, TI, TO, i1, i2]) (fun c o hb q => hk c o (fun q' => hb (sub_zat q')) q) hfz (Nat.le_refl _) new1
    have hT2 : h''.get? h1.objs.size = some (tupO #[.int i tk1, .ref s.heap.objs.size]) := sb_get sb (by rw [hsz]; exact Nat.ne_of_gt (Nat.lt_succ_of_lt hel)) hT
    have ne1 : e ≠ s.heap.objs.size := Nat.ne_of_lt hel
    have hfe : ∀ c ∈ [e], FpOk X pins (upd H s.heap.objs.size (.frz (tupO #[v1, v2]) (.tup [x, y]))) c := fun c hc => by
      have ec : c = e := by simpa using hc
      subst ec
      obtain ⟨g0, g1⟩ := hf c (by simp)
      exact ⟨by rw [upd_ne ne1]; exact g0, g1⟩
    have new2 : ObjOk X.prog X.w (upd (upd H s.heap.objs.size (.frz (tupO #[v1, v2]) (.tup [x, y]))) h1.objs.size (.frz (tupO #[.int i tk1, .ref s.heap.objs.size]) (.tup [.int (i : Nat), .ref s.heap.objs.size]))) h'' h1.objs.size (.frz (tupO #[.int i tk1, .ref s.heap.objs.size]) (.tup [.int (i : Nat), .ref s.heap.objs.size])) :=
      ⟨hT2, by show 2 ≤ sizeLine; decide, [.int i tk1, .ref s.heap.objs.size], .cons ⟨_, rfl⟩ (.cons rfl .nil), ⟨_, hT2, rfl, _, rfl⟩⟩
    have I2 := Inv.turnedNew (s := { s with heap := h1, toks := tk1 }) (h' := h'') (t' := tk1 + 1) (ch := [e]) I1 (fun c o hb q => sb_get sb (by simpa using hb) (hk2 c o (by simpa using hb) q)) hfe (Nat.le_refl _) new2
    have fr2 := I1.hok.fresh (Nat.le_refl h1.objs.size)
    refine ⟨.ref h1.objs.size, _, I2, rfl, ⟨s.heap.objs.size, tupO #[v1, v2], h1.objs.size, tupO #[.int i tk1, .ref s.heap.objs.size], x, y, rfl, I.hok.fresh (Nat.le_refl _), fr2, rfl, rfl, rfl, rfl, rfl, fun l hl => by rw [inj_k I hl hqx]; exact hx, fun l hl => by rw [inj_k I hl hqy]; exact hy⟩, ⟨⟨.ref s.heap.objs.size, ?_⟩, st1.keep fun c hc o q => ?_⟩, fun c hcm => ?_⟩
    · have e1 : ((i + 1 : Nat) : Int) = (i : Int) + 1 := by omega
      rw [e1]; exact he'
    · have nc : c ≠ e := fun z => hne (z ▸ hc)
      exact sb_get sb nc (hk2 _ _ nc q)
    · have lc : c < s.heap.objs.size := by
        rcases List.mem_cons.mp hcm with q | q
        · rw [q]; exact hel
        · exact hl c q
      rw [upd_ne (by rw [hsz]; exact Nat.ne_of_lt (Nat.lt_succ_of_lt lc)), upd_ne (Nat.ne_of_lt lc)]
      exact (hf c hcm).1
  done := by
    intro X hP hw hK hc i pins s σ H E I hf st hg
    subst hP hw hK
    obtain ⟨xs, ys, hqx, hqy, hend⟩ := hg
    obtain ⟨its, rv, p⟩ := seq_k I hqx
    obtain ⟨its2, rv2, p2⟩ := seq_k I hqy
    have l1 := rv.length
    have l2 := rv2.length
    obtain ⟨⟨old, he⟩, st⟩ := st
    have hh : X.A.in1.handled = none := I.ok.hd hc
    refine py_enumEnd (ZAt.stop (A := X.A.in1) S hh st p p2 (by rcases hend with h | h; exact .inl (by simp; omega); exact .inr (by simp; omega))) he fun h' tk hk => ⟨rfl, I.turnedL (t' := tk) (ch := [e, z, TI, TO, i1, i2]) (fun c o hb q => hk c o (fun q' => hb (List.mem_cons_of_mem _ (sub_zat q'))) q) hf⟩
  self := fun A i s Q E st h => let ⟨⟨_, he⟩, _⟩ := st; wpAny_pyIter_enum he h
end DL
set_option Elab.async false
set_option linter.all false
set_option maxRecDepth 100000
set_option maxHeartbeats 1000000
set_option autoImplicit false
/-! enumerate, zip, enumerate of zip, over data and over what is written. -/
namespace DL
open PySem PySem.Spec PyProof.Rows L2
theorem meets_enumB {v : Value} {o : Obj} {H : Heap → Prop} (B : Begins v o H) :
    Meets (Builtin.«enumerate.__new__» ⟨[.type "enumerate", v], []⟩) (fun _ R s => H s.heap ∧
      R (.ok (.ret (.ref (s.heap.push o).objs.size))) { s with heap := (s.heap.push o).push { cls := .type "enumerate", data := .fields #[.none, .bool false, .ref s.heap.objs.size, rawInt 0, .none, .none] } }) :=
  .of_wp fun prog w A R s h => by
    obtain ⟨hp, g, d, tk, os⟩ := s; obtain ⟨h1, h⟩ := h
    have hsub := sub_enumerate
    have q1 : ∀ {A' : Around} {E : Value → Shared → Prop} {Q : Value → Shared → Prop}, Q (.ref hp.objs.size) ⟨hp.push o, g, d, tk, os⟩ → wpAny (model prog w) A' (pyIter v) Q E ⟨hp, g, d, tk, os⟩ :=
      fun q => B.iter prog w _ _ ⟨hp, g, d, tk, os⟩ _ h1 q
    wp_walk using q1
    refine wpAny_stack_any fun st => wpAny_pure ?_
    split
    · rename_i c _ _ _ _ _
      cases (c == Value.type "enumerate")
      · wp_walk using q1
        exact ⟨_, rfl, h⟩
      · wp_walk using q1
        exact ⟨_, rfl, h⟩
    · wp_walk using q1
      exact ⟨_, rfl, h⟩
theorem meets_enumZ {z TI TO : Addr} :
    Meets (Builtin.«enumerate.__new__» ⟨[.type "enumerate", .ref z], []⟩) (fun _ R s => IsZip s.heap z TI TO .none ∧
      R (.ok (.ret (.ref s.heap.objs.size))) { s with heap := s.heap.push { cls := .type "enumerate", data := .fields #[.none, .bool false, .ref z, rawInt 0, .none, .none] } }) :=
  .of_wp fun prog w A R s h => by
    obtain ⟨hp, g, d, tk, os⟩ := s; obtain ⟨h1, h⟩ := h
    have hsub := sub_enumerate
    have q1 : ∀ {A' : Around} {E : Value → Shared → Prop} {Q : Value → Shared → Prop}, Q (.ref z) ⟨hp, g, d, tk, os⟩ → wpAny (model prog w) A' (pyIter (.ref z)) Q E ⟨hp, g, d, tk, os⟩ :=
      fun q => wpAny_pyIter_zip h1 q
    wp_walk using q1
    refine wpAny_stack_any fun st => wpAny_pure ?_
    split
    · rename_i c _ _ _ _ _
      cases (c == Value.type "enumerate")
      · wp_walk using q1
        exact ⟨_, rfl, h⟩
      · wp_walk using q1
        exact ⟨_, rfl, h⟩
    · wp_walk using q1
      exact ⟨_, rfl, h⟩
section
variable {prog : Program} {w : World} {A : Around} {E : Value → Shared → Prop} {s : Shared}
theorem call_enumB {v : Value} {o : Obj} {H : Heap → Prop} {Q : Value → Shared → Prop} (B : Begins v o H) (h1 : H s.heap)
    (h : ∀ h', IsEnum h' (s.heap.objs.size + 1) s.heap.objs.size 0 .none → h'.get? s.heap.objs.size = some o → h'.objs.size = s.heap.objs.size + 2 →
      (∀ b o, s.heap.get? b = some o → h'.get? b = some o) → Q (.ref (s.heap.objs.size + 1)) { s with heap := h' }) :
    wpAny (model prog w) A (call (.type "enumerate") [v]) Q E s := by
  refine callType_new F.called_enumerate (by decide) (F.typeCall_enumerate_1 _) (F.newCall_enumerate_1 _) (fun obj => F.args_object_init_2 obj _) F.entry_enumerate_new
    (meets_enumB B) ⟨h1, ?_⟩
  have hz : (s.heap.push o).objs.size = s.heap.objs.size + 1 := Heap.size_push ..
  show _ ∧ _
  rw [hz]
  have he : IsEnum ((s.heap.push o).push { cls := .type "enumerate", data := .fields #[.none, .bool false, .ref s.heap.objs.size, rawInt 0, .none, .none] }) (s.heap.objs.size + 1) s.heap.objs.size 0 .none := by
    have := Heap.get?_push_size (s.heap.push o) (o := { cls := .type "enumerate", data := .fields #[.none, .bool false, .ref s.heap.objs.size, rawInt 0, .none, .none] }) rfl
    rw [hz] at this; exact this
  refine ⟨⟨_, he, rfl⟩, h _ he (Heap.get?_push_of_some _ (Heap.get?_push_size _ B.free)) (by rw [Heap.size_push, hz]) fun b o x => Heap.get?_push_of_some _ (Heap.get?_push_of_some _ x)⟩
theorem call_enumZ {z TI TO : Addr} {Q : Value → Shared → Prop} (h1 : IsZip s.heap z TI TO .none)
    (h : ∀ h', IsEnum h' s.heap.objs.size z 0 .none → h'.objs.size = s.heap.objs.size + 1 → (∀ b o, s.heap.get? b = some o → h'.get? b = some o) → Q (.ref s.heap.objs.size) { s with heap := h' }) :
    wpAny (model prog w) A (call (.type "enumerate") [.ref z]) Q E s := by
  refine callType_new F.called_enumerate (by decide) (F.typeCall_enumerate_1 _) (F.newCall_enumerate_1 _) (fun obj => F.args_object_init_2 obj _) F.entry_enumerate_new
    (meets_enumZ (TI := TI) (TO := TO)) ⟨h1, ?_⟩
  show _ ∧ _
  have he : IsEnum (s.heap.push { cls := .type "enumerate", data := .fields #[.none, .bool false, .ref z, rawInt 0, .none, .none] }) s.heap.objs.size z 0 .none := Heap.get?_push_size _ rfl
  exact ⟨⟨_, he, rfl⟩, h _ he (by rw [Heap.size_push]) fun b o x => Heap.get?_push_of_some _ x⟩
end
def iEnumF (K : PySem.W.Frag) (ta : TA) : TI := fun σ H R => ta σ H fun vs H1 => ∃ t a xs, vs = [.ref a] ∧ SqK t K H1 a xs ∧ R (IteF t K a) H1
theorem pi_enumF {X : Cx} {e : Expr} {ta : TA} {p pos tpos : Pos} {elts : List Expr} {kk : Nat} (hg : Gl X "enumerate") (hm : X.mg "enumerate" = none) (ha : PA X [e] ta) (hs : starEach [e] X.env = [(false, eval e X.env)] := by rfl) :
    PI X (.Tuple elts kk tpos) (.Call (.Name "enumerate" p) [e] [] pos) (iEnumF X.K ta) := by
  refine ⟨fun pins s σ H R I h => ?_⟩
  refine Call_ (ld_blt I hg hm boot_enumerate (PyProof.Rows.callWith_type1 (thn (ha.run pos pins s σ H _ I h) fun us s1 ⟨vs, H1, I1, r1, q1⟩ => ?_) hs rfl))
  obtain ⟨t, a, xs, ex, hq, q⟩ := q1
  subst ex
  cases r1 with
  | cons r rr =>
    cases rr
    cases r
    have fp : ∀ b ∈ [s1.heap.objs.size + 1, s1.heap.objs.size], s1.heap.objs.size ≤ b := fun b hb => by
      have e' : b = s1.heap.objs.size + 1 ∨ b = s1.heap.objs.size := by simpa using hb
      rcases e' with z | z
      · rw [z]; exact Nat.le_add_right _ _
      · rw [z]; exact Nat.le_refl _
    obtain ⟨its, rv, p'⟩ := seq_k I1 hq
    refine call_enumB (begins_k t a its.toArray) p' fun h' he hit hsz hk => wpAny_pyIter_enum he ?_
    have I2 : Inv X pins σ H1 { s1 with heap := h' } := I1.kept (t' := s1.toks) hk
    have i1 : ItK t h' s1.heap.objs.size a 0 := by cases t <;> exact ⟨_, hit, rfl, rfl⟩
    exact ⟨s1.heap.objs.size + 1, [s1.heap.objs.size + 1, s1.heap.objs.size], _, _, H1, rfl, I2, turn_enumF a (s1.heap.objs.size + 1) s1.heap.objs.size, ⟨⟨.none, he⟩, i1, Nat.succ_ne_self _⟩, fun b hb => I1.fpOk (fp b hb) (I1.hok.fresh (fp b hb)), q⟩
/-- a zip's making, whatever is done with it -/
theorem run_zip {X : Cx} {e e2 : Expr} {ta : TA} {p pos : Pos} {pins : List (Addr × Obj)} {s : Shared} {σ : L2.St} {H : Hp} {Q : Value → Shared → Prop} (hg : Gl X "zip") (hm : X.mg "zip" = none) (ha : PA X [e, e2] ta) (I : Inv X pins σ H s)
    (hs : starEach [e, e2] X.env = (false, eval e X.env) :: starEach [e2] X.env) (hpl : (backTo pos (starEach [e2] X.env)).any (·.1) = false) {J : Bool → Bool → Addr → Addr → Hp → Prop}
    (h : ta σ H fun vs H1 => ∃ t1 t2 a b xs ys, vs = [.ref a, .ref b] ∧ SqK t1 X.K H1 a xs ∧ SqK t2 X.K H1 b ys ∧ J t1 t2 a b H1)
    (k : ∀ t1 t2 a b H1 (s1 : Shared) h' N, Inv X pins σ H1 { s1 with heap := h' } → J t1 t2 a b H1 → s1.heap.objs.size = N → Inv X pins σ H1 s1 → h'.objs.size = N + 5 → a < N → b < N → IsZip h' (N + 4) (N + 2) (N + 3) .none → ZAt h' t1 t2 a b (N + 4) (N + 2) (N + 3) N (N + 1) 0 → Q (.ref (N + 4)) { s1 with heap := h' }) :
    wpAny (model X.prog X.w) X.A (eval (.Call (.Name "zip" p) [e, e2] [] pos) X.env) Q X.xe s := by
  refine Call_ (ld_blt I hg hm PyProof.Rows.boot_zip (PyProof.Rows.callWith_type1 (thn (ha.run pos pins s σ H _ I h) fun us s1 ⟨vs, H1, I1, r1, q1⟩ => ?_) hs hpl))
  obtain ⟨t1, t2, a, b, xs, ys, ex, hqx, hqy, q⟩ := q1
  subst ex
  cases r1 with
  | cons r rr =>
    cases rr with
    | cons r' rr =>
      cases rr
      cases r
      cases r'
      obtain ⟨its, rv, p1⟩ := seq_k I1 hqx
      obtain ⟨its2, rv2, p2⟩ := seq_k I1 hqy
      have la : a < s1.heap.objs.size := by obtain ⟨o, e, _⟩ := p1.ob; exact Heap.lt_size e
      have lb : b < s1.heap.objs.size := by obtain ⟨o, e, _⟩ := p2.ob; exact Heap.lt_size e
      refine zip_begins2 (begins_k t1 a its.toArray) (begins_k t2 b its2.toArray) p1 p2 fun h' hz hTI hTO h1 h2 hsz hk => ?_
      have I2 : Inv X pins σ H1 { s1 with heap := h' } := I1.kept (t' := s1.toks) hk
      have i1 : ItK t1 h' s1.heap.objs.size a 0 := by cases t1 <;> exact ⟨_, h1, rfl, rfl⟩
      have i2 : ItK t2 h' (s1.heap.objs.size + 1) b 0 := by cases t2 <;> exact ⟨_, h2, rfl, rfl⟩
      exact k t1 t2 a b H1 s1 h' _ I2 q rfl I1 hsz la lb hz ⟨⟨_, _, hz, .inl rfl⟩, hTI, ⟨_, _, hTO⟩, i1, i2⟩
def iZipF (K : PySem.W.Frag) (ta : TA) : TI := fun σ H R => ta σ H fun vs H1 => ∃ t1 t2 a b xs ys, vs = [.ref a, .ref b] ∧ SqK t1 K H1 a xs ∧ SqK t2 K H1 b ys ∧ R (ItzF t1 t2 K a b) H1
def iEnumZ (K : PySem.W.Frag) (ta : TA) : TI := fun σ H R => ta σ H fun vs H1 => ∃ t1 t2 a b xs ys, vs = [.ref a, .ref b] ∧ SqK t1 K H1 a xs ∧ SqK t2 K H1 b ys ∧ R (IteZ t1 t2 K a b) H1
theorem sep5 {N a b : Addr} (la : a < N) (lb : b < N) : ZipSep2 (N + 4) (N + 2) (N + 3) N (N + 1) [N, a] [N + 1, b] :=
  zip_sep2 (fp1 := [a]) (fp2 := [b]) (fun c hc => by rw [List.mem_singleton] at hc; subst hc; exact la) (fun c hc => by rw [List.mem_singleton] at hc; subst hc; exact lb)
theorem ge5 {N c : Nat} (h : c ∈ [N + 4, N + 2, N + 3, N, N + 1]) : N ≤ c ∧ c < N + 5 := by
  simp only [List.mem_cons, List.not_mem_nil, or_false] at h
  omega
theorem pi_zipF {X : Cx} {e e2 : Expr} {ta : TA} {p pos tpos : Pos} {elts : List Expr} {kk : Nat} (hg : Gl X "zip") (hm : X.mg "zip" = none) (ha : PA X [e, e2] ta)
    (hs : starEach [e, e2] X.env = (false, eval e X.env) :: starEach [e2] X.env := by rfl) (hpl : (backTo pos (starEach [e2] X.env)).any (·.1) = false := by rfl) :
    PI X (.Tuple elts kk tpos) (.Call (.Name "zip" p) [e, e2] [] pos) (iZipF X.K ta) := by
  refine ⟨fun pins s σ H R I h => ?_⟩
  refine run_zip (J := fun t1 t2 a b H1 => R (ItzF t1 t2 X.K a b) H1) hg hm ha I hs hpl h fun t1 t2 a b H1 s1 h' N I2 q hN I1 hsz la lb hz za => wpAny_pyIter_zip hz ?_
  refine ⟨N + 4, [N + 4, N + 2, N + 3, N, N + 1], _, _, H1, rfl, I2, turn_zipF (sep5 la lb), ⟨hz, za⟩, fun c hcm => ?_, q⟩
  have hle : s1.heap.objs.size ≤ c := by rw [hN]; exact (ge5 hcm).1
  exact I1.fpOk hle (I1.hok.fresh hle)
theorem pi_enumZ {X : Cx} {e e2 : Expr} {ta : TA} {p p2 pos pos2 tpos : Pos} {elts : List Expr} {kk : Nat} (hge : Gl X "enumerate") (hme : X.mg "enumerate" = none) (hg : Gl X "zip") (hm : X.mg "zip" = none) (ha : PA X [e, e2] ta)
    (hs0 : starEach [.Call (.Name "zip" p2) [e, e2] [] pos2] X.env = [(false, eval (.Call (.Name "zip" p2) [e, e2] [] pos2) X.env)] := by rfl)
    (hs : starEach [e, e2] X.env = (false, eval e X.env) :: starEach [e2] X.env := by rfl) (hpl : (backTo pos2 (starEach [e2] X.env)).any (·.1) = false := by rfl) :
    PI X (.Tuple elts kk tpos) (.Call (.Name "enumerate" p) [.Call (.Name "zip" p2) [e, e2] [] pos2] [] pos) (iEnumZ X.K ta) := by
  refine ⟨fun pins s σ H R I h => ?_⟩
  refine Call_ (ld_blt I hge hme boot_enumerate (PyProof.Rows.callWith_type1 ?_ hs0 rfl))
  rw [hs0]
  show wpAny _ _ (spliced [(false, eval (.Call (.Name "zip" p2) [e, e2] [] pos2) X.env)]) _ _ s
  refine Calls.spliced_cons ?_
  refine run_zip (J := fun t1 t2 a b H1 => R (IteZ t1 t2 X.K a b) H1) hg hm ha I hs hpl h fun t1 t2 a b H1 s1 h' N I2 q hN I1 hsz la lb hz za => Calls.spliced_nil ?_
  refine call_enumZ hz fun h2 he hsz2 hk => wpAny_pyIter_enum he ?_
  have hsz : h'.objs.size = N + 5 := hsz
  have I3 : Inv X pins σ H1 { s1 with heap := h2 } := I2.kept (t' := s1.toks) hk
  have he : IsEnum h2 h'.objs.size (N + 4) 0 .none := he
  rw [hsz] at he
  show PIE X pins σ _ R (.ref h'.objs.size) { s1 with heap := h2 }
  rw [hsz]
  refine ⟨N + 5, [N + 5, N + 4, N + 2, N + 3, N, N + 1], _, _, H1, rfl, I3, turn_enumZ (sep5 la lb) (fun z => absurd (ge5 z).2 (Nat.lt_irrefl _)), ⟨⟨.none, he⟩, za.keep fun c hc o e => hk _ _ e⟩, fun c hcm => ?_, q⟩
  have hle : s1.heap.objs.size ≤ c := by
    rw [hN]
    rcases List.mem_cons.mp hcm with z | z
    · rw [z]; exact Nat.le_add_right _ _
    · exact (ge5 z).1
  exact I1.fpOk hle (I1.hok.fresh hle)
end DL
set_option Elab.async false
set_option linter.all false
set_option maxRecDepth 100000
set_option maxHeartbeats 1000000
set_option autoImplicit false
namespace DL
open PySem PySem.Spec PyProof.Rows L2
def seqS : PyData → Option (List PyData)
  | .list ds => some ds
  | .tuple ds => some ds
  | _ => none
def srcR (δ : SEnv) : R → Option (List PyData × SEnv)
  | .w d => (seqS d).bind fun ds => if ds.all scalar then some (ds, δ) else none
  | r => (frz δ r).bind fun p => (seqS p.1).map fun ds => (ds, p.2)
def srcR1 (δ : SEnv) : List R → Option (List PyData × SEnv)
  | [r] => srcR δ r
  | _ => none
def srcR2 (δ : SEnv) : List R → Option ((List PyData × List PyData) × SEnv)
  | [r1, r2] => (srcR δ r1).bind fun p => (srcR p.2 r2).map fun q => ((p.1, q.1), q.2)
  | _ => none
section
variable {K : PySem.W.Frag} {F B H : Hp} {vs : List V} {σ : L2.St} {δ : SEnv} {v : V}
/-- a sequence of these things stands at v -/
def SrcAt (K : PySem.W.Frag) (B : Hp) (v : V) (ds : List PyData) : Prop := ∃ t a xs, v = .ref a ∧ DDs B xs ds ∧ ∀ H, Same B H → SqK t K H a xs
theorem SrcAt.up {B B' : Hp} {ds : List PyData} (h : SrcAt K B v ds) (s : Same B B') : SrcAt K B' v ds := by
  obtain ⟨t, a, xs, e, q, f⟩ := h
  exact ⟨t, a, xs, e, q.mono s, fun H s1 => f H (s.trans s1)⟩
theorem src_dd {d : PyData} {ds : List PyData} (h : DD B v d) (e : seqS d = some ds) : SrcAt K B v ds := by
  cases h with
  | lst r q => cases e; exact ⟨false, _, _, rfl, q, fun H s => .inl (same_rd s r)⟩
  | tup r q => cases e; exact ⟨true, _, _, rfl, q, fun H s => .inl (r.mono s).rd⟩
  | _ => cases e
theorem srcR_ok {r : R} {ds : List PyData} {δ' : SEnv} (h : Rep K F B H vs σ δ) (hr : RepR K F B H σ δ v r) (e : srcR δ r = some (ds, δ')) : ∃ B', Same B B' ∧ Rep K F B' H vs σ δ' ∧ SrcAt K B' v ds := by
  have fr : ((frz δ r).bind fun p => (seqS p.1).map fun ds => (ds, p.2)) = some (ds, δ') → ∃ B', Same B B' ∧ Rep K F B' H vs σ δ' ∧ SrcAt K B' v ds := by
    intro e
    obtain ⟨⟨d, δ1⟩, e1, e2⟩ := Option.bind_eq_some_iff.mp e
    obtain ⟨ds', e3, e4⟩ := Option.map_eq_some_iff.mp e2
    cases e4
    obtain ⟨B', s, h', q⟩ := frz_ok h hr e1
    exact ⟨B', s, h', src_dd q e3⟩
  cases r with
  | w d =>
    obtain ⟨ds', e1, e2⟩ := Option.bind_eq_some_iff.mp e
    split at e2
    · rename_i hs
      cases e2
      refine ⟨B, Same.refl _, h, ?_⟩
      have q1 : Dp K (fun _ => none) v d := hr
      cases q1 with
      | lst r3 q3 => cases e1; exact ⟨false, _, _, rfl, dp_items q3 hs B, fun H s => L2.Same.seq (fun _ _ z => by cases z) r3⟩
      | tup r3 q3 =>
        cases e1
        refine ⟨true, _, _, rfl, dp_items q3 hs B, fun H s => ?_⟩
        rcases r3 with r3 | r3
        · exact .inl (same_rd (B := fun _ => none) (fun _ _ z => by cases z) r3)
        · exact .inr r3
      | _ => cases e1
    · cases e2
  | d d => exact fr e
  | o i => exact fr e
  | n c => exact fr e
theorem it_enumF {t : Bool} {a : Addr} {xs : List V} {ds : List PyData} (h : ∀ H, Same B H → SqK t K H a xs) (q : DDs B xs ds) : ItOk B (IteF t K a) (enumD ds) := by
  have hl : (enumD ds).length = ds.length := List.length_mapIdx
  refine ⟨fun i H s hi => ⟨xs, h H s, by rw [q.length, ← hl]; exact hi⟩, fun i H s hi => ?_, fun i H B2 x H' d s s2 y e => ?_⟩
  · have hx : i < xs.length := by rw [q.length, ← hl]; exact hi
    exact ⟨xs, xs[i], h H s, by simp [hx]⟩
  · obtain ⟨T, o, v, e1, e2, e3, ec, ed, y⟩ := y
    unfold enumD at e
    rw [List.getElem?_mapIdx] at e
    obtain ⟨d0, e4, e5⟩ := Option.map_eq_some_iff.mp e
    subst e5
    obtain ⟨v0, e6, p1⟩ := q.get e4
    have a1 := y xs (h H (s.trans s2))
    rw [e6] at a1; cases a1
    exact yl_tup s s2 e1 e2 e3 ec ed (.cons (.int _) (.cons p1 .nil))
theorem zip_at {ds es : List PyData} {i : Nat} {d : PyData} (e : (zipD ds es)[i]? = some d) : ∃ d0 d1, ds[i]? = some d0 ∧ es[i]? = some d1 ∧ d = .tuple [d0, d1] := by
  unfold zipD at e
  rw [List.getElem?_zipWith] at e
  cases e4 : ds[i]? with
  | none => rw [e4] at e; simp at e
  | some d0 =>
    cases e5 : es[i]? with
    | none => rw [e4, e5] at e; simp at e
    | some d1 =>
      rw [e4, e5] at e
      have e : some (PyData.tuple [d0, d1]) = some d := e
      exact ⟨d0, d1, rfl, rfl, (Option.some.inj e).symm⟩
theorem it_zipF {t1 t2 : Bool} {a b : Addr} {xs ys : List V} {ds es : List PyData} (h : ∀ H, Same B H → SqK t1 K H a xs) (q : DDs B xs ds) (h2 : ∀ H, Same B H → SqK t2 K H b ys) (q2 : DDs B ys es) : ItOk B (ItzF t1 t2 K a b) (zipD ds es) := by
  have hl : (zipD ds es).length = min ds.length es.length := List.length_zipWith
  refine ⟨fun i H s hi => ⟨xs, ys, h H s, h2 H s, by rw [hl] at hi; rw [q.length, q2.length]; omega⟩, fun i H s hi => ?_, fun i H B2 x H' d s s2 y e => ?_⟩
  · rw [hl] at hi
    have hx : i < xs.length := by rw [q.length]; omega
    have hy : i < ys.length := by rw [q2.length]; omega
    exact ⟨xs, ys, xs[i], ys[i], h H s, h2 H s, by simp [hx], by simp [hy]⟩
  · obtain ⟨T, o, v, u, e1, e2, e3, ec, ed, y1, y2⟩ := y
    obtain ⟨d0, d1, e4, e5, rfl⟩ := zip_at e
    obtain ⟨v0, e6, p1⟩ := q.get e4
    obtain ⟨u0, e7, p2⟩ := q2.get e5
    have a1 := y1 xs (h H (s.trans s2))
    have a2 := y2 ys (h2 H (s.trans s2))
    rw [e6] at a1; cases a1
    rw [e7] at a2; cases a2
    exact yl_tup s s2 e1 e2 e3 ec ed (.cons p1 (.cons p2 .nil))
theorem it_enumZ {t1 t2 : Bool} {a b : Addr} {xs ys : List V} {ds es : List PyData} (h : ∀ H, Same B H → SqK t1 K H a xs) (q : DDs B xs ds) (h2 : ∀ H, Same B H → SqK t2 K H b ys) (q2 : DDs B ys es) : ItOk B (IteZ t1 t2 K a b) (enumD (zipD ds es)) := by
  have hl : (enumD (zipD ds es)).length = min ds.length es.length := List.length_mapIdx.trans List.length_zipWith
  refine ⟨fun i H s hi => ⟨xs, ys, h H s, h2 H s, by rw [hl] at hi; rw [q.length, q2.length]; omega⟩, fun i H s hi => ?_, fun i H B2 x H' d s s2 y e => ?_⟩
  · rw [hl] at hi
    have hx : i < xs.length := by rw [q.length]; omega
    have hy : i < ys.length := by rw [q2.length]; omega
    exact ⟨xs, ys, xs[i], ys[i], h H s, h2 H s, by simp [hx], by simp [hy]⟩
  · obtain ⟨p, o, T, o2, v, u, e1, hp, hT, e3, ec, ed, ec2, ed2, y1, y2⟩ := y
    unfold enumD at e
    rw [List.getElem?_mapIdx] at e
    obtain ⟨d9, e8, e9⟩ := Option.map_eq_some_iff.mp e
    subst e9
    obtain ⟨d0, d1, e4, e5, rfl⟩ := zip_at e8
    obtain ⟨v0, e6, p1⟩ := q.get e4
    obtain ⟨u0, e7, p2⟩ := q2.get e5
    have a1 := y1 xs (h H (s.trans s2))
    have a2 := y2 ys (h2 H (s.trans s2))
    rw [e6] at a1; cases a1
    rw [e7] at a2; cases a2
    obtain ⟨B3, s3, g3, q3⟩ := yl_tup (x := .ref p) (H' := upd H p (.frz o (.tup [v, u]))) s s2 rfl hp rfl ec ed (.cons p1 (.cons p2 .nil))
    -- the heap behind the inner pair holds B3
    refine ⟨upd (upd B2 p (.frz o (.tup [v, u]))) T (.frz o2 (.tup [.int (i : Nat), .ref p])), ?_, ?_, ?_⟩
    · have hB2p := nof s2 hp
      have s4 : Same (upd B2 p (.frz o (.tup [v, u]))) (upd H p (.frz o (.tup [v, u]))) := fun c w z => by
        by_cases hc : c = p
        · subst hc; rw [upd_same] at z ⊢; exact z
        · rw [upd_ne hc] at z ⊢; exact s2 c w z
      exact (same_new hB2p _).trans (same_new (nof s4 hT) _)
    · intro K' F' vs' σ' δ' hr
      subst e3
      exact (hr.new hp _).new hT _
    · have hB2p := nof s2 hp
      have s4 : Same (upd B2 p (.frz o (.tup [v, u]))) (upd H p (.frz o (.tup [v, u]))) := fun c w z => by
        by_cases hc : c = p
        · subst hc; rw [upd_same] at z ⊢; exact z
        · rw [upd_ne hc] at z ⊢; exact s2 c w z
      have hBT := nof s4 hT
      have r1 : DD (upd B2 p (.frz o (.tup [v, u]))) (.ref p) (.tuple [d0, d1]) := DD.tup ⟨o, upd_same, ec, ed⟩ (.cons (p1.mono (s.trans (same_new hB2p _))) (.cons (p2.mono (s.trans (same_new hB2p _))) .nil))
      rw [e1]
      exact DD.tup ⟨o2, upd_same, ec2, ed2⟩ (.cons (.int _) (.cons (r1.mono (same_new hBT _)) .nil))
end
def wEnumW (wr : WA) : WI := fun Ex δ P => wr Ex δ fun rs δ1 => ob (srcR1 δ1 rs) fun p => P (enumD p.1) p.2
def wZipW (wr : WA) : WI := fun Ex δ P => wr Ex δ fun rs δ1 => ob (srcR2 δ1 rs) fun p => P (zipD p.1.1 p.1.2) p.2
def wEnumZ (wr : WA) : WI := fun Ex δ P => wr Ex δ fun rs δ1 => ob (srcR2 δ1 rs) fun p => P (enumD (zipD p.1.1 p.1.2)) p.2
section
variable {S : Sg}
theorem src2_ok {K : PySem.W.Frag} {F B H : Hp} {vs ws : List V} {σ : L2.St} {δ δ' : SEnv} {rs : List R} {p : List PyData × List PyData} (h : Rep K F B H vs σ δ) (hr : RepRs K F B H σ δ ws rs) (e : srcR2 δ rs = some (p, δ')) :
    ∃ B' v1 v2, ws = [v1, v2] ∧ Same B B' ∧ Rep K F B' H vs σ δ' ∧ SrcAt K B' v1 p.1 ∧ SrcAt K B' v2 p.2 := by
  unfold srcR2 at e
  split at e
  · obtain ⟨⟨ds, δ1⟩, e1, e2⟩ := Option.bind_eq_some_iff.mp e
    obtain ⟨⟨es, δ2⟩, e3, e4⟩ := Option.map_eq_some_iff.mp e2
    cases e4
    cases hr with
    | cons a1 a2 =>
      cases a2 with
      | cons a2 a3 =>
        cases a3
        obtain ⟨B1, s1, h1, q1⟩ := srcR_ok h a1.1 e1
        obtain ⟨B2, s2, h2, q2⟩ := srcR_ok h1 (RepR.up s1 a2.1 a2.2) e3
        exact ⟨B2, _, _, rfl, s1.trans s2, h2, q1.up s2, q2⟩
  · cases e
theorem di_enumW {e : Expr} {wr : WA} {p pos tpos : Pos} {elts : List Expr} {kk : Nat} (hg : GlS S.sc "enumerate") (hm : S.g.mg "enumerate" = none) (ha : DA S [e] wr) (hs : ∀ env, starEach [e] env = [(false, eval e env)] := by intro _; rfl) :
    DI S (.Tuple elts kk tpos) (.Call (.Name "enumerate" p) [e] [] pos) (wEnumW wr) := by
  obtain ⟨t, pa, s⟩ := ha
  refine ⟨iEnumF S.g.K t, fun c hc => pi_enumF (X := S.g.cx c) (gl_of hc hg) hm (pa c hc) (hs _), ⟨fun Ex Ex' δ P P' hx h w => s.mono _ _ _ _ _ hx (fun r δ1 w => w.imp fun p w => h _ _ w) w, fun Ex F B H vs σ δ P R' hx h w k => ?_⟩⟩
  refine s.run _ _ _ _ _ _ _ _ _ hx h w fun B1 H1 ws rs δ1 s1 h1 q1 w1 => ?_
  obtain ⟨⟨ds, δ2⟩, e1, w1⟩ := w1
  unfold srcR1 at e1
  split at e1
  · cases q1 with
    | cons a1 a2 =>
      cases a2
      obtain ⟨B2, s2, h2, t, a, xs, rfl, q, f⟩ := srcR_ok h1 a1.1 e1
      exact ⟨t, a, xs, rfl, f H1 h2.sb, k B2 H1 _ _ δ2 (s1.trans s2) h2 (it_enumF f q) w1⟩
  · cases e1
theorem di_zipW {e e2 : Expr} {wr : WA} {p pos tpos : Pos} {elts : List Expr} {kk : Nat} (hg : GlS S.sc "zip") (hm : S.g.mg "zip" = none) (ha : DA S [e, e2] wr) (hs : ∀ env, starEach [e, e2] env = (false, eval e env) :: starEach [e2] env := by intro _; rfl) (hp : ∀ env, (backTo pos (starEach [e2] env)).any (·.1) = false := by intro _; rfl) :
    DI S (.Tuple elts kk tpos) (.Call (.Name "zip" p) [e, e2] [] pos) (wZipW wr) := by
  obtain ⟨t, pa, s⟩ := ha
  refine ⟨iZipF S.g.K t, fun c hc => pi_zipF (X := S.g.cx c) (gl_of hc hg) hm (pa c hc) (hs _) (hp _), ⟨fun Ex Ex' δ P P' hx h w => s.mono _ _ _ _ _ hx (fun r δ1 w => w.imp fun p w => h _ _ w) w, fun Ex F B H vs σ δ P R' hx h w k => ?_⟩⟩
  refine s.run _ _ _ _ _ _ _ _ _ hx h w fun B1 H1 ws rs δ1 s1 h1 q1 w1 => ?_
  obtain ⟨⟨⟨ds, es⟩, δ2⟩, e1, w1⟩ := w1
  obtain ⟨B2, v1, v2, rfl, s2, h2, ⟨t1, a, xs, rfl, qa, fa⟩, t2, b, ys, rfl, qb, fb⟩ := src2_ok h1 q1 e1
  exact ⟨t1, t2, a, b, xs, ys, rfl, fa H1 h2.sb, fb H1 h2.sb, k B2 H1 _ _ δ2 (s1.trans s2) h2 (it_zipF fa qa fb qb) w1⟩
theorem di_enumZ {e e2 : Expr} {wr : WA} {p p2 pos pos2 tpos : Pos} {elts : List Expr} {kk : Nat} (hge : GlS S.sc "enumerate") (hme : S.g.mg "enumerate" = none) (hg : GlS S.sc "zip") (hm : S.g.mg "zip" = none) (ha : DA S [e, e2] wr)
    (hs0 : ∀ env, starEach [.Call (.Name "zip" p2) [e, e2] [] pos2] env = [(false, eval (.Call (.Name "zip" p2) [e, e2] [] pos2) env)] := by intro _; rfl)
    (hs : ∀ env, starEach [e, e2] env = (false, eval e env) :: starEach [e2] env := by intro _; rfl) (hp : ∀ env, (backTo pos2 (starEach [e2] env)).any (·.1) = false := by intro _; rfl) :
    DI S (.Tuple elts kk tpos) (.Call (.Name "enumerate" p) [.Call (.Name "zip" p2) [e, e2] [] pos2] [] pos) (wEnumZ wr) := by
  obtain ⟨t, pa, s⟩ := ha
  refine ⟨iEnumZ S.g.K t, fun c hc => pi_enumZ (X := S.g.cx c) (gl_of hc hge) hme (gl_of hc hg) hm (pa c hc) (hs0 _) (hs _) (hp _), ⟨fun Ex Ex' δ P P' hx h w => s.mono _ _ _ _ _ hx (fun r δ1 w => w.imp fun p w => h _ _ w) w, fun Ex F B H vs σ δ P R' hx h w k => ?_⟩⟩
  refine s.run _ _ _ _ _ _ _ _ _ hx h w fun B1 H1 ws rs δ1 s1 h1 q1 w1 => ?_
  obtain ⟨⟨⟨ds, es⟩, δ2⟩, e1, w1⟩ := w1
  obtain ⟨B2, v1, v2, rfl, s2, h2, ⟨t1, a, xs, rfl, qa, fa⟩, t2, b, ys, rfl, qb, fb⟩ := src2_ok h1 q1 e1
  exact ⟨t1, t2, a, b, xs, ys, rfl, fa H1 h2.sb, fb H1 h2.sb, k B2 H1 _ _ δ2 (s1.trans s2) h2 (it_enumZ fa qa fb qb) w1⟩
end
end DL
set_option Elab.async false
set_option linter.all false
set_option maxRecDepth 100000
set_option maxHeartbeats 1000000
set_option autoImplicit false
/-! x in a tuple of any data. -/
namespace DL
open PySem PySem.Spec PyProof.Rows L2
def inT (neg : Bool) (a b : Vw) : Option Rv := match a, b with
  | .d d, .d (.tuple ds) => if SeqAt.shaped d && SeqAt.shaped (.tuple ds) then some (.val (.bool (if neg then !(ds.any fun z => PyData.eqv z d) else ds.any fun z => PyData.eqv z d))) else inN neg (.d d) (.d (.tuple ds))
  | a, b => inN neg a b
theorem room_tup {A : Around} {d : PyData} {n : Nat} (hd : SeqAt.shaped d = true) (h : A.units + 65 < cLine) : A.units + d.depth + 1 < cLine := by
  have := SeqAt.depth_of_shaped hd
  omega
theorem os_inT_ {S : Sg} (neg : Bool) : OpS S (compareOp (if neg then .NotIn else .In)) (inT neg) := by
  rintro c hc pins s σ H x y v u Q I rx ry ⟨B, a, b, rv, sB, oa, ob, e, k⟩
  have hu : (S.g.cx c).A.units + 65 < cLine := by have := hc.room.un; show c.A.units + 65 < cLine; omega
  unfold inT at e
  split at e
  · split at e
    · rename_i hs
      cases e
      rw [Bool.and_eq_true] at hs
      obtain ⟨as, r1⟩ := Dp.reads I _ x v (OV.dp sB oa) rx
      obtain ⟨bs, r2⟩ := Dp.reads I _ y u (OV.dp sB ob) ry
      cases neg
      · exact SeqAt.in_tuple_reads r2 r1 (SeqAt.canLay_of_shaped hs.2) (SeqAt.canLay_of_shaped hs.1) (room_in_shaped hs.1 hu) ⟨.bl _, H, I, rfl, k _ (.bl _)⟩
      · exact SeqAt.notIn_tuple_reads r2 r1 (SeqAt.canLay_of_shaped hs.2) (SeqAt.canLay_of_shaped hs.1) (room_in_shaped hs.1 hu) ⟨.bl _, H, I, rfl, k _ (.bl _)⟩
    · exact os_inN_ neg c hc pins s σ H x y v u Q I rx ry ⟨B, _, _, rv, sB, oa, ob, e, k⟩
  · exact os_inN_ neg c hc pins s σ H x y v u Q I rx ry ⟨B, _, _, rv, sB, oa, ob, e, k⟩
theorem inT_scal {neg : Bool} {d : PyData} {ds : List PyData} (h : scalar d = true) (h2 : ds.all scalar = true) : inT neg (.d d) (.d (.tuple ds)) = some (.val (.bool (if neg then !(ds.any fun z => PyData.eqv z d) else ds.any fun z => PyData.eqv z d))) := by
  unfold inT
  simp only
  split
  · rfl
  · have e : inN neg (.d d) (.d (.tuple ds)) = inG neg (.d d) (.d (.tuple ds)) := by
      unfold inN
      split <;> first | rfl | (rename_i h1 h3; cases h3)
    rw [e]
    unfold inG inB
    simp only
    rw [if_pos (by rw [h, h2]; rfl)]
    rfl
theorem inT_shaped {neg : Bool} {d : PyData} {ds : List PyData} (h : SeqAt.shaped d = true) (h2 : SeqAt.shaped (.tuple ds) = true) : inT neg (.d d) (.d (.tuple ds)) = some (.val (.bool (if neg then !(ds.any fun z => PyData.eqv z d) else ds.any fun z => PyData.eqv z d))) := by
  unfold inT
  simp only
  rw [if_pos (by rw [h, h2]; rfl)]
theorem os_inT {S : Sg} : OpS S (compareOp .In) (inT false) := os_inT_ false
theorem os_notinT {S : Sg} : OpS S (compareOp .NotIn) (inT true) := os_inT_ true
end DL
set_option Elab.async false
set_option linter.all false
set_option maxRecDepth 100000
set_option maxHeartbeats 1000000
set_option autoImplicit false
/-! if said(lambda: body)[0] == 'told': .. -/
namespace DL
open PySem PySem.Spec PyProof.Rows L2 LamX
def headS : R → Option Str
  | .d (.tuple (.str s :: _)) => some s
  | _ => none
def wIfSaid (CN : Addr) (f1 f2 : Str) (wb : WE) (t : Str) (wa : WS) : WS := fun d δ => wSaid CN f1 f2 wb d.ex δ fun r δ1 => ob (headS r) fun s => if s = t then wa d δ1 else d.nx δ1
theorem dd_head {B H : Hp} {K : PySem.W.Frag} {v : V} {r : R} {s : Str} {d : PyData} (h : headS (.d d) = some s) : ∃ rest, d = .tuple (.str s :: rest) := by
  unfold headS at h
  split at h
  · rename_i e
    cases e
    cases h
    exact ⟨_, rfl⟩
  · cases h
section
variable {S : Sg} {cc P gS CD CR CT CO CN CP : Addr} {q x a fo e st f1 f2 t : Str} {p : Nat → Pos} {stS : Stmt} {fdS : FuncData} {params : Arguments} {body : Expr} {scope : Scope} {lpos pp pos p1 p2 p3 p4 p5 : Pos} {j1 j2 : Nat} {kl : Nat} {wb : WE} {wa : WS} {ss : List Stmt}
theorem dsT_ifSaid (hk : kl + 2 ≤ S.k) (hg : GlS S.sc x) (hm : S.g.mg x = some (.ref gS)) (SF : SaidF S.g.K x a fo e st f1 f2 p stS gS fdS) (SC : SaidC S.g.K S.g.mg CD CR CT CO CN CP f1 f2) (hne : (f1 == f2) = false)
    (L : lamSB S.sc scope = true) (hdef : ∀ env, defaultsOf params env = ([], [])) (hbind : ∀ (q : Str) (cl : List (Str × Addr)) (pm cv ctv : Value), bindArgs (PySem.W.kla_fn "<lambda>" q params body scope cl pm cv ctv) ⟨[], []⟩ = pure [])
    (hb : ∀ E, DE ⟨S.g, S.g.ex, S.N, scope, kl, E, false, false⟩ body wb) (ha : DSsT S cc P q ss wa) (hdb : (x == ("__debug__" : Str)) = false := by decide) :
    DST S cc P q (.If (.Compare (.Subscript (.Call (.Name x pp) [.Lambda params body scope lpos] [] pos) (.Constant (.int 0) j1 p1) p2) [.Eq] [.Constant (.str t) j2 p3] p4) ss [] p5) (wIfSaid CN f1 f2 wb t wa) := by
  have ch : ∃ tb : XK → TE, ∀ E, (∀ c, (⟨S.g, S.g.ex, S.N, scope, kl, E, false, false⟩ : Sg).ok c → PE (S.g.cx c) body (tb E)) ∧ ESim S.g.K E (tb E) wb := ⟨fun E => (hb E).choose, fun E => (hb E).choose_spec⟩
  obtain ⟨tb, hpe⟩ := ch
  obtain ⟨ta, pa, sa⟩ := ha
  refine ⟨tIfS (tTest (tOp (rF S.g.K eqF) (tOp (rF S.g.K idxF) (fun σ H Q => Tabs [(P, q)] H ∧ ∀ H1, ExtN H H1 → Tabs [(P, q)] H1 → TTsaid CR CT CO CN f1 f2 (TL tb σ) H1 Q) (tC (.int 0))) (tC (.str t)))) ta tNext, fun c hc => ?_, ⟨fun d d' δ h w => ?_, fun F B H vs σ δ D d hT hx h k w => ?_⟩⟩
  · have Lc : LamS c.env.scope scope := by rw [hc.ok.hs]; exact lamS_by L
    have pe := pe_said (X := S.g.cx c) (cc := cc) (P := P) (lpos := lpos) (pp := pp) (pos := pos) (k := kl) (tb := tb) (gl_of hc.ok hg) hm SF SC hc.tab hc.code hc.ok.gd (hc.ok.room.mono hk) Lc (hdef _) hbind (fun A outer s1 HZ E f c' hgd hr => by
      let Y := lamCx (S.g.cx c) A outer s1 HZ E scope f c'
      have tk : Takes Y fun cls d _ H => E cls d H := takes_of rfl rfl rfl rfl
      exact (hpe E).1 ⟨Y.A, Y.N, Y.s_0, Y.H_0, Y.env, Y.outer, Y.stack, Y.ex, Y.fn, Y.calm, Y.pn, Y.xe⟩ ⟨hc.ok.hN, hc.ok.nd, rfl, rfl, hr, passes_call tk fun _ _ _ _ h => h, passes_of (X := Y) rfl, (fun z => nomatch z), hgd, (fun z => nomatch z)⟩) hdb
    have eq : (S.g.cx c).env.qual ++ "<lambda>" = q := hc.qual.symm
    rw [eq] at pe
    exact ps_if (pt_cmpR (os_eq c hc.ok) (pe_ix (ix_all c hc.ok) pe pe_int (fun _ _ => rfl)) pe_str rfl) (pa c hc) pss_nil
  · have go : ∀ s : Str, (if s = t then wa d δ else d.nx δ) → if s = t then wa d' δ else d'.nx δ := fun s w => by
      by_cases h1 : s = t
      · rw [if_pos h1] at w ⊢; exact sa.mono _ _ _ h w
      · rw [if_neg h1] at w ⊢; exact h.nx _ w
    exact (hpe fun _ _ _ => False).2.mono _ _ _ _ _ (fun exc ⟨d1, d2, e, s, e2, w⟩ => ⟨d1, d2, e, s, e2, go s w⟩) (fun r δ1 w => w.imp fun p ⟨s, e2, w⟩ => ⟨s, e2, go s w⟩) w
  · refine said_run (Ex := d.ex) (Pd := fun r δ1 => ob (headS r) fun s => if s = t then wa d δ1 else d.nx δ1) hne (fun E => (hpe E).2) hT h w fun F' B' H' v d0 hT' s1 R dd w => ?_
    obtain ⟨s, e2, w⟩ := w
    obtain ⟨rest, rfl⟩ := dd_head (B := B') (H := H') (K := S.g.K) (v := v) (r := .d d0) e2
    refine ⟨B', .d (.tuple (.str s :: rest)), .d (.int 0), .val (.str s), R.sb, .inl dd, .inl (.int 0), (show (atI (PyData.str s :: rest) ((0 : Nat) : Int)).map Rv.val = _ by rw [atI_nat (v := .str s) rfl]; rfl), fun z hz => ?_⟩
    refine ⟨B', .d (.str s), .d (.str t), .val (.bool (PyData.eqv (.str s) (.str t))), R.sb, .inl hz, .inl (.str t), ?_, fun y hy => ?_⟩
    · show (if SeqAt.shaped (.str s) && SeqAt.shaped (.str t) || strs2 (.str s) (.str t) then _ else none) = _
      rw [if_pos (by rw [show strs2 (.str s) (.str t) = true from rfl, Bool.or_true])]
      rfl
    · cases hy
      refine ⟨_, rfl, ?_⟩
      rw [← str_beq]
      by_cases h1 : s = t
      · rw [if_pos h1] at w
        rw [decide_eq_true (show V.str s = V.str t by rw [h1])]
        exact sa.run _ _ _ _ _ _ _ _ hT' hx R (k.up s1) w
      · rw [if_neg h1] at w
        rw [decide_eq_false (show ¬ V.str s = V.str t from fun z => h1 (by cases z; rfl))]
        exact k.nx F' B' _ H' _ hT' s1 R w
end
end DL
set_option Elab.async false
set_option linter.all false
set_option maxRecDepth 100000
set_option maxHeartbeats 4000000
set_option autoImplicit false
namespace V41
open PySem PySem.Spec PyProof.Rows L2 DL
/-! ### the text by places -/
def top (i : Nat) : Stmt := PySem.Challenge.pw_drawerways_k41_whole_ring_or_ranks.main.body.getD i (.Pass ⟨0, 0, 0, 0⟩)
abbrev s_is_number : Stmt := top 1
abbrev s_is_tuple_of : Stmt := top 2
abbrev s_is_pair_of_numbers : Stmt := top 3
abbrev s_waiting_pairs : Stmt := top 5
abbrev s_ring_or_ranks : Stmt := top 6
abbrev s_walked_from : Stmt := top 7
abbrev s_lets_ring : Stmt := top 16
abbrev s_lets_ranks : Stmt := top 17
abbrev s_tape : Stmt := top 19
abbrev s_pick : Stmt := top 20
abbrev s_waits : Stmt := top 21
abbrev s_wanting : Stmt := top 22
abbrev s_ringed : Stmt := top 23
abbrev s_said : Stmt := top 24
abbrev s_law : Stmt := top 25
/-! ### is_number -/
theorem sc_is_number : FnScope ["thing"] ["thing"] (defScope s_is_number) := ⟨rfl, rfl, rfl, by decide +kernel, rfl, by decide +kernel, by decide +kernel⟩
@[irreducible] def t_is_number_1 : WS := (wRet (wAndV (wIsi "int" (wVar 0)) (wAndV (wNotV (wIsi "bool" (wVar 0))) (wOp geF (wVar 0) (wC (.int 0))))))
def w_is_number : WS := ((wRet (wAndV (wIsi "int" (wVar 0)) (wAndV (wNotV (wIsi "bool" (wVar 0))) (wOp geF (wVar 0) (wC (.int 0)))))))
theorem w_is_number_eq : w_is_number = (t_is_number_1) := by with_unfolding_all rfl
theorem df_is_number {g : Gx} {k : Nat} (m_isinstance : g.mg "isinstance" = none) (m_bool : g.mg "bool" = none) (m_int : g.mg "int" = none) {f : Addr} {fd : FuncData} (Fn : Fun g.K "is_number" "is_number" s_is_number f fd) : FnG g CX0 (k + 1) f fd ["thing"] (spOf g.K 1 (fnW 1 1 w_is_number)) :=
  fn_dl (N := ["thing"]) Fn sc_is_number (fun E => (ds_one (ds_ret (de_and (de_isi (T := "int") rfl rfl m_isinstance rfl m_int rfl (de_var (i := 0) rfl (by first | exact .inl rfl | exact .inr (.inl rfl) | exact .inr (.inr rfl)))) (de_and (de_not (de_isi (T := "bool") rfl rfl m_isinstance rfl m_bool rfl (de_var (i := 0) rfl (by first | exact .inl rfl | exact .inr (.inl rfl) | exact .inr (.inr rfl))))) (de_one (de_cmp os_ge (de_var (i := 0) rfl (by first | exact .inl rfl | exact .inr (.inl rfl) | exact .inr (.inr rfl))) de_int rfl))))))) (by decide)
theorem bd_is_number {K : PySem.W.Frag} {f : Addr} {fd : FuncData} (Fn : Fun K "is_number" "is_number" s_is_number f fd) : Binds K fd ["thing"] [] := Fn.binds (ps := ["thing"]) fun _ _ _ _ _ _ us hl => match us, hl with | [_], _ => rfl
theorem cal_is_number {g : Gx} {k : Nat} {W : FSpec} (m_isinstance : g.mg "isinstance" = none) (m_bool : g.mg "bool" = none) (m_int : g.mg "int" = none) (h : Got g "is_number" s_is_number) (im : ∀ ss Ex P, W ss Ex P → fnW 1 1 w_is_number ss Ex P) : Cal g CX0 (k + 1) "is_number" ["thing"] W := by
  obtain ⟨f, fd, m, F⟩ := h
  exact Cal.imp ⟨f, fd, df_is_number    m_isinstance m_bool m_int  F, m, F.kp, bd_is_number F⟩ im
/-! ### is_tuple_of -/
theorem sc_is_tuple_of : FnScope ["thing", "many"] ["thing", "many"] (defScope s_is_tuple_of) := ⟨rfl, rfl, rfl, by decide +kernel, rfl, by decide +kernel, by decide +kernel⟩
@[irreducible] def t_is_tuple_of_1 : WS := (wRet (wAndV (wIsi "tuple" (wVar 0)) (wOp eqF (wCB lenF (wCons (wVar 0) wNil)) (wVar 1))))
def w_is_tuple_of : WS := ((wRet (wAndV (wIsi "tuple" (wVar 0)) (wOp eqF (wCB lenF (wCons (wVar 0) wNil)) (wVar 1)))))
theorem w_is_tuple_of_eq : w_is_tuple_of = (t_is_tuple_of_1) := by with_unfolding_all rfl
theorem df_is_tuple_of {g : Gx} {k : Nat} (m_len : g.mg "len" = none) (m_isinstance : g.mg "isinstance" = none) (m_tuple : g.mg "tuple" = none) {f : Addr} {fd : FuncData} (Fn : Fun g.K "is_tuple_of" "is_tuple_of" s_is_tuple_of f fd) : FnG g CX0 (k + 1) f fd ["thing", "many"] (spOf g.K 2 (fnW 2 2 w_is_tuple_of)) :=
  fn_dl (N := ["thing", "many"]) Fn sc_is_tuple_of (fun E => (ds_one (ds_ret (de_and (de_isi (T := "tuple") rfl rfl m_isinstance rfl m_tuple rfl (de_var (i := 0) rfl (by first | exact .inl rfl | exact .inr (.inl rfl) | exact .inr (.inr rfl)))) (de_one (de_cmp os_eq (de_callB cs_len rfl m_len rfl (da_cons (de_var (i := 0) rfl (by first | exact .inl rfl | exact .inr (.inl rfl) | exact .inr (.inr rfl))) da_nil)) (de_var (i := 1) rfl (by first | exact .inl rfl | exact .inr (.inl rfl) | exact .inr (.inr rfl))) rfl)))))) (by decide)
theorem bd_is_tuple_of {K : PySem.W.Frag} {f : Addr} {fd : FuncData} (Fn : Fun K "is_tuple_of" "is_tuple_of" s_is_tuple_of f fd) : Binds K fd ["thing", "many"] [] := Fn.binds (ps := ["thing", "many"]) fun _ _ _ _ _ _ us hl => match us, hl with | [_, _], _ => rfl
theorem cal_is_tuple_of {g : Gx} {k : Nat} {W : FSpec} (m_len : g.mg "len" = none) (m_isinstance : g.mg "isinstance" = none) (m_tuple : g.mg "tuple" = none) (h : Got g "is_tuple_of" s_is_tuple_of) (im : ∀ ss Ex P, W ss Ex P → fnW 2 2 w_is_tuple_of ss Ex P) : Cal g CX0 (k + 1) "is_tuple_of" ["thing", "many"] W := by
  obtain ⟨f, fd, m, F⟩ := h
  exact Cal.imp ⟨f, fd, df_is_tuple_of    m_len m_isinstance m_tuple  F, m, F.kp, bd_is_tuple_of F⟩ im
/-! ### is_pair_of_numbers -/
theorem sc_is_pair_of_numbers : FnScope ["thing"] ["thing"] (defScope s_is_pair_of_numbers) := ⟨rfl, rfl, rfl, by decide +kernel, rfl, by decide +kernel, by decide +kernel⟩
@[irreducible] def t_is_pair_of_numbers_1 (C_is_number C_is_tuple_of : FSpec) : WS := (wRet (wAndV (wCall 2 C_is_tuple_of [false, false] (wCons (wVar 0) (wCons (wC (.int 2)) wNil))) (wAndV (wCall 1 C_is_number [false] (wCons (wOp idxF (wVar 0) (wC (.int 0))) wNil)) (wCall 1 C_is_number [false] (wCons (wOp idxF (wVar 0) (wC (.int 1))) wNil)))))
def w_is_pair_of_numbers (C_is_number C_is_tuple_of : FSpec) : WS := ((wRet (wAndV (wCall 2 C_is_tuple_of [false, false] (wCons (wVar 0) (wCons (wC (.int 2)) wNil))) (wAndV (wCall 1 C_is_number [false] (wCons (wOp idxF (wVar 0) (wC (.int 0))) wNil)) (wCall 1 C_is_number [false] (wCons (wOp idxF (wVar 0) (wC (.int 1))) wNil))))))
theorem w_is_pair_of_numbers_eq (C_is_number C_is_tuple_of : FSpec) : w_is_pair_of_numbers C_is_number C_is_tuple_of = (t_is_pair_of_numbers_1 C_is_number C_is_tuple_of) := by with_unfolding_all rfl
theorem df_is_pair_of_numbers {g : Gx} {k : Nat} {C_is_number C_is_tuple_of : FSpec} (mono_is_number : FMono C_is_number) (c_is_number : Cal g CX0 k "is_number" ["thing"] C_is_number) (mono_is_tuple_of : FMono C_is_tuple_of) (c_is_tuple_of : Cal g CX0 k "is_tuple_of" ["thing", "many"] C_is_tuple_of) {f : Addr} {fd : FuncData} (Fn : Fun g.K "is_pair_of_numbers" "is_pair_of_numbers" s_is_pair_of_numbers f fd) : FnG g CX0 (k + 1) f fd ["thing"] (spOf g.K 1 (fnW 1 1 (w_is_pair_of_numbers C_is_number C_is_tuple_of))) :=
  fn_dl (N := ["thing"]) Fn sc_is_pair_of_numbers (fun E => (ds_one (ds_ret (de_and (de_cal (ms := [false, false]) c_is_tuple_of mono_is_tuple_of rfl (da_cons (de_var (i := 0) rfl (by first | exact .inl rfl | exact .inr (.inl rfl) | exact .inr (.inr rfl))) (da_cons de_int da_nil))) (de_and (de_cal (ms := [false]) c_is_number mono_is_number rfl (da_cons (de_ix (de_var (i := 0) rfl (by first | exact .inl rfl | exact .inr (.inl rfl) | exact .inr (.inr rfl))) de_int) da_nil)) (de_one (de_cal (ms := [false]) c_is_number mono_is_number rfl (da_cons (de_ix (de_var (i := 0) rfl (by first | exact .inl rfl | exact .inr (.inl rfl) | exact .inr (.inr rfl))) de_int) da_nil)))))))) (by decide)
theorem bd_is_pair_of_numbers {K : PySem.W.Frag} {f : Addr} {fd : FuncData} (Fn : Fun K "is_pair_of_numbers" "is_pair_of_numbers" s_is_pair_of_numbers f fd) : Binds K fd ["thing"] [] := Fn.binds (ps := ["thing"]) fun _ _ _ _ _ _ us hl => match us, hl with | [_], _ => rfl
theorem cal_is_pair_of_numbers {g : Gx} {k : Nat} {C_is_number C_is_tuple_of : FSpec} {W : FSpec} (mono_is_number : FMono C_is_number) (c_is_number : Cal g CX0 k "is_number" ["thing"] C_is_number) (mono_is_tuple_of : FMono C_is_tuple_of) (c_is_tuple_of : Cal g CX0 k "is_tuple_of" ["thing", "many"] C_is_tuple_of) (h : Got g "is_pair_of_numbers" s_is_pair_of_numbers) (im : ∀ ss Ex P, W ss Ex P → fnW 1 1 (w_is_pair_of_numbers C_is_number C_is_tuple_of) ss Ex P) : Cal g CX0 (k + 1) "is_pair_of_numbers" ["thing"] W := by
  obtain ⟨f, fd, m, F⟩ := h
  exact Cal.imp ⟨f, fd, df_is_pair_of_numbers mono_is_number c_is_number mono_is_tuple_of c_is_tuple_of     F, m, F.kp, bd_is_pair_of_numbers F⟩ im
/-! ### waiting_pairs -/
theorem sc_waiting_pairs : FnScope ["rows", "holders", "hand", "holds", "_", "lock", "wants"] ["rows"] (defScope s_waiting_pairs) := ⟨rfl, rfl, rfl, by decide +kernel, rfl, by decide +kernel, by decide +kernel⟩
@[irreducible] def t_waiting_pairs_1 : WS := (wRet (wCB tupleF (wCons (wLc (wIt (wVar 0)) (gT 3 (gsC (gN 2) (gsC (gN 4) (gsC (gN 6) gsN)))) (wB (wOp (inT false) (wVar 6) (wVar 1))) (wTup (wCons (wVar 2) (wCons (wOp idxF (wVar 1) (wVar 6)) wNil))) [2, 4, 6]) wNil)))
@[irreducible] def t_waiting_pairs_2 : WS := wSeq (wSet 1 (wDc2 (wIt (wVar 0)) (gT 3 (gsC (gN 2) (gsC (gN 3) (gsC (gN 4) gsN)))) (wIt (wVar 3)) (gN 5) (wVar 5) (wVar 2) [2, 3, 4, 5] [5]))
    (t_waiting_pairs_1)
def w_waiting_pairs : WS := (wSeq (wSet 1 (wDc2 (wIt (wVar 0)) (gT 3 (gsC (gN 2) (gsC (gN 3) (gsC (gN 4) gsN)))) (wIt (wVar 3)) (gN 5) (wVar 5) (wVar 2) [2, 3, 4, 5] [5]))
    ((wRet (wCB tupleF (wCons (wLc (wIt (wVar 0)) (gT 3 (gsC (gN 2) (gsC (gN 4) (gsC (gN 6) gsN)))) (wB (wOp (inT false) (wVar 6) (wVar 1))) (wTup (wCons (wVar 2) (wCons (wOp idxF (wVar 1) (wVar 6)) wNil))) [2, 4, 6]) wNil)))))
theorem w_waiting_pairs_eq : w_waiting_pairs = (t_waiting_pairs_2) := by with_unfolding_all rfl
theorem df_waiting_pairs {g : Gx} {k : Nat} (m_tuple : g.mg "tuple" = none) {f : Addr} {fd : FuncData} (Fn : Fun g.K "waiting_pairs" "waiting_pairs" s_waiting_pairs f fd) : FnG g CX0 (k + 1) f fd ["rows"] (spOf g.K 1 (fnW 1 7 w_waiting_pairs)) :=
  fn_dl (N := ["rows", "holders", "hand", "holds", "_", "lock", "wants"]) Fn sc_waiting_pairs (fun E => (ds_cons (ds_setC (i := 1) rfl (by first | exact .inl rfl | exact .inr rfl) rfl rfl (de_dc2 (own := [("hand", 2), ("holds", 3), ("_", 4), ("lock", 5)]) (ws := [5]) cx0_ok (di_seq (de_var (i := 0) rfl (by first | exact .inl rfl | exact .inr (.inl rfl) | exact .inr (.inr rfl)))) rfl (dg_tup (dgs_cons (dg_name (i := 2) rfl (by first | exact .inl rfl | exact .inr rfl)) (dgs_cons (dg_name (i := 3) rfl (by first | exact .inl rfl | exact .inr rfl)) (dgs_cons (dg_name (i := 4) rfl (by first | exact .inl rfl | exact .inr rfl)) dgs_nil)))) rfl (di_seq (de_var (i := 3) rfl (by first | exact .inl rfl | exact .inr (.inl rfl) | exact .inr (.inr rfl)))) (dg_name (i := 5) rfl (by first | exact .inl rfl | exact .inr rfl)) rfl rfl (de_var (i := 5) rfl (by first | exact .inl rfl | exact .inr (.inl rfl) | exact .inr (.inr rfl))) (de_var (i := 2) rfl (by first | exact .inl rfl | exact .inr (.inl rfl) | exact .inr (.inr rfl)))))
    (ds_one (ds_ret (de_callT cs_tuple rfl m_tuple rfl (da_cons (de_lc (own := [("hand", 2), ("_", 4), ("wants", 6)]) cx0_ok (di_seq (de_var (i := 0) rfl (by first | exact .inl rfl | exact .inr (.inl rfl) | exact .inr (.inr rfl)))) rfl (dg_tup (dgs_cons (dg_name (i := 2) rfl (by first | exact .inl rfl | exact .inr rfl)) (dgs_cons (dg_name (i := 4) rfl (by first | exact .inl rfl | exact .inr rfl)) (dgs_cons (dg_name (i := 6) rfl (by first | exact .inl rfl | exact .inr rfl)) dgs_nil)))) rfl (dts_one (dt_cmp os_inT (de_var (i := 6) rfl (by first | exact .inl rfl | exact .inr (.inl rfl) | exact .inr (.inr rfl))) (de_var (i := 1) rfl (by first | exact .inl rfl | exact .inr (.inl rfl) | exact .inr (.inr rfl))) rfl)) (de_tup (da_cons (de_var (i := 2) rfl (by first | exact .inl rfl | exact .inr (.inl rfl) | exact .inr (.inr rfl))) (da_cons (de_ix (de_var (i := 1) rfl (by first | exact .inl rfl | exact .inr (.inl rfl) | exact .inr (.inr rfl))) (de_var (i := 6) rfl (by first | exact .inl rfl | exact .inr (.inl rfl) | exact .inr (.inr rfl)))) da_nil)))) da_nil)))))) (by decide)
theorem bd_waiting_pairs {K : PySem.W.Frag} {f : Addr} {fd : FuncData} (Fn : Fun K "waiting_pairs" "waiting_pairs" s_waiting_pairs f fd) : Binds K fd ["rows"] [] := Fn.binds (ps := ["rows"]) fun _ _ _ _ _ _ us hl => match us, hl with | [_], _ => rfl
theorem cal_waiting_pairs {g : Gx} {k : Nat} {W : FSpec} (m_tuple : g.mg "tuple" = none) (h : Got g "waiting_pairs" s_waiting_pairs) (im : ∀ ss Ex P, W ss Ex P → fnW 1 7 w_waiting_pairs ss Ex P) : Cal g CX0 (k + 1) "waiting_pairs" ["rows"] W := by
  obtain ⟨f, fd, m, F⟩ := h
  exact Cal.imp ⟨f, fd, df_waiting_pairs    m_tuple  F, m, F.kp, bd_waiting_pairs F⟩ im
/-! ### ring_or_ranks -/
theorem sc_ring_or_ranks : FnScope ["rows", "waits_for", "ranks", "row", "walked", "again"] ["rows"] (defScope s_ring_or_ranks) := ⟨rfl, rfl, rfl, by decide +kernel, rfl, by decide +kernel, by decide +kernel⟩
@[irreducible] def t_ring_or_ranks_1 (C_walked_from C_waiting_pairs : FSpec) : WS := (wRet (wTup (wCons (wC (.str "ranks")) (wCons (wCB tupleF (wCons (wVar 2) wNil)) wNil))))
@[irreducible] def t_ring_or_ranks_2 (C_walked_from C_waiting_pairs : FSpec) : WS := (wDrop (wApp 2 (wTup (wCons (wOp idxF (wVar 3) (wC (.int 0))) (wCons (wOp subF (wCB lenF (wCons (wVar 4) wNil)) (wC (.int 1))) wNil)))))
@[irreducible] def t_ring_or_ranks_3 (C_walked_from C_waiting_pairs : FSpec) : WS := (wRet (wTup (wCons (wC (.str "ring")) (wCons (wCB tupleF (wCons (wSl (wVar 4) (wPart (wIdx (wVar 4) (wVar 5))) wNoP) wNil)) wNil))))
@[irreducible] def t_ring_or_ranks_4 (C_walked_from C_waiting_pairs : FSpec) : WS := wSeq (wIfS (wB (wOp isNotU (wVar 5) (wC .none)))
    (t_ring_or_ranks_3 C_walked_from C_waiting_pairs) wNext)
    (t_ring_or_ranks_2 C_walked_from C_waiting_pairs)
@[irreducible] def t_ring_or_ranks_5 (C_walked_from C_waiting_pairs : FSpec) : WS := wSeq (wUnp [4, 5] (wCall 2 C_walked_from [true, false] (wCons (wVar 1) (wCons (wOp idxF (wVar 3) (wC (.int 0))) wNil))))
    (t_ring_or_ranks_4 C_walked_from C_waiting_pairs)
@[irreducible] def t_ring_or_ranks_6 (C_walked_from C_waiting_pairs : FSpec) : WS := wSeq (wFor (wIt (wVar 0)) (gN 3)
    (t_ring_or_ranks_5 C_walked_from C_waiting_pairs))
    (t_ring_or_ranks_1 C_walked_from C_waiting_pairs)
@[irreducible] def t_ring_or_ranks_7 (C_walked_from C_waiting_pairs : FSpec) : WS := wSeq (wSet 2 (wLst wNil))
    (t_ring_or_ranks_6 C_walked_from C_waiting_pairs)
@[irreducible] def t_ring_or_ranks_8 (C_walked_from C_waiting_pairs : FSpec) : WS := wSeq (wSet 1 (wDictP (wCall 1 C_waiting_pairs [false] (wCons (wVar 0) wNil))))
    (t_ring_or_ranks_7 C_walked_from C_waiting_pairs)
def w_ring_or_ranks (C_walked_from C_waiting_pairs : FSpec) : WS := (wSeq (wSet 1 (wDictP (wCall 1 C_waiting_pairs [false] (wCons (wVar 0) wNil))))
    (wSeq (wSet 2 (wLst wNil))
    (wSeq (wFor (wIt (wVar 0)) (gN 3)
    (wSeq (wUnp [4, 5] (wCall 2 C_walked_from [true, false] (wCons (wVar 1) (wCons (wOp idxF (wVar 3) (wC (.int 0))) wNil))))
    (wSeq (wIfS (wB (wOp isNotU (wVar 5) (wC .none)))
    ((wRet (wTup (wCons (wC (.str "ring")) (wCons (wCB tupleF (wCons (wSl (wVar 4) (wPart (wIdx (wVar 4) (wVar 5))) wNoP) wNil)) wNil))))) wNext)
    ((wDrop (wApp 2 (wTup (wCons (wOp idxF (wVar 3) (wC (.int 0))) (wCons (wOp subF (wCB lenF (wCons (wVar 4) wNil)) (wC (.int 1))) wNil)))))))))
    ((wRet (wTup (wCons (wC (.str "ranks")) (wCons (wCB tupleF (wCons (wVar 2) wNil)) wNil))))))))
theorem w_ring_or_ranks_eq (C_walked_from C_waiting_pairs : FSpec) : w_ring_or_ranks C_walked_from C_waiting_pairs = (t_ring_or_ranks_8 C_walked_from C_waiting_pairs) := by with_unfolding_all rfl
theorem df_ring_or_ranks {g : Gx} {k : Nat} {C_walked_from C_waiting_pairs : FSpec} (mono_walked_from : FMono C_walked_from) (c_walked_from : Cal g CX0 k "walked_from" ["waits_for", "hand"] C_walked_from) (mono_waiting_pairs : FMono C_waiting_pairs) (c_waiting_pairs : Cal g CX0 k "waiting_pairs" ["rows"] C_waiting_pairs) (m_tuple : g.mg "tuple" = none) (m_len : g.mg "len" = none) (m_dict : g.mg "dict" = none) {f : Addr} {fd : FuncData} (Fn : Fun g.K "ring_or_ranks" "ring_or_ranks" s_ring_or_ranks f fd) : FnG g CX0 (k + 1) f fd ["rows"] (spOf g.K 1 (fnW 1 6 (w_ring_or_ranks C_walked_from C_waiting_pairs))) :=
  fn_dl (N := ["rows", "waits_for", "ranks", "row", "walked", "again"]) Fn sc_ring_or_ranks (fun E => (ds_cons (ds_set (i := 1) rfl (by first | exact .inl rfl | exact .inr rfl) (de_dictP rfl m_dict (de_cal (ms := [false]) c_waiting_pairs mono_waiting_pairs rfl (da_cons (de_var (i := 0) rfl (by first | exact .inl rfl | exact .inr (.inl rfl) | exact .inr (.inr rfl))) da_nil))))
    (ds_cons (ds_set (i := 2) rfl (by first | exact .inl rfl | exact .inr rfl) (de_lst da_nil))
    (ds_cons (ds_for (di_seq (de_var (i := 0) rfl (by first | exact .inl rfl | exact .inr (.inl rfl) | exact .inr (.inr rfl)))) (dg_name (i := 3) rfl (by first | exact .inl rfl | exact .inr rfl))
    (ds_cons (ds_unp (de_cal (ms := [true, false]) c_walked_from mono_walked_from rfl (da_cons (de_var (i := 1) rfl (by first | exact .inl rfl | exact .inr (.inl rfl) | exact .inr (.inr rfl))) (da_cons (de_ix (de_var (i := 3) rfl (by first | exact .inl rfl | exact .inr (.inl rfl) | exact .inr (.inr rfl))) de_int) da_nil))) (dns_cons (i := 4) rfl (by first | exact .inl rfl | exact .inr rfl) (dns_cons (i := 5) rfl (by first | exact .inl rfl | exact .inr rfl) dns_nil)) rfl)
    (ds_cons (ds_if (dt_cmp os_isnotU (de_var (i := 5) rfl (by first | exact .inl rfl | exact .inr (.inl rfl) | exact .inr (.inr rfl))) de_non rfl)
    (ds_one (ds_ret (de_tup (da_cons de_str (da_cons (de_callT cs_tuple rfl m_tuple rfl (da_cons (de_sl (de_var (i := 4) rfl (by first | exact .inl rfl | exact .inr (.inl rfl) | exact .inr (.inr rfl))) (do_some (de_index (de_var (i := 4) rfl (by first | exact .inl rfl | exact .inr (.inl rfl) | exact .inr (.inr rfl))) (de_var (i := 5) rfl (by first | exact .inl rfl | exact .inr (.inl rfl) | exact .inr (.inr rfl))))) do_none) da_nil)) da_nil))))) ds_nil)
    (ds_one (ds_expr (de_app (i := 2) rfl (by first | exact .inl rfl | exact .inr (.inl rfl) | exact .inr (.inr rfl)) (de_tup (da_cons (de_ix (de_var (i := 3) rfl (by first | exact .inl rfl | exact .inr (.inl rfl) | exact .inr (.inr rfl))) de_int) (da_cons (de_op os_sub (de_callB cs_len rfl m_len rfl (da_cons (de_var (i := 4) rfl (by first | exact .inl rfl | exact .inr (.inl rfl) | exact .inr (.inr rfl))) da_nil)) de_int) da_nil)))))))))
    (ds_one (ds_ret (de_tup (da_cons de_str (da_cons (de_callT cs_tuple rfl m_tuple rfl (da_cons (de_var (i := 2) rfl (by first | exact .inl rfl | exact .inr (.inl rfl) | exact .inr (.inr rfl))) da_nil)) da_nil))))))))) (by decide)
theorem bd_ring_or_ranks {K : PySem.W.Frag} {f : Addr} {fd : FuncData} (Fn : Fun K "ring_or_ranks" "ring_or_ranks" s_ring_or_ranks f fd) : Binds K fd ["rows"] [] := Fn.binds (ps := ["rows"]) fun _ _ _ _ _ _ us hl => match us, hl with | [_], _ => rfl
theorem cal_ring_or_ranks {g : Gx} {k : Nat} {C_walked_from C_waiting_pairs : FSpec} {W : FSpec} (mono_walked_from : FMono C_walked_from) (c_walked_from : Cal g CX0 k "walked_from" ["waits_for", "hand"] C_walked_from) (mono_waiting_pairs : FMono C_waiting_pairs) (c_waiting_pairs : Cal g CX0 k "waiting_pairs" ["rows"] C_waiting_pairs) (m_tuple : g.mg "tuple" = none) (m_len : g.mg "len" = none) (m_dict : g.mg "dict" = none) (h : Got g "ring_or_ranks" s_ring_or_ranks) (im : ∀ ss Ex P, W ss Ex P → fnW 1 6 (w_ring_or_ranks C_walked_from C_waiting_pairs) ss Ex P) : Cal g CX0 (k + 1) "ring_or_ranks" ["rows"] W := by
  obtain ⟨f, fd, m, F⟩ := h
  exact Cal.imp ⟨f, fd, df_ring_or_ranks mono_walked_from c_walked_from mono_waiting_pairs c_waiting_pairs   m_tuple m_len m_dict  F, m, F.kp, bd_ring_or_ranks F⟩ im
/-! ### walked_from -/
theorem sc_walked_from : FnScope ["waits_for", "hand", "walked", "following"] ["waits_for", "hand"] (defScope s_walked_from) := ⟨rfl, rfl, rfl, by decide +kernel, rfl, by decide +kernel, by decide +kernel⟩
@[irreducible] def t_walked_from_1 : WS := (wRet (wTup (wCons (wVar 2) (wCons (wC .none) wNil))))
@[irreducible] def t_walked_from_2 : WS := (wDrop (wApp 2 (wVar 3)))
@[irreducible] def t_walked_from_3 : WS := (wRet (wTup (wCons (wVar 2) (wCons (wVar 3) wNil))))
@[irreducible] def t_walked_from_4 : WS := wSeq (wIfS (wB (wOp (inT false) (wVar 3) (wVar 2)))
    (t_walked_from_3) wNext)
    (t_walked_from_2)
@[irreducible] def t_walked_from_5 : WS := wSeq (wSet 3 (wOp idxF (wVar 0) (wOp idxF (wVar 2) (wNeg (wC (.int 1))))))
    (t_walked_from_4)
@[irreducible] def t_walked_from_6 : WS := wSeq (wWhile (wB (wOp (inT false) (wOp idxF (wVar 2) (wNeg (wC (.int 1)))) (wVar 0)))
    (t_walked_from_5))
    (t_walked_from_1)
@[irreducible] def t_walked_from_7 : WS := wSeq (wSet 2 (wLst (wCons (wVar 1) wNil)))
    (t_walked_from_6)
def w_walked_from : WS := (wSeq (wSet 2 (wLst (wCons (wVar 1) wNil)))
    (wSeq (wWhile (wB (wOp (inT false) (wOp idxF (wVar 2) (wNeg (wC (.int 1)))) (wVar 0)))
    (wSeq (wSet 3 (wOp idxF (wVar 0) (wOp idxF (wVar 2) (wNeg (wC (.int 1))))))
    (wSeq (wIfS (wB (wOp (inT false) (wVar 3) (wVar 2)))
    ((wRet (wTup (wCons (wVar 2) (wCons (wVar 3) wNil))))) wNext)
    ((wDrop (wApp 2 (wVar 3)))))))
    ((wRet (wTup (wCons (wVar 2) (wCons (wC .none) wNil)))))))
theorem w_walked_from_eq : w_walked_from = (t_walked_from_7) := by with_unfolding_all rfl
theorem df_walked_from {g : Gx} {k : Nat} {f : Addr} {fd : FuncData} (Fn : Fun g.K "walked_from" "walked_from" s_walked_from f fd) : FnG g CX0 (k + 1) f fd ["waits_for", "hand"] (spOf g.K 2 (fnW 2 4 w_walked_from)) :=
  fn_dl (N := ["waits_for", "hand", "walked", "following"]) Fn sc_walked_from (fun E => (ds_cons (ds_set (i := 2) rfl (by first | exact .inl rfl | exact .inr rfl) (de_lst (da_cons (de_var (i := 1) rfl (by first | exact .inl rfl | exact .inr (.inl rfl) | exact .inr (.inr rfl))) da_nil)))
    (ds_cons (ds_while (dt_cmp os_inT (de_ix (de_var (i := 2) rfl (by first | exact .inl rfl | exact .inr (.inl rfl) | exact .inr (.inr rfl))) (de_neg de_int)) (de_var (i := 0) rfl (by first | exact .inl rfl | exact .inr (.inl rfl) | exact .inr (.inr rfl))) rfl)
    (ds_cons (ds_set (i := 3) rfl (by first | exact .inl rfl | exact .inr rfl) (de_ix (de_var (i := 0) rfl (by first | exact .inl rfl | exact .inr (.inl rfl) | exact .inr (.inr rfl))) (de_ix (de_var (i := 2) rfl (by first | exact .inl rfl | exact .inr (.inl rfl) | exact .inr (.inr rfl))) (de_neg de_int))))
    (ds_cons (ds_if (dt_cmp os_inT (de_var (i := 3) rfl (by first | exact .inl rfl | exact .inr (.inl rfl) | exact .inr (.inr rfl))) (de_var (i := 2) rfl (by first | exact .inl rfl | exact .inr (.inl rfl) | exact .inr (.inr rfl))) rfl)
    (ds_one (ds_ret (de_tup (da_cons (de_var (i := 2) rfl (by first | exact .inl rfl | exact .inr (.inl rfl) | exact .inr (.inr rfl))) (da_cons (de_var (i := 3) rfl (by first | exact .inl rfl | exact .inr (.inl rfl) | exact .inr (.inr rfl))) da_nil))))) ds_nil)
    (ds_one (ds_expr (de_app (i := 2) rfl (by first | exact .inl rfl | exact .inr (.inl rfl) | exact .inr (.inr rfl)) (de_var (i := 3) rfl (by first | exact .inl rfl | exact .inr (.inl rfl) | exact .inr (.inr rfl)))))))))
    (ds_one (ds_ret (de_tup (da_cons (de_var (i := 2) rfl (by first | exact .inl rfl | exact .inr (.inl rfl) | exact .inr (.inr rfl))) (da_cons de_non da_nil)))))))) (by decide)
theorem bd_walked_from {K : PySem.W.Frag} {f : Addr} {fd : FuncData} (Fn : Fun K "walked_from" "walked_from" s_walked_from f fd) : Binds K fd ["waits_for", "hand"] [] := Fn.binds (ps := ["waits_for", "hand"]) fun _ _ _ _ _ _ us hl => match us, hl with | [_, _], _ => rfl
theorem cal_walked_from {g : Gx} {k : Nat} {W : FSpec} (h : Got g "walked_from" s_walked_from) (im : ∀ ss Ex P, W ss Ex P → fnW 2 4 w_walked_from ss Ex P) : Cal g CX0 (k + 1) "walked_from" ["waits_for", "hand"] W := by
  obtain ⟨f, fd, m, F⟩ := h
  exact Cal.imp ⟨f, fd, df_walked_from      F, m, F.kp, bd_walked_from F⟩ im
/-! ### lets_ring -/
theorem sc_lets_ring : FnScope ["rows", "thing", "hand", "hands", "row", "pairs", "k", "pair"] ["rows", "thing"] (defScope s_lets_ring) := ⟨rfl, rfl, rfl, by decide +kernel, rfl, by decide +kernel, by decide +kernel⟩
@[irreducible] def t_lets_ring_1 (C_waiting_pairs C_is_number : FSpec) (A_NoPaper : Addr) : WS := (wRet (wCB lenF (wCons (wVar 1) wNil)))
@[irreducible] def t_lets_ring_2 (C_waiting_pairs C_is_number : FSpec) (A_NoPaper : Addr) : WS := (wRaise2 A_NoPaper "word" "at" (wCons (wC (.str "waits")) (wCons (wVar 6) wNil)))
@[irreducible] def t_lets_ring_3 (C_waiting_pairs C_is_number : FSpec) (A_NoPaper : Addr) : WS := (wIfS (wB (wOp (inT true) (wVar 7) (wVar 5)))
    (t_lets_ring_2 C_waiting_pairs C_is_number A_NoPaper) wNext)
@[irreducible] def t_lets_ring_4 (C_waiting_pairs C_is_number : FSpec) (A_NoPaper : Addr) : WS := (wRaise2 A_NoPaper "word" "at" (wCons (wC (.str "hand")) (wCons (wVar 6) wNil)))
@[irreducible] def t_lets_ring_5 (C_waiting_pairs C_is_number : FSpec) (A_NoPaper : Addr) : WS := wSeq (wIfS (wB (wOp (inT true) (wOp idxF (wVar 7) (wC (.int 0))) (wVar 3)))
    (t_lets_ring_4 C_waiting_pairs C_is_number A_NoPaper) wNext)
    (t_lets_ring_3 C_waiting_pairs C_is_number A_NoPaper)
@[irreducible] def t_lets_ring_6 (C_waiting_pairs C_is_number : FSpec) (A_NoPaper : Addr) : WS := wSeq (wFor (wEnumZ (wCons (wVar 1) (wCons (wOp addF (wSl (wVar 1) (wPart (wC (.int 1))) wNoP) (wSl (wVar 1) wNoP (wPart (wC (.int 1))))) wNil))) (gT 2 (gsC (gN 6) (gsC (gN 7) gsN)))
    (t_lets_ring_5 C_waiting_pairs C_is_number A_NoPaper))
    (t_lets_ring_1 C_waiting_pairs C_is_number A_NoPaper)
@[irreducible] def t_lets_ring_7 (C_waiting_pairs C_is_number : FSpec) (A_NoPaper : Addr) : WS := wSeq (wSet 5 (wCall 1 C_waiting_pairs [false] (wCons (wVar 0) wNil)))
    (t_lets_ring_6 C_waiting_pairs C_is_number A_NoPaper)
@[irreducible] def t_lets_ring_8 (C_waiting_pairs C_is_number : FSpec) (A_NoPaper : Addr) : WS := wSeq (wSet 3 (wLc (wIt (wVar 0)) (gN 4) wYes (wOp idxF (wVar 4) (wC (.int 0))) [4]))
    (t_lets_ring_7 C_waiting_pairs C_is_number A_NoPaper)
@[irreducible] def t_lets_ring_9 (C_waiting_pairs C_is_number : FSpec) (A_NoPaper : Addr) : WS := (wRaise2 A_NoPaper "word" "at" (wCons (wC (.str "shape")) (wCons (wNeg (wC (.int 1))) wNil)))
@[irreducible] def t_lets_ring_10 (C_waiting_pairs C_is_number : FSpec) (A_NoPaper : Addr) : WS := wSeq (wIfS (wOr (wNot (wTru (wIsi "tuple" (wVar 1)))) (wOr (wB (wOp eqF (wVar 1) (wTup wNil))) (wNot (wTru (wCB allF (wCons (wLc (wIt (wVar 1)) (gN 2) wYes (wCall 1 C_is_number [false] (wCons (wVar 2) wNil)) [2]) wNil))))))
    (t_lets_ring_9 C_waiting_pairs C_is_number A_NoPaper) wNext)
    (t_lets_ring_8 C_waiting_pairs C_is_number A_NoPaper)
def w_lets_ring (C_waiting_pairs C_is_number : FSpec) (A_NoPaper : Addr) : WS := (wSeq (wIfS (wOr (wNot (wTru (wIsi "tuple" (wVar 1)))) (wOr (wB (wOp eqF (wVar 1) (wTup wNil))) (wNot (wTru (wCB allF (wCons (wLc (wIt (wVar 1)) (gN 2) wYes (wCall 1 C_is_number [false] (wCons (wVar 2) wNil)) [2]) wNil))))))
    ((wRaise2 A_NoPaper "word" "at" (wCons (wC (.str "shape")) (wCons (wNeg (wC (.int 1))) wNil)))) wNext)
    (wSeq (wSet 3 (wLc (wIt (wVar 0)) (gN 4) wYes (wOp idxF (wVar 4) (wC (.int 0))) [4]))
    (wSeq (wSet 5 (wCall 1 C_waiting_pairs [false] (wCons (wVar 0) wNil)))
    (wSeq (wFor (wEnumZ (wCons (wVar 1) (wCons (wOp addF (wSl (wVar 1) (wPart (wC (.int 1))) wNoP) (wSl (wVar 1) wNoP (wPart (wC (.int 1))))) wNil))) (gT 2 (gsC (gN 6) (gsC (gN 7) gsN)))
    (wSeq (wIfS (wB (wOp (inT true) (wOp idxF (wVar 7) (wC (.int 0))) (wVar 3)))
    ((wRaise2 A_NoPaper "word" "at" (wCons (wC (.str "hand")) (wCons (wVar 6) wNil)))) wNext)
    ((wIfS (wB (wOp (inT true) (wVar 7) (wVar 5)))
    ((wRaise2 A_NoPaper "word" "at" (wCons (wC (.str "waits")) (wCons (wVar 6) wNil)))) wNext))))
    ((wRet (wCB lenF (wCons (wVar 1) wNil))))))))
theorem w_lets_ring_eq (C_waiting_pairs C_is_number : FSpec) (A_NoPaper : Addr) : w_lets_ring C_waiting_pairs C_is_number A_NoPaper = (t_lets_ring_10 C_waiting_pairs C_is_number A_NoPaper) := by with_unfolding_all rfl
theorem df_lets_ring {g : Gx} {k : Nat} {C_waiting_pairs C_is_number : FSpec} {A_NoPaper : Addr} (mono_waiting_pairs : FMono C_waiting_pairs) (c_waiting_pairs : Cal g CX0 k "waiting_pairs" ["rows"] C_waiting_pairs) (mono_is_number : FMono C_is_number) (c_is_number : Cal g CX0 k "is_number" ["thing"] C_is_number) (m_len : g.mg "len" = none) (m_enumerate : g.mg "enumerate" = none) (m_zip : g.mg "zip" = none) (m_all : g.mg "all" = none) (m_isinstance : g.mg "isinstance" = none) (m_tuple : g.mg "tuple" = none) (R_NoPaper : RfC g A_NoPaper "word" "at") (mg_NoPaper : g.mg "NoPaper" = some (.ref A_NoPaper)) (hk : 2 ≤ k) {f : Addr} {fd : FuncData} (Fn : Fun g.K "lets_ring" "lets_ring" s_lets_ring f fd) : FnG g g.ex (k + 1) f fd ["rows", "thing"] (spOf g.K 2 (fnW 2 8 (w_lets_ring C_waiting_pairs C_is_number A_NoPaper))) :=
  fn_dlx (N := ["rows", "thing", "hand", "hands", "row", "pairs", "k", "pair"]) Fn sc_lets_ring (fun E => (ds_cons (ds_if (dt_w (dw_or (dt_not (dt_tru (de_isi (T := "tuple") rfl rfl m_isinstance rfl m_tuple rfl (de_var (i := 1) rfl (by first | exact .inl rfl | exact .inr (.inl rfl) | exact .inr (.inr rfl)))) (fun _ _ => rfl))) (dw_or (dt_cmp os_eq (de_var (i := 1) rfl (by first | exact .inl rfl | exact .inr (.inl rfl) | exact .inr (.inr rfl))) (de_tup da_nil) rfl) (dw_or1 (dt_not (dt_tru (de_callB cs_all rfl m_all rfl (da_cons (de_lc (own := [("hand", 2)]) cxE_ok (di_seq (de_var (i := 1) rfl (by first | exact .inl rfl | exact .inr (.inl rfl) | exact .inr (.inr rfl)))) rfl (dg_name (i := 2) rfl (by first | exact .inl rfl | exact .inr rfl)) rfl dts_nil (de_cal (ms := [false]) c_is_number.any mono_is_number rfl (da_cons (de_var (i := 2) rfl (by first | exact .inl rfl | exact .inr (.inl rfl) | exact .inr (.inr rfl))) da_nil))) da_nil)) (fun _ _ => rfl)))))))
    (ds_one (ds_raise2 rfl R_NoPaper hk rfl mg_NoPaper (da_cons de_str (da_cons (de_neg de_int) da_nil)))) ds_nil)
    (ds_cons (ds_setLc (own := [("row", 4)]) (i := 3) cxE_ok rfl rfl rfl rfl rfl (di_seq (de_var (i := 0) rfl (by first | exact .inl rfl | exact .inr (.inl rfl) | exact .inr (.inr rfl)))) rfl (dg_name (i := 4) rfl (by first | exact .inl rfl | exact .inr rfl)) rfl dts_nil (de_ix (de_var (i := 4) rfl (by first | exact .inl rfl | exact .inr (.inl rfl) | exact .inr (.inr rfl))) de_int))
    (ds_cons (ds_set (i := 5) rfl (by first | exact .inl rfl | exact .inr rfl) (de_cal (ms := [false]) c_waiting_pairs.any mono_waiting_pairs rfl (da_cons (de_var (i := 0) rfl (by first | exact .inl rfl | exact .inr (.inl rfl) | exact .inr (.inr rfl))) da_nil)))
    (ds_cons (ds_for (di_enumZ rfl m_enumerate rfl m_zip (da_cons (de_var (i := 1) rfl (by first | exact .inl rfl | exact .inr (.inl rfl) | exact .inr (.inr rfl))) (da_cons (de_op os_add (de_sl (de_var (i := 1) rfl (by first | exact .inl rfl | exact .inr (.inl rfl) | exact .inr (.inr rfl))) (do_some de_int) do_none) (de_sl (de_var (i := 1) rfl (by first | exact .inl rfl | exact .inr (.inl rfl) | exact .inr (.inr rfl))) do_none (do_some de_int))) da_nil))) (dg_tup (dgs_cons (dg_name (i := 6) rfl (by first | exact .inl rfl | exact .inr rfl)) (dgs_cons (dg_name (i := 7) rfl (by first | exact .inl rfl | exact .inr rfl)) dgs_nil)))
    (ds_cons (ds_if (dt_cmp os_notinT (de_ix (de_var (i := 7) rfl (by first | exact .inl rfl | exact .inr (.inl rfl) | exact .inr (.inr rfl))) de_int) (de_var (i := 3) rfl (by first | exact .inl rfl | exact .inr (.inl rfl) | exact .inr (.inr rfl))) rfl)
    (ds_one (ds_raise2 rfl R_NoPaper hk rfl mg_NoPaper (da_cons de_str (da_cons (de_var (i := 6) rfl (by first | exact .inl rfl | exact .inr (.inl rfl) | exact .inr (.inr rfl))) da_nil)))) ds_nil)
    (ds_one (ds_if (dt_cmp os_notinT (de_var (i := 7) rfl (by first | exact .inl rfl | exact .inr (.inl rfl) | exact .inr (.inr rfl))) (de_var (i := 5) rfl (by first | exact .inl rfl | exact .inr (.inl rfl) | exact .inr (.inr rfl))) rfl)
    (ds_one (ds_raise2 rfl R_NoPaper hk rfl mg_NoPaper (da_cons de_str (da_cons (de_var (i := 6) rfl (by first | exact .inl rfl | exact .inr (.inl rfl) | exact .inr (.inr rfl))) da_nil)))) ds_nil))))
    (ds_one (ds_ret (de_callB cs_len rfl m_len rfl (da_cons (de_var (i := 1) rfl (by first | exact .inl rfl | exact .inr (.inl rfl) | exact .inr (.inr rfl))) da_nil))))))))) (by decide)
theorem bd_lets_ring {K : PySem.W.Frag} {f : Addr} {fd : FuncData} (Fn : Fun K "lets_ring" "lets_ring" s_lets_ring f fd) : Binds K fd ["rows", "thing"] [] := Fn.binds (ps := ["rows", "thing"]) fun _ _ _ _ _ _ us hl => match us, hl with | [_, _], _ => rfl
theorem cal_lets_ring {g : Gx} {k : Nat} {C_waiting_pairs C_is_number : FSpec} {A_NoPaper : Addr} {W : FSpec} (mono_waiting_pairs : FMono C_waiting_pairs) (c_waiting_pairs : Cal g CX0 k "waiting_pairs" ["rows"] C_waiting_pairs) (mono_is_number : FMono C_is_number) (c_is_number : Cal g CX0 k "is_number" ["thing"] C_is_number) (m_len : g.mg "len" = none) (m_enumerate : g.mg "enumerate" = none) (m_zip : g.mg "zip" = none) (m_all : g.mg "all" = none) (m_isinstance : g.mg "isinstance" = none) (m_tuple : g.mg "tuple" = none) (R_NoPaper : RfC g A_NoPaper "word" "at") (mg_NoPaper : g.mg "NoPaper" = some (.ref A_NoPaper)) (hk : 2 ≤ k) (h : Got g "lets_ring" s_lets_ring) (im : ∀ ss Ex P, W ss Ex P → fnW 2 8 (w_lets_ring C_waiting_pairs C_is_number A_NoPaper) ss Ex P) : Cal g g.ex (k + 1) "lets_ring" ["rows", "thing"] W := by
  obtain ⟨f, fd, m, F⟩ := h
  exact Cal.imp ⟨f, fd, df_lets_ring mono_waiting_pairs c_waiting_pairs mono_is_number c_is_number   m_len m_enumerate m_zip m_all m_isinstance m_tuple R_NoPaper mg_NoPaper hk F, m, F.kp, bd_lets_ring F⟩ im
/-! ### lets_ranks -/
theorem sc_lets_ranks : FnScope ["rows", "thing", "pair", "row", "ranks", "one", "other"] ["rows", "thing"] (defScope s_lets_ranks) := ⟨rfl, rfl, rfl, by decide +kernel, rfl, by decide +kernel, by decide +kernel⟩
@[irreducible] def t_lets_ranks_1 (C_waiting_pairs C_is_pair_of_numbers : FSpec) (A_NoPaper : Addr) : WS := (wRet (wMaxDef (wLstVals (wVar 4)) (wC (.int 0))))
@[irreducible] def t_lets_ranks_2 (C_waiting_pairs C_is_pair_of_numbers : FSpec) (A_NoPaper : Addr) : WS := (wRaise2 A_NoPaper "word" "at" (wCons (wC (.str "rank")) (wCons (wVar 2) wNil)))
@[irreducible] def t_lets_ranks_3 (C_waiting_pairs C_is_pair_of_numbers : FSpec) (A_NoPaper : Addr) : WS := (wIfS (wB (wOp leU (wOp idxF (wVar 4) (wVar 5)) (wOp idxF (wVar 4) (wVar 6))))
    (t_lets_ranks_2 C_waiting_pairs C_is_pair_of_numbers A_NoPaper) wNext)
@[irreducible] def t_lets_ranks_4 (C_waiting_pairs C_is_pair_of_numbers : FSpec) (A_NoPaper : Addr) : WS := wSeq (wUnp [5, 6] (wVar 2))
    (t_lets_ranks_3 C_waiting_pairs C_is_pair_of_numbers A_NoPaper)
@[irreducible] def t_lets_ranks_5 (C_waiting_pairs C_is_pair_of_numbers : FSpec) (A_NoPaper : Addr) : WS := wSeq (wFor (wIt (wCall 1 C_waiting_pairs [false] (wCons (wVar 0) wNil))) (gN 2)
    (t_lets_ranks_4 C_waiting_pairs C_is_pair_of_numbers A_NoPaper))
    (t_lets_ranks_1 C_waiting_pairs C_is_pair_of_numbers A_NoPaper)
@[irreducible] def t_lets_ranks_6 (C_waiting_pairs C_is_pair_of_numbers : FSpec) (A_NoPaper : Addr) : WS := wSeq (wSet 4 (wDictP (wVar 1)))
    (t_lets_ranks_5 C_waiting_pairs C_is_pair_of_numbers A_NoPaper)
@[irreducible] def t_lets_ranks_7 (C_waiting_pairs C_is_pair_of_numbers : FSpec) (A_NoPaper : Addr) : WS := (wRaise2 A_NoPaper "word" "at" (wCons (wC (.str "hands")) (wCons (wNeg (wC (.int 1))) wNil)))
@[irreducible] def t_lets_ranks_8 (C_waiting_pairs C_is_pair_of_numbers : FSpec) (A_NoPaper : Addr) : WS := wSeq (wIfS (wB (wOp neF (wLc (wIt (wVar 1)) (gN 2) wYes (wOp idxF (wVar 2) (wC (.int 0))) [2]) (wLc (wIt (wVar 0)) (gN 3) wYes (wOp idxF (wVar 3) (wC (.int 0))) [3])))
    (t_lets_ranks_7 C_waiting_pairs C_is_pair_of_numbers A_NoPaper) wNext)
    (t_lets_ranks_6 C_waiting_pairs C_is_pair_of_numbers A_NoPaper)
@[irreducible] def t_lets_ranks_9 (C_waiting_pairs C_is_pair_of_numbers : FSpec) (A_NoPaper : Addr) : WS := (wRaise2 A_NoPaper "word" "at" (wCons (wC (.str "shape")) (wCons (wNeg (wC (.int 1))) wNil)))
@[irreducible] def t_lets_ranks_10 (C_waiting_pairs C_is_pair_of_numbers : FSpec) (A_NoPaper : Addr) : WS := wSeq (wIfS (wOr (wNot (wTru (wIsi "tuple" (wVar 1)))) (wNot (wTru (wCB allF (wCons (wLc (wIt (wVar 1)) (gN 2) wYes (wCall 1 C_is_pair_of_numbers [false] (wCons (wVar 2) wNil)) [2]) wNil)))))
    (t_lets_ranks_9 C_waiting_pairs C_is_pair_of_numbers A_NoPaper) wNext)
    (t_lets_ranks_8 C_waiting_pairs C_is_pair_of_numbers A_NoPaper)
def w_lets_ranks (C_waiting_pairs C_is_pair_of_numbers : FSpec) (A_NoPaper : Addr) : WS := (wSeq (wIfS (wOr (wNot (wTru (wIsi "tuple" (wVar 1)))) (wNot (wTru (wCB allF (wCons (wLc (wIt (wVar 1)) (gN 2) wYes (wCall 1 C_is_pair_of_numbers [false] (wCons (wVar 2) wNil)) [2]) wNil)))))
    ((wRaise2 A_NoPaper "word" "at" (wCons (wC (.str "shape")) (wCons (wNeg (wC (.int 1))) wNil)))) wNext)
    (wSeq (wIfS (wB (wOp neF (wLc (wIt (wVar 1)) (gN 2) wYes (wOp idxF (wVar 2) (wC (.int 0))) [2]) (wLc (wIt (wVar 0)) (gN 3) wYes (wOp idxF (wVar 3) (wC (.int 0))) [3])))
    ((wRaise2 A_NoPaper "word" "at" (wCons (wC (.str "hands")) (wCons (wNeg (wC (.int 1))) wNil)))) wNext)
    (wSeq (wSet 4 (wDictP (wVar 1)))
    (wSeq (wFor (wIt (wCall 1 C_waiting_pairs [false] (wCons (wVar 0) wNil))) (gN 2)
    (wSeq (wUnp [5, 6] (wVar 2))
    ((wIfS (wB (wOp leU (wOp idxF (wVar 4) (wVar 5)) (wOp idxF (wVar 4) (wVar 6))))
    ((wRaise2 A_NoPaper "word" "at" (wCons (wC (.str "rank")) (wCons (wVar 2) wNil)))) wNext))))
    ((wRet (wMaxDef (wLstVals (wVar 4)) (wC (.int 0)))))))))
theorem w_lets_ranks_eq (C_waiting_pairs C_is_pair_of_numbers : FSpec) (A_NoPaper : Addr) : w_lets_ranks C_waiting_pairs C_is_pair_of_numbers A_NoPaper = (t_lets_ranks_10 C_waiting_pairs C_is_pair_of_numbers A_NoPaper) := by with_unfolding_all rfl
theorem df_lets_ranks {g : Gx} {k : Nat} {C_waiting_pairs C_is_pair_of_numbers : FSpec} {A_NoPaper : Addr} (mono_waiting_pairs : FMono C_waiting_pairs) (c_waiting_pairs : Cal g CX0 k "waiting_pairs" ["rows"] C_waiting_pairs) (mono_is_pair_of_numbers : FMono C_is_pair_of_numbers) (c_is_pair_of_numbers : Cal g CX0 k "is_pair_of_numbers" ["thing"] C_is_pair_of_numbers) (m_list : g.mg "list" = none) (m_max : g.mg "max" = none) (m_dict : g.mg "dict" = none) (m_all : g.mg "all" = none) (m_isinstance : g.mg "isinstance" = none) (m_tuple : g.mg "tuple" = none) (R_NoPaper : RfC g A_NoPaper "word" "at") (mg_NoPaper : g.mg "NoPaper" = some (.ref A_NoPaper)) (hk : 2 ≤ k) {f : Addr} {fd : FuncData} (Fn : Fun g.K "lets_ranks" "lets_ranks" s_lets_ranks f fd) : FnG g g.ex (k + 1) f fd ["rows", "thing"] (spOf g.K 2 (fnW 2 7 (w_lets_ranks C_waiting_pairs C_is_pair_of_numbers A_NoPaper))) :=
  fn_dlx (N := ["rows", "thing", "pair", "row", "ranks", "one", "other"]) Fn sc_lets_ranks (fun E => (ds_cons (ds_if (dt_w (dw_or (dt_not (dt_tru (de_isi (T := "tuple") rfl rfl m_isinstance rfl m_tuple rfl (de_var (i := 1) rfl (by first | exact .inl rfl | exact .inr (.inl rfl) | exact .inr (.inr rfl)))) (fun _ _ => rfl))) (dw_or1 (dt_not (dt_tru (de_callB cs_all rfl m_all rfl (da_cons (de_lc (own := [("pair", 2)]) cxE_ok (di_seq (de_var (i := 1) rfl (by first | exact .inl rfl | exact .inr (.inl rfl) | exact .inr (.inr rfl)))) rfl (dg_name (i := 2) rfl (by first | exact .inl rfl | exact .inr rfl)) rfl dts_nil (de_cal (ms := [false]) c_is_pair_of_numbers.any mono_is_pair_of_numbers rfl (da_cons (de_var (i := 2) rfl (by first | exact .inl rfl | exact .inr (.inl rfl) | exact .inr (.inr rfl))) da_nil))) da_nil)) (fun _ _ => rfl))))))
    (ds_one (ds_raise2 rfl R_NoPaper hk rfl mg_NoPaper (da_cons de_str (da_cons (de_neg de_int) da_nil)))) ds_nil)
    (ds_cons (ds_if (dt_cmp os_ne (de_lc (own := [("pair", 2)]) cxE_ok (di_seq (de_var (i := 1) rfl (by first | exact .inl rfl | exact .inr (.inl rfl) | exact .inr (.inr rfl)))) rfl (dg_name (i := 2) rfl (by first | exact .inl rfl | exact .inr rfl)) rfl dts_nil (de_ix (de_var (i := 2) rfl (by first | exact .inl rfl | exact .inr (.inl rfl) | exact .inr (.inr rfl))) de_int)) (de_lc (own := [("row", 3)]) cxE_ok (di_seq (de_var (i := 0) rfl (by first | exact .inl rfl | exact .inr (.inl rfl) | exact .inr (.inr rfl)))) rfl (dg_name (i := 3) rfl (by first | exact .inl rfl | exact .inr rfl)) rfl dts_nil (de_ix (de_var (i := 3) rfl (by first | exact .inl rfl | exact .inr (.inl rfl) | exact .inr (.inr rfl))) de_int)) rfl)
    (ds_one (ds_raise2 rfl R_NoPaper hk rfl mg_NoPaper (da_cons de_str (da_cons (de_neg de_int) da_nil)))) ds_nil)
    (ds_cons (ds_set (i := 4) rfl (by first | exact .inl rfl | exact .inr rfl) (de_dictP rfl m_dict (de_var (i := 1) rfl (by first | exact .inl rfl | exact .inr (.inl rfl) | exact .inr (.inr rfl)))))
    (ds_cons (ds_for (di_seq (de_cal (ms := [false]) c_waiting_pairs.any mono_waiting_pairs rfl (da_cons (de_var (i := 0) rfl (by first | exact .inl rfl | exact .inr (.inl rfl) | exact .inr (.inr rfl))) da_nil))) (dg_name (i := 2) rfl (by first | exact .inl rfl | exact .inr rfl))
    (ds_cons (ds_unp (de_var (i := 2) rfl (by first | exact .inl rfl | exact .inr (.inl rfl) | exact .inr (.inr rfl))) (dns_cons (i := 5) rfl (by first | exact .inl rfl | exact .inr rfl) (dns_cons (i := 6) rfl (by first | exact .inl rfl | exact .inr rfl) dns_nil)) rfl)
    (ds_one (ds_if (dt_cmp os_leU (de_ix (de_var (i := 4) rfl (by first | exact .inl rfl | exact .inr (.inl rfl) | exact .inr (.inr rfl))) (de_var (i := 5) rfl (by first | exact .inl rfl | exact .inr (.inl rfl) | exact .inr (.inr rfl)))) (de_ix (de_var (i := 4) rfl (by first | exact .inl rfl | exact .inr (.inl rfl) | exact .inr (.inr rfl))) (de_var (i := 6) rfl (by first | exact .inl rfl | exact .inr (.inl rfl) | exact .inr (.inr rfl)))) rfl)
    (ds_one (ds_raise2 rfl R_NoPaper hk rfl mg_NoPaper (da_cons de_str (da_cons (de_var (i := 2) rfl (by first | exact .inl rfl | exact .inr (.inl rfl) | exact .inr (.inr rfl))) da_nil)))) ds_nil))))
    (ds_one (ds_ret (de_maxDef rfl m_max (de_lstVals rfl m_list (de_var (i := 4) rfl (by first | exact .inl rfl | exact .inr (.inl rfl) | exact .inr (.inr rfl)))) de_int)))))))) (by decide)
theorem bd_lets_ranks {K : PySem.W.Frag} {f : Addr} {fd : FuncData} (Fn : Fun K "lets_ranks" "lets_ranks" s_lets_ranks f fd) : Binds K fd ["rows", "thing"] [] := Fn.binds (ps := ["rows", "thing"]) fun _ _ _ _ _ _ us hl => match us, hl with | [_, _], _ => rfl
theorem cal_lets_ranks {g : Gx} {k : Nat} {C_waiting_pairs C_is_pair_of_numbers : FSpec} {A_NoPaper : Addr} {W : FSpec} (mono_waiting_pairs : FMono C_waiting_pairs) (c_waiting_pairs : Cal g CX0 k "waiting_pairs" ["rows"] C_waiting_pairs) (mono_is_pair_of_numbers : FMono C_is_pair_of_numbers) (c_is_pair_of_numbers : Cal g CX0 k "is_pair_of_numbers" ["thing"] C_is_pair_of_numbers) (m_list : g.mg "list" = none) (m_max : g.mg "max" = none) (m_dict : g.mg "dict" = none) (m_all : g.mg "all" = none) (m_isinstance : g.mg "isinstance" = none) (m_tuple : g.mg "tuple" = none) (R_NoPaper : RfC g A_NoPaper "word" "at") (mg_NoPaper : g.mg "NoPaper" = some (.ref A_NoPaper)) (hk : 2 ≤ k) (h : Got g "lets_ranks" s_lets_ranks) (im : ∀ ss Ex P, W ss Ex P → fnW 2 7 (w_lets_ranks C_waiting_pairs C_is_pair_of_numbers A_NoPaper) ss Ex P) : Cal g g.ex (k + 1) "lets_ranks" ["rows", "thing"] W := by
  obtain ⟨f, fd, m, F⟩ := h
  exact Cal.imp ⟨f, fd, df_lets_ranks mono_waiting_pairs c_waiting_pairs mono_is_pair_of_numbers c_is_pair_of_numbers   m_list m_max m_dict m_all m_isinstance m_tuple R_NoPaper mg_NoPaper hk F, m, F.kp, bd_lets_ranks F⟩ im
/-! ### _law_tape -/
theorem sc_tape : FnScope ["_law_script"] ["_law_script"] (defScope s_tape) := ⟨rfl, rfl, rfl, by decide +kernel, rfl, by decide +kernel, by decide +kernel⟩
@[irreducible] def t_tape_1 : WS := (wRet (wLst (wCons (wCB listF (wCons (wSl (wVar 0) wNoP (wPart (wC (.int 63)))) wNil)) (wCons (wC (.int 0)) (wCons (wC (.int 0)) (wCons (wC (.int 0)) wNil))))))
def w_tape : WS := ((wRet (wLst (wCons (wCB listF (wCons (wSl (wVar 0) wNoP (wPart (wC (.int 63)))) wNil)) (wCons (wC (.int 0)) (wCons (wC (.int 0)) (wCons (wC (.int 0)) wNil)))))))
theorem w_tape_eq : w_tape = (t_tape_1) := by with_unfolding_all rfl
theorem df_tape {g : Gx} {k : Nat} (m_list : g.mg "list" = none) {f : Addr} {fd : FuncData} (Fn : Fun g.K "_law_tape" "_law_tape" s_tape f fd) : FnG g CX0 (k + 1) f fd ["_law_script"] (spOf g.K 1 (fnW 1 1 w_tape)) :=
  fn_dl (N := ["_law_script"]) Fn sc_tape (fun E => (ds_one (ds_ret (de_lst (da_cons (de_callT cs_list rfl m_list rfl (da_cons (de_sl (de_var (i := 0) rfl (by first | exact .inl rfl | exact .inr (.inl rfl) | exact .inr (.inr rfl))) do_none (do_some de_int)) da_nil)) (da_cons de_int (da_cons de_int (da_cons de_int da_nil)))))))) (by decide)
theorem bd_tape {K : PySem.W.Frag} {f : Addr} {fd : FuncData} (Fn : Fun K "_law_tape" "_law_tape" s_tape f fd) : Binds K fd ["_law_script"] [] := Fn.binds (ps := ["_law_script"]) fun _ _ _ _ _ _ us hl => match us, hl with | [_], _ => rfl
theorem cal_tape {g : Gx} {k : Nat} {W : FSpec} (m_list : g.mg "list" = none) (h : Got g "_law_tape" s_tape) (im : ∀ ss Ex P, W ss Ex P → fnW 1 1 w_tape ss Ex P) : Cal g CX0 (k + 1) "_law_tape" ["_law_script"] W := by
  obtain ⟨f, fd, m, F⟩ := h
  exact Cal.imp ⟨f, fd, df_tape    m_list  F, m, F.kp, bd_tape F⟩ im
/-! ### _law_pick -/
theorem sc_pick : FnScope ["_law_tape_here", "_law_many", "_law_found", "_law_at", "_law_cell", "_law_mixed"] ["_law_tape_here", "_law_many"] (defScope s_pick) := ⟨rfl, rfl, rfl, by decide +kernel, rfl, by decide +kernel, by decide +kernel⟩
@[irreducible] def t_pick_1 : WS := (wRet (wOp modF (wOp fdivF (wVar 5) (wC (.int 256))) (wVar 1)))
@[irreducible] def t_pick_2 : WS := wSeq (wSet 5 (wOp modF (wOp addF (wOp addF (wOp mulF (wVar 5) (wVar 5)) (wOp mulF (wC (.int 13309)) (wVar 5))) (wC (.int 1))) (wC (.int 2147483579))))
    (t_pick_1)
@[irreducible] def t_pick_3 : WS := wSeq (wSet 5 (wOp modF (wOp addF (wOp addF (wOp mulF (wVar 5) (wVar 5)) (wOp mulF (wC (.int 28351)) (wOp idxF (wVar 0) (wC (.int 3))))) (wC (.int 19))) (wC (.int 2147483587))))
    (t_pick_2)
@[irreducible] def t_pick_4 : WS := wSeq (wSet 5 (wOp modF (wOp addF (wOp addF (wOp modF (wVar 4) (wC (.int 2147483647))) (wOp mulF (wC (.int 64081)) (wOp idxF (wVar 0) (wC (.int 3))))) (wC (.int 43))) (wC (.int 2147483629))))
    (t_pick_3)
@[irreducible] def t_pick_5 : WS := (wRet (wOp modF (wVar 4) (wVar 1)))
@[irreducible] def t_pick_6 : WS := wSeq (wPut 0 (wC (.int 2)) (wOp fdivF (wVar 4) (wVar 1)))
    (t_pick_5)
@[irreducible] def t_pick_7 : WS := wSeq (wIfS (wAnd (wB (wOp geF (wVar 4) (wOp powF (wC (.int 10)) (wC (.int 18))))) (wB (wOp ltU (wVar 3) (wCB lenF (wCons (wOp idxF (wVar 0) (wC (.int 0))) wNil)))))
    (t_pick_6) wNext)
    (t_pick_4)
@[irreducible] def x_pick_8 : WE := wIf (wB (wOp neF (wOp idxF (wVar 0) (wC (.int 0))) (wLst wNil))) (wOp idxF (wOp idxF (wVar 0) (wC (.int 0))) (wOp modF (wVar 3) (wCB lenF (wCons (wOp idxF (wVar 0) (wC (.int 0))) wNil)))) (wC (.int 105))
@[irreducible] def t_pick_9 : WS := wSeq (wSet 4 (x_pick_8))
    (t_pick_7)
@[irreducible] def t_pick_10 : WS := wSeq (wPut 0 (wC (.int 1)) (wOp addF (wVar 3) (wC (.int 1))))
    (t_pick_9)
@[irreducible] def t_pick_11 : WS := wSeq (wSet 3 (wOp idxF (wVar 0) (wC (.int 1))))
    (t_pick_10)
@[irreducible] def t_pick_12 : WS := (wRet (wVar 2))
@[irreducible] def t_pick_13 : WS := wSeq (wPut 0 (wC (.int 2)) (wOp fdivF (wOp idxF (wVar 0) (wC (.int 2))) (wVar 1)))
    (t_pick_12)
@[irreducible] def t_pick_14 : WS := wSeq (wSet 2 (wOp modF (wOp idxF (wVar 0) (wC (.int 2))) (wVar 1)))
    (t_pick_13)
@[irreducible] def t_pick_15 : WS := wSeq (wIfS (wB (wOp gtU (wOp idxF (wVar 0) (wC (.int 2))) (wC (.int 0))))
    (t_pick_14) wNext)
    (t_pick_11)
@[irreducible] def t_pick_16 : WS := wSeq (wPut 0 (wC (.int 3)) (wOp addF (wOp idxF (wVar 0) (wC (.int 3))) (wC (.int 1))))
    (t_pick_15)
def w_pick : WS := (wSeq (wPut 0 (wC (.int 3)) (wOp addF (wOp idxF (wVar 0) (wC (.int 3))) (wC (.int 1))))
    (wSeq (wIfS (wB (wOp gtU (wOp idxF (wVar 0) (wC (.int 2))) (wC (.int 0))))
    (wSeq (wSet 2 (wOp modF (wOp idxF (wVar 0) (wC (.int 2))) (wVar 1)))
    (wSeq (wPut 0 (wC (.int 2)) (wOp fdivF (wOp idxF (wVar 0) (wC (.int 2))) (wVar 1)))
    ((wRet (wVar 2))))) wNext)
    (wSeq (wSet 3 (wOp idxF (wVar 0) (wC (.int 1))))
    (wSeq (wPut 0 (wC (.int 1)) (wOp addF (wVar 3) (wC (.int 1))))
    (wSeq (wSet 4 (wIf (wB (wOp neF (wOp idxF (wVar 0) (wC (.int 0))) (wLst wNil))) (wOp idxF (wOp idxF (wVar 0) (wC (.int 0))) (wOp modF (wVar 3) (wCB lenF (wCons (wOp idxF (wVar 0) (wC (.int 0))) wNil)))) (wC (.int 105))))
    (wSeq (wIfS (wAnd (wB (wOp geF (wVar 4) (wOp powF (wC (.int 10)) (wC (.int 18))))) (wB (wOp ltU (wVar 3) (wCB lenF (wCons (wOp idxF (wVar 0) (wC (.int 0))) wNil)))))
    (wSeq (wPut 0 (wC (.int 2)) (wOp fdivF (wVar 4) (wVar 1)))
    ((wRet (wOp modF (wVar 4) (wVar 1))))) wNext)
    (wSeq (wSet 5 (wOp modF (wOp addF (wOp addF (wOp modF (wVar 4) (wC (.int 2147483647))) (wOp mulF (wC (.int 64081)) (wOp idxF (wVar 0) (wC (.int 3))))) (wC (.int 43))) (wC (.int 2147483629))))
    (wSeq (wSet 5 (wOp modF (wOp addF (wOp addF (wOp mulF (wVar 5) (wVar 5)) (wOp mulF (wC (.int 28351)) (wOp idxF (wVar 0) (wC (.int 3))))) (wC (.int 19))) (wC (.int 2147483587))))
    (wSeq (wSet 5 (wOp modF (wOp addF (wOp addF (wOp mulF (wVar 5) (wVar 5)) (wOp mulF (wC (.int 13309)) (wVar 5))) (wC (.int 1))) (wC (.int 2147483579))))
    ((wRet (wOp modF (wOp fdivF (wVar 5) (wC (.int 256))) (wVar 1)))))))))))))
theorem w_pick_eq : w_pick = (t_pick_16) := by with_unfolding_all rfl
theorem df_pick {g : Gx} {k : Nat} (m_len : g.mg "len" = none) {f : Addr} {fd : FuncData} (Fn : Fun g.K "_law_pick" "_law_pick" s_pick f fd) : FnG g CX0 (k + 1) f fd ["_law_tape_here", "_law_many"] (spOf g.K 2 (fnW 2 6 w_pick)) :=
  fn_dl (N := ["_law_tape_here", "_law_many", "_law_found", "_law_at", "_law_cell", "_law_mixed"]) Fn sc_pick (fun E => (ds_cons (ds_put (i := 0) rfl (by first | exact .inl rfl | exact .inr (.inl rfl) | exact .inr (.inr rfl)) de_int (de_op os_add (de_ix (de_var (i := 0) rfl (by first | exact .inl rfl | exact .inr (.inl rfl) | exact .inr (.inr rfl))) de_int) de_int))
    (ds_cons (ds_if (dt_cmp os_gtU (de_ix (de_var (i := 0) rfl (by first | exact .inl rfl | exact .inr (.inl rfl) | exact .inr (.inr rfl))) de_int) de_int rfl)
    (ds_cons (ds_set (i := 2) rfl (by first | exact .inl rfl | exact .inr rfl) (de_op os_mod (de_ix (de_var (i := 0) rfl (by first | exact .inl rfl | exact .inr (.inl rfl) | exact .inr (.inr rfl))) de_int) (de_var (i := 1) rfl (by first | exact .inl rfl | exact .inr (.inl rfl) | exact .inr (.inr rfl)))))
    (ds_cons (ds_put (i := 0) rfl (by first | exact .inl rfl | exact .inr (.inl rfl) | exact .inr (.inr rfl)) de_int (de_op os_fdiv (de_ix (de_var (i := 0) rfl (by first | exact .inl rfl | exact .inr (.inl rfl) | exact .inr (.inr rfl))) de_int) (de_var (i := 1) rfl (by first | exact .inl rfl | exact .inr (.inl rfl) | exact .inr (.inr rfl)))))
    (ds_one (ds_ret (de_var (i := 2) rfl (by first | exact .inl rfl | exact .inr (.inl rfl) | exact .inr (.inr rfl))))))) ds_nil)
    (ds_cons (ds_set (i := 3) rfl (by first | exact .inl rfl | exact .inr rfl) (de_ix (de_var (i := 0) rfl (by first | exact .inl rfl | exact .inr (.inl rfl) | exact .inr (.inr rfl))) de_int))
    (ds_cons (ds_put (i := 0) rfl (by first | exact .inl rfl | exact .inr (.inl rfl) | exact .inr (.inr rfl)) de_int (de_op os_add (de_var (i := 3) rfl (by first | exact .inl rfl | exact .inr (.inl rfl) | exact .inr (.inr rfl))) de_int))
    (ds_cons (ds_set (i := 4) rfl (by first | exact .inl rfl | exact .inr rfl) (de_ifx (dt_cmp os_ne (de_ix (de_var (i := 0) rfl (by first | exact .inl rfl | exact .inr (.inl rfl) | exact .inr (.inr rfl))) de_int) (de_lst da_nil) rfl) (de_ix (de_ix (de_var (i := 0) rfl (by first | exact .inl rfl | exact .inr (.inl rfl) | exact .inr (.inr rfl))) de_int) (de_op os_mod (de_var (i := 3) rfl (by first | exact .inl rfl | exact .inr (.inl rfl) | exact .inr (.inr rfl))) (de_callB cs_len rfl m_len rfl (da_cons (de_ix (de_var (i := 0) rfl (by first | exact .inl rfl | exact .inr (.inl rfl) | exact .inr (.inr rfl))) de_int) da_nil)))) de_int))
    (ds_cons (ds_if (dt_w (dw_and (dt_cmp os_ge (de_var (i := 4) rfl (by first | exact .inl rfl | exact .inr (.inl rfl) | exact .inr (.inr rfl))) (de_op os_pow de_int de_int) rfl) (dw_and1 (dt_cmp os_ltU (de_var (i := 3) rfl (by first | exact .inl rfl | exact .inr (.inl rfl) | exact .inr (.inr rfl))) (de_callB cs_len rfl m_len rfl (da_cons (de_ix (de_var (i := 0) rfl (by first | exact .inl rfl | exact .inr (.inl rfl) | exact .inr (.inr rfl))) de_int) da_nil)) rfl))))
    (ds_cons (ds_put (i := 0) rfl (by first | exact .inl rfl | exact .inr (.inl rfl) | exact .inr (.inr rfl)) de_int (de_op os_fdiv (de_var (i := 4) rfl (by first | exact .inl rfl | exact .inr (.inl rfl) | exact .inr (.inr rfl))) (de_var (i := 1) rfl (by first | exact .inl rfl | exact .inr (.inl rfl) | exact .inr (.inr rfl)))))
    (ds_one (ds_ret (de_op os_mod (de_var (i := 4) rfl (by first | exact .inl rfl | exact .inr (.inl rfl) | exact .inr (.inr rfl))) (de_var (i := 1) rfl (by first | exact .inl rfl | exact .inr (.inl rfl) | exact .inr (.inr rfl))))))) ds_nil)
    (ds_cons (ds_set (i := 5) rfl (by first | exact .inl rfl | exact .inr rfl) (de_op os_mod (de_op os_add (de_op os_add (de_op os_mod (de_var (i := 4) rfl (by first | exact .inl rfl | exact .inr (.inl rfl) | exact .inr (.inr rfl))) de_int) (de_op os_mul de_int (de_ix (de_var (i := 0) rfl (by first | exact .inl rfl | exact .inr (.inl rfl) | exact .inr (.inr rfl))) de_int))) de_int) de_int))
    (ds_cons (ds_set (i := 5) rfl (by first | exact .inl rfl | exact .inr rfl) (de_op os_mod (de_op os_add (de_op os_add (de_op os_mul (de_var (i := 5) rfl (by first | exact .inl rfl | exact .inr (.inl rfl) | exact .inr (.inr rfl))) (de_var (i := 5) rfl (by first | exact .inl rfl | exact .inr (.inl rfl) | exact .inr (.inr rfl)))) (de_op os_mul de_int (de_ix (de_var (i := 0) rfl (by first | exact .inl rfl | exact .inr (.inl rfl) | exact .inr (.inr rfl))) de_int))) de_int) de_int))
    (ds_cons (ds_set (i := 5) rfl (by first | exact .inl rfl | exact .inr rfl) (de_op os_mod (de_op os_add (de_op os_add (de_op os_mul (de_var (i := 5) rfl (by first | exact .inl rfl | exact .inr (.inl rfl) | exact .inr (.inr rfl))) (de_var (i := 5) rfl (by first | exact .inl rfl | exact .inr (.inl rfl) | exact .inr (.inr rfl)))) (de_op os_mul de_int (de_var (i := 5) rfl (by first | exact .inl rfl | exact .inr (.inl rfl) | exact .inr (.inr rfl))))) de_int) de_int))
    (ds_one (ds_ret (de_op os_mod (de_op os_fdiv (de_var (i := 5) rfl (by first | exact .inl rfl | exact .inr (.inl rfl) | exact .inr (.inr rfl))) de_int) (de_var (i := 1) rfl (by first | exact .inl rfl | exact .inr (.inl rfl) | exact .inr (.inr rfl)))))))))))))))) (by decide)
theorem bd_pick {K : PySem.W.Frag} {f : Addr} {fd : FuncData} (Fn : Fun K "_law_pick" "_law_pick" s_pick f fd) : Binds K fd ["_law_tape_here", "_law_many"] [] := Fn.binds (ps := ["_law_tape_here", "_law_many"]) fun _ _ _ _ _ _ us hl => match us, hl with | [_, _], _ => rfl
theorem cal_pick {g : Gx} {k : Nat} {W : FSpec} (m_len : g.mg "len" = none) (h : Got g "_law_pick" s_pick) (im : ∀ ss Ex P, W ss Ex P → fnW 2 6 w_pick ss Ex P) : Cal g CX0 (k + 1) "_law_pick" ["_law_tape_here", "_law_many"] W := by
  obtain ⟨f, fd, m, F⟩ := h
  exact Cal.imp ⟨f, fd, df_pick    m_len  F, m, F.kp, bd_pick F⟩ im
/-! ### _law_waits -/
theorem sc_waits : FnScope ["_law_tape_here", "_law_many", "_law_hands", "_law_locks", "_law_found", "_law_hand", "_law_holds", "_law_k", "_law_at", "_law_some"] ["_law_tape_here", "_law_many"] (defScope s_waits) := ⟨rfl, rfl, rfl, by decide +kernel, rfl, by decide +kernel, by decide +kernel⟩
@[irreducible] def t_waits_1 (C_pick : FSpec) : WS := (wRet (wTupO (wConsO (wVar 4) (wConsO (wVar 9) (wConsO (wLst wNil) wNil)))))
@[irreducible] def t_waits_2 (C_pick : FSpec) : WS := (wDrop (wExtT 9 (wVar 6)))
@[irreducible] def t_waits_3 (C_pick : FSpec) : WS := wSeq (wFor (wIt (wVar 4)) (gT 2 (gsC (gN 5) (gsC (gN 6) gsN)))
    (t_waits_2 C_pick))
    (t_waits_1 C_pick)
@[irreducible] def t_waits_4 (C_pick : FSpec) : WS := wSeq (wSet 9 (wLst wNil))
    (t_waits_3 C_pick)
@[irreducible] def t_waits_5 (C_pick : FSpec) : WS := (wDrop (wApp 4 (wTup (wCons (wVar 5) (wCons (wCB tupleF (wCons (wCB ssetF (wCons (wVar 6) wNil)) wNil)) wNil)))))
@[irreducible] def x_waits_6 (C_pick : FSpec) : WE := wIf (wB (wOp gtU (wCB lenF (wCons (wVar 3) wNil)) (wC (.int 1)))) (wPopI 3 (wVar 8)) (wOp addF (wC (.int 555)) (wVar 5))
@[irreducible] def t_waits_7 (C_pick : FSpec) : WS := (wDrop (wApp 6 (x_waits_6 C_pick)))
@[irreducible] def t_waits_8 (C_pick : FSpec) : WS := wSeq (wSet 8 (wCall 2 C_pick [true, false] (wCons (wVar 0) (wCons (wCB lenF (wCons (wVar 3) wNil)) wNil))))
    (t_waits_7 C_pick)
@[irreducible] def t_waits_9 (C_pick : FSpec) : WS := wSeq (wFor (wRng (wCons (wCall 2 C_pick [true, false] (wCons (wVar 0) (wCons (wC (.int 3)) wNil))) wNil) rng1) (gN 7)
    (t_waits_8 C_pick))
    (t_waits_5 C_pick)
@[irreducible] def t_waits_10 (C_pick : FSpec) : WS := wSeq (wSet 6 (wLst wNil))
    (t_waits_9 C_pick)
@[irreducible] def t_waits_11 (C_pick : FSpec) : WS := wSeq (wFor (wIt (wVar 2)) (gN 5)
    (t_waits_10 C_pick))
    (t_waits_4 C_pick)
@[irreducible] def t_waits_12 (C_pick : FSpec) : WS := wSeq (wSet 4 (wLst wNil))
    (t_waits_11 C_pick)
@[irreducible] def t_waits_13 (C_pick : FSpec) : WS := wSeq (wSet 3 (wLst (wCons (wC (.int 0)) (wCons (wC (.int 1)) (wCons (wC (.int 9)) (wCons (wC (.int 10)) (wCons (wC (.int 11)) (wCons (wC (.int 99)) (wCons (wC (.int 100)) (wCons (wC (.int 7)) (wCons (wC (.int 5)) (wCons (wC (.int 40)) wNil))))))))))))
    (t_waits_12 C_pick)
@[irreducible] def t_waits_14 (C_pick : FSpec) : WS := wSeq (wSet 2 (wCB sortF (wCons (wSl (wLst (wCons (wC (.int 0)) (wCons (wC (.int 9)) (wCons (wC (.int 10)) (wCons (wC (.int 3)) (wCons (wC (.int 100)) (wCons (wC (.int 11)) (wCons (wC (.int 2)) wNil)))))))) wNoP (wPart (wCall 2 C_pick [true, false] (wCons (wVar 0) (wCons (wOp addF (wVar 1) (wC (.int 1))) wNil))))) wNil)))
    (t_waits_13 C_pick)
def w_waits (C_pick : FSpec) : WS := (wSeq (wSet 2 (wCB sortF (wCons (wSl (wLst (wCons (wC (.int 0)) (wCons (wC (.int 9)) (wCons (wC (.int 10)) (wCons (wC (.int 3)) (wCons (wC (.int 100)) (wCons (wC (.int 11)) (wCons (wC (.int 2)) wNil)))))))) wNoP (wPart (wCall 2 C_pick [true, false] (wCons (wVar 0) (wCons (wOp addF (wVar 1) (wC (.int 1))) wNil))))) wNil)))
    (wSeq (wSet 3 (wLst (wCons (wC (.int 0)) (wCons (wC (.int 1)) (wCons (wC (.int 9)) (wCons (wC (.int 10)) (wCons (wC (.int 11)) (wCons (wC (.int 99)) (wCons (wC (.int 100)) (wCons (wC (.int 7)) (wCons (wC (.int 5)) (wCons (wC (.int 40)) wNil))))))))))))
    (wSeq (wSet 4 (wLst wNil))
    (wSeq (wFor (wIt (wVar 2)) (gN 5)
    (wSeq (wSet 6 (wLst wNil))
    (wSeq (wFor (wRng (wCons (wCall 2 C_pick [true, false] (wCons (wVar 0) (wCons (wC (.int 3)) wNil))) wNil) rng1) (gN 7)
    (wSeq (wSet 8 (wCall 2 C_pick [true, false] (wCons (wVar 0) (wCons (wCB lenF (wCons (wVar 3) wNil)) wNil))))
    ((wDrop (wApp 6 (wIf (wB (wOp gtU (wCB lenF (wCons (wVar 3) wNil)) (wC (.int 1)))) (wPopI 3 (wVar 8)) (wOp addF (wC (.int 555)) (wVar 5))))))))
    ((wDrop (wApp 4 (wTup (wCons (wVar 5) (wCons (wCB tupleF (wCons (wCB ssetF (wCons (wVar 6) wNil)) wNil)) wNil)))))))))
    (wSeq (wSet 9 (wLst wNil))
    (wSeq (wFor (wIt (wVar 4)) (gT 2 (gsC (gN 5) (gsC (gN 6) gsN)))
    ((wDrop (wExtT 9 (wVar 6)))))
    ((wRet (wTupO (wConsO (wVar 4) (wConsO (wVar 9) (wConsO (wLst wNil) wNil))))))))))))
theorem w_waits_eq (C_pick : FSpec) : w_waits C_pick = (t_waits_14 C_pick) := by with_unfolding_all rfl
theorem df_waits {g : Gx} {k : Nat} {C_pick : FSpec} (mono_pick : FMono C_pick) (c_pick : Cal g CX0 k "_law_pick" ["_law_tape_here", "_law_many"] C_pick) (m_sorted : g.mg "sorted" = none) (m_set : g.mg "set" = none) (m_tuple : g.mg "tuple" = none) (m_range : g.mg "range" = none) (m_len : g.mg "len" = none) {f : Addr} {fd : FuncData} (Fn : Fun g.K "_law_waits" "_law_waits" s_waits f fd) : FnG g CX0 (k + 1) f fd ["_law_tape_here", "_law_many"] (spOf g.K 2 (fnW 2 10 (w_waits C_pick))) :=
  fn_dl (N := ["_law_tape_here", "_law_many", "_law_hands", "_law_locks", "_law_found", "_law_hand", "_law_holds", "_law_k", "_law_at", "_law_some"]) Fn sc_waits (fun E => (ds_cons (ds_set (i := 2) rfl (by first | exact .inl rfl | exact .inr rfl) (de_callB cs_sorted rfl m_sorted rfl (da_cons (de_sl (de_lst (da_cons de_int (da_cons de_int (da_cons de_int (da_cons de_int (da_cons de_int (da_cons de_int (da_cons de_int da_nil)))))))) do_none (do_some (de_cal (ms := [true, false]) c_pick mono_pick rfl (da_cons (de_var (i := 0) rfl (by first | exact .inl rfl | exact .inr (.inl rfl) | exact .inr (.inr rfl))) (da_cons (de_op os_add (de_var (i := 1) rfl (by first | exact .inl rfl | exact .inr (.inl rfl) | exact .inr (.inr rfl))) de_int) da_nil))))) da_nil)))
    (ds_cons (ds_set (i := 3) rfl (by first | exact .inl rfl | exact .inr rfl) (de_lst (da_cons de_int (da_cons de_int (da_cons de_int (da_cons de_int (da_cons de_int (da_cons de_int (da_cons de_int (da_cons de_int (da_cons de_int (da_cons de_int da_nil))))))))))))
    (ds_cons (ds_set (i := 4) rfl (by first | exact .inl rfl | exact .inr rfl) (de_lst da_nil))
    (ds_cons (ds_for (di_seq (de_var (i := 2) rfl (by first | exact .inl rfl | exact .inr (.inl rfl) | exact .inr (.inr rfl)))) (dg_name (i := 5) rfl (by first | exact .inl rfl | exact .inr rfl))
    (ds_cons (ds_set (i := 6) rfl (by first | exact .inl rfl | exact .inr rfl) (de_lst da_nil))
    (ds_cons (ds_for (di_rng1 rfl m_range (da_cons (de_cal (ms := [true, false]) c_pick mono_pick rfl (da_cons (de_var (i := 0) rfl (by first | exact .inl rfl | exact .inr (.inl rfl) | exact .inr (.inr rfl))) (da_cons de_int da_nil))) da_nil)) (dg_name (i := 7) rfl (by first | exact .inl rfl | exact .inr rfl))
    (ds_cons (ds_set (i := 8) rfl (by first | exact .inl rfl | exact .inr rfl) (de_cal (ms := [true, false]) c_pick mono_pick rfl (da_cons (de_var (i := 0) rfl (by first | exact .inl rfl | exact .inr (.inl rfl) | exact .inr (.inr rfl))) (da_cons (de_callB cs_len rfl m_len rfl (da_cons (de_var (i := 3) rfl (by first | exact .inl rfl | exact .inr (.inl rfl) | exact .inr (.inr rfl))) da_nil)) da_nil))))
    (ds_one (ds_expr (de_app (i := 6) rfl (by first | exact .inl rfl | exact .inr (.inl rfl) | exact .inr (.inr rfl)) (de_ifx (dt_cmp os_gtU (de_callB cs_len rfl m_len rfl (da_cons (de_var (i := 3) rfl (by first | exact .inl rfl | exact .inr (.inl rfl) | exact .inr (.inr rfl))) da_nil)) de_int rfl) (de_popI (i := 3) rfl (by first | exact .inl rfl | exact .inr (.inl rfl) | exact .inr (.inr rfl)) (de_var (i := 8) rfl (by first | exact .inl rfl | exact .inr (.inl rfl) | exact .inr (.inr rfl)))) (de_op os_add de_int (de_var (i := 5) rfl (by first | exact .inl rfl | exact .inr (.inl rfl) | exact .inr (.inr rfl))))))))))
    (ds_one (ds_expr (de_app (i := 4) rfl (by first | exact .inl rfl | exact .inr (.inl rfl) | exact .inr (.inr rfl)) (de_tup (da_cons (de_var (i := 5) rfl (by first | exact .inl rfl | exact .inr (.inl rfl) | exact .inr (.inr rfl))) (da_cons (de_callT cs_tuple rfl m_tuple rfl (da_cons (de_sortedSet rfl m_sorted rfl m_set (de_var (i := 6) rfl (by first | exact .inl rfl | exact .inr (.inl rfl) | exact .inr (.inr rfl)))) da_nil)) da_nil)))))))))
    (ds_cons (ds_set (i := 9) rfl (by first | exact .inl rfl | exact .inr rfl) (de_lst da_nil))
    (ds_cons (ds_for (di_seq (de_var (i := 4) rfl (by first | exact .inl rfl | exact .inr (.inl rfl) | exact .inr (.inr rfl)))) (dg_tup (dgs_cons (dg_name (i := 5) rfl (by first | exact .inl rfl | exact .inr rfl)) (dgs_cons (dg_name (i := 6) rfl (by first | exact .inl rfl | exact .inr rfl)) dgs_nil)))
    (ds_one (ds_expr (de_extT (i := 9) rfl (by first | exact .inl rfl | exact .inr (.inl rfl) | exact .inr (.inr rfl)) (de_var (i := 6) rfl (by first | exact .inl rfl | exact .inr (.inl rfl) | exact .inr (.inr rfl)))))))
    (ds_one (ds_ret (de_tupO (dao_cons (de_var (i := 4) rfl (by first | exact .inl rfl | exact .inr (.inl rfl) | exact .inr (.inr rfl))) (dao_cons (de_var (i := 9) rfl (by first | exact .inl rfl | exact .inr (.inl rfl) | exact .inr (.inr rfl))) (dao_cons (de_lst da_nil) dao_nil))))))))))))) (by decide)
theorem bd_waits {K : PySem.W.Frag} {f : Addr} {fd : FuncData} (Fn : Fun K "_law_waits" "_law_waits" s_waits f fd) : Binds K fd ["_law_tape_here", "_law_many"] [] := Fn.binds (ps := ["_law_tape_here", "_law_many"]) fun _ _ _ _ _ _ us hl => match us, hl with | [_, _], _ => rfl
theorem cal_waits {g : Gx} {k : Nat} {C_pick : FSpec} {W : FSpec} (mono_pick : FMono C_pick) (c_pick : Cal g CX0 k "_law_pick" ["_law_tape_here", "_law_many"] C_pick) (m_sorted : g.mg "sorted" = none) (m_set : g.mg "set" = none) (m_tuple : g.mg "tuple" = none) (m_range : g.mg "range" = none) (m_len : g.mg "len" = none) (h : Got g "_law_waits" s_waits) (im : ∀ ss Ex P, W ss Ex P → fnW 2 10 (w_waits C_pick) ss Ex P) : Cal g CX0 (k + 1) "_law_waits" ["_law_tape_here", "_law_many"] W := by
  obtain ⟨f, fd, m, F⟩ := h
  exact Cal.imp ⟨f, fd, df_waits mono_pick c_pick   m_sorted m_set m_tuple m_range m_len  F, m, F.kp, bd_waits F⟩ im
/-! ### _law_wanting -/
theorem sc_wanting : FnScope ["_law_tape_here", "_law_many", "_law_held", "_law_some", "_law_rows", "_law_hand", "_law_holds", "_law_wants"] ["_law_tape_here", "_law_many"] (defScope s_wanting) := ⟨rfl, rfl, rfl, by decide +kernel, rfl, by decide +kernel, by decide +kernel⟩
@[irreducible] def t_wanting_1 (C_pick C_waits : FSpec) : WS := (wRet (wCB tupleF (wCons (wVar 4) wNil)))
@[irreducible] def t_wanting_2 (C_pick C_waits : FSpec) : WS := (wDrop (wApp 4 (wTup (wCons (wVar 5) (wCons (wVar 6) (wCons (wVar 7) wNil))))))
@[irreducible] def x_wanting_3 (C_pick C_waits : FSpec) : WE := wIf (wB (wOp neF (wVar 7) (wLst wNil))) (wOp idxF (wVar 7) (wCall 2 C_pick [true, false] (wCons (wVar 0) (wCons (wCB lenF (wCons (wVar 7) wNil)) wNil)))) (wC .none)
@[irreducible] def t_wanting_4 (C_pick C_waits : FSpec) : WS := (wSet 7 (x_wanting_3 C_pick C_waits))
@[irreducible] def t_wanting_5 (C_pick C_waits : FSpec) : WS := wSeq (wIfS (wTru (wIsi "list" (wVar 7)))
    (t_wanting_4 C_pick C_waits) wNext)
    (t_wanting_2 C_pick C_waits)
@[irreducible] def t_wanting_6 (C_pick C_waits : FSpec) : WS := wSeq (wSet 7 (wOp idxF (wLst (wCons (wC .none) (wCons (wC (.int 77)) (wCons (wVar 3) (wCons (wVar 3) (wCons (wVar 3) wNil)))))) (wCall 2 C_pick [true, false] (wCons (wVar 0) (wCons (wC (.int 5)) wNil)))))
    (t_wanting_5 C_pick C_waits)
@[irreducible] def t_wanting_7 (C_pick C_waits : FSpec) : WS := wSeq (wFor (wIt (wVar 2)) (gT 2 (gsC (gN 5) (gsC (gN 6) gsN)))
    (t_wanting_6 C_pick C_waits))
    (t_wanting_1 C_pick C_waits)
@[irreducible] def t_wanting_8 (C_pick C_waits : FSpec) : WS := wSeq (wUnp [2, 3, 4] (wCall 2 C_waits [true, false] (wCons (wVar 0) (wCons (wVar 1) wNil))))
    (t_wanting_7 C_pick C_waits)
def w_wanting (C_pick C_waits : FSpec) : WS := (wSeq (wUnp [2, 3, 4] (wCall 2 C_waits [true, false] (wCons (wVar 0) (wCons (wVar 1) wNil))))
    (wSeq (wFor (wIt (wVar 2)) (gT 2 (gsC (gN 5) (gsC (gN 6) gsN)))
    (wSeq (wSet 7 (wOp idxF (wLst (wCons (wC .none) (wCons (wC (.int 77)) (wCons (wVar 3) (wCons (wVar 3) (wCons (wVar 3) wNil)))))) (wCall 2 C_pick [true, false] (wCons (wVar 0) (wCons (wC (.int 5)) wNil)))))
    (wSeq (wIfS (wTru (wIsi "list" (wVar 7)))
    ((wSet 7 (wIf (wB (wOp neF (wVar 7) (wLst wNil))) (wOp idxF (wVar 7) (wCall 2 C_pick [true, false] (wCons (wVar 0) (wCons (wCB lenF (wCons (wVar 7) wNil)) wNil)))) (wC .none)))) wNext)
    ((wDrop (wApp 4 (wTup (wCons (wVar 5) (wCons (wVar 6) (wCons (wVar 7) wNil))))))))))
    ((wRet (wCB tupleF (wCons (wVar 4) wNil))))))
theorem w_wanting_eq (C_pick C_waits : FSpec) : w_wanting C_pick C_waits = (t_wanting_8 C_pick C_waits) := by with_unfolding_all rfl
theorem df_wanting {g : Gx} {k : Nat} {C_pick C_waits : FSpec} (mono_pick : FMono C_pick) (c_pick : Cal g CX0 k "_law_pick" ["_law_tape_here", "_law_many"] C_pick) (mono_waits : FMono C_waits) (c_waits : Cal g CX0 k "_law_waits" ["_law_tape_here", "_law_many"] C_waits) (m_tuple : g.mg "tuple" = none) (m_isinstance : g.mg "isinstance" = none) (m_list : g.mg "list" = none) (m_len : g.mg "len" = none) {f : Addr} {fd : FuncData} (Fn : Fun g.K "_law_wanting" "_law_wanting" s_wanting f fd) : FnG g CX0 (k + 1) f fd ["_law_tape_here", "_law_many"] (spOf g.K 2 (fnW 2 8 (w_wanting C_pick C_waits))) :=
  fn_dl (N := ["_law_tape_here", "_law_many", "_law_held", "_law_some", "_law_rows", "_law_hand", "_law_holds", "_law_wants"]) Fn sc_wanting (fun E => (ds_cons (ds_unp (de_cal (ms := [true, false]) c_waits mono_waits rfl (da_cons (de_var (i := 0) rfl (by first | exact .inl rfl | exact .inr (.inl rfl) | exact .inr (.inr rfl))) (da_cons (de_var (i := 1) rfl (by first | exact .inl rfl | exact .inr (.inl rfl) | exact .inr (.inr rfl))) da_nil))) (dns_cons (i := 2) rfl (by first | exact .inl rfl | exact .inr rfl) (dns_cons (i := 3) rfl (by first | exact .inl rfl | exact .inr rfl) (dns_cons (i := 4) rfl (by first | exact .inl rfl | exact .inr rfl) dns_nil))) rfl)
    (ds_cons (ds_for (di_seq (de_var (i := 2) rfl (by first | exact .inl rfl | exact .inr (.inl rfl) | exact .inr (.inr rfl)))) (dg_tup (dgs_cons (dg_name (i := 5) rfl (by first | exact .inl rfl | exact .inr rfl)) (dgs_cons (dg_name (i := 6) rfl (by first | exact .inl rfl | exact .inr rfl)) dgs_nil)))
    (ds_cons (ds_set (i := 7) rfl (by first | exact .inl rfl | exact .inr rfl) (de_ix (de_lst (da_cons de_non (da_cons de_int (da_cons (de_var (i := 3) rfl (by first | exact .inl rfl | exact .inr (.inl rfl) | exact .inr (.inr rfl))) (da_cons (de_var (i := 3) rfl (by first | exact .inl rfl | exact .inr (.inl rfl) | exact .inr (.inr rfl))) (da_cons (de_var (i := 3) rfl (by first | exact .inl rfl | exact .inr (.inl rfl) | exact .inr (.inr rfl))) da_nil)))))) (de_cal (ms := [true, false]) c_pick mono_pick rfl (da_cons (de_var (i := 0) rfl (by first | exact .inl rfl | exact .inr (.inl rfl) | exact .inr (.inr rfl))) (da_cons de_int da_nil)))))
    (ds_cons (ds_if (dt_tru (de_isi (T := "list") rfl rfl m_isinstance rfl m_list rfl (de_var (i := 7) rfl (by first | exact .inl rfl | exact .inr (.inl rfl) | exact .inr (.inr rfl)))) (fun _ _ => rfl))
    (ds_one (ds_set (i := 7) rfl (by first | exact .inl rfl | exact .inr rfl) (de_ifx (dt_cmp os_ne (de_var (i := 7) rfl (by first | exact .inl rfl | exact .inr (.inl rfl) | exact .inr (.inr rfl))) (de_lst da_nil) rfl) (de_ix (de_var (i := 7) rfl (by first | exact .inl rfl | exact .inr (.inl rfl) | exact .inr (.inr rfl))) (de_cal (ms := [true, false]) c_pick mono_pick rfl (da_cons (de_var (i := 0) rfl (by first | exact .inl rfl | exact .inr (.inl rfl) | exact .inr (.inr rfl))) (da_cons (de_callB cs_len rfl m_len rfl (da_cons (de_var (i := 7) rfl (by first | exact .inl rfl | exact .inr (.inl rfl) | exact .inr (.inr rfl))) da_nil)) da_nil)))) de_non))) ds_nil)
    (ds_one (ds_expr (de_app (i := 4) rfl (by first | exact .inl rfl | exact .inr (.inl rfl) | exact .inr (.inr rfl)) (de_tup (da_cons (de_var (i := 5) rfl (by first | exact .inl rfl | exact .inr (.inl rfl) | exact .inr (.inr rfl))) (da_cons (de_var (i := 6) rfl (by first | exact .inl rfl | exact .inr (.inl rfl) | exact .inr (.inr rfl))) (da_cons (de_var (i := 7) rfl (by first | exact .inl rfl | exact .inr (.inl rfl) | exact .inr (.inr rfl))) da_nil))))))))))
    (ds_one (ds_ret (de_callT cs_tuple rfl m_tuple rfl (da_cons (de_var (i := 4) rfl (by first | exact .inl rfl | exact .inr (.inl rfl) | exact .inr (.inr rfl))) da_nil))))))) (by decide)
theorem bd_wanting {K : PySem.W.Frag} {f : Addr} {fd : FuncData} (Fn : Fun K "_law_wanting" "_law_wanting" s_wanting f fd) : Binds K fd ["_law_tape_here", "_law_many"] [] := Fn.binds (ps := ["_law_tape_here", "_law_many"]) fun _ _ _ _ _ _ us hl => match us, hl with | [_, _], _ => rfl
theorem cal_wanting {g : Gx} {k : Nat} {C_pick C_waits : FSpec} {W : FSpec} (mono_pick : FMono C_pick) (c_pick : Cal g CX0 k "_law_pick" ["_law_tape_here", "_law_many"] C_pick) (mono_waits : FMono C_waits) (c_waits : Cal g CX0 k "_law_waits" ["_law_tape_here", "_law_many"] C_waits) (m_tuple : g.mg "tuple" = none) (m_isinstance : g.mg "isinstance" = none) (m_list : g.mg "list" = none) (m_len : g.mg "len" = none) (h : Got g "_law_wanting" s_wanting) (im : ∀ ss Ex P, W ss Ex P → fnW 2 8 (w_wanting C_pick C_waits) ss Ex P) : Cal g CX0 (k + 1) "_law_wanting" ["_law_tape_here", "_law_many"] W := by
  obtain ⟨f, fd, m, F⟩ := h
  exact Cal.imp ⟨f, fd, df_wanting mono_pick c_pick mono_waits c_waits   m_tuple m_isinstance m_list m_len  F, m, F.kp, bd_wanting F⟩ im
/-! ### _law_ringed -/
theorem sc_ringed : FnScope ["_law_tape_here", "_law_rows", "_law_many", "_law_found", "_law_k", "_law_hand", "_law_holds", "_law_wants"] ["_law_tape_here", "_law_rows"] (defScope s_ringed) := ⟨rfl, rfl, rfl, by decide +kernel, rfl, by decide +kernel, by decide +kernel⟩
@[irreducible] def t_ringed_1 (C_pick : FSpec) : WS := (wRet (wCB tupleF (wCons (wVar 3) wNil)))
@[irreducible] def t_ringed_2 (C_pick : FSpec) : WS := (wDrop (wApp 3 (wTup (wCons (wVar 5) (wCons (wVar 6) (wCons (wVar 7) wNil))))))
@[irreducible] def t_ringed_3 (C_pick : FSpec) : WS := (wParO [6, 7] (wConsO (wOp addF (wVar 6) (wTup (wCons (wOp addF (wC (.int 1000)) (wVar 4)) wNil))) (wConsO (wOp addF (wC (.int 1000)) (wOp modF (wOp addF (wVar 4) (wC (.int 1))) (wVar 2))) wNil)))
@[irreducible] def t_ringed_4 (C_pick : FSpec) : WS := wSeq (wIfS (wB (wOp ltU (wVar 4) (wVar 2)))
    (t_ringed_3 C_pick) wNext)
    (t_ringed_2 C_pick)
@[irreducible] def t_ringed_5 (C_pick : FSpec) : WS := wSeq (wUnp [5, 6, 7] (wOp idxF (wVar 1) (wVar 4)))
    (t_ringed_4 C_pick)
@[irreducible] def t_ringed_6 (C_pick : FSpec) : WS := wSeq (wFor (wRng (wCons (wCB lenF (wCons (wVar 1) wNil)) wNil) rng1) (gN 4)
    (t_ringed_5 C_pick))
    (t_ringed_1 C_pick)
@[irreducible] def t_ringed_7 (C_pick : FSpec) : WS := wSeq (wSet 3 (wLst wNil))
    (t_ringed_6 C_pick)
@[irreducible] def t_ringed_8 (C_pick : FSpec) : WS := wSeq (wSet 2 (wOp addF (wC (.int 1)) (wCall 2 C_pick [true, false] (wCons (wVar 0) (wCons (wCB maxF2 (wCons (wC (.int 1)) (wCons (wCB minF (wCons (wC (.int 5)) (wCons (wCB lenF (wCons (wVar 1) wNil)) wNil))) wNil))) wNil)))))
    (t_ringed_7 C_pick)
def w_ringed (C_pick : FSpec) : WS := (wSeq (wSet 2 (wOp addF (wC (.int 1)) (wCall 2 C_pick [true, false] (wCons (wVar 0) (wCons (wCB maxF2 (wCons (wC (.int 1)) (wCons (wCB minF (wCons (wC (.int 5)) (wCons (wCB lenF (wCons (wVar 1) wNil)) wNil))) wNil))) wNil)))))
    (wSeq (wSet 3 (wLst wNil))
    (wSeq (wFor (wRng (wCons (wCB lenF (wCons (wVar 1) wNil)) wNil) rng1) (gN 4)
    (wSeq (wUnp [5, 6, 7] (wOp idxF (wVar 1) (wVar 4)))
    (wSeq (wIfS (wB (wOp ltU (wVar 4) (wVar 2)))
    ((wParO [6, 7] (wConsO (wOp addF (wVar 6) (wTup (wCons (wOp addF (wC (.int 1000)) (wVar 4)) wNil))) (wConsO (wOp addF (wC (.int 1000)) (wOp modF (wOp addF (wVar 4) (wC (.int 1))) (wVar 2))) wNil)))) wNext)
    ((wDrop (wApp 3 (wTup (wCons (wVar 5) (wCons (wVar 6) (wCons (wVar 7) wNil))))))))))
    ((wRet (wCB tupleF (wCons (wVar 3) wNil)))))))
theorem w_ringed_eq (C_pick : FSpec) : w_ringed C_pick = (t_ringed_8 C_pick) := by with_unfolding_all rfl
theorem df_ringed {g : Gx} {k : Nat} {C_pick : FSpec} (mono_pick : FMono C_pick) (c_pick : Cal g CX0 k "_law_pick" ["_law_tape_here", "_law_many"] C_pick) (m_tuple : g.mg "tuple" = none) (m_len : g.mg "len" = none) (m_range : g.mg "range" = none) (m_min : g.mg "min" = none) (m_max : g.mg "max" = none) {f : Addr} {fd : FuncData} (Fn : Fun g.K "_law_ringed" "_law_ringed" s_ringed f fd) : FnG g CX0 (k + 1) f fd ["_law_tape_here", "_law_rows"] (spOf g.K 2 (fnW 2 8 (w_ringed C_pick))) :=
  fn_dl (N := ["_law_tape_here", "_law_rows", "_law_many", "_law_found", "_law_k", "_law_hand", "_law_holds", "_law_wants"]) Fn sc_ringed (fun E => (ds_cons (ds_set (i := 2) rfl (by first | exact .inl rfl | exact .inr rfl) (de_op os_add de_int (de_cal (ms := [true, false]) c_pick mono_pick rfl (da_cons (de_var (i := 0) rfl (by first | exact .inl rfl | exact .inr (.inl rfl) | exact .inr (.inr rfl))) (da_cons (de_callB cs_max2 rfl m_max rfl (da_cons de_int (da_cons (de_callB cs_min rfl m_min rfl (da_cons de_int (da_cons (de_callB cs_len rfl m_len rfl (da_cons (de_var (i := 1) rfl (by first | exact .inl rfl | exact .inr (.inl rfl) | exact .inr (.inr rfl))) da_nil)) da_nil))) da_nil))) da_nil)))))
    (ds_cons (ds_set (i := 3) rfl (by first | exact .inl rfl | exact .inr rfl) (de_lst da_nil))
    (ds_cons (ds_for (di_rng1 rfl m_range (da_cons (de_callB cs_len rfl m_len rfl (da_cons (de_var (i := 1) rfl (by first | exact .inl rfl | exact .inr (.inl rfl) | exact .inr (.inr rfl))) da_nil)) da_nil)) (dg_name (i := 4) rfl (by first | exact .inl rfl | exact .inr rfl))
    (ds_cons (ds_unp (de_ix (de_var (i := 1) rfl (by first | exact .inl rfl | exact .inr (.inl rfl) | exact .inr (.inr rfl))) (de_var (i := 4) rfl (by first | exact .inl rfl | exact .inr (.inl rfl) | exact .inr (.inr rfl)))) (dns_cons (i := 5) rfl (by first | exact .inl rfl | exact .inr rfl) (dns_cons (i := 6) rfl (by first | exact .inl rfl | exact .inr rfl) (dns_cons (i := 7) rfl (by first | exact .inl rfl | exact .inr rfl) dns_nil))) rfl)
    (ds_cons (ds_if (dt_cmp os_ltU (de_var (i := 4) rfl (by first | exact .inl rfl | exact .inr (.inl rfl) | exact .inr (.inr rfl))) (de_var (i := 2) rfl (by first | exact .inl rfl | exact .inr (.inl rfl) | exact .inr (.inr rfl))) rfl)
    (ds_one (ds_parO2 (i := 6) (j := 7) rfl rfl (by decide) rfl rfl (dao_cons (de_op os_add (de_var (i := 6) rfl (by first | exact .inl rfl | exact .inr (.inl rfl) | exact .inr (.inr rfl))) (de_tup (da_cons (de_op os_add de_int (de_var (i := 4) rfl (by first | exact .inl rfl | exact .inr (.inl rfl) | exact .inr (.inr rfl)))) da_nil))) (dao_cons (de_op os_add de_int (de_op os_mod (de_op os_add (de_var (i := 4) rfl (by first | exact .inl rfl | exact .inr (.inl rfl) | exact .inr (.inr rfl))) de_int) (de_var (i := 2) rfl (by first | exact .inl rfl | exact .inr (.inl rfl) | exact .inr (.inr rfl))))) dao_nil)) (fun _ => by rfl))) ds_nil)
    (ds_one (ds_expr (de_app (i := 3) rfl (by first | exact .inl rfl | exact .inr (.inl rfl) | exact .inr (.inr rfl)) (de_tup (da_cons (de_var (i := 5) rfl (by first | exact .inl rfl | exact .inr (.inl rfl) | exact .inr (.inr rfl))) (da_cons (de_var (i := 6) rfl (by first | exact .inl rfl | exact .inr (.inl rfl) | exact .inr (.inr rfl))) (da_cons (de_var (i := 7) rfl (by first | exact .inl rfl | exact .inr (.inl rfl) | exact .inr (.inr rfl))) da_nil))))))))))
    (ds_one (ds_ret (de_callT cs_tuple rfl m_tuple rfl (da_cons (de_var (i := 3) rfl (by first | exact .inl rfl | exact .inr (.inl rfl) | exact .inr (.inr rfl))) da_nil)))))))) (by decide)
theorem bd_ringed {K : PySem.W.Frag} {f : Addr} {fd : FuncData} (Fn : Fun K "_law_ringed" "_law_ringed" s_ringed f fd) : Binds K fd ["_law_tape_here", "_law_rows"] [] := Fn.binds (ps := ["_law_tape_here", "_law_rows"]) fun _ _ _ _ _ _ us hl => match us, hl with | [_, _], _ => rfl
theorem cal_ringed {g : Gx} {k : Nat} {C_pick : FSpec} {W : FSpec} (mono_pick : FMono C_pick) (c_pick : Cal g CX0 k "_law_pick" ["_law_tape_here", "_law_many"] C_pick) (m_tuple : g.mg "tuple" = none) (m_len : g.mg "len" = none) (m_range : g.mg "range" = none) (m_min : g.mg "min" = none) (m_max : g.mg "max" = none) (h : Got g "_law_ringed" s_ringed) (im : ∀ ss Ex P, W ss Ex P → fnW 2 8 (w_ringed C_pick) ss Ex P) : Cal g CX0 (k + 1) "_law_ringed" ["_law_tape_here", "_law_rows"] W := by
  obtain ⟨f, fd, m, F⟩ := h
  exact Cal.imp ⟨f, fd, df_ringed mono_pick c_pick   m_tuple m_len m_range m_min m_max  F, m, F.kp, bd_ringed F⟩ im
/-! ### _law_said -/
def pos_said : Nat → Pos := fun n => ([⟨121, 4, 121, 14⟩, ⟨121, 18, 121, 25⟩, ⟨121, 27, 121, 31⟩, ⟨121, 17, 121, 32⟩, ⟨121, 4, 121, 32⟩, ⟨123, 8, 123, 18⟩, ⟨123, 22, 123, 28⟩, ⟨123, 30, 123, 38⟩, ⟨123, 30, 123, 40⟩, ⟨123, 21, 123, 41⟩, ⟨123, 8, 123, 41⟩, ⟨124, 11, 124, 22⟩, ⟨125, 8, 125, 20⟩, ⟨125, 23, 125, 33⟩, ⟨125, 34, 125, 35⟩, ⟨125, 38, 125, 46⟩, ⟨125, 48, 125, 57⟩, ⟨125, 59, 125, 66⟩, ⟨125, 37, 125, 67⟩, ⟨125, 23, 125, 68⟩, ⟨125, 8, 125, 68⟩, ⟨126, 11, 126, 21⟩, ⟨126, 22, 126, 23⟩, ⟨126, 25, 126, 32⟩, ⟨126, 11, 126, 33⟩, ⟨126, 38, 126, 48⟩, ⟨126, 49, 126, 50⟩, ⟨126, 52, 126, 62⟩, ⟨126, 38, 126, 63⟩, ⟨126, 73, 126, 85⟩, ⟨126, 69, 126, 85⟩, ⟨126, 11, 126, 86⟩, ⟨127, 12, 127, 22⟩, ⟨127, 26, 127, 30⟩, ⟨127, 32, 127, 33⟩, ⟨127, 32, 127, 38⟩, ⟨127, 40, 127, 41⟩, ⟨127, 40, 127, 44⟩, ⟨127, 25, 127, 45⟩, ⟨127, 12, 127, 45⟩, ⟨126, 8, 127, 45⟩, ⟨124, 4, 127, 45⟩, ⟨122, 4, 127, 45⟩, ⟨128, 11, 128, 21⟩, ⟨128, 4, 128, 21⟩] : List Pos).getD n ⟨0, 0, 0, 0⟩
theorem sc_said : FnScope ["_law_ask", "_law_found", "e", "_law_strange"] ["_law_ask"] (defScope s_said) := ⟨rfl, rfl, rfl, by decide +kernel, rfl, by decide +kernel, by decide +kernel⟩
theorem bd_said {K : PySem.W.Frag} {f : Addr} {fd : FuncData} (Fn : Fun K "_law_said" "_law_said" s_said f fd) : Binds K fd ["_law_ask"] [] := Fn.binds (ps := ["_law_ask"]) fun _ _ _ _ _ _ us hl => match us, hl with | [_], _ => rfl
theorem sf_said {K : PySem.W.Frag} {f : Addr} {fd : FuncData} (Fn : Fun K "_law_said" "_law_said" s_said f fd) : SaidF K "_law_said" "_law_ask" "_law_found" "e" "_law_strange" "word" "at" pos_said s_said f fd :=
  ⟨Fn, bd_said Fn, sc_said, rfl, rfl, rfl, rfl, rfl, by decide +kernel, by decide, by decide, by decide, by decide, by decide, by decide, by decide, by decide⟩
/-! ### law -/
theorem sc_law : FnScope ["_law_script", "_law_tape_here", "_law_rows", "_law_some", "_law_hands", "_law_row", "_law_word", "_law_paper", "_law_rings", "_law_ranks", "_law_lap", "_law_one", "_law_goals", "_law_ring", "_law_k", "_law_ringed_here", "_law_ranked"] ["_law_script"] (defScope s_law) := ⟨rfl, rfl, rfl, by decide +kernel, rfl, by decide +kernel, by decide +kernel⟩
@[irreducible] def t_law_1 (C_tape C_wanting C_ringed C_ring_or_ranks C_pick C_waiting_pairs C_lets_ring C_lets_ranks : FSpec) (A_said : Addr) : WS := (wDrop (wApp 9 (wCB tupleF (wCons (wLc (wIt (wVar 3)) (gN 5) wYes (wTup (wCons (wOp idxF (wVar 5) (wC (.int 0))) (wCons (wCall 2 C_pick [true, false] (wCons (wVar 1) (wCons (wC (.int 5)) wNil))) wNil))) [5]) wNil))))
@[irreducible] def t_law_2 (C_tape C_wanting C_ringed C_ring_or_ranks C_pick C_waiting_pairs C_lets_ring C_lets_ranks : FSpec) (A_said : Addr) : WS := wSeq (wDrop (wApp 8 (wCB tupleF (wCons (wVar 13) wNil))))
    (t_law_1 C_tape C_wanting C_ringed C_ring_or_ranks C_pick C_waiting_pairs C_lets_ring C_lets_ranks A_said)
@[irreducible] def t_law_3 (C_tape C_wanting C_ringed C_ring_or_ranks C_pick C_waiting_pairs C_lets_ring C_lets_ranks : FSpec) (A_said : Addr) : WS := (wDrop (wApp 13 (wGetN 12 (wOp idxF (wVar 13) (wNeg (wC (.int 1)))) (wOp idxF (wVar 4) (wCall 2 C_pick [true, false] (wCons (wVar 1) (wCons (wCB lenF (wCons (wVar 4) wNil)) wNil)))))))
@[irreducible] def t_law_4 (C_tape C_wanting C_ringed C_ring_or_ranks C_pick C_waiting_pairs C_lets_ring C_lets_ranks : FSpec) (A_said : Addr) : WS := wSeq (wFor (wRng (wCons (wCall 2 C_pick [true, false] (wCons (wVar 1) (wCons (wC (.int 5)) wNil))) wNil) rng1) (gN 14)
    (t_law_3 C_tape C_wanting C_ringed C_ring_or_ranks C_pick C_waiting_pairs C_lets_ring C_lets_ranks A_said))
    (t_law_2 C_tape C_wanting C_ringed C_ring_or_ranks C_pick C_waiting_pairs C_lets_ring C_lets_ranks A_said)
@[irreducible] def t_law_5 (C_tape C_wanting C_ringed C_ring_or_ranks C_pick C_waiting_pairs C_lets_ring C_lets_ranks : FSpec) (A_said : Addr) : WS := wSeq (wParO [12, 13] (wConsO (wCB dictF (wCons (wCB listF (wCons (wCall 1 C_waiting_pairs [false] (wCons (wVar 3) wNil)) wNil)) wNil)) (wConsO (wLst (wCons (wVar 11) wNil)) wNil)))
    (t_law_4 C_tape C_wanting C_ringed C_ring_or_ranks C_pick C_waiting_pairs C_lets_ring C_lets_ranks A_said)
@[irreducible] def t_law_6 (C_tape C_wanting C_ringed C_ring_or_ranks C_pick C_waiting_pairs C_lets_ring C_lets_ranks : FSpec) (A_said : Addr) : WS := wSeq (wSet 11 (wOp idxF (wVar 4) (wCall 2 C_pick [true, false] (wCons (wVar 1) (wCons (wCB lenF (wCons (wVar 4) wNil)) wNil)))))
    (t_law_5 C_tape C_wanting C_ringed C_ring_or_ranks C_pick C_waiting_pairs C_lets_ring C_lets_ranks A_said)
@[irreducible] def t_law_7 (C_tape C_wanting C_ringed C_ring_or_ranks C_pick C_waiting_pairs C_lets_ring C_lets_ranks : FSpec) (A_said : Addr) : WS := (wDrop (wApp 15 (wVar 11)))
@[irreducible] def t_law_8 (C_tape C_wanting C_ringed C_ring_or_ranks C_pick C_waiting_pairs C_lets_ring C_lets_ranks : FSpec) (A_said : Addr) : WS := (wIfSaid A_said "word" "at" (wCall 2 C_lets_ring [false, false] (wCons (wVar 3) (wCons (wVar 11) wNil))) "told"
    (t_law_7 C_tape C_wanting C_ringed C_ring_or_ranks C_pick C_waiting_pairs C_lets_ring C_lets_ranks A_said))
@[irreducible] def t_law_9 (C_tape C_wanting C_ringed C_ring_or_ranks C_pick C_waiting_pairs C_lets_ring C_lets_ranks : FSpec) (A_said : Addr) : WS := (wDrop (wApp 16 (wVar 11)))
@[irreducible] def t_law_10 (C_tape C_wanting C_ringed C_ring_or_ranks C_pick C_waiting_pairs C_lets_ring C_lets_ranks : FSpec) (A_said : Addr) : WS := (wIfSaid A_said "word" "at" (wCall 2 C_lets_ranks [false, false] (wCons (wVar 3) (wCons (wVar 11) wNil))) "told"
    (t_law_9 C_tape C_wanting C_ringed C_ring_or_ranks C_pick C_waiting_pairs C_lets_ring C_lets_ranks A_said))
@[irreducible] def x_law_11 (C_tape C_wanting C_ringed C_ring_or_ranks C_pick C_waiting_pairs C_lets_ring C_lets_ranks : FSpec) (A_said : Addr) : WE := wIf (wB (wOp eqF (wVar 6) (wC (.str "ring")))) (wVar 15) (wVar 16)
@[irreducible] def t_law_12 (C_tape C_wanting C_ringed C_ring_or_ranks C_pick C_waiting_pairs C_lets_ring C_lets_ranks : FSpec) (A_said : Addr) : WS := (wRet (wC (.bool false)))
@[irreducible] def t_law_13 (C_tape C_wanting C_ringed C_ring_or_ranks C_pick C_waiting_pairs C_lets_ring C_lets_ranks : FSpec) (A_said : Addr) : WS := (wIfS (wB (wOp (inT true) (wVar 7) (x_law_11 C_tape C_wanting C_ringed C_ring_or_ranks C_pick C_waiting_pairs C_lets_ring C_lets_ranks A_said)))
    (t_law_12 C_tape C_wanting C_ringed C_ring_or_ranks C_pick C_waiting_pairs C_lets_ring C_lets_ranks A_said) wNext)
@[irreducible] def t_law_14 (C_tape C_wanting C_ringed C_ring_or_ranks C_pick C_waiting_pairs C_lets_ring C_lets_ranks : FSpec) (A_said : Addr) : WS := (wRet (wC (.bool false)))
@[irreducible] def t_law_15 (C_tape C_wanting C_ringed C_ring_or_ranks C_pick C_waiting_pairs C_lets_ring C_lets_ranks : FSpec) (A_said : Addr) : WS := wSeq (wIfS (wB (wOp (inT true) (wVar 6) (wTup (wCons (wC (.str "ring")) (wCons (wC (.str "ranks")) wNil)))))
    (t_law_14 C_tape C_wanting C_ringed C_ring_or_ranks C_pick C_waiting_pairs C_lets_ring C_lets_ranks A_said) wNext)
    (t_law_13 C_tape C_wanting C_ringed C_ring_or_ranks C_pick C_waiting_pairs C_lets_ring C_lets_ranks A_said)
@[irreducible] def t_law_16 (C_tape C_wanting C_ringed C_ring_or_ranks C_pick C_waiting_pairs C_lets_ring C_lets_ranks : FSpec) (A_said : Addr) : WS := (wRet (wC (.bool false)))
@[irreducible] def t_law_17 (C_tape C_wanting C_ringed C_ring_or_ranks C_pick C_waiting_pairs C_lets_ring C_lets_ranks : FSpec) (A_said : Addr) : WS := wSeq (wIfS (wAnd (wB (wOp neF (wVar 15) (wLst wNil))) (wB (wOp neF (wVar 16) (wLst wNil))))
    (t_law_16 C_tape C_wanting C_ringed C_ring_or_ranks C_pick C_waiting_pairs C_lets_ring C_lets_ranks A_said) wNext)
    (t_law_15 C_tape C_wanting C_ringed C_ring_or_ranks C_pick C_waiting_pairs C_lets_ring C_lets_ranks A_said)
@[irreducible] def t_law_18 (C_tape C_wanting C_ringed C_ring_or_ranks C_pick C_waiting_pairs C_lets_ring C_lets_ranks : FSpec) (A_said : Addr) : WS := wSeq (wFor (wIt (wVar 9)) (gN 11)
    (t_law_10 C_tape C_wanting C_ringed C_ring_or_ranks C_pick C_waiting_pairs C_lets_ring C_lets_ranks A_said))
    (t_law_17 C_tape C_wanting C_ringed C_ring_or_ranks C_pick C_waiting_pairs C_lets_ring C_lets_ranks A_said)
@[irreducible] def t_law_19 (C_tape C_wanting C_ringed C_ring_or_ranks C_pick C_waiting_pairs C_lets_ring C_lets_ranks : FSpec) (A_said : Addr) : WS := wSeq (wFor (wIt (wVar 8)) (gN 11)
    (t_law_8 C_tape C_wanting C_ringed C_ring_or_ranks C_pick C_waiting_pairs C_lets_ring C_lets_ranks A_said))
    (t_law_18 C_tape C_wanting C_ringed C_ring_or_ranks C_pick C_waiting_pairs C_lets_ring C_lets_ranks A_said)
@[irreducible] def t_law_20 (C_tape C_wanting C_ringed C_ring_or_ranks C_pick C_waiting_pairs C_lets_ring C_lets_ranks : FSpec) (A_said : Addr) : WS := wSeq (wParO [15, 16] (wConsO (wLst wNil) (wConsO (wLst wNil) wNil)))
    (t_law_19 C_tape C_wanting C_ringed C_ring_or_ranks C_pick C_waiting_pairs C_lets_ring C_lets_ranks A_said)
@[irreducible] def t_law_21 (C_tape C_wanting C_ringed C_ring_or_ranks C_pick C_waiting_pairs C_lets_ring C_lets_ranks : FSpec) (A_said : Addr) : WS := wSeq (wFor (wRng (wCons (wC (.int 6)) wNil) rng1) (gN 10)
    (t_law_6 C_tape C_wanting C_ringed C_ring_or_ranks C_pick C_waiting_pairs C_lets_ring C_lets_ranks A_said))
    (t_law_20 C_tape C_wanting C_ringed C_ring_or_ranks C_pick C_waiting_pairs C_lets_ring C_lets_ranks A_said)
@[irreducible] def t_law_22 (C_tape C_wanting C_ringed C_ring_or_ranks C_pick C_waiting_pairs C_lets_ring C_lets_ranks : FSpec) (A_said : Addr) : WS := wSeq (wParO [8, 9] (wConsO (wLst (wCons (wVar 7) wNil)) (wConsO (wLst (wCons (wVar 7) wNil)) wNil)))
    (t_law_21 C_tape C_wanting C_ringed C_ring_or_ranks C_pick C_waiting_pairs C_lets_ring C_lets_ranks A_said)
@[irreducible] def t_law_23 (C_tape C_wanting C_ringed C_ring_or_ranks C_pick C_waiting_pairs C_lets_ring C_lets_ranks : FSpec) (A_said : Addr) : WS := wSeq (wUnp [6, 7] (wCall 1 C_ring_or_ranks [false] (wCons (wVar 3) wNil)))
    (t_law_22 C_tape C_wanting C_ringed C_ring_or_ranks C_pick C_waiting_pairs C_lets_ring C_lets_ranks A_said)
@[irreducible] def t_law_24 (C_tape C_wanting C_ringed C_ring_or_ranks C_pick C_waiting_pairs C_lets_ring C_lets_ranks : FSpec) (A_said : Addr) : WS := wSeq (wSet 4 (wOp addF (wLc (wIt (wVar 3)) (gN 5) wYes (wOp idxF (wVar 5) (wC (.int 0))) [5]) (wLst (wCons (wC (.int 5)) wNil))))
    (t_law_23 C_tape C_wanting C_ringed C_ring_or_ranks C_pick C_waiting_pairs C_lets_ring C_lets_ranks A_said)
@[irreducible] def t_law_25 (C_tape C_wanting C_ringed C_ring_or_ranks C_pick C_waiting_pairs C_lets_ring C_lets_ranks : FSpec) (A_said : Addr) : WS := (wRet (wC (.bool true)))
@[irreducible] def t_law_26 (C_tape C_wanting C_ringed C_ring_or_ranks C_pick C_waiting_pairs C_lets_ring C_lets_ranks : FSpec) (A_said : Addr) : WS := wSeq (wFor (wIt (wTup (wCons (wVar 2) (wCons (wCall 2 C_ringed [true, false] (wCons (wVar 1) (wCons (wVar 2) wNil))) wNil)))) (gN 3)
    (t_law_24 C_tape C_wanting C_ringed C_ring_or_ranks C_pick C_waiting_pairs C_lets_ring C_lets_ranks A_said))
    (t_law_25 C_tape C_wanting C_ringed C_ring_or_ranks C_pick C_waiting_pairs C_lets_ring C_lets_ranks A_said)
@[irreducible] def t_law_27 (C_tape C_wanting C_ringed C_ring_or_ranks C_pick C_waiting_pairs C_lets_ring C_lets_ranks : FSpec) (A_said : Addr) : WS := wSeq (wSet 2 (wCall 2 C_wanting [true, false] (wCons (wVar 1) (wCons (wC (.int 7)) wNil))))
    (t_law_26 C_tape C_wanting C_ringed C_ring_or_ranks C_pick C_waiting_pairs C_lets_ring C_lets_ranks A_said)
@[irreducible] def t_law_28 (C_tape C_wanting C_ringed C_ring_or_ranks C_pick C_waiting_pairs C_lets_ring C_lets_ranks : FSpec) (A_said : Addr) : WS := wSeq (wSet 1 (wCall 1 C_tape [false] (wCons (wVar 0) wNil)))
    (t_law_27 C_tape C_wanting C_ringed C_ring_or_ranks C_pick C_waiting_pairs C_lets_ring C_lets_ranks A_said)
def w_law (C_tape C_wanting C_ringed C_ring_or_ranks C_pick C_waiting_pairs C_lets_ring C_lets_ranks : FSpec) (A_said : Addr) : WS := (wSeq (wSet 1 (wCall 1 C_tape [false] (wCons (wVar 0) wNil)))
    (wSeq (wSet 2 (wCall 2 C_wanting [true, false] (wCons (wVar 1) (wCons (wC (.int 7)) wNil))))
    (wSeq (wFor (wIt (wTup (wCons (wVar 2) (wCons (wCall 2 C_ringed [true, false] (wCons (wVar 1) (wCons (wVar 2) wNil))) wNil)))) (gN 3)
    (wSeq (wSet 4 (wOp addF (wLc (wIt (wVar 3)) (gN 5) wYes (wOp idxF (wVar 5) (wC (.int 0))) [5]) (wLst (wCons (wC (.int 5)) wNil))))
    (wSeq (wUnp [6, 7] (wCall 1 C_ring_or_ranks [false] (wCons (wVar 3) wNil)))
    (wSeq (wParO [8, 9] (wConsO (wLst (wCons (wVar 7) wNil)) (wConsO (wLst (wCons (wVar 7) wNil)) wNil)))
    (wSeq (wFor (wRng (wCons (wC (.int 6)) wNil) rng1) (gN 10)
    (wSeq (wSet 11 (wOp idxF (wVar 4) (wCall 2 C_pick [true, false] (wCons (wVar 1) (wCons (wCB lenF (wCons (wVar 4) wNil)) wNil)))))
    (wSeq (wParO [12, 13] (wConsO (wCB dictF (wCons (wCB listF (wCons (wCall 1 C_waiting_pairs [false] (wCons (wVar 3) wNil)) wNil)) wNil)) (wConsO (wLst (wCons (wVar 11) wNil)) wNil)))
    (wSeq (wFor (wRng (wCons (wCall 2 C_pick [true, false] (wCons (wVar 1) (wCons (wC (.int 5)) wNil))) wNil) rng1) (gN 14)
    ((wDrop (wApp 13 (wGetN 12 (wOp idxF (wVar 13) (wNeg (wC (.int 1)))) (wOp idxF (wVar 4) (wCall 2 C_pick [true, false] (wCons (wVar 1) (wCons (wCB lenF (wCons (wVar 4) wNil)) wNil)))))))))
    (wSeq (wDrop (wApp 8 (wCB tupleF (wCons (wVar 13) wNil))))
    ((wDrop (wApp 9 (wCB tupleF (wCons (wLc (wIt (wVar 3)) (gN 5) wYes (wTup (wCons (wOp idxF (wVar 5) (wC (.int 0))) (wCons (wCall 2 C_pick [true, false] (wCons (wVar 1) (wCons (wC (.int 5)) wNil))) wNil))) [5]) wNil))))))))))
    (wSeq (wParO [15, 16] (wConsO (wLst wNil) (wConsO (wLst wNil) wNil)))
    (wSeq (wFor (wIt (wVar 8)) (gN 11)
    ((wIfSaid A_said "word" "at" (wCall 2 C_lets_ring [false, false] (wCons (wVar 3) (wCons (wVar 11) wNil))) "told"
    ((wDrop (wApp 15 (wVar 11)))))))
    (wSeq (wFor (wIt (wVar 9)) (gN 11)
    ((wIfSaid A_said "word" "at" (wCall 2 C_lets_ranks [false, false] (wCons (wVar 3) (wCons (wVar 11) wNil))) "told"
    ((wDrop (wApp 16 (wVar 11)))))))
    (wSeq (wIfS (wAnd (wB (wOp neF (wVar 15) (wLst wNil))) (wB (wOp neF (wVar 16) (wLst wNil))))
    ((wRet (wC (.bool false)))) wNext)
    (wSeq (wIfS (wB (wOp (inT true) (wVar 6) (wTup (wCons (wC (.str "ring")) (wCons (wC (.str "ranks")) wNil)))))
    ((wRet (wC (.bool false)))) wNext)
    ((wIfS (wB (wOp (inT true) (wVar 7) (wIf (wB (wOp eqF (wVar 6) (wC (.str "ring")))) (wVar 15) (wVar 16))))
    ((wRet (wC (.bool false)))) wNext))))))))))))
    ((wRet (wC (.bool true)))))))
theorem w_law_eq (C_tape C_wanting C_ringed C_ring_or_ranks C_pick C_waiting_pairs C_lets_ring C_lets_ranks : FSpec) (A_said : Addr) : w_law C_tape C_wanting C_ringed C_ring_or_ranks C_pick C_waiting_pairs C_lets_ring C_lets_ranks A_said = (t_law_28 C_tape C_wanting C_ringed C_ring_or_ranks C_pick C_waiting_pairs C_lets_ring C_lets_ranks A_said) := by with_unfolding_all rfl
theorem dsT_law {g : Gx} {k : Nat} {C_tape C_wanting C_ringed C_ring_or_ranks C_pick C_waiting_pairs C_lets_ring C_lets_ranks : FSpec} {gS cc P CD CR CT CO A_said CP : Addr} {fdS : FuncData} (mono_tape : FMono C_tape) (c_tape : Cal g CX0 (k + 2) "_law_tape" ["_law_script"] C_tape) (mono_wanting : FMono C_wanting) (c_wanting : Cal g CX0 (k + 2) "_law_wanting" ["_law_tape_here", "_law_many"] C_wanting) (mono_ringed : FMono C_ringed) (c_ringed : Cal g CX0 (k + 2) "_law_ringed" ["_law_tape_here", "_law_rows"] C_ringed) (mono_ring_or_ranks : FMono C_ring_or_ranks) (c_ring_or_ranks : Cal g CX0 (k + 2) "ring_or_ranks" ["rows"] C_ring_or_ranks) (mono_pick : FMono C_pick) (c_pick : Cal g CX0 (k + 2) "_law_pick" ["_law_tape_here", "_law_many"] C_pick) (mono_waiting_pairs : FMono C_waiting_pairs) (c_waiting_pairs : Cal g CX0 (k + 2) "waiting_pairs" ["rows"] C_waiting_pairs) (mono_lets_ring : FMono C_lets_ring) (c_lets_ring : Cal g g.ex k "lets_ring" ["rows", "thing"] C_lets_ring) (mono_lets_ranks : FMono C_lets_ranks) (c_lets_ranks : Cal g g.ex k "lets_ranks" ["rows", "thing"] C_lets_ranks) (m_range : g.mg "range" = none) (m_tuple : g.mg "tuple" = none) (m_len : g.mg "len" = none) (m_list : g.mg "list" = none) (m_dict : g.mg "dict" = none) (m_said : g.mg "_law_said" = some (.ref gS)) (SF : SaidF g.K "_law_said" "_law_ask" "_law_found" "e" "_law_strange" "word" "at" pos_said s_said gS fdS) (SC : SaidC g.K g.mg CD CR CT CO A_said CP "word" "at") (E : XK) : DSsT ⟨g, CX0, ["_law_script", "_law_tape_here", "_law_rows", "_law_some", "_law_hands", "_law_row", "_law_word", "_law_paper", "_law_rings", "_law_ranks", "_law_lap", "_law_one", "_law_goals", "_law_ring", "_law_k", "_law_ringed_here", "_law_ranked"], defScope s_law, k + 2, E, true, false⟩ cc P (lamQ "law") (defBody s_law) (w_law C_tape C_wanting C_ringed C_ring_or_ranks C_pick C_waiting_pairs C_lets_ring C_lets_ranks A_said) :=
  (dsT_cons (DS.toT (ds_set (i := 1) rfl (by first | exact .inl rfl | exact .inr rfl) (de_cal (ms := [false]) c_tape mono_tape rfl (da_cons (de_var (i := 0) rfl (by first | exact .inl rfl | exact .inr (.inl rfl) | exact .inr (.inr rfl))) da_nil))))
    (dsT_cons (DS.toT (ds_set (i := 2) rfl (by first | exact .inl rfl | exact .inr rfl) (de_cal (ms := [true, false]) c_wanting mono_wanting rfl (da_cons (de_var (i := 1) rfl (by first | exact .inl rfl | exact .inr (.inl rfl) | exact .inr (.inr rfl))) (da_cons de_int da_nil)))))
    (dsT_cons (dsT_for (di_seq (de_tup (da_cons (de_var (i := 2) rfl (by first | exact .inl rfl | exact .inr (.inl rfl) | exact .inr (.inr rfl))) (da_cons (de_cal (ms := [true, false]) c_ringed mono_ringed rfl (da_cons (de_var (i := 1) rfl (by first | exact .inl rfl | exact .inr (.inl rfl) | exact .inr (.inr rfl))) (da_cons (de_var (i := 2) rfl (by first | exact .inl rfl | exact .inr (.inl rfl) | exact .inr (.inr rfl))) da_nil))) da_nil)))) (dg_name (i := 3) rfl (by first | exact .inl rfl | exact .inr rfl))
    (dsT_cons (DS.toT (ds_set (i := 4) rfl (by first | exact .inl rfl | exact .inr rfl) (de_op os_add (de_lc (own := [("_law_row", 5)]) cx0_ok (di_seq (de_var (i := 3) rfl (by first | exact .inl rfl | exact .inr (.inl rfl) | exact .inr (.inr rfl)))) rfl (dg_name (i := 5) rfl (by first | exact .inl rfl | exact .inr rfl)) rfl dts_nil (de_ix (de_var (i := 5) rfl (by first | exact .inl rfl | exact .inr (.inl rfl) | exact .inr (.inr rfl))) de_int)) (de_lst (da_cons de_int da_nil)))))
    (dsT_cons (DS.toT (ds_unp (de_cal (ms := [false]) c_ring_or_ranks mono_ring_or_ranks rfl (da_cons (de_var (i := 3) rfl (by first | exact .inl rfl | exact .inr (.inl rfl) | exact .inr (.inr rfl))) da_nil)) (dns_cons (i := 6) rfl (by first | exact .inl rfl | exact .inr rfl) (dns_cons (i := 7) rfl (by first | exact .inl rfl | exact .inr rfl) dns_nil)) rfl))
    (dsT_cons (DS.toT (ds_parO2 (i := 8) (j := 9) rfl rfl (by decide) rfl rfl (dao_cons (de_lst (da_cons (de_var (i := 7) rfl (by first | exact .inl rfl | exact .inr (.inl rfl) | exact .inr (.inr rfl))) da_nil)) (dao_cons (de_lst (da_cons (de_var (i := 7) rfl (by first | exact .inl rfl | exact .inr (.inl rfl) | exact .inr (.inr rfl))) da_nil)) dao_nil)) (fun _ => by rfl)))
    (dsT_cons (DS.toT (ds_for (di_rng1 rfl m_range (da_cons de_int da_nil)) (dg_name (i := 10) rfl (by first | exact .inl rfl | exact .inr rfl))
    (ds_cons (ds_set (i := 11) rfl (by first | exact .inl rfl | exact .inr rfl) (de_ix (de_var (i := 4) rfl (by first | exact .inl rfl | exact .inr (.inl rfl) | exact .inr (.inr rfl))) (de_cal (ms := [true, false]) c_pick mono_pick rfl (da_cons (de_var (i := 1) rfl (by first | exact .inl rfl | exact .inr (.inl rfl) | exact .inr (.inr rfl))) (da_cons (de_callB cs_len rfl m_len rfl (da_cons (de_var (i := 4) rfl (by first | exact .inl rfl | exact .inr (.inl rfl) | exact .inr (.inr rfl))) da_nil)) da_nil)))))
    (ds_cons (ds_parO2 (i := 12) (j := 13) rfl rfl (by decide) rfl rfl (dao_cons (de_callT cs_dict rfl m_dict rfl (da_cons (de_callT cs_list rfl m_list rfl (da_cons (de_cal (ms := [false]) c_waiting_pairs mono_waiting_pairs rfl (da_cons (de_var (i := 3) rfl (by first | exact .inl rfl | exact .inr (.inl rfl) | exact .inr (.inr rfl))) da_nil)) da_nil)) da_nil)) (dao_cons (de_lst (da_cons (de_var (i := 11) rfl (by first | exact .inl rfl | exact .inr (.inl rfl) | exact .inr (.inr rfl))) da_nil)) dao_nil)) (fun _ => by rfl))
    (ds_cons (ds_for (di_rng1 rfl m_range (da_cons (de_cal (ms := [true, false]) c_pick mono_pick rfl (da_cons (de_var (i := 1) rfl (by first | exact .inl rfl | exact .inr (.inl rfl) | exact .inr (.inr rfl))) (da_cons de_int da_nil))) da_nil)) (dg_name (i := 14) rfl (by first | exact .inl rfl | exact .inr rfl))
    (ds_one (ds_expr (de_app (i := 13) rfl (by first | exact .inl rfl | exact .inr (.inl rfl) | exact .inr (.inr rfl)) (de_getN (i := 12) rfl (by first | exact .inl rfl | exact .inr (.inl rfl) | exact .inr (.inr rfl)) (de_ix (de_var (i := 13) rfl (by first | exact .inl rfl | exact .inr (.inl rfl) | exact .inr (.inr rfl))) (de_neg de_int)) (de_ix (de_var (i := 4) rfl (by first | exact .inl rfl | exact .inr (.inl rfl) | exact .inr (.inr rfl))) (de_cal (ms := [true, false]) c_pick mono_pick rfl (da_cons (de_var (i := 1) rfl (by first | exact .inl rfl | exact .inr (.inl rfl) | exact .inr (.inr rfl))) (da_cons (de_callB cs_len rfl m_len rfl (da_cons (de_var (i := 4) rfl (by first | exact .inl rfl | exact .inr (.inl rfl) | exact .inr (.inr rfl))) da_nil)) da_nil)))))))))
    (ds_cons (ds_expr (de_app (i := 8) rfl (by first | exact .inl rfl | exact .inr (.inl rfl) | exact .inr (.inr rfl)) (de_callT cs_tuple rfl m_tuple rfl (da_cons (de_var (i := 13) rfl (by first | exact .inl rfl | exact .inr (.inl rfl) | exact .inr (.inr rfl))) da_nil))))
    (ds_one (ds_expr (de_app (i := 9) rfl (by first | exact .inl rfl | exact .inr (.inl rfl) | exact .inr (.inr rfl)) (de_callT cs_tuple rfl m_tuple rfl (da_cons (de_lc (own := [("_law_row", 5)]) cx0_ok (di_seq (de_var (i := 3) rfl (by first | exact .inl rfl | exact .inr (.inl rfl) | exact .inr (.inr rfl)))) rfl (dg_name (i := 5) rfl (by first | exact .inl rfl | exact .inr rfl)) rfl dts_nil (de_tup (da_cons (de_ix (de_var (i := 5) rfl (by first | exact .inl rfl | exact .inr (.inl rfl) | exact .inr (.inr rfl))) de_int) (da_cons (de_cal (ms := [true, false]) c_pick mono_pick rfl (da_cons (de_var (i := 1) rfl (by first | exact .inl rfl | exact .inr (.inl rfl) | exact .inr (.inr rfl))) (da_cons de_int da_nil))) da_nil)))) da_nil)))))))))))
    (dsT_cons (DS.toT (ds_parO2 (i := 15) (j := 16) rfl rfl (by decide) rfl rfl (dao_cons (de_lst da_nil) (dao_cons (de_lst da_nil) dao_nil)) (fun _ => by rfl)))
    (dsT_cons (dsT_for (di_seq (de_var (i := 8) rfl (by first | exact .inl rfl | exact .inr (.inl rfl) | exact .inr (.inr rfl)))) (dg_name (i := 11) rfl (by first | exact .inl rfl | exact .inr rfl))
    (dsT_one (dsT_ifSaid (Nat.le_refl _) rfl m_said SF SC (by decide) rfl (fun _ => rfl) (fun _ _ _ _ _ => rfl) (fun E => (de_cal (ms := [false, false]) c_lets_ring mono_lets_ring rfl (da_cons (de_var (i := 3) rfl (by first | exact .inl rfl | exact .inr (.inl rfl) | exact .inr (.inr rfl))) (da_cons (de_var (i := 11) rfl (by first | exact .inl rfl | exact .inr (.inl rfl) | exact .inr (.inr rfl))) da_nil))))
    (DSs.toT (ds_one (ds_expr (de_app (i := 15) rfl (by first | exact .inl rfl | exact .inr (.inl rfl) | exact .inr (.inr rfl)) (de_var (i := 11) rfl (by first | exact .inl rfl | exact .inr (.inl rfl) | exact .inr (.inr rfl))))))))))
    (dsT_cons (dsT_for (di_seq (de_var (i := 9) rfl (by first | exact .inl rfl | exact .inr (.inl rfl) | exact .inr (.inr rfl)))) (dg_name (i := 11) rfl (by first | exact .inl rfl | exact .inr rfl))
    (dsT_one (dsT_ifSaid (Nat.le_refl _) rfl m_said SF SC (by decide) rfl (fun _ => rfl) (fun _ _ _ _ _ => rfl) (fun E => (de_cal (ms := [false, false]) c_lets_ranks mono_lets_ranks rfl (da_cons (de_var (i := 3) rfl (by first | exact .inl rfl | exact .inr (.inl rfl) | exact .inr (.inr rfl))) (da_cons (de_var (i := 11) rfl (by first | exact .inl rfl | exact .inr (.inl rfl) | exact .inr (.inr rfl))) da_nil))))
    (DSs.toT (ds_one (ds_expr (de_app (i := 16) rfl (by first | exact .inl rfl | exact .inr (.inl rfl) | exact .inr (.inr rfl)) (de_var (i := 11) rfl (by first | exact .inl rfl | exact .inr (.inl rfl) | exact .inr (.inr rfl))))))))))
    (DSs.toT (ds_cons (ds_if (dt_w (dw_and (dt_cmp os_ne (de_var (i := 15) rfl (by first | exact .inl rfl | exact .inr (.inl rfl) | exact .inr (.inr rfl))) (de_lst da_nil) rfl) (dw_and1 (dt_cmp os_ne (de_var (i := 16) rfl (by first | exact .inl rfl | exact .inr (.inl rfl) | exact .inr (.inr rfl))) (de_lst da_nil) rfl))))
    (ds_one (ds_ret de_bl)) ds_nil)
    (ds_cons (ds_if (dt_cmp os_notinT (de_var (i := 6) rfl (by first | exact .inl rfl | exact .inr (.inl rfl) | exact .inr (.inr rfl))) (de_tup (da_cons de_str (da_cons de_str da_nil))) rfl)
    (ds_one (ds_ret de_bl)) ds_nil)
    (ds_one (ds_if (dt_cmp os_notinT (de_var (i := 7) rfl (by first | exact .inl rfl | exact .inr (.inl rfl) | exact .inr (.inr rfl))) (de_ifx (dt_cmp os_eq (de_var (i := 6) rfl (by first | exact .inl rfl | exact .inr (.inl rfl) | exact .inr (.inr rfl))) de_str rfl) (de_var (i := 15) rfl (by first | exact .inl rfl | exact .inr (.inl rfl) | exact .inr (.inr rfl))) (de_var (i := 16) rfl (by first | exact .inl rfl | exact .inr (.inl rfl) | exact .inr (.inr rfl)))) rfl)
    (ds_one (ds_ret de_bl)) ds_nil)))))))))))))
    (DSs.toT (ds_one (ds_ret de_bl))))))
end V41
set_option Elab.async false
set_option linter.all false
set_option maxRecDepth 100000
set_option maxHeartbeats 1000000
set_option autoImplicit false
namespace V41
open PySem PySem.Spec PyProof.Rows L2 DL
local macro_rules | `(tactic| pv_short) => `(tactic| repeat first | refine Exists.intro _ (And.intro rfl ?_) | refine ifT rfl ?_ | refine ifF rfl ?_ | refine Exists.intro _ (And.intro (if_pos (by first | assumption | decide | exact ⟨by assumption, by decide⟩ | exact ⟨by assumption, by assumption⟩)) ?_) | refine And.intro (show List.length _ ≤ sizeLine from Nat.le_of_ble_eq_true rfl) ?_ | refine And.intro (Nat.le_of_ble_eq_true rfl) ?_)
/-! ### the tape -/
abbrev tpL (cs : List Int) (a l c : Int) : List PyData := [.list (cs.map .int), .int a, .int l, .int c]
def Tp (ds : List PyData) : Prop := ∃ (cs : List Int) (a l c : Int), ds = tpL cs a l c
def C_pick : FSpec := Ct (fun ss => ∃ ds m, ss = [.o true (.l ds), .d (.int m)] ∧ Tp ds ∧ 0 < m ∧ m.natAbs.log2 < 9000)
  fun ss r ss' => ∃ ds ds' m j, ss = [.o true (.l ds), .d (.int m)] ∧ ss' = [.o true (.l ds'), .d (.int m)] ∧ Tp ds' ∧ r = .d (.int j) ∧ 0 ≤ j ∧ j < m
theorem mod_ge {a m : Int} (h : 0 < m) : 0 ≤ a % m := Int.emod_nonneg _ (by omega)
theorem mod_lt {a m : Int} (h : 0 < m) : a % m < m := Int.emod_lt_of_pos _ h
theorem small_of {a : Int} (h : 0 ≤ a) (h2 : a < 2147483648) : smallI a = true := decide_eq_true (by omega)
theorem mulI {a b : Int} (h : (smallI a || smallI b) = true) : mulF (.d (.int a)) (.d (.int b)) = some (.val (.int (a * b))) := by
  show (if smallI a || smallI b || _ then _ else _) = _
  rw [if_pos (by rw [h]; rfl)]
theorem eq_shaped {neg : Bool} {d e : PyData} (h : SeqAt.shaped d = true) (h2 : SeqAt.shaped e = true) : eqG neg (.d d) (.d e) = some (.val (.bool (if neg then !PyData.eqv d e else PyData.eqv d e))) := by
  show (if SeqAt.shaped d && SeqAt.shaped e || strs2 d e then _ else none) = _
  rw [if_pos (by rw [h, h2]; rfl)]
theorem ints_shaped (cs : List Int) : SeqAt.shaped (.list (cs.map .int)) = true := PySem.W.ke_shaped_ints cs
theorem atI_ok {α : Type} {xs : List α} {i : Int} (h0 : 0 ≤ i) (h1 : i < xs.length) : ∃ x, atI xs i = some x ∧ x ∈ xs := by
  obtain ⟨n, rfl⟩ := Int.eq_ofNat_of_zero_le h0
  have hn : n < xs.length := by omega
  exact ⟨xs[n], atI_nat (List.getElem?_eq_getElem hn), List.getElem_mem hn⟩
section
variable {cs : List Int} {a l c m : Int} {Ex : XP} {P : R → List Sl → Prop}
/-- what stands behind the call -/
abbrev dEnd (ss : List Sl) (Ex : XP) (P : R → List Sl → Prop) : DEnds :=
  let fin := fun r δ => ob (retR δ r) fun r' => ob (finals ss δ) fun ss' => P r' ss'
  ⟨fun δ => fin (.d .none) δ, fin, fun _ => False, fun _ => False, Ex⟩
abbrev pEnv (cs : List Int) (a l c m : Int) (x2 x3 x4 x5 : Option Sl) : SEnv := [some (.o true (.l (tpL cs a l c))), some (.d (.int m)), x2, x3, x4, x5]
abbrev pSs (cs : List Int) (a l c m : Int) : List Sl := [.o true (.l (tpL cs a l c)), .d (.int m)]
theorem pick_7 {a1 l1 c1 cell at1 : Int} (h0 : 0 < m) (h1 : m.natAbs.log2 < 9000) (kk : ∀ (a' l' c' j : Int), 0 ≤ j → j < m → P (.d (.int j)) (pSs cs a' l' c' m)) :
    t_pick_7 (dEnd (pSs cs a l c m) Ex P) (pEnv cs a1 l1 c1 m none (some (.d (.int at1))) (some (.d (.int cell))) none) := by
  unfold t_pick_7 t_pick_6 t_pick_5
  have n : ∀ (k : Int), k ≤ 2147483648 → 0 < k → ∀ x : Int, smallI (x % k) = true := fun k h1 h2 x => small_of (mod_ge h2) (by have := mod_lt (a := x) h2; omega)
  have rest : t_pick_4 (dEnd (pSs cs a l c m) Ex P) (pEnv cs a1 l1 c1 m none (some (.d (.int at1))) (some (.d (.int cell))) none) := by
    unfold t_pick_4 t_pick_3 t_pick_2 t_pick_1
    pv_short
    refine Exists.intro _ (And.intro (mulI (by rw [n _ (by decide) (by decide)]; rfl)) ?_)
    pv_short
    refine Exists.intro _ (And.intro (mulI (by rw [n _ (by decide) (by decide)]; rfl)) ?_)
    pv_short
    exact kk _ _ _ _ (mod_ge h0) (mod_lt h0)
  pv_short
  refine ite2 (fun e => ?_) (fun e => ?_)
  · pv_short
    refine ite2 (fun e => ?_) (fun e => ?_)
    · pv_short
      exact kk _ _ _ _ (mod_ge h0) (mod_lt h0)
    · exact rest
  · exact rest
theorem pick_ok (ss : List Sl) (Ex : XP) (P : R → List Sl → Prop) (h : C_pick ss Ex P) : fnW 2 6 w_pick ss Ex P := by
  obtain ⟨⟨ds, m, rfl, ⟨cs, a, l, c, rfl⟩, h0, h1⟩, k⟩ := h
  have kk : ∀ (a' l' c' j : Int), 0 ≤ j → j < m → P (.d (.int j)) (pSs cs a' l' c' m) :=
    fun a' l' c' j z1 z2 => k _ _ ⟨_, _, m, j, rfl, rfl, ⟨cs, a', l', c', rfl⟩, rfl, z1, z2⟩
  clear k
  refine And.intro rfl ?_
  rw [w_pick_eq]
  unfold t_pick_16 t_pick_15 t_pick_14 t_pick_13 t_pick_12 t_pick_11 t_pick_10 t_pick_9 x_pick_8
  pv_short
  refine ite2 (fun e => ?_) (fun e => ?_)
  · pv_short
    exact kk _ _ _ _ (mod_ge h0) (mod_lt h0)
  pv_short
  refine Exists.intro _ (And.intro (eq_shaped (neg := true) (d := .list (cs.map .int)) (e := .list []) (ints_shaped cs) (by rfl)) ?_)
  pv_short
  refine ite2 (fun e => ?_) (fun e => ?_)
  · have hc : cs ≠ [] := fun z => by subst z; exact absurd e (by decide)
    have hl : (0 : Int) < ((cs.map PyData.int).length : Nat) := by
      rw [List.length_map]; have := List.length_pos_iff.mpr hc; omega
    pv_short
    obtain ⟨x, ex, mx⟩ := atI_ok (xs := cs.map PyData.int) (mod_ge (a := a) hl) (mod_lt hl)
    obtain ⟨v, _, rfl⟩ := List.mem_map.mp mx
    refine Exists.intro _ (And.intro (show (atI _ _).map Rv.val = _ by rw [ex]; rfl) ?_)
    pv_short
    exact pick_7 h0 h1 kk
  · pv_short
    exact pick_7 h0 h1 kk
/-- a draw in a body: the tape's slot is lent -/
theorem back_1 {δ : SEnv} {i : Nat} {b : Bool} {c c' : Cont} {s : Sl} (h : δ[i]? = some (some (.o b c))) (hs : c.simple = true) (hs' : c'.simple = true) {m : Int} : back δ (DL.clear δ [.o i, .d (.int m)]) [.o i, .d (.int m)] [.o true c', s] = some (δ.set i (some (.o b c'))) := by
  simp only [back, DL.clear, h, hs, hs']
  simp
/-- a draw in a body: the tape's slot is lent -/
theorem pick_at {δ : SEnv} {i : Nat} {ds : List PyData} {b : Bool} {m : Int} {wa : WE} {Ex : XP} {P : R → SEnv → Prop} (hT : Tp ds) (h0 : 0 < m) (h1 : m.natAbs.log2 < 9000) (e : δ[i]? = some (some (.o b (.l ds)))) (hm : ∀ Q : R → SEnv → Prop, Q (.d (.int m)) δ → wa Ex δ Q)
    (k : ∀ ds' j, Tp ds' → 0 ≤ j → j < m → P (.d (.int j)) (δ.set i (some (.o b (.l ds'))))) : wCall 2 C_pick [true, false] (wCons (wVar i) (wCons wa wNil)) Ex δ P := by
  unfold wCall
  refine ⟨_, e, _, rfl, ?_⟩
  refine ⟨.o i, rfl, ?_⟩
  refine hm _ ?_
  refine ⟨.d (.int m), rfl, ?_⟩
  refine ⟨([.o i, .d (.int m)], δ), rfl, rfl, ?_, ?_⟩
  · show ([i] : List Nat).Nodup
    exact List.nodup_cons.mpr ⟨by simp, List.nodup_nil⟩
  refine ⟨[.o true (.l ds), .d (.int m)], ?_, ⟨ds, m, rfl, hT, h0, h1⟩, fun r ss' q _ => ?_⟩
  · simp only [slsOf, slOf, e]
    rfl
  · obtain ⟨ds1, ds', m', j, e1, e2, e3, e4, e5, e6⟩ := q
    cases e1
    subst e2 e4
    exact ⟨_, back_1 e rfl rfl, k ds' j e3 e5 e6⟩
end
end V41
set_option Elab.async false
set_option linter.all false
set_option maxRecDepth 100000
set_option maxHeartbeats 1000000
set_option autoImplicit false
namespace V41
open PySem PySem.Spec PyProof.Rows L2 DL
/-! ### rows, plainly -/
structure Rw where
  h : Int
  hs : List Int
  w : Option Int
abbrev wD (o : Option Int) : PyData := match o with | none => .none | some v => .int v
abbrev rowD (r : Rw) : PyData := .tuple [.int r.h, .tuple (r.hs.map .int), wD r.w]
abbrev prD (p : Int × Int) : PyData := .tuple [.int p.1, .int p.2]
def hold (R : List Rw) (l : Int) : Option Int := (R.find? fun r => decide (l ∈ r.hs)).map (·.h)
def goal (R : List Rw) (r : Rw) : Option Int := r.w.bind (hold R)
def wp (R : List Rw) : List (Int × Int) := R.filterMap fun r => (goal R r).map fun o => (r.h, o)
structure Good (R : List Rw) : Prop where
  few : R.length ≤ 8
  hands : (R.map (·.h)).Nodup
  locks : (R.flatMap (·.hs)).Nodup
  big : ∀ r ∈ R, 0 ≤ r.h ∧ r.h < 4096
  lks : (R.flatMap (·.hs)).length ≤ 1000
  sm : ∀ r ∈ R, (∀ l ∈ r.hs, 0 ≤ l ∧ l < 8192) ∧ ∀ v, r.w = some v → 0 ≤ v ∧ v < 8192
/-- what a hand waits for -/
def nxt (ps : List (Int × Int)) (a : Int) : Option Int := (ps.find? fun p => decide (p.1 = a)).map (·.2)
theorem hold_mem {R : List Rw} {l o : Int} (h : hold R l = some o) : ∃ r ∈ R, r.h = o ∧ l ∈ r.hs := by
  obtain ⟨r, e, rfl⟩ := Option.map_eq_some_iff.mp h
  exact ⟨r, List.mem_of_find?_eq_some e, rfl, by simpa using List.find?_some e⟩
theorem filter_one {R : List Rw} (h : (R.flatMap (·.hs)).Nodup) (l : Int) : (R.filter fun r => decide (l ∈ r.hs)) = (R.find? fun r => decide (l ∈ r.hs)).toList := by
  induction R with
  | nil => rfl
  | cons r R ih =>
    rw [List.flatMap_cons, List.nodup_append] at h
    obtain ⟨_, h2, h3⟩ := h
    by_cases m : l ∈ r.hs
    · rw [List.filter_cons, if_pos (by simpa using m), List.find?_cons_of_pos (by simpa using m)]
      have : (R.filter fun r => decide (l ∈ r.hs)) = [] := by
        rw [List.filter_eq_nil_iff]
        intro r' m' z
        exact h3 l m l (List.mem_flatMap.mpr ⟨r', m', by simpa using z⟩) rfl
      rw [this]; rfl
    · rw [List.filter_cons, if_neg (by simpa using m), List.find?_cons_of_neg (by simpa using m)]
      exact ih h2
theorem wp_mem {R : List Rw} {a b : Int} : (a, b) ∈ wp R ↔ ∃ r ∈ R, r.h = a ∧ goal R r = some b := by
  unfold wp
  rw [List.mem_filterMap]
  constructor
  · rintro ⟨r, m, e⟩
    obtain ⟨o, e1, e2⟩ := Option.map_eq_some_iff.mp e
    cases e2
    exact ⟨r, m, rfl, e1⟩
  · rintro ⟨r, m, rfl, e⟩
    exact ⟨r, m, by rw [e]; rfl⟩
theorem fm_keys {R : List Rw} {g : Rw → Option Int} : ((R.filterMap fun r => (g r).map fun o => (r.h, o)).map (·.1)).Sublist (R.map (·.h)) := by
  induction R with
  | nil => exact List.Sublist.slnil
  | cons r R ih =>
    rw [List.filterMap_cons]
    cases e : g r with
    | none => exact ih.cons _
    | some o => exact ih.cons₂ _
theorem wp_keys {R : List Rw} (h : Good R) : ((wp R).map (·.1)).Nodup := h.hands.sublist fm_keys
theorem wp_len {R : List Rw} : (wp R).length ≤ R.length := List.length_filterMap_le _ _
theorem nxt_mem {ps : List (Int × Int)} {a b : Int} (h : nxt ps a = some b) : (a, b) ∈ ps := by
  obtain ⟨p, e, rfl⟩ := Option.map_eq_some_iff.mp h
  have h1 := List.mem_of_find?_eq_some e
  have h2 : p.1 = a := by simpa using List.find?_some e
  subst h2
  exact h1
theorem nxt_of {ps : List (Int × Int)} {a b : Int} (hn : (ps.map (·.1)).Nodup) (h : (a, b) ∈ ps) : nxt ps a = some b := by
  induction ps with
  | nil => cases h
  | cons p ps ih =>
    rw [List.map_cons, List.nodup_cons] at hn
    unfold nxt
    by_cases e : p.1 = a
    · rw [List.find?_cons_of_pos (by simpa using e)]
      rcases List.mem_cons.mp h with h | h
      · subst h; rfl
      · exact absurd (List.mem_map.mpr ⟨_, h, rfl⟩) (e ▸ hn.1)
    · rw [List.find?_cons_of_neg (by simpa using e)]
      rcases List.mem_cons.mp h with h | h
      · subst h; exact absurd rfl e
      · exact ih hn.2 h
theorem wp_hand {R : List Rw} {a b : Int} (h : (a, b) ∈ wp R) : (∃ r ∈ R, r.h = a) ∧ ∃ r ∈ R, r.h = b := by
  obtain ⟨r, m, rfl, e⟩ := wp_mem.mp h
  refine ⟨⟨r, m, rfl⟩, ?_⟩
  unfold goal at e
  obtain ⟨l, _, e2⟩ := Option.bind_eq_some_iff.mp e
  obtain ⟨r', m', e3, _⟩ := hold_mem e2
  exact ⟨r', m', e3⟩
/-! ### as dicts -/
abbrev kvP (p : Int × Int) : Key × PyData := (.inl p.1, .int p.2)
theorem look_ps (ps : List (Int × Int)) (a : Int) : lookD (ps.map kvP) (.inl a) = (nxt ps a).map .int := by
  induction ps with
  | nil => rfl
  | cons p ps ih =>
    unfold lookD nxt at *
    rw [List.map_cons]
    by_cases e : p.1 = a
    · rw [List.find?_cons_of_pos (by simp [e]), List.find?_cons_of_pos (by simpa using e)]; rfl
    · rw [List.find?_cons_of_neg (by simp [e]), List.find?_cons_of_neg (by simpa using e)]; exact ih
def HL (R : List Rw) : List (Int × Int) := R.flatMap fun r => r.hs.map fun l => (l, r.h)
theorem nxt_app {ps qs : List (Int × Int)} {a : Int} : nxt (ps ++ qs) a = (nxt ps a).or (nxt qs a) := by
  unfold nxt
  rw [List.find?_append]
  cases List.find? (fun p => decide (p.1 = a)) ps <;> rfl
theorem nxt_row (hs : List Int) (h l : Int) : nxt (hs.map fun l => (l, h)) l = if l ∈ hs then some h else none := by
  induction hs with
  | nil => rfl
  | cons x xs ih =>
    unfold nxt at *
    rw [List.map_cons]
    by_cases e : x = l
    · rw [List.find?_cons_of_pos (by simpa using e), if_pos (by rw [e]; exact List.mem_cons_self ..)]; rfl
    · rw [List.find?_cons_of_neg (by simpa using e), ih]
      by_cases m : l ∈ xs
      · rw [if_pos m, if_pos (List.mem_cons_of_mem _ m)]
      · rw [if_neg m, if_neg (by intro z; rcases List.mem_cons.mp z with z | z; exact e z.symm; exact m z)]
theorem nxt_HL (R : List Rw) (l : Int) : nxt (HL R) l = hold R l := by
  induction R with
  | nil => rfl
  | cons r R ih =>
    unfold HL at *
    rw [List.flatMap_cons, nxt_app, nxt_row, ih]
    unfold hold
    by_cases m : l ∈ r.hs
    · rw [if_pos m, List.find?_cons_of_pos (by simpa using m)]; rfl
    · rw [if_neg m, List.find?_cons_of_neg (by simpa using m)]; rfl
theorem HL_keys (R : List Rw) : (HL R).map (·.1) = R.flatMap (·.hs) := by
  induction R with
  | nil => rfl
  | cons r R ih =>
    unfold HL at *
    rw [List.flatMap_cons, List.map_append, ih, List.flatMap_cons, List.map_map]
    congr 1
    exact (List.map_congr_left fun _ _ => rfl).trans (List.map_id _)
theorem put_new {ps : List (Int × Int)} {l h : Int} (n : l ∉ ps.map (·.1)) : putD (ps.map kvP) (.inl l) (.int h) = (ps ++ [(l, h)]).map kvP := by
  unfold putD
  rw [if_neg, List.map_append]
  · rfl
  · intro z
    obtain ⟨kv, m, e⟩ := List.any_eq_true.mp z
    obtain ⟨p, mp, rfl⟩ := List.mem_map.mp m
    have e : (Sum.inl p.1 : Key) = .inl l := by simpa using e
    cases e
    exact n (List.mem_map.mpr ⟨p, mp, rfl⟩)
theorem merge_new : ∀ {qs ps : List (Int × Int)}, ((ps ++ qs).map (·.1)).Nodup → mergeD (ps.map kvP) (qs.map kvP) = (ps ++ qs).map kvP
  | [], ps, _ => by rw [List.append_nil]; rfl
  | q :: qs, ps, h => by
    have h1 : q.1 ∉ ps.map (·.1) := by
      rw [List.map_append, List.nodup_append] at h
      intro m
      exact h.2.2 _ m _ (List.mem_map.mpr ⟨q, List.mem_cons_self .., rfl⟩) rfl
    have e := merge_new (qs := qs) (ps := ps ++ [(q.1, q.2)]) (by rw [List.append_assoc]; exact h)
    rw [List.append_assoc] at e
    rw [← put_new h1] at e
    exact e
theorem pairs_ps (ps : List (Int × Int)) : pairsD (ps.map prD) = some (ps.map kvP) := by
  induction ps with
  | nil => rfl
  | cons p ps ih =>
    show (some (Sum.inl p.1 : Key)).bind (fun kk => (pairsD (ps.map prD)).map fun r => (kk, PyData.int p.2) :: r) = _
    rw [ih]; rfl
theorem merge_ps {ps : List (Int × Int)} (h : (ps.map (·.1)).Nodup) : mergeD [] (ps.map kvP) = ps.map kvP := merge_new (ps := []) h
/-! ### lists by a pure rule, over rows -/
theorem lc_of {α : Type} {g : α → PyData} {G : WG} {wt : WT} {we : WE} {own : List Nat} {P : List PyData → SEnv → Prop} {δf : SEnv} (p : α → Bool) (f : α → PyData) : ∀ {xs : List α} {acc : List PyData} {δ : SEnv}, forgetAll δ own = δf → acc.length + xs.length ≤ sizeLine →
    (∀ x ∈ xs, ∀ (Q : R → SEnv → Prop) (Q' : SEnv → Prop), (p x = true → ∀ δ1, forgetAll δ1 own = δf → Q (.d (f x)) δ1) → (p x = false → ∀ δ1, forgetAll δ1 own = δf → Q' δ1) →
      ob (G (g x) δf) fun δ1 => wt Ex0 δ1 fun b δ2 => if b = true then we Ex0 δ2 Q else Q' δ2) →
    (∀ δ', forgetAll δ' own = δf → P (acc ++ (xs.filter p).map f) δ') → wLcR G wt we own (xs.map g) acc δ P
  | [], acc, δ, h0, _, _, k => by have := k δ h0; rwa [List.filter_nil, List.map_nil, List.append_nil] at this
  | x :: xs, acc, δ, h0, hl, step, k => by
    rw [List.map_cons]
    unfold wLcR
    rw [h0]
    rw [List.length_cons] at hl
    refine step x (List.mem_cons_self ..) (fun r δ3 => ob (frz δ3 r) fun q => acc.length < sizeLine ∧ wLcR G wt we own (xs.map g) (acc ++ [q.1]) q.2 P) (fun δ2 => wLcR G wt we own (xs.map g) acc δ2 P) (fun hp δ1 h1 => ⟨_, rfl, by omega, ?_⟩) (fun hp δ1 h1 => ?_)
    · refine lc_of p f h1 (by rw [List.length_append, List.length_singleton]; omega) (fun y m => step y (List.mem_cons_of_mem _ m)) fun δ' h' => ?_
      have := k δ' h'
      rw [List.filter_cons, if_pos hp, List.map_cons] at this
      rw [List.append_assoc]; exact this
    · refine lc_of p f h1 (by omega) (fun y m => step y (List.mem_cons_of_mem _ m)) fun δ' h' => ?_
      have := k δ' h'
      rwa [List.filter_cons, if_neg (by rw [hp]; decide)] at this
theorem for_of {α : Type} {g : α → PyData} {G : WG} {body : WS} {xs : List α} {d : DEnds} (I : List α → SEnv → Prop) (fin : ∀ δ, I xs δ → d.nx δ)
    (step : ∀ (pre : List α) (x : α) (post : List α) (δ : SEnv) (Q : SEnv → Prop), xs = pre ++ x :: post → I pre δ → (∀ δ', I (pre ++ [x]) δ' → Q δ') → ob (G (g x) δ) fun δ1 => body { d with nx := Q, bk := d.nx, ct := Q } δ1) :
    ∀ {δ : SEnv}, I [] δ → wForR G body (xs.map g) d δ := by
  have go : ∀ (post pre : List α) (δ : SEnv), xs = pre ++ post → I pre δ → wForR G body (post.map g) d δ := by
    intro post
    induction post with
    | nil =>
      intro pre δ e h
      rw [List.append_nil] at e
      subst e
      exact fin _ h
    | cons x post ih =>
      intro pre δ e h
      exact step pre x post δ (wForR G body (post.map g) d) e h fun δ' h' => ih (pre ++ [x]) δ' (by rw [e, List.append_assoc]; rfl) h'
  intro δ h
  exact go xs [] δ rfl h
/-! ### ends and rings -/
inductive Ends (f : Int → Option Int) : Int → Nat → Prop
  | here {a : Int} : f a = none → Ends f a 0
  | on {a b : Int} {n : Nat} : f a = some b → Ends f b n → Ends f a (n + 1)
theorem Ends.det {f : Int → Option Int} {a : Int} {n m : Nat} (h : Ends f a n) (r : Ends f a m) : n = m := by
  induction h generalizing m with
  | here e => cases r with
    | here _ => rfl
    | on e2 _ => rw [e] at e2; cases e2
  | on e _ ih => cases r with
    | here e2 => rw [e] at e2; cases e2
    | on e2 r => rw [e] at e2; cases e2; rw [ih r]
def it (f : Int → Option Int) : Nat → Option Int → Option Int
  | 0, o => o
  | k + 1, o => it f k (o.bind f)
theorem it_none {f : Int → Option Int} : ∀ k, it f k none = none
  | 0 => rfl
  | k + 1 => it_none k
theorem it_snoc {f : Int → Option Int} : ∀ (k : Nat) (o : Option Int), it f (k + 1) o = (it f k o).bind f
  | 0, _ => rfl
  | k + 1, o => it_snoc k (o.bind f)
theorem Ends.gone {f : Int → Option Int} {a : Int} {n : Nat} (h : Ends f a n) : ∀ {k : Nat}, n < k → it f k (some a) = none := by
  induction h with
  | here e =>
    intro k hk
    cases k with
    | zero => omega
    | succ k => show it f k (f _) = none; rw [e]; exact it_none k
  | on e _ ih =>
    intro k hk
    cases k with
    | zero => omega
    | succ k => show it f k (f _) = none; rw [e]; exact ih (by omega)
def IsRing (f : Int → Option Int) (C : List Int) : Prop := C ≠ [] ∧ ∀ k (h : k < C.length), f C[k] = some (if h2 : k + 1 < C.length then C[k + 1] else C[0]'(by omega))
theorem IsRing.stays {f : Int → Option Int} {C : List Int} (h : IsRing f C) : ∀ (k : Nat) {c : Int}, c ∈ C → ∃ c' ∈ C, it f k (some c) = some c'
  | 0, c, m => ⟨c, m, rfl⟩
  | k + 1, c, m => by
    obtain ⟨j, hj, rfl⟩ := List.getElem_of_mem m
    show ∃ c' ∈ C, it f k (f _) = some c'
    rw [h.2 j hj]
    refine h.stays k ?_
    split
    · exact List.getElem_mem _
    · exact List.getElem_mem _
/-- a way along what waits -/
inductive Way (f : Int → Option Int) : List Int → Prop
  | one (a : Int) : Way f [a]
  | on {a b : Int} {l : List Int} : f a = some b → Way f (b :: l) → Way f (a :: b :: l)
theorem Way.snoc {f : Int → Option Int} {l : List Int} {a b : Int} (h : Way f (l ++ [a])) (e : f a = some b) : Way f (l ++ [a] ++ [b]) := by
  induction l with
  | nil => exact .on e (.one b)
  | cons x l ih =>
    cases l with
    | nil => cases h with | on e1 h => exact .on e1 (ih h)
    | cons y l => cases h with | on e1 h => exact .on e1 (ih h)
theorem Way.drop {f : Int → Option Int} {l : List Int} (h : Way f l) : ∀ (k : Nat), k < l.length → Way f (l.drop k) := by
  induction h with
  | one a => intro k hk; cases k with
    | zero => exact .one a
    | succ k => simp at hk
  | on e h ih => intro k hk; cases k with
    | zero => exact .on e h
    | succ k => exact ih k (by simpa using hk)
theorem Way.next {f : Int → Option Int} {l : List Int} (h : Way f l) : ∀ (k : Nat) (h1 : k + 1 < l.length), f (l[k]'(by omega)) = some l[k + 1] := by
  induction h with
  | one a => intro k h1; simp at h1
  | on e h ih => intro k h1; cases k with
    | zero => exact e
    | succ k => exact ih k (by simpa using h1)
theorem Way.ends {f : Int → Option Int} {l : List Int} {z : Int} : ∀ {a : Int}, Way f (a :: l) → (a :: l).getLast? = some z → f z = none → Ends f a l.length := by
  induction l with
  | nil => intro a _ h e; simp at h; subst h; exact .here e
  | cons b l ih => intro a h e e2; cases h with | on e1 h => exact .on e1 (ih h (by simpa using e) e2)
theorem Way.ring {f : Int → Option Int} {l : List Int} {z c : Int} (h : Way f l) (hl : l.getLast? = some z) (e : f z = some c) {k : Nat} (hk : l[k]? = some c) : IsRing f (l.drop k) := by
  obtain ⟨h1, h2⟩ := List.getElem?_eq_some_iff.mp hk
  have hw := h.drop k h1
  have hz : (l.drop k).getLast? = some z := by rw [List.getLast?_drop, if_neg (by omega)]; exact hl
  have hc : (l.drop k)[0]? = some c := by rw [List.getElem?_drop]; exact hk
  generalize l.drop k = C at hw hz hc
  refine ⟨fun z => (by rw [z] at hc; cases hc), fun j hj => ?_⟩
  split
  · exact hw.next j (by assumption)
  · rw [List.getLast?_eq_getElem?] at hz
    have ej : j = C.length - 1 := by omega
    obtain ⟨_, h3⟩ := List.getElem?_eq_some_iff.mp hz
    obtain ⟨_, h4⟩ := List.getElem?_eq_some_iff.mp hc
    subst ej
    rw [h3, e, h4]
theorem Way.keys {f : Int → Option Int} {ps : List (Int × Int)} (hf : ∀ a b, f a = some b → a ∈ ps.map (·.1)) {l : List Int} {z : Int} (h : Way f (l ++ [z])) : ∀ a ∈ l, a ∈ ps.map (·.1) := by
  intro a m
  obtain ⟨j, hj, rfl⟩ := List.getElem_of_mem m
  have := h.next j (by rw [List.length_append, List.length_singleton]; omega)
  rw [List.getElem_append_left hj] at this
  exact hf _ _ this
end V41
set_option Elab.async false
set_option linter.all false
set_option maxRecDepth 100000
set_option maxHeartbeats 1000000
set_option autoImplicit false
namespace V41
open PySem PySem.Spec PyProof.Rows L2 DL
local macro_rules | `(tactic| pv_short) => `(tactic| repeat first | refine Exists.intro _ (And.intro rfl ?_) | refine ifT rfl ?_ | refine ifF rfl ?_ | refine Exists.intro _ (And.intro (if_pos (by first | assumption | decide | exact ⟨by assumption, by decide⟩ | exact ⟨by assumption, by assumption⟩)) ?_) | refine And.intro (show List.length _ ≤ sizeLine from Nat.le_of_ble_eq_true rfl) ?_ | refine And.intro (Nat.le_of_ble_eq_true rfl) ?_)
/-! ### the tape made -/
def C_tape : FSpec := Ct (fun ss => ∃ s ns, ss = [s] ∧ Scr ns s) fun ss r ss' => ss' = ss ∧ ∃ ds, r = .n (.l ds) ∧ Tp ds
theorem cut_map {α β : Type} (f : α → β) (xs : List α) (lo hi : Option Int) : cutL (xs.map f) lo hi = (cutL xs lo hi).map f := by
  unfold cutL
  rw [List.length_map, List.map_take, List.map_drop]
theorem scal_ints (ns : List Int) : (ns.map PyData.int).all scalar = true := by
  rw [List.all_eq_true]
  intro x m
  obtain ⟨n, _, rfl⟩ := List.mem_map.mp m
  rfl
theorem tape_ok (ss : List Sl) (Ex : XP) (P : R → List Sl → Prop) (h : C_tape ss Ex P) : fnW 1 1 w_tape ss Ex P := by
  obtain ⟨⟨s, ns, rfl, hs⟩, k⟩ := h
  have kk := fun ds q => k (.n (.l ds)) _ ⟨rfl, ds, rfl, q⟩
  clear k
  refine And.intro rfl ?_
  rw [w_tape_eq]
  unfold t_tape_1
  rcases hs with rfl | rfl
  · pv_short
    refine kk _ ⟨cutL ns none (some 63), 0, 0, 0, ?_⟩
    show [PyData.list (cutL (ns.map .int) none (some 63)), .int 0, .int 0, .int 0] = _
    rw [cut_map]
  · pv_short
    refine Exists.intro _ (And.intro (if_pos (scal_ints ns)) ?_)
    pv_short
    refine kk _ ⟨cutL ns none (some 63), 0, 0, 0, ?_⟩
    show [PyData.list (cutL (ns.map .int) none (some 63)), .int 0, .int 0, .int 0] = _
    rw [cut_map]
/-! ### calls -/
theorem call_d {pre : List Sl → Prop} {post : List Sl → R → List Sl → Prop} {wa : WE} {δ δ1 : SEnv} {d : PyData} {Ex : XP} {P : R → SEnv → Prop} (hm : ∀ Q : R → SEnv → Prop, Q (.d d) δ1 → wa Ex δ Q) (hp : pre [.d d]) (k : ∀ r ss', post [.d d] r ss' → ss' = [.d d] ∧ P r δ1) : wCall 1 (Ct pre post) [false] (wCons wa wNil) Ex δ P := by
  unfold wCall
  refine hm _ ?_
  refine ⟨_, rfl, ?_⟩
  refine ⟨([.d d], δ1), rfl, rfl, List.nodup_nil, ?_⟩
  refine ⟨[.d d], rfl, hp, fun r ss' q _ => ?_⟩
  obtain ⟨rfl, z⟩ := k r ss' q
  exact ⟨_, rfl, z⟩
theorem call_dd {pre : List Sl → Prop} {post : List Sl → R → List Sl → Prop} {wa wb : WE} {δ δ1 δ2 : SEnv} {d e : PyData} {Ex : XP} {P : R → SEnv → Prop} (hm : ∀ Q : R → SEnv → Prop, Q (.d d) δ1 → wa Ex δ Q) (hm2 : ∀ Q : R → SEnv → Prop, Q (.d e) δ2 → wb Ex δ1 Q) (hp : pre [.d d, .d e]) (k : ∀ r ss', post [.d d, .d e] r ss' → ss' = [.d d, .d e] ∧ P r δ2) : wCall 2 (Ct pre post) [false, false] (wCons wa (wCons wb wNil)) Ex δ P := by
  unfold wCall
  refine hm _ ?_
  refine ⟨_, rfl, ?_⟩
  refine hm2 _ ?_
  refine ⟨_, rfl, ?_⟩
  refine ⟨([.d d, .d e], δ2), rfl, rfl, List.nodup_nil, ?_⟩
  refine ⟨[.d d, .d e], rfl, hp, fun r ss' q _ => ?_⟩
  obtain ⟨rfl, z⟩ := k r ss' q
  exact ⟨_, rfl, z⟩
/-- one lent, one by its data -/
theorem call_od {pre : List Sl → Prop} {post : List Sl → R → List Sl → Prop} {wa : WE} {δ : SEnv} {i : Nat} {b : Bool} {c : Cont} {d : PyData} {Ex : XP} {P : R → SEnv → Prop} (e : δ[i]? = some (some (.o b c))) (hs : c.simple = true) (hm : ∀ Q : R → SEnv → Prop, Q (.d d) δ → wa Ex δ Q) (hp : pre [.o true c, .d d])
    (k : ∀ r ss', post [.o true c, .d d] r ss' → ∃ c', ss' = [.o true c', .d d] ∧ c'.simple = true ∧ P r (δ.set i (some (.o b c')))) : wCall 2 (Ct pre post) [true, false] (wCons (wVar i) (wCons wa wNil)) Ex δ P := by
  unfold wCall
  refine ⟨_, e, _, rfl, ?_⟩
  refine ⟨.o i, rfl, ?_⟩
  refine hm _ ?_
  refine ⟨.d d, rfl, ?_⟩
  refine ⟨([.o i, .d d], δ), rfl, rfl, ?_, ?_⟩
  · show ([i] : List Nat).Nodup
    exact List.nodup_cons.mpr ⟨by simp, List.nodup_nil⟩
  refine ⟨[.o true c, .d d], ?_, hp, fun r ss' q _ => ?_⟩
  · simp [slsOf, slOf, e, hs]
  · obtain ⟨c', rfl, h2, z⟩ := k r ss' q
    refine ⟨δ.set i (some (.o b c')), ?_, z⟩
    simp only [back, DL.clear, e, hs, h2]
    simp
/-! ### waiting_pairs -/
def C_prs (n : Bool) : FSpec := Ct (fun ss => ∃ R, ss = [.d (.tuple (R.map rowD))] ∧ Good R) fun ss r ss' => ss' = ss ∧ ∃ R, ss = [.d (.tuple (R.map rowD))] ∧ Good R ∧ r = if n then .n (.l ((wp R).map prD)) else .d (.tuple ((wp R).map prD))
theorem fm_as {R : List Rw} {g : Rw → Option Int} : ((R.filter fun r => (g r).isSome).map fun r => prD (r.h, (g r).getD 0)) = (R.filterMap fun r => (g r).map fun o => (r.h, o)).map prD := by
  induction R with
  | nil => rfl
  | cons r R ih =>
    rw [List.filter_cons, List.filterMap_cons]
    cases e : g r with
    | none => simpa [e] using ih
    | some o => simp [e, ih]
abbrev pwE (d : PyData) (s1 s2 s3 s4 s5 s6 : Option Sl) : SEnv := [some (.d d), s1, s2, s3, s4, s5, s6]
theorem holders_row {D : PyData} {h : Int} {hd wd : PyData} : ∀ {ls : List Int} {ps : List (Int × Int)} {s1 s5 s6 : Option Sl} {P : List (Key × PyData) → SEnv → Prop}, ((ps.map (·.1)) ++ ls).Nodup → ps.length + ls.length ≤ 1000 →
    (∀ s5', P ((ps ++ ls.map fun l => (l, h)).map kvP) (pwE D s1 (some (.d (.int h))) (some (.d hd)) (some (.d wd)) s5' s6)) →
    wDcB (gN 5) (wVar 5) (wVar 2) [5] (ls.map .int) (ps.map kvP) (pwE D s1 (some (.d (.int h))) (some (.d hd)) (some (.d wd)) s5 s6) P
  | [], ps, s1, s5, s6, P, _, _, k => by have := k s5; rwa [List.map_nil, List.append_nil] at this
  | l :: ls, ps, s1, s5, s6, P, hn, hl, k => by
    have n1 : l ∉ ps.map (·.1) := by
      intro m
      exact (List.nodup_append.mp hn).2.2 _ m _ (List.mem_cons_self ..) rfl
    rw [List.map_cons]
    unfold wDcB wKV
    pv_short
    refine ⟨?_, ?_⟩
    · rw [List.length_map]; simp at hl; exact Nat.lt_of_le_of_lt (m := 1000) (by omega) (by decide)
    rw [put_new n1]
    refine holders_row (ps := ps ++ [(l, h)]) ?_ ?_ fun s5' => ?_
    · rw [List.map_append, List.append_assoc]; exact hn
    · rw [List.length_append, List.length_singleton]; simp at hl; omega
    · have := k s5'
      rw [List.append_assoc]; exact this

theorem row_keys (hs : List Int) (h : Int) : (hs.map fun l => (l, h)).map (·.1) = hs := by
  rw [List.map_map]
  exact (List.map_congr_left fun _ _ => rfl).trans (List.map_id _)
theorem holders {D : PyData} : ∀ {R : List Rw} {ps : List (Int × Int)} {s1 s2 s3 s4 s5 s6 : Option Sl} {P : List (Key × PyData) → SEnv → Prop}, ((ps.map (·.1)) ++ R.flatMap (·.hs)).Nodup → ps.length + (R.flatMap (·.hs)).length ≤ 1000 →
    (∀ s2' s3' s4' s5', P ((ps ++ HL R).map kvP) (pwE D s1 s2' s3' s4' s5' s6)) →
    wDcA (gT 3 (gsC (gN 2) (gsC (gN 3) (gsC (gN 4) gsN)))) (wIt (wVar 3)) (gN 5) (wVar 5) (wVar 2) [2, 3, 4, 5] [5] (R.map rowD) (ps.map kvP) (pwE D s1 s2 s3 s4 s5 s6) P
  | [], ps, s1, s2, s3, s4, s5, s6, P, _, _, k => by have := k s2 s3 s4 s5; rwa [show HL [] = [] from rfl, List.append_nil] at this
  | r :: R, ps, s1, s2, s3, s4, s5, s6, P, hn, hl, k => by
    rw [List.map_cons]
    rw [List.flatMap_cons, ← List.append_assoc] at hn
    rw [List.flatMap_cons, List.length_append] at hl
    unfold wDcA
    pv_short
    refine holders_row (List.nodup_append.mp hn).1 (by omega) fun s5' => ?_
    refine holders (ps := ps ++ r.hs.map fun l => (l, r.h)) ?_ ?_ fun s2' s3' s4' s5' => ?_
    · rw [List.map_append, row_keys]
      exact hn
    · rw [List.length_append, List.length_map]; omega
    · have := k s2' s3' s4' s5'
      unfold HL at this ⊢
      rw [List.append_assoc]
      exact this
theorem locks_few {R : List Rw} (h : Good R) : (R.flatMap (·.hs)).length ≤ 1000 := h.lks
theorem in_ps (ps : List (Int × Int)) (l : Int) : inT false (.d (.int l)) (.k (ps.map kvP)) = some (.val (.bool (nxt ps l).isSome)) := by
  show (((some (lookD (ps.map kvP) (.inl l))).map (·.isSome)).map fun r => Rv.val (.bool (if false = true then !r else r))) = _
  rw [look_ps]
  cases nxt ps l <;> rfl
theorem idx_ps {ps : List (Int × Int)} {l o : Int} (h : nxt ps l = some o) : idxF (.k (ps.map kvP)) (.d (.int l)) = some (.val (.int o)) := by
  show (((some (lookD (ps.map kvP) (.inl l))).bind id).map Rv.val) = _
  rw [look_ps, h]; rfl
theorem waiting_pairs_ok (ss : List Sl) (Ex : XP) (P : R → List Sl → Prop) (h : C_prs false ss Ex P) : fnW 1 7 w_waiting_pairs ss Ex P := by
  obtain ⟨⟨R, rfl, hg⟩, k⟩ := h
  have kk := k _ _ ⟨rfl, R, rfl, hg, rfl⟩
  clear k
  refine And.intro rfl ?_
  rw [w_waiting_pairs_eq]
  unfold t_waiting_pairs_2
  pv_short
  refine holders (ps := []) (by simpa using hg.locks) (by simpa using hg.lks) fun s2' s3' s4' s5' => ?_
  rw [List.nil_append]
  unfold t_waiting_pairs_1
  pv_short
  refine lc_of (g := rowD) (δf := [some (.d (.tuple (R.map rowD))), some (.o false (.k ((HL R).map kvP))), none, none, none, none, none]) (fun r => (goal R r).isSome) (fun r => prD (r.h, (goal R r).getD 0)) rfl ?_ ?_ ?_
  · have := hg.few; exact Nat.le_trans (m := 8) (by simpa using this) (by decide)
  · rintro ⟨h, hs, w⟩ m Q Q' k1 k2
    cases w with
    | none =>
      pv_short
      exact k2 rfl _ rfl
    | some l =>
      pv_short
      have en := nxt_HL R l
      have hb : (lookD ((HL R).map kvP) (.inl l)).isSome = (hold R l).isSome := by rw [look_ps, en]; cases hold R l <;> rfl
      cases e : hold R l with
      | none =>
        rw [e] at hb
        refine ifF hb ?_
        exact k2 (by show (hold R l).isSome = _; rw [e]; rfl) _ rfl
      | some o =>
        rw [e] at hb en
        refine ifT hb ?_
        pv_short
        refine Exists.intro _ (And.intro (idx_ps en) ?_)
        pv_short
        have := k1 (by show (hold R l).isSome = _; rw [e]; rfl)
        rw [show goal R ⟨h, hs, some l⟩ = some o from e] at this
        exact this _ rfl
  · intro δ' h'
    rw [List.nil_append, fm_as, h']
    pv_short
    exact kk

/-! ### _law_pairs -/
abbrev paE (R : List Rw) (ps : List (Int × Int)) (s2 s3 s4 : Option Sl) : SEnv := [some (.d (.tuple (R.map rowD))), some (.o false (.l (ps.map prD))), s2, s3, s4, none]
theorem mem_ints (hs : List Int) (l : Int) : ((hs.map PyData.int).any fun z => PyData.eqv z (.int l)) = decide (l ∈ hs) := by
  rw [Bool.eq_iff_iff, List.any_eq_true, decide_eq_true_iff]
  constructor
  · rintro ⟨z, m, e⟩
    obtain ⟨x, mx, rfl⟩ := List.mem_map.mp m
    have : x = l := by simpa [PyData.eqv] using e
    exact this ▸ mx
  · intro m
    exact ⟨.int l, List.mem_map.mpr ⟨l, m, rfl⟩, by simp [PyData.eqv]⟩
def wq (R pre : List Rw) : List (Int × Int) := pre.filterMap fun r => (goal R r).map fun o => (r.h, o)
theorem wq_snoc (R pre : List Rw) (r : Rw) : wq R (pre ++ [r]) = wq R pre ++ ((goal R r).map fun o => (r.h, o)).toList := by
  unfold wq
  rw [List.filterMap_append]
  congr 1
end V41
set_option Elab.async false
set_option linter.all false
set_option maxRecDepth 100000
set_option maxHeartbeats 1000000
set_option autoImplicit false
namespace V41
open PySem PySem.Spec PyProof.Rows L2 DL
local macro_rules | `(tactic| pv_short) => `(tactic| repeat first | refine Exists.intro _ (And.intro rfl ?_) | refine ifT rfl ?_ | refine ifF rfl ?_ | refine Exists.intro _ (And.intro (if_pos (by first | assumption | decide | exact ⟨by assumption, by decide⟩ | exact ⟨by assumption, by assumption⟩)) ?_) | refine And.intro (show List.length _ ≤ sizeLine from Nat.le_of_ble_eq_true rfl) ?_ | refine And.intro (Nat.le_of_ble_eq_true rfl) ?_)
theorem pigeon {l : List Int} : ∀ {m : List Int}, l.Nodup → (∀ x ∈ l, x ∈ m) → l.length ≤ m.length := by
  induction l with
  | nil => intro m _ _; exact Nat.zero_le _
  | cons x l ih =>
    intro m hn hs
    rw [List.nodup_cons] at hn
    have hx := hs x (List.mem_cons_self ..)
    have h1 : l.length ≤ (m.erase x).length := ih hn.2 fun y my => by
      refine (List.mem_erase_of_ne fun z => ?_).mpr (hs y (List.mem_cons_of_mem _ my))
      exact hn.1 (z ▸ my)
    rw [List.length_erase_of_mem hx] at h1
    have : 0 < m.length := List.length_pos_of_mem hx
    rw [List.length_cons]; omega
theorem at_last {α : Type} (l : List α) (z : α) : atI (l ++ [z]) (-1) = some z := by
  have : ixN (l.length + 1) (-1) = some l.length := by
    unfold ixN
    simp
    omega
  unfold atI
  rw [List.length_append, List.length_singleton, this]
  simp
theorem idx_last (l : List Int) (z : Int) : idxF (.d (.list ((l ++ [z]).map .int))) (.d (.int (-1))) = some (.val (.int z)) := by
  show (atI ((l ++ [z]).map PyData.int) (-1)).map Rv.val = _
  rw [List.map_append, List.map_singleton, at_last]; rfl
theorem in_list (l : List Int) (z : Int) : inT false (.d (.int z)) (.d (.list (l.map .int))) = some (.val (.bool (decide (z ∈ l)))) := by
  show ((if SeqAt.shaped (.int z) && SeqAt.shaped (.list (l.map PyData.int)) then _ else none).map _) = _
  rw [if_pos (by rw [ints_shaped]; rfl), mem_ints]; rfl
/-! ### walked_from -/
structure Walked (ps : List (Int × Int)) (a : Int) (L : List Int) (o : Option Int) : Prop where
  way : Way (nxt ps) L
  hd : L.head? = some a
  few : L.length ≤ ps.length + 1
  last : ∃ z, L.getLast? = some z ∧ nxt ps z = o
  again : ∀ c, o = some c → c ∈ L
def C_walk : FSpec := Ct (fun ss => ∃ (ps : List (Int × Int)) (a : Int), ss = [.o true (.k (ps.map kvP)), .d (.int a)] ∧ ps.length ≤ 8) fun ss r ss' => ss' = ss ∧ ∃ (ps : List (Int × Int)) (a : Int) (L : List Int) (o : Option Int), ss = [.o true (.k (ps.map kvP)), .d (.int a)] ∧ Walked ps a L o ∧ r = .d (.tuple [.list (L.map .int), wD o])
abbrev wkE (ps : List (Int × Int)) (a : Int) (L : List Int) (s3 : Option Sl) : SEnv := [some (.o true (.k (ps.map kvP))), some (.d (.int a)), some (.o false (.l (L.map .int))), s3]
theorem in_keys {ps : List (Int × Int)} {a b : Int} (h : nxt ps a = some b) : a ∈ ps.map (·.1) := List.mem_map.mpr ⟨_, nxt_mem h, rfl⟩
theorem walk_go {ps : List (Int × Int)} {a : Int} {ss : List Sl} {Ex : XP} {P : R → List Sl → Prop} (hss : ss = [.o true (.k (ps.map kvP)), .d (.int a)]) (h8 : ps.length ≤ 8) (k : ∀ L o, Walked ps a L o → P (.d (.tuple [.list (L.map .int), wD o])) ss) :
    ∀ (n : Nat) (l : List Int) (z : Int) (s3 : Option Sl), l.length + n = ps.length + 1 → Way (nxt ps) (l ++ [z]) → (l ++ [z]).Nodup → (l ++ [z]).head? = some a →
      wWh (wB (wOp (inT false) (wOp idxF (wVar 2) (wNeg (wC (.int 1)))) (wVar 0))) t_walked_from_5 n { dEnd ss Ex P with nx := t_walked_from_1 (dEnd ss Ex P) } (wkE ps a (l ++ [z]) s3)
  | 0, l, z, s3, hn, hw, hd, _ => by
    exfalso
    have := pigeon (List.nodup_append.mp hd).1 (hw.keys (ps := ps) fun _ _ => in_keys)
    rw [List.length_map] at this
    omega
  | n + 1, l, z, s3, hn, hw, hd, hh => by
    subst hss
    have fin : ∀ (o : Option Int), nxt ps z = o → (∀ c, o = some c → c ∈ l ++ [z]) → Walked ps a (l ++ [z]) o := fun o e1 e2 => ⟨hw, hh, by
      have := pigeon (List.nodup_append.mp hd).1 (hw.keys (ps := ps) fun _ _ => in_keys)
      rw [List.length_map] at this
      rw [List.length_append, List.length_singleton]; omega, ⟨z, by simp, e1⟩, e2⟩
    unfold wWh
    pv_short
    refine Exists.intro _ (And.intro (idx_last l z) ?_)
    pv_short
    have hb : (lookD (ps.map kvP) (.inl z)).isSome = (nxt ps z).isSome := by rw [look_ps]; cases nxt ps z <;> rfl
    have hlen : ((l ++ [z]).map PyData.int).length < sizeLine := by
      rw [List.length_map, List.length_append, List.length_singleton]
      exact Nat.lt_of_le_of_lt (m := 10) (by omega) (by decide)
    cases hx : nxt ps z with
    | none =>
      rw [hx] at hb
      refine ifF hb ?_
      show t_walked_from_1 _ _
      unfold t_walked_from_1
      pv_short
      exact k _ none (fin none hx (fun _ h => by cases h))
    | some c =>
      have ei := idx_ps hx
      rw [hx] at hb
      refine ifT hb ?_
      have st := fun (h1 : (l ++ [z]).length + n = ps.length + 1) (h2 : (l ++ [z] ++ [c]).Nodup) (h3 : (l ++ [z] ++ [c]).head? = some a) => walk_go (Ex := Ex) (P := P) rfl h8 k n (l ++ [z]) c (some (.d (.int c))) h1 (hw.snoc hx) h2 h3
      generalize wWh (wB (wOp (inT false) (wOp idxF (wVar 2) (wNeg (wC (.int 1)))) (wVar 0))) t_walked_from_5 n = W at st ⊢
      unfold t_walked_from_5 t_walked_from_4
      pv_short
      refine Exists.intro _ (And.intro (idx_last l z) ?_)
      pv_short
      refine Exists.intro _ (And.intro ei ?_)
      pv_short
      refine Exists.intro _ (And.intro (in_list (l ++ [z]) c) ?_)
      pv_short
      by_cases m : c ∈ l ++ [z]
      · refine ifT (decide_eq_true m) ?_
        unfold t_walked_from_3
        pv_short
        exact k _ (some c) (fin (some c) hx (fun _ h => by cases h; exact m))
      · refine ifF (decide_eq_false m) ?_
        unfold t_walked_from_2
        pv_short
        refine And.intro hlen ?_
        have e : ((l ++ [z]).map PyData.int) ++ [.int c] = ((l ++ [z]) ++ [c]).map .int := by rw [List.map_append (l₁ := l ++ [z])]; rfl
        show W _ [some (.o true (.k (ps.map kvP))), some (.d (.int a)), some (.o false (.l (((l ++ [z]).map PyData.int) ++ [.int c]))), some (.d (.int c))]
        rw [e]
        refine st ?_ ?_ ?_
        · rw [List.length_append, List.length_singleton]; omega
        · rw [List.nodup_append]
          exact ⟨hd, by simp, fun x mx y hy => by rw [List.mem_singleton] at hy; intro zz; exact m (hy ▸ zz ▸ mx)⟩
        · rw [List.head?_append, hh]; rfl
theorem walked_from_ok (ss : List Sl) (Ex : XP) (P : R → List Sl → Prop) (h : C_walk ss Ex P) : fnW 2 4 w_walked_from ss Ex P := by
  obtain ⟨⟨ps, a, rfl, h8⟩, k⟩ := h
  have kk := fun L o w => k _ _ ⟨rfl, ps, a, L, o, rfl, w, rfl⟩
  clear k
  refine And.intro rfl ?_
  rw [w_walked_from_eq]
  unfold t_walked_from_7 t_walked_from_6
  pv_short
  exact ⟨ps.length + 1, walk_go rfl h8 kk (ps.length + 1) [] a none (by simp) (.one a) (by simp) rfl⟩
end V41
set_option Elab.async false
set_option linter.all false
set_option maxRecDepth 100000
set_option maxHeartbeats 1000000
set_option autoImplicit false
namespace V41
open PySem PySem.Spec PyProof.Rows L2 DL
local macro_rules | `(tactic| pv_short) => `(tactic| repeat first | refine Exists.intro _ (And.intro rfl ?_) | refine ifT rfl ?_ | refine ifF rfl ?_ | refine Exists.intro _ (And.intro (if_pos (by first | assumption | decide | exact ⟨by assumption, by decide⟩ | exact ⟨by assumption, by assumption⟩)) ?_) | refine And.intro (show List.length _ ≤ sizeLine from Nat.le_of_ble_eq_true rfl) ?_ | refine And.intro (Nat.le_of_ble_eq_true rfl) ?_)
theorem map_inj {α β : Type} {f : α → β} (hf : ∀ x y, f x = f y → x = y) : ∀ {l m : List α}, l.map f = m.map f → l = m
  | [], [], _ => rfl
  | [], _ :: _, e => by cases e
  | _ :: _, [], e => by cases e
  | x :: l, y :: m, e => by
    rw [List.map_cons, List.map_cons, List.cons.injEq] at e
    rw [hf _ _ e.1, map_inj hf e.2]
theorem int_inj {l m : List Int} (h : l.map PyData.int = m.map PyData.int) : l = m := map_inj (fun x y e => by cases e; rfl) h
theorem kv_inj {l m : List (Int × Int)} (h : l.map kvP = m.map kvP) : l = m := map_inj (fun x y e => by
  obtain ⟨x1, x2⟩ := x; obtain ⟨y1, y2⟩ := y
  simp only [kvP, Prod.mk.injEq, Sum.inl.injEq, PyData.int.injEq] at e
  rw [e.1, e.2]) h
theorem wD_inj {x y : Option Int} (h : wD x = wD y) : x = y := by
  cases x <;> cases y <;> first | rfl | (cases h; done) | (cases h; rfl)
theorem row_inj {x y : Rw} (h : rowD x = rowD y) : x = y := by
  obtain ⟨a, b, c⟩ := x; obtain ⟨a', b', c'⟩ := y
  unfold rowD at h
  simp only [PyData.tuple.injEq, List.cons.injEq, PyData.int.injEq, and_true] at h
  obtain ⟨h1, h2, h3⟩ := h
  rw [h1, int_inj h2, wD_inj h3]
theorem rows_inj {R R' : List Rw} (h : [Sl.d (.tuple (R.map rowD))] = [.d (.tuple (R'.map rowD))]) : R = R' := by
  simp only [List.cons.injEq, Sl.d.injEq, PyData.tuple.injEq, and_true] at h
  exact map_inj (fun _ _ => row_inj) h
theorem find_ints {L : List Int} {c : Int} (h : c ∈ L) : ∃ k, findD (.int c) (L.map .int) = some k ∧ L[k]? = some c := by
  induction L with
  | nil => cases h
  | cons x L ih =>
    rw [List.map_cons]
    unfold findD
    by_cases e : x = c
    · subst e
      exact ⟨0, by rw [if_pos (by simp [PyData.eqv])], rfl⟩
    · rw [if_neg (by simp [PyData.eqv, e])]
      obtain ⟨k, e1, e2⟩ := ih (by rcases List.mem_cons.mp h with h | h; exact absurd h.symm e; exact h)
      exact ⟨k + 1, by rw [e1]; rfl, by simpa using e2⟩
/-! ### ring_or_ranks -/
abbrev F (R : List Rw) : Int → Option Int := nxt (wp R)
def rkD (p : Int × Nat) : PyData := prD (p.1, (p.2 : Int))
structure Ranks (R pre : List Rw) (ks : List (Int × Nat)) : Prop where
  hands : ks.map (·.1) = pre.map (·.h)
  ends : ∀ p ∈ ks, Ends (F R) p.1 p.2 ∧ p.2 ≤ (wp R).length
def Told (R : List Rw) (d : PyData) : Prop := (∃ C, d = .tuple [.str "ring", .tuple (C.map .int)] ∧ IsRing (F R) C ∧ C.length ≤ 9) ∨ ∃ ks, d = .tuple [.str "ranks", .tuple (ks.map rkD)] ∧ Ranks R R ks
def C_ror : FSpec := Ct (fun ss => ∃ R, ss = [.d (.tuple (R.map rowD))] ∧ Good R) fun ss r ss' => ss' = ss ∧ ∃ R d, ss = [.d (.tuple (R.map rowD))] ∧ r = .d d ∧ Told R d
abbrev roE (R : List Rw) (ks : List (Int × Nat)) (s3 s4 s5 : Option Sl) : SEnv := [some (.d (.tuple (R.map rowD))), some (.o false (.k ((wp R).map kvP))), some (.o false (.l (ks.map rkD))), s3, s4, s5]
theorem dictP_step {wa : WE} {Ex : XP} {δ δ1 : SEnv} {P : R → SEnv → Prop} {ps : List (Int × Int)} (hm : ∀ Q : R → SEnv → Prop, Q (.d (.tuple (ps.map prD))) δ1 → wa Ex δ Q) (hn : (ps.map (·.1)).Nodup) (k : P (.n (.k (ps.map kvP))) δ1) : wDictP wa Ex δ P := by
  unfold wDictP
  refine hm _ ?_
  refine ⟨_, rfl, _, pairs_ps ps, ?_⟩
  show P (.n (.k (mergeD [] (ps.map kvP)))) δ1
  rw [merge_ps hn]
  exact k
theorem ror_ok (ss : List Sl) (Ex : XP) (P : R → List Sl → Prop) (h : C_ror ss Ex P) : fnW 1 6 (w_ring_or_ranks C_walk (C_prs false)) ss Ex P := by
  obtain ⟨⟨R, rfl, hg⟩, k⟩ := h
  have kk := fun d t => k (.d d) _ ⟨rfl, R, d, rfl, rfl, t⟩
  clear k
  have h8 : (wp R).length ≤ 8 := Nat.le_trans wp_len hg.few
  refine And.intro rfl ?_
  rw [w_ring_or_ranks_eq]
  unfold t_ring_or_ranks_8
  have hd : ∀ Q : DL.R → SEnv → Prop, Q (.d (.tuple ((wp R).map prD))) [some (.d (.tuple (R.map rowD))), none, none, none, none, none] → wCall 1 (C_prs false) [false] (wCons (wVar 0) wNil) Ex [some (.d (.tuple (R.map rowD))), none, none, none, none, none] Q := fun Q hQ =>
    call_d (d := .tuple (R.map rowD)) (δ1 := [some (.d (.tuple (R.map rowD))), none, none, none, none, none]) (fun Q h => by pv_short; exact h) ⟨R, rfl, hg⟩ fun r ss' ⟨e1, R', e2, _, e3⟩ => ⟨e1, by
      have := rows_inj e2
      subst this
      subst e3
      exact hQ⟩
  intro fin
  unfold wSeq wSet
  refine dictP_step hd (wp_keys hg) ?_
  pv_short
  unfold t_ring_or_ranks_7 t_ring_or_ranks_6
  pv_short
  refine for_of (g := rowD) (fun pre δ => ∃ ks s3 s4 s5, Ranks R pre ks ∧ δ = roE R ks s3 s4 s5) ?_ ?_ ⟨[], none, none, none, ⟨rfl, fun _ m => by cases m⟩, rfl⟩
  · rintro δ ⟨ks, s3, s4, s5, hk, rfl⟩
    unfold t_ring_or_ranks_1
    pv_short
    exact kk _ (.inr ⟨ks, rfl, hk⟩)
  · rintro pre ⟨h, hs, w⟩ post δ Q eR ⟨ks, s3, s4, s5, hk, rfl⟩ hQ
    have hl : ks.length ≤ 8 := by
      have h1 := hg.few
      have h2 : (ks.map (·.1)).length = (pre.map (·.h)).length := by rw [hk.hands]
      rw [List.length_map, List.length_map] at h2
      rw [eR, List.length_append] at h1; omega
    unfold t_ring_or_ranks_5
    pv_short
    refine call_od (i := 1) (b := false) (c := .k ((wp R).map kvP)) (d := .int h) rfl rfl (fun Q h => by pv_short; exact h) ⟨wp R, h, rfl, h8⟩ fun r ss' ⟨e1, ps, a, L, o, e2, hw, e3⟩ => ⟨_, e1, rfl, ?_⟩
    simp only [List.cons.injEq, Sl.o.injEq, Cont.k.injEq, Sl.d.injEq, PyData.int.injEq, true_and, and_true] at e2
    obtain ⟨e4, rfl⟩ := e2
    have := kv_inj e4
    subst this
    subst e3
    pv_short
    have hb : ∃ z, L.getLast? = some z ∧ nxt (wp R) z = o := hw.last
    obtain ⟨z, hz, hzo⟩ := hb
    have hL : L ≠ [] := fun e => by rw [e] at hz; cases hz
    unfold t_ring_or_ranks_4
    cases o with
    | some c =>
      pv_short
      unfold t_ring_or_ranks_3
      obtain ⟨k, fk, lk⟩ := find_ints (hw.again c rfl)
      pv_short
      refine And.intro ⟨scal_ints L, rfl⟩ ?_
      refine Exists.intro _ (And.intro fk ?_)
      pv_short
      have hk : k < L.length := (List.getElem?_eq_some_iff.mp lk).1
      have ec : cutL (L.map PyData.int) (some (k : Int)) none = (L.drop k).map .int := by
        rw [cut_map]
        congr 1
        unfold cutL
        rw [HT.sIx_nat, show min k L.length = k by omega]
        show (L.drop k).take (L.length - k) = _
        rw [← List.length_drop, List.take_length]
      refine kk (.tuple [.str "ring", .tuple (cutL (L.map PyData.int) (some (k : Int)) none)]) (.inl ⟨L.drop k, by rw [ec], hw.way.ring hz hzo lk, by have := hw.few; rw [List.length_drop]; omega⟩)
    | none =>
      pv_short
      unfold t_ring_or_ranks_2
      pv_short
      have hlen : (ks.map rkD).length < sizeLine := by
        rw [List.length_map]
        exact Nat.lt_of_le_of_lt (m := 8) hl (by decide)
      refine And.intro hlen ?_
      pv_short
      have e9 : (ks.map rkD) ++ [.tuple [.int h, .int ((((L.map PyData.int).length : Nat) : Int) - 1)]] = (ks ++ [(h, L.length - 1)]).map rkD := by
        have : 0 < L.length := List.length_pos_iff.mpr hL
        rw [List.map_append, List.length_map, show (L.length : Int) - 1 = ((L.length - 1 : Nat) : Int) by omega]
        rfl
      refine hQ _ ⟨ks ++ [(h, L.length - 1)], some (.d (rowD ⟨h, hs, w⟩)), some (.d (.list (L.map .int))), some (.d .none), ⟨?_, ?_⟩, ?_⟩
      · rw [List.map_append, List.map_append, hk.hands]; rfl
      · intro p m
        rcases List.mem_append.mp m with m | m
        · exact hk.ends p m
        · rw [List.mem_singleton] at m
          subst m
          obtain ⟨a, l, rfl⟩ := List.exists_cons_of_ne_nil hL
          have : a = h := by have := hw.hd; simpa using this
          subst this
          refine ⟨hw.way.ends hz hzo, ?_⟩
          have := hw.few
          rw [List.length_cons] at this ⊢
          omega
      · unfold roE
        rw [← e9]
        rfl
end V41
set_option Elab.async false
set_option linter.all false
set_option maxRecDepth 100000
set_option maxHeartbeats 1000000
set_option autoImplicit false
namespace V41
open PySem PySem.Spec PyProof.Rows L2 DL
local macro_rules | `(tactic| pv_short) => `(tactic| repeat first | refine Exists.intro _ (And.intro rfl ?_) | refine ifT rfl ?_ | refine ifF rfl ?_ | refine Exists.intro _ (And.intro (if_pos (by first | assumption | decide | exact ⟨by assumption, by decide⟩ | exact ⟨by assumption, by assumption⟩)) ?_) | refine And.intro (show List.length _ ≤ sizeLine from Nat.le_of_ble_eq_true rfl) ?_ | refine And.intro (Nat.le_of_ble_eq_true rfl) ?_)
/-! ### _law_waits -/
theorem nums_ints (l : List Int) : numsD (l.map .int) = some l := by
  induction l with
  | nil => rfl
  | cons x l ih => show (numsD (l.map PyData.int)).map _ = _; rw [ih]; rfl
abbrev L10 : List Int := [0, 1, 9, 10, 11, 99, 100, 7, 5, 40]
abbrev H7 : List Int := [0, 9, 10, 3, 100, 11, 2]
abbrev L18 : List Int := [0, 1, 9, 10, 11, 99, 100, 7, 5, 40, 77, 555, 557, 558, 564, 565, 566, 655]
theorem l18_of {l : Int} (h : l ∈ L10 ∨ ∃ h ∈ H7, l = 555 + h) : l ∈ L18 := by
  rcases h with h | ⟨h, m, rfl⟩
  · simp only [List.mem_cons, List.not_mem_nil, or_false] at h ⊢; omega
  · simp only [List.mem_cons, List.not_mem_nil, or_false] at m ⊢; omega
abbrev Hd : Type := Int × List Int
abbrev hdD (w : Hd) : PyData := .tuple [.int w.1, .tuple (w.2.map .int)]
structure Held (W : List Hd) : Prop where
  few : W.length ≤ 7
  hands : (W.map (·.1)).Nodup
  locks : (W.flatMap (·.2)).Nodup
  big : ∀ w ∈ W, 0 ≤ w.1 ∧ w.1 < 4096 ∧ ∀ l ∈ w.2, 0 ≤ l ∧ l < 1000
  lks : (W.flatMap (·.2)).length ≤ 14
  all_ : ∀ l ∈ W.flatMap (·.2), l ∈ L18
  up : (W.map (·.1)).Pairwise (· < ·)
theorem sort_ints {ns ms : List Int} (hl : ns.length < 64) (p : ms.Perm ns) (q : ms.Pairwise (· ≤ ·)) : sortF [.d (.list (ns.map .int))] = some (.lst (ms.map .int)) := by
  show (numsD (ns.map PyData.int)).bind _ = _
  rw [nums_ints]
  show (if ns.length < 64 then some (Rv.lst ((sortI ns).map .int)) else none) = _
  rw [if_pos hl, sortI_one p q]
theorem hands_ok {j : Int} (h0 : 0 ≤ j) (h1 : j < 8) : ∃ hs : List Int, sortF [.d (.list (cutL [.int 0, .int 9, .int 10, .int 3, .int 100, .int 11, .int 2] none (some j)))] = some (.lst (hs.map .int)) ∧ hs.Nodup ∧ hs.length ≤ 7 ∧ (∀ h ∈ hs, 0 ≤ h ∧ h ≤ 100) ∧ (∀ h ∈ hs, h ∈ H7) ∧ hs.Pairwise (· < ·) := by
  have : j = 0 ∨ j = 1 ∨ j = 2 ∨ j = 3 ∨ j = 4 ∨ j = 5 ∨ j = 6 ∨ j = 7 := by omega
  rcases this with rfl | rfl | rfl | rfl | rfl | rfl | rfl | rfl
  · exact ⟨[], sort_ints (ns := []) (by decide) (by decide) (by decide), by decide, by decide, by decide, by decide, by decide⟩
  · exact ⟨[0], sort_ints (ns := [0]) (by decide) (by decide) (by decide), by decide, by decide, by decide, by decide, by decide⟩
  · exact ⟨[0, 9], sort_ints (ns := [0, 9]) (by decide) (by decide) (by decide), by decide, by decide, by decide, by decide, by decide⟩
  · exact ⟨[0, 9, 10], sort_ints (ns := [0, 9, 10]) (by decide) (by decide) (by decide), by decide, by decide, by decide, by decide, by decide⟩
  · exact ⟨[0, 3, 9, 10], sort_ints (ns := [0, 9, 10, 3]) (by decide) (by decide) (by decide), by decide, by decide, by decide, by decide, by decide⟩
  · exact ⟨[0, 3, 9, 10, 100], sort_ints (ns := [0, 9, 10, 3, 100]) (by decide) (by decide) (by decide), by decide, by decide, by decide, by decide, by decide⟩
  · exact ⟨[0, 3, 9, 10, 11, 100], sort_ints (ns := [0, 9, 10, 3, 100, 11]) (by decide) (by decide) (by decide), by decide, by decide, by decide, by decide, by decide⟩
  · exact ⟨[0, 2, 3, 9, 10, 11, 100], sort_ints (ns := [0, 9, 10, 3, 100, 11, 2]) (by decide) (by decide) (by decide), by decide, by decide, by decide, by decide, by decide⟩
/-- what stands while the hands are gone through: the locks left, what is held -/
structure Mid (hs rs : List Int) (W : List Hd) : Prop where
  left : rs.Nodup
  low : ∀ l ∈ rs, 0 ≤ l ∧ l < 555
  some_ : 0 < rs.length
  ten : rs.length ≤ 10
  hands : W.map (·.1) = hs
  locks : (W.flatMap (·.2)).Nodup
  at_ : ∀ l ∈ W.flatMap (·.2), (0 ≤ l ∧ l < 555 ∧ l ∉ rs) ∨ ∃ h ∈ hs, l = 555 + h
  lks : (W.flatMap (·.2)).length ≤ 2 * W.length
  nn : ∀ h ∈ hs, 0 ≤ h
  ten2 : ∀ l ∈ rs, l ∈ L10
  at2 : ∀ l ∈ W.flatMap (·.2), l ∈ L10 ∨ ∃ h ∈ hs, l = 555 + h
/-- what a hand took so far -/
structure Took (h : Int) (rs : List Int) (W : List Hd) (H : List Int) : Prop where
  at_ : ∀ l ∈ H, l = 555 + h ∨ (0 ≤ l ∧ l < 555 ∧ l ∉ rs ∧ l ∉ W.flatMap (·.2))
  at2 : ∀ l ∈ H, l = 555 + h ∨ l ∈ L10
theorem erase_mem {rs : List Int} (hn : rs.Nodup) {j : Nat} {l : Int} (e : rs[j]? = some l) : l ∉ rs.eraseIdx j ∧ (rs.eraseIdx j).Nodup ∧ (∀ x ∈ rs.eraseIdx j, x ∈ rs) ∧ (rs.eraseIdx j).length + 1 = rs.length := by
  induction rs generalizing j with
  | nil => simp at e
  | cons x rs ih =>
    rw [List.nodup_cons] at hn
    cases j with
    | zero =>
      simp at e
      subst e
      exact ⟨hn.1, hn.2, fun y m => List.mem_cons_of_mem _ m, rfl⟩
    | succ j =>
      obtain ⟨h1, h2, h3, h4⟩ := ih hn.2 (j := j) (by simpa using e)
      have ml : l ∈ rs := List.mem_of_getElem? (by simpa using e)
      rw [List.eraseIdx_cons_succ]
      refine ⟨fun m => ?_, List.nodup_cons.mpr ⟨fun m => hn.1 (h3 _ m), h2⟩, fun y m => ?_, by rw [List.length_cons, List.length_cons, h4]⟩
      · rcases List.mem_cons.mp m with rfl | m
        · exact hn.1 ml
        · exact h1 m
      · rcases List.mem_cons.mp m with rfl | m
        · exact List.mem_cons_self ..
        · exact List.mem_cons_of_mem _ (h3 _ m)
theorem erase_map {α β : Type} (f : α → β) : ∀ (xs : List α) (j : Nat), (xs.map f).eraseIdx j = (xs.eraseIdx j).map f
  | [], _ => rfl
  | _ :: _, 0 => rfl
  | x :: xs, j + 1 => by rw [List.map_cons, List.eraseIdx_cons_succ, List.eraseIdx_cons_succ, List.map_cons, erase_map f xs j]
theorem nums_of (l : List Int) : ssetF [.d (.list (l.map .int))] = (if l.length < 64 then some (.lst ((upI l).map .int)) else none) := by
  show (numsD (l.map PyData.int)).bind _ = _
  rw [nums_ints]; rfl
theorem up_nodup (l : List Int) : (upI l).Nodup := (up_upI l).imp fun h => by omega
theorem Mid.step {hs rs : List Int} {W : List Hd} {h : Int} {H : List Int} (m : Mid hs rs W) (t : Took h rs W H) (h0 : 0 ≤ h) (hn : h ∉ hs) (h2 : H.length ≤ 2) : Mid (hs ++ [h]) rs (W ++ [(h, upI H)]) := by
  have fm : (W ++ [(h, upI H)]).flatMap (·.2) = W.flatMap (·.2) ++ upI H := by rw [List.flatMap_append]; simp
  refine ⟨m.left, m.low, m.some_, m.ten, by rw [List.map_append, m.hands]; rfl, ?_, ?_, ?_, fun x mx => (List.mem_append.mp mx).elim (m.nn x) fun z => by rw [List.mem_singleton] at z; omega, m.ten2, ?_⟩
  · rw [fm, List.nodup_append]
    refine ⟨m.locks, up_nodup H, fun x mx y my e => ?_⟩
    subst e
    have my := mem_upI.mp my
    rcases t.at_ x my with e | ⟨_, _, _, e⟩
    · rcases m.at_ x mx with ⟨_, z, _⟩ | ⟨h', mh, e2⟩
      · omega
      · have : h = h' := by omega
        subst this; exact hn mh
    · exact e mx
  · rw [fm]
    intro l ml
    rcases List.mem_append.mp ml with ml | ml
    · rcases m.at_ l ml with z | ⟨h', mh, e⟩
      · exact .inl z
      · exact .inr ⟨h', List.mem_append_left _ mh, e⟩
    · rcases t.at_ l (mem_upI.mp ml) with e | ⟨a, b, c, _⟩
      · exact .inr ⟨h, List.mem_append_right _ (List.mem_singleton.mpr rfl), e⟩
      · exact .inl ⟨a, b, c⟩
  · rw [fm, List.length_append, List.length_append, List.length_singleton]
    have := m.lks
    have := len_upI (ns := H)
    omega
  · rw [fm]
    intro l ml
    rcases List.mem_append.mp ml with ml | ml
    · rcases m.at2 l ml with z | ⟨h', mh, e⟩
      · exact .inl z
      · exact .inr ⟨h', List.mem_append_left _ mh, e⟩
    · rcases t.at2 l (mem_upI.mp ml) with e | e
      · exact .inr ⟨h, List.mem_append_right _ (List.mem_singleton.mpr rfl), e⟩
      · exact .inl e
theorem Mid.held {hs rs : List Int} {W : List Hd} (m : Mid hs rs W) (hn : hs.Nodup) (h7 : hs.length ≤ 7) (hb : ∀ h ∈ hs, 0 ≤ h ∧ h ≤ 100) (h7' : ∀ h ∈ hs, h ∈ H7) (hu : hs.Pairwise (· < ·)) : Held W := by
  have hl : W.length ≤ 7 := by rw [← m.hands, List.length_map] at h7; exact h7
  refine ⟨hl, by rw [m.hands]; exact hn, m.locks, fun w mw => ?_, by have := m.lks; omega, fun l ml => l18_of ((m.at2 l ml).imp id fun ⟨h, mh, e⟩ => ⟨h, h7' h mh, e⟩), by rw [m.hands]; exact hu⟩
  have h1 := hb w.1 (by rw [← m.hands]; exact List.mem_map.mpr ⟨w, mw, rfl⟩)
  refine ⟨h1.1, by omega, fun l ml => ?_⟩
  rcases m.at_ l (List.mem_flatMap.mpr ⟨w, mw, ml⟩) with z | ⟨h, mh, e⟩
  · omega
  · have := hb h mh; omega
end V41
set_option Elab.async false
set_option linter.all false
set_option maxRecDepth 100000
set_option maxHeartbeats 1000000
set_option autoImplicit false
namespace V41
open PySem PySem.Spec PyProof.Rows L2 DL
local macro_rules | `(tactic| pv_short) => `(tactic| repeat first | refine Exists.intro _ (And.intro rfl ?_) | refine ifT rfl ?_ | refine ifF rfl ?_ | refine Exists.intro _ (And.intro (if_pos (by first | assumption | decide | exact ⟨by assumption, by decide⟩ | exact ⟨by assumption, by assumption⟩)) ?_) | refine And.intro (show List.length _ ≤ sizeLine from Nat.le_of_ble_eq_true rfl) ?_ | refine And.intro (Nat.le_of_ble_eq_true rfl) ?_)
abbrev wtE (mm : Int) (ds : List PyData) (hsD : PyData) (rs : List Int) (W : List Hd) (s5 s6 s7 s8 : Option Sl) : SEnv :=
  [some (.o true (.l ds)), some (.d (.int mm)), some (.d hsD), some (.o false (.l (rs.map .int))), some (.o false (.l (W.map hdD))), s5, s6, s7, s8, none]
theorem log_few {m : Int} (h0 : 0 < m) (h : m ≤ 1000) : m.natAbs.log2 < 9000 := by
  have h1 : m.natAbs < 2 ^ 1920 := Nat.lt_of_le_of_lt (m := 1000) (by omega) (by decide +kernel)
  have := log_lt h1
  omega
section
variable {mm : Int} {e : DEnds} {ds : List PyData} {hsD : PyData} {hs rs : List Int} {W : List Hd} {h : Int} {H : List Int}
theorem waits_7 {s7 : Option Sl} {j : Int} (m : Mid hs rs W) (t : Took h rs W H) (h0 : 0 ≤ h) (hH : H.length < 3) (j0 : 0 ≤ j) (j1 : j < rs.length) (k : ∀ (rs' : List Int) (l : Int), Mid hs rs' W → Took h rs' W (H ++ [l]) → e.nx (wtE mm ds hsD rs' W (some (.d (.int h))) (some (.o false (.l ((H ++ [l]).map .int)))) s7 (some (.d (.int j))))) :
    t_waits_7 C_pick e (wtE mm ds hsD rs W (some (.d (.int h))) (some (.o false (.l (H.map .int)))) s7 (some (.d (.int j)))) := by
  have hlen : (H.map PyData.int).length < sizeLine := by
    rw [List.length_map]; exact Nat.lt_trans hH (by decide)
  have ha : ∀ l : Int, (H.map PyData.int) ++ [.int l] = (H ++ [l]).map .int := fun l => by rw [List.map_append]; rfl
  unfold t_waits_7 x_waits_6
  pv_short
  by_cases h2 : (1 : Int) < ((rs.map PyData.int).length : Nat)
  · refine ifT (decide_eq_true h2) ?_
    pv_short
    obtain ⟨i, rfl⟩ := Int.eq_ofNat_of_zero_le j0
    have hi : i < rs.length := by omega
    have e1 : ixN (rs.map PyData.int).length (i : Int) = some i := by
      unfold ixN
      rw [List.length_map, if_pos (by omega), if_pos (by omega)]
      rfl
    have e2 : (rs.map PyData.int)[i]? = some (.int rs[i]) := by rw [List.getElem?_map, List.getElem?_eq_getElem hi]; rfl
    have hten := m.ten
    refine And.intro ⟨by omega, by omega⟩ ?_
    refine Exists.intro _ (And.intro e1 ?_)
    refine Exists.intro _ (And.intro e2 ?_)
    pv_short
    refine And.intro hlen ?_
    pv_short
    obtain ⟨g1, g2, g3, g4⟩ := erase_mem m.left (List.getElem?_eq_getElem hi)
    rw [List.length_map] at h2
    have key := k (rs.eraseIdx i) rs[i] ⟨g2, fun l ml => m.low l (g3 l ml), by omega, by omega, m.hands, m.locks, fun l ml => ?_, m.lks, m.nn, fun l ml => m.ten2 l (g3 l ml), m.at2⟩ ⟨fun l ml => ?_, fun l ml => (List.mem_append.mp ml).elim (t.at2 l) fun ml => .inr (by rw [List.mem_singleton] at ml; subst ml; exact m.ten2 _ (List.getElem_mem hi))⟩
    · unfold wtE at key
      rw [← ha, ← erase_map] at key
      exact key
    · rcases m.at_ l ml with ⟨a, b, c⟩ | z
      · exact .inl ⟨a, b, fun x => c (g3 l x)⟩
      · exact .inr z
    · rcases List.mem_append.mp ml with ml | ml
      · rcases t.at_ l ml with z | ⟨a, b, c, d⟩
        · exact .inl z
        · exact .inr ⟨a, b, fun x => c (g3 l x), d⟩
      · rw [List.mem_singleton] at ml
        subst ml
        have mr : rs[i] ∈ rs := List.getElem_mem hi
        have lo := m.low _ mr
        refine .inr ⟨lo.1, lo.2, g1, fun x => ?_⟩
        rcases m.at_ _ x with ⟨_, _, c⟩ | ⟨h', _, c⟩
        · exact c mr
        · have := m.nn h' (by assumption); omega
  · refine ifF (decide_eq_false h2) ?_
    pv_short
    refine And.intro hlen ?_
    pv_short
    have key := k rs (555 + h) m ⟨fun l ml => ?_, fun l ml => (List.mem_append.mp ml).elim (t.at2 l) fun ml => .inl (by rw [List.mem_singleton] at ml; exact ml)⟩
    · rw [← ha] at key
      exact key
    · rcases List.mem_append.mp ml with ml | ml
      · exact t.at_ l ml
      · rw [List.mem_singleton] at ml; exact .inl ml
theorem waits_5 {s7 s8 : Option Sl} (m : Mid hs rs W) (t : Took h rs W H) (hT : Tp ds) (h0 : 0 ≤ h) (hn : h ∉ hs) (hH : H.length ≤ 2) (h7 : W.length ≤ 8) (k : ∀ s6, Mid (hs ++ [h]) rs (W ++ [(h, upI H)]) → e.nx (wtE mm ds hsD rs (W ++ [(h, upI H)]) (some (.d (.int h))) s6 s7 s8)) :
    t_waits_5 C_pick e (wtE mm ds hsD rs W (some (.d (.int h))) (some (.o false (.l (H.map .int)))) s7 s8) := by
  have key := k (some (.o false (.l (H.map .int)))) (m.step t h0 hn hH)
  unfold t_waits_5
  pv_short
  refine Exists.intro _ (And.intro ((nums_of H).trans (if_pos (by omega))) ?_)
  pv_short
  refine And.intro (show (W.map hdD).length < sizeLine by rw [List.length_map]; exact Nat.lt_of_le_of_lt h7 (by decide)) ?_
  pv_short
  unfold wtE at key
  rw [List.map_append] at key
  exact key
theorem waits_10 {s6 s7 s8 : Option Sl} (m : Mid hs rs W) (hT : Tp ds) (h0 : 0 ≤ h) (hn : h ∉ hs) (h7 : W.length ≤ 8) (k : ∀ (ds' : List PyData) (rs' : List Int) (H : List Int) s6 s7 s8, Tp ds' → Mid (hs ++ [h]) rs' (W ++ [(h, upI H)]) → e.nx (wtE mm ds' hsD rs' (W ++ [(h, upI H)]) (some (.d (.int h))) s6 s7 s8)) :
    t_waits_10 C_pick e (wtE mm ds hsD rs W (some (.d (.int h))) s6 s7 s8) := by
  unfold t_waits_10 t_waits_9
  pv_short
  refine pick_at (m := 3) hT (by decide) (by decide) rfl (fun Q h => by pv_short; exact h) fun ds1 j hT1 j0 j1 => ?_
  pv_short
  refine And.intro ⟨by show (-2 ^ 62 : Int) ≤ 0; decide, by show (0 : Int) < 2 ^ 62; decide, by show (-2 ^ 62 : Int) ≤ j; omega, by show j < 2 ^ 62; omega⟩ ?_
  refine for_of (g := fun i : Nat => .int (0 + (i : Int))) (xs := List.range (j - 0).toNat) (fun pre δ => ∃ ds' rs' H s7 s8, δ = wtE mm ds' hsD rs' W (some (.d (.int h))) (some (.o false (.l (H.map .int)))) s7 s8 ∧ Tp ds' ∧ Mid hs rs' W ∧ Took h rs' W H ∧ H.length = pre.length) ?_ ?_ ⟨ds1, rs, [], s7, s8, rfl, hT1, m, ⟨(fun _ z => by cases z), (fun _ z => by cases z)⟩, rfl⟩
  · rintro δ ⟨ds', rs', H, s7, s8, rfl, hT', m', t', hl⟩
    rw [List.length_range] at hl
    exact waits_5 m' t' hT' h0 hn (by omega) h7 fun s6 mm => k ds' rs' H s6 s7 s8 hT' mm
  · rintro pre i post δ Q eR ⟨ds', rs', H, s7, s8, rfl, hT', m', t', hl⟩ hQ
    have hp : pre.length < 3 := by
      have := congrArg List.length eR
      rw [List.length_range, List.length_append, List.length_cons] at this
      omega
    unfold t_waits_8
    pv_short
    have l0 : (0 : Int) < ((rs'.map PyData.int).length : Nat) := by rw [List.length_map]; have := m'.some_; omega
    have l1 : ((rs'.map PyData.int).length : Int) ≤ 1000 := by rw [List.length_map]; have := m'.ten; omega
    refine pick_at (m := ((rs'.map PyData.int).length : Nat)) hT' l0 (log_few l0 l1) rfl (fun Q h => by pv_short; exact h) fun ds2 j2 hT2 k0 k1 => ?_
    rw [List.length_map] at k1
    pv_short
    refine waits_7 m' t' h0 (by omega) k0 k1 fun rs3 l m3 t3 => ?_
    exact hQ _ ⟨ds2, rs3, H ++ [l], _, _, rfl, hT2, m3, t3, by rw [List.length_append, List.length_append, hl]; rfl⟩
abbrev wfE (mm : Int) (ds : List PyData) (hsD : PyData) (s3 : Option Sl) (W : List Hd) (s5 s6 s7 s8 : Option Sl) (X : List Int) : SEnv :=
  [some (.o true (.l ds)), some (.d (.int mm)), some (.d hsD), s3, some (.d (.list (W.map hdD))), s5, s6, s7, s8, some (.o false (.l (X.map .int)))]
theorem waits_4 {s5 s6 s7 s8 : Option Sl} (hw : Held W) (k : ∀ (δ : SEnv), (∃ c5 c6, δ = wfE mm ds hsD (some (.o false (.l (rs.map .int)))) W c5 c6 s7 s8 (W.flatMap (·.2))) → t_waits_1 C_pick e δ) :
    t_waits_4 C_pick e (wtE mm ds hsD rs W s5 s6 s7 s8) := by
  unfold t_waits_4 t_waits_3
  pv_short
  refine for_of (g := hdD) (xs := W) (fun pre δ => ∃ c5 c6, δ = wfE mm ds hsD (some (.o false (.l (rs.map .int)))) W c5 c6 s7 s8 (pre.flatMap (·.2))) ?_ ?_ ⟨_, _, rfl⟩
  · rintro δ ⟨c5, c6, rfl⟩
    exact k _ ⟨c5, c6, rfl⟩
  · rintro pre ⟨h, ls⟩ post δ Q eR ⟨c5, c6, rfl⟩ hQ
    have hl : (pre.flatMap (·.2)).length + ls.length ≤ 14 := by
      have := hw.lks
      rw [eR, List.flatMap_append, List.flatMap_cons, List.length_append, List.length_append] at this
      have e : ((h, ls) : Hd).snd.length = ls.length := rfl
      omega
    unfold t_waits_2
    pv_short
    refine And.intro (show ((pre.flatMap (·.2)).map PyData.int).length + (ls.map PyData.int).length ≤ sizeLine by rw [List.length_map, List.length_map]; exact Nat.le_trans hl (by decide)) ?_
    pv_short
    refine hQ _ ⟨some (.d (.int h)), some (.d (.tuple (ls.map .int))), ?_⟩
    unfold wfE
    rw [List.flatMap_append, List.map_append]
    simp only [List.flatMap_cons, List.flatMap_nil, List.append_nil]
    rfl
end
def C_waits : FSpec := Ct (fun ss => ∃ ds mm, ss = [.o true (.l ds), .d (.int mm)] ∧ Tp ds ∧ 0 ≤ mm ∧ mm ≤ 7) fun ss r ss' => ∃ (ds ds' : List PyData) (mm : Int) (W : List Hd), ss = [.o true (.l ds), .d (.int mm)] ∧ ss' = [.o true (.l ds'), .d (.int mm)] ∧ Tp ds' ∧ Held W ∧ r = .n (.tp [.d (.list (W.map hdD)), .d (.list ((W.flatMap (·.2)).map .int)), .l []])
theorem waits_ok (ss : List Sl) (Ex : XP) (P : R → List Sl → Prop) (h : C_waits ss Ex P) : fnW 2 10 (w_waits C_pick) ss Ex P := by
  obtain ⟨⟨ds, mm, rfl, hT, hm0, hm7⟩, k⟩ := h
  have kk := fun ds' W hT' hw => k _ _ ⟨ds, ds', mm, W, rfl, rfl, hT', hw, rfl⟩
  clear k
  refine And.intro rfl ?_
  rw [w_waits_eq]
  unfold t_waits_14
  pv_short
  refine pick_at (m := mm + 1) hT (by omega) (log_few (by omega) (by omega)) rfl (fun Q h => by pv_short; exact h) fun ds1 j hT1 j0 j1 => ?_
  obtain ⟨hs, es, h1, h2, h3, h37, hu⟩ := hands_ok j0 (by omega)
  pv_short
  refine Exists.intro _ (And.intro es ?_)
  pv_short
  unfold t_waits_13 t_waits_12 t_waits_11
  pv_short
  refine for_of (g := PyData.int) (xs := hs) (fun pre δ => ∃ ds' rs W s5 s6 s7 s8, δ = wtE mm ds' (.list (hs.map .int)) rs W s5 s6 s7 s8 ∧ Tp ds' ∧ Mid pre rs W) ?_ ?_ ⟨ds1, [0, 1, 9, 10, 11, 99, 100, 7, 5, 40], [], none, none, none, none, rfl, hT1, ⟨by decide, by decide, by decide, by decide, rfl, List.nodup_nil, (fun _ z => by cases z), by decide, (fun _ z => by cases z), by decide, (fun _ z => by cases z)⟩⟩
  · rintro δ ⟨ds', rs, W, s5, s6, s7, s8, rfl, hT', m⟩
    refine waits_4 (m.held h1 h2 h3 h37 hu) ?_
    rintro δ ⟨c5, c6, rfl⟩
    unfold t_waits_1
    pv_short
    exact kk ds' W hT' (m.held h1 h2 h3 h37 hu)
  · rintro pre h post δ Q eR ⟨ds', rs, W, s5, s6, s7, s8, rfl, hT', m⟩ hQ
    have hn : h ∉ pre := by
      rw [eR, List.nodup_append] at h1
      exact fun z => h1.2.2 h z h (List.mem_cons_self ..) rfl
    have h0 : 0 ≤ h := (h3 h (by rw [eR]; exact List.mem_append_right _ (List.mem_cons_self ..))).1
    have hl : W.length ≤ 8 := by
      have e1 := congrArg List.length m.hands
      rw [List.length_map] at e1
      rw [eR, List.length_append] at h2
      omega
    pv_short
    exact waits_10 m hT' h0 hn hl fun ds2 rs2 H s6 s7 s8 hT2 m2 => hQ _ ⟨ds2, rs2, _, _, s6, s7, s8, rfl, hT2, m2⟩
end V41
set_option Elab.async false
set_option linter.all false
set_option maxRecDepth 100000
set_option maxHeartbeats 1000000
set_option autoImplicit false
namespace V41
open PySem PySem.Spec PyProof.Rows L2 DL
local macro_rules | `(tactic| pv_short) => `(tactic| repeat first | refine Exists.intro _ (And.intro rfl ?_) | refine ifT rfl ?_ | refine ifF rfl ?_ | refine Exists.intro _ (And.intro (if_pos (by first | assumption | decide | exact ⟨by assumption, by decide⟩ | exact ⟨by assumption, by assumption⟩)) ?_) | refine And.intro (show List.length _ ≤ sizeLine from Nat.le_of_ble_eq_true rfl) ?_ | refine And.intro (Nat.le_of_ble_eq_true rfl) ?_)
/-! ### _law_wanting -/
structure Low (R : List Rw) : Prop where
  low : ∀ l ∈ R.flatMap (·.hs), l < 1000
  few : (R.flatMap (·.hs)).length ≤ 14
  up : (R.map (·.h)).Pairwise (· < ·)
structure Gets (pre : List Hd) (R : List Rw) : Prop where
  hands : R.map (·.h) = pre.map (·.1)
  locks : R.map (·.hs) = pre.map (·.2)
  wants : ∀ r ∈ R, ∀ v, r.w = some v → 0 ≤ v ∧ v < 8192
theorem flat_of {α : Type} (f : α → List Int) (l : List α) : l.flatMap f = (l.map f).flatten := by
  induction l with
  | nil => rfl
  | cons x l ih => rw [List.flatMap_cons, List.map_cons, List.flatten_cons, ih]
theorem Gets.good {W : List Hd} {R : List Rw} (g : Gets W R) (hw : Held W) : Good R ∧ Low R := by
  have ef : R.flatMap (·.hs) = W.flatMap (·.2) := by rw [flat_of, flat_of, g.locks]
  have el : R.length = W.length := by have := congrArg List.length g.hands; simpa using this
  have get : ∀ r ∈ R, ∃ w ∈ W, w.1 = r.h := fun r m => by
    have : r.h ∈ W.map (·.1) := by rw [← g.hands]; exact List.mem_map.mpr ⟨r, m, rfl⟩
    obtain ⟨w, mw, e⟩ := List.mem_map.mp this
    exact ⟨w, mw, e⟩
  have lo : ∀ l ∈ R.flatMap (·.hs), 0 ≤ l ∧ l < 1000 := fun l m => by
    rw [ef] at m
    obtain ⟨w, mw, ml⟩ := List.mem_flatMap.mp m
    exact (hw.big w mw).2.2 l ml
  have h14 := hw.lks
  rw [← ef] at h14
  refine ⟨⟨by have := hw.few; omega, by rw [g.hands]; exact hw.hands, by rw [ef]; exact hw.locks, fun r m => ?_, by omega, fun r m => ⟨fun l ml => ?_, g.wants r m⟩⟩, fun l m => (lo l m).2, h14, by rw [g.hands]; exact hw.up⟩
  · obtain ⟨w, mw, e⟩ := get r m
    rw [← e]
    exact ⟨(hw.big w mw).1, (hw.big w mw).2.1⟩
  · have := lo l (List.mem_flatMap.mpr ⟨r, m, ml⟩); omega
abbrev wnE (mm : Int) (ds : List PyData) (W : List Hd) (X : List Int) (R : List Rw) (s5 s6 s7 : Option Sl) : SEnv :=
  [some (.o true (.l ds)), some (.d (.int mm)), some (.d (.list (W.map hdD))), some (.d (.list (X.map .int))), some (.o false (.l (R.map rowD))), s5, s6, s7]
section
variable {mm : Int} {e : DEnds} {ds : List PyData} {W pre : List Hd} {X ls : List Int} {R : List Rw} {h : Int}
theorem want_2 {w : Option Int} (g : Gets pre R) (hl : R.length ≤ 8) (hb : ∀ v, w = some v → 0 ≤ v ∧ v < 8192) (k : ∀ R' s5 s6 s7, Gets (pre ++ [(h, ls)]) R' → e.nx (wnE mm ds W X R' s5 s6 s7)) :
    t_wanting_2 C_pick C_waits e (wnE mm ds W X R (some (.d (.int h))) (some (.d (.tuple (ls.map .int)))) (some (.d (wD w)))) := by
  have key := k (R ++ [⟨h, ls, w⟩]) (some (.d (.int h))) (some (.d (.tuple (ls.map .int)))) (some (.d (wD w))) ⟨by rw [List.map_append, g.hands, List.map_append]; rfl, by rw [List.map_append, g.locks, List.map_append]; rfl, fun r m => ?_⟩
  · unfold t_wanting_2
    pv_short
    refine And.intro (show (R.map rowD).length < sizeLine by rw [List.length_map]; exact Nat.lt_of_le_of_lt hl (by decide)) ?_
    pv_short
    unfold wnE at key
    rw [List.map_append] at key
    exact key
  · rcases List.mem_append.mp m with m | m
    · exact g.wants r m
    · rw [List.mem_singleton] at m; subst m; exact hb
theorem want_5 (g : Gets pre R) (hl : R.length ≤ 8) (hT : Tp ds) (hX : ∀ v ∈ X, 0 ≤ v ∧ v < 8192) (hX2 : X.length ≤ 14) (k : ∀ ds' R' s5 s6 s7, Tp ds' → Gets (pre ++ [(h, ls)]) R' → e.nx (wnE mm ds' W X R' s5 s6 s7)) :
    t_wanting_5 C_pick C_waits e (wnE mm ds W X R (some (.d (.int h))) (some (.d (.tuple (ls.map .int)))) (some (.d (.list (X.map .int))))) := by
  unfold t_wanting_5
  pv_short
  unfold t_wanting_4 x_wanting_3
  pv_short
  refine Exists.intro _ (And.intro (eq_shaped (neg := true) (d := .list (X.map .int)) (e := .list []) (ints_shaped X) (by rfl)) ?_)
  pv_short
  cases X with
  | nil =>
    pv_short
    exact want_2 (w := none) g hl (fun _ z => by cases z) fun R' s5 s6 s7 g' => k ds R' s5 s6 s7 hT g'
  | cons x X =>
    refine ifT (by simp [PyData.eqv, PyData.eqvAll]) ?_
    pv_short
    have l0 : (0 : Int) < ((((x :: X).map PyData.int).length : Nat) : Int) := by rw [List.length_map, List.length_cons]; omega
    have l1 : ((((x :: X).map PyData.int).length : Nat) : Int) ≤ 1000 := by rw [List.length_map]; omega
    refine pick_at (m := (((x :: X).map PyData.int).length : Nat)) hT l0 (log_few l0 l1) rfl (fun Q h => by pv_short; exact h) fun ds2 j hT2 k0 k1 => ?_
    obtain ⟨d, ed, md⟩ := atI_ok k0 k1
    obtain ⟨v, mv, rfl⟩ := List.mem_map.mp md
    pv_short
    refine Exists.intro _ (And.intro (show (atI ((x :: X).map PyData.int) j).map Rv.val = some (.val (.int v)) by rw [ed]; rfl) ?_)
    pv_short
    exact want_2 (w := some v) g hl (fun _ z => by cases z; exact hX v mv) fun R' s5 s6 s7 g' => k ds2 R' s5 s6 s7 hT2 g'
theorem want_6 {s7 : Option Sl} (g : Gets pre R) (hl : R.length ≤ 8) (hT : Tp ds) (hX : ∀ v ∈ X, 0 ≤ v ∧ v < 8192) (hX2 : X.length ≤ 14) (k : ∀ ds' R' s5 s6 s7, Tp ds' → Gets (pre ++ [(h, ls)]) R' → e.nx (wnE mm ds' W X R' s5 s6 s7)) :
    t_wanting_6 C_pick C_waits e (wnE mm ds W X R (some (.d (.int h))) (some (.d (.tuple (ls.map .int)))) s7) := by
  unfold t_wanting_6
  pv_short
  refine pick_at (m := 5) hT (by decide) (by decide) rfl (fun Q h => by pv_short; exact h) fun ds1 j hT1 j0 j1 => ?_
  have : j = 0 ∨ j = 1 ∨ j = 2 ∨ j = 3 ∨ j = 4 := by omega
  rcases this with rfl | rfl | rfl | rfl | rfl
  · pv_short
    unfold t_wanting_5
    pv_short
    exact want_2 (w := none) g hl (fun _ z => by cases z) fun R' s5 s6 s7 g' => k ds1 R' s5 s6 s7 hT1 g'
  · pv_short
    unfold t_wanting_5
    pv_short
    exact want_2 (w := some 77) g hl (fun _ z => by cases z; decide) fun R' s5 s6 s7 g' => k ds1 R' s5 s6 s7 hT1 g'
  · pv_short
    exact want_5 g hl hT1 hX hX2 k
  · pv_short
    exact want_5 g hl hT1 hX hX2 k
  · pv_short
    exact want_5 g hl hT1 hX hX2 k
end
def C_wanting : FSpec := Ct (fun ss => ∃ ds mm, ss = [.o true (.l ds), .d (.int mm)] ∧ Tp ds ∧ 0 ≤ mm ∧ mm ≤ 7) fun ss r ss' => ∃ (ds ds' : List PyData) (mm : Int) (R : List Rw), ss = [.o true (.l ds), .d (.int mm)] ∧ ss' = [.o true (.l ds'), .d (.int mm)] ∧ Tp ds' ∧ Good R ∧ Low R ∧ r = .d (.tuple (R.map rowD))
theorem wanting_ok (ss : List Sl) (Ex : XP) (P : R → List Sl → Prop) (h : C_wanting ss Ex P) : fnW 2 8 (w_wanting C_pick C_waits) ss Ex P := by
  obtain ⟨⟨ds, mm, rfl, hT, hm0, hm7⟩, k⟩ := h
  have kk := fun ds' R hT' hg hl => k _ _ ⟨ds, ds', mm, R, rfl, rfl, hT', hg, hl, rfl⟩
  clear k
  refine And.intro rfl ?_
  rw [w_wanting_eq]
  unfold t_wanting_8
  refine call_od (i := 0) (b := true) (c := .l ds) (d := .int mm) rfl rfl (fun Q h => by pv_short; exact h) ⟨ds, mm, rfl, hT, hm0, hm7⟩ fun r ss' ⟨ds0, ds1, mm', W, e0, e1, hT1, hw, e3⟩ => ⟨_, (by injection e0 with _ z; injection z with z _; injection z with z; injection z with z; subst z; exact e1), rfl, ?_⟩
  subst e3
  pv_short
  unfold t_wanting_7
  pv_short
  have hX : ∀ v ∈ W.flatMap (·.2), 0 ≤ v ∧ v < 8192 := fun v m => by
    obtain ⟨w, mw, ml⟩ := List.mem_flatMap.mp m
    have := (hw.big w mw).2.2 v ml
    omega
  refine for_of (g := hdD) (xs := W) (fun pre δ => ∃ ds' R s5 s6 s7, δ = wnE mm ds' W (W.flatMap (·.2)) R s5 s6 s7 ∧ Tp ds' ∧ Gets pre R) ?_ ?_ ⟨ds1, [], none, none, none, rfl, hT1, ⟨rfl, rfl, fun _ z => by cases z⟩⟩
  · rintro δ ⟨ds', R, s5, s6, s7, rfl, hT', g⟩
    unfold t_wanting_1
    pv_short
    exact kk ds' R hT' (g.good hw).1 (g.good hw).2
  · rintro pre ⟨h, ls⟩ post δ Q eR ⟨ds', R, s5, s6, s7, rfl, hT', g⟩ hQ
    have hl : R.length ≤ 8 := by
      have e1 := congrArg List.length g.hands
      rw [List.length_map, List.length_map] at e1
      have := hw.few
      rw [eR, List.length_append] at this
      omega
    pv_short
    exact want_6 g hl hT' hX hw.lks fun ds2 R2 s5 s6 s7 hT2 g2 => hQ _ ⟨ds2, R2, s5, s6, s7, rfl, hT2, g2⟩
end V41
set_option Elab.async false
set_option linter.all false
set_option maxRecDepth 100000
set_option maxHeartbeats 1000000
set_option autoImplicit false
namespace V41
open PySem PySem.Spec PyProof.Rows L2 DL
local macro_rules | `(tactic| pv_short) => `(tactic| repeat first | refine Exists.intro _ (And.intro rfl ?_) | refine ifT rfl ?_ | refine ifF rfl ?_ | refine Exists.intro _ (And.intro (if_pos (by first | assumption | decide | exact ⟨by assumption, by decide⟩ | exact ⟨by assumption, by assumption⟩)) ?_) | refine And.intro (show List.length _ ≤ sizeLine from Nat.le_of_ble_eq_true rfl) ?_ | refine And.intro (Nat.le_of_ble_eq_true rfl) ?_)
/-! ### _law_ringed -/
structure Rung (R : List Rw) (k : Nat) (S : List Rw) : Prop where
  hands : S.map (·.h) = (R.take k).map (·.h)
  nd : (S.flatMap (·.hs)).Nodup
  at_ : ∀ l ∈ S.flatMap (·.hs), l ∈ (R.take k).flatMap (·.hs) ∨ (1000 ≤ l ∧ l < 1000 + (k : Int))
  lks : (S.flatMap (·.hs)).length ≤ ((R.take k).flatMap (·.hs)).length + k
  sm : ∀ r ∈ S, (∀ l ∈ r.hs, 0 ≤ l ∧ l < 8192) ∧ ∀ v, r.w = some v → 0 ≤ v ∧ v < 8192
theorem take_next {R : List Rw} {k : Nat} {r : Rw} (e : R[k]? = some r) : R.take (k + 1) = R.take k ++ [r] := by
  rw [List.take_add_one, e]; rfl
theorem Rung.step {R : List Rw} {k : Nat} {S : List Rw} {r : Rw} (hg : Good R) (hl : Low R) (t : Rung R k S) (e : R[k]? = some r) (add : Bool) (w : Option Int) (hk : k < 8) (hw : ∀ v, w = some v → 0 ≤ v ∧ v < 8192) :
    Rung R (k + 1) (S ++ [⟨r.h, r.hs ++ (if add = true then [1000 + (0 + (k : Int))] else []), w⟩]) := by
  have et := take_next e
  have mr : r ∈ R := List.mem_of_getElem? e
  have fr : (R.take (k + 1)).flatMap (·.hs) = (R.take k).flatMap (·.hs) ++ r.hs := by rw [et, List.flatMap_append]; simp
  have nd : ((R.take (k + 1)).flatMap (·.hs)).Nodup := by
    have h1 := hg.locks
    rw [← List.take_append_drop (k + 1) R, List.flatMap_append, List.nodup_append] at h1
    exact h1.1
  rw [fr, List.nodup_append] at nd
  have fs : (S ++ [(⟨r.h, r.hs ++ (if add = true then [1000 + (0 + (k : Int))] else []), w⟩ : Rw)]).flatMap (·.hs) = S.flatMap (·.hs) ++ (r.hs ++ (if add = true then [1000 + (0 + (k : Int))] else [])) := by rw [List.flatMap_append]; simp
  have lo : ∀ l ∈ r.hs, l < 1000 := fun l m => hl.low l (List.mem_flatMap.mpr ⟨r, mr, m⟩)
  have lt : ∀ l ∈ (R.take k).flatMap (·.hs), l < 1000 := fun l m => by
    obtain ⟨r', m', ml⟩ := List.mem_flatMap.mp m
    exact hl.low l (List.mem_flatMap.mpr ⟨r', List.mem_of_mem_take m', ml⟩)
  have ad : ∀ l ∈ (if add = true then [1000 + (0 + (k : Int))] else []), l = 1000 + (k : Int) := fun l m => by
    cases add with
    | false => cases m
    | true => simp at m; omega
  refine ⟨by rw [List.map_append, t.hands, et, List.map_append]; rfl, ?_, ?_, ?_, ?_⟩
  · rw [fs, List.nodup_append]
    refine ⟨t.nd, ?_, fun x mx y my exy => ?_⟩
    · rw [List.nodup_append]
      refine ⟨nd.2.1, by cases add <;> simp, fun x mx y my exy => ?_⟩
      have := lo x mx
      have := ad y my
      omega
    · subst exy
      rcases List.mem_append.mp my with my | my
      · rcases t.at_ x mx with z | z
        · exact nd.2.2 x z x my rfl
        · have := lo x my; omega
      · have := ad x my
        rcases t.at_ x mx with z | z
        · have := lt x z; omega
        · omega
  · rw [fs, fr]
    intro l m
    rcases List.mem_append.mp m with m | m
    · rcases t.at_ l m with z | z
      · exact .inl (List.mem_append_left _ z)
      · exact .inr ⟨z.1, by omega⟩
    · rcases List.mem_append.mp m with m | m
      · exact .inl (List.mem_append_right _ m)
      · have := ad l m; exact .inr ⟨by omega, by omega⟩
  · rw [fs, fr]
    have : (if add = true then [1000 + (0 + (k : Int))] else []).length ≤ 1 := by cases add <;> simp
    have := t.lks
    simp only [List.length_append]
    omega
  · intro x m
    rcases List.mem_append.mp m with m | m
    · exact t.sm x m
    · rw [List.mem_singleton] at m
      subst m
      refine ⟨fun l ml => ?_, hw⟩
      rcases List.mem_append.mp ml with ml | ml
      · exact (hg.sm r mr).1 l ml
      · have := ad l ml; omega
theorem Rung.good {R S : List Rw} (hg : Good R) (hl : Low R) (t : Rung R R.length S) : Good S := by
  have e1 := t.hands
  have h2 := t.lks
  rw [List.take_length] at e1 h2
  have el : S.length = R.length := by have := congrArg List.length e1; simpa using this
  have := hg.few
  have := hl.few
  refine ⟨by omega, by rw [e1]; exact hg.hands, t.nd, fun r m => ?_, by omega, t.sm⟩
  have : r.h ∈ R.map (·.h) := by rw [← e1]; exact List.mem_map.mpr ⟨r, m, rfl⟩
  obtain ⟨r', m', e⟩ := List.mem_map.mp this
  rw [← e]; exact hg.big r' m'
theorem idx_row {R : List Rw} {k : Nat} {j : Int} {r : Rw} (e : R[k]? = some r) (ej : j = (k : Int)) : idxF (.d (.tuple (R.map rowD))) (.d (.int j)) = some (.val (rowD r)) := by
  subst ej
  show (atI (R.map rowD) (k : Int)).map Rv.val = _
  rw [atI_nat (v := rowD r) (by rw [List.getElem?_map, e]; rfl)]
  rfl
def C_ringed : FSpec := Ct (fun ss => ∃ (ds : List PyData) (R : List Rw), ss = [.o true (.l ds), .d (.tuple (R.map rowD))] ∧ Tp ds ∧ Good R ∧ Low R) fun ss r ss' => ∃ (ds ds' : List PyData) (R S : List Rw), ss = [.o true (.l ds), .d (.tuple (R.map rowD))] ∧ ss' = [.o true (.l ds'), .d (.tuple (R.map rowD))] ∧ Tp ds' ∧ Good S ∧ (S.flatMap (·.hs)).length ≤ 24 ∧ r = .d (.tuple (S.map rowD))
abbrev rnE (ds : List PyData) (R : List Rw) (M : Int) (S : List Rw) (s4 s5 s6 s7 : Option Sl) : SEnv :=
  [some (.o true (.l ds)), some (.d (.tuple (R.map rowD))), some (.d (.int M)), some (.o false (.l (S.map rowD))), s4, s5, s6, s7]
section
variable {e : DEnds} {ds : List PyData} {R S : List Rw} {M : Int} {k : Nat} {r : Rw}
theorem ringed_2 {s4 : Option Sl} {ls : List Int} {w : Option Int} (hl : S.length ≤ 8) (kk : ∀ s4 s5 s6 s7, e.nx (rnE ds R M (S ++ [⟨r.h, ls, w⟩]) s4 s5 s6 s7)) :
    t_ringed_2 C_pick e (rnE ds R M S s4 (some (.d (.int r.h))) (some (.d (.tuple (ls.map .int)))) (some (.d (wD w)))) := by
  have key := kk s4 (some (.d (.int r.h))) (some (.d (.tuple (ls.map .int)))) (some (.d (wD w)))
  unfold t_ringed_2
  pv_short
  refine And.intro (show (S.map rowD).length < sizeLine by rw [List.length_map]; exact Nat.lt_of_le_of_lt hl (by decide)) ?_
  pv_short
  unfold rnE at key
  rw [List.map_append] at key
  exact key
theorem ringed_5 {s5 s6 s7 : Option Sl} (hg : Good R) (hlo : Low R) (t : Rung R k S) (er : R[k]? = some r) (hk : k < 8) (h0 : 0 < M) (h1 : M ≤ 10) (kk : ∀ S' s4 s5 s6 s7, Rung R (k + 1) S' → e.nx (rnE ds R M S' s4 s5 s6 s7)) :
    t_ringed_5 C_pick e (rnE ds R M S (some (.d (.int (0 + (k : Int))))) s5 s6 s7) := by
  have hl : S.length ≤ 8 := by
    have e1 := congrArg List.length t.hands
    rw [List.length_map, List.length_map, List.length_take] at e1
    omega
  have mr : r ∈ R := List.mem_of_getElem? er
  unfold t_ringed_5
  pv_short
  refine Exists.intro _ (And.intro (idx_row er (by omega)) ?_)
  pv_short
  unfold t_ringed_4
  pv_short
  by_cases hM : (0 + (k : Int)) < M
  · refine ifT (decide_eq_true hM) ?_
    unfold t_ringed_3
    pv_short
    have hhs : r.hs.length ≤ 1000 := by
      have h2 := hg.lks
      have : (r.hs).length ≤ (R.flatMap (·.hs)).length := by
        rw [← List.take_append_drop (k + 1) R, take_next er, List.flatMap_append, List.flatMap_append]
        simp only [List.length_append, List.flatMap_cons, List.flatMap_nil, List.append_nil]
        omega
      omega
    refine Exists.intro _ (And.intro (if_pos (show (r.hs.map PyData.int).length + [PyData.int (1000 + (0 + (k : Int)))].length ≤ sizeLine by rw [List.length_map]; exact Nat.le_trans (m := 1001) (by simp; omega) (by decide))) ?_)
    pv_short
    have hm : 0 ≤ (0 + (k : Int) + 1) % M ∧ (0 + (k : Int) + 1) % M < M := ⟨mod_ge h0, mod_lt h0⟩
    have st := t.step hg hlo er true (some (1000 + (0 + (k : Int) + 1) % M)) hk (fun v z => by cases z; omega)
    have k2 := ringed_2 (e := e) (ds := ds) (R := R) (M := M) (r := r) (s4 := some (.d (.int (0 + (k : Int))))) (ls := r.hs ++ [1000 + (0 + (k : Int))]) (w := some (1000 + (0 + (k : Int) + 1) % M)) hl fun s4 s5 s6 s7 => kk _ s4 s5 s6 s7 st
    unfold rnE at k2
    rw [List.map_append] at k2
    exact k2
  · refine ifF (decide_eq_false hM) ?_
    pv_short
    have st := t.step hg hlo er false r.w hk ((hg.sm r mr).2)
    rw [show r.hs ++ (if false = true then [1000 + (0 + (k : Int))] else []) = r.hs from List.append_nil _] at st
    exact ringed_2 hl fun s4 s5 s6 s7 => kk _ s4 s5 s6 s7 st
end
theorem ringed_ok (ss : List Sl) (Ex : XP) (P : R → List Sl → Prop) (h : C_ringed ss Ex P) : fnW 2 8 (w_ringed C_pick) ss Ex P := by
  obtain ⟨⟨ds, R, rfl, hT, hg, hl⟩, k⟩ := h
  have kk := fun ds' S hT' hS hf => k _ _ ⟨ds, ds', R, S, rfl, rfl, hT', hS, hf, rfl⟩
  clear k
  have h8 := hg.few
  refine And.intro rfl ?_
  rw [w_ringed_eq]
  unfold t_ringed_8
  pv_short
  have hn : ((R.map rowD).length : Int) ≤ 8 := by rw [List.length_map]; omega
  refine pick_at (m := if (if (((R.map rowD).length : Nat) : Int) < 5 then (((R.map rowD).length : Nat) : Int) else 5) > 1 then (if (((R.map rowD).length : Nat) : Int) < 5 then (((R.map rowD).length : Nat) : Int) else 5) else 1) hT (by split <;> omega) (log_few (by split <;> omega) (by split <;> (try split) <;> omega)) rfl (fun Q h => by pv_short; exact h) fun ds1 j hT1 j0 j1 => ?_
  have hj : j < 8 := by revert j1; split <;> (try split) <;> omega
  pv_short
  unfold t_ringed_7 t_ringed_6
  pv_short
  refine And.intro ⟨by show (-2 ^ 62 : Int) ≤ 0; decide, by show (0 : Int) < 2 ^ 62; decide, by show (-2 ^ 62 : Int) ≤ (((R.map rowD).length : Nat) : Int); omega, by show (((R.map rowD).length : Nat) : Int) < 2 ^ 62; omega⟩ ?_
  refine for_of (g := fun i : Nat => .int (0 + (i : Int))) (xs := List.range ((((R.map rowD).length : Nat) : Int) - 0).toNat) (fun pre δ => ∃ S s4 s5 s6 s7, δ = rnE ds1 R (1 + j) S s4 s5 s6 s7 ∧ Rung R pre.length S) ?_ ?_ ⟨[], none, none, none, none, rfl, ⟨rfl, List.nodup_nil, (fun _ z => by cases z), by simp, (fun _ z => by cases z)⟩⟩
  · rintro δ ⟨S, s4, s5, s6, s7, rfl, t⟩
    rw [List.length_range, List.length_map, show ((R.length : Int) - 0).toNat = R.length by omega] at t
    unfold t_ringed_1
    pv_short
    exact kk ds1 S hT1 (t.good hg hl) (by have h1 := t.lks; have h2 := hl.few; rw [List.take_length] at h1; omega)
  · rintro pre i post δ Q eR ⟨S, s4, s5, s6, s7, rfl, t⟩ hQ
    have ei : i = pre.length ∧ i < R.length := by
      have h1 : (List.range ((((R.map rowD).length : Nat) : Int) - 0).toNat)[pre.length]? = some i := by rw [eR, List.getElem?_append_right (Nat.le_refl _), Nat.sub_self]; rfl
      obtain ⟨h2, h3⟩ := List.getElem?_eq_some_iff.mp h1
      rw [List.getElem_range] at h3
      rw [List.length_range, List.length_map] at h2
      omega
    obtain ⟨rfl, hi⟩ := ei
    pv_short
    refine ringed_5 hg hl t (List.getElem?_eq_getElem hi) (by omega) (by omega) (by omega) fun S' s4 s5 s6 s7 t' => hQ _ ⟨S', s4, s5, s6, s7, rfl, ?_⟩
    rw [List.length_append]
    exact t'
end V41
set_option Elab.async false
set_option linter.all false
set_option maxRecDepth 100000
set_option maxHeartbeats 1000000
set_option autoImplicit false
namespace V41
open PySem PySem.Spec PyProof.Rows L2 DL
local macro_rules | `(tactic| pv_short) => `(tactic| repeat first | refine Exists.intro _ (And.intro rfl ?_) | refine ifT rfl ?_ | refine ifF rfl ?_ | refine Exists.intro _ (And.intro (if_pos (by first | assumption | decide | exact ⟨by assumption, by decide⟩ | exact ⟨by assumption, by assumption⟩)) ?_) | refine And.intro (show List.length _ ≤ sizeLine from Nat.le_of_ble_eq_true rfl) ?_ | refine And.intro (Nat.le_of_ble_eq_true rfl) ?_)
/-! ### numbers -/
def numB : PyData → Bool
  | .int i => decide (0 ≤ i)
  | _ => false
def isN : PyData → Bool
  | .none => true
  | _ => false
def C_num : FSpec := Ct (fun ss => ∃ d, ss = [.d d]) fun ss r ss' => ss' = ss ∧ ∃ d, ss = [.d d] ∧ r = .d (.bool (numB d))
theorem is_number_ok (ss : List Sl) (Ex : XP) (P : R → List Sl → Prop) (h : C_num ss Ex P) : fnW 1 1 w_is_number ss Ex P := by
  obtain ⟨⟨d, rfl⟩, k⟩ := h
  have kk := k _ _ ⟨rfl, d, rfl, rfl⟩
  clear k
  refine And.intro rfl ?_
  rw [w_is_number_eq]
  unfold t_is_number_1
  cases d <;> (pv_short; exact kk)
def two : PyData → Bool
  | .tuple [_, _] => true
  | _ => false
def C_two : FSpec := Ct (fun ss => ∃ d, ss = [.d d, .d (.int 2)]) fun ss r ss' => ss' = ss ∧ ∃ d, ss = [.d d, .d (.int 2)] ∧ r = .d (.bool (two d))
theorem two_len (xs : List PyData) : PyData.eqv (.int ((xs.length : Nat) : Int)) (.int 2) = two (.tuple xs) := by
  match xs with
  | [] => rfl
  | [_] => rfl
  | [_, _] => rfl
  | _ :: _ :: _ :: xs =>
    show PyData.eqv (.int (((_ :: _ :: _ :: xs : List PyData).length : Nat) : Int)) (.int 2) = false
    simp only [PyData.eqv, List.length_cons]
    simp
    omega
theorem two_of {d : PyData} (h : two d = true) : ∃ a b, d = .tuple [a, b] := by
  unfold two at h
  split at h
  · exact ⟨_, _, rfl⟩
  · cases h
theorem is_tuple_of_ok (ss : List Sl) (Ex : XP) (P : R → List Sl → Prop) (h : C_two ss Ex P) : fnW 2 2 w_is_tuple_of ss Ex P := by
  obtain ⟨⟨d, rfl⟩, k⟩ := h
  have kk := k _ _ ⟨rfl, d, rfl, rfl⟩
  clear k
  refine And.intro rfl ?_
  rw [w_is_tuple_of_eq]
  unfold t_is_tuple_of_1
  cases d with
  | tuple xs =>
    rw [← two_len] at kk
    pv_short
    exact kk
  | _ => pv_short; exact kk
def prB : PyData → Bool
  | .tuple [a, b] => numB a && numB b
  | _ => false
def C_pon : FSpec := Ct (fun ss => ∃ d, ss = [.d d]) fun ss r ss' => ss' = ss ∧ ∃ d, ss = [.d d] ∧ r = .d (.bool (prB d))
theorem pon_ok (ss : List Sl) (Ex : XP) (P : R → List Sl → Prop) (h : C_pon ss Ex P) : fnW 1 1 (w_is_pair_of_numbers C_num C_two) ss Ex P := by
  obtain ⟨⟨d, rfl⟩, k⟩ := h
  have kk := k _ _ ⟨rfl, d, rfl, rfl⟩
  clear k
  refine And.intro rfl ?_
  rw [w_is_pair_of_numbers_eq]
  unfold t_is_pair_of_numbers_1
  refine call_dd (d := d) (e := .int 2) (δ1 := [some (.d d)]) (δ2 := [some (.d d)]) (fun Q h => by pv_short; exact h) (fun Q h => by pv_short; exact h) ⟨d, rfl⟩ fun r ss' ⟨e1, d', e2, e3⟩ => ⟨e1, ?_⟩
  simp only [List.cons.injEq, Sl.d.injEq, and_true] at e2
  subst e2 e3
  cases ht : two d with
  | false =>
    have ef : prB d = false := by
      unfold prB
      split
      · cases ht
      · rfl
    rw [ef] at kk
    pv_short
    exact kk
  | true =>
    obtain ⟨a, b, rfl⟩ := two_of ht
    pv_short
    refine call_d (d := a) (δ1 := [some (.d (.tuple [a, b]))]) (fun Q h => by pv_short; exact h) ⟨a, rfl⟩ fun r ss' ⟨e1, d', e2, e3⟩ => ⟨e1, ?_⟩
    simp only [List.cons.injEq, Sl.d.injEq, and_true] at e2
    subst e2 e3
    have ep : prB (.tuple [a, b]) = (numB a && numB b) := rfl
    rw [ep] at kk
    cases ha : numB a with
    | false =>
      rw [ha] at kk
      pv_short
      exact kk
    | true =>
      rw [ha, Bool.true_and] at kk
      pv_short
      refine call_d (d := b) (δ1 := [some (.d (.tuple [a, b]))]) (fun Q h => by pv_short; exact h) ⟨b, rfl⟩ fun r ss' ⟨e1, d', e2, e3⟩ => ⟨e1, ?_⟩
      simp only [List.cons.injEq, Sl.d.injEq, and_true] at e2
      subst e2 e3
      pv_short
      exact kk
end V41
set_option Elab.async false
set_option linter.all false
set_option maxRecDepth 100000
set_option maxHeartbeats 1000000
set_option autoImplicit false
set_option exponentiation.threshold 20000
namespace V41
open PySem PySem.Spec PyProof.Rows L2 DL
local macro_rules | `(tactic| pv_short) => `(tactic| repeat first | refine Exists.intro _ (And.intro rfl ?_) | refine ifT rfl ?_ | refine ifF rfl ?_ | refine Exists.intro _ (And.intro (if_pos (by first | assumption | decide | exact ⟨by assumption, by decide⟩ | exact ⟨by assumption, by assumption⟩)) ?_) | refine And.intro (show List.length _ ≤ sizeLine from Nat.le_of_ble_eq_true rfl) ?_ | refine And.intro (Nat.le_of_ble_eq_true rfl) ?_)
theorem add_tup {a b : List PyData} (h : a.length + b.length ≤ 1000000) : addF (.d (.tuple a)) (.d (.tuple b)) = some (.tup (a ++ b)) := by
  have e : sizeLine = 16777216 := by decide
  exact if_pos (by omega)
theorem idx_tup {ds : List PyData} {j : Int} (h0 : 0 ≤ j) (h1 : j < (ds.length : Nat)) : ∃ e, idxF (.d (.tuple ds)) (.d (.int j)) = some (.val e) ∧ ds[j.toNat]? = some e := by
  obtain ⟨k, rfl⟩ := Int.eq_ofNat_of_zero_le h0
  have hk : k < ds.length := by omega
  have e1 : ds[k]? = some ds[k] := List.getElem?_eq_getElem hk
  refine ⟨ds[k], ?_, by rw [Int.toNat_natCast]; exact e1⟩
  show (atI ds (k : Int)).map Rv.val = _
  rw [atI_nat e1]
  rfl
theorem idx_mem {ds : List PyData} {j : Int} (h0 : 0 ≤ j) (h1 : j < (ds.length : Nat)) : ∃ e, idxF (.d (.list ds)) (.d (.int j)) = some (.val e) ∧ e ∈ ds := by
  obtain ⟨e, ee, me⟩ := atI_ok h0 h1
  refine ⟨e, ?_, me⟩
  show (atI ds j).map Rv.val = _
  rw [ee]
  rfl
theorem cut_to {ds : List PyData} {j : Int} (h0 : 0 ≤ j) (h1 : j < (ds.length : Nat)) : cutL ds none (some j) = ds.take j.toNat := by
  obtain ⟨k, rfl⟩ := Int.eq_ofNat_of_zero_le h0
  unfold cutL
  rw [HT.sIx_none, HT.sIx_nat, List.drop_zero, Nat.sub_zero, Int.toNat_natCast, Nat.min_eq_left (by omega)]
theorem cut_from {ds : List PyData} {j : Int} (h0 : 0 ≤ j) (h1 : j ≤ (ds.length : Nat)) : cutL ds (some j) none = ds.drop j.toNat := by
  obtain ⟨k, rfl⟩ := Int.eq_ofNat_of_zero_le h0
  unfold cutL
  rw [HT.sIx_none, HT.sIx_nat, Int.toNat_natCast, Nat.min_eq_left (by omega), ← List.length_drop, List.take_length]
end V41
set_option Elab.async false
set_option linter.all false
set_option maxRecDepth 100000
set_option maxHeartbeats 1000000
set_option autoImplicit false
namespace V41
open PySem PySem.Spec PyProof.Rows L2 DL
local macro_rules | `(tactic| pv_short) => `(tactic| repeat first | refine Exists.intro _ (And.intro rfl ?_) | refine ifT rfl ?_ | refine ifF rfl ?_ | refine Exists.intro _ (And.intro (if_pos (by first | assumption | decide | exact ⟨by assumption, by decide⟩ | exact ⟨by assumption, by assumption⟩)) ?_) | refine And.intro (show List.length _ ≤ sizeLine from Nat.le_of_ble_eq_true rfl) ?_ | refine And.intro (Nat.le_of_ble_eq_true rfl) ?_)
/-! ### what is to come out -/
def unI : PyData → Int
  | .int n => n
  | _ => 0
def numsOf : PyData → Option (List Int)
  | .tuple xs => if xs ≠ [] ∧ xs.all numB = true then some (xs.map unI) else none
  | _ => none
theorem num_int {d : PyData} (h : numB d = true) : ∃ n : Int, d = .int n ∧ 0 ≤ n := by
  unfold numB at h
  split at h
  · exact ⟨_, rfl, of_decide_eq_true h⟩
  · cases h
theorem nums_un {xs : List PyData} (h : xs.all numB = true) : xs = (xs.map unI).map .int := by
  rw [List.all_eq_true] at h
  rw [List.map_map]
  have e : xs.map (fun x => x) = xs.map (PyData.int ∘ unI) := List.map_congr_left fun x m => by
    obtain ⟨n, rfl, _⟩ := num_int (h x m)
    rfl
  rw [← e, List.map_id']
inductive Out where
  | told (n : Int)
  | no (w : Str) (at_ : PyData)
def Out.word : Out → PyData
  | .told n => .tuple [.str "told", .int n]
  | .no w a => .tuple [.str "no", .str w, a]
def Out.end_ (A : Addr) (Ex : XP) (P : PyData → Prop) : Out → Prop
  | .told n => P (.int n)
  | .no w a => Ex ⟨.ref A, [("at", a), ("word", .str w)]⟩
def outR (R : List Rw) (n : Nat) : Nat → List (Int × Int) → Out
  | _, [] => .told n
  | k, p :: ps => if p.1 ∉ R.map (·.h) then .no "hand" (.int k) else if p ∉ wp R then .no "waits" (.int k) else outR R n (k + 1) ps
theorem outR_cons (R : List Rw) (n k : Nat) (p : Int × Int) (ps : List (Int × Int)) : outR R n k (p :: ps) = if p.1 ∉ R.map (·.h) then .no "hand" (.int k) else if p ∉ wp R then .no "waits" (.int k) else outR R n (k + 1) ps := rfl
def turn (ns : List Int) : List (Int × Int) := ns.zip (ns.drop 1 ++ ns.take 1)
def out (R : List Rw) (d : PyData) : Out := match numsOf d with
  | none => .no "shape" (.int (-1))
  | some ns => outR R ns.length 0 (turn ns)
theorem can_prs (ps : List (Int × Int)) : PyData.canLayAll0 (ps.map prD) = true := by
  induction ps with
  | nil => rfl
  | cons p ps ih => rw [List.map_cons]; simp [PyData.canLayAll0, PyData.canLay0, ih]
theorem dep_prs (ps : List (Int × Int)) : PyData.depthAll (ps.map prD) ≤ 1 := by
  induction ps with
  | nil => exact Nat.zero_le _
  | cons p ps ih => rw [List.map_cons]; simp only [PyData.depthAll, PyData.depth]; omega
theorem sh_prs (ps : List (Int × Int)) : SeqAt.shaped (.tuple (ps.map prD)) = true := by
  have := dep_prs ps
  unfold SeqAt.shaped
  simp only [PyData.canLay0, PyData.depth, can_prs, Bool.true_and]
  exact decide_eq_true (by omega)
theorem shl_prs (ps : List (Int × Int)) : SeqAt.shaped (.list (ps.map prD)) = true := by
  have := dep_prs ps
  unfold SeqAt.shaped
  simp only [PyData.canLay0, PyData.depth, can_prs, Bool.true_and]
  exact decide_eq_true (by omega)
theorem sh_pr (p : Int × Int) : SeqAt.shaped (prD p) = true := rfl
theorem any_pr (ps : List (Int × Int)) (p : Int × Int) : ((ps.map prD).any fun z => PyData.eqv z (prD p)) = decide (p ∈ ps) := by
  rw [Bool.eq_iff_iff, List.any_eq_true, decide_eq_true_iff]
  constructor
  · rintro ⟨z, m, h⟩
    obtain ⟨q, mq, rfl⟩ := List.mem_map.mp m
    simp [PyData.eqv, PyData.eqvAll] at h
    have : q = p := Prod.ext h.1 h.2
    subst this
    exact mq
  · exact fun m => ⟨prD p, List.mem_map.mpr ⟨p, m, rfl⟩, by simp [PyData.eqv, PyData.eqvAll]⟩
theorem notin_prs (ps : List (Int × Int)) (p : Int × Int) : inT true (.d (prD p)) (.d (.tuple (ps.map prD))) = some (.val (.bool (!decide (p ∈ ps)))) := by
  rw [inT_shaped (sh_pr p) (sh_prs ps), any_pr]; rfl
theorem notin_prsL (ps : List (Int × Int)) (p : Int × Int) : inT true (.d (prD p)) (.d (.list (ps.map prD))) = some (.val (.bool (!decide (p ∈ ps)))) := by
  show (if SeqAt.shaped (prD p) && SeqAt.shaped (.list (ps.map prD)) then _ else none).map _ = _
  rw [if_pos (by rw [sh_pr, shl_prs]; rfl), any_pr]; rfl
theorem notin_list (l : List Int) (z : Int) : inT true (.d (.int z)) (.d (.list (l.map .int))) = some (.val (.bool (!decide (z ∈ l)))) := by
  show (if SeqAt.shaped (.int z) && SeqAt.shaped (.list (l.map .int)) then _ else none).map _ = _
  rw [if_pos (by rw [ints_shaped]; rfl), mem_ints]; rfl
abbrev numPr (p : (Int × Int) × Nat) : PyData := .tuple [.int (p.2 : Nat), prD p.1]
theorem enum_turn (as bs : List Int) : enumD (zipD (as.map .int) (bs.map .int)) = ((as.zip bs).zipIdx).map numPr := by
  unfold enumD zipD
  rw [List.mapIdx_eq_zipIdx_map, List.zipWith_map_left, List.zipWith_map_right]
  have e : List.zipWith (fun a b => PyData.tuple [.int a, .int b]) as bs = (as.zip bs).map prD := by rw [List.zip, List.map_zipWith]
  rw [e, List.zipIdx_map, List.map_map]
  rfl
theorem idx_at {α : Type} {l : List α} {pre post : List (α × Nat)} {x : α × Nat} (e : l.zipIdx = pre ++ x :: post) : x.2 = pre.length ∧ l.drop pre.length = x.1 :: post.map (·.1) ∧ l[pre.length]? = some x.1 := by
  have h1 : l.zipIdx[pre.length]? = some x := by rw [e, List.getElem?_append_right (Nat.le_refl _), Nat.sub_self]; rfl
  rw [List.getElem?_zipIdx] at h1
  obtain ⟨y, h2, h3⟩ := Option.map_eq_some_iff.mp h1
  subst h3
  have h4 : l = (pre ++ (y, 0 + pre.length) :: post).map (·.1) := by rw [← e, List.zipIdx_map_fst]
  refine ⟨Nat.zero_add _, ?_, h2⟩
  rw [h4, List.map_append, List.drop_append_of_le_length (by rw [List.length_map]; exact Nat.le_refl _)]
  rw [List.drop_of_length_le (by rw [List.length_map]; exact Nat.le_refl _)]
  rfl
/-! ### lets_ring -/
structure Th (d : PyData) : Prop where
  blk : d.bulk ≤ 1000
  shp : SeqAt.shaped d = true
theorem Th.len {xs : List PyData} (h : Th (.tuple xs)) : xs.length ≤ 1000 := by
  have hb := h.blk
  simp only [PyData.bulk] at hb
  have := bulk_len xs
  omega
def C_lets (A : Addr) : FSpec := fun ss Ex P => ∃ (R : List Rw) (d : PyData), ss = [.d (.tuple (R.map rowD)), .d d] ∧ Good R ∧ Th d ∧ (out R d).end_ A Ex fun n => P (.d n) ss
theorem lets_mono (A : Addr) : FMono (C_lets A) := fun ss Ex Ex' P P' h1 h2 ⟨R, d, e, hg, ht, k⟩ => ⟨R, d, e, hg, ht, by
  revert k
  cases out R d with
  | told n => exact h2 _ _
  | no w a => exact h1 _⟩
abbrev lrE (R : List Rw) (d : PyData) (s2 s3 s4 s5 s6 s7 : Option Sl) : SEnv := [some (.d (.tuple (R.map rowD))), some (.d d), s2, s3, s4, s5, s6, s7]
section
variable {R : List Rw} {ns : List Int} {D : PyData} {d : DEnds} {A : Addr}
theorem cut_1 (ns : List Int) (h : ns ≠ []) : cutL (ns.map PyData.int) (some 1) none = (ns.drop 1).map .int := by
  have := List.length_pos_iff.mpr h
  rw [cut_from (by decide) (by rw [List.length_map]; omega), List.map_drop]; rfl
theorem cut_2 (ns : List Int) : cutL (ns.map PyData.int) none (some 1) = (ns.take 1).map .int := by
  cases ns with
  | nil => rfl
  | cons x ns =>
    unfold cutL
    rw [HT.sIx_none, show (1 : Int) = ((1 : Nat) : Int) from rfl, HT.sIx_nat]
    rw [show min 1 ((x :: ns).map PyData.int).length = 1 from by simp]
    rfl
theorem lets_5 {s6 s7 s4 s2 : Option Sl} (hg : Good R) (k : (outR R ns.length 0 (turn ns)).end_ A d.ex fun n => ∀ s6 s7, d.rt (.d n) (lrE R (.tuple (ns.map .int)) s2 (some (.o false (.l ((R.map (·.h)).map .int)))) s4 (some (.d (.tuple ((wp R).map prD)))) s6 s7)) (hn : ns ≠ []) (hl : ns.length ≤ 1000) :
    t_lets_ring_6 (C_prs false) C_num A d (lrE R (.tuple (ns.map .int)) s2 (some (.o false (.l ((R.map (·.h)).map .int)))) s4 (some (.d (.tuple ((wp R).map prD)))) s6 s7) := by
  unfold t_lets_ring_6
  pv_short
  refine Exists.intro _ (And.intro (show addF (.d (.tuple (cutL (ns.map .int) (some 1) none))) (.d (.tuple (cutL (ns.map .int) none (some 1)))) = some (.tup ((ns.drop 1 ++ ns.take 1).map .int)) by
    rw [cut_1 ns hn, cut_2, List.map_append]
    exact add_tup (by simp; omega)) ?_)
  pv_short
  show wForR _ _ (enumD (zipD (ns.map .int) ((ns.drop 1 ++ ns.take 1).map .int))) _ _
  rw [enum_turn]
  refine for_of (g := numPr) (fun pre δ => outR R ns.length 0 (turn ns) = outR R ns.length pre.length ((turn ns).drop pre.length) ∧ ∃ s6 s7, δ = lrE R (.tuple (ns.map .int)) s2 (some (.o false (.l ((R.map (·.h)).map .int)))) s4 (some (.d (.tuple ((wp R).map prD)))) s6 s7) ?_ ?_ ⟨rfl, _, _, rfl⟩
  · rintro δ ⟨eo, s6, s7, rfl⟩
    rw [eo, List.length_zipIdx, show (ns.zip (ns.drop 1 ++ ns.take 1)).length = (turn ns).length from rfl, List.drop_of_length_le (Nat.le_refl _)] at k
    unfold t_lets_ring_1
    pv_short
    have e := k s6 s7
    rw [show ns.length = (ns.map PyData.int).length from (List.length_map ..).symm] at e
    exact e
  · rintro pre ⟨⟨a, b⟩, i⟩ post δ Q eR ⟨eo, s6, s7, rfl⟩ hQ
    obtain ⟨e1, e2, e3⟩ := idx_at eR
    have e1 : i = pre.length := e1
    subst e1
    have e2 : (turn ns).drop pre.length = (a, b) :: post.map (·.1) := e2
    rw [e2, outR_cons] at eo
    unfold t_lets_ring_5
    pv_short
    refine Exists.intro _ (And.intro (notin_list (R.map (·.h)) a) ?_)
    by_cases ha : a ∈ R.map (·.h)
    · rw [decide_eq_true ha]
      rw [if_neg (show ¬ (a, b).1 ∉ R.map (·.h) from fun z => z ha)] at eo
      pv_short
      unfold t_lets_ring_3
      pv_short
      refine Exists.intro _ (And.intro (notin_prs (wp R) (a, b)) ?_)
      by_cases hb : (a, b) ∈ wp R
      · rw [decide_eq_true hb]
        rw [if_neg (fun z => z hb)] at eo
        pv_short
        refine hQ _ ⟨?_, _, _, rfl⟩
        rw [eo, List.length_append, List.length_singleton]
        congr 1
        rw [← List.drop_drop, e2]
        rfl
      · rw [decide_eq_false hb]
        rw [if_pos hb] at eo
        rw [eo] at k
        pv_short
        unfold t_lets_ring_2
        pv_short
        exact k
    · rw [decide_eq_false ha]
      rw [if_pos ha] at eo
      rw [eo] at k
      pv_short
      unfold t_lets_ring_4
      pv_short
      exact k
theorem eq_nil {xs : List PyData} (h : SeqAt.shaped (.tuple xs) = true) : eqF (.d (.tuple xs)) (.d (.tuple [])) = some (.val (.bool (decide (xs = [])))) := by
  refine (eq_shaped (neg := false) (d := .tuple xs) (e := .tuple []) h rfl).trans ?_
  cases xs <;> rfl
theorem lets_8 (hg : Good R) (hn : ns ≠ []) (hl : ns.length ≤ 1000) (k : (outR R ns.length 0 (turn ns)).end_ A d.ex fun n => ∀ δ, (∃ s2 s3 s4 s5 s6 s7, δ = lrE R (.tuple (ns.map .int)) s2 s3 s4 s5 s6 s7) → d.rt (.d n) δ) :
    t_lets_ring_8 (C_prs false) C_num A d (lrE R (.tuple (ns.map .int)) none none none none none none) := by
  unfold t_lets_ring_8
  pv_short
  refine lc_of (g := rowD) (fun _ => true) (fun r => .int r.h) rfl ?_ ?_ ?_
  · have := hg.few; exact Nat.le_trans (m := 8) (by simpa using this) (by decide)
  · rintro ⟨h, hs, w⟩ m Q1 Q2 k1 k2
    pv_short
    exact k1 rfl _ rfl
  intro δ' h'
  rw [List.nil_append, h', List.filter_eq_self.mpr (fun _ _ => rfl), show (R.map fun r => PyData.int r.h) = (R.map (·.h)).map .int by rw [List.map_map]; rfl]
  pv_short
  show t_lets_ring_7 (C_prs false) C_num A d (lrE R (.tuple (ns.map .int)) none (some (.o false (.l ((R.map (·.h)).map .int)))) none none none none)
  unfold t_lets_ring_7 wSeq wSet
  refine call_d (d := .tuple (R.map rowD)) (δ1 := lrE R (.tuple (ns.map .int)) none (some (.o false (.l ((R.map (·.h)).map .int)))) none none none none) (fun Q h => by pv_short; exact h) ⟨R, rfl, hg⟩ fun r ss' ⟨e1, R', e2, _, e3⟩ => ⟨e1, ?_⟩
  have := rows_inj e2
  subst this
  subst e3
  pv_short
  refine lets_5 hg ?_ hn hl
  revert k
  cases outR R ns.length 0 (turn ns) with
  | told n => exact fun k s6 s7 => k _ ⟨_, _, _, _, _, _, rfl⟩
  | no w a => exact fun k => k
end
theorem lets_ok (A : Addr) (ss : List Sl) (Ex : XP) (P : R → List Sl → Prop) (h : C_lets A ss Ex P) : fnW 2 8 (w_lets_ring (C_prs false) C_num A) ss Ex P := by
  obtain ⟨R, d, rfl, hg, ht, k⟩ := h
  refine And.intro rfl ?_
  rw [w_lets_ring_eq]
  unfold t_lets_ring_10
  cases d with
  | tuple xs =>
    have hl : xs.length ≤ sizeLine := Nat.le_trans ht.len (by decide)
    pv_short
    refine Exists.intro _ (And.intro (eq_nil ht.shp) ?_)
    by_cases hne : xs = []
    · subst hne
      pv_short
      unfold t_lets_ring_9
      pv_short
      exact k
    rw [decide_eq_false hne]
    have hl1 := ht.len
    pv_short
    refine lc_pure (δf := lrE R (.tuple xs) none none none none none none) (fun _ => true) (fun y => .bool (numB y)) rfl hl (fun x m Q1 Q2 k1 k2 => ?_) (fun δ' h' => ?_)
    · pv_short
      refine call_d (d := x) (δ1 := lrE R (.tuple xs) (some (.d x)) none none none none none) (fun Q h => by pv_short; exact h) ⟨x, rfl⟩ fun r ss' ⟨e1, d, e2, e3⟩ => ⟨e1, ?_⟩
      simp only [List.cons.injEq, Sl.d.injEq, and_true] at e2
      subst e2 e3
      exact k1 rfl _ rfl
    · rw [h', List.filter_eq_self.mpr (fun _ _ => rfl)]
      pv_short
      refine Exists.intro _ (And.intro (all_map numB xs) ?_)
      cases hb : xs.all numB with
      | false =>
        have eo : out R (.tuple xs) = .no "shape" (.int (-1)) := by
          unfold out numsOf
          simp only [hb]
          rw [if_neg (by simp)]
        rw [eo] at k
        pv_short
        unfold t_lets_ring_9
        pv_short
        exact k
      | true =>
        have eo : out R (.tuple xs) = outR R (xs.map unI).length 0 (turn (xs.map unI)) := by
          unfold out numsOf
          simp only [hb]
          rw [if_pos ⟨hne, trivial⟩]
        rw [eo] at k
        pv_short
        have ex := nums_un hb
        generalize xs.map unI = ns at *
        subst ex
        refine lets_8 hg (fun z => hne (by rw [z]; rfl)) (by rw [List.length_map] at hl1; exact hl1) ?_
        revert k
        cases outR R ns.length 0 (turn ns) with
        | told n =>
          intro k δ hδ
          obtain ⟨s2, s3, s4, s5, s6, s7, rfl⟩ := hδ
          pv_short
          exact k
        | no w a => exact fun k => k
  | _ =>
    pv_short
    unfold t_lets_ring_9
    pv_short
    exact k
end V41
set_option Elab.async false
set_option linter.all false
set_option maxRecDepth 100000
set_option maxHeartbeats 1000000
set_option autoImplicit false
namespace V41.Rk
open PySem PySem.Spec PyProof.Rows L2 DL
local macro_rules | `(tactic| pv_short) => `(tactic| repeat first | refine Exists.intro _ (And.intro rfl ?_) | refine ifT rfl ?_ | refine ifF rfl ?_ | refine Exists.intro _ (And.intro (if_pos (by first | assumption | decide | exact ⟨by assumption, by decide⟩ | exact ⟨by assumption, by assumption⟩)) ?_) | refine And.intro (show List.length _ ≤ sizeLine from Nat.le_of_ble_eq_true rfl) ?_ | refine And.intro (Nat.le_of_ble_eq_true rfl) ?_)
/-! ### what is to come out -/
def unpr : PyData → Int × Int
  | .tuple [.int a, .int b] => (a, b)
  | _ => (0, 0)
def prsOf : PyData → Option (List (Int × Int))
  | .tuple xs => if xs.all prB = true then some (xs.map unpr) else none
  | _ => none
theorem num_int {d : PyData} (h : numB d = true) : ∃ n : Int, d = .int n ∧ 0 ≤ n := by
  unfold numB at h
  split at h
  · exact ⟨_, rfl, of_decide_eq_true h⟩
  · cases h
theorem pr_of {d : PyData} (h : prB d = true) : d = prD (unpr d) ∧ 0 ≤ (unpr d).1 ∧ 0 ≤ (unpr d).2 := by
  unfold prB at h
  split at h
  · rw [Bool.and_eq_true] at h
    obtain ⟨n, rfl, h1⟩ := num_int h.1
    obtain ⟨m, rfl, h2⟩ := num_int h.2
    exact ⟨rfl, h1, h2⟩
  · cases h
theorem prs_of {xs : List PyData} (h : xs.all prB = true) : xs = (xs.map unpr).map prD ∧ ∀ p ∈ xs.map unpr, 0 ≤ p.1 ∧ 0 ≤ p.2 := by
  rw [List.all_eq_true] at h
  refine ⟨?_, fun p m => ?_⟩
  · rw [List.map_map]
    have e : xs.map (fun x => x) = xs.map (prD ∘ unpr) := List.map_congr_left fun x m => (pr_of (h x m)).1
    rw [← e, List.map_id']
  · obtain ⟨x, mx, rfl⟩ := List.mem_map.mp m
    exact (pr_of (h x mx)).2
inductive Out where
  | told (n : Int)
  | no (w : Str) (at_ : PyData)
def rk (ps : List (Int × Int)) (a : Int) : Int := (nxt ps a).getD 0
def badP (ps : List (Int × Int)) (p : Int × Int) : Bool := decide (rk ps p.1 ≤ rk ps p.2)
def outR (R : List Rw) (ps : List (Int × Int)) : Out := match (wp R).find? (badP ps) with
  | some p => .no "rank" (prD p)
  | none => .told (maxDef 0 (ps.map (·.2)))
def out (R : List Rw) (d : PyData) : Out := match prsOf d with
  | none => .no "shape" (.int (-1))
  | some ps => if ps.map (·.1) = R.map (·.h) then outR R ps else .no "hands" (.int (-1))
def Out.word : Out → PyData
  | .told n => .tuple [.str "told", .int n]
  | .no w a => .tuple [.str "no", .str w, a]
def Out.end_ (A : Addr) (Ex : XP) (P : PyData → Prop) : Out → Prop
  | .told n => P (.int n)
  | .no w a => Ex ⟨.ref A, [("at", a), ("word", .str w)]⟩
theorem find_at {α : Type} {f : α → Bool} {x : α} {post : List α} : ∀ {pre : List α}, (∀ p ∈ pre, f p = false) → f x = true → (pre ++ x :: post).find? f = some x
  | [], _, h => by rw [List.nil_append, List.find?_cons, h]
  | p :: pre, hp, h => by
    rw [List.cons_append, List.find?_cons, hp p (List.mem_cons_self ..)]
    exact find_at (fun q m => hp q (List.mem_cons_of_mem _ m)) h
theorem find_no {α : Type} {f : α → Bool} {l : List α} (h : ∀ p ∈ l, f p = false) : l.find? f = none :=
  List.find?_eq_none.mpr fun p m => by rw [h p m]; decide
theorem nxt_some {ps : List (Int × Int)} {a : Int} (h : a ∈ ps.map (·.1)) : nxt ps a = some (rk ps a) := by
  unfold rk
  cases e : nxt ps a with
  | some o => rfl
  | none =>
    unfold nxt at e
    rw [Option.map_eq_none_iff, List.find?_eq_none] at e
    obtain ⟨p, mp, rfl⟩ := List.mem_map.mp h
    exact absurd (decide_eq_true rfl) (e p mp)
theorem eqv_all (l m : List Int) : PyData.eqvAll (l.map .int) (m.map .int) = decide (l = m) := by
  induction l generalizing m with
  | nil => cases m <;> simp [PyData.eqvAll]
  | cons x l ih =>
    cases m with
    | nil => simp [PyData.eqvAll]
    | cons y m =>
      rw [List.map_cons, List.map_cons]
      simp only [PyData.eqvAll, PyData.eqv, ih]
      by_cases e : x = y <;> by_cases e2 : l = m <;> simp [e, e2]
theorem ne_ints (l m : List Int) : neF (.d (.list (l.map .int))) (.d (.list (m.map .int))) = some (.val (.bool (!decide (l = m)))) := by
  refine (eq_shaped (neg := true) (ints_shaped l) (ints_shaped m)).trans ?_
  rw [show PyData.eqv (.list (l.map PyData.int)) (.list (m.map PyData.int)) = decide (l = m) from (by simp only [PyData.eqv]; exact eqv_all l m)]
  rfl
end V41.Rk
set_option Elab.async false
set_option linter.all false
set_option maxRecDepth 100000
set_option maxHeartbeats 1000000
set_option autoImplicit false
namespace V41.Rk
open PySem PySem.Spec PyProof.Rows L2 DL
local macro_rules | `(tactic| pv_short) => `(tactic| repeat first | refine Exists.intro _ (And.intro rfl ?_) | refine ifT rfl ?_ | refine ifF rfl ?_ | refine Exists.intro _ (And.intro (if_pos (by first | assumption | decide | exact ⟨by assumption, by decide⟩ | exact ⟨by assumption, by assumption⟩)) ?_) | refine And.intro (show List.length _ ≤ sizeLine from Nat.le_of_ble_eq_true rfl) ?_ | refine And.intro (Nat.le_of_ble_eq_true rfl) ?_)
/-! ### lets_ranks -/
structure Th (d : PyData) : Prop where
  blk : d.bulk ≤ 1000
theorem Th.len {xs : List PyData} (h : Th (.tuple xs)) : xs.length ≤ 1000 := by
  have hb := h.blk
  simp only [PyData.bulk] at hb
  have := bulk_len xs
  omega
def C_lets (A : Addr) : FSpec := fun ss Ex P => ∃ (R : List Rw) (d : PyData), ss = [.d (.tuple (R.map rowD)), .d d] ∧ Good R ∧ Th d ∧ (out R d).end_ A Ex fun n => P (.d n) ss
theorem lets_mono (A : Addr) : FMono (C_lets A) := fun ss Ex Ex' P P' h1 h2 ⟨R, d, e, hg, ht, k⟩ => ⟨R, d, e, hg, ht, by
  revert k
  cases out R d with
  | told n => exact h2 _ _
  | no w a => exact h1 _⟩
abbrev lrE (R : List Rw) (d : PyData) (s2 s3 s4 s5 s6 : Option Sl) : SEnv := [some (.d (.tuple (R.map rowD))), some (.d d), s2, s3, s4, s5, s6]
section
variable {R : List Rw} {ps : List (Int × Int)} {D : PyData} {d : DEnds} {A : Addr}
theorem lets_5 {s2 s3 s5 s6 : Option Sl} (hg : Good R) (hh : ps.map (·.1) = R.map (·.h)) (k : (outR R ps).end_ A d.ex fun n => ∀ s2 s5 s6, d.rt (.d n) (lrE R D s2 s3 (some (.o false (.k (ps.map kvP)))) s5 s6)) :
    t_lets_ranks_5 (C_prs false) C_pon A d (lrE R D s2 s3 (some (.o false (.k (ps.map kvP)))) s5 s6) := by
  unfold t_lets_ranks_5
  unfold wSeq wFor wIt
  refine call_d (d := .tuple (R.map rowD)) (δ1 := lrE R D s2 s3 (some (.o false (.k (ps.map kvP)))) s5 s6) (fun Q h => by pv_short; exact h) ⟨R, rfl, hg⟩ fun r ss' ⟨e1, R', e2, _, e3⟩ => ⟨e1, ?_⟩
  have := rows_inj e2
  subst this
  subst e3
  pv_short
  refine for_of (g := prD) (xs := wp R) (fun pre δ => (∀ p ∈ pre, badP ps p = false) ∧ ∃ s2 s5 s6, δ = lrE R D s2 s3 (some (.o false (.k (ps.map kvP)))) s5 s6) ?_ ?_ ⟨(fun _ z => by cases z), _, _, _, rfl⟩
  · rintro δ ⟨hb, s2, s5, s6, rfl⟩
    have eo : outR R ps = .told (maxDef 0 (ps.map (·.2))) := by unfold outR; rw [find_no hb]
    rw [eo] at k
    unfold t_lets_ranks_1
    pv_short
    refine Exists.intro _ (And.intro (show numsD ((ps.map kvP).map (·.2)) = some (ps.map (·.2)) by
      rw [show (ps.map kvP).map (·.2) = (ps.map (·.2)).map .int by rw [List.map_map, List.map_map]; rfl]
      exact nums_ints _) ?_)
    pv_short
    exact k _ _ _
  · rintro pre ⟨a, b⟩ post δ Q eR ⟨hb, s2, s5, s6, rfl⟩ hQ
    have mw : (a, b) ∈ wp R := by rw [eR]; exact List.mem_append_right _ (List.mem_cons_self ..)
    obtain ⟨⟨r1, m1, e1⟩, ⟨r2, m2, e2⟩⟩ := wp_hand mw
    have ea := nxt_some (ps := ps) (a := a) (by rw [hh]; exact List.mem_map.mpr ⟨r1, m1, e1⟩)
    have eb := nxt_some (ps := ps) (a := b) (by rw [hh]; exact List.mem_map.mpr ⟨r2, m2, e2⟩)
    unfold t_lets_ranks_4
    pv_short
    unfold t_lets_ranks_3
    pv_short
    refine Exists.intro _ (And.intro (idx_ps ea) ?_)
    pv_short
    refine Exists.intro _ (And.intro (idx_ps eb) ?_)
    pv_short
    refine ite2 (fun e => ?_) (fun e => ?_)
    · have eo : outR R ps = .no "rank" (prD (a, b)) := by
        unfold outR
        rw [eR, find_at hb (show badP ps (a, b) = true from e)]
      rw [eo] at k
      unfold t_lets_ranks_2
      pv_short
      exact k
    · refine hQ _ ⟨fun p m => ?_, _, _, _, rfl⟩
      rcases List.mem_append.mp m with m | m
      · exact hb p m
      · rw [List.mem_singleton.mp m]; exact Bool.eq_false_iff.mpr e
theorem lets_8 (hg : Good R) (hD : D = .tuple (ps.map prD)) (hl : ps.length ≤ 1000) (k : (if ps.map (·.1) = R.map (·.h) then outR R ps else .no "hands" (.int (-1))).end_ A d.ex fun n => ∀ δ, (∃ s2 s3 s4 s5 s6, δ = lrE R D s2 s3 s4 s5 s6) → d.rt (.d n) δ) :
    t_lets_ranks_8 (C_prs false) C_pon A d (lrE R D none none none none none) := by
  subst hD
  unfold t_lets_ranks_8
  pv_short
  refine lc_of (g := prD) (fun _ => true) (fun p => .int p.1) rfl ?_ ?_ ?_
  · exact Nat.le_trans (m := 1000) (by simpa using hl) (by decide)
  · rintro ⟨a, n⟩ m Q1 Q2 k1 k2
    pv_short
    exact k1 rfl _ rfl
  intro δ' h'
  rw [List.nil_append, h', List.filter_eq_self.mpr (fun _ _ => rfl), show (ps.map fun p => PyData.int p.1) = (ps.map (·.1)).map .int by rw [List.map_map]; rfl]
  pv_short
  refine lc_of (g := rowD) (fun _ => true) (fun r => .int r.h) rfl ?_ ?_ ?_
  · have := hg.few; exact Nat.le_trans (m := 8) (by simpa using this) (by decide)
  · rintro ⟨h, hs, w⟩ m Q1 Q2 k1 k2
    pv_short
    exact k1 rfl _ rfl
  intro δ' h'
  rw [List.nil_append, h', List.filter_eq_self.mpr (fun _ _ => rfl), show (R.map fun r => PyData.int r.h) = (R.map (·.h)).map .int by rw [List.map_map]; rfl]
  pv_short
  refine Exists.intro _ (And.intro (ne_ints _ _) ?_)
  by_cases hh : ps.map (·.1) = R.map (·.h)
  · rw [decide_eq_true hh]
    rw [if_pos hh] at k
    pv_short
    have hn : (ps.map (·.1)).Nodup := by rw [hh]; exact hg.hands
    unfold t_lets_ranks_6
    unfold wSeq wSet wDictP
    pv_short
    refine Exists.intro _ (And.intro (pairs_ps ps) ?_)
    pv_short
    show t_lets_ranks_5 _ _ _ _ (lrE R (.tuple (ps.map prD)) none none (some (.o false (.k (mergeD [] (ps.map kvP))))) none none)
    rw [merge_ps hn]
    refine lets_5 hg hh ?_
    revert k
    cases outR R ps with
    | told n => exact fun k s2 s5 s6 => k _ ⟨_, _, _, _, _, rfl⟩
    | no w a => exact fun k => k
  · rw [decide_eq_false hh]
    rw [if_neg hh] at k
    pv_short
    unfold t_lets_ranks_7
    pv_short
    exact k
end
theorem lets_ok (A : Addr) (ss : List Sl) (Ex : XP) (P : R → List Sl → Prop) (h : C_lets A ss Ex P) : fnW 2 7 (w_lets_ranks (C_prs false) C_pon A) ss Ex P := by
  obtain ⟨R, d, rfl, hg, ht, k⟩ := h
  refine And.intro rfl ?_
  rw [w_lets_ranks_eq]
  unfold t_lets_ranks_10
  cases d with
  | tuple xs =>
    have hl : xs.length ≤ sizeLine := Nat.le_trans ht.len (by decide)
    pv_short
    refine lc_pure (δf := lrE R (.tuple xs) none none none none none) (fun _ => true) (fun y => .bool (prB y)) rfl hl (fun x m Q1 Q2 k1 k2 => ?_) (fun δ' h' => ?_)
    · pv_short
      refine call_d (d := x) (δ1 := lrE R (.tuple xs) (some (.d x)) none none none none) (fun Q h => by pv_short; exact h) ⟨x, rfl⟩ fun r ss' ⟨e1, d, e2, e3⟩ => ⟨e1, ?_⟩
      simp only [List.cons.injEq, Sl.d.injEq, and_true] at e2
      subst e2 e3
      exact k1 rfl _ rfl
    · rw [h', List.filter_eq_self.mpr (fun _ _ => rfl)]
      pv_short
      refine Exists.intro _ (And.intro (all_map prB xs) ?_)
      cases hb : xs.all prB with
      | false =>
        have eo : out R (.tuple xs) = .no "shape" (.int (-1)) := by
          unfold out prsOf
          simp only [hb]
          rfl
        rw [eo] at k
        pv_short
        unfold t_lets_ranks_9
        pv_short
        exact k
      | true =>
        have eo : out R (.tuple xs) = if (xs.map unpr).map (·.1) = R.map (·.h) then outR R (xs.map unpr) else .no "hands" (.int (-1)) := by
          unfold out prsOf
          simp only [hb]
          rfl
        rw [eo] at k
        pv_short
        refine lets_8 hg (congrArg _ (prs_of hb).1) (by rw [List.length_map]; exact ht.len) ?_
        revert k
        generalize (if (xs.map unpr).map (·.1) = R.map (·.h) then outR R (xs.map unpr) else .no "hands" (.int (-1))) = o
        cases o with
        | told n =>
          intro k δ hδ
          obtain ⟨s2, s3, s4, s5, s6, rfl⟩ := hδ
          pv_short
          exact k
        | no w a => exact fun k => k
  | _ =>
    pv_short
    unfold t_lets_ranks_9
    pv_short
    exact k
end V41.Rk
set_option Elab.async false
set_option linter.all false
set_option maxRecDepth 100000
set_option maxHeartbeats 1000000
set_option autoImplicit false
set_option exponentiation.threshold 20000
namespace V41
open PySem PySem.Spec PyProof.Rows L2 DL
/-! ### rings and ranks -/
theorem turn_len (ns : List Int) : (turn ns).length = ns.length := by
  unfold turn
  rw [List.length_zip, List.length_append, List.length_drop, List.length_take]
  omega
def nx (ns : List Int) (k : Nat) : Int := if k + 1 < ns.length then ns.getD (k + 1) 0 else ns.getD 0 0
theorem getD_at {ns : List Int} {k : Nat} (h : k < ns.length) : ns[k]? = some (ns.getD k 0) := by
  rw [List.getD_eq_getElem?_getD, List.getElem?_eq_getElem h]; rfl
theorem turn_at {ns : List Int} {k : Nat} (h : k < ns.length) : (turn ns)[k]? = some (ns.getD k 0, nx ns k) := by
  unfold turn
  rw [List.getElem?_zip_eq_some]
  refine ⟨getD_at h, ?_⟩
  unfold nx
  split
  · rename_i h2
    rw [List.getElem?_append_left (by rw [List.length_drop]; omega), List.getElem?_drop, Nat.add_comm]
    exact getD_at h2
  · have e : k - (ns.length - 1) = 0 := by omega
    rw [List.getElem?_append_right (by rw [List.length_drop]; omega), List.length_drop, e, List.getElem?_take, if_pos (by decide)]
    exact getD_at (by omega)
theorem nx_mem {ns : List Int} {k : Nat} (h : k < ns.length) : nx ns k ∈ ns := by
  unfold nx
  split
  · rename_i h2; exact List.mem_of_getElem? (getD_at h2)
  · exact List.mem_of_getElem? (getD_at (by omega))
theorem outR_told {R : List Rw} {n : Nat} : ∀ {ps : List (Int × Int)} {k : Nat}, (∀ p ∈ ps, p.1 ∈ R.map (·.h) ∧ p ∈ wp R) → outR R n k ps = .told n
  | [], _, _ => rfl
  | p :: ps, k, h => by
    have h1 := h p (List.mem_cons_self ..)
    rw [outR_cons, if_neg (fun z => z h1.1), if_neg (fun z => z h1.2)]
    exact outR_told fun q m => h q (List.mem_cons_of_mem _ m)
theorem told_outR {R : List Rw} {n : Nat} {m : Int} : ∀ {ps : List (Int × Int)} {k : Nat}, outR R n k ps = .told m → ∀ p ∈ ps, p ∈ wp R
  | [], _, _ => fun _ z => by cases z
  | p :: ps, k, h => by
    rw [outR_cons] at h
    split at h
    · cases h
    · split at h
      · cases h
      · rename_i h2
        intro q mq
        rcases List.mem_cons.mp mq with rfl | mq
        · exact Decidable.of_not_not h2
        · exact told_outR h q mq
def isTold : Out → Bool
  | .told _ => true
  | _ => false
theorem isTold_of {o : Out} (h : isTold o = true) : ∃ n, o = .told n := by
  cases o with
  | told n => exact ⟨n, rfl⟩
  | no _ _ => cases h
namespace Rk
def isTold : Out → Bool
  | .told _ => true
  | _ => false
theorem isTold_of {o : Out} (h : isTold o = true) : ∃ n, o = .told n := by
  cases o with
  | told n => exact ⟨n, rfl⟩
  | no _ _ => cases h
theorem ranks_of {R : List Rw} {d : PyData} (h : isTold (out R d) = true) : ∃ ps : List (Int × Int), ∀ p ∈ wp R, rk ps p.2 < rk ps p.1 := by
  obtain ⟨n, h⟩ := isTold_of h
  unfold out at h
  split at h
  · cases h
  · rename_i ps _
    split at h
    · unfold outR at h
      split at h
      · cases h
      · rename_i e
        refine ⟨ps, fun p m => ?_⟩
        have := List.find?_eq_none.mp e p m
        unfold badP at this
        have := of_decide_eq_false (Bool.eq_false_iff.mpr this)
        omega
    · cases h
end Rk
theorem least (g : Int → Int) : ∀ {l : List Int}, l ≠ [] → ∃ x ∈ l, ∀ y ∈ l, g x ≤ g y
  | [], h => absurd rfl h
  | [a], _ => ⟨a, List.mem_cons_self .., fun y m => by rw [List.mem_singleton.mp m]; exact Int.le_refl _⟩
  | a :: b :: l, _ => by
    obtain ⟨x, mx, hx⟩ := least g (l := b :: l) (by simp)
    by_cases h : g a ≤ g x
    · exact ⟨a, List.mem_cons_self .., fun y m => by
        rcases List.mem_cons.mp m with rfl | m
        · exact Int.le_refl _
        · exact Int.le_trans h (hx y m)⟩
    · exact ⟨x, List.mem_cons_of_mem _ mx, fun y m => by
        rcases List.mem_cons.mp m with rfl | m
        · omega
        · exact hx y m⟩
theorem no_both {R : List Rw} {d d' : PyData} (h : isTold (out R d) = true) (h' : Rk.isTold (Rk.out R d') = true) : False := by
  obtain ⟨n, h⟩ := isTold_of h
  obtain ⟨ps, hp⟩ := Rk.ranks_of h'
  unfold out at h
  split at h
  · cases h
  · rename_i ns en
    have hne : ns ≠ [] := by
      unfold numsOf at en
      split at en
      · split at en
        · rename_i hh
          cases en
          intro z
          exact hh.1 (List.map_eq_nil_iff.mp z)
        · cases en
      · cases en
    have hw := told_outR h
    obtain ⟨x, mx, hx⟩ := least (Rk.rk ps) hne
    obtain ⟨k, hk, ek⟩ := List.getElem_of_mem mx
    have m := hw _ (List.mem_of_getElem? (turn_at hk))
    have e1 := hp _ m
    have e2 := hx _ (nx_mem hk)
    have e3 : ns.getD k 0 = x := by
      have := getD_at hk
      rw [List.getElem?_eq_getElem hk, ek] at this
      exact (Option.some.inj this).symm
    rw [e3] at e1
    have e1 : Rk.rk ps (nx ns k) < Rk.rk ps x := e1
    omega
/-! ### the told ones are let by -/
theorem ring_nums {C : List Int} (h : ∀ x ∈ C, 0 ≤ x) : (C.map PyData.int).all numB = true ∧ (C.map PyData.int).map unI = C := by
  constructor
  · rw [List.all_eq_true]
    intro d m
    obtain ⟨x, mx, rfl⟩ := List.mem_map.mp m
    exact decide_eq_true (h x mx)
  · rw [List.map_map]
    exact (List.map_congr_left fun _ _ => rfl).trans (List.map_id _)
theorem ring_let {R : List Rw} {C : List Int} (hg : Good R) (h : IsRing (F R) C) : isTold (out R (.tuple (C.map .int))) = true := by
  have step : ∀ k (hk : k < C.length), (C.getD k 0, nx C k) ∈ wp R := fun k hk => by
    have e := h.2 k hk
    have e1 : C.getD k 0 = C[k] := by rw [List.getD_eq_getElem?_getD, List.getElem?_eq_getElem hk]; rfl
    have e2 : nx C k = (if h2 : k + 1 < C.length then C[k + 1] else C[0]'(by omega)) := by
      unfold nx
      by_cases h2 : k + 1 < C.length
      · rw [if_pos h2, dif_pos h2, List.getD_eq_getElem?_getD, List.getElem?_eq_getElem h2]; rfl
      · rw [if_neg h2, dif_neg h2, List.getD_eq_getElem?_getD, List.getElem?_eq_getElem (by omega)]; rfl
    rw [e1, e2]
    exact nxt_mem e
  have hand : ∀ x ∈ C, x ∈ R.map (·.h) := fun x mx => by
    obtain ⟨k, hk, ek⟩ := List.getElem_of_mem mx
    obtain ⟨⟨r, mr, er⟩, _⟩ := wp_hand (step k hk)
    have e1 : C.getD k 0 = x := by rw [List.getD_eq_getElem?_getD, List.getElem?_eq_getElem hk]; exact ek
    rw [e1] at er
    exact List.mem_map.mpr ⟨r, mr, er⟩
  have pos : ∀ x ∈ C, 0 ≤ x := fun x mx => by
    obtain ⟨r, mr, rfl⟩ := List.mem_map.mp (hand x mx)
    exact (hg.big r mr).1
  obtain ⟨h1, h2⟩ := ring_nums pos
  have eo : out R (.tuple (C.map .int)) = outR R C.length 0 (turn C) := by
    unfold out numsOf
    simp only [h1]
    rw [if_pos ⟨fun z => h.1 (List.map_eq_nil_iff.mp z), trivial⟩]
    simp only [h2]
  rw [eo, outR_told]
  · rfl
  · intro p m
    obtain ⟨k, hk, ek⟩ := List.getElem_of_mem m
    rw [turn_len] at hk
    have e := turn_at hk
    rw [List.getElem?_eq_getElem (by rw [turn_len]; exact hk), ek] at e
    cases e
    exact ⟨hand _ (List.mem_of_getElem? (getD_at hk)), step k hk⟩
theorem ranks_let {R : List Rw} {ks : List (Int × Nat)} (hg : Good R) (h : Ranks R R ks) : Rk.isTold (Rk.out R (.tuple (ks.map rkD))) = true := by
  have e0 : ks.map rkD = (ks.map fun p => (p.1, (p.2 : Int))).map prD := by rw [List.map_map]; rfl
  have hands : (ks.map fun p => (p.1, (p.2 : Int))).map (·.1) = R.map (·.h) := by
    rw [List.map_map]
    exact h.hands
  have hb : (ks.map rkD).all prB = true := by
    rw [List.all_eq_true]
    intro d m
    obtain ⟨p, mp, rfl⟩ := List.mem_map.mp m
    have : p.1 ∈ R.map (·.h) := by rw [← h.hands]; exact List.mem_map.mpr ⟨p, mp, rfl⟩
    obtain ⟨r, mr, er⟩ := List.mem_map.mp this
    have b := (hg.big r mr).1
    have q : 0 ≤ p.1 := by rw [← er]; exact b
    show (decide (0 ≤ p.1) && decide (0 ≤ (p.2 : Int))) = true
    rw [decide_eq_true q, decide_eq_true (Int.natCast_nonneg _)]
    rfl
  have eu : (ks.map rkD).map Rk.unpr = ks.map fun p => (p.1, (p.2 : Int)) := by rw [List.map_map]; rfl
  have ends : ∀ a n, Ends (F R) a n → a ∈ R.map (·.h) → Rk.rk (ks.map fun p => (p.1, (p.2 : Int))) a = (n : Int) := by
    intro a n ha ma
    rw [← h.hands] at ma
    obtain ⟨p, mp, rfl⟩ := List.mem_map.mp ma
    have hn : ((ks.map fun p => (p.1, (p.2 : Int))).map (·.1)).Nodup := by rw [hands]; exact hg.hands
    have e := nxt_of (ps := ks.map fun p => (p.1, (p.2 : Int))) (a := p.1) (b := (p.2 : Int)) hn (List.mem_map.mpr ⟨p, mp, rfl⟩)
    unfold Rk.rk
    rw [e, (h.ends p mp).1.det ha]
    rfl
  have eo : Rk.out R (.tuple (ks.map rkD)) = Rk.outR R (ks.map fun p => (p.1, (p.2 : Int))) := by
    unfold Rk.out Rk.prsOf
    simp only [hb]
    simp only [if_true, eu]
    rw [if_pos hands]
  rw [eo]
  unfold Rk.outR
  rw [Rk.find_no]
  · rfl
  · intro p m
    obtain ⟨a, b⟩ := p
    obtain ⟨⟨r1, m1, e1⟩, ⟨r2, m2, e2⟩⟩ := wp_hand m
    have ma : a ∈ R.map (·.h) := List.mem_map.mpr ⟨r1, m1, e1⟩
    have mb : b ∈ R.map (·.h) := List.mem_map.mpr ⟨r2, m2, e2⟩
    rw [← h.hands] at mb
    obtain ⟨q, mq, eq⟩ := List.mem_map.mp mb
    have eb := (h.ends q mq).1
    rw [eq] at eb
    have ea : Ends (F R) a (q.2 + 1) := .on (nxt_of (wp_keys hg) m) eb
    have r1 := ends a _ ea ma
    have r2 := ends b _ eb (List.mem_map.mpr ⟨r2, m2, e2⟩)
    unfold Rk.badP
    refine decide_eq_false ?_
    show ¬ Rk.rk _ a ≤ Rk.rk _ b
    rw [r1, r2]
    omega
end V41
set_option Elab.async false
set_option linter.all false
set_option maxRecDepth 100000
set_option maxHeartbeats 1000000
set_option autoImplicit false
set_option exponentiation.threshold 20000
namespace V41
open PySem PySem.Spec PyProof.Rows L2 DL
local macro_rules | `(tactic| pv_short) => `(tactic| repeat first | refine Exists.intro _ (And.intro rfl ?_) | refine ifT rfl ?_ | refine ifF rfl ?_ | refine Exists.intro _ (And.intro (if_pos (by first | assumption | decide | exact ⟨by assumption, by decide⟩ | exact ⟨by assumption, by assumption⟩)) ?_) | refine And.intro (show List.length _ ≤ sizeLine from Nat.le_of_ble_eq_true rfl) ?_ | refine And.intro (Nat.le_of_ble_eq_true rfl) ?_)
/-! ### the things of the law -/
theorem bulk_ints (l : List Int) : PyData.bulkAll (l.map .int) = l.length := by
  induction l with
  | nil => rfl
  | cons x l ih => rw [List.map_cons]; simp only [PyData.bulkAll, PyData.bulk, List.length_cons, ih]; omega
theorem bulk_prs (ps : List (Int × Int)) : PyData.bulkAll (ps.map prD) = 3 * ps.length := by
  induction ps with
  | nil => rfl
  | cons p ps ih => rw [List.map_cons]; simp only [PyData.bulkAll, ih, List.length_cons]; show 2 + 1 + _ = _; omega
structure Ts (d : PyData) : Prop where
  nd : Nd (10 ^ 60) 3 d
  blk : d.bulk ≤ 1000
theorem Ts.th {d : PyData} (h : Ts d) : Th d := ⟨h.blk, nd_shaped h.nd (by decide)⟩
theorem big_of {n : Int} (h0 : 0 ≤ n) (h1 : n < 8192) : n.natAbs ≤ 10 ^ 60 :=
  Nat.le_trans (m := 10 ^ 4) (by omega) (Nat.pow_le_pow_right (by decide) (by decide))
theorem prs_ts {ps : List (Int × Int)} (h : ∀ p ∈ ps, p.1.natAbs ≤ 10 ^ 60 ∧ p.2.natAbs ≤ 10 ^ 60) (hl : ps.length ≤ 16) : Ts (.tuple (ps.map prD)) := by
  refine ⟨nd_tup (D := 2) fun x m => ?_, ?_⟩
  · obtain ⟨p, mp, rfl⟩ := List.mem_map.mp m
    exact nd_tup (D := 1) (nds_cons (nd_int (h p mp).1) (nds_cons (nd_int (h p mp).2) nds_nil))
  · show PyData.bulkAll (ps.map prD) ≤ 1000
    rw [bulk_prs]; omega
theorem ints_ts {l : List Int} (h : ∀ x ∈ l, x.natAbs ≤ 10 ^ 60) (hl : l.length ≤ 40) : Ts (.tuple (l.map .int)) := by
  refine ⟨nd_tup (D := 2) fun x m => ?_, ?_⟩
  · obtain ⟨p, mp, rfl⟩ := List.mem_map.mp m
    exact nd_int (h p mp)
  · show PyData.bulkAll (l.map .int) ≤ 1000
    rw [bulk_ints]; omega
theorem told_ts {R : List Rw} {d : PyData} (hg : Good R) (h : Told R d) : (∃ p, d = .tuple [.str "ring", p] ∧ Ts p ∧ isTold (out R p) = true) ∨ ∃ p, d = .tuple [.str "ranks", p] ∧ Ts p ∧ Rk.isTold (Rk.out R p) = true := by
  rcases h with ⟨C, rfl, hr, hl⟩ | ⟨ks, rfl, hk⟩
  · refine .inl ⟨_, rfl, ints_ts (fun x m => ?_) (by omega), ring_let hg hr⟩
    obtain ⟨k, hk, rfl⟩ := List.getElem_of_mem m
    have e := hr.2 k hk
    obtain ⟨⟨r, mr, er⟩, _⟩ := wp_hand (nxt_mem e)
    have := hg.big r mr
    rw [← er]
    exact big_of this.1 (by omega)
  · have hl : ks.length ≤ 8 := by
      have h2 : (ks.map (·.1)).length = (R.map (·.h)).length := by rw [hk.hands]
      rw [List.length_map, List.length_map] at h2
      rw [h2]; exact hg.few
    have e : ks.map rkD = (ks.map fun p => (p.1, (p.2 : Int))).map prD := by rw [List.map_map]; rfl
    refine .inr ⟨_, rfl, ?_, ranks_let hg hk⟩
    rw [e]
    refine prs_ts (fun p m => ?_) (by rw [List.length_map]; omega)
    obtain ⟨q, mq, rfl⟩ := List.mem_map.mp m
    have : q.1 ∈ R.map (·.h) := by rw [← hk.hands]; exact List.mem_map.mpr ⟨_, mq, rfl⟩
    obtain ⟨r, mr, er⟩ := List.mem_map.mp this
    have b := hg.big r mr
    have c := (hk.ends q mq).2
    have w := Nat.le_trans wp_len hg.few
    refine ⟨by show q.1.natAbs ≤ _; rw [← er]; exact big_of b.1 (by omega), by show ((q.2 : Int)).natAbs ≤ _; exact big_of (Int.natCast_nonneg _) (by omega)⟩
theorem lst_shaped {gs : List PyData} (h : ∀ d ∈ gs, Ts d) : SeqAt.shaped (.list gs) = true := nd_shaped (N := 10 ^ 60) (D := 4) (nd_lst fun y m => (h y m).nd) (by decide)
theorem notin_ts {gs : List PyData} {d : PyData} (h : ∀ d ∈ gs, Ts d) (m : d ∈ gs) : inT true (.d d) (.d (.list gs)) = some (.val (.bool false)) := by
  have hd := h d m
  have e : (gs.any fun z => PyData.eqv z d) = true := List.any_eq_true.mpr ⟨d, m, SeqAt.eqv_refl d hd.nd.lay⟩
  have key : ∀ a : PyData, SeqAt.shaped a = true → inN true (.d a) (.d (.list gs)) = some (.val (.bool (!(gs.any fun z => PyData.eqv z a)))) := by
    intro a ha
    have e1 : inN true (.d a) (.d (.list gs)) = inG true (.d a) (.d (.list gs)) := by
      unfold inN
      split <;> first | rfl | (rename_i h1 h3; cases h3)
    rw [e1]
    show (if SeqAt.shaped a && SeqAt.shaped (.list gs) then _ else none).map _ = _
    rw [if_pos (by rw [ha, lst_shaped h]; rfl)]
    rfl
  have e2 : inT true (.d d) (.d (.list gs)) = inN true (.d d) (.d (.list gs)) := rfl
  rw [e2, key d (nd_shaped hd.nd (by decide)), e]
  rfl
theorem ne_nil {gs : List PyData} (h : ∀ d ∈ gs, Ts d) : neF (.d (.list gs)) (.d (.list [])) = some (.val (.bool (!decide (gs = [])))) := by
  refine (eq_shaped (neg := true) (d := .list gs) (e := .list []) (lst_shaped h) rfl).trans ?_
  cases gs <;> rfl
/-! ### the law -/
abbrev cT (A : Addr) (f : FSpec → FSpec → FSpec → FSpec → FSpec → FSpec → FSpec → FSpec → Addr → WS) : WS := f C_tape C_wanting C_ringed C_ror C_pick (C_prs false) (C_lets A) (Rk.C_lets A) A
theorem tape_at {δ : SEnv} {ns : List Int} {s : Sl} {Ex : XP} {P : R → SEnv → Prop} (hi : δ[0]? = some (some s)) (hs : Scr ns s) (k : ∀ ds, Tp ds → P (.n (.l ds)) δ) : wCall 1 C_tape [false] (wCons (wVar 0) wNil) Ex δ P := by
  rcases hs with rfl | rfl
  · unfold wCall
    refine ⟨_, hi, _, rfl, _, rfl, ([.d _], δ), rfl, rfl, List.nodup_nil, ?_⟩
    refine ⟨[.d (.list (ns.map .int))], rfl, ⟨_, ns, rfl, .inl rfl⟩, fun r ss' ⟨e1, ds, e2, hf⟩ _ => ?_⟩
    subst e1 e2
    exact ⟨_, rfl, k ds hf⟩
  · unfold wCall
    refine ⟨_, hi, _, rfl, _, rfl, ([.w _], δ), rfl, rfl, List.nodup_nil, ?_⟩
    refine ⟨[.w (.list (ns.map .int))], rfl, ⟨_, ns, rfl, .inr rfl⟩, fun r ss' ⟨e1, ds, e2, hf⟩ _ => ?_⟩
    subst e1 e2
    exact ⟨_, rfl, k ds hf⟩
theorem call_lets {A : Addr} {wa wb : WE} {δ δ1 δ2 : SEnv} {R : List Rw} {d : PyData} {Ex : XP} {P : DL.R → SEnv → Prop} (hm : ∀ Q : DL.R → SEnv → Prop, Q (.d (.tuple (R.map rowD))) δ1 → wa Ex δ Q) (hm2 : ∀ Q : DL.R → SEnv → Prop, Q (.d d) δ2 → wb Ex δ1 Q) (hg : Good R) (ht : Th d)
    (k : (out R d).end_ A Ex fun n => P (.d n) δ2) : wCall 2 (C_lets A) [false, false] (wCons wa (wCons wb wNil)) Ex δ P := by
  unfold wCall
  refine hm _ ?_
  refine ⟨_, rfl, ?_⟩
  refine hm2 _ ?_
  refine ⟨_, rfl, ?_⟩
  refine ⟨([.d (.tuple (R.map rowD)), .d d], δ2), rfl, rfl, List.nodup_nil, ?_⟩
  refine ⟨[.d (.tuple (R.map rowD)), .d d], rfl, R, d, rfl, hg, ht, ?_⟩
  revert k
  cases out R d with
  | told n => exact fun k _ => ⟨_, rfl, k⟩
  | no w a => exact fun k => k
theorem call_letsR {A : Addr} {wa wb : WE} {δ δ1 δ2 : SEnv} {R : List Rw} {d : PyData} {Ex : XP} {P : DL.R → SEnv → Prop} (hm : ∀ Q : DL.R → SEnv → Prop, Q (.d (.tuple (R.map rowD))) δ1 → wa Ex δ Q) (hm2 : ∀ Q : DL.R → SEnv → Prop, Q (.d d) δ2 → wb Ex δ1 Q) (hg : Good R) (ht : Rk.Th d)
    (k : (Rk.out R d).end_ A Ex fun n => P (.d n) δ2) : wCall 2 (Rk.C_lets A) [false, false] (wCons wa (wCons wb wNil)) Ex δ P := by
  unfold wCall
  refine hm _ ?_
  refine ⟨_, rfl, ?_⟩
  refine hm2 _ ?_
  refine ⟨_, rfl, ?_⟩
  refine ⟨([.d (.tuple (R.map rowD)), .d d], δ2), rfl, rfl, List.nodup_nil, ?_⟩
  refine ⟨[.d (.tuple (R.map rowD)), .d d], rfl, R, d, rfl, hg, ht, ?_⟩
  revert k
  cases Rk.out R d with
  | told n => exact fun k _ => ⟨_, rfl, k⟩
  | no w a => exact fun k => k
section
variable {A : Addr} {e : DEnds} {δ : SEnv} {S : List Rw} {d : PyData} {wa : WS}
theorem ring_at (e3 : (dOnly δ)[3]? = some (some (.d (.tuple (S.map rowD))))) (e11 : (dOnly δ)[11]? = some (some (.d d))) (hg : Good S) (ht : Th d) (k1 : isTold (out S d) = true → wa e δ) (k2 : isTold (out S d) = false → e.nx δ) :
    wIfSaid A "word" "at" (wCall 2 (C_lets A) [false, false] (wCons (wVar 3) (wCons (wVar 11) wNil))) "told" wa e δ := by
  unfold wIfSaid wSaid
  refine call_lets (R := S) (d := d) (δ1 := dOnly δ) (δ2 := dOnly δ) (fun Q h => ⟨_, e3, _, rfl, h⟩) (fun Q h => ⟨_, e11, _, rfl, h⟩) hg ht ?_
  revert k1 k2
  cases out S d with
  | told n => exact fun k1 _ => ⟨_, rfl, "told", rfl, (show (if ("told" : Str) = "told" then wa e δ else e.nx δ) from by rw [if_pos rfl]; exact k1 rfl)⟩
  | no w a => exact fun _ k2 => ⟨_, _, rfl, "no", rfl, (show (if ("no" : Str) = "told" then wa e δ else e.nx δ) from by rw [if_neg (by decide)]; exact k2 rfl)⟩
theorem ranks_at (e3 : (dOnly δ)[3]? = some (some (.d (.tuple (S.map rowD))))) (e11 : (dOnly δ)[11]? = some (some (.d d))) (hg : Good S) (ht : Rk.Th d) (k1 : Rk.isTold (Rk.out S d) = true → wa e δ) (k2 : Rk.isTold (Rk.out S d) = false → e.nx δ) :
    wIfSaid A "word" "at" (wCall 2 (Rk.C_lets A) [false, false] (wCons (wVar 3) (wCons (wVar 11) wNil))) "told" wa e δ := by
  unfold wIfSaid wSaid
  refine call_letsR (R := S) (d := d) (δ1 := dOnly δ) (δ2 := dOnly δ) (fun Q h => ⟨_, e3, _, rfl, h⟩) (fun Q h => ⟨_, e11, _, rfl, h⟩) hg ht ?_
  revert k1 k2
  cases Rk.out S d with
  | told n => exact fun k1 _ => ⟨_, rfl, "told", rfl, (show (if ("told" : Str) = "told" then wa e δ else e.nx δ) from by rw [if_pos rfl]; exact k1 rfl)⟩
  | no w a => exact fun _ k2 => ⟨_, _, rfl, "no", rfl, (show (if ("no" : Str) = "told" then wa e δ else e.nx δ) from by rw [if_neg (by decide)]; exact k2 rfl)⟩
end
end V41
set_option Elab.async false
set_option linter.all false
set_option maxRecDepth 100000
set_option maxHeartbeats 1000000
set_option autoImplicit false
set_option exponentiation.threshold 20000
namespace V41
open PySem PySem.Spec PyProof.Rows L2 DL
local macro_rules | `(tactic| pv_short) => `(tactic| repeat first | refine Exists.intro _ (And.intro rfl ?_) | refine ifT rfl ?_ | refine ifF rfl ?_ | refine Exists.intro _ (And.intro (if_pos (by first | assumption | decide | exact ⟨by assumption, by decide⟩ | exact ⟨by assumption, by assumption⟩)) ?_) | refine And.intro (show List.length _ ≤ sizeLine from Nat.le_of_ble_eq_true rfl) ?_ | refine And.intro (Nat.le_of_ble_eq_true rfl) ?_)
abbrev hsD (S : List Rw) : List PyData := (S.map (·.h)).map .int ++ [.int 5]
abbrev lawE (s0 : Sl) (ds : List PyData) (R S : List Rw) (s4 s5 s6 s7 s8 s9 s10 s11 s12 s13 s14 s15 s16 : Option Sl) : SEnv := [some s0, some (.o false (.l ds)), some (.d (.tuple (R.map rowD))), some (.d (.tuple (S.map rowD))), s4, s5, s6, s7, s8, s9, s10, s11, s12, s13, s14, s15, s16]
abbrev LK (e : DEnds) (s0 : Sl) (R S : List Rw) : Prop := ∀ ds' s4 s5 s6 s7 s8 s9 s10 s11 s12 s13 s14 s15 s16, Tp ds' → e.nx (lawE s0 ds' R S s4 s5 s6 s7 s8 s9 s10 s11 s12 s13 s14 s15 s16)
section
variable {A : Addr} {e : DEnds} {s0 : Sl} {ds gs hs : List PyData} {R S : List Rw}
theorem eq_strs (x y : Str) : eqF (.d (.str x)) (.d (.str y)) = some (.val (.bool (decide (x = y)))) := by
  show (if SeqAt.shaped (.str x) && SeqAt.shaped (.str y) || strs2 (.str x) (.str y) then some (Rv.val (.bool (if false = true then !PyData.eqv (.str x) (.str y) else PyData.eqv (.str x) (.str y)))) else none) = _
  rw [if_pos (by rw [show strs2 (.str x) (.str y) = true from rfl, Bool.or_true]), ← str_beq]
  have : decide (V.str x = V.str y) = decide (x = y) := decide_eq_decide.mpr ⟨fun z => by cases z; rfl, fun z => by rw [z]⟩
  rw [this]
  rfl
abbrev tR (S : List Rw) (d : PyData) : Bool := isTold (out S d)
abbrev tK (S : List Rw) (d : PyData) : Bool := Rk.isTold (Rk.out S d)
/-- the end of a turn: what was let by -/
theorem law_17 {w p : PyData} {s4 s5 s8 s9 s10 s11 s12 s13 s14 : Option Sl} (hT : Tp ds) (h1 : ∀ d ∈ gs, Ts d) (h2 : ∀ d ∈ hs, Ts d) (t1 : ∀ d ∈ gs, tR S d = true) (t2 : ∀ d ∈ hs, tK S d = true) (hw : (w = .str "ring" ∧ p ∈ gs) ∨ (w = .str "ranks" ∧ p ∈ hs)) (k : LK e s0 R S) :
    cT A t_law_17 e (lawE s0 ds R S s4 s5 (some (.d w)) (some (.d p)) s8 s9 s10 s11 s12 s13 s14 (some (.o false (.l gs))) (some (.o false (.l hs)))) := by
  have rest : cT A t_law_15 e (lawE s0 ds R S s4 s5 (some (.d w)) (some (.d p)) s8 s9 s10 s11 s12 s13 s14 (some (.o false (.l gs))) (some (.o false (.l hs)))) := by
    unfold t_law_15
    pv_short
    rcases hw with ⟨rfl, m⟩ | ⟨rfl, m⟩
    · refine Exists.intro _ (And.intro (inT_scal (neg := true) (d := .str "ring") (ds := [.str "ring", .str "ranks"]) rfl rfl) ?_)
      refine Exists.intro _ (And.intro (show isB (.d (.bool _)) = some false by decide) ?_)
      pv_short
      unfold t_law_13 x_law_11
      pv_short
      refine Exists.intro _ (And.intro ((eq_strs "ring" "ring").trans (by rw [decide_eq_true rfl])) ?_)
      pv_short
      refine Exists.intro _ (And.intro (notin_ts h1 m) ?_)
      pv_short
      exact k _ _ _ _ _ _ _ _ _ _ _ _ _ _ hT
    · refine Exists.intro _ (And.intro (inT_scal (neg := true) (d := .str "ranks") (ds := [.str "ring", .str "ranks"]) rfl rfl) ?_)
      refine Exists.intro _ (And.intro (show isB (.d (.bool _)) = some false by decide) ?_)
      pv_short
      unfold t_law_13 x_law_11
      pv_short
      refine Exists.intro _ (And.intro ((eq_strs "ranks" "ring").trans (by rw [decide_eq_false (by decide)])) ?_)
      pv_short
      refine Exists.intro _ (And.intro (notin_ts h2 m) ?_)
      pv_short
      exact k _ _ _ _ _ _ _ _ _ _ _ _ _ _ hT
  unfold t_law_17
  pv_short
  refine Exists.intro _ (And.intro (ne_nil h1) ?_)
  by_cases g0 : gs = []
  · rw [decide_eq_true g0]
    pv_short
    exact rest
  · rw [decide_eq_false g0]
    pv_short
    refine Exists.intro _ (And.intro (ne_nil h2) ?_)
    have h0 : hs = [] := by
      obtain ⟨x, gs', rfl⟩ := List.exists_cons_of_ne_nil g0
      cases hs with
      | nil => rfl
      | cons y hs => exact (no_both (t1 x (List.mem_cons_self ..)) (t2 y (List.mem_cons_self ..))).elim
    rw [decide_eq_true h0]
    pv_short
    exact rest
end
end V41
set_option Elab.async false
set_option linter.all false
set_option maxRecDepth 100000
set_option maxHeartbeats 1000000
set_option autoImplicit false
set_option exponentiation.threshold 20000
namespace V41
open PySem PySem.Spec PyProof.Rows L2 DL
local macro_rules | `(tactic| pv_short) => `(tactic| repeat first | refine Exists.intro _ (And.intro rfl ?_) | refine ifT rfl ?_ | refine ifF rfl ?_ | refine Exists.intro _ (And.intro (if_pos (by first | assumption | decide | exact ⟨by assumption, by decide⟩ | exact ⟨by assumption, by assumption⟩)) ?_) | refine And.intro (show List.length _ ≤ sizeLine from Nat.le_of_ble_eq_true rfl) ?_ | refine And.intro (Nat.le_of_ble_eq_true rfl) ?_)
section
variable {A : Addr} {e : DEnds} {s0 : Sl} {ds gs hs rg rk : List PyData} {R S : List Rw}
theorem filter_snoc (f : PyData → Bool) (pre : List PyData) (x : PyData) : (pre ++ [x]).filter f = pre.filter f ++ (if f x = true then [x] else []) := by
  rw [List.filter_append]
  congr 1
  by_cases h : f x = true
  · rw [if_pos h, List.filter_cons, if_pos h]; rfl
  · rw [if_neg h, List.filter_cons, if_neg h]; rfl
theorem law_20 {w p : PyData} {s4 s5 s10 s11 s12 s13 s14 s15 s16 : Option Sl} (hT : Tp ds) (hg : Good S) (h1 : ∀ d ∈ rg, Ts d) (h2 : ∀ d ∈ rk, Ts d) (l1 : rg.length ≤ 100) (l2 : rk.length ≤ 100) (m1 : p ∈ rg) (m2 : p ∈ rk) (hw : (w = .str "ring" ∧ tR S p = true) ∨ (w = .str "ranks" ∧ tK S p = true)) (k : LK e s0 R S) :
    cT A t_law_20 e (lawE s0 ds R S s4 s5 (some (.d w)) (some (.d p)) (some (.o false (.l rg))) (some (.o false (.l rk))) s10 s11 s12 s13 s14 s15 s16) := by
  unfold t_law_20
  pv_short
  show cT A t_law_19 e (lawE s0 ds R S s4 s5 (some (.d w)) (some (.d p)) (some (.o false (.l rg))) (some (.o false (.l rk))) s10 s11 s12 s13 s14 (some (.o false (.l []))) (some (.o false (.l []))))
  unfold t_law_19
  pv_short
  show wForR _ _ rg _ _
  refine for_inv (fun pre δ => ∃ s11, δ = lawE s0 ds R S s4 s5 (some (.d w)) (some (.d p)) (some (.d (.list rg))) (some (.o false (.l rk))) s10 s11 s12 s13 s14 (some (.o false (.l (pre.filter (tR S))))) (some (.o false (.l [])))) ?_ ?_ ⟨_, rfl⟩
  · rintro δ ⟨s11, rfl⟩
    unfold t_law_18
    pv_short
    show wForR _ _ rk _ _
    refine for_inv (fun pre δ => ∃ s11, δ = lawE s0 ds R S s4 s5 (some (.d w)) (some (.d p)) (some (.d (.list rg))) (some (.d (.list rk))) s10 s11 s12 s13 s14 (some (.o false (.l (rg.filter (tR S))))) (some (.o false (.l (pre.filter (tK S)))))) ?_ ?_ ⟨_, rfl⟩
    · rintro δ ⟨s11, rfl⟩
      refine law_17 hT (fun d m => h1 d (List.mem_filter.mp m).1) (fun d m => h2 d (List.mem_filter.mp m).1) (fun d m => (List.mem_filter.mp m).2) (fun d m => (List.mem_filter.mp m).2) ?_ k
      rcases hw with ⟨hw, ht⟩ | ⟨hw, ht⟩
      · exact .inl ⟨hw, List.mem_filter.mpr ⟨m1, ht⟩⟩
      · exact .inr ⟨hw, List.mem_filter.mpr ⟨m2, ht⟩⟩
    · rintro pre x post δ Q eR ⟨s11, rfl⟩ hQ
      have hx := h2 x (by rw [eR]; exact List.mem_append_right _ (List.mem_cons_self ..))
      have hlen : (pre.filter (tK S)).length < sizeLine := Nat.lt_of_le_of_lt (m := 100) (Nat.le_trans (List.length_filter_le _ _) (by have := congrArg List.length eR; rw [List.length_append, List.length_cons] at this; omega)) (by decide)
      pv_short
      unfold t_law_10
      refine ranks_at (S := S) (d := x) rfl rfl hg ⟨hx.blk⟩ (fun t => ?_) (fun t => ?_)
      · unfold t_law_9
        pv_short
        refine And.intro hlen ?_
        pv_short
        refine hQ _ ⟨some (.d x), ?_⟩
        rw [filter_snoc, if_pos t]
        rfl
      · refine hQ _ ⟨some (.d x), ?_⟩
        rw [filter_snoc, if_neg (by rw [show tK S x = false from t]; decide), List.append_nil]
        rfl
  · rintro pre x post δ Q eR ⟨s11, rfl⟩ hQ
    have hx := h1 x (by rw [eR]; exact List.mem_append_right _ (List.mem_cons_self ..))
    have hlen : (pre.filter (tR S)).length < sizeLine := Nat.lt_of_le_of_lt (m := 100) (Nat.le_trans (List.length_filter_le _ _) (by have := congrArg List.length eR; rw [List.length_append, List.length_cons] at this; omega)) (by decide)
    pv_short
    unfold t_law_8
    refine ring_at (S := S) (d := x) rfl rfl hg hx.th (fun t => ?_) (fun t => ?_)
    · unfold t_law_7
      pv_short
      refine And.intro hlen ?_
      pv_short
      refine hQ _ ⟨some (.d x), ?_⟩
      rw [filter_snoc, if_pos t]
      rfl
    · refine hQ _ ⟨some (.d x), ?_⟩
      rw [filter_snoc, if_neg (by rw [show tR S x = false from t]; decide), List.append_nil]
      rfl
theorem hs_at (hg : Good S) {x : PyData} (m : x ∈ hsD S) : ∃ n : Int, x = .int n ∧ n.natAbs ≤ 10 ^ 60 := by
  rcases List.mem_append.mp m with m | m
  · obtain ⟨n, mn, rfl⟩ := List.mem_map.mp m
    obtain ⟨r, mr, rfl⟩ := List.mem_map.mp mn
    have b := hg.big r mr
    exact ⟨_, rfl, big_of b.1 (by omega)⟩
  · rw [List.mem_singleton] at m
    exact ⟨5, m, big_of (by decide) (by decide)⟩
theorem hs_len : (hsD S).length = S.length + 1 := by rw [List.length_append, List.length_map, List.length_map]; rfl
/-- a row's hand with a draw: the list -/
theorem draws_lc {s4 s6 s7 s8 s9 s10 s11 s12 s13 s14 s15 s16 : Option Sl} {P : List PyData → SEnv → Prop} : ∀ {R' : List Rw} {acc : List (Int × Int)} {ds : List PyData} {δ : SEnv}, forgetAll δ [5] = lawE s0 ds R S s4 none s6 s7 s8 s9 s10 s11 s12 s13 s14 s15 s16 → Tp ds → acc.length + R'.length ≤ 1000 →
    (∀ (ds' : List PyData) (qs : List (Int × Int)) (δ' : SEnv), Tp ds' → qs.map (·.1) = acc.map (·.1) ++ R'.map (·.h) → (∀ q ∈ qs, q ∈ acc ∨ (0 ≤ q.2 ∧ q.2 < 5)) → forgetAll δ' [5] = lawE s0 ds' R S s4 none s6 s7 s8 s9 s10 s11 s12 s13 s14 s15 s16 → P (qs.map prD) δ') →
    wLcR (gN 5) wYes (wTup (wCons (wOp idxF (wVar 5) (wC (.int 0))) (wCons (wCall 2 C_pick [true, false] (wCons (wVar 1) (wCons (wC (.int 5)) wNil))) wNil))) [5] (R'.map rowD) (acc.map prD) δ P
  | [], acc, ds, δ, hd, hT, _, k => k ds acc δ hT (by simp) (fun q m => .inl m) hd
  | r :: R', acc, ds, δ, hd, hT, hl, k => by
    rw [List.map_cons]
    unfold wLcR
    rw [hd]
    rw [List.length_cons] at hl
    pv_short
    refine pick_at (i := 1) (m := 5) hT (by decide) (by decide) rfl (fun Q h => by pv_short; exact h) fun ds1 v hT1 v0 v1 => ?_
    pv_short
    have hacc : (acc.map prD).length < sizeLine := by
      rw [List.length_map]
      exact Nat.lt_of_lt_of_le (m := 1001) (by omega) (by decide)
    refine And.intro hacc ?_
    have e9 : acc.map prD ++ [.tuple [.int r.h, .int v]] = (acc ++ [(r.h, v)]).map prD := by rw [List.map_append]; rfl
    show wLcR _ _ _ _ _ (acc.map prD ++ [.tuple [.int r.h, .int v]]) _ _
    rw [e9]
    refine draws_lc (ds := ds1) (acc := acc ++ [(r.h, v)]) rfl hT1 (by rw [List.length_append, List.length_singleton]; omega) fun ds' qs δ' hT' e1 e2 e3 => ?_
    refine k ds' qs δ' hT' (by rw [e1, List.map_append, List.append_assoc]; rfl) (fun q m => ?_) e3
    rcases e2 q m with m | m
    · rcases List.mem_append.mp m with m | m
      · exact .inl m
      · rw [List.mem_singleton.mp m]; exact .inr ⟨v0, v1⟩
    · exact .inr m
end
end V41
set_option Elab.async false
set_option linter.all false
set_option maxRecDepth 100000
set_option maxHeartbeats 1000000
set_option autoImplicit false
set_option exponentiation.threshold 20000
namespace V41
open PySem PySem.Spec PyProof.Rows L2 DL
local macro_rules | `(tactic| pv_short) => `(tactic| repeat first | refine Exists.intro _ (And.intro rfl ?_) | refine ifT rfl ?_ | refine ifF rfl ?_ | refine Exists.intro _ (And.intro (if_pos (by first | assumption | decide | exact ⟨by assumption, by decide⟩ | exact ⟨by assumption, by assumption⟩)) ?_) | refine And.intro (show List.length _ ≤ sizeLine from Nat.le_of_ble_eq_true rfl) ?_ | refine And.intro (Nat.le_of_ble_eq_true rfl) ?_)
theorem add_lst {a b : List PyData} (h : a.length + b.length ≤ 1000000) : addF (.d (.list a)) (.d (.list b)) = some (.lst (a ++ b)) := by
  have e : sizeLine = 16777216 := by decide
  exact if_pos (by omega)
section
variable {A : Addr} {e : DEnds} {s0 : Sl} {ds rg rk : List PyData} {R S : List Rw}
abbrev gd (S : List Rw) : Option Sl := some (.o false (.k ((wp S).map kvP)))
theorem law_2 {l : List Int} {s6 s7 s10 s11 s12 s14 s15 s16 : Option Sl} (hT : Tp ds) (hg : Good S) (h1 : ∀ d ∈ rg, Ts d) (h2 : ∀ d ∈ rk, Ts d) (l1 : rg.length ≤ 90) (l2 : rk.length ≤ 90) (hl : l.length ≤ 20) (hb : ∀ x ∈ l, x.natAbs ≤ 10 ^ 60) {s5 : Option Sl}
    (k : ∀ ds' x y s5, Tp ds' → Ts x → Ts y → e.nx (lawE s0 ds' R S (some (.o false (.l (hsD S)))) s5 s6 s7 (some (.o false (.l (rg ++ [x])))) (some (.o false (.l (rk ++ [y])))) s10 s11 s12 (some (.o false (.l (l.map .int)))) s14 s15 s16)) :
    cT A t_law_2 e (lawE s0 ds R S (some (.o false (.l (hsD S)))) s5 s6 s7 (some (.o false (.l rg))) (some (.o false (.l rk))) s10 s11 s12 (some (.o false (.l (l.map .int)))) s14 s15 s16) := by
  unfold t_law_2
  pv_short
  refine And.intro (show rg.length < sizeLine from Nat.lt_of_le_of_lt l1 (by decide)) ?_
  pv_short
  show cT A t_law_1 e (lawE s0 ds R S (some (.o false (.l (hsD S)))) s5 s6 s7 (some (.o false (.l (rg ++ [.tuple (l.map .int)])))) (some (.o false (.l rk))) s10 s11 s12 (some (.o false (.l (l.map .int)))) s14 s15 s16)
  unfold t_law_1
  pv_short
  refine draws_lc (R' := S) (acc := []) (ds := ds) (δ := lawE s0 ds R S (some (.o false (.l (hsD S)))) s5 s6 s7 (some (.o false (.l (rg ++ [.tuple (l.map .int)])))) (some (.o false (.l rk))) s10 s11 s12 (some (.o false (.l (l.map .int)))) s14 s15 s16) rfl hT (by have := hg.few; simp only [List.length_nil]; omega) fun ds1 qs δ' hT1 e1 e2 e3 => ?_
  rw [e3]
  obtain ⟨s5', e5⟩ : ∃ s5', restore (lawE s0 ds R S (some (.o false (.l (hsD S)))) s5 s6 s7 (some (.o false (.l (rg ++ [.tuple (l.map .int)])))) (some (.o false (.l rk))) s10 s11 s12 (some (.o false (.l (l.map .int)))) s14 s15 s16) (lawE s0 ds1 R S (some (.o false (.l (hsD S)))) none s6 s7 (some (.o false (.l (rg ++ [.tuple (l.map .int)])))) (some (.o false (.l rk))) s10 s11 s12 (some (.o false (.l (l.map .int)))) s14 s15 s16) [5] = lawE s0 ds1 R S (some (.o false (.l (hsD S)))) s5' s6 s7 (some (.o false (.l (rg ++ [.tuple (l.map .int)])))) (some (.o false (.l rk))) s10 s11 s12 (some (.o false (.l (l.map .int)))) s14 s15 s16 := by
    cases s5 with
    | none => exact ⟨_, rfl⟩
    | some z => cases z <;> exact ⟨_, rfl⟩
  rw [e5]
  have hq : ∀ q ∈ qs, q.1.natAbs ≤ 10 ^ 60 ∧ q.2.natAbs ≤ 10 ^ 60 := fun q m => by
    have m1 : q.1 ∈ S.map (·.h) := by
      have : q.1 ∈ qs.map (·.1) := List.mem_map.mpr ⟨q, m, rfl⟩
      rw [e1] at this
      simpa using this
    obtain ⟨r, mr, er⟩ := List.mem_map.mp m1
    have b := hg.big r mr
    rw [← er]
    rcases e2 q m with z | z
    · cases z
    · exact ⟨big_of b.1 (by omega), big_of z.1 (by omega)⟩
  have hlq : qs.length ≤ 16 := by
    have := congrArg List.length e1
    simp at this
    have := hg.few
    omega
  pv_short
  refine And.intro (show rk.length < sizeLine from Nat.lt_of_le_of_lt l2 (by decide)) ?_
  pv_short
  exact k ds1 _ _ s5' hT1 (ints_ts hb (by omega)) (prs_ts hq hlq)
theorem law_3 {l : List Int} {s5 s6 s7 s8 s9 s10 s11 s14 s15 s16 : Option Sl} (hT : Tp ds) (hg : Good S) (hl : l.length ≤ 20) (hl0 : l ≠ []) (hb : ∀ x ∈ l, x.natAbs ≤ 10 ^ 60)
    (k : ∀ ds' x, Tp ds' → x.natAbs ≤ 10 ^ 60 → e.nx (lawE s0 ds' R S (some (.o false (.l (hsD S)))) s5 s6 s7 s8 s9 s10 s11 (gd S) (some (.o false (.l ((l ++ [x]).map .int)))) s14 s15 s16)) :
    cT A t_law_3 e (lawE s0 ds R S (some (.o false (.l (hsD S)))) s5 s6 s7 s8 s9 s10 s11 (gd S) (some (.o false (.l (l.map .int)))) s14 s15 s16) := by
  have h8 := hg.few
  have hh := hs_len (S := S)
  obtain ⟨l0, z, rfl⟩ : ∃ l0 z, l = l0 ++ [z] := ⟨l.dropLast, l.getLast hl0, (List.dropLast_concat_getLast hl0).symm⟩
  unfold t_law_3
  pv_short
  refine Exists.intro _ (And.intro (idx_last l0 z) ?_)
  pv_short
  refine pick_at (i := 1) (m := ((hsD S).length : Int)) hT (by omega) (log_few (by omega) (by omega)) rfl (fun Q h => by pv_short; exact h) fun ds1 j hT1 j0 j1 => ?_
  pv_short
  obtain ⟨x, ex, mx⟩ := idx_mem (ds := hsD S) (j := j) j0 j1
  refine Exists.intro _ (And.intro ex ?_)
  obtain ⟨n, rfl, hn⟩ := hs_at hg mx
  pv_short
  refine And.intro (show ((l0 ++ [z]).map PyData.int).length < sizeLine by rw [List.length_map]; exact Nat.lt_of_le_of_lt hl (by decide)) ?_
  have hk : (lookN ((wp S).map kvP) (some (Sum.inl z))).getD (PyData.int n) = .int ((nxt (wp S) z).getD n) := by
    show (lookD ((wp S).map kvP) (.inl z)).getD _ = _
    rw [look_ps]
    cases nxt (wp S) z <;> rfl
  have hv : ((nxt (wp S) z).getD n).natAbs ≤ 10 ^ 60 := by
    cases e0 : nxt (wp S) z with
    | none => exact hn
    | some v =>
      obtain ⟨_, r, mr, er⟩ := wp_hand (nxt_mem e0)
      have b := hg.big r mr
      show v.natAbs ≤ _
      rw [← er]
      exact big_of b.1 (by omega)
  have kk := k ds1 ((nxt (wp S) z).getD n) hT1 hv
  rw [List.map_append] at kk
  show e.nx (lawE s0 ds1 R S (some (.o false (.l (hsD S)))) s5 s6 s7 s8 s9 s10 s11 (gd S) (some (.o false (.l ((l0 ++ [z]).map PyData.int ++ [(lookN ((wp S).map kvP) (some (Sum.inl z))).getD (PyData.int n)])))) s14 s15 s16)
  rw [hk]
  exact kk
theorem law_5 {x : Int} {s5 s6 s7 s10 s12 s13 s14 s15 s16 : Option Sl} (hT : Tp ds) (hg : Good S) (h1 : ∀ d ∈ rg, Ts d) (h2 : ∀ d ∈ rk, Ts d) (l1 : rg.length ≤ 90) (l2 : rk.length ≤ 90) (hx : x.natAbs ≤ 10 ^ 60)
    (k : ∀ ds' a b s5 s11 s12 s13 s14, Tp ds' → Ts a → Ts b → e.nx (lawE s0 ds' R S (some (.o false (.l (hsD S)))) s5 s6 s7 (some (.o false (.l (rg ++ [a])))) (some (.o false (.l (rk ++ [b])))) s10 s11 s12 s13 s14 s15 s16)) :
    cT A t_law_5 e (lawE s0 ds R S (some (.o false (.l (hsD S)))) s5 s6 s7 (some (.o false (.l rg))) (some (.o false (.l rk))) s10 (some (.d (.int x))) s12 s13 s14 s15 s16) := by
  unfold t_law_5 wSeq wParO
  refine call_d (d := .tuple (S.map rowD)) (δ1 := lawE s0 ds R S (some (.o false (.l (hsD S)))) s5 s6 s7 (some (.o false (.l rg))) (some (.o false (.l rk))) s10 (some (.d (.int x))) s12 s13 s14 s15 s16) (fun Q h => by pv_short; exact h) ⟨S, rfl, hg⟩ fun r ss' ⟨e1, R', e2, _, e3⟩ => ⟨e1, ?_⟩
  have := rows_inj e2
  subst this
  subst e3
  pv_short
  refine Exists.intro _ (And.intro (show dictF [.d (.list ((wp S).map prD))] = some (.dk ((wp S).map kvP)) by
    show (pairsD ((wp S).map prD)).map _ = _
    rw [pairs_ps]
    show some (Rv.dk (mergeD [] ((wp S).map kvP))) = _
    rw [merge_ps (wp_keys hg)]) ?_)
  pv_short
  show cT A t_law_4 e (lawE s0 ds R S (some (.o false (.l (hsD S)))) s5 s6 s7 (some (.o false (.l rg))) (some (.o false (.l rk))) s10 (some (.d (.int x))) (gd S) (some (.o false (.l [.int x]))) s14 s15 s16)
  unfold t_law_4
  pv_short
  refine pick_at (i := 1) (m := 5) hT (by decide) (by decide) rfl (fun Q h => by pv_short; exact h) fun ds1 j hT1 j0 j1 => ?_
  pv_short
  refine And.intro ⟨by show (-2 ^ 62 : Int) ≤ 0; decide, by show (0 : Int) < 2 ^ 62; decide, by show (-2 ^ 62 : Int) ≤ j; omega, by show j < 2 ^ 62; omega⟩ ?_
  refine for_of (g := fun i : Nat => .int (0 + (i : Int))) (xs := List.range ((j : Int) - 0).toNat) (fun pre δ => ∃ ds' l s14, δ = lawE s0 ds' R S (some (.o false (.l (hsD S)))) s5 s6 s7 (some (.o false (.l rg))) (some (.o false (.l rk))) s10 (some (.d (.int x))) (gd S) (some (.o false (.l (l.map .int)))) s14 s15 s16 ∧ Tp ds' ∧ (∀ x ∈ l, x.natAbs ≤ 10 ^ 60) ∧ l.length = pre.length + 1) ?_ ?_ ⟨ds1, [x], s14, rfl, hT1, (fun y m => by rw [List.mem_singleton.mp m]; exact hx), rfl⟩
  · rintro δ ⟨ds', l, s14, rfl, hT', hb', hl'⟩
    rw [List.length_range] at hl'
    exact law_2 hT' hg h1 h2 l1 l2 (by omega) hb' fun ds2 a b s5 hT2 ta tb => k ds2 a b s5 _ _ _ _ hT2 ta tb
  · rintro pre i post δ Q eR ⟨ds', l, s14, rfl, hT', hb', hl'⟩ hQ
    have hp : pre.length < 5 := by
      have := congrArg List.length eR
      rw [List.length_range, List.length_append, List.length_cons] at this
      omega
    pv_short
    refine law_3 hT' hg (by omega) (fun z => by rw [z] at hl'; cases hl') hb' fun ds2 y hT2 hy => hQ _ ⟨ds2, l ++ [y], _, rfl, hT2, fun z m => ?_, by rw [List.length_append, List.length_append, hl']; rfl⟩
    rcases List.mem_append.mp m with m | m
    · exact hb' z m
    · rw [List.mem_singleton.mp m]; exact hy
theorem law_21 {w p : PyData} {s5 s10 s11 s12 s13 s14 s15 s16 : Option Sl} (hT : Tp ds) (hg : Good S) (hp : Ts p) (hw : (w = .str "ring" ∧ tR S p = true) ∨ (w = .str "ranks" ∧ tK S p = true)) (k : LK e s0 R S) :
    cT A t_law_21 e (lawE s0 ds R S (some (.o false (.l (hsD S)))) s5 (some (.d w)) (some (.d p)) (some (.o false (.l [p]))) (some (.o false (.l [p]))) s10 s11 s12 s13 s14 s15 s16) := by
  unfold t_law_21
  pv_short
  refine And.intro ⟨by show (-2 ^ 62 : Int) ≤ 0; decide, by show (0 : Int) < 2 ^ 62; decide, by show (-2 ^ 62 : Int) ≤ 6; decide, by show (6 : Int) < 2 ^ 62; decide⟩ ?_
  refine for_of (g := fun i : Nat => .int (0 + (i : Int))) (xs := List.range ((6 : Int) - 0).toNat) (fun pre δ => ∃ ds' rg rk s5 s10 s11 s12 s13 s14, δ = lawE s0 ds' R S (some (.o false (.l (hsD S)))) s5 (some (.d w)) (some (.d p)) (some (.o false (.l rg))) (some (.o false (.l rk))) s10 s11 s12 s13 s14 s15 s16 ∧ Tp ds' ∧ (∀ d ∈ rg, Ts d) ∧ (∀ d ∈ rk, Ts d) ∧ rg.length = 1 + pre.length ∧ rk.length = 1 + pre.length ∧ p ∈ rg ∧ p ∈ rk) ?_ ?_
    ⟨ds, [p], [p], s5, s10, s11, s12, s13, s14, rfl, hT, (fun d m => by rw [List.mem_singleton.mp m]; exact hp), (fun d m => by rw [List.mem_singleton.mp m]; exact hp), rfl, rfl, List.mem_singleton.mpr rfl, List.mem_singleton.mpr rfl⟩
  · rintro δ ⟨ds', rg, rk, s5, s10, s11, s12, s13, s14, rfl, hT', h1, h2, l1, l2, m1, m2⟩
    rw [List.length_range] at l1 l2
    have h6 : ((6 : Int) - 0).toNat = 6 := rfl
    exact law_20 hT' hg h1 h2 (by omega) (by omega) m1 m2 hw k
  · rintro pre i post δ Q eR ⟨ds', rg, rk, s5, s10, s11, s12, s13, s14, rfl, hT', h1, h2, l1, l2, m1, m2⟩ hQ
    have hpl : pre.length < 6 := by
      have := congrArg List.length eR
      rw [List.length_range, List.length_append, List.length_cons] at this
      have h6 : ((6 : Int) - 0).toNat = 6 := rfl
      omega
    have hh := hs_len (S := S)
    have h8 := hg.few
    pv_short
    unfold t_law_6
    pv_short
    refine pick_at (i := 1) (m := ((hsD S).length : Int)) hT' (by omega) (log_few (by omega) (by omega)) rfl (fun Q h => by pv_short; exact h) fun ds1 j hT1 j0 j1 => ?_
    pv_short
    obtain ⟨x, ex, mx⟩ := idx_mem (ds := hsD S) (j := j) j0 j1
    refine Exists.intro _ (And.intro ex ?_)
    obtain ⟨n, rfl, hn⟩ := hs_at hg mx
    pv_short
    refine law_5 hT1 hg h1 h2 (by omega) (by omega) hn fun ds2 a b s5 s11 s12 s13 s14 hT2 ta tb => hQ _ ⟨ds2, rg ++ [a], rk ++ [b], s5, _, s11, s12, s13, s14, rfl, hT2, fun d m => ?_, fun d m => ?_, by rw [List.length_append, List.length_append, l1]; rfl, by rw [List.length_append, List.length_append, l2]; rfl, List.mem_append_left _ m1, List.mem_append_left _ m2⟩
    · rcases List.mem_append.mp m with m | m
      · exact h1 d m
      · rw [List.mem_singleton.mp m]; exact ta
    · rcases List.mem_append.mp m with m | m
      · exact h2 d m
      · rw [List.mem_singleton.mp m]; exact tb
theorem law_24 {s4 s5 s6 s7 s8 s9 s10 s11 s12 s13 s14 s15 s16 : Option Sl} (hT : Tp ds) (hg : Good S) (k : LK e s0 R S) :
    cT A t_law_24 e (lawE s0 ds R S s4 s5 s6 s7 s8 s9 s10 s11 s12 s13 s14 s15 s16) := by
  have h8 := hg.few
  unfold t_law_24
  pv_short
  refine lc_of (g := rowD) (δf := lawE s0 ds R S s4 none s6 s7 s8 s9 s10 s11 s12 s13 s14 s15 s16) (fun _ => true) (fun r => .int r.h) rfl ?_ ?_ ?_
  · exact Nat.le_trans (m := 8) (by simpa using h8) (by decide)
  · rintro ⟨h, hs, w⟩ m Q1 Q2 k1 k2
    pv_short
    exact k1 rfl _ rfl
  intro δ' h'
  rw [List.nil_append, h', List.filter_eq_self.mpr (fun _ _ => rfl), show (S.map fun r => PyData.int r.h) = (S.map (·.h)).map .int by rw [List.map_map]; rfl]
  obtain ⟨s5', e5⟩ : ∃ s5', restore (lawE s0 ds R S s4 s5 s6 s7 s8 s9 s10 s11 s12 s13 s14 s15 s16) (lawE s0 ds R S s4 none s6 s7 s8 s9 s10 s11 s12 s13 s14 s15 s16) [5] = lawE s0 ds R S s4 s5' s6 s7 s8 s9 s10 s11 s12 s13 s14 s15 s16 := by
    cases s5 with
    | none => exact ⟨_, rfl⟩
    | some z => cases z <;> exact ⟨_, rfl⟩
  rw [e5]
  pv_short
  refine Exists.intro _ (And.intro (add_lst (a := (S.map (·.h)).map .int) (b := [.int 5]) (by rw [List.length_map, List.length_map]; show S.length + 1 ≤ _; omega)) ?_)
  pv_short
  show cT A t_law_23 e (lawE s0 ds R S (some (.o false (.l (hsD S)))) s5' s6 s7 s8 s9 s10 s11 s12 s13 s14 s15 s16)
  unfold t_law_23
  unfold wSeq wUnp
  refine call_d (d := .tuple (S.map rowD)) (δ1 := lawE s0 ds R S (some (.o false (.l (hsD S)))) s5' s6 s7 s8 s9 s10 s11 s12 s13 s14 s15 s16) (fun Q h => by pv_short; exact h) ⟨S, rfl, hg⟩ fun r ss' ⟨e1, R', d, e2, e3, ht⟩ => ⟨e1, ?_⟩
  have := rows_inj e2
  subst this
  subst e3
  rcases told_ts hg ht with ⟨p, rfl, hp, tp⟩ | ⟨p, rfl, hp, tp⟩
  · pv_short
    unfold t_law_22
    pv_short
    exact law_21 hT hg hp (.inl ⟨rfl, tp⟩) k
  · pv_short
    unfold t_law_22
    pv_short
    exact law_21 hT hg hp (.inr ⟨rfl, tp⟩) k
theorem law_27 (hT : Tp ds) (k : ∀ δ, δ[0]? = some (some s0) → e.rt (.d (.bool true)) δ) :
    cT A t_law_27 e [some s0, some (.o false (.l ds)), none, none, none, none, none, none, none, none, none, none, none, none, none, none, none] := by
  unfold t_law_27 wSeq wSet
  refine call_od (i := 1) (b := false) (c := .l ds) (d := .int 7) rfl rfl (fun Q h => by pv_short; exact h) ⟨ds, 7, rfl, hT, by decide, by decide⟩ fun r ss' ⟨ds0, ds1, mm', R1, e0, e1, hT1, hg1, hl1, e3⟩ => ⟨_, (by injection e0 with _ z; injection z with z _; injection z with z; injection z with z; subst z; exact e1), rfl, ?_⟩
  subst e3
  pv_short
  show cT A t_law_26 e [some s0, some (.o false (.l ds1)), some (.d (.tuple (R1.map rowD))), none, none, none, none, none, none, none, none, none, none, none, none, none, none]
  unfold t_law_26
  pv_short
  refine call_od (i := 1) (b := false) (c := .l ds1) (d := .tuple (R1.map rowD)) rfl rfl (fun Q h => by pv_short; exact h) ⟨ds1, R1, rfl, hT1, hg1, hl1⟩ fun r ss' ⟨ds2, ds3, R2, S2, e0, e1, hT3, hg3, hf3, e3⟩ => ⟨.l ds3, (by
    simp only [List.cons.injEq, Sl.d.injEq, PyData.tuple.injEq, and_true] at e0
    rw [map_inj (fun _ _ h => row_inj h) e0.2]; exact e1), rfl, ?_⟩
  subst e3
  pv_short
  refine law_24 (S := R1) (R := R1) (ds := ds3) hT3 hg1 fun ds4 s4 s5 s6 s7 s8 s9 s10 s11 s12 s13 s14 s15 s16 hT4 => ?_
  pv_short
  refine law_24 (S := S2) (R := R1) (ds := ds4) hT4 hg3 fun ds5 s4 s5 s6 s7 s8 s9 s10 s11 s12 s13 s14 s15 s16 hT5 => ?_
  unfold wForR t_law_25
  pv_short
  exact k _ rfl
theorem law_28 {ns : List Int} (hs : Scr ns s0) (k : ∀ δ, δ[0]? = some (some s0) → e.rt (.d (.bool true)) δ) :
    cT A t_law_28 e [some s0, none, none, none, none, none, none, none, none, none, none, none, none, none, none, none, none] := by
  unfold t_law_28
  refine tape_at rfl hs fun ds hT => ?_
  pv_short
  exact law_27 hT k
end
theorem law_ok (A : Addr) (ns : List Int) (s : Sl) (hs : Scr ns s) : wLaw 17 (cT A w_law) s := by
  show cT A w_law _ _
  rw [show cT A w_law = cT A t_law_28 from w_law_eq ..]
  refine law_28 hs fun δ h0 => ?_
  exact ⟨_, rfl, rfl⟩
end V41
set_option Elab.async false
set_option linter.all false
set_option maxRecDepth 100000
set_option maxHeartbeats 4000000
set_option autoImplicit false
namespace V41
open PySem PySem.Spec PyProof.Rows L2 DL
abbrev lawN : List Str := ["_law_script", "_law_tape_here", "_law_rows", "_law_some", "_law_hands", "_law_row", "_law_word", "_law_paper", "_law_rings", "_law_ranks", "_law_lap", "_law_one", "_law_goals", "_law_ring", "_law_k", "_law_ringed_here", "_law_ranked"]
theorem law_dsT {g : Gx} {gS cc P CD CR CT CO A CP : Addr} {fdS : FuncData} (g1 : Got g "is_number" s_is_number) (g2 : Got g "is_tuple_of" s_is_tuple_of) (g3 : Got g "is_pair_of_numbers" s_is_pair_of_numbers) (g4 : Got g "waiting_pairs" s_waiting_pairs) (g5 : Got g "ring_or_ranks" s_ring_or_ranks) (g6 : Got g "walked_from" s_walked_from) (g7 : Got g "lets_ring" s_lets_ring) (g8 : Got g "lets_ranks" s_lets_ranks) (g9 : Got g "_law_tape" s_tape) (g10 : Got g "_law_pick" s_pick) (g11 : Got g "_law_waits" s_waits) (g12 : Got g "_law_wanting" s_wanting) (g13 : Got g "_law_ringed" s_ringed)
    (m_isinstance : g.mg "isinstance" = none) (m_bool : g.mg "bool" = none) (m_int : g.mg "int" = none) (m_len : g.mg "len" = none) (m_tuple : g.mg "tuple" = none) (m_dict : g.mg "dict" = none) (m_enumerate : g.mg "enumerate" = none) (m_zip : g.mg "zip" = none) (m_all : g.mg "all" = none) (m_list : g.mg "list" = none) (m_max : g.mg "max" = none) (m_sorted : g.mg "sorted" = none) (m_set : g.mg "set" = none) (m_range : g.mg "range" = none) (m_min : g.mg "min" = none)
    (RN : RfC g A "word" "at") (mN : g.mg "NoPaper" = some (.ref A)) (m_said : g.mg "_law_said" = some (.ref gS)) (SF : SaidF g.K "_law_said" "_law_ask" "_law_found" "e" "_law_strange" "word" "at" pos_said s_said gS fdS) (SC : SaidC g.K g.mg CD CR CT CO A CP "word" "at") (E : XK) :
    DSsT ⟨g, CX0, lawN, defScope s_law, 13, E, true, false⟩ cc P (lamQ "law") (defBody s_law) (cT A w_law) := by
  have h_is_number := cal_is_number (k := 0) (W := C_num) m_isinstance m_bool m_int g1 is_number_ok
  have h_is_tuple_of := cal_is_tuple_of (k := 0) (W := C_two) m_len m_isinstance m_tuple g2 is_tuple_of_ok
  have h_is_pair_of_numbers := cal_is_pair_of_numbers (k := 1) (W := C_pon) ct_mono (h_is_number.mono (by first | decide | omega)) ct_mono (h_is_tuple_of.mono (by first | decide | omega)) g3 pon_ok
  have h_waiting_pairs := cal_waiting_pairs (k := 0) (W := C_prs false) m_tuple g4 waiting_pairs_ok
  have h_walked_from := cal_walked_from (k := 0) (W := C_walk)  g6 walked_from_ok
  have h_ring_or_ranks := cal_ring_or_ranks (k := 1) (W := C_ror) ct_mono (h_walked_from.mono (by first | decide | omega)) ct_mono (h_waiting_pairs.mono (by first | decide | omega)) m_tuple m_len m_dict g5 ror_ok
  have h_lets_ring := cal_lets_ring (k := 2) (A_NoPaper := A) (W := (C_lets A)) ct_mono (h_waiting_pairs.mono (by first | decide | omega)) ct_mono (h_is_number.mono (by first | decide | omega)) m_len m_enumerate m_zip m_all m_isinstance m_tuple RN mN (by decide) g7 (lets_ok A)
  have h_lets_ranks := cal_lets_ranks (k := 2) (A_NoPaper := A) (W := (Rk.C_lets A)) ct_mono (h_waiting_pairs.mono (by first | decide | omega)) ct_mono (h_is_pair_of_numbers.mono (by first | decide | omega)) m_list m_max m_dict m_all m_isinstance m_tuple RN mN (by decide) g8 (Rk.lets_ok A)
  have h_tape := cal_tape (k := 0) (W := C_tape) m_list g9 tape_ok
  have h_pick := cal_pick (k := 0) (W := C_pick) m_len g10 pick_ok
  have h_waits := cal_waits (k := 1) (W := C_waits) ct_mono (h_pick.mono (by first | decide | omega)) m_sorted m_set m_tuple m_range m_len g11 waits_ok
  have h_wanting := cal_wanting (k := 2) (W := C_wanting) ct_mono (h_pick.mono (by first | decide | omega)) ct_mono (h_waits.mono (by first | decide | omega)) m_tuple m_isinstance m_list m_len g12 wanting_ok
  have h_ringed := cal_ringed (k := 1) (W := C_ringed) ct_mono (h_pick.mono (by first | decide | omega)) m_tuple m_len m_range m_min m_max g13 ringed_ok
  exact dsT_law (k := 11) ct_mono (h_tape.mono (by decide)) ct_mono (h_wanting.mono (by decide)) ct_mono (h_ringed.mono (by decide)) ct_mono (h_ring_or_ranks.mono (by decide)) ct_mono (h_pick.mono (by decide)) ct_mono (h_waiting_pairs.mono (by decide)) (lets_mono A) (h_lets_ring.mono (by decide)) (Rk.lets_mono A) (h_lets_ranks.mono (by decide)) m_range m_tuple m_len m_list m_dict m_said SF SC E
end V41
set_option Elab.async false
set_option linter.all false
set_option maxRecDepth 100000
set_option maxHeartbeats 4000000
set_option autoImplicit false
namespace V41
open PySem PySem.Spec PyProof.Rows L2 DL

abbrev s_init : Stmt := match top 13 with | .ClassDef _ _ _ b _ _ _ _ _ _ _ => b.getD 0 (.Pass ⟨0, 0, 0, 0⟩) | s => s
theorem all_mk {l : PySem.W.OpenLaw} {w : World} {K : PySem.W.Frag} {h : Heap} {mg : Str → Option Value} {fa : Addr} (X : K.In h) (G : h.Ns mainGlobals mg) (hfa : mg "law" = some (.ref fa))
    {f1 : Addr} {od1 an1 : Option Addr} {sl1 : Array (Option Value)} {oc1 kV1 dc1 pm1 cd1 ct1 : Value} (a1 : PySem.W.nsIn K mainGlobals "is_number" = some (some (.ref f1)))
    (l1 : K.lookup f1 = some ⟨oc1, od1, .func (PySem.W.fnOf "is_number" "is_number" (defArgs s_is_number) (defBody s_is_number) (defScope s_is_number) .none kV1 dc1 pm1 an1 cd1 ct1), sl1⟩) (c1 : PySem.W.codeIn K cd1 "is_number" = true) (k1 : PySem.W.keepIn K (.ref f1) = true)
    {f2 : Addr} {od2 an2 : Option Addr} {sl2 : Array (Option Value)} {oc2 kV2 dc2 pm2 cd2 ct2 : Value} (a2 : PySem.W.nsIn K mainGlobals "is_tuple_of" = some (some (.ref f2)))
    (l2 : K.lookup f2 = some ⟨oc2, od2, .func (PySem.W.fnOf "is_tuple_of" "is_tuple_of" (defArgs s_is_tuple_of) (defBody s_is_tuple_of) (defScope s_is_tuple_of) .none kV2 dc2 pm2 an2 cd2 ct2), sl2⟩) (c2 : PySem.W.codeIn K cd2 "is_tuple_of" = true) (k2 : PySem.W.keepIn K (.ref f2) = true)
    {f3 : Addr} {od3 an3 : Option Addr} {sl3 : Array (Option Value)} {oc3 kV3 dc3 pm3 cd3 ct3 : Value} (a3 : PySem.W.nsIn K mainGlobals "is_pair_of_numbers" = some (some (.ref f3)))
    (l3 : K.lookup f3 = some ⟨oc3, od3, .func (PySem.W.fnOf "is_pair_of_numbers" "is_pair_of_numbers" (defArgs s_is_pair_of_numbers) (defBody s_is_pair_of_numbers) (defScope s_is_pair_of_numbers) .none kV3 dc3 pm3 an3 cd3 ct3), sl3⟩) (c3 : PySem.W.codeIn K cd3 "is_pair_of_numbers" = true) (k3 : PySem.W.keepIn K (.ref f3) = true)
    {f4 : Addr} {od4 an4 : Option Addr} {sl4 : Array (Option Value)} {oc4 kV4 dc4 pm4 cd4 ct4 : Value} (a4 : PySem.W.nsIn K mainGlobals "waiting_pairs" = some (some (.ref f4)))
    (l4 : K.lookup f4 = some ⟨oc4, od4, .func (PySem.W.fnOf "waiting_pairs" "waiting_pairs" (defArgs s_waiting_pairs) (defBody s_waiting_pairs) (defScope s_waiting_pairs) .none kV4 dc4 pm4 an4 cd4 ct4), sl4⟩) (c4 : PySem.W.codeIn K cd4 "waiting_pairs" = true) (k4 : PySem.W.keepIn K (.ref f4) = true)
    {f5 : Addr} {od5 an5 : Option Addr} {sl5 : Array (Option Value)} {oc5 kV5 dc5 pm5 cd5 ct5 : Value} (a5 : PySem.W.nsIn K mainGlobals "ring_or_ranks" = some (some (.ref f5)))
    (l5 : K.lookup f5 = some ⟨oc5, od5, .func (PySem.W.fnOf "ring_or_ranks" "ring_or_ranks" (defArgs s_ring_or_ranks) (defBody s_ring_or_ranks) (defScope s_ring_or_ranks) .none kV5 dc5 pm5 an5 cd5 ct5), sl5⟩) (c5 : PySem.W.codeIn K cd5 "ring_or_ranks" = true) (k5 : PySem.W.keepIn K (.ref f5) = true)
    {f6 : Addr} {od6 an6 : Option Addr} {sl6 : Array (Option Value)} {oc6 kV6 dc6 pm6 cd6 ct6 : Value} (a6 : PySem.W.nsIn K mainGlobals "walked_from" = some (some (.ref f6)))
    (l6 : K.lookup f6 = some ⟨oc6, od6, .func (PySem.W.fnOf "walked_from" "walked_from" (defArgs s_walked_from) (defBody s_walked_from) (defScope s_walked_from) .none kV6 dc6 pm6 an6 cd6 ct6), sl6⟩) (c6 : PySem.W.codeIn K cd6 "walked_from" = true) (k6 : PySem.W.keepIn K (.ref f6) = true)
    {f7 : Addr} {od7 an7 : Option Addr} {sl7 : Array (Option Value)} {oc7 kV7 dc7 pm7 cd7 ct7 : Value} (a7 : PySem.W.nsIn K mainGlobals "lets_ring" = some (some (.ref f7)))
    (l7 : K.lookup f7 = some ⟨oc7, od7, .func (PySem.W.fnOf "lets_ring" "lets_ring" (defArgs s_lets_ring) (defBody s_lets_ring) (defScope s_lets_ring) .none kV7 dc7 pm7 an7 cd7 ct7), sl7⟩) (c7 : PySem.W.codeIn K cd7 "lets_ring" = true) (k7 : PySem.W.keepIn K (.ref f7) = true)
    {f8 : Addr} {od8 an8 : Option Addr} {sl8 : Array (Option Value)} {oc8 kV8 dc8 pm8 cd8 ct8 : Value} (a8 : PySem.W.nsIn K mainGlobals "lets_ranks" = some (some (.ref f8)))
    (l8 : K.lookup f8 = some ⟨oc8, od8, .func (PySem.W.fnOf "lets_ranks" "lets_ranks" (defArgs s_lets_ranks) (defBody s_lets_ranks) (defScope s_lets_ranks) .none kV8 dc8 pm8 an8 cd8 ct8), sl8⟩) (c8 : PySem.W.codeIn K cd8 "lets_ranks" = true) (k8 : PySem.W.keepIn K (.ref f8) = true)
    {f9 : Addr} {od9 an9 : Option Addr} {sl9 : Array (Option Value)} {oc9 kV9 dc9 pm9 cd9 ct9 : Value} (a9 : PySem.W.nsIn K mainGlobals "_law_tape" = some (some (.ref f9)))
    (l9 : K.lookup f9 = some ⟨oc9, od9, .func (PySem.W.fnOf "_law_tape" "_law_tape" (defArgs s_tape) (defBody s_tape) (defScope s_tape) .none kV9 dc9 pm9 an9 cd9 ct9), sl9⟩) (c9 : PySem.W.codeIn K cd9 "_law_tape" = true) (k9 : PySem.W.keepIn K (.ref f9) = true)
    {f10 : Addr} {od10 an10 : Option Addr} {sl10 : Array (Option Value)} {oc10 kV10 dc10 pm10 cd10 ct10 : Value} (a10 : PySem.W.nsIn K mainGlobals "_law_pick" = some (some (.ref f10)))
    (l10 : K.lookup f10 = some ⟨oc10, od10, .func (PySem.W.fnOf "_law_pick" "_law_pick" (defArgs s_pick) (defBody s_pick) (defScope s_pick) .none kV10 dc10 pm10 an10 cd10 ct10), sl10⟩) (c10 : PySem.W.codeIn K cd10 "_law_pick" = true) (k10 : PySem.W.keepIn K (.ref f10) = true)
    {f11 : Addr} {od11 an11 : Option Addr} {sl11 : Array (Option Value)} {oc11 kV11 dc11 pm11 cd11 ct11 : Value} (a11 : PySem.W.nsIn K mainGlobals "_law_waits" = some (some (.ref f11)))
    (l11 : K.lookup f11 = some ⟨oc11, od11, .func (PySem.W.fnOf "_law_waits" "_law_waits" (defArgs s_waits) (defBody s_waits) (defScope s_waits) .none kV11 dc11 pm11 an11 cd11 ct11), sl11⟩) (c11 : PySem.W.codeIn K cd11 "_law_waits" = true) (k11 : PySem.W.keepIn K (.ref f11) = true)
    {f12 : Addr} {od12 an12 : Option Addr} {sl12 : Array (Option Value)} {oc12 kV12 dc12 pm12 cd12 ct12 : Value} (a12 : PySem.W.nsIn K mainGlobals "_law_wanting" = some (some (.ref f12)))
    (l12 : K.lookup f12 = some ⟨oc12, od12, .func (PySem.W.fnOf "_law_wanting" "_law_wanting" (defArgs s_wanting) (defBody s_wanting) (defScope s_wanting) .none kV12 dc12 pm12 an12 cd12 ct12), sl12⟩) (c12 : PySem.W.codeIn K cd12 "_law_wanting" = true) (k12 : PySem.W.keepIn K (.ref f12) = true)
    {f13 : Addr} {od13 an13 : Option Addr} {sl13 : Array (Option Value)} {oc13 kV13 dc13 pm13 cd13 ct13 : Value} (a13 : PySem.W.nsIn K mainGlobals "_law_ringed" = some (some (.ref f13)))
    (l13 : K.lookup f13 = some ⟨oc13, od13, .func (PySem.W.fnOf "_law_ringed" "_law_ringed" (defArgs s_ringed) (defBody s_ringed) (defScope s_ringed) .none kV13 dc13 pm13 an13 cd13 ct13), sl13⟩) (c13 : PySem.W.codeIn K cd13 "_law_ringed" = true) (k13 : PySem.W.keepIn K (.ref f13) = true)
    {f14 : Addr} {od14 an14 : Option Addr} {sl14 : Array (Option Value)} {oc14 kV14 dc14 pm14 cd14 ct14 : Value} (a14 : PySem.W.nsIn K mainGlobals "_law_said" = some (some (.ref f14)))
    (l14 : K.lookup f14 = some ⟨oc14, od14, .func (PySem.W.fnOf "_law_said" "_law_said" (defArgs s_said) (defBody s_said) (defScope s_said) .none kV14 dc14 pm14 an14 cd14 ct14), sl14⟩) (c14 : PySem.W.codeIn K cd14 "_law_said" = true) (k14 : PySem.W.keepIn K (.ref f14) = true)
    {f15 : Addr} {od15 an15 : Option Addr} {sl15 : Array (Option Value)} {oc15 kV15 dc15 pm15 cd15 ct15 : Value} (a15 : PySem.W.nsIn K mainGlobals "law" = some (some (.ref f15)))
    (l15 : K.lookup f15 = some ⟨oc15, od15, .func (PySem.W.fnOf "law" "law" (defArgs s_law) (defBody s_law) (defScope s_law) .none kV15 dc15 pm15 an15 cd15 ct15), sl15⟩) (c15 : PySem.W.codeIn K cd15 "law" = true) (k15 : PySem.W.keepIn K (.ref f15) = true)
    (z1 : PySem.W.nsIn K mainGlobals "isinstance" = some none) (z2 : PySem.W.nsIn K mainGlobals "bool" = some none) (z3 : PySem.W.nsIn K mainGlobals "int" = some none) (z4 : PySem.W.nsIn K mainGlobals "len" = some none) (z5 : PySem.W.nsIn K mainGlobals "tuple" = some none) (z6 : PySem.W.nsIn K mainGlobals "dict" = some none) (z7 : PySem.W.nsIn K mainGlobals "enumerate" = some none) (z8 : PySem.W.nsIn K mainGlobals "zip" = some none) (z9 : PySem.W.nsIn K mainGlobals "all" = some none) (z10 : PySem.W.nsIn K mainGlobals "list" = some none) (z11 : PySem.W.nsIn K mainGlobals "max" = some none) (z12 : PySem.W.nsIn K mainGlobals "sorted" = some none) (z13 : PySem.W.nsIn K mainGlobals "set" = some none) (z14 : PySem.W.nsIn K mainGlobals "range" = some none) (z15 : PySem.W.nsIn K mainGlobals "min" = some none)
    {CD CR CT CO CN CP : Addr}
    (aD : PySem.W.nsIn K mainGlobals "DrawerError" = some (some (.ref CD))) (aR : PySem.W.nsIn K mainGlobals "RunError" = some (some (.ref CR))) (aT : PySem.W.nsIn K mainGlobals "TextError" = some (some (.ref CT))) (aO : PySem.W.nsIn K mainGlobals "NoOrder" = some (some (.ref CO))) (aP : PySem.W.nsIn K mainGlobals "PaperError" = some (some (.ref CP))) (aN : PySem.W.nsIn K mainGlobals "NoPaper" = some (some (.ref CN)))
    (iD : PySem.W.isClsIn K CD = true) (tD : PySem.W.typeIn K (.ref CD) = some (.type "type")) (sD : PySem.W.subIn K (.ref CN) (.ref CD) = some true) (bD : PySem.W.subIn K (.ref CD) (.type "BaseException") = some true)
    (iR : PySem.W.isClsIn K CR = true) (tR : PySem.W.typeIn K (.ref CR) = some (.type "type")) (sR : PySem.W.subIn K (.ref CN) (.ref CR) = some false)
    (iT : PySem.W.isClsIn K CT = true) (tT : PySem.W.typeIn K (.ref CT) = some (.type "type")) (sT : PySem.W.subIn K (.ref CN) (.ref CT) = some false)
    (iO : PySem.W.isClsIn K CO = true) (tO : PySem.W.typeIn K (.ref CO) = some (.type "type")) (sO : PySem.W.subIn K (.ref CN) (.ref CO) = some false)
    (iP : PySem.W.isClsIn K CP = true) (tP : PySem.W.typeIn K (.ref CP) = some (.type "type")) (sP : PySem.W.subIn K (.ref CN) (.ref CP) = some true)
    (iN : PySem.W.isClsIn K CN = true) (tN : PySem.W.typeIn K (.ref CN) = some (.type "type")) (sN : PySem.W.subIn K (.ref CN) (.ref CN) = some true)
    (ga : PySem.W.findIn K (.ref CN) "__getattribute__" = some (some (.builtin "BaseException.__getattribute__"))) (gg : PySem.W.findIn K (.ref CN) "__getattr__" = some none) (sa : PySem.W.findIn K (.ref CN) "__setattr__" = some (some (.builtin "object.__setattr__")))
    (eN : PySem.W.subIn K (.ref CN) (.type "BaseException") = some true) (hN : PySem.W.hasDictIn K CN = true) (kC : PySem.W.keepIn K (.ref CN) = true)
    (cN : PySem.W.findIn K (.ref CN) "__class__" = some (some (.builtin "object.__class__"))) (pN : PySem.W.specialIn K (.builtin "object.__class__") "__get__" = some (some (.builtin "getset_descriptor.__get__"))) (kN : PySem.W.takesIn K (.builtin "object.__class__") = some true) (mN : PySem.W.mroIn K CN (.type "object") = some true)
    (n1 : PySem.W.findIn K (.ref CN) "word" = some none) (n2 : PySem.W.findIn K (.ref CN) "at" = some none)
    {nm q : Str} {N : Addr} {bs bm : List Value} {sn : List Str} {sub : List Value} {ab : Bool} {col : Option Bool} {dd : Option Addr} {m0 m1 m2 m3 m5 : Option Value}
    (xN : K.lookup CN = some (excClassObj nm q CN N bs bm true sn sub ab col dd m0 m1 m2 m3 m5 "ValueError.__new__")) (rV : PySem.HandSPX.refsVE bm = true)
    {fI : Addr} {odI anI : Option Addr} {slI : Array (Option Value)} {ocI kVI dcI pmI cdI ctI : Value} (aI : PySem.W.findIn K (.ref CN) "__init__" = some (some (.ref fI))) (tI : PySem.W.typeIn K (.ref fI) = some (.type "function"))
    (lI : K.lookup fI = some ⟨ocI, odI, .func (PySem.W.fnOf "__init__" "NoPaper.__init__" (defArgs s_init) (defBody s_init) (defScope s_init) .none kVI dcI pmI anI cdI ctI), slI⟩) (cI : PySem.W.codeIn K cdI "NoPaper.__init__" = true) (kI : PySem.W.keepIn K (.ref fI) = true)
    {cc TT : Addr} {v1 : Value} {v2 : Option Addr} {v4 : Array (Option Value)} {vs : Array Value} (ec : cd15 = .ref cc) (lc : K.lookup cc = some ⟨v1, v2, .fields vs, v4⟩) (ev : vs[11]? = some (.ref TT)) (nT : K.lookup TT = none) :
    ∃ (fd : FuncData) (cc T A : Addr), (∀ (s : Shared) (u : Value), BindsTo s fd ⟨[u], []⟩ [("_law_script", u)]) ∧ Fun K "law" "law" s_law fa fd ∧ fd.code = .ref cc ∧ K.lookup T = none ∧ PySem.W.tabIn K "law" = some (cc, T) ∧
      ∀ base : Heap, K.In base → base.Ns mainGlobals mg → ∀ E, DSsT ⟨⟨l.prog, w, K, mg, base⟩, CX0, lawN, defScope s_law, 13, E, true, false⟩ cc T (lamQ "law") (defBody s_law) (cT A w_law) := by
  have e := hfa.symm.trans (PySem.W.mg_of X G a15)
  cases e
  subst ec
  have F := fun_mk (st := s_law) l15 c15 k15
  have FS := fun_mk (st := s_said) l14 c14 k14
  have FI := fun_mk (st := s_init) lI cI kI
  have ox : OexC K CN := ⟨⟨nm, q, N, bs, bm, sn, sub, ab, col, dd, m0, m1, m2, m3, m5, xN, rV⟩, sa, eN, tN, kC⟩
  have SC : SaidC K mg CD CR CT CO CN CP "word" "at" := saidC_mk X G aD iD tD sD bD aR iR tR sR aT iT tT sT aO iO tO sO aP iP tP sP aN iN tN sN (by first | exact z1 | exact z2 | exact z3 | exact z4 | exact z5 | exact z6 | exact z7 | exact z8 | exact z9 | exact z10 | exact z11 | exact z12 | exact z13 | exact z14 | exact z15) ga gg eN hN cN pN kN mN n1 n2
  refine ⟨_, cc, TT, CN, fun s v => .of_eq rfl, F, rfl, nT, tab_mk a15 l15 rfl lc ev, fun base _ _ E => ?_⟩
  have RN : RfC ⟨l.prog, w, K, mg, base⟩ CN "word" "at" := rfC_mk (p1 := "word") (p2 := "at") ox n1 n2 aI tI FI ⟨rfl, rfl, rfl, by decide +kernel, rfl, by decide +kernel, by decide +kernel⟩ rfl (FI.binds (ps := ["self", "word", "at"]) fun _ _ _ _ _ _ us hl => match us, hl with | [_, _, _], _ => rfl) (by decide) (by decide) (by decide) (by decide)
  exact law_dsT (got_mk X G a1 l1 c1 k1) (got_mk X G a2 l2 c2 k2) (got_mk X G a3 l3 c3 k3) (got_mk X G a4 l4 c4 k4) (got_mk X G a5 l5 c5 k5) (got_mk X G a6 l6 c6 k6) (got_mk X G a7 l7 c7 k7) (got_mk X G a8 l8 c8 k8) (got_mk X G a9 l9 c9 k9) (got_mk X G a10 l10 c10 k10) (got_mk X G a11 l11 c11 k11) (got_mk X G a12 l12 c12 k12) (got_mk X G a13 l13 c13 k13) (PySem.W.mg_none_of X G z1) (PySem.W.mg_none_of X G z2) (PySem.W.mg_none_of X G z3) (PySem.W.mg_none_of X G z4) (PySem.W.mg_none_of X G z5) (PySem.W.mg_none_of X G z6) (PySem.W.mg_none_of X G z7) (PySem.W.mg_none_of X G z8) (PySem.W.mg_none_of X G z9) (PySem.W.mg_none_of X G z10) (PySem.W.mg_none_of X G z11) (PySem.W.mg_none_of X G z12) (PySem.W.mg_none_of X G z13) (PySem.W.mg_none_of X G z14) (PySem.W.mg_none_of X G z15) RN (PySem.W.mg_of X G aN) (PySem.W.mg_of X G a14) (sf_said FS) SC E
theorem walk {l : PySem.W.OpenLaw} {q : Program} {loose : List Str} {XP : (Str → Option Value) → Heap → Prop} {YP : World → Heap → Prop} {d : DefRec} {K : Params → PySem.W.Frag} (hn : l.most = some 63) (hdf : d.params.defaults = [])
    (hrec : (recsOf q).find? (fun e => e.name == ("law" : Str)) = some d) (hY : ∀ (w : World) (h : Heap), YP w h → (K w.params).In h)
    (F : ∀ (w : World) (mg : Str → Option Value) (fa : Addr) (h : Heap), (K w.params).In h → h.Ns mainGlobals mg → mg d.name = some (.ref fa) →
      ∃ (fd : FuncData) (cc T A : Addr), (∀ (s : Shared) (u : Value), BindsTo s fd ⟨[u], []⟩ [("_law_script", u)]) ∧ Fun (K w.params) "law" "law" s_law fa fd ∧ fd.code = .ref cc ∧ (K w.params).lookup T = none ∧ PySem.W.tabIn (K w.params) "law" = some (cc, T) ∧
        ∀ base : Heap, (K w.params).In base → base.Ns mainGlobals mg → ∀ E, DSsT ⟨⟨l.prog, w, K w.params, mg, base⟩, CX0, lawN, defScope s_law, 13, E, true, false⟩ cc T (lamQ "law") (defBody s_law) (cT A w_law)) :
    PySem.W.WalkO q loose XP YP l.row.toRowW d [] (fun f vs => PySem.call f vs) :=
  law_walkX (n := 63) (k := 13) (x := "_law_script") (st := s_law) (N := lawN) hn (by decide) hdf ⟨rfl, by decide, by decide⟩ hY sc_law (by decide)
    (fun w' mg fa h KX hns hmg => by
      obtain ⟨fd, cc, T, A, h1, h2, h3, h4, h5, h6⟩ := F w' mg fa h KX hns hmg
      exact ⟨fd, cc, T, cT A w_law, fun ns s _ hs => law_ok A ns s hs, h1, h2, h3, h4, h5, hrec, fun base KB nsB _ => h6 base KB nsB⟩)
end V41
open PySem PySem.W PyProof.Rows
set_option maxRecDepth 100000 in
set_option maxHeartbeats 0 in
theorem PySem.Challenge.cw_drawerways_k41_whole_ring_or_ranks_holds : PySem.Challenge.rw_drawerways_k41_whole_ring_or_ranks.Holds := by
  w_on; o_law; k_head; (case hw => w_witness2)
  k_fill
  refine V41.walk (l := PySem.Challenge.rw_drawerways_k41_whole_ring_or_ranks) rfl rfl rfl (fun w h Y => PySem.W.km_in_of Y) ?F
  case F =>
    intro w mg fa h KX G hmg
    refine' V41.all_mk KX G hmg ?a1 ?l1 ?c1 ?k1 ?a2 ?l2 ?c2 ?k2 ?a3 ?l3 ?c3 ?k3 ?a4 ?l4 ?c4 ?k4 ?a5 ?l5 ?c5 ?k5 ?a6 ?l6 ?c6 ?k6 ?a7 ?l7 ?c7 ?k7 ?a8 ?l8 ?c8 ?k8 ?a9 ?l9 ?c9 ?k9 ?a10 ?l10 ?c10 ?k10 ?a11 ?l11 ?c11 ?k11 ?a12 ?l12 ?c12 ?k12 ?a13 ?l13 ?c13 ?k13 ?a14 ?l14 ?c14 ?k14 ?a15 ?l15 ?c15 ?k15 ?z1 ?z2 ?z3 ?z4 ?z5 ?z6 ?z7 ?z8 ?z9 ?z10 ?z11 ?z12 ?z13 ?z14 ?z15 ?aD ?aR ?aT ?aO ?aP ?aN ?iD ?tD ?sD ?bD ?iR ?tR ?sR ?iT ?tT ?sT ?iO ?tO ?sO ?iP ?tP ?sP ?iN ?tN ?sN ?ga ?gg ?sa ?eN ?hN ?kC ?cN ?pN ?kN ?mN ?n1 ?n2 ?xN ?rV ?aI ?tI ?lI ?cI ?kI ?ec ?lc ?ev ?nT
    (case a1 => k_is); (case l1 => k_is); (case c1 => k_is); (case k1 => k_is)
    (case a2 => k_is); (case l2 => k_is); (case c2 => k_is); (case k2 => k_is)
    (case a3 => k_is); (case l3 => k_is); (case c3 => k_is); (case k3 => k_is)
    (case a4 => k_is); (case l4 => k_is); (case c4 => k_is); (case k4 => k_is)
    (case a5 => k_is); (case l5 => k_is); (case c5 => k_is); (case k5 => k_is)
    (case a6 => k_is); (case l6 => k_is); (case c6 => k_is); (case k6 => k_is)
    (case a7 => k_is); (case l7 => k_is); (case c7 => k_is); (case k7 => k_is)
    (case a8 => k_is); (case l8 => k_is); (case c8 => k_is); (case k8 => k_is)
    (case a9 => k_is); (case l9 => k_is); (case c9 => k_is); (case k9 => k_is)
    (case a10 => k_is); (case l10 => k_is); (case c10 => k_is); (case k10 => k_is)
    (case a11 => k_is); (case l11 => k_is); (case c11 => k_is); (case k11 => k_is)
    (case a12 => k_is); (case l12 => k_is); (case c12 => k_is); (case k12 => k_is)
    (case a13 => k_is); (case l13 => k_is); (case c13 => k_is); (case k13 => k_is)
    (case a14 => k_is); (case l14 => k_is); (case c14 => k_is); (case k14 => k_is)
    (case a15 => k_is); (case l15 => k_is); (case c15 => k_is); (case k15 => k_is)
    (case z1 => k_is)
    (case z2 => k_is)
    (case z3 => k_is)
    (case z4 => k_is)
    (case z5 => k_is)
    (case z6 => k_is)
    (case z7 => k_is)
    (case z8 => k_is)
    (case z9 => k_is)
    (case z10 => k_is)
    (case z11 => k_is)
    (case z12 => k_is)
    (case z13 => k_is)
    (case z14 => k_is)
    (case z15 => k_is)
    (case aD => k_is)
    (case aR => k_is)
    (case aT => k_is)
    (case aO => k_is)
    (case aP => k_is)
    (case aN => k_is)
    (case iD => k_is)
    (case tD => k_is)
    (case sD => k_is)
    (case bD => k_is)
    (case iR => k_is)
    (case tR => k_is)
    (case sR => k_is)
    (case iT => k_is)
    (case tT => k_is)
    (case sT => k_is)
    (case iO => k_is)
    (case tO => k_is)
    (case sO => k_is)
    (case iP => k_is)
    (case tP => k_is)
    (case sP => k_is)
    (case iN => k_is)
    (case tN => k_is)
    (case sN => first | rfl | k_is)
    (case ga => k_is)
    (case gg => k_is)
    (case sa => k_is)
    (case eN => k_is)
    (case hN => k_is)
    (case kC => k_is)
    (case cN => k_is)
    (case pN => k_is)
    (case kN => k_is)
    (case mN => k_is)
    (case n1 => k_is)
    (case n2 => k_is)
    (case xN => k_is)
    (case rV => decide +kernel)
    (case aI => k_is)
    (case tI => k_is)
    (case lI => k_is)
    (case cI => k_is)
    (case kI => k_is)
    (case ec => rfl)
    (case lc => k_is)
    (case ev => rfl)
    (case nT => kernel_rfl)
#print axioms PySem.Challenge.cw_drawerways_k41_whole_ring_or_ranks_holds
