import PyProof.Rows.All
import HandS.ForMost
import HandS.ForExc
import HandS.TupAny
import HandS.IsInst
import HandS.Wide
import PyProof.ReprReads
import PyProof.ReprRoads
import PyProof.Rows.IntBool
import HandS.TupMul
import HandS.Text
import HandS.RaiseMore
import HandS.Codes
import HandS.Small
import HandS.Deep
import HandS.Style
import KE.KRevSl
import HandS.More
import HandS.Iter
import HandS.StrMore
import HandS.DictComp
import HandS.SetFor
import HandS.Strs
import HandS.Sort
import KE.KDictList
import HandS.Conv
import HandS.NoneIn
import HandS.TupSets
import KE.KDictPairs
import KE.DataCmp
import KE.DataMinMax
import PyProof.Rows.CallKwBuiltin
import HandS.SortInts
import HandS.Defaults
import HandS.ExcInit
import HandS.Lambda
import HandS.ExcField
import KE.KExcIs
import HandS.EndTab
import KE.GoesEnum
import HandS.DictTup
import KE.SortData
import KE.KEqSeq
import HandS.ExcOwn
import HandS.TryOnly
import KE.DataFind
import HandS.SetKeys
import KE.KDictSum
import KE.KDictWalk
import KE.SortKeyed
import PyProof.Rows.ReprOcc
import PyProof.ReprText
import KE.SortCalls
import PyProof.DictMoreH
import HandS.TupLen
import HandS.WordsDict
import PySem.Challenge.RW_drawerways_k23_whole_moments_or_none
set_option Elab.async false
set_option linter.all false
set_option maxRecDepth 100000
set_option maxHeartbeats 4000000
set_option autoImplicit false
namespace DL
open PySem PySem.Spec PyProof.Rows L2
/-- a plain tuple: its object has no __dict__ -/
def PlT (B : Hp) (a : Addr) (xs : List V) : Prop := ∃ o : Obj, B a = some (.frz o (.tup xs)) ∧ o.cls = .type "tuple" ∧ o.dict = none
mutual
inductive DD (B : Hp) : V → PyData → Prop
  | non : DD B .non .none
  | bl (b : Bool) : DD B (.bl b) (.bool b)
  | int (i : Int) : DD B (.int i) (.int i)
  | str (x : Str) : DD B (.str x) (.str x)
  | lst {a : Addr} {xs : List V} {ds : List PyData} : Rd B a (.lst xs) → DDs B xs ds → DD B (.ref a) (.list ds)
  | tup {a : Addr} {xs : List V} {ds : List PyData} : PlT B a xs → DDs B xs ds → DD B (.ref a) (.tuple ds)
inductive DDs (B : Hp) : List V → List PyData → Prop
  | nil : DDs B [] []
  | cons {v : V} {vs : List V} {d : PyData} {ds : List PyData} : DD B v d → DDs B vs ds → DDs B (v :: vs) (d :: ds)
end
theorem same_rd {B B' : Hp} (h : Same B B') {a : Addr} {u : HO} (r : Rd B a u) : Rd B' a u := by
  rcases r with r | ⟨o, r⟩
  · exact .inl (h _ _ r)
  · exact .inr ⟨o, h _ _ r⟩
theorem PlT.mono {B B' : Hp} (h : Same B B') {a : Addr} {xs : List V} (r : PlT B a xs) : PlT B' a xs := by
  obtain ⟨o, e, r⟩ := r
  exact ⟨o, h _ _ e, r⟩
theorem PlT.rd {B : Hp} {a : Addr} {xs : List V} (r : PlT B a xs) : Rd B a (.tup xs) := by
  obtain ⟨o, e, _⟩ := r
  exact .inr ⟨o, e⟩
mutual
theorem DD.mono {B B' : Hp} (h : Same B B') : ∀ {v : V} {d : PyData}, DD B v d → DD B' v d
  | _, _, .non => .non
  | _, _, .bl b => .bl b
  | _, _, .int i => .int i
  | _, _, .str x => .str x
  | _, _, .lst r q => .lst (same_rd h r) (DDs.mono h q)
  | _, _, .tup r q => .tup (r.mono h) (DDs.mono h q)
theorem DDs.mono {B B' : Hp} (h : Same B B') : ∀ {vs : List V} {ds : List PyData}, DDs B vs ds → DDs B' vs ds
  | _, _, .nil => .nil
  | _, _, .cons q r => .cons (DD.mono h q) (DDs.mono h r)
end
theorem DDs.length {B : Hp} : ∀ {vs : List V} {ds : List PyData}, DDs B vs ds → vs.length = ds.length
  | _, _, .nil => rfl
  | _, _, .cons _ r => congrArg (· + 1) (DDs.length r)
theorem DDs.get {B : Hp} : ∀ {vs : List V} {ds : List PyData} {i : Nat} {d : PyData}, DDs B vs ds → ds[i]? = some d → ∃ v, vs[i]? = some v ∧ DD B v d
  | _, _, _, _, .nil, e => by simp at e
  | _, _, 0, _, .cons q _, e => by simp at e; subst e; exact ⟨_, rfl, q⟩
  | _, _, i + 1, _, .cons _ r, e => by
    obtain ⟨v, e1, q⟩ := DDs.get (i := i) r (by simpa using e)
    exact ⟨v, by simpa using e1, q⟩
theorem DDs.append {B : Hp} : ∀ {vs ws : List V} {ds es : List PyData}, DDs B vs ds → DDs B ws es → DDs B (vs ++ ws) (ds ++ es)
  | _, _, _, _, .nil, s => s
  | _, _, _, _, .cons q r, s => .cons q (DDs.append r s)
theorem DDs.take {B : Hp} : ∀ {vs : List V} {ds : List PyData} (n : Nat), DDs B vs ds → DDs B (vs.take n) (ds.take n)
  | _, _, 0, _ => .nil
  | _, _, _ + 1, .nil => .nil
  | _, _, n + 1, .cons q r => .cons q (DDs.take n r)
theorem DDs.drop {B : Hp} : ∀ {vs : List V} {ds : List PyData} (n : Nat), DDs B vs ds → DDs B (vs.drop n) (ds.drop n)
  | _, _, 0, r => r
  | _, _, _ + 1, .nil => .nil
  | _, _, n + 1, .cons _ r => DDs.drop n r
theorem DDs.snoc {B : Hp} {vs : List V} {ds : List PyData} {v : V} {d : PyData} (h : DDs B vs ds) (q : DD B v d) : DDs B (vs ++ [v]) (ds ++ [d]) := h.append (.cons q .nil)
theorem DDs.reverse {B : Hp} : ∀ {vs : List V} {ds : List PyData}, DDs B vs ds → DDs B vs.reverse ds.reverse
  | _, _, .nil => .nil
  | _, _, .cons q r => by rw [List.reverse_cons, List.reverse_cons]; exact (DDs.reverse r).snoc q
theorem DDs.set {B : Hp} {v : V} {d : PyData} (q : DD B v d) : ∀ {vs : List V} {ds : List PyData} (i : Nat), DDs B vs ds → DDs B (vs.set i v) (ds.set i d)
  | _, _, _, .nil => .nil
  | _, _, 0, .cons _ r => .cons q r
  | _, _, i + 1, .cons p r => .cons p (DDs.set q i r)
theorem DDs.dropLast {B : Hp} {vs : List V} {ds : List PyData} (h : DDs B vs ds) : DDs B vs.dropLast ds.dropLast := by
  rw [List.dropLast_eq_take, List.dropLast_eq_take, h.length]; exact h.take _
theorem DDs.nil_iff {B : Hp} {vs : List V} {ds : List PyData} (h : DDs B vs ds) : vs = [] ↔ ds = [] := by
  cases h <;> simp
theorem DDs.of_ints {B : Hp} : ∀ (ns : List Int), DDs B (ns.map V.int) (ns.map .int)
  | [] => .nil
  | n :: ns => .cons (.int n) (DDs.of_ints ns)
/-- written data (constants of the module) -/
def DW (K : PySem.W.Frag) (v : V) (d : PyData) : Prop := Dp K (fun _ => none) v d
mutual
theorem dp_mono {K : PySem.W.Frag} {H H' : Hp} (h : Same H H') : ∀ {v : V} {d : PyData}, Dp K H v d → Dp K H' v d
  | _, _, .non => .non
  | _, _, .bl b => .bl b
  | _, _, .int i => .int i
  | _, _, .str x => .str x
  | _, _, .lst r q => .lst (h.seq r) (dps_mono h q)
  | _, _, .tup r q => .tup (by
      rcases r with r | r
      · exact .inl (same_rd h r)
      · exact .inr r) (dps_mono h q)
theorem dps_mono {K : PySem.W.Frag} {H H' : Hp} (h : Same H H') : ∀ {v : List V} {d : List PyData}, DpAll K H v d → DpAll K H' v d
  | _, _, .nil => .nil
  | _, _, .cons q r => .cons (dp_mono h q) (dps_mono h r)
end
mutual
theorem DD.dp {K : PySem.W.Frag} {B : Hp} : ∀ {v : V} {d : PyData}, DD B v d → Dp K B v d
  | _, _, .non => .non
  | _, _, .bl b => .bl b
  | _, _, .int i => .int i
  | _, _, .str x => .str x
  | _, _, .lst r q => .lst (.inl r) (DDs.dp q)
  | _, _, .tup r q => .tup (.inl r.rd) (DDs.dp q)
theorem DDs.dp {K : PySem.W.Frag} {B : Hp} : ∀ {vs : List V} {ds : List PyData}, DDs B vs ds → DpAll K B vs ds
  | _, _, .nil => .nil
  | _, _, .cons q r => .cons (DD.dp q) (DDs.dp r)
end
inductive OT where
  | d (d : PyData)
  | n (a : Addr) (b : Bool) (ts : List (Key × OT))
mutual
def OT.fp : OT → List Addr
  | .d _ => []
  | .n a _ ts => a :: OT.fps ts
def OT.fps : List (Key × OT) → List Addr
  | [] => []
  | (_, t) :: r => t.fp ++ OT.fps r
end
def nd : Bool → List (Key × V) → HO
  | true, ys => .dK ys
  | false, ys => .lst (ys.map (·.2))
mutual
inductive OTk (B H : Hp) : V → OT → Prop
  | d {v : V} {d : PyData} : DD B v d → OTk B H v (.d d)
  | n {a : Addr} {b : Bool} {ys : List (Key × V)} {ts : List (Key × OT)} : H a = some (nd b ys) → OTks B H ys ts → OTk B H (.ref a) (.n a b ts)
inductive OTks (B H : Hp) : List (Key × V) → List (Key × OT) → Prop
  | nil : OTks B H [] []
  | cons {k : Key} {v : V} {t : OT} {ys : List (Key × V)} {ts : List (Key × OT)} : OTk B H v t → OTks B H ys ts → OTks B H ((k, v) :: ys) ((k, t) :: ts)
end
def OT.root : OT → Option Addr
  | .d _ => none
  | .n a _ _ => some a
mutual
theorem OTk.mono {B B' H H' : Hp} (s : Same B B') : ∀ {v : V} {t : OT}, (∀ p, p ∈ t.fp → H' p = H p) → OTk B H v t → OTk B' H' v t
  | _, _, _, .d q => .d (q.mono s)
  | _, _, e, .n h q => .n (by rw [e _ (by unfold OT.fp; exact List.mem_cons_self ..)]; exact h) (OTks.mono s (fun p f => e p (by unfold OT.fp; exact List.mem_cons_of_mem _ f)) q)
theorem OTks.mono {B B' H H' : Hp} (s : Same B B') : ∀ {ys : List (Key × V)} {ts : List (Key × OT)}, (∀ p, p ∈ OT.fps ts → H' p = H p) → OTks B H ys ts → OTks B' H' ys ts
  | _, _, _, .nil => .nil
  | _, _, e, .cons q r => .cons (OTk.mono s (fun p f => e p (by unfold OT.fps; exact List.mem_append_left _ f)) q) (OTks.mono s (fun p f => e p (by unfold OT.fps; exact List.mem_append_right _ f)) r)
end
mutual
theorem OTk.thereN {B H : Hp} {p : Addr} : ∀ {v : V} {t : OT}, OTk B H v t → p ∈ t.fp → ∃ b ys, H p = some (nd b ys)
  | _, _, .d _, f => by unfold OT.fp at f; cases f
  | _, _, .n h q, f => by
    unfold OT.fp at f
    rcases List.mem_cons.mp f with rfl | f
    · exact ⟨_, _, h⟩
    · exact OTks.thereN q f
theorem OTks.thereN {B H : Hp} {p : Addr} : ∀ {ys : List (Key × V)} {ts : List (Key × OT)}, OTks B H ys ts → p ∈ OT.fps ts → ∃ b ys, H p = some (nd b ys)
  | _, _, .nil, f => by unfold OT.fps at f; cases f
  | _, _, .cons q r, f => by
    unfold OT.fps at f
    rcases List.mem_append.mp f with f | f
    · exact OTk.thereN q f
    · exact OTks.thereN r f
end
theorem OTk.there {B H : Hp} {p : Addr} {v : V} {t : OT} (q : OTk B H v t) (f : p ∈ t.fp) : ∃ o, H p = some o := by
  obtain ⟨_, _, e⟩ := q.thereN f
  exact ⟨_, e⟩
theorem OTk.root {B H : Hp} {v : V} {t : OT} {a : Addr} (h : OTk B H v t) (e : t.root = some a) : v = .ref a := by
  cases h with
  | d _ => cases e
  | n _ _ => cases e; rfl
/-- a part of a tuple that is told: data, or an own list or dict -/
inductive Pt where
  | d (d : PyData)
  | l (ds : List PyData)
  | k (kvs : List (Key × PyData))
  | p (ds : List PyData)
inductive Cont where
  | l (ds : List PyData)
  | k (kvs : List (Key × PyData))
  | t (kvs : List (List Int × PyData))
  | ot (t : OT)
  | al (a : Addr) (i : Nat) (p : List Key)
  | tp (ps : List Pt)
  | pt (ds : List PyData)
  | fk (d : Addr) (kvs : List (Key × PyData))
def Cont.simple : Cont → Bool
  | .l _ => true
  | .k _ => true
  | .t _ => true
  | _ => false
def Pt.own : Pt → Bool
  | .d _ => false
  | .p _ => false
  | _ => true
def KDs {κ : Type} (B : Hp) : List (κ × V) → List (κ × PyData) → Prop := Paired fun (p : κ × V) (q : κ × PyData) => p.1 = q.1 ∧ DD B p.2 q.2
/-- a dict whose keys are tuples of numbers: its object, by its entries -/
def entI (x : List Int × Addr × Value) : DictEntry := ⟨reduceHash (Builtin.Tuple.tupleHashOf (x.1.map hashInt)), .ref x.2.1, x.2.2⟩
def dictI (a : Addr) (xs : List (List Int × Addr × Value)) : HO := .ext fun h => ∃ (o : Obj) (es : Array DictEntry) (ep : Nat), h.get? a = some o ∧ o.ExactDict ∧ o.data = .dict es ep ∧ es.toList = xs.map entI
def TIs (B : Hp) : List (List Int × Addr × Value) → List (List Int × PyData) → Prop := Paired fun p q => p.1 = q.1 ∧ PlT B p.2.1 (p.1.map V.int) ∧ ∃ v : V, RelV v p.2.2 ∧ DD B v q.2
structure TDi (B H : Hp) (a : Addr) (xs : List (List Int × Addr × Value)) (kvs : List (List Int × PyData)) : Prop where
  here : H a = some (dictI a xs)
  big : (a == sysModules) = false
  few : xs.length ≤ sizeLine
  nd : (xs.map (·.1)).Nodup
  are : TIs B xs kvs
/-- the objects that belong to one -/
def Foot (H : Hp) (a : Addr) : Cont → Addr → Prop
  | .l _, p => p = a
  | .k _, p => p = a
  | .t _, p => p = a
  | .ot t, p => p = a ∨ p ∈ t.fp
  | .pt _, _ => False
  | .al _ _ _, _ => False
  | .fk _ _, _ => False
  | .tp ps, p => p = a ∨ ∃ xs, H a = some (.tup xs) ∧ ∃ (i : Nat) (q : Pt), ps[i]? = some q ∧ q.own = true ∧ xs[i]? = some (V.ref p)
def InK (B H : Hp) (a : Addr) (v : V) (kvs : List (Key × PyData)) : Prop := ∃ b zs, v = .ref b ∧ b ≠ a ∧ H b = some (.dK zs) ∧ KDs B zs kvs
def InL (B H : Hp) (a : Addr) (v : V) (ds : List PyData) : Prop := ∃ b zs, v = .ref b ∧ b ≠ a ∧ H b = some (.lst zs) ∧ DDs B zs ds
def InP (B : Hp) (v : V) (ds : List PyData) : Prop := ∃ b o zs, v = .ref b ∧ B b = some (.frz o (.tup zs)) ∧ o.cls = .type "tuple" ∧ o.dict = none ∧ DDs B zs ds
def PtOk (B H : Hp) (a : Addr) (v : V) : Pt → Prop
  | .d d => DD B v d
  | .l ds => InL B H a v ds
  | .k kvs => InK B H a v kvs
  | .p ds => InP B v ds
def ContOk (B H : Hp) (a : Addr) : Cont → Prop
  | .l ds => ∃ xs, H a = some (.lst xs) ∧ DDs B xs ds
  | .k kvs => ∃ ys, H a = some (.dK ys) ∧ KDs B ys kvs
  | .t kvs => ∃ xs, TDi B H a xs kvs
  | .ot t => OTk B H (.ref a) t ∧ t.fp.Nodup ∧ t.root = some a
  | .al b _ _ => a = b
  | .pt ds => ∃ o xs, B a = some (.frz o (.tup xs)) ∧ o.cls = .type "tuple" ∧ o.dict = none ∧ DDs B xs ds
  | .fk d kvs => a = d ∧ ∃ o ys, B a = some (.frz o (.dK ys)) ∧ KDs B ys kvs
  | .tp ps => ∃ xs, H a = some (.tup xs) ∧ Paired (PtOk B H a) xs ps ∧ ∀ (i j : Nat) (b : Addr) (p q : Pt), ps[i]? = some p → ps[j]? = some q → p.own = true → q.own = true → xs[i]? = some (.ref b) → xs[j]? = some (.ref b) → i = j
def Cont.real : Cont → Bool
  | .fk _ _ => false
  | .pt _ => false
  | .al _ _ _ => false
  | _ => true
theorem real_of {c : Cont} (h : c.simple = true) : c.real = true := by cases c <;> first | rfl | cases h
theorem foot_self {H : Hp} {a : Addr} {c : Cont} (r : c.real = true := by rfl) : Foot H a c a := by
  cases c with
  | fk _ _ => cases r
  | l _ => rfl
  | k _ => rfl
  | t _ => rfl
  | pt _ => cases r
  | ot _ => exact .inl rfl
  | al _ _ _ => cases r
  | tp _ => exact .inl rfl
theorem foot_one {H : Hp} {a p : Addr} {c : Cont} (s : c.simple = true) (h : Foot H a c p) : p = a := by
  cases c with
  | l _ => exact h
  | k _ => exact h
  | t _ => exact h
  | pt _ => cases s
  | ot _ => cases s
  | al _ _ _ => cases s
  | tp _ => cases s
  | fk _ _ => cases s
theorem foot_eq0 {H H' : Hp} {a p : Addr} {c : Cont} (e : H' a = H a) : Foot H' a c p ↔ Foot H a c p := by
  cases c <;> (unfold Foot; first | exact Iff.rfl | rw [e])
theorem foot_eq {H H' : Hp} {a : Addr} {c : Cont} (e : ∀ p, Foot H a c p → H' p = H p) {p : Addr} : Foot H' a c p ↔ Foot H a c p := by
  by_cases r : c.real = true
  · exact foot_eq0 (e a (foot_self r))
  · cases c with
    | fk _ _ => exact Iff.rfl
    | pt _ => exact Iff.rfl
    | al _ _ _ => exact Iff.rfl
    | _ => exact absurd rfl r
theorem KDs.mono {κ : Type} {B B' : Hp} (h : Same B B') {ys : List (κ × V)} {kvs : List (κ × PyData)} (q : KDs B ys kvs) : KDs B' ys kvs :=
  Paired.mapP q fun _ _ z => ⟨z.1, z.2.mono h⟩
theorem TIs.mono {B B' : Hp} (h : Same B B') {xs : List (List Int × Addr × Value)} {kvs : List (List Int × PyData)} (q : TIs B xs kvs) : TIs B' xs kvs :=
  Paired.mapP q fun _ _ z => ⟨z.1, z.2.1.mono h, z.2.2.imp fun _ y => ⟨y.1, y.2.mono h⟩⟩
theorem TDi.mono {B B' H H' : Hp} {a : Addr} {xs : List (List Int × Addr × Value)} {kvs : List (List Int × PyData)} (h : Same B B') (e : H' a = H a) (q : TDi B H a xs kvs) : TDi B' H' a xs kvs := ⟨by rw [e]; exact q.here, q.big, q.few, q.nd, q.are.mono h⟩
theorem paired_at {α β : Type} {G : α → β → Prop} {xs : List α} {ys : List β} (h : Paired G xs ys) : ∀ {i : Nat} {x : α}, xs[i]? = some x → ∃ y, ys[i]? = some y ∧ G x y := by
  induction h with
  | nil => intro i x e; simp at e
  | cons q r ih =>
    intro i x e
    cases i with
    | zero => simp at e; subst e; exact ⟨_, rfl, q⟩
    | succ i => obtain ⟨y, e1, q1⟩ := ih (i := i) (by simpa using e); exact ⟨y, by simpa using e1, q1⟩
theorem paired_mono {α β : Type} {G G' : α → β → Prop} {xs : List α} {ys : List β} (h : Paired G xs ys) : (∀ (i : Nat) (x : α) (y : β), xs[i]? = some x → ys[i]? = some y → G x y → G' x y) → Paired G' xs ys := by
  induction h with
  | nil => intro _; exact .nil
  | cons q r ih => intro f; exact .cons (f 0 _ _ rfl rfl q) (ih fun i x y e1 e2 => f (i + 1) x y (by simpa using e1) (by simpa using e2))
theorem InK.mono {B B' H H' : Hp} {a : Addr} {v : V} {kvs : List (Key × PyData)} (s : Same B B') (e : ∀ b, v = .ref b → H' b = H b) (h : InK B H a v kvs) : InK B' H' a v kvs := by
  obtain ⟨b, zs, rfl, n, q, r⟩ := h
  exact ⟨b, zs, rfl, n, by rw [e b rfl]; exact q, r.mono s⟩
theorem InL.mono {B B' H H' : Hp} {a : Addr} {v : V} {ds : List PyData} (s : Same B B') (e : ∀ b, v = .ref b → H' b = H b) (h : InL B H a v ds) : InL B' H' a v ds := by
  obtain ⟨b, zs, rfl, n, q, r⟩ := h
  exact ⟨b, zs, rfl, n, by rw [e b rfl]; exact q, r.mono s⟩
theorem InP.mono {B B' : Hp} {v : V} {ds : List PyData} (s : Same B B') (h : InP B v ds) : InP B' v ds := by
  obtain ⟨b, o, zs, rfl, q, ec, ed, r⟩ := h
  exact ⟨b, o, zs, rfl, s _ _ q, ec, ed, r.mono s⟩
theorem ContOk.mono {B B' H H' : Hp} {a : Addr} {c : Cont} (hB : Same B B') (hH : ∀ p, Foot H a c p → H' p = H p) (q : ContOk B H a c) : ContOk B' H' a c := by
  have h0 : c.real = true → H' a = H a := fun r => hH a (foot_self r)
  cases c with
  | fk d kvs => obtain ⟨ed, o, xs, e, r⟩ := q; exact ⟨ed, o, xs, hB _ _ e, r.mono hB⟩
  | l ds => obtain ⟨xs, e, r⟩ := q; exact ⟨xs, by rw [h0 rfl]; exact e, r.mono hB⟩
  | k kvs => obtain ⟨xs, e, r⟩ := q; exact ⟨xs, by rw [h0 rfl]; exact e, r.mono hB⟩
  | t kvs => obtain ⟨xs, r⟩ := q; exact ⟨xs, r.mono hB (h0 rfl)⟩
  | pt ds => obtain ⟨o, xs, e, ec, ed, r⟩ := q; exact ⟨o, xs, hB _ _ e, ec, ed, r.mono hB⟩
  | ot t => exact ⟨q.1.mono hB fun p f => hH p (.inr f), q.2⟩
  | al _ _ _ => exact q
  | tp ps =>
    obtain ⟨xs, e, r, d⟩ := q
    refine ⟨xs, by rw [h0 rfl]; exact e, paired_mono r fun i x y e1 e2 z => ?_, d⟩
    cases y with
    | d _ => exact DD.mono hB z
    | l _ => exact InL.mono hB (fun b eb => hH b (.inr ⟨xs, e, i, _, e2, rfl, by rw [e1, ← eb]⟩)) z
    | k _ => exact InK.mono hB (fun b eb => hH b (.inr ⟨xs, e, i, _, e2, rfl, by rw [e1, ← eb]⟩)) z
    | p _ => exact InP.mono hB z
theorem ContOk.there {B H : Hp} {a p : Addr} {c : Cont} (q : ContOk B H a c) (f : Foot H a c p) : ∃ o, H p = some o := by
  cases c with
  | fk _ _ => exact f.elim
  | l ds => cases f; obtain ⟨xs, e, _⟩ := q; exact ⟨_, e⟩
  | k kvs => cases f; obtain ⟨xs, e, _⟩ := q; exact ⟨_, e⟩
  | t kvs => cases f; obtain ⟨xs, q⟩ := q; exact ⟨_, q.here⟩
  | pt ds => exact f.elim
  | ot t =>
    rcases f with rfl | f
    · obtain ⟨q, _, e⟩ := q
      cases t with
      | d _ => cases e
      | n a b ts => cases e; exact q.there (by unfold OT.fp; exact List.mem_cons_self ..)
    · exact q.1.there f
  | al _ _ _ => exact f.elim
  | tp ps =>
    obtain ⟨xs, e, r, _⟩ := q
    rcases f with rfl | ⟨xs', e', i, y, e1, eo, f⟩
    · exact ⟨_, e⟩
    · rw [e] at e'; cases e'
      obtain ⟨y', e2, q⟩ := paired_at r f
      rw [e1] at e2; cases e2
      cases y with
      | d _ => cases eo
      | l _ => obtain ⟨b, zs, eb, _, q, _⟩ := q; cases eb; exact ⟨_, q⟩
      | k _ => obtain ⟨b, zs, eb, _, q, _⟩ := q; cases eb; exact ⟨_, q⟩
      | p _ => cases eo
inductive Sl where
  | d (d : PyData)
  | w (d : PyData)
  | o (b : Bool) (c : Cont)
abbrev SEnv := List (Option Sl)
inductive R where
  | d (d : PyData)
  | w (d : PyData)
  | o (i : Nat)
  | n (c : Cont)
def SlOk (K : PySem.W.Frag) (F B H : Hp) (v : V) : Sl → Prop
  | .d d => DD B v d
  | .w d => DW K v d
  | .o _ c => ∃ a, v = .ref a ∧ (∀ p, Foot H a c p → B p = none ∧ F p = none) ∧ ContOk B H a c
structure Rep (K : PySem.W.Frag) (F B H : Hp) (vs : List V) (σ : L2.St) (δ : SEnv) : Prop where
  sb : Same B H
  sf : Same F H
  dj : ∀ a o, F a = some o → B a = none
  len : σ.length = δ.length
  ok : ∀ (i : Nat) (s : Sl), δ[i]? = some (some s) → ∃ v, σ[i]? = some (some v) ∧ SlOk K F B H v s
  apart : ∀ (i j : Nat) (a a' p : Addr) (b : Bool) (c : Cont) (b' : Bool) (c' : Cont), δ[i]? = some (some (.o b c)) → δ[j]? = some (some (.o b' c')) → σ[i]? = some (some (.ref a)) → σ[j]? = some (some (.ref a')) → Foot H a c p → Foot H a' c' p → i = j
  bor : ∀ (i : Nat) (c : Cont), δ[i]? = some (some (.o true c)) → ∃ v, σ[i]? = some (some v) ∧ vs[i]? = some v
  nt : ∀ (a : Addr) (ps : Array Value), B a ≠ some (.tbl ps)
/-- the slots' own objects are none of these -/
def Off (H : Hp) (σ : L2.St) (δ : SEnv) (f : Addr → Prop) : Prop := ∀ (i : Nat) (b : Bool) (c : Cont) (a p : Addr), δ[i]? = some (some (.o b c)) → σ[i]? = some (some (.ref a)) → Foot H a c p → ¬ f p
def RepR (K : PySem.W.Frag) (F B H : Hp) (σ : L2.St) (δ : SEnv) (v : V) : R → Prop
  | .d d => DD B v d
  | .w d => DW K v d
  | .o i => σ[i]? = some (some v)
  | .n c => ∃ a, v = .ref a ∧ (∀ p, Foot H a c p → B p = none ∧ F p = none) ∧ ContOk B H a c ∧ Off H σ δ (Foot H a c)
section
variable {K : PySem.W.Frag} {F B H B' H' : Hp} {vs : List V} {σ : L2.St} {δ : SEnv} {v : V}
theorem same_new {H : Hp} {p : Addr} (h : H p = none) (o : HO) : Same H (upd H p o) := fun b u q => by rw [upd_ne (ne_of_none q h)]; exact q
theorem nof {B H : Hp} (e : Same B H) {p : Addr} (h : H p = none) : B p = none := L2.Same.free e h
theorem nt_upd {B : Hp} {p : Addr} {o : HO} (h : ∀ (a : Addr) (ps : Array Value), B a ≠ some (.tbl ps)) (ho : ∀ ps, o ≠ .tbl ps) (a : Addr) (ps : Array Value) : upd B p o a ≠ some (.tbl ps) := fun e => by
  by_cases ha : a = p
  · subst ha; rw [upd_same] at e; cases e; exact ho _ rfl
  · rw [upd_ne ha] at e; exact h _ _ e
/-- elsewhere changed -/
theorem Rep.own_up (h : Rep K F B H vs σ δ) {i : Nat} {b : Bool} {c : Cont} {a : Addr} (e : δ[i]? = some (some (.o b c))) (ea : σ[i]? = some (some (.ref a))) : (∀ p, Foot H a c p → B p = none ∧ F p = none) ∧ ContOk B H a c := by
  obtain ⟨v, e1, a', e2, q1, q2⟩ := h.ok i _ e
  rw [ea] at e1; cases e1; cases e2
  exact ⟨q1, q2⟩
theorem foot_new {B H : Hp} {a p q : Addr} {c : Cont} {o : HO} (h : ContOk B H a c) (hp : H p = none) (f : Foot H a c q) : q ≠ p := by
  obtain ⟨u, hu⟩ := h.there f
  exact ne_of_none hu hp
theorem foot_upd {B H : Hp} {a p q : Addr} {c : Cont} {o : HO} (h : ContOk B H a c) (hp : H p = none) : Foot (upd H p o) a c q ↔ Foot H a c q := foot_eq fun r f => upd_ne (foot_new (o := o) h hp f)
theorem Rep.apart_new (h : Rep K F B H vs σ δ) {p : Addr} (hp : H p = none) (o : HO) : ∀ (i j : Nat) (a a' q : Addr) (b : Bool) (c : Cont) (b' : Bool) (c' : Cont), δ[i]? = some (some (.o b c)) → δ[j]? = some (some (.o b' c')) → σ[i]? = some (some (.ref a)) → σ[j]? = some (some (.ref a')) → Foot (upd H p o) a c q → Foot (upd H p o) a' c' q → i = j :=
  fun i j a a' q b c b' c' e1 e2 e3 e4 f1 f2 => h.apart i j a a' q b c b' c' e1 e2 e3 e4 ((foot_upd (h.own_up e1 e3).2 hp).mp f1) ((foot_upd (h.own_up e2 e4).2 hp).mp f2)
/-- a new object, taken as data -/
theorem Rep.new (h : Rep K F B H vs σ δ) {p : Addr} (hp : H p = none) (o : HO) (ho : ∀ ps, o ≠ .tbl ps := by intro _ z; cases z) : Rep K F (upd B p o) (upd H p o) vs σ δ := by
  have hB := nof h.sb hp
  have hF := nof h.sf hp
  refine ⟨fun a u e => ?_, h.sf.trans (same_new hp o), fun a u e => ?_, h.len, fun i s e => ?_, h.apart_new hp o, h.bor, nt_upd h.nt ho⟩
  · by_cases ha : a = p
    · subst ha; rw [upd_same] at e ⊢; exact e
    · rw [upd_ne ha] at e ⊢; exact h.sb a u e
  · have ha : a ≠ p := ne_of_none e hF
    rw [upd_ne ha]; exact h.dj a u e
  · obtain ⟨v, e1, q⟩ := h.ok i s e
    refine ⟨v, e1, ?_⟩
    cases s with
    | d d => exact DD.mono (same_new hB o) q
    | w d => exact q
    | o b c =>
      obtain ⟨a, e2, e3, q⟩ := q
      refine ⟨a, e2, fun r f => ?_, q.mono (same_new hB o) fun r f => upd_ne (foot_new (o := o) q hp f)⟩
      have f' := (foot_upd q hp).mp f
      rw [upd_ne (foot_new (o := o) q hp f')]
      exact e3 r f'
/-- a new object of its own -/
theorem Rep.newO (h : Rep K F B H vs σ δ) {p : Addr} (hp : H p = none) (o : HO) : Rep K F B (upd H p o) vs σ δ := by
  refine ⟨h.sb.trans (same_new hp o), h.sf.trans (same_new hp o), h.dj, h.len, fun i s e => ?_, h.apart_new hp o, h.bor, h.nt⟩
  obtain ⟨v, e1, q⟩ := h.ok i s e
  refine ⟨v, e1, ?_⟩
  cases s with
  | d d => exact q
  | w d => exact q
  | o b c =>
    obtain ⟨a, e2, e3, q⟩ := q
    exact ⟨a, e2, fun r f => e3 r ((foot_upd q hp).mp f), q.mono (Same.refl _) fun r f => upd_ne (foot_new (o := o) q hp f)⟩
/-- a new object stands apart from the slots -/
theorem Rep.fresh (h : Rep K F B H vs σ δ) {p : Addr} (hp : H p = none) (o : HO) : Off (upd H p o) σ δ fun q => q = p := fun i b c a q e1 e2 f z => by
  have k := (h.own_up e1 e2).2
  exact foot_new (o := o) k hp ((foot_upd k hp).mp f) z
/-- a list of one's own is taken as data from now on -/
theorem Rep.freeze (h : Rep K F B H vs σ δ) {a : Addr} {xs : HO} (ha : H a = some xs) (hB : B a = none) (hF : F a = none) (hn : Off H σ δ fun q => q = a) (hx : ∀ ps, xs ≠ .tbl ps := by intro _ z; cases z) :
    Rep K F (upd B a xs) H vs σ δ := by
  refine ⟨fun b u e => ?_, h.sf, fun b u e => ?_, h.len, fun i s e => ?_, h.apart, h.bor, nt_upd h.nt hx⟩
  · by_cases hb : b = a
    · subst hb; rw [upd_same] at e; rw [← e]; exact ha
    · rw [upd_ne hb] at e; exact h.sb b u e
  · have hb : b ≠ a := ne_of_none e hF
    rw [upd_ne hb]; exact h.dj b u e
  · obtain ⟨v, e1, q⟩ := h.ok i s e
    refine ⟨v, e1, ?_⟩
    cases s with
    | d d => exact DD.mono (same_new hB _) q
    | w d => exact q
    | o b c =>
      obtain ⟨p, e2, e3, q⟩ := q
      subst e2
      refine ⟨p, rfl, fun r f => ?_, q.mono (same_new hB _) fun _ _ => rfl⟩
      rw [upd_ne (fun z : r = a => hn i b c p r e e1 f z)]
      exact e3 r f
end
end DL
set_option Elab.async false
set_option linter.all false
set_option maxRecDepth 100000
set_option maxHeartbeats 4000000
set_option autoImplicit false
namespace DL
open PySem PySem.Spec PyProof.Rows L2
structure Gx where
  P : Program
  w : World
  K : PySem.W.Frag
  mg : Str → Option Value
  base : Heap
structure Cl where
  A : Around
  N : List Str
  s_0 : Shared
  H_0 : Hp
  env : Env
  outer : List Env
  stack : List Env
  ex : List Addr
  fn : Str → Bool
  calm : Bool
  pn : List (Addr × Obj)
  xe : Value → Shared → Prop
abbrev Gx.cx (g : Gx) (c : Cl) : Cx := ⟨g.P, g.w, g.K, g.mg, g.base, c.A, c.N, c.s_0, c.H_0, c.env, c.outer, c.stack, c.ex, c.fn, c.calm, c.pn, c.xe⟩
structure Sg where
  g : Gx
  CX : CXT
  N : List Str
  sc : Scope
  k : Nat
  E : XK
  top : Bool
  thr : Bool
structure Sg.ok (S : Sg) (c : Cl) : Prop where
  hN : c.N = S.N
  nd : S.N.Nodup
  hs : c.env.scope = S.sc
  calm : c.calm = true
  room : Room S.k c.A
  ps : Passes S.CX (S.g.cx c) S.E
  po : PassesOwn (model S.g.P S.g.w) c.A c.env c.xe
  fn : S.top = true → ∀ x, c.fn x = true
  gd : c.A.guards = some []
  tk : S.thr = true → Takes (S.g.cx c) fun cls d _ H => S.E cls d H
  fr : S.top = true → c.stack = c.env :: c.outer ∧ c.env.frame = some c.env.locals
structure Exc where
  cls : Value
  flds : List (Str × PyData)
def FldsOk (B : Hp) : List (Str × V) → List (Str × PyData) → Prop := Paired fun (p : Str × V) (q : Str × PyData) => p.1 = q.1 ∧ DD B p.2 q.2
def XOk (F B : Hp) (E : XK) (Ex : Exc → Prop) : Prop := ∀ (cls : Value) (da : Addr) (B' H' : Hp) (fs : List (Str × V)) (fds : List (Str × PyData)), (Same B B' ∧ ∀ (a : Addr) (ps : Array Value), B' a ≠ some (.tbl ps)) → Same B' H' → Same F H' → (∀ a o, F a = some o → B' a = none) →
  B' da = some (.xd fs) → FldsOk B' fs fds → Ex ⟨cls, fds⟩ → E cls (some da) H'
theorem XOk.up {F B B1 : Hp} {E : XK} {Ex : Exc → Prop} (h : XOk F B E Ex) (s : Same B B1) : XOk F B1 E Ex := fun cls da B' H' fs fds s1 s2 s3 s4 e f x => h cls da B' H' fs fds ⟨s.trans s1.1, s1.2⟩ s2 s3 s4 e f x
abbrev XP := Exc → Prop
abbrev WE := XP → SEnv → (R → SEnv → Prop) → Prop
abbrev WT := XP → SEnv → (Bool → SEnv → Prop) → Prop
abbrev WA := XP → SEnv → (List R → SEnv → Prop) → Prop
structure DEnds where
  nx : SEnv → Prop
  rt : R → SEnv → Prop
  bk : SEnv → Prop
  ct : SEnv → Prop
  ex : XP
abbrev WS := DEnds → SEnv → Prop
structure DEnds.le (d d' : DEnds) : Prop where
  nx : ∀ δ, d.nx δ → d'.nx δ
  rt : ∀ r δ, d.rt r δ → d'.rt r δ
  bk : ∀ δ, d.bk δ → d'.bk δ
  ct : ∀ δ, d.ct δ → d'.ct δ
  ex : ∀ e, d.ex e → d'.ex e
structure ESim (K : PySem.W.Frag) (E : XK) (t : TE) (W : WE) : Prop where
  mono : ∀ (Ex Ex' : XP) (δ : SEnv) (P P' : R → SEnv → Prop), (∀ e, Ex e → Ex' e) → (∀ r δ', P r δ' → P' r δ') → W Ex δ P → W Ex' δ P'
  run : ∀ (Ex : XP) (F B H : Hp) (vs : List V) (σ : L2.St) (δ : SEnv) (P : R → SEnv → Prop) (Q : VK), XOk F B E Ex → Rep K F B H vs σ δ → W Ex δ P →
    (∀ B' H' v r δ', Same B B' → Rep K F B' H' vs σ δ' → RepR K F B' H' σ δ' v r → P r δ' → Q v H') → t σ H Q
structure TSim (K : PySem.W.Frag) (E : XK) (t : TT) (W : WT) : Prop where
  mono : ∀ (Ex Ex' : XP) (δ : SEnv) (P P' : Bool → SEnv → Prop), (∀ e, Ex e → Ex' e) → (∀ r δ', P r δ' → P' r δ') → W Ex δ P → W Ex' δ P'
  run : ∀ (Ex : XP) (F B H : Hp) (vs : List V) (σ : L2.St) (δ : SEnv) (P : Bool → SEnv → Prop) (Q : Bool → Hp → Prop), XOk F B E Ex → Rep K F B H vs σ δ → W Ex δ P →
    (∀ B' H' b δ', Same B B' → Rep K F B' H' vs σ δ' → P b δ' → Q b H') → t σ H Q
def RepRs (K : PySem.W.Frag) (F B H : Hp) (σ : L2.St) (δ : SEnv) : List V → List R → Prop := Paired fun v r => RepR K F B H σ δ v r ∧ ∀ c, r ≠ .n c
structure ASim (K : PySem.W.Frag) (E : XK) (t : TA) (W : WA) : Prop where
  mono : ∀ (Ex Ex' : XP) (δ : SEnv) (P P' : List R → SEnv → Prop), (∀ e, Ex e → Ex' e) → (∀ r δ', P r δ' → P' r δ') → W Ex δ P → W Ex' δ P'
  run : ∀ (Ex : XP) (F B H : Hp) (vs : List V) (σ : L2.St) (δ : SEnv) (P : List R → SEnv → Prop) (Q : List V → Hp → Prop), XOk F B E Ex → Rep K F B H vs σ δ → W Ex δ P →
    (∀ B' H' ws rs δ', Same B B' → Rep K F B' H' vs σ δ' → RepRs K F B' H' σ δ' ws rs → P rs δ' → Q ws H') → t σ H Q
structure EndsOk (K : PySem.W.Frag) (F B : Hp) (vs : List V) (D : Ends) (d : DEnds) : Prop where
  nx : ∀ B' σ' H' δ', Same B B' → Rep K F B' H' vs σ' δ' → d.nx δ' → D.nx σ' H'
  rt : ∀ B' σ' H' δ' v r, Same B B' → Rep K F B' H' vs σ' δ' → RepR K F B' H' σ' δ' v r → d.rt r δ' → D.rt v H'
  bk : ∀ B' σ' H' δ', Same B B' → Rep K F B' H' vs σ' δ' → d.bk δ' → D.bk σ' H'
  ct : ∀ B' σ' H' δ', Same B B' → Rep K F B' H' vs σ' δ' → d.ct δ' → D.ct σ' H'
theorem EndsOk.up {K : PySem.W.Frag} {F B B1 : Hp} {vs : List V} {D : Ends} {d : DEnds} (h : EndsOk K F B vs D d) (s : Same B B1) : EndsOk K F B1 vs D d :=
  ⟨fun B' σ' H' δ' s1 => h.nx B' σ' H' δ' (s.trans s1), fun B' σ' H' δ' v r s1 => h.rt B' σ' H' δ' v r (s.trans s1), fun B' σ' H' δ' s1 => h.bk B' σ' H' δ' (s.trans s1), fun B' σ' H' δ' s1 => h.ct B' σ' H' δ' (s.trans s1)⟩
structure SSim (K : PySem.W.Frag) (E : XK) (t : TS) (W : WS) : Prop where
  mono : ∀ (d d' : DEnds) (δ : SEnv), d.le d' → W d δ → W d' δ
  run : ∀ (F B H : Hp) (vs : List V) (σ : L2.St) (δ : SEnv) (D : Ends) (d : DEnds), XOk F B E d.ex → Rep K F B H vs σ δ → EndsOk K F B vs D d → W d δ → t D σ H
def DE (S : Sg) (e : Expr) (W : WE) : Prop := ∃ t, (∀ c, S.ok c → PE (S.g.cx c) e t) ∧ ESim S.g.K S.E t W
def DT (S : Sg) (e : Expr) (W : WT) : Prop := ∃ t, (∀ c, S.ok c → PT (S.g.cx c) e t) ∧ TSim S.g.K S.E t W
def DW' (S : Sg) (e : Expr) (W : WT) : Prop := ∃ t, (∀ c, S.ok c → PW (S.g.cx c) e t) ∧ TSim S.g.K S.E t W
def DA (S : Sg) (es : List Expr) (W : WA) : Prop := ∃ t, (∀ c, S.ok c → PA (S.g.cx c) es t) ∧ ASim S.g.K S.E t W
def DS (S : Sg) (st : Stmt) (W : WS) : Prop := ∃ t, (∀ c, S.ok c → PS (S.g.cx c) st t) ∧ SSim S.g.K S.E t W
def DSs (S : Sg) (st : List Stmt) (W : WS) : Prop := ∃ t, (∀ c, S.ok c → PSs (S.g.cx c) st t) ∧ SSim S.g.K S.E t W
def settle : R → Option R
  | .n (.l ds) => some (.d (.list ds))
  | .n _ => none
  | r => some r
def scalar : PyData → Bool
  | .none => true
  | .bool _ => true
  | .int _ => true
  | .str _ => true
  | _ => false
def frz (δ : SEnv) : R → Option (PyData × SEnv)
  | .d d => some (d, δ)
  | .w d => if scalar d then some (d, δ) else none
  | .n (.l ds) => some (.list ds, δ)
  | .n _ => none
  | .o i => match δ[i]? with
    | some (some (.o false (.l ds))) => some (.list ds, δ.set i (some (.d (.list ds))))
    | some (some (.d d)) => some (d, δ)
    | some (some (.w d)) => if scalar d then some (d, δ) else none
    | _ => none
inductive Vw where
  | d (d : PyData)
  | w (d : PyData)
  | k (kvs : List (Key × PyData))
  | t (kvs : List (List Int × PyData))
  | xk (ks : List Key)
  | xl (n : Nat)
  | rk (kvs : List (Key × PyData))
  | xt (ds : List PyData)
/-- a slot that is known to hold a plain tuple -/
def plainAt (δ : SEnv) (i : Nat) : Option (List PyData) := match δ[i]? with
  | some (some (.o _ (.pt ds))) => some ds
  | _ => none
def OT.dat : OT → Option PyData
  | .d x => some x
  | .n _ _ _ => none
def datas : List (Key × OT) → Option (List (Key × PyData))
  | [] => some []
  | (k, t) :: r => t.dat.bind fun d => (datas r).map fun ds => (k, d) :: ds
def OT.vw : OT → Option Vw
  | .d _ => none
  | .n _ true ts => match datas ts with
    | some kvs => some (.k kvs)
    | none => some (.xk (ts.map (·.1)))
  | .n _ false ts => match datas ts with
    | some kvs => some (.d (.list (kvs.map (·.2))))
    | none => some (.xl ts.length)
def chN (b : Bool) (ts : List (Key × OT)) (k : Key) : Option Nat := if b = true then ts.findIdx? (fun q => decide (q.1 = k)) else match k with
  | .inl i => if 0 ≤ i ∧ i < (ts.length : Int) then some i.toNat else none
  | .inr _ => none
/-- what lies at the end of a way -/
def OT.at : OT → List Key → Option OT
  | t, [] => some t
  | .d _, _ :: _ => none
  | .n _ b ts, k :: p => (chN b ts k).bind fun i => ts[i]?.bind fun q => q.2.at p
/-- the thing that a borrowed name tells, where it still lies there -/
def alAt (δ : SEnv) (a : Addr) (i : Nat) (p : List Key) : Option OT := match δ[i]? with
  | some (some (.o _ (.ot t))) => (t.at p).bind fun u => if u.root = some a then some u else none
  | _ => none
def Cont.vw (δ : SEnv) : Cont → Option Vw
  | .l ds => some (.d (.list ds))
  | .k kvs => some (.k kvs)
  | .t kvs => some (.t kvs)
  | .ot u => u.vw
  | .al a i p => (alAt δ a i p).bind OT.vw
  | .tp _ => none
  | .pt ds => some (.xt ds)
  | .fk _ kvs => some (.rk kvs)
def wv (d : PyData) : Vw := if scalar d then .d d else .w d
def view (δ : SEnv) : R → Option Vw
  | .d d => some (.d d)
  | .w d => some (wv d)
  | .n c => c.vw δ
  | .o i => match δ[i]? with
    | some (some (.d d)) => some (.d d)
    | some (some (.w d)) => some (wv d)
    | some (some (.o _ c)) => c.vw δ
    | _ => none
def OV (K : PySem.W.Frag) (B H : Hp) (v : V) : Vw → Prop
  | .d d => DD B v d ∨ ∃ a xs ds, v = .ref a ∧ d = .list ds ∧ H a = some (.lst xs) ∧ DDs B xs ds
  | .w d => DW K v d
  | .k kvs => ∃ a ys, v = .ref a ∧ H a = some (.dK ys) ∧ KDs B ys kvs
  | .t kvs => ∃ a xs, v = .ref a ∧ TDi B H a xs kvs
  | .xk ks => ∃ a ys, v = .ref a ∧ H a = some (.dK ys) ∧ ys.map (·.1) = ks
  | .xl n => ∃ a xs, v = .ref a ∧ H a = some (.lst xs) ∧ xs.length = n
  | .rk kvs => ∃ a ys, v = .ref a ∧ Rd H a (.dK ys) ∧ KDs B ys kvs
  | .xt ds => InP B v ds
section
variable {K : PySem.W.Frag} {F B H B' H' : Hp} {vs : List V} {σ : L2.St} {δ : SEnv} {v : V}
theorem DW.scal {d : PyData} (h : DW K v d) (e : scalar d = true) : DD B v d := by
  unfold DW at h
  cases h with
  | non => exact .non
  | bl b => exact .bl b
  | int i => exact .int i
  | str x => exact .str x
  | lst _ _ => cases e
  | tup _ _ => cases e
theorem wv_ov {d : PyData} (h : DW K v d) : OV K B H v (wv d) := by
  unfold wv
  split
  · exact .inl (h.scal (by assumption))
  · exact h
theorem OTks.at {B H : Hp} : ∀ {ys : List (Key × V)} {ts : List (Key × OT)}, OTks B H ys ts → ∀ {i : Nat} {q : Key × OT}, ts[i]? = some q → ∃ v, ys[i]? = some (q.1, v) ∧ OTk B H v q.2
  | _, _, .nil, i, q, e => by simp at e
  | _, _, .cons q r, 0, _, e => by simp at e; subst e; exact ⟨_, rfl, q⟩
  | _, _, .cons q r, i + 1, _, e => by
    obtain ⟨v, e1, q1⟩ := OTks.at r (i := i) (by simpa using e)
    exact ⟨v, by simpa using e1, q1⟩
theorem OTks.len {B H : Hp} : ∀ {ys : List (Key × V)} {ts : List (Key × OT)}, OTks B H ys ts → ys.length = ts.length
  | _, _, .nil => rfl
  | _, _, .cons _ r => congrArg (· + 1) (OTks.len r)
theorem OTks.keys {B H : Hp} : ∀ {ys : List (Key × V)} {ts : List (Key × OT)}, OTks B H ys ts → ys.map (·.1) = ts.map (·.1)
  | _, _, .nil => rfl
  | _, _, .cons _ r => by rw [List.map_cons, List.map_cons, OTks.keys r]
theorem at_ok {B H : Hp} : ∀ {p : List Key} {v : V} {t u : OT}, OTk B H v t → t.at p = some u → ∃ v', OTk B H v' u
  | [], v, t, u, q, e => by cases t <;> (cases e; exact ⟨_, q⟩)
  | k :: p, v, .d _, u, q, e => by cases e
  | k :: p, _, .n a b ts, u, .n h q, e => by
    simp only [OT.at] at e
    obtain ⟨i, _, e⟩ := Option.bind_eq_some_iff.mp e
    obtain ⟨x, e1, e⟩ := Option.bind_eq_some_iff.mp e
    obtain ⟨v', _, q'⟩ := q.at e1
    exact at_ok q' e
theorem datas_ok {B H : Hp} : ∀ {ys : List (Key × V)} {ts : List (Key × OT)} {kvs : List (Key × PyData)}, OTks B H ys ts → datas ts = some kvs → KDs B ys kvs
  | _, _, _, .nil, e => by cases e; exact .nil
  | _, _, _, .cons (t := t) q r, e => by
    simp only [datas] at e
    obtain ⟨d, e1, e⟩ := Option.bind_eq_some_iff.mp e
    obtain ⟨ds, e2, e⟩ := Option.map_eq_some_iff.mp e
    cases e
    cases t with
    | d d' => cases e1; cases q with | d q => exact .cons ⟨rfl, q⟩ (datas_ok r e2)
    | n _ _ _ => cases e1
theorem kds_valsO {B : Hp} {ys : List (Key × V)} {kvs : List (Key × PyData)} (h : KDs B ys kvs) : DDs B (ys.map (·.2)) (kvs.map (·.2)) := by
  induction h with
  | nil => exact .nil
  | cons q _ ih => exact .cons q.2 ih
theorem otvw_ok {K : PySem.W.Frag} {B H : Hp} {v : V} {t : OT} {w : Vw} (q : OTk B H v t) (e : t.vw = some w) : OV K B H v w := by
  cases q with
  | d _ => cases e
  | @n a b ys ts h q =>
    cases b with
    | true =>
      simp only [OT.vw] at e
      split at e
      · cases e; rename_i kvs e1; exact ⟨a, ys, rfl, h, datas_ok q e1⟩
      · cases e; exact ⟨a, ys, rfl, h, q.keys⟩
    | false =>
      simp only [OT.vw] at e
      split at e
      · cases e; rename_i kvs e1; exact .inr ⟨a, _, _, rfl, rfl, h, kds_valsO (datas_ok q e1)⟩
      · cases e; exact ⟨a, _, rfl, h, by rw [List.length_map]; exact q.len⟩
theorem alAt_some {δ : SEnv} {a : Addr} {i : Nat} {p : List Key} {u : OT} (e : alAt δ a i p = some u) : ∃ b t, δ[i]? = some (some (.o b (.ot t))) ∧ t.at p = some u ∧ u.root = some a := by
  unfold alAt at e
  split at e
  · rename_i b t e1
    obtain ⟨u', e2, e⟩ := Option.bind_eq_some_iff.mp e
    split at e
    · cases e; exact ⟨b, t, e1, e2, by assumption⟩
    · cases e
  · cases e
theorem alAt_ok {K : PySem.W.Frag} {F B H : Hp} {vs : List V} {σ : L2.St} {δ : SEnv} {a : Addr} {i : Nat} {p : List Key} {u : OT} (h : Rep K F B H vs σ δ) (e : alAt δ a i p = some u) : OTk B H (.ref a) u := by
  obtain ⟨b, t, e1, e2, e3⟩ := alAt_some e
  obtain ⟨v, _, a0, rfl, _, q, _⟩ := h.ok i _ e1
  obtain ⟨v', q'⟩ := at_ok q e2
  have := q'.root e3
  subst this
  exact q'
theorem cont_ov {a : Addr} {c : Cont} {w : Vw} (hr : Rep K F B H vs σ δ) (h : ContOk B H a c) (e : c.vw δ = some w) : OV K B H (.ref a) w := by
  cases c with
  | l ds => cases e; obtain ⟨xs, e, q⟩ := h; exact .inr ⟨a, xs, ds, rfl, rfl, e, q⟩
  | k kvs => cases e; obtain ⟨xs, e, q⟩ := h; exact ⟨a, xs, rfl, e, q⟩
  | t kvs => cases e; obtain ⟨xs, q⟩ := h; exact ⟨a, xs, rfl, q⟩
  | ot t => exact otvw_ok h.1 e
  | al a' i p =>
    cases (show a = a' from h)
    obtain ⟨u, e1, e⟩ := Option.bind_eq_some_iff.mp e
    exact otvw_ok (alAt_ok hr e1) e
  | tp ps => cases e
  | pt ds => cases e; obtain ⟨o, xs, e, ec, ed, q⟩ := h; exact ⟨a, o, xs, rfl, e, ec, ed, q⟩
  | fk d kvs => cases e; obtain ⟨_, o, ys, e, q⟩ := h; exact ⟨a, ys, rfl, .inr ⟨o, hr.sb _ _ e⟩, q⟩
theorem view_ok {r : R} {w : Vw} (h : Rep K F B H vs σ δ) (hr : RepR K F B H σ δ v r) (e : view δ r = some w) : OV K B H v w := by
  cases r with
  | d d => cases e; exact .inl hr
  | w d => cases e; exact wv_ov hr
  | n c =>
    obtain ⟨a, rfl, _, q, _⟩ := hr
    exact cont_ov h q e
  | o i =>
    have e1 : σ[i]? = some (some v) := hr
    obtain ⟨s, e2⟩ : ∃ s, δ[i]? = some (some s) := by
      simp only [view] at e
      split at e
      · exact ⟨_, by assumption⟩
      · exact ⟨_, by assumption⟩
      · exact ⟨_, by assumption⟩
      · cases e
    obtain ⟨v', e3, q⟩ := h.ok i s e2
    have ev : v = v' := by
      have z := e1.symm.trans e3
      exact Option.some.inj (Option.some.inj z)
    subst ev
    cases s with
    | d d => simp only [view, e2, Option.some.injEq] at e; subst e; exact .inl q
    | w d => simp only [view, e2, Option.some.injEq] at e; subst e; exact wv_ov q
    | o b c =>
      simp only [view, e2] at e
      obtain ⟨a, rfl, _, q⟩ := q
      exact cont_ov h q e
theorem plain_ok {i : Nat} {ds : List PyData} (h : Rep K F B H vs σ δ) (q : RepR K F B H σ δ v (.o i)) (e : plainAt δ i = some ds) : InP B v ds := by
  unfold plainAt at e
  split at e
  · rename_i b ds' hd
    cases e
    obtain ⟨v', e5, a, ev, _, o, xs, e6, e7, e8, e9⟩ := h.ok i _ hd
    have q1' : σ[i]? = some (some _) := q
    rw [q1'] at e5; cases e5
    exact ⟨a, o, xs, ev, e6, e7, e8, e9⟩
  · cases e
theorem DW.dp {d : PyData} (h : DW K v d) : Dp K H v d := dp_mono (fun _ _ z => by cases z) h
theorem OV.dp {d : PyData} (s : Same B H) (h : OV K B H v (.d d)) : Dp K H v d := by
  rcases h with h | ⟨a, xs, ds, rfl, rfl, e, q⟩
  · exact (h.mono s).dp
  · exact .lst (SqL.of e) (q.mono s).dp
/-- a slot's knowledge is given up -/
theorem set_get {α : Type} {l : List α} {i j : Nat} {x y : α} (h : (l.set i x)[j]? = some y) : (j = i ∧ y = x) ∨ (j ≠ i ∧ l[j]? = some y) := by
  by_cases e : j = i
  · subst e
    have hl : j < (l.set j x).length := (List.getElem?_eq_some_iff.mp h).1
    rw [List.length_set] at hl
    rw [List.getElem?_set_self hl] at h
    exact .inl ⟨rfl, (Option.some.inj h).symm⟩
  · rw [List.getElem?_set_ne (Ne.symm e)] at h
    exact .inr ⟨e, h⟩
theorem Rep.forget (h : Rep K F B H vs σ δ) (i : Nat) : Rep K F B H vs σ (δ.set i none) := by
  refine ⟨h.sb, h.sf, h.dj, by rw [List.length_set]; exact h.len, fun j s e => ?_, fun j k a a' p b c b' c' e1 e2 => ?_, fun j c e => ?_, h.nt⟩
  · rcases set_get e with ⟨_, z⟩ | ⟨_, z⟩
    · cases z
    · exact h.ok j s z
  · rcases set_get e1 with ⟨_, z⟩ | ⟨_, z⟩
    · cases z
    · rcases set_get e2 with ⟨_, z2⟩ | ⟨_, z2⟩
      · cases z2
      · exact h.apart j k a a' p b c b' c' z z2
  · rcases set_get e with ⟨_, z⟩ | ⟨_, z⟩
    · cases z
    · exact h.bor j c z
/-- a slot is known to hold data (its value as it is) -/
theorem Rep.know (h : Rep K F B H vs σ δ) {i : Nat} {d : PyData} (e : σ[i]? = some (some v)) (q : DD B v d) : Rep K F B H vs σ (δ.set i (some (.d d))) := by
  refine ⟨h.sb, h.sf, h.dj, by rw [List.length_set]; exact h.len, fun j s e => ?_, fun j k a a' p b c b' c' e1 e2 => ?_, fun j c e => ?_, h.nt⟩
  · rcases set_get e with ⟨rfl, z⟩ | ⟨_, z⟩
    · cases z; exact ⟨v, by assumption, q⟩
    · exact h.ok j s z
  · rcases set_get e1 with ⟨_, z⟩ | ⟨_, z⟩
    · cases z
    · rcases set_get e2 with ⟨_, z2⟩ | ⟨_, z2⟩
      · cases z2
      · exact h.apart j k a a' p b c b' c' z z2
  · rcases set_get e with ⟨_, z⟩ | ⟨_, z⟩
    · cases z
    · exact h.bor j c z
theorem set_set' {α : Type} (l : List α) (i : Nat) (x y : α) : (l.set i x).set i y = l.set i y := by rw [List.set_set]
theorem frz_ok {r : R} {d : PyData} {δ' : SEnv} (h : Rep K F B H vs σ δ) (hr : RepR K F B H σ δ v r) (e : frz δ r = some (d, δ')) : ∃ B', Same B B' ∧ Rep K F B' H vs σ δ' ∧ DD B' v d := by
  cases r with
  | d d => cases e; exact ⟨B, Same.refl _, h, hr⟩
  | w d =>
    simp only [frz] at e
    split at e
    · cases e; exact ⟨B, Same.refl _, h, DW.scal hr (by assumption)⟩
    · cases e
  | n c =>
    cases c with
    | l ds =>
      cases e
      obtain ⟨a, rfl, hBF, ⟨xs, e1, q⟩, hn⟩ := hr
      have hB := (hBF a foot_self).1
      exact ⟨_, same_new hB _, h.freeze e1 hB (hBF a foot_self).2 hn, .lst (.inl upd_same) (q.mono (same_new hB _))⟩
    | k _ => cases e
    | t _ => cases e
    | ot _ => cases e
    | al _ _ _ => cases e
    | tp _ => cases e
    | pt _ => cases e
    | fk _ _ => cases e
  | o i =>
    have e1 : σ[i]? = some (some v) := hr
    obtain ⟨s, e2⟩ : ∃ s, δ[i]? = some (some s) := by
      simp only [frz] at e
      split at e
      · exact ⟨_, by assumption⟩
      · exact ⟨_, by assumption⟩
      · exact ⟨_, by assumption⟩
      · cases e
    obtain ⟨v', e3, q⟩ := h.ok i s e2
    have ev : v = v' := by
      have z := e1.symm.trans e3
      exact Option.some.inj (Option.some.inj z)
    subst ev
    simp only [frz, e2] at e
    cases s with
    | d d => cases e; exact ⟨B, Same.refl _, h, q⟩
    | w d =>
      simp only at e
      split at e
      · cases e; exact ⟨B, Same.refl _, h, DW.scal q (by assumption)⟩
      · cases e
    | o b c =>
      cases b with
      | true => cases e
      | false =>
        cases c with
        | k _ => cases e
        | t _ => cases e
        | ot _ => cases e
        | al _ _ _ => cases e
        | tp _ => cases e
        | pt _ => cases e
        | fk _ _ => cases e
        | l ds =>
          cases e
          obtain ⟨a, rfl, hBF, ⟨xs, e4, q⟩⟩ := q
          have hB := (hBF a foot_self).1
          have h1 := (h.forget i).freeze e4 hB (hBF a foot_self).2 (fun j b' c' a' p e5 e6 f ep => by
            rcases set_get e5 with ⟨_, z⟩ | ⟨n, z⟩
            · cases z
            · subst ep
              exact n (h.apart j i a' p p b' c' false _ z e2 e6 e1 f foot_self))
          have h2 := h1.know (i := i) e1 (DD.lst (.inl upd_same) (q.mono (same_new hB _)))
          rw [set_set'] at h2
          exact ⟨_, same_new hB _, h2, .lst (.inl upd_same) (q.mono (same_new hB _))⟩
theorem RepR.up {r : R} (s : Same B B') (h : RepR K F B H σ δ v r) (hn : ∀ c, r ≠ .n c) {δ' : SEnv} : RepR K F B' H' σ δ' v r := by
  cases r with
  | d d => exact DD.mono s h
  | w d => exact h
  | o i => exact h
  | n c => exact absurd rfl (hn c)
theorem settle_ok {r r' : R} (h : Rep K F B H vs σ δ) (hr : RepR K F B H σ δ v r) (e : settle r = some r') : ∃ B', Same B B' ∧ Rep K F B' H vs σ δ ∧ RepR K F B' H σ δ v r' ∧ ∀ c, r' ≠ .n c := by
  cases r with
  | d d => cases e; exact ⟨B, Same.refl _, h, hr, fun _ z => nomatch z⟩
  | w d => cases e; exact ⟨B, Same.refl _, h, hr, fun _ z => nomatch z⟩
  | o i => cases e; exact ⟨B, Same.refl _, h, hr, fun _ z => nomatch z⟩
  | n c =>
    cases c with
    | l ds =>
      cases e
      obtain ⟨B', s, h', q⟩ := frz_ok (δ' := δ) h hr rfl
      exact ⟨B', s, h', q, fun _ z => nomatch z⟩
    | k _ => cases e
    | t _ => cases e
    | ot _ => cases e
    | al _ _ _ => cases e
    | tp _ => cases e
    | pt _ => cases e
    | fk _ _ => cases e
end
end DL
set_option Elab.async false
set_option linter.all false
set_option maxRecDepth 100000
set_option maxHeartbeats 4000000
set_option autoImplicit false
namespace DL
open PySem PySem.Spec PyProof.Rows L2
def ob {α : Type} (o : Option α) (p : α → Prop) : Prop := ∃ a, o = some a ∧ p a
theorem ob.imp {α : Type} {o : Option α} {p q : α → Prop} (h : ob o p) (f : ∀ a, p a → q a) : ob o q := let ⟨a, e, x⟩ := h; ⟨a, e, f a x⟩
inductive Rv where
  | val (d : PyData)
  | tup (ds : List PyData)
  | lst (ds : List PyData)
  | dk (kvs : List (Key × PyData))
  | dt (kvs : List (List Int × PyData))
def Rv.r : Rv → R
  | .val d => .d d
  | .tup ds => .d (.tuple ds)
  | .lst ds => .n (.l ds)
  | .dk kvs => .n (.k kvs)
  | .dt kvs => .n (.t kvs)
def RvK (B H : Hp) (Q : VK) : Rv → Prop
  | .val d => ∀ z, DD B z d → Q z H
  | .tup ds => (∀ z, DD B z (.tuple ds) → Q z H) ∧ ∀ (p : Addr) (o : Obj) (xs : List V), H p = none → o.cls = .type "tuple" → o.dict = none → DDs B xs ds → Q (.ref p) (upd H p (.frz o (.tup xs)))
  | .lst ds => ∀ p xs, H p = none → DDs B xs ds → Q (.ref p) (upd H p (.lst xs))
  | .dk kvs => ∀ p ys, H p = none → KDs B ys kvs → Q (.ref p) (upd H p (.dK ys))
  | .dt kvs => ∀ p xs, H p = none → TDi B (upd H p (dictI p xs)) p xs kvs → Q (.ref p) (upd H p (dictI p xs))
theorem foot_bf {F B H : Hp} {p : Addr} {c : Cont} (s : c.simple = true) (hB : B p = none) (hF : F p = none) : ∀ r, Foot H p c r → B r = none ∧ F r = none := fun r f => by cases foot_one s f; exact ⟨hB, hF⟩
section
variable {K : PySem.W.Frag} {F B H : Hp} {vs : List V} {σ : L2.St} {δ : SEnv}
theorem rvk_ok {rv : Rv} {P : R → SEnv → Prop} {Q : VK} {B0 : Hp} (s : Same B0 B) (h : Rep K F B H vs σ δ) (hP : P rv.r δ)
    (k : ∀ B' H' v r δ', Same B0 B' → Rep K F B' H' vs σ δ' → RepR K F B' H' σ δ' v r → P r δ' → Q v H') : RvK B H Q rv := by
  cases rv with
  | val d => exact fun z q => k B H z (.d d) δ s h q hP
  | tup ds =>
    refine ⟨fun z q => k B H z (.d (.tuple ds)) δ s h q hP, fun p o xs hp ec ed q => ?_⟩
    exact k _ _ (.ref p) (.d (.tuple ds)) δ (s.trans (same_new (nof h.sb hp) _)) (h.new hp _) (DD.tup ⟨o, upd_same, ec, ed⟩ (q.mono (same_new (nof h.sb hp) _))) hP
  | lst ds => exact fun p xs hp q => k _ _ (.ref p) (.n (.l ds)) δ s (h.newO hp _) ⟨p, rfl, foot_bf rfl (nof h.sb hp) (nof h.sf hp), ⟨xs, upd_same, q⟩, h.fresh hp _⟩ hP
  | dk kvs => exact fun p xs hp q => k _ _ (.ref p) (.n (.k kvs)) δ s (h.newO hp _) ⟨p, rfl, foot_bf rfl (nof h.sb hp) (nof h.sf hp), ⟨xs, upd_same, q⟩, h.fresh hp _⟩ hP
  | dt kvs => exact fun p xs hp q => k _ _ (.ref p) (.n (.t kvs)) δ s (h.newO hp _) ⟨p, rfl, foot_bf rfl (nof h.sb hp) (nof h.sf hp), ⟨xs, q⟩, h.fresh hp _⟩ hP
end
def wVar (i : Nat) : WE := fun _ δ P => ob (δ[i]?) fun o => ob o fun s => match s with
  | .d d => P (.d d) δ
  | .w d => P (.w d) δ
  | .o _ _ => P (.o i) δ
def wC (d : PyData) : WE := fun _ δ P => P (.d d) δ
section
variable {S : Sg}
theorem de_var {i : Nat} {x : Str} {pos : Pos} (hN : S.N[i]? = some x) (hv : Vis S.sc x) (hd : (x == ("__debug__" : Str)) = false := by decide) (hcd : (x == ("__classdict__" : Str)) = false := by decide) : DE S (.Name x pos) (wVar i) := by
  refine ⟨tVar i, fun c hc => pe_var (X := S.g.cx c) (by show c.N[i]? = _; rw [hc.hN]; exact hN) (by show Vis c.env.scope x; rw [hc.hs]; exact hv) hd hcd, ⟨fun Ex Ex' δ P P' _ h w => ?_, fun Ex F B H vs σ δ P Q hx h w k => ?_⟩⟩
  · obtain ⟨o, e, s, e2, w⟩ := w
    refine ⟨o, e, s, e2, ?_⟩
    cases s <;> exact h _ _ w
  · obtain ⟨o, e, s, e2, w⟩ := w
    subst e2
    obtain ⟨v, e3, q⟩ := h.ok i s e
    refine ⟨v, e3, ?_⟩
    cases s with
    | d d => exact k B H v (.d d) δ (Same.refl _) h q w
    | w d => exact k B H v (.w d) δ (Same.refl _) h q w
    | o b c => exact k B H v (.o i) δ (Same.refl _) h e3 w
theorem de_const {e : Expr} {v : V} {d : PyData} (h : ∀ c, S.ok c → PE (S.g.cx c) e (tC v)) (q : ∀ B, DD B v d) : DE S e (wC d) :=
  ⟨tC v, h, ⟨fun _ _ δ P P' _ h w => h _ _ w, fun Ex F B H vs σ δ P Q hx h w k => k B H v (.d d) δ (Same.refl _) h (q B) w⟩⟩
theorem de_int {i : Int} {j : Nat} {pos : Pos} : DE S (.Constant (.int i) j pos) (wC (.int i)) := de_const (v := .int i) (fun _ _ => pe_int) fun _ => .int i
theorem de_bl {b : Bool} {j : Nat} {pos : Pos} : DE S (.Constant (.bool b) j pos) (wC (.bool b)) := de_const (v := .bl b) (fun _ _ => pe_bl) fun _ => .bl b
theorem de_non {j : Nat} {pos : Pos} : DE S (.Constant .none j pos) (wC .none) := de_const (v := .non) (fun _ _ => pe_non) fun _ => .non
theorem de_str {x : Str} {j : Nat} {pos : Pos} : DE S (.Constant (.str x) j pos) (wC (.str x)) := de_const (v := .str x) (fun _ _ => pe_str) fun _ => .str x
def rF (K : PySem.W.Frag) (f : Vw → Vw → Option Rv) : R2 := fun x y H Q => ∃ B a b rv, Same B H ∧ OV K B H x a ∧ OV K B H y b ∧ f a b = some rv ∧ RvK B H Q rv
def OpS (S : Sg) (op : Value → Value → Sem Value) (f : Vw → Vw → Option Rv) : Prop := ∀ c, S.ok c → OpR (S.g.cx c) op (rF S.g.K f)
def wOp (f : Vw → Vw → Option Rv) (wa wb : WE) : WE := fun Ex δ P => wa Ex δ fun ra δ1 => ob (settle ra) fun ra' => wb Ex δ1 fun rb δ2 => ob (view δ2 ra') fun a => ob (view δ2 rb) fun b => ob (f a b) fun rv => P rv.r δ2
theorem sim_op {K : PySem.W.Frag} {E : XK} {ta tb : TE} {wa wb : WE} {f : Vw → Vw → Option Rv} (ha : ESim K E ta wa) (hb : ESim K E tb wb) : ESim K E (tOp (rF K f) ta tb) (wOp f wa wb) := by
  refine ⟨fun Ex Ex' δ P P' hx h w => ?_, fun Ex F B H vs σ δ P Q hx h w k => ?_⟩
  · refine ha.mono _ _ _ _ _ hx (fun r δ1 w => w.imp fun r' w => ?_) w
    exact hb.mono _ _ _ _ _ hx (fun r δ2 w => w.imp fun a w => w.imp fun b w => w.imp fun rv w => h _ _ w) w
  · refine ha.run _ _ _ _ _ _ _ _ _ hx h w fun B1 H1 x ra δ1 s1 h1 q1 w1 => ?_
    obtain ⟨ra', e1, w1⟩ := w1
    obtain ⟨B2, s2, h2, q2, n2⟩ := settle_ok h1 q1 e1
    refine hb.run _ _ _ _ _ _ _ _ _ (hx.up (s1.trans s2)) h2 w1 fun B3 H3 y rb δ2 s3 h3 q3 w3 => ?_
    obtain ⟨a, e2, b, e3, rv, e4, w3⟩ := w3
    have q4 := RepR.up (H' := H3) s3 q2 n2 (δ' := δ2)
    exact ⟨B3, a, b, rv, h3.sb, view_ok h3 q4 e2, view_ok h3 q3 e3, e4, rvk_ok ((s1.trans s2).trans s3) h3 w3 k⟩
theorem de_op {a b : Expr} {wa wb : WE} {pos : Pos} {op : Operator} {f : Vw → Vw → Option Rv} (ho : OpS S (binaryOp op) f) (ha : DE S a wa) (hb : DE S b wb) : DE S (.BinOp a op b pos) (wOp f wa wb) := by
  obtain ⟨ta, pa, sa⟩ := ha
  obtain ⟨tb, pb, sb⟩ := hb
  exact ⟨_, fun c hc => pe_op (ho c hc) (pa c hc) (pb c hc), sim_op sa sb⟩
theorem de_cmp {a b : Expr} {wa wb : WE} {pos : Pos} {op : CmpOp} {f : Vw → Vw → Option Rv} (ho : OpS S (compareOp op) f) (ha : DE S a wa) (hb : DE S b wb) (hm : behindInMarks op b = false) : DE S (.Compare a [op] [b] pos) (wOp f wa wb) := by
  obtain ⟨ta, pa, sa⟩ := ha
  obtain ⟨tb, pb, sb⟩ := hb
  exact ⟨_, fun c hc => pe_cmpR (ho c hc) (pa c hc) (pb c hc) hm, sim_op sa sb⟩
def isB : R → Option Bool
  | .d (.bool b) => some b
  | _ => none
def wB (wa : WE) : WT := fun Ex δ P => wa Ex δ fun r δ1 => ob (isB r) fun b => P b δ1
theorem isB_ok {K : PySem.W.Frag} {F B H : Hp} {σ : L2.St} {δ : SEnv} {v : V} {r : R} {b : Bool} (h : RepR K F B H σ δ v r) (e : isB r = some b) : v = .bl b := by
  unfold isB at e
  split at e
  · cases e; cases (show DD B v (.bool b) from h); rfl
  · cases e
theorem sim_test {K : PySem.W.Frag} {E : XK} {ta : TE} {wa : WE} (ha : ESim K E ta wa) : TSim K E (tTest ta) (wB wa) := by
  refine ⟨fun Ex Ex' δ P P' hx h w => ha.mono _ _ _ _ _ hx (fun r δ1 w => w.imp fun b w => h _ _ w) w, fun Ex F B H vs σ δ P Q hx h w k => ?_⟩
  refine ha.run _ _ _ _ _ _ _ _ _ hx h w fun B1 H1 x ra δ1 s1 h1 q1 w1 => ?_
  obtain ⟨b, e, w1⟩ := w1
  exact ⟨b, isB_ok q1 e, k B1 H1 b δ1 s1 h1 w1⟩
theorem dt_cmp {a b : Expr} {wa wb : WE} {pos : Pos} {op : CmpOp} {f : Vw → Vw → Option Rv} (ho : OpS S (compareOp op) f) (ha : DE S a wa) (hb : DE S b wb) (hm : behindInMarks op b = false) : DT S (.Compare a [op] [b] pos) (wB (wOp f wa wb)) := by
  obtain ⟨ta, pa, sa⟩ := ha
  obtain ⟨tb, pb, sb⟩ := hb
  exact ⟨_, fun c hc => pt_cmpR (ho c hc) (pa c hc) (pb c hc) hm, sim_test (sim_op sa sb)⟩
/-- a value's truth -/
def truD : PyData → Option Bool
  | .none => some false
  | .bool b => some b
  | .int i => some (i != 0)
  | .str y => if y.length ≤ sizeLine then some ((y.length : Int) != 0) else none
  | .list ds => some (!ds.isEmpty)
  | .tuple ds => some (!ds.isEmpty)
  | _ => none
def truF : Vw → Option Bool
  | .d d => truD d
  | .w d => truD d
  | .k kvs => some (!kvs.isEmpty)
  | _ => none
def wTru (wa : WE) : WT := fun Ex δ P => wa Ex δ fun r δ1 => ob (view δ1 r) fun w => ob (truF w) fun b => P b δ1
theorem DDs.isEmpty {B : Hp} {vs : List V} {ds : List PyData} (h : DDs B vs ds) : vs.isEmpty = ds.isEmpty := by cases h <;> rfl
theorem dps_isEmpty {K : PySem.W.Frag} {B : Hp} {vs : List V} {ds : List PyData} (h : DpAll K B vs ds) : vs.isEmpty = ds.isEmpty := by cases h <;> rfl
theorem kds_isEmpty {κ : Type} {B : Hp} {vs : List (κ × V)} {ds : List (κ × PyData)} (h : KDs B vs ds) : vs.isEmpty = ds.isEmpty := by cases h <;> rfl
theorem tru_dp {K : PySem.W.Frag} {H : Hp} {v : V} {d : PyData} {b : Bool} (h : Dp K H v d) (e : truD d = some b) : TruV K v H b := by
  cases h with
  | non => cases e; rfl
  | bl b => cases e; rfl
  | int i => cases e; rfl
  | str x =>
    simp only [truD] at e
    split at e
    · cases e; exact ⟨by assumption, rfl⟩
    · cases e
  | lst r q => cases e; exact .inl ⟨_, r, by rw [dps_isEmpty q]⟩
  | tup r q => cases e; exact .inr (.inl ⟨_, r, by rw [dps_isEmpty q]⟩)
theorem tru_ov {K : PySem.W.Frag} {B H : Hp} {v : V} {w : Vw} {b : Bool} (s : Same B H) (h : OV K B H v w) (e : truF w = some b) : TruV K v H b := by
  cases w with
  | d d => exact tru_dp (OV.dp s h) e
  | w d => exact tru_dp (DW.dp h) e
  | k kvs => cases e; obtain ⟨a, ys, rfl, e1, q⟩ := h; exact .inr (.inr ⟨ys, e1, by rw [kds_isEmpty q]⟩)
  | t kvs => cases e
  | xk _ => cases e
  | xl _ => cases e
  | rk _ => cases e
  | xt _ => cases e
theorem dt_tru {a : Expr} {wa : WE} (ha : DE S a wa) (he : ∀ (env : Env) whole, isTrue a env whole = (do let v ← whole; standAt a.pos; holding [v] (truthy v))) : DT S a (wTru wa) := by
  obtain ⟨ta, pa, sa⟩ := ha
  refine ⟨fun σ H Q => ta σ H fun x H' => ∃ k, TruV S.g.K x H' k ∧ Q k H', fun c hc => pt_truth (X := S.g.cx c) (pa c hc) (he _), ⟨fun Ex Ex' δ P P' hx h w => sa.mono _ _ _ _ _ hx (fun r δ1 w => w.imp fun a w => w.imp fun b w => h _ _ w) w, fun Ex F B H vs σ δ P Q hx h w k => ?_⟩⟩
  refine sa.run _ _ _ _ _ _ _ _ _ hx h w fun B1 H1 x ra δ1 s1 h1 q1 w1 => ?_
  obtain ⟨vw, e1, b, e2, w1⟩ := w1
  exact ⟨b, tru_ov h1.sb (view_ok h1 q1 e1) e2, k B1 H1 b δ1 s1 h1 w1⟩
def wAnd (wa wb : WT) : WT := fun Ex δ P => wa Ex δ fun b δ1 => if b = true then wb Ex δ1 P else P false δ1
def wOr (wa wb : WT) : WT := fun Ex δ P => wa Ex δ fun b δ1 => if b = true then P true δ1 else wb Ex δ1 P
theorem dw_and1 {a : Expr} {wa : WT} {pos : Pos} (ha : DT S a wa) : DW' S (.BoolOp .And [a] pos) wa := by
  obtain ⟨t, p, s⟩ := ha
  exact ⟨t, fun c hc => pw_and1 (p c hc), s⟩
theorem dw_or1 {a : Expr} {wa : WT} {pos : Pos} (ha : DT S a wa) : DW' S (.BoolOp .Or [a] pos) wa := by
  obtain ⟨t, p, s⟩ := ha
  exact ⟨t, fun c hc => pw_or1 (p c hc), s⟩
theorem sim_and {K : PySem.W.Frag} {E : XK} {ta tb : TT} {wa wb : WT} (ha : TSim K E ta wa) (hb : TSim K E tb wb) : TSim K E (tAnd ta tb) (wAnd wa wb) := by
  refine ⟨fun Ex Ex' δ P P' hx h w => ha.mono _ _ _ _ _ hx (fun b δ1 w => ?_) w, fun Ex F B H vs σ δ P Q hx h w k => ?_⟩
  · cases b with
    | true => exact hb.mono _ _ _ _ _ hx h w
    | false => exact h _ _ w
  · refine ha.run _ _ _ _ _ _ _ _ _ hx h w fun B1 H1 bb δ1 s1 h1 w1 => ?_
    cases bb with
    | true => exact hb.run _ _ _ _ _ _ _ _ _ (hx.up s1) h1 w1 fun B2 H2 b δ2 s2 h2 w2 => k B2 H2 b δ2 (s1.trans s2) h2 w2
    | false => exact k B1 H1 false δ1 s1 h1 w1
theorem sim_or {K : PySem.W.Frag} {E : XK} {ta tb : TT} {wa wb : WT} (ha : TSim K E ta wa) (hb : TSim K E tb wb) : TSim K E (tOr ta tb) (wOr wa wb) := by
  refine ⟨fun Ex Ex' δ P P' hx h w => ha.mono _ _ _ _ _ hx (fun b δ1 w => ?_) w, fun Ex F B H vs σ δ P Q hx h w k => ?_⟩
  · cases b with
    | true => exact h _ _ w
    | false => exact hb.mono _ _ _ _ _ hx h w
  · refine ha.run _ _ _ _ _ _ _ _ _ hx h w fun B1 H1 bb δ1 s1 h1 w1 => ?_
    cases bb with
    | true => exact k B1 H1 true δ1 s1 h1 w1
    | false => exact hb.run _ _ _ _ _ _ _ _ _ (hx.up s1) h1 w1 fun B2 H2 b δ2 s2 h2 w2 => k B2 H2 b δ2 (s1.trans s2) h2 w2
theorem dw_and {a b : Expr} {rest : List Expr} {wa wb : WT} {pos : Pos} (ha : DT S a wa) (hb : DW' S (.BoolOp .And (b :: rest) pos) wb) : DW' S (.BoolOp .And (a :: b :: rest) pos) (wAnd wa wb) := by
  obtain ⟨ta, pa, sa⟩ := ha
  obtain ⟨tb, pb, sb⟩ := hb
  exact ⟨_, fun c hc => pw_and (pa c hc) (pb c hc), sim_and sa sb⟩
theorem dw_or {a b : Expr} {rest : List Expr} {wa wb : WT} {pos : Pos} (ha : DT S a wa) (hb : DW' S (.BoolOp .Or (b :: rest) pos) wb) : DW' S (.BoolOp .Or (a :: b :: rest) pos) (wOr wa wb) := by
  obtain ⟨ta, pa, sa⟩ := ha
  obtain ⟨tb, pb, sb⟩ := hb
  exact ⟨_, fun c hc => pw_or (pa c hc) (pb c hc), sim_or sa sb⟩
theorem dt_w {e : Expr} {w : WT} (h : DW' S e w) : DT S e w := by
  obtain ⟨t, p, s⟩ := h
  exact ⟨t, fun c hc => (p c hc).pt, s⟩
def wIf (wt : WT) (wa wb : WE) : WE := fun Ex δ P => wt Ex δ fun b δ1 => if b = true then wa Ex δ1 P else wb Ex δ1 P
theorem de_ifx {c a b : Expr} {wt : WT} {wa wb : WE} {pos : Pos} (hc : DT S c wt) (ha : DE S a wa) (hb : DE S b wb) : DE S (.IfExp c a b pos) (wIf wt wa wb) := by
  obtain ⟨tt, pt, st⟩ := hc
  obtain ⟨ta, pa, sa⟩ := ha
  obtain ⟨tb, pb, sb⟩ := hb
  refine ⟨_, fun c hc => pe_ifExp (pt c hc) (pa c hc) (pb c hc), ⟨fun Ex Ex' δ P P' hx h w => st.mono _ _ _ _ _ hx (fun bb δ1 w => ?_) w, fun Ex F B H vs σ δ P Q hx h w k => ?_⟩⟩
  · cases bb with
    | true => exact sa.mono _ _ _ _ _ hx h w
    | false => exact sb.mono _ _ _ _ _ hx h w
  · refine st.run _ _ _ _ _ _ _ _ _ hx h w fun B1 H1 bb δ1 s1 h1 w1 => ?_
    cases bb with
    | true => exact sa.run _ _ _ _ _ _ _ _ _ (hx.up s1) h1 w1 fun B2 H2 v r δ2 s2 h2 q2 w2 => k B2 H2 v r δ2 (s1.trans s2) h2 q2 w2
    | false => exact sb.run _ _ _ _ _ _ _ _ _ (hx.up s1) h1 w1 fun B2 H2 v r δ2 s2 h2 q2 w2 => k B2 H2 v r δ2 (s1.trans s2) h2 q2 w2
end
end DL
set_option Elab.async false
set_option linter.all false
set_option maxRecDepth 100000
set_option maxHeartbeats 4000000
set_option autoImplicit false
namespace DL
open PySem PySem.Spec PyProof.Rows L2
def wNil : WA := fun _ δ P => P [] δ
def wCons (wa : WE) (wr : WA) : WA := fun Ex δ P => wa Ex δ fun r δ1 => ob (settle r) fun r' => wr Ex δ1 fun rs δ2 => P (r' :: rs) δ2
section
variable {S : Sg}
theorem da_nil : DA S [] wNil := ⟨tNil, fun _ _ => pa_nil, ⟨fun _ _ δ P P' _ h w => h _ _ w, fun Ex F B H vs σ δ P Q hx h w k => k B H [] [] δ (Same.refl _) h .nil w⟩⟩
theorem da_cons {e : Expr} {es : List Expr} {wa : WE} {wr : WA} (ha : DE S e wa) (hr : DA S es wr) (hs : ∀ env, starEach (e :: es) env = (false, eval e env) :: starEach es env := by intro _; rfl) : DA S (e :: es) (wCons wa wr) := by
  obtain ⟨ta, pa, sa⟩ := ha
  obtain ⟨tr, pr, sr⟩ := hr
  refine ⟨_, fun c hc => pa_cons (pa c hc) (pr c hc) (hs _), ⟨fun Ex Ex' δ P P' hx h w => ?_, fun Ex F B H vs σ δ P Q hx h w k => ?_⟩⟩
  · refine sa.mono _ _ _ _ _ hx (fun r δ1 w => w.imp fun r' w => ?_) w
    exact sr.mono _ _ _ _ _ hx (fun rs δ2 w => h _ _ w) w
  · refine sa.run _ _ _ _ _ _ _ _ _ hx h w fun B1 H1 x r δ1 s1 h1 q1 w1 => ?_
    obtain ⟨r', e1, w1⟩ := w1
    obtain ⟨B2, s2, h2, q2, n2⟩ := settle_ok h1 q1 e1
    refine sr.run _ _ _ _ _ _ _ _ _ (hx.up (s1.trans s2)) h2 w1 fun B3 H3 ws rs δ2 s3 h3 q3 w3 => ?_
    exact k B3 H3 (x :: ws) (r' :: rs) δ2 ((s1.trans s2).trans s3) h3 (.cons ⟨RepR.up s3 q2 n2, n2⟩ q3) w3
def frzs : SEnv → List R → Option (List PyData × SEnv)
  | δ, [] => some ([], δ)
  | δ, r :: rs => (frz δ r).bind fun p => (frzs p.2 rs).map fun q => (p.1 :: q.1, q.2)
theorem frzs_ok {K : PySem.W.Frag} {F H : Hp} {vs : List V} {σ : L2.St} : ∀ {rs : List R} {ws : List V} {B : Hp} {δ δ' : SEnv} {ds : List PyData}, Rep K F B H vs σ δ → RepRs K F B H σ δ ws rs → frzs δ rs = some (ds, δ') →
    ∃ B', Same B B' ∧ Rep K F B' H vs σ δ' ∧ DDs B' ws ds
  | [], _, B, δ, _, _, h, q, e => by
    cases q; cases e
    exact ⟨B, Same.refl _, h, .nil⟩
  | r :: rs, _, B, δ, _, _, h, q, e => by
    cases q with
    | cons q1 q2 =>
      simp only [frzs] at e
      obtain ⟨⟨d, δ1⟩, e1, e⟩ := Option.bind_eq_some_iff.mp e
      obtain ⟨⟨ds, δ2⟩, e2, e⟩ := Option.map_eq_some_iff.mp e
      cases e
      obtain ⟨B1, s1, h1, d1⟩ := frz_ok h q1.1 e1
      have q2' := Paired.mapP q2 (G := fun v r => RepR K F B1 H σ δ1 v r ∧ ∀ c, r ≠ .n c) fun v r z => ⟨RepR.up s1 z.1 z.2, z.2⟩
      obtain ⟨B2, s2, h2, d2⟩ := frzs_ok h1 q2' e2
      exact ⟨B2, s1.trans s2, h2, .cons (d1.mono s2) d2⟩
def wTup (wr : WA) : WE := fun Ex δ P => wr Ex δ fun rs δ1 => ob (frzs δ1 rs) fun p => p.1.length ≤ sizeLine ∧ P (.d (.tuple p.1)) p.2
def wLst (wr : WA) : WE := fun Ex δ P => wr Ex δ fun rs δ1 => ob (frzs δ1 rs) fun p => p.1.length ≤ sizeLine ∧ P (.n (.l p.1)) p.2
def tTupF (t : TA) : TE := fun σ H Q => t σ H fun xs H1 => xs.length ≤ sizeLine ∧ ∀ (p : Addr) (o : Obj), H1 p = none → o.cls = .type "tuple" → o.dict = none → Q (.ref p) (upd H1 p (.frz o (.tup xs)))
theorem pe_tupF {X : Cx} {es : List Expr} {t : TA} {x1 : Nat} {pos : Pos} (h : PA X es t) : PE X (.Tuple es x1 pos) (tTupF t) := by
  refine ⟨fun pins s σ H Q I hq => ?_⟩
  refine wpAny_Tuple_spliced (thn (h.run pos pins s σ H _ I hq) fun us s1 ⟨xs, H1, I1, r, z, q⟩ => ⟨by rw [← r.length]; exact z, ?_⟩)
  have hf : H1 s1.heap.objs.size = none := I1.hok.fresh (Nat.le_refl _)
  refine ⟨.ref s1.heap.objs.size, upd H1 s1.heap.objs.size (.frz _ (.tup xs)), I1.laid (t' := s1.toks) (fun b u e => Heap.get?_push_of_some _ e) (Nat.le_refl _) ⟨Heap.get?_push_size _ rfl, (show ObjOk X.prog X.w _ _ _ (.tup xs) from ?_)⟩, rfl, q _ _ hf rfl rfl⟩
  exact ⟨z, us, r, ⟨_, Heap.get?_push_size _ rfl, rfl, _, rfl⟩⟩
theorem de_tup {es : List Expr} {wr : WA} {x1 : Nat} {pos : Pos} (h : DA S es wr) : DE S (.Tuple es x1 pos) (wTup wr) := by
  obtain ⟨t, p, s⟩ := h
  refine ⟨_, fun c hc => pe_tupF (p c hc), ⟨fun Ex Ex' δ P P' hx h w => s.mono _ _ _ _ _ hx (fun r δ1 w => w.imp fun z w => ⟨w.1, h _ _ w.2⟩) w, fun Ex F B H vs σ δ P Q hx h w k => ?_⟩⟩
  refine s.run _ _ _ _ _ _ _ _ _ hx h w fun B1 H1 ws rs δ1 s1 h1 q1 w1 => ?_
  obtain ⟨⟨ds, δ2⟩, e, hl, w1⟩ := w1
  obtain ⟨B2, s2, h2, d2⟩ := frzs_ok h1 q1 e
  refine ⟨by rw [d2.length]; exact hl, fun p o hp ec ed => ?_⟩
  exact k _ _ (.ref p) (.d (.tuple ds)) δ2 ((s1.trans s2).trans (same_new (nof h2.sb hp) _)) (h2.new hp _) (DD.tup ⟨o, upd_same, ec, ed⟩ (d2.mono (same_new (nof h2.sb hp) _))) w1
theorem de_lst {es : List Expr} {wr : WA} {pos : Pos} (h : DA S es wr) : DE S (.List es pos) (wLst wr) := by
  obtain ⟨t, p, s⟩ := h
  refine ⟨_, fun c hc => pe_lst (p c hc), ⟨fun Ex Ex' δ P P' hx h w => s.mono _ _ _ _ _ hx (fun r δ1 w => w.imp fun z w => ⟨w.1, h _ _ w.2⟩) w, fun Ex F B H vs σ δ P Q hx h w k => ?_⟩⟩
  refine s.run _ _ _ _ _ _ _ _ _ hx h w fun B1 H1 ws rs δ1 s1 h1 q1 w1 => ?_
  obtain ⟨⟨ds, δ2⟩, e, hl, w1⟩ := w1
  obtain ⟨B2, s2, h2, d2⟩ := frzs_ok h1 q1 e
  refine ⟨by rw [d2.length]; exact hl, fun p hp => ?_⟩
  exact k _ _ (.ref p) (.n (.l ds)) δ2 (s1.trans s2) (h2.newO hp _) ⟨p, rfl, foot_bf rfl (nof h2.sb hp) (nof h2.sf hp), ⟨ws, upd_same, d2⟩, h2.fresh hp _⟩ w1
def OVs (K : PySem.W.Frag) (B H : Hp) : List V → List Vw → Prop := Paired fun v w => OV K B H v w
def rC (K : PySem.W.Frag) (f : List Vw → Option Rv) : List V → Hp → VK → Prop := fun xs H Q => ∃ B as rv, Same B H ∧ OVs K B H xs as ∧ f as = some rv ∧ RvK B H Q rv
def CallS (S : Sg) (fv : Value) (f : List Vw → Option Rv) : Prop := ∀ c, S.ok c → CallR (S.g.cx c) fv (rC S.g.K f)
def views (δ : SEnv) : List R → Option (List Vw)
  | [] => some []
  | r :: rs => (view δ r).bind fun w => (views δ rs).map fun ws => w :: ws
theorem views_ok {K : PySem.W.Frag} {F B H : Hp} {vs : List V} {σ : L2.St} {δ : SEnv} (h : Rep K F B H vs σ δ) : ∀ {rs : List R} {ws : List V} {as : List Vw}, RepRs K F B H σ δ ws rs → views δ rs = some as → OVs K B H ws as
  | [], _, _, q, e => by cases q; cases e; exact .nil
  | r :: rs, _, _, q, e => by
    cases q with
    | cons q1 q2 =>
      simp only [views] at e
      obtain ⟨w, e1, e⟩ := Option.bind_eq_some_iff.mp e
      obtain ⟨ws, e2, e⟩ := Option.map_eq_some_iff.mp e
      cases e
      exact .cons (view_ok h q1.1 e1) (views_ok h q2 e2)
def wCB (f : List Vw → Option Rv) (wr : WA) : WE := fun Ex δ P => wr Ex δ fun rs δ1 => ob (views δ1 rs) fun as => ob (f as) fun rv => P rv.r δ1
theorem sim_cb {K : PySem.W.Frag} {E : XK} {t : TA} {wr : WA} {f : List Vw → Option Rv} (s : ASim K E t wr) : ESim K E (tCB (rC K f) t) (wCB f wr) := by
  refine ⟨fun Ex Ex' δ P P' hx h w => s.mono _ _ _ _ _ hx (fun r δ1 w => w.imp fun as w => w.imp fun rv w => h _ _ w) w, fun Ex F B H vs σ δ P Q hx h w k => ?_⟩
  refine s.run _ _ _ _ _ _ _ _ _ hx h w fun B1 H1 ws rs δ1 s1 h1 q1 w1 => ?_
  obtain ⟨as, e1, rv, e2, w1⟩ := w1
  exact ⟨B1, as, rv, h1.sb, views_ok h1 q1 e1, e2, rvk_ok s1 h1 w1 k⟩
def GlS (sc : Scope) (x : Str) : Prop := sc.names.lookup x = some .globalImplicit
theorem gl_of {c : Cl} (hc : S.ok c) {x : Str} (h : GlS S.sc x) : Gl (S.g.cx c) x := by
  show c.env.scope.names.lookup x = some .globalImplicit
  rw [hc.hs]; exact h
theorem de_callB {e : Expr} {es : List Expr} {wr : WA} {x : Str} {id : String} {p pos : Pos} {f : List Vw → Option Rv} (hf : CallS S (.builtin id) f) (hg : GlS S.sc x) (hm : S.g.mg x = none) (hv : bootBuiltins x = some (.builtin id)) (ha : DA S (e :: es) wr)
    (hs : ∀ env, starEach (e :: es) env = (false, eval e env) :: starEach es env := by intro _; rfl) (hpl : ∀ env, (backTo pos (starEach es env)).any (·.1) = false := by intro _; rfl)
    (hn : x ≠ "__name__" := by decide) (hdb : (x == ("__debug__" : Str)) = false := by decide) : DE S (.Call (.Name x p) (e :: es) [] pos) (wCB f wr) := by
  obtain ⟨t, pa, s⟩ := ha
  exact ⟨_, fun c hc => pe_callB (hf c hc) (gl_of hc hg) hm hv (pa c hc) hn hdb (hs _) (hpl _), sim_cb s⟩
theorem de_callT {e : Expr} {es : List Expr} {wr : WA} {x : Str} {T : String} {p pos : Pos} {f : List Vw → Option Rv} (hf : CallS S (.type T) f) (hg : GlS S.sc x) (hm : S.g.mg x = none) (hv : bootBuiltins x = some (.type T)) (ha : DA S (e :: es) wr)
    (hs : ∀ env, starEach (e :: es) env = (false, eval e env) :: starEach es env := by intro _; rfl) (hpl : ∀ env, (backTo pos (starEach es env)).any (·.1) = false := by intro _; rfl)
    (hn : x ≠ "__name__" := by decide) (hdb : (x == ("__debug__" : Str)) = false := by decide) : DE S (.Call (.Name x p) (e :: es) [] pos) (wCB f wr) := by
  obtain ⟨t, pa, s⟩ := ha
  exact ⟨_, fun c hc => pe_callTy (hf c hc) (gl_of hc hg) hm hv (pa c hc) hn hdb (hs _) (hpl _), sim_cb s⟩
end
end DL
set_option Elab.async false
set_option linter.all false
set_option maxRecDepth 100000
set_option maxHeartbeats 4000000
set_option autoImplicit false
namespace DL
open PySem PySem.Spec PyProof.Rows L2
abbrev FSpec := List Sl → XP → (R → List Sl → Prop) → Prop
def spOf (K : PySem.W.Frag) (np : Nat) (W : FSpec) : Sp := fun vs H Q E => vs.length = np ∧ ∃ (F B : Hp) (ss : List Sl) (Ex : XP) (P : R → List Sl → Prop), Rep K F B H vs (vs.map some) (ss.map some) ∧ XOk F B E Ex ∧ W ss Ex P ∧
  ∀ B' H' v r ss', Same B B' → Rep K F B' H' vs (vs.map some) (ss'.map some) → RepR K F B' H' (vs.map some) (ss'.map some) v r → (∀ i, r ≠ .o i) → P r ss' → Q v H'
inductive CA where
  | d (d : PyData)
  | w (d : PyData)
  | p (ds : List PyData)
  | o (i : Nat)
def CA.ix : CA → Option Nat
  | .o i => some i
  | _ => none
/-- the arguments, frozen or lent -/
def lend : SEnv → List Bool → List R → Option (List CA × SEnv)
  | δ, _, [] => some ([], δ)
  | δ, true :: ms, .o i :: rs => (lend δ ms rs).map fun q => (.o i :: q.1, q.2)
  | δ, false :: ms, .w d :: rs => if scalar d then (lend δ ms rs).map fun q => (.d d :: q.1, q.2) else (lend δ ms rs).map fun q => (.w d :: q.1, q.2)
  | δ, false :: ms, .o i :: rs => match plainAt δ i with
    | some ds => (lend δ ms rs).map fun q => (.p ds :: q.1, q.2)
    | none => (frz δ (.o i)).bind fun p => (lend p.2 ms rs).map fun q => (.d p.1 :: q.1, q.2)
  | δ, false :: ms, r :: rs => (frz δ r).bind fun p => (lend p.2 ms rs).map fun q => (.d p.1 :: q.1, q.2)
  | _, _, _ => none
def slOf (δ : SEnv) : CA → Option Sl
  | .d d => some (.d d)
  | .w d => some (.w d)
  | .p ds => some (.o true (.pt ds))
  | .o i => match δ[i]? with
    | some (some (.o _ c)) => if c.simple then some (.o true c) else none
    | _ => none
def slsOf (δ : SEnv) : List CA → Option (List Sl)
  | [] => some []
  | a :: as => (slOf δ a).bind fun s => (slsOf δ as).map fun ss => s :: ss
def clear : SEnv → List CA → SEnv
  | δ, [] => δ
  | δ, .o i :: as => clear (δ.set i none) as
  | δ, _ :: as => clear δ as
/-- δ: as it was ahead (whose each lent slot is) -/
def back (δ : SEnv) : SEnv → List CA → List Sl → Option SEnv
  | δ', [], [] => some δ'
  | δ', .o i :: as, .o _ c :: ss => match δ[i]? with
    | some (some (.o b _)) => if c.simple then back δ (δ'.set i (some (.o b c))) as ss else none
    | _ => none
  | δ', .d _ :: as, _ :: ss => back δ δ' as ss
  | δ', .w _ :: as, _ :: ss => back δ δ' as ss
  | δ', .p _ :: as, _ :: ss => back δ δ' as ss
  | _, _, _ => none
def noO : R → Bool
  | .o _ => false
  | _ => true
@[irreducible] def wCall (np : Nat) (W : FSpec) (ms : List Bool) (wr : WA) : WE := fun Ex δ P => wr Ex δ fun rs δ1 => ob (lend δ1 ms rs) fun p => p.1.length = np ∧ (p.1.filterMap CA.ix).Nodup ∧ ob (slsOf p.2 p.1) fun ss =>
  W ss Ex fun r ss' => noO r = true → ob (back p.2 (clear p.2 p.1) p.1 ss') fun δ2 => P r δ2
def FMono (W : FSpec) : Prop := ∀ (ss : List Sl) (Ex Ex' : XP) (P P' : R → List Sl → Prop), (∀ e, Ex e → Ex' e) → (∀ r ss', P r ss' → P' r ss') → W ss Ex P → W ss Ex' P'
section
variable {K : PySem.W.Frag} {F H : Hp} {vs : List V} {σ : L2.St}
def CaOk (K : PySem.W.Frag) (B : Hp) (σ : L2.St) (v : V) : CA → Prop
  | .d d => DD B v d
  | .w d => DW K v d
  | .p ds => InP B v ds
  | .o i => σ[i]? = some (some v)
theorem CaOk.up {B B' : Hp} (s : Same B B') {v : V} {a : CA} (h : CaOk K B σ v a) : CaOk K B' σ v a := by
  cases a with
  | d d => exact DD.mono s h
  | w d => exact h
  | p ds => exact InP.mono s h
  | o i => exact h
theorem lend_ok : ∀ {rs : List R} {ms : List Bool} {ws : List V} {B : Hp} {δ δ' : SEnv} {as : List CA}, Rep K F B H vs σ δ → RepRs K F B H σ δ ws rs → lend δ ms rs = some (as, δ') →
    ∃ B', Same B B' ∧ Rep K F B' H vs σ δ' ∧ Paired (CaOk K B' σ) ws as
  | [], _, _, B, δ, _, _, h, q, e => by
    cases q
    simp only [lend] at e
    cases e
    exact ⟨B, Same.refl _, h, .nil⟩
  | r :: rs, ms, _, B, δ, δ', as, h, q, e => by
    cases q with
    | cons q1 q2 =>
      have fz : ∀ {m : List Bool} {v : V}, RepR K F B H σ δ v r → (∃ p, frz δ r = some p ∧ ∃ q, lend p.2 m rs = some q ∧ as = .d p.1 :: q.1 ∧ δ' = q.2) →
          ∀ {ws : List V}, RepRs K F B H σ δ ws rs → ∃ B', Same B B' ∧ Rep K F B' H vs σ δ' ∧ Paired (CaOk K B' σ) (v :: ws) as := by
        intro m v q1 ⟨⟨d, δ1⟩, e1, ⟨as1, δ2⟩, e2, e3, e4⟩ ws q2
        subst e3 e4
        obtain ⟨B1, s1, h1, d1⟩ := frz_ok h q1 e1
        have q2' := Paired.mapP q2 (G := fun v r => RepR K F B1 H σ δ1 v r ∧ ∀ c, r ≠ .n c) fun v r z => ⟨RepR.up s1 z.1 z.2, z.2⟩
        obtain ⟨B2, s2, h2, d2⟩ := lend_ok h1 q2' e2
        exact ⟨B2, s1.trans s2, h2, .cons (show CaOk K B2 σ v (.d d) from d1.mono s2) d2⟩
      cases ms with
      | nil => cases r <;> exact nomatch e
      | cons m ms =>
        cases m with
        | true =>
          cases r with
          | o i =>
            simp only [lend] at e
            obtain ⟨⟨as1, δ2⟩, e2, e⟩ := Option.map_eq_some_iff.mp e
            cases e
            obtain ⟨B2, s2, h2, d2⟩ := lend_ok h q2 e2
            exact ⟨B2, s2, h2, .cons (show CaOk K B2 σ _ (.o i) from q1.1) d2⟩
          | d d => exact nomatch e
          | w d => exact nomatch e
          | n c => exact nomatch e
        | false =>
          cases r with
          | w d =>
            simp only [lend] at e
            split at e
            · rename_i hs
              obtain ⟨⟨as1, δ2⟩, e2, e⟩ := Option.map_eq_some_iff.mp e
              cases e
              obtain ⟨B2, s2, h2, d2⟩ := lend_ok h q2 e2
              exact ⟨B2, s2, h2, .cons (show CaOk K B2 σ _ (.d d) from (DW.scal q1.1 hs : DD B2 _ d)) d2⟩
            · obtain ⟨⟨as1, δ2⟩, e2, e⟩ := Option.map_eq_some_iff.mp e
              cases e
              obtain ⟨B2, s2, h2, d2⟩ := lend_ok h q2 e2
              exact ⟨B2, s2, h2, .cons (show CaOk K B2 σ _ (.w d) from q1.1) d2⟩
          | d d =>
            simp only [lend] at e
            obtain ⟨p, e1, e⟩ := Option.bind_eq_some_iff.mp e
            obtain ⟨q, e2, e⟩ := Option.map_eq_some_iff.mp e
            cases e
            exact fz q1.1 ⟨p, e1, q, e2, rfl, rfl⟩ q2
          | o i =>
            simp only [lend] at e
            split at e
            · rename_i ds hpl
              obtain ⟨⟨as1, δ2⟩, e2, e⟩ := Option.map_eq_some_iff.mp e
              cases e
              obtain ⟨B2, s2, h2, d2⟩ := lend_ok h q2 e2
              exact ⟨B2, s2, h2, .cons (InP.mono s2 (plain_ok h q1.1 hpl)) d2⟩
            · obtain ⟨p, e1, e⟩ := Option.bind_eq_some_iff.mp e
              obtain ⟨q, e2, e⟩ := Option.map_eq_some_iff.mp e
              cases e
              exact fz q1.1 ⟨p, e1, q, e2, rfl, rfl⟩ q2
          | n c => exact absurd rfl (q1.2 c)
/-- a slot takes an object of its own (its value as it is) -/
theorem Rep.own {B : Hp} {δ : SEnv} (h : Rep K F B H vs σ δ) {i : Nat} {a : Addr} {b : Bool} {c : Cont} (e : σ[i]? = some (some (.ref a))) (hBF : ∀ p, Foot H a c p → B p = none ∧ F p = none) (q : ContOk B H a c)
    (hn : ∀ (j : Nat) (b' : Bool) (c' : Cont) (a' p : Addr), j ≠ i → δ[j]? = some (some (.o b' c')) → σ[j]? = some (some (.ref a')) → Foot H a' c' p → ¬ Foot H a c p) (hb : b = true → vs[i]? = some (.ref a)) : Rep K F B H vs σ (δ.set i (some (.o b c))) := by
  refine ⟨h.sb, h.sf, h.dj, by rw [List.length_set]; exact h.len, fun j s e1 => ?_, fun j k a1 a2 p b1 c1 b2 c2 e1 e2 e3 e4 f1 f2 => ?_, fun j c' e1 => ?_, h.nt⟩
  · rcases set_get e1 with ⟨rfl, z⟩ | ⟨_, z⟩
    · cases z; exact ⟨_, e, a, rfl, hBF, q⟩
    · exact h.ok j s z
  · rcases set_get e1 with ⟨ej, z⟩ | ⟨nj, z⟩
    · rcases set_get e2 with ⟨ek, z2⟩ | ⟨nk, z2⟩
      · rw [ej, ek]
      · subst ej
        rw [e] at e3; cases e3; cases z
        exact absurd f1 (hn k b2 c2 a2 p nk z2 e4 f2)
    · rcases set_get e2 with ⟨ek, z2⟩ | ⟨nk, z2⟩
      · subst ek
        rw [e] at e4; cases e4; cases z2
        exact absurd f2 (hn j b1 c1 a1 p nj z e3 f1)
      · exact h.apart j k a1 a2 p b1 c1 b2 c2 z z2 e3 e4 f1 f2
  · rcases set_get e1 with ⟨rfl, z⟩ | ⟨_, z⟩
    · cases z; exact ⟨_, e, hb rfl⟩
    · exact h.bor j c' z
theorem Rep.clear {B : Hp} : ∀ {as : List CA} {δ : SEnv}, Rep K F B H vs σ δ → Rep K F B H vs σ (clear δ as)
  | [], _, h => h
  | .o i :: as, _, h => Rep.clear (as := as) (h.forget i)
  | .d _ :: as, _, h => Rep.clear (as := as) h
  | .w _ :: as, _, h => Rep.clear (as := as) h
  | .p _ :: as, _, h => Rep.clear (as := as) h
theorem clear_get : ∀ {as : List CA} {δ : SEnv} {j : Nat} {s : Sl}, (DL.clear δ as)[j]? = some (some s) → δ[j]? = some (some s) ∧ j ∉ as.filterMap CA.ix
  | [], _, _, _, e => ⟨e, by simp⟩
  | .o i :: as, δ, j, s, e => by
    obtain ⟨e1, e2⟩ := clear_get (as := as) (δ := δ.set i none) e
    rcases set_get e1 with ⟨_, z⟩ | ⟨n, z⟩
    · cases z
    · refine ⟨z, ?_⟩
      intro hm
      have hm : j ∈ i :: as.filterMap CA.ix := hm
      rcases List.mem_cons.mp hm with hm | hm
      · exact n hm
      · exact e2 hm
  | .d _ :: as, δ, j, s, e => by
    obtain ⟨e1, e2⟩ := clear_get (as := as) (δ := δ) e
    exact ⟨e1, e2⟩
  | .w _ :: as, δ, j, s, e => by
    obtain ⟨e1, e2⟩ := clear_get (as := as) (δ := δ) e
    exact ⟨e1, e2⟩
  | .p _ :: as, δ, j, s, e => by
    obtain ⟨e1, e2⟩ := clear_get (as := as) (δ := δ) e
    exact ⟨e1, e2⟩
theorem paired_get {α β : Type} {G : α → β → Prop} : ∀ {xs : List α} {ys : List β} {j : Nat} {y : β}, Paired G xs ys → ys[j]? = some y → ∃ x, xs[j]? = some x ∧ G x y
  | _, _, _, _, .nil, e => by simp at e
  | _, _, 0, _, .cons q _, e => by simp at e; subst e; exact ⟨_, rfl, q⟩
  | _, _, j + 1, _, .cons _ r, e => by
    obtain ⟨x, e1, q⟩ := paired_get (j := j) r (by simpa using e)
    exact ⟨x, by simpa using e1, q⟩
theorem sls_get {δ : SEnv} : ∀ {as : List CA} {ss : List Sl} {j : Nat} {s : Sl}, slsOf δ as = some ss → ss[j]? = some s → ∃ a, as[j]? = some a ∧ slOf δ a = some s
  | [], _, _, _, e, e2 => by cases e; simp at e2
  | a :: as, _, j, s, e, e2 => by
    simp only [slsOf] at e
    obtain ⟨s0, e3, e⟩ := Option.bind_eq_some_iff.mp e
    obtain ⟨ss0, e4, e⟩ := Option.map_eq_some_iff.mp e
    cases e
    cases j with
    | zero => simp at e2; subst e2; exact ⟨a, rfl, e3⟩
    | succ j =>
      obtain ⟨a', e5, e6⟩ := sls_get (j := j) e4 (by simpa using e2)
      exact ⟨a', by simpa using e5, e6⟩
theorem sls_len {δ : SEnv} : ∀ {as : List CA} {ss : List Sl}, slsOf δ as = some ss → ss.length = as.length
  | [], _, e => by cases e; rfl
  | a :: as, _, e => by
    simp only [slsOf] at e
    obtain ⟨s0, e3, e⟩ := Option.bind_eq_some_iff.mp e
    obtain ⟨ss0, e4, e⟩ := Option.map_eq_some_iff.mp e
    cases e
    rw [List.length_cons, List.length_cons, sls_len e4]
theorem sls_own {δ : SEnv} {i : Nat} : ∀ {as : List CA} {ss : List Sl}, slsOf δ as = some ss → i ∈ as.filterMap CA.ix → ∃ b c, δ[i]? = some (some (.o b c)) ∧ c.simple = true
  | [], _, _, h => by simp at h
  | a :: as, _, e, h => by
    simp only [slsOf] at e
    obtain ⟨s0, e3, e⟩ := Option.bind_eq_some_iff.mp e
    obtain ⟨ss0, e4, e⟩ := Option.map_eq_some_iff.mp e
    cases e
    cases a with
    | o k =>
      have h : i ∈ k :: as.filterMap CA.ix := h
      rcases List.mem_cons.mp h with rfl | h
      · simp only [slOf] at e3
        split at e3
        · split at e3
          · exact ⟨_, _, by assumption, by assumption⟩
          · cases e3
        · cases e3
      · exact sls_own e4 h
    | d d => exact sls_own e4 h
    | w d => exact sls_own e4 h
    | p ds => exact sls_own e4 h
theorem ix_mem : ∀ {as : List CA} {j i : Nat}, as[j]? = some (.o i) → i ∈ as.filterMap CA.ix := fun {as j i} h =>
  List.mem_filterMap.mpr ⟨.o i, List.mem_of_getElem? h, rfl⟩
theorem ix_inj : ∀ {as : List CA} {j k i : Nat}, (as.filterMap CA.ix).Nodup → as[j]? = some (.o i) → as[k]? = some (.o i) → j = k
  | [], j, k, i, _, e, _ => by simp at e
  | a :: as, j, k, i, h, e1, e2 => by
    have hr : (as.filterMap CA.ix).Nodup := by
      cases a with
      | o m => exact (List.nodup_cons.mp (show (m :: as.filterMap CA.ix).Nodup from h)).2
      | d d => exact h
      | w d => exact h
      | p d => exact h
    cases j with
    | zero =>
      cases k with
      | zero => rfl
      | succ k =>
        simp at e1; subst e1
        have e2 : as[k]? = some (.o i) := by simpa using e2
        exact absurd (ix_mem e2) (List.nodup_cons.mp (show (i :: as.filterMap CA.ix).Nodup from h)).1
    | succ j =>
      cases k with
      | zero =>
        simp at e2; subst e2
        have e1 : as[j]? = some (.o i) := by simpa using e1
        exact absurd (ix_mem e1) (List.nodup_cons.mp (show (i :: as.filterMap CA.ix).Nodup from h)).1
      | succ k => rw [ix_inj (j := j) (k := k) hr (by simpa using e1) (by simpa using e2)]
theorem back_ok {Fc B H H1 B1 : Hp} {δ : SEnv} (h0 : Rep K F B1 H1 vs σ δ) : ∀ {as : List CA} {ws : List V} {ss : List Sl} {δ1 δ2 : SEnv}, Rep K F B H vs σ δ1 → (∀ (j : Nat) (b : Bool) (c : Cont) (a p : Addr), δ1[j]? = some (some (.o b c)) → σ[j]? = some (some (.ref a)) → Foot H a c p → ∃ b' c', δ[j]? = some (some (.o b' c')) ∧ Foot H1 a c' p) →
    Paired (CaOk K B σ) ws as → (∀ (j : Nat) (v : V) (s : Sl), ws[j]? = some v → ss[j]? = some s → SlOk K Fc B H v s) → (∀ (j i : Nat) (a : Addr), as[j]? = some (.o i) → σ[i]? = some (some (.ref a)) → F a = none) → (∀ (i : Nat) (c : Cont) (b : Bool), δ[i]? = some (some (.o b c)) → ∀ (j : Nat), as[j]? = some (.o i) → c.real = true) → back δ δ1 as ss = some δ2 →
    Rep K F B H vs σ δ2 ∧ (∀ (j i : Nat), as[j]? = some (.o i) → ∃ b c, c.simple = true ∧ ss[j]? = some (.o b c)) ∧
      ∀ (j : Nat) (b : Bool) (c : Cont), δ2[j]? = some (some (.o b c)) → δ1[j]? = some (some (.o b c)) ∨ (c.simple = true ∧ j ∈ as.filterMap CA.ix) := by
  intro as
  induction as with
  | nil =>
    intro ws ss δ1 δ2 h hi _ _ _ _ e
    cases ss with
    | nil => cases e; exact ⟨h, fun j i e => by simp at e, fun j b c e => .inl e⟩
    | cons _ _ => exact nomatch e
  | cons a as ih =>
    intro ws ss δ1 δ2 h hi hp hs hF hcc e
    cases hp with
    | cons q1 q2 =>
      cases ss with
      | nil => cases a <;> exact nomatch e
      | cons s ss =>
        have hs' : ∀ (j : Nat) (v : V) (s : Sl), _ → _ → SlOk K Fc B H v s := fun j v s e1 e2 => hs (j + 1) v s (by simpa using e1) (by simpa using e2)
        have hF' : ∀ (j i : Nat) (a : Addr), as[j]? = some (.o i) → σ[i]? = some (some (.ref a)) → F a = none := fun j i a e1 e2 => hF (j + 1) i a (by simpa using e1) e2
        have hcc' : ∀ (i : Nat) (c : Cont) (b : Bool), δ[i]? = some (some (.o b c)) → ∀ (j : Nat), as[j]? = some (.o i) → c.real = true := fun i c b e1 j e2 => hcc i c b e1 (j + 1) (by simpa using e2)
        have dat : back δ δ1 as ss = some δ2 → (∀ i, a ≠ .o i) → _ := fun e na => by
          obtain ⟨r1, r3, r4⟩ := ih h hi q2 hs' hF' hcc' e
          refine (⟨r1, fun j i e => ?_, fun j b c e => ?_⟩ : Rep K F B H vs σ δ2 ∧ (∀ (j i : Nat), (a :: as)[j]? = some (.o i) → ∃ b c, c.simple = true ∧ (s :: ss)[j]? = some (.o b c)) ∧
            ∀ (j : Nat) (b : Bool) (c : Cont), δ2[j]? = some (some (.o b c)) → δ1[j]? = some (some (.o b c)) ∨ (c.simple = true ∧ j ∈ (a :: as).filterMap CA.ix))
          · cases j with
            | zero => simp at e; exact absurd e (na i)
            | succ j => simpa using r3 j i (by simpa using e)
          · rcases r4 j b c e with z | ⟨z1, z⟩
            · exact .inl z
            · refine .inr ⟨z1, ?_⟩
              cases a with
              | o i => exact absurd rfl (na i)
              | d d => exact z
              | w d => exact z
              | p d => exact z
        cases a with
        | d d => exact dat (by cases s <;> exact e) (fun _ z => nomatch z)
        | w d => exact dat (by cases s <;> exact e) (fun _ z => nomatch z)
        | p d => exact dat (by cases s <;> exact e) (fun _ z => nomatch z)
        | o i =>
          cases s with
          | d d => exact nomatch e
          | w d => exact nomatch e
          | o b0 c0 =>
            simp only [back] at e
            split at e
            · rename_i bb cc hδ
              split at e
              · rename_i hsim
                obtain ⟨a, ea, hBF, qc⟩ := hs 0 _ (.o b0 c0) rfl rfl
                have es : σ[i]? = some (some (.ref a)) := by rw [← ea]; exact q1
                have h2 := h.own (b := bb) es (fun p f => ⟨(hBF p f).1, by cases foot_one hsim f; exact hF 0 i _ rfl es⟩) qc (fun j b' c' a' p nj e4 e5 f5 f6 => by
                  obtain ⟨b2, c2, e6, f7⟩ := hi j b' c' a' p e4 e5 f5
                  cases foot_one hsim f6
                  exact nj (h0.apart j i a' _ _ b2 c2 bb cc e6 hδ e5 es f7 (foot_self (hcc i cc bb hδ 0 rfl)))) (fun eb => by
                  subst eb
                  obtain ⟨v2, e7, e8⟩ := h0.bor i cc hδ
                  rw [es] at e7; cases e7
                  exact e8)
                obtain ⟨r1, r3, r4⟩ := ih h2 (fun j b c a' p e4 e5 f5 => by
                  rcases set_get e4 with ⟨rfl, z⟩ | ⟨_, z⟩
                  · cases z
                    rw [es] at e5; cases e5
                    cases foot_one hsim f5
                    exact ⟨_, _, hδ, foot_self (hcc _ cc bb hδ 0 rfl)⟩
                  · exact hi j b c a' p z e5 f5) q2 hs' hF' hcc' e
                refine ⟨r1, fun j k e4 => ?_, fun j b c e4 => ?_⟩
                · cases j with
                  | zero => exact ⟨b0, c0, hsim, rfl⟩
                  | succ j => simpa using r3 j k (by simpa using e4)
                · have hm : ∀ {z : Nat}, z ∈ as.filterMap CA.ix → z ∈ (CA.o i :: as).filterMap CA.ix := fun hz => List.mem_cons_of_mem i hz
                  rcases r4 j b c e4 with z | ⟨z1, z⟩
                  · rcases set_get z with ⟨rfl, z2⟩ | ⟨_, z⟩
                    · cases z2
                      exact .inr ⟨hsim, List.mem_cons_self (a := j) (l := as.filterMap CA.ix)⟩
                    · exact .inl z
                  · exact .inr ⟨z1, hm z⟩
              · cases e
            · cases e
end
end DL
set_option Elab.async false
set_option linter.all false
set_option maxRecDepth 100000
set_option maxHeartbeats 4000000
set_option autoImplicit false
namespace DL
open PySem PySem.Spec PyProof.Rows L2
open Classical in
/-- what a callee may not touch: all that is not data and not lent to it -/
noncomputable def frame (B H : Hp) (σ : L2.St) (ix : List Nat) : Hp := fun a => if (∃ o, B a = some o) ∨ ∃ i, i ∈ ix ∧ σ[i]? = some (some (.ref a)) then none else H a
theorem frame_some {B H : Hp} {σ : L2.St} {ix : List Nat} {a : Addr} {o : HO} (e : frame B H σ ix a = some o) : B a = none ∧ (∀ i, i ∈ ix → σ[i]? ≠ some (some (.ref a))) ∧ H a = some o := by
  unfold frame at e
  split at e
  · cases e
  · rename_i h
    refine ⟨?_, fun i hi z => h (.inr ⟨i, hi, z⟩), e⟩
    cases q : B a with
    | none => rfl
    | some u => exact absurd (.inl ⟨u, q⟩) h
theorem frame_eq {B H : Hp} {σ : L2.St} {ix : List Nat} {a : Addr} (h1 : B a = none) (h2 : ∀ i, i ∈ ix → σ[i]? ≠ some (some (.ref a))) : frame B H σ ix a = H a := by
  unfold frame
  rw [if_neg]
  rintro (⟨o, z⟩ | ⟨i, hi, z⟩)
  · rw [h1] at z; cases z
  · exact h2 i hi z
theorem frame_none {B H : Hp} {σ : L2.St} {ix : List Nat} {a : Addr} {i : Nat} (hi : i ∈ ix) (e : σ[i]? = some (some (.ref a))) : frame B H σ ix a = none := by
  unfold frame
  rw [if_pos (.inr ⟨i, hi, e⟩)]
section
variable {S : Sg} {CX : CXT}
theorem call_run {K : PySem.W.Frag} {E : XK} {np : Nat} {W : FSpec} {Ex : XP} {F B0 B1 H1 : Hp} {vs : List V} {σ : L2.St} {δ1 δ2 : SEnv} {ws : List V} {rs : List R} {ms : List Bool} {as : List CA} {ss : List Sl} {P : R → SEnv → Prop} {Q : VK}
    (hx : XOk F B1 E Ex) (s0 : Same B0 B1) (h1 : Rep K F B1 H1 vs σ δ1) (q1 : RepRs K F B1 H1 σ δ1 ws rs) (e1 : lend δ1 ms rs = some (as, δ2)) (hl : as.length = np) (nd : (as.filterMap CA.ix).Nodup) (e2 : slsOf δ2 as = some ss)
    (w1 : W ss Ex fun r ss' => noO r = true → ob (back δ2 (clear δ2 as) as ss') fun δ3 => P r δ3)
    (k : ∀ B' H' v r δ', Same B0 B' → Rep K F B' H' vs σ δ' → RepR K F B' H' σ δ' v r → P r δ' → Q v H') : spOf K np W ws H1 Q E := by
  obtain ⟨B2, s2, h2, d2⟩ := lend_ok h1 q1 e1
  have hwl : ws.length = as.length := Paired.length d2
  -- the lent slots
  have lent : ∀ {j i : Nat}, as[j]? = some (.o i) → ∃ a b c, ws[j]? = some (.ref a) ∧ σ[i]? = some (some (.ref a)) ∧ δ2[i]? = some (some (.o b c)) ∧ c.simple = true ∧ B2 a = none ∧ F a = none ∧ ContOk B2 H1 a c := by
    intro j i e
    obtain ⟨v, e3, q3⟩ := paired_get d2 e
    obtain ⟨b, c, e4, hs⟩ := sls_own e2 (ix_mem e)
    obtain ⟨v', e5, a, ea, hBF, qc⟩ := h2.ok i _ e4
    have q3 : σ[i]? = some (some v) := q3
    rw [q3] at e5; cases e5
    subst ea
    exact ⟨a, b, c, e3, q3, e4, hs, (hBF a (foot_self (real_of hs))).1, (hBF a (foot_self (real_of hs))).2, qc⟩
  have hFF : ∀ a o, F a = some o → frame B2 H1 σ (as.filterMap CA.ix) a = some o := fun a o e => by
    rw [frame_eq (h2.dj a o e) (fun i hi z => ?_)]
    · exact h2.sf a o e
    · obtain ⟨b, c, e4, hs⟩ := sls_own e2 hi
      obtain ⟨v', e5, a', ea, hBF, _⟩ := h2.ok i _ e4
      rw [z] at e5; cases e5; cases ea
      have hF := (hBF a (foot_self (real_of hs))).2
      rw [e] at hF; cases hF
  -- what belongs to the caller's other slots stands in the frame
  have keep : ∀ {i : Nat} {b : Bool} {c : Cont} {a p : Addr}, δ2[i]? = some (some (.o b c)) → i ∉ as.filterMap CA.ix → σ[i]? = some (some (.ref a)) → Foot H1 a c p → ∃ u, H1 p = some u ∧ frame B2 H1 σ (as.filterMap CA.ix) p = some u ∧ F p = none := by
    intro i b c a p e ni ea f
    obtain ⟨hBF, qc⟩ := h2.own_up e ea
    obtain ⟨u, hu⟩ := qc.there f
    refine ⟨u, hu, ?_, (hBF p f).2⟩
    rw [frame_eq (hBF p f).1 (fun i' hi' z => ?_)]
    · exact hu
    · obtain ⟨b', c', e6, hs⟩ := sls_own e2 hi'
      have := h2.apart i i' a p p b c b' c' e e6 ea z f (foot_self (real_of hs))
      subst this
      exact ni hi'
  refine ⟨by rw [hwl, hl], frame B2 H1 σ (as.filterMap CA.ix), B2, ss, Ex, _, ⟨h2.sb, fun a o e => (frame_some e).2.2, fun a o e => (frame_some e).1, ?_, ?_, ?_, ?_, h2.nt⟩, ?_, w1, ?_⟩
  · rw [List.length_map, List.length_map, hwl, sls_len e2]
  · intro j s e
    rw [List.getElem?_map] at e
    obtain ⟨s0, e3, e4⟩ := Option.map_eq_some_iff.mp e
    cases e4
    obtain ⟨a, e5, e6⟩ := sls_get e2 e3
    obtain ⟨v, e7, q7⟩ := paired_get d2 e5
    refine ⟨v, by rw [List.getElem?_map, e7]; rfl, ?_⟩
    cases a with
    | d d => cases e6; exact q7
    | w d => cases e6; exact q7
    | p ds =>
      cases e6
      obtain ⟨a, o, xs, g1, g2, g3, g4, g5⟩ := q7
      exact ⟨a, g1, fun p f => f.elim, o, xs, g2, g3, g4, g5⟩
    | o i =>
      obtain ⟨p, b, c, e8, e9, e10, hsim, hB, hF, qc⟩ := lent e5
      rw [e7] at e8; cases e8
      simp only [slOf, e10, hsim] at e6
      cases e6
      exact ⟨p, rfl, foot_bf hsim hB (frame_none (ix_mem e5) e9), qc⟩
  · intro j m a a' q b c b' c' e3 e4 e5 e6 f1 f2
    rw [List.getElem?_map] at e3 e4 e5 e6
    obtain ⟨s1, e3, z⟩ := Option.map_eq_some_iff.mp e3; cases z
    obtain ⟨s2', e4, z⟩ := Option.map_eq_some_iff.mp e4; cases z
    obtain ⟨v1, e5, z⟩ := Option.map_eq_some_iff.mp e5; cases z
    obtain ⟨v2, e6, z⟩ := Option.map_eq_some_iff.mp e6; cases z
    obtain ⟨a1, e7, e8⟩ := sls_get e2 e3
    obtain ⟨a2, e9, e10⟩ := sls_get e2 e4
    cases a1 with
    | d d => cases e8
    | w d => cases e8
    | p d => cases e8; exact f1.elim
    | o i1 =>
      cases a2 with
      | d d => cases e10
      | w d => cases e10
      | p d => cases e10; exact f2.elim
      | o i2 =>
        obtain ⟨p1, b1, c1, g1, g2, g3, g4, _⟩ := lent e7
        obtain ⟨p2, b2, c2, k1, k2, k3, k4, _⟩ := lent e9
        rw [e5] at g1; cases g1
        rw [e6] at k1; cases k1
        simp only [slOf, g3, g4] at e8; cases e8
        simp only [slOf, k3, k4] at e10; cases e10
        have ei := h2.apart i1 i2 a a' q b1 c b2 c' g3 k3 g2 k2 f1 f2
        subst ei
        exact ix_inj nd e7 e9
  · intro j c e
    rw [List.getElem?_map] at e
    obtain ⟨s0, e3, e4⟩ := Option.map_eq_some_iff.mp e
    cases e4
    obtain ⟨a, e5, e6⟩ := sls_get e2 e3
    obtain ⟨v, e7, q7⟩ := paired_get d2 e5
    exact ⟨v, by rw [List.getElem?_map, e7]; rfl, e7⟩
  · intro cls da B' H' fs fds t1 t2 t3 t4 t5 t6 t7
    refine hx cls da B' H' fs fds ⟨s2.trans t1.1, t1.2⟩ t2 (fun a o e => t3 a o (hFF a o e)) (fun a o e => t4 a o (hFF a o e)) t5 t6 t7
  · intro B' H' v r ss' s3 h3 q3 nO w3
    have nO' : noO r = true := by
      cases r with
      | o i => exact absurd rfl (nO i)
      | d d => rfl
      | w d => rfl
      | n c => rfl
    obtain ⟨δ3, e3, w3⟩ := w3 nO'
    -- the caller's slots behind the call, but for the lent ones
    have stay : ∀ {i : Nat} {b : Bool} {c : Cont} {a : Addr}, (clear δ2 as)[i]? = some (some (.o b c)) → σ[i]? = some (some (.ref a)) → ∀ p, Foot H1 a c p → H' p = H1 p ∧ B' p = none ∧ F p = none := by
      intro i b c a e ea p f
      obtain ⟨e4, ni⟩ := clear_get e
      obtain ⟨u, hu, hfr, hF⟩ := keep e4 ni ea f
      exact ⟨by rw [hu]; exact h3.sf p u hfr, h3.dj p u hfr, hF⟩
    have same : ∀ {i : Nat} {b : Bool} {c : Cont} {a p : Addr}, (clear δ2 as)[i]? = some (some (.o b c)) → σ[i]? = some (some (.ref a)) → (Foot H' a c p ↔ Foot H1 a c p) := fun e ea => foot_eq fun p f => (stay e ea p f).1
    have hc : Rep K F B' H' vs σ (clear δ2 as) := by
      refine ⟨h3.sb, fun a o e => h3.sf a o (hFF a o e), fun a o e => h3.dj a o (hFF a o e), (h2.clear (as := as)).len, fun i s e => ?_, fun i j a a' p b c b' c' e1 e2 e3 e4 f1 f2 => (h2.clear (as := as)).apart i j a a' p b c b' c' e1 e2 e3 e4 ((same e1 e3).mp f1) ((same e2 e4).mp f2), (h2.clear (as := as)).bor, h3.nt⟩
      obtain ⟨e4, ni⟩ := clear_get e
      obtain ⟨v', e5, q5⟩ := h2.ok i s e4
      refine ⟨v', e5, ?_⟩
      cases s with
      | d d => exact DD.mono s3 q5
      | w d => exact q5
      | o b c =>
        obtain ⟨a, ea, hBF, qc⟩ := q5
        subst ea
        exact ⟨a, rfl, fun p f => (stay e e5 p ((same e e5).mp f)).2, qc.mono s3 fun p f => (stay e e5 p f).1⟩
    obtain ⟨r1, r3, r4⟩ := back_ok (Fc := frame B2 H1 σ (as.filterMap CA.ix)) h2 (as := as) (ws := ws) (ss := ss') hc (fun j b c a p e e2 f => ⟨b, c, (clear_get e).1, (same e e2).mp f⟩) (Paired.mapP d2 fun v a z => z.up s3) (fun j v s e4 e5 => by
      obtain ⟨v', e6, q6⟩ := h3.ok j s (by rw [List.getElem?_map, e5]; rfl)
      rw [List.getElem?_map, e4] at e6
      cases e6
      exact q6) (fun j i a e4 e5 => by
      obtain ⟨a', _, _, _, g2, _, _, _, hF, _⟩ := lent e4
      rw [e5] at g2; cases g2
      exact hF) (fun i c b e4 j e5 => by
      obtain ⟨_, _, _, _, _, g3, g4, _⟩ := lent e5
      rw [e4] at g3; cases g3
      exact real_of g4) e3
    refine k B' H' v r δ3 (s0.trans (s2.trans s3)) r1 ?_ w3
    cases r with
    | d d => exact q3
    | w d => exact q3
    | o i => exact absurd rfl (nO i)
    | n c =>
      obtain ⟨a, ea, hBF, qc, hn⟩ := q3
      refine ⟨a, ea, fun p f => ⟨(hBF p f).1, ?_⟩, qc, fun i b c' a' p e4 e5 f f' => ?_⟩
      · have hF := (hBF p f).2
        cases hf : F p with
        | none => rfl
        | some o => rw [hFF p o hf] at hF; cases hF
      · rcases r4 i b c' e4 with z | ⟨hsim, hi⟩
        · obtain ⟨z1, ni⟩ := clear_get z
          obtain ⟨u, _, hfr, _⟩ := keep z1 ni e5 ((same z e5).mp f)
          have hF := (hBF p f').2
          rw [hfr] at hF; cases hF
        · obtain ⟨a0, ha0, ha1⟩ := List.mem_filterMap.mp hi
          obtain ⟨j, hj, hj2⟩ := List.getElem_of_mem ha0
          have ej : as[j]? = some a0 := by rw [List.getElem?_eq_getElem hj, hj2]
          cases a0 with
          | d d => cases ha1
          | w d => cases ha1
          | p d => cases ha1
          | o i0 =>
            cases ha1
            obtain ⟨p2, b2, c2, g1, g2, _⟩ := lent ej
            obtain ⟨b3, c3, g4, g3⟩ := r3 j i ej
            rw [e5] at g2; cases g2
            cases foot_one hsim f
            exact hn j b3 c3 a' a' (by rw [List.getElem?_map, g3]; rfl) (by rw [List.getElem?_map, g1]; rfl) (foot_self (real_of g4)) f'
theorem sim_call {K : PySem.W.Frag} {E : XK} {np : Nat} {W : FSpec} {ms : List Bool} {t : TA} {wr : WA} (hW : FMono W) (s : ASim K E t wr) : ESim K E (tCall (spOf K np W) [] E t) (wCall np W ms wr) := by
  refine ⟨fun Ex Ex' δ P P' hx h w => ?_, fun Ex F B H vs σ δ P Q hx h w k => ?_⟩
  · unfold wCall at w ⊢
    refine s.mono _ _ _ _ _ hx (fun rs δ1 w => w.imp fun p w => ⟨w.1, w.2.1, w.2.2.imp fun ss w => ?_⟩) w
    exact hW _ _ _ _ _ hx (fun r ss' w n => (w n).imp fun δ2 w => h _ _ w) w
  · unfold wCall at w
    refine s.run _ _ _ _ _ _ _ _ _ hx h w fun B1 H1 ws rs δ1 s1 h1 q1 w1 => ?_
    obtain ⟨⟨as, δ2⟩, e1, hl, nd, ss, e2, w1⟩ := w1
    show spOf K np W (ws ++ []) H1 Q E
    rw [List.append_nil]
    exact call_run (hx.up s1) s1 h1 q1 e1 hl nd e2 w1 k
structure FnG (g : Gx) (CX : CXT) (k : Nat) (f : Addr) (fd : FuncData) (ps : List Str) (sp : Sp) : Prop where
  len : ∀ vs H Q E, sp vs H Q E → vs.length = ps.length
  run : ∀ (A : Around) (outer : List Env) (sh : Shared) (H : Hp) (args : Args) (us : List Value) (vs : List V) (Q : VK) (E : XK), A.guards = some [] → Room k A → Env0 g.P g.w g.K g.mg g.base A outer sh H →
    BindsTo sh fd args (ps.zip us) → Vals vs us → sp vs H Q E → codeAny (model g.P g.w) A (.call (.ref f) args) (CR CX outer g.P g.w H sh Q E) sh
theorem FnG.imp {g : Gx} {CX : CXT} {k : Nat} {f : Addr} {fd : FuncData} {ps : List Str} {sp sp' : Sp} (Fk : FnG g CX k f fd ps sp) (h : ∀ vs H Q E, sp' vs H Q E → sp vs H Q E) : FnG g CX k f fd ps sp' :=
  ⟨fun vs H Q E q => Fk.len vs H Q E (h _ _ _ _ q), fun A outer sh H args us vs Q E hg hr he hb hv hs => Fk.run A outer sh H args us vs Q E hg hr he hb hv (h _ _ _ _ hs)⟩
theorem FnG.mono {g : Gx} {CX : CXT} {j k : Nat} {f : Addr} {fd : FuncData} {ps : List Str} {sp : Sp} (Fk : FnG g CX j f fd ps sp) (h : j ≤ k) : FnG g CX k f fd ps sp :=
  ⟨Fk.len, fun A outer sh H args us vs Q E hg hr => Fk.run A outer sh H args us vs Q E hg (hr.mono h)⟩
theorem runG {g : Gx} {c : Cl} {k : Nat} {f : Addr} {fd : FuncData} {ps : List Str} {sp : Sp} {E : XK} {pins : List (Addr × Obj)} {σ : L2.St} {H : Hp} {sh : Shared} {Q : VK} {us : List Value} {vs : List V} (Fk : FnG g CX k f fd ps sp) (hgd : c.A.guards = some [])
    (hr : Room k c.A) (hb : Binds g.K fd ps []) (hx : Passes CX (g.cx c) E) (I : Inv (g.cx c) pins σ H sh) (rv : Vals vs us) (h : sp vs H Q E) : wpAny (model g.P g.w) c.A (call (.ref f) us) (EP (g.cx c) pins σ Q) c.xe sh := by
  have hl : us.length = ps.length := rv.length.symm.trans (Fk.len _ _ _ _ h)
  have hbd := hb sh us I.kIn (by rw [List.append_nil]; exact hl)
  rw [List.append_nil] at hbd
  refine wpAny_call (codeAny_mono (Fk.run c.A c.stack sh H _ us vs Q E hgd hr I.env0 hbd rv h) fun res sh' hq => ?_)
  cases res with
  | error e => exact hx _ _ _ _ _ _ I hq
  | ok fl => cases fl with
    | ret u => exact I.after hq
    | _ => exact hq.elim
theorem de_call {np k : Nat} {W : FSpec} {ms : List Bool} {wr : WA} {x : Str} {f : Addr} {fd : FuncData} {ps : List Str} {p pos : Pos} {e : Expr} {es : List Expr} (hW : FMono W) (Fk : FnG S.g S.CX k f fd ps (spOf S.g.K np W)) (hk : k ≤ S.k)
    (hg : GlS S.sc x) (hm : S.g.mg x = some (.ref f)) (hkp : PySem.W.keepIn S.g.K (.ref f) = true) (hb : Binds S.g.K fd ps []) (ha : DA S (e :: es) wr)
    (hs : ∀ env, starEach (e :: es) env = (false, eval e env) :: starEach es env := by intro _; rfl) (hpl : ∀ env, (backTo pos (starEach es env)).any (·.1) = false := by intro _; rfl) (hdb : (x == ("__debug__" : Str)) = false := by decide) :
    DE S (.Call (.Name x p) (e :: es) [] pos) (wCall np W ms wr) := by
  obtain ⟨t, pa, s⟩ := ha
  refine ⟨_, fun c hc => ⟨fun pins sh σ H Q I h => ?_⟩, sim_call hW s⟩
  have hgl : Gl (S.g.cx c) x := gl_of hc hg
  refine wpAny_Call_Name_kw (ld_glob I hgl hm ?_ hdb)
  refine PySem.W.callWith_K (h₀ := S.g.base) I.ok.mod.kin hkp ?_ (hs _) (hpl _)
  refine thn ((pa c hc).run pos pins sh σ H _ I h) fun us sh1 ⟨vs, H1, I1, rv, q⟩ => ⟨I1.kIn, ?_⟩
  have q : spOf S.g.K np W (vs ++ []) H1 Q S.E := q
  rw [List.append_nil] at q
  exact runG Fk hc.gd (hc.room.mono hk) hb hc.ps I1 rv q
end
end DL
set_option Elab.async false
set_option linter.all false
set_option maxRecDepth 100000
set_option maxHeartbeats 4000000
set_option autoImplicit false
namespace DL
open PySem PySem.Spec PyProof.Rows L2
section
variable {K : PySem.W.Frag} {F B H : Hp} {vs : List V} {σ : L2.St} {δ : SEnv} {v : V}
theorem set_look {α : Type} {l : List α} {i : Nat} {x y : α} (h : (l.set i x)[i]? = some y) : y = x := by
  rcases set_get h with ⟨_, z⟩ | ⟨n, _⟩
  · exact z
  · exact absurd rfl n
theorem len_lt {i : Nat} {s : Option Sl} (h : Rep K F B H vs σ δ) (e : (δ.set i s)[i]? = some s) : i < σ.length := by
  have := (List.getElem?_eq_some_iff.mp e).1
  rw [List.length_set] at this
  rw [h.len]; exact this
/-- a slot is stored anew -/
theorem Rep.store (h : Rep K F B H vs σ δ) (i : Nat) (v : V) (s : Sl) (q : SlOk K F B H v s) (hb : ∀ c, s ≠ .o true c) (hn : ∀ a, v = .ref a → ∀ c, s = .o false c → Off H σ δ (Foot H a c)) :
    Rep K F B H vs (σ.set i (some v)) (δ.set i (some s)) := by
  refine ⟨h.sb, h.sf, h.dj, by rw [List.length_set, List.length_set]; exact h.len, fun j s' e => ?_, fun j k a a' p b c b' c' e1 e2 e3 e4 f1 f2 => ?_, fun j c e => ?_, h.nt⟩
  · by_cases hj : j = i
    · subst hj
      have := set_look e
      cases this
      exact ⟨v, by rw [List.getElem?_set_self (len_lt h e)], q⟩
    · rw [List.getElem?_set_ne (Ne.symm hj)] at e ⊢
      exact h.ok j s' e
  · by_cases hj : j = i
    · subst hj
      have z := set_look e1
      cases z
      rw [List.getElem?_set_self (len_lt h e1)] at e3
      cases e3
      by_cases hk : k = j
      · exact hk.symm
      · rw [List.getElem?_set_ne (Ne.symm hk)] at e2 e4
        cases b with
        | true => exact absurd rfl (hb c)
        | false => exact absurd f1 (hn a rfl c rfl k b' c' a' p e2 e4 f2)
    · rw [List.getElem?_set_ne (Ne.symm hj)] at e1 e3
      by_cases hk : k = i
      · subst hk
        have z := set_look e2
        cases z
        rw [List.getElem?_set_self (len_lt h e2)] at e4
        cases e4
        cases b' with
        | true => exact absurd rfl (hb c')
        | false => exact absurd f2 (hn a' rfl c' rfl j b c a p e1 e3 f1)
      · rw [List.getElem?_set_ne (Ne.symm hk)] at e2 e4
        exact h.apart j k a a' p b c b' c' e1 e2 e3 e4 f1 f2
  · by_cases hj : j = i
    · subst hj
      have z := set_look e
      cases z
      exact absurd rfl (hb c)
    · rw [List.getElem?_set_ne (Ne.symm hj)] at e ⊢
      exact h.bor j c e
/-- what is stored under a name -/
def asgn (δ : SEnv) (i : Nat) : R → Option SEnv
  | .d d => some (δ.set i (some (.d d)))
  | .w d => some (δ.set i (some (.w d)))
  | .n c => some (δ.set i (some (.o false c)))
  | .o j => (frz δ (.o j)).map fun p => p.2.set i (some (.d p.1))
theorem asgn_ok {i : Nat} {r : R} {δ' : SEnv} (h : Rep K F B H vs σ δ) (q : RepR K F B H σ δ v r) (e : asgn δ i r = some δ') : ∃ B', Same B B' ∧ Rep K F B' H vs (σ.set i (some v)) δ' := by
  cases r with
  | d d => cases e; exact ⟨B, Same.refl _, h.store i v (.d d) q (fun _ z => nomatch z) (fun a _ c z => nomatch z)⟩
  | w d => cases e; exact ⟨B, Same.refl _, h.store i v (.w d) q (fun _ z => nomatch z) (fun a _ c z => nomatch z)⟩
  | n c =>
    cases e
    obtain ⟨a, ea, hBF, qc, hn⟩ := q
    refine ⟨B, Same.refl _, h.store i v (.o false c) ⟨a, ea, hBF, qc⟩ (fun _ z => nomatch z) (fun a' ea' c' ec => ?_)⟩
    rw [ea] at ea'; cases ea'; cases ec
    exact hn
  | o j =>
    simp only [asgn] at e
    obtain ⟨⟨d, δ1⟩, e1, e⟩ := Option.map_eq_some_iff.mp e
    cases e
    obtain ⟨B1, s1, h1, d1⟩ := frz_ok h q e1
    exact ⟨B1, s1, h1.store i v (.d d) d1 (fun _ z => nomatch z) (fun a _ c z => nomatch z)⟩
end
def wSeq (w u : WS) : WS := fun d δ => w { d with nx := u d } δ
def wNext : WS := fun d δ => d.nx δ
def wSet (i : Nat) (wa : WE) : WS := fun d δ => wa d.ex δ fun r δ1 => ob (asgn δ1 i r) fun δ2 => d.nx δ2
def wDrop (wa : WE) : WS := fun d δ => wa d.ex δ fun _ δ1 => d.nx δ1
def wRet (wa : WE) : WS := fun d δ => wa d.ex δ d.rt
def wIfS (wt : WT) (w u : WS) : WS := fun d δ => wt d.ex δ fun b δ1 => if b = true then w d δ1 else u d δ1
section
variable {S : Sg}
theorem DEnds.le.refl (d : DEnds) : d.le d := ⟨fun _ h => h, fun _ _ h => h, fun _ h => h, fun _ h => h, fun _ h => h⟩
theorem ds_nil : DSs S [] wNext := ⟨tNext, fun _ _ => pss_nil, ⟨fun d d' δ h w => h.nx _ w, fun F B H vs σ δ D d hx h k w => k.nx B σ H δ (Same.refl _) h w⟩⟩
theorem sim_seq {K : PySem.W.Frag} {E : XK} {t u : TS} {w1 w2 : WS} (s1 : SSim K E t w1) (s2 : SSim K E u w2) : SSim K E (tSeq t u) (wSeq w1 w2) := by
  refine ⟨fun d d' δ h w => ?_, fun F B H vs σ δ D d hx h k w => ?_⟩
  · exact s1.mono { d with nx := w2 d } { d' with nx := w2 d' } δ ⟨fun δ w => s2.mono d d' δ h w, h.rt, h.bk, h.ct, h.ex⟩ w
  · exact s1.run F B H vs σ δ { D with nx := u D } { d with nx := w2 d } hx h ⟨fun B' σ' H' δ' s h' w' => s2.run F B' H' vs σ' δ' D d (hx.up s) h' (k.up s) w', k.rt, k.bk, k.ct⟩ w
theorem ds_cons {st : Stmt} {rest : List Stmt} {w u : WS} (h : DS S st w) (hr : DSs S rest u) : DSs S (st :: rest) (wSeq w u) := by
  obtain ⟨t, p, s⟩ := h
  obtain ⟨tr, pr, sr⟩ := hr
  exact ⟨_, fun c hc => pss_cons (p c hc) (pr c hc), sim_seq s sr⟩
theorem ds_one {st : Stmt} {w : WS} (h : DS S st w) : DSs S [st] w := by
  obtain ⟨t, p, s⟩ := h
  exact ⟨t, fun c hc => pss_one (p c hc), s⟩
theorem ds_expr {e : Expr} {wa : WE} {pos : Pos} (h : DE S e wa) (hs : ∀ env, swapsWith e none pos.line env = pure false := by intro _; rfl) : DS S (.Expr e pos) (wDrop wa) := by
  obtain ⟨t, p, s⟩ := h
  refine ⟨_, fun c hc => ps_expr (p c hc) (hs _), ⟨fun d d' δ h w => s.mono _ _ _ _ _ h.ex (fun r δ1 w => h.nx _ w) w, fun F B H vs σ δ D d hx h k w => ?_⟩⟩
  exact s.run _ _ _ _ _ _ _ _ _ hx h w fun B1 H1 v r δ1 s1 h1 q1 w1 => k.nx B1 σ H1 δ1 s1 h1 w1
theorem ds_ret {e : Expr} {wa : WE} {pos : Pos} (h : DE S e wa) : DS S (.Return (some e) pos) (wRet wa) := by
  obtain ⟨t, p, s⟩ := h
  refine ⟨_, fun c hc => ps_ret (p c hc), ⟨fun d d' δ h w => s.mono _ _ _ _ _ h.ex h.rt w, fun F B H vs σ δ D d hx h k w => ?_⟩⟩
  exact s.run _ _ _ _ _ _ _ _ _ hx h w fun B1 H1 v r δ1 s1 h1 q1 w1 => k.rt B1 σ H1 δ1 v r s1 h1 q1 w1
theorem ds_if {c : Expr} {a b : List Stmt} {wt : WT} {w u : WS} {pos : Pos} (hc : DT S c wt) (ha : DSs S a w) (hb : DSs S b u) : DS S (.If c a b pos) (wIfS wt w u) := by
  obtain ⟨tt, pt, st⟩ := hc
  obtain ⟨ta, pa, sa⟩ := ha
  obtain ⟨tb, pb, sb⟩ := hb
  refine ⟨_, fun c hc => ps_if (pt c hc) (pa c hc) (pb c hc), ⟨fun d d' δ h w => ?_, fun F B H vs σ δ D d hx h k w => ?_⟩⟩
  · refine st.mono _ _ _ _ _ h.ex (fun bb δ1 w => ?_) w
    cases bb with
    | true => exact sa.mono _ _ _ h w
    | false => exact sb.mono _ _ _ h w
  · refine st.run _ _ _ _ _ _ _ _ _ hx h w fun B1 H1 bb δ1 s1 h1 w1 => ?_
    cases bb with
    | true => exact sa.run _ _ _ _ _ _ _ _ (hx.up s1) h1 (k.up s1) w1
    | false => exact sb.run _ _ _ _ _ _ _ _ (hx.up s1) h1 (k.up s1) w1
theorem fn_ok {c : Cl} (hc : S.ok c) {x : Str} (ht : S.top = true ∨ S.sc.names.lookup x = some .local) : c.fn x = true ∨ c.env.scope.names.lookup x = some .local := by
  rcases ht with h | h
  · exact .inl (hc.fn h x)
  · exact .inr (by rw [hc.hs]; exact h)
theorem ds_set {i : Nat} {x : Str} {e : Expr} {wa : WE} {pos pos' : Pos} (hi : S.N[i]? = some x) (hx : Loc S.sc x) (h : DE S e wa) (hs : ∀ env, swapsWith e (some (.Name x pos')) pos.line env = pure false := by intro _; rfl) (ht : S.top = true ∨ S.sc.names.lookup x = some .local := by exact .inl rfl) :
    DS S (.Assign [.Name x pos'] e pos) (wSet i wa) := by
  obtain ⟨t, p, s⟩ := h
  refine ⟨_, fun c hc => ps_set (X := S.g.cx c) (i := i) (by show c.N.Nodup; rw [hc.hN]; exact hc.nd) (by show c.N[i]? = _; rw [hc.hN]; exact hi) (by show Loc c.env.scope x; rw [hc.hs]; exact hx) (p c hc) (hs _) (fn_ok hc ht), ⟨fun d d' δ h w => ?_, fun F B H vs σ δ D d hx h k w => ?_⟩⟩
  · exact s.mono _ _ _ _ _ h.ex (fun r δ1 w => w.imp fun δ2 w => h.nx _ w) w
  · refine s.run _ _ _ _ _ _ _ _ _ hx h w fun B1 H1 v r δ1 s1 h1 q1 w1 => ?_
    obtain ⟨δ2, e1, w1⟩ := w1
    obtain ⟨B2, s2, h2⟩ := asgn_ok h1 q1 e1
    exact k.nx B2 _ H1 δ2 (s1.trans s2) h2 w1
end
def retR (δ : SEnv) : R → Option R
  | .d d => some (.d d)
  | .w d => some (.w d)
  | .n c => some (.n c)
  | .o i => match δ[i]? with
    | some (some (.d d)) => some (.d d)
    | some (some (.w d)) => some (.w d)
    | some (some (.o false c)) => some (.n c)
    | _ => none
def finals : List Sl → SEnv → Option (List Sl)
  | [], _ => some []
  | .o _ _ :: ss, some (.o true c) :: δ => (finals ss δ).map fun q => .o true c :: q
  | .d d :: ss, _ :: δ => (finals ss δ).map fun q => .d d :: q
  | .w d :: ss, _ :: δ => (finals ss δ).map fun q => .w d :: q
  | _, _ => none
def fnW (np n : Nat) (w : WS) : FSpec := fun ss Ex P => ss.length = np ∧ (let fin := fun r δ => ob (retR δ r) fun r' => ob (finals ss δ) fun ss' => P r' ss'
  w ⟨fun δ => fin (.d .none) δ, fin, fun _ => False, fun _ => False, Ex⟩ (ss.map some ++ List.replicate (n - np) none))
theorem finals_get : ∀ {ss : List Sl} {δ : SEnv} {ss' : List Sl}, finals ss δ = some ss' → ss'.length = ss.length ∧ ∀ (j : Nat) (s' : Sl), ss'[j]? = some s' → ∃ s, ss[j]? = some s ∧ ((∃ b c c', s = .o b c ∧ s' = .o true c' ∧ δ[j]? = some (some (.o true c'))) ∨ (s' = s ∧ ∀ b c, s ≠ .o b c))
  | [], δ, _, e => by cases e; exact ⟨rfl, fun j s' e => by simp at e⟩
  | .o b c :: ss, [], _, e => by exact nomatch e
  | .d _ :: ss, [], _, e => by exact nomatch e
  | .w _ :: ss, [], _, e => by exact nomatch e
  | .d d :: ss, o :: δ, ss', e => by
    simp only [finals] at e
    obtain ⟨q, e1, e⟩ := Option.map_eq_some_iff.mp e
    cases e
    obtain ⟨h1, h2⟩ := finals_get e1
    refine ⟨by simp [h1], fun j s' e => ?_⟩
    cases j with
    | zero => simp at e; subst e; exact ⟨_, rfl, .inr ⟨rfl, fun _ _ z => nomatch z⟩⟩
    | succ j => simpa using h2 j s' (by simpa using e)
  | .w d :: ss, o :: δ, ss', e => by
    simp only [finals] at e
    obtain ⟨q, e1, e⟩ := Option.map_eq_some_iff.mp e
    cases e
    obtain ⟨h1, h2⟩ := finals_get e1
    refine ⟨by simp [h1], fun j s' e => ?_⟩
    cases j with
    | zero => simp at e; subst e; exact ⟨_, rfl, .inr ⟨rfl, fun _ _ z => nomatch z⟩⟩
    | succ j => simpa using h2 j s' (by simpa using e)
  | .o b c :: ss, none :: δ, ss', e => by exact nomatch e
  | .o b c :: ss, some (.d _) :: δ, ss', e => by exact nomatch e
  | .o b c :: ss, some (.w _) :: δ, ss', e => by exact nomatch e
  | .o b c :: ss, some (.o false _) :: δ, ss', e => by exact nomatch e
  | .o b c :: ss, some (.o true c0) :: δ, ss', e => by
    simp only [finals] at e
    obtain ⟨q, e1, e⟩ := Option.map_eq_some_iff.mp e
    cases e
    obtain ⟨h1, h2⟩ := finals_get e1
    refine ⟨by simp [h1], fun j s' e => ?_⟩
    cases j with
    | zero => simp at e; subst e; exact ⟨_, rfl, .inl ⟨b, c, c0, rfl, rfl, rfl⟩⟩
    | succ j => simpa using h2 j s' (by simpa using e)
/-- from a body's words to the promise -/
theorem body_run {K : PySem.W.Frag} {E : XK} {np : Nat} {N : List Str} {t : TS} {w : WS} (hN : np ≤ N.length) (s : SSim K E t w) {vs : List V} {H : Hp} {Q : VK} (h : spOf K np (fnW np N.length w) vs H Q E) :
    t { nx := fun _ H' => Q .non H', rt := Q } (start N vs) H := by
  obtain ⟨hl, F, B, ss, Ex, P, h1, hx, ⟨hs, h2⟩, k⟩ := h
  have hvl : vs.length = ss.length := by have := h1.len; simpa using this
  have fin : ∀ {B' : Hp} {σ' : L2.St} {H' : Hp} {δ' : SEnv} {v : V} {r : R}, Same B B' → Rep K F B' H' vs σ' δ' → RepR K F B' H' σ' δ' v r → (ob (retR δ' r) fun r' => ob (finals ss δ') fun ss' => P r' ss') → Q v H' := by
    intro B' σ' H' δ' v r s1 h3 q3 w3
    obtain ⟨r', e1, ss', e2, w3⟩ := w3
    obtain ⟨fl, fg⟩ := finals_get e2
    -- a lent slot stands as it was handed in
    have lent : ∀ {j : Nat} {c' : Cont}, ss'[j]? = some (.o true c') → ∃ a, vs[j]? = some (.ref a) ∧ δ'[j]? = some (some (.o true c')) ∧ σ'[j]? = some (some (.ref a)) ∧ (∀ p, Foot H' a c' p → B' p = none ∧ F p = none) ∧ ContOk B' H' a c' := by
      intro j c' e
      obtain ⟨s0, e3, z⟩ := fg j _ e
      rcases z with ⟨b, c, c'', e4, e5, e6⟩ | ⟨e4, n⟩
      · cases e5
        obtain ⟨v1, e7, e8⟩ := h3.bor j _ e6
        obtain ⟨v2, e9, a, ea, hBF, qc⟩ := h3.ok j _ e6
        rw [e7] at e9; cases e9
        subst ea
        exact ⟨a, e8, e6, e7, hBF, qc⟩
      · subst e4; exact absurd rfl (n _ _)
    have own : ∀ {j : Nat} {b : Bool} {c' : Cont}, ss'[j]? = some (.o b c') → b = true := by
      intro j b c' e
      obtain ⟨s0, e3, z⟩ := fg j _ e
      rcases z with ⟨b, c, c'', e4, e5, e6⟩ | ⟨e4, n⟩
      · cases e5; rfl
      · subst e4; exact absurd rfl (n _ _)
    have h4 : Rep K F B' H' vs (vs.map some) (ss'.map some) := by
      refine ⟨h3.sb, h3.sf, h3.dj, by rw [List.length_map, List.length_map, fl, hvl], fun j s' e => ?_, fun j m a1 a2 p b c b' c' e3 e4 e5 e6 p1 p2 => ?_, fun j c e => ?_, h3.nt⟩
      · rw [List.getElem?_map] at e
        obtain ⟨s0, e3, e4⟩ := Option.map_eq_some_iff.mp e
        cases e4
        obtain ⟨s1', e5, z⟩ := fg j _ e3
        rcases z with ⟨b, c, c'', e6, e7, e8⟩ | ⟨e6, n⟩
        · subst e7
          obtain ⟨a, f1, _, _, hBF, qc⟩ := lent e3
          exact ⟨.ref a, by rw [List.getElem?_map, f1]; rfl, a, rfl, hBF, qc⟩
        · subst e6
          obtain ⟨v0, e7, q7⟩ := h1.ok j s' (by rw [List.getElem?_map, e5]; rfl)
          refine ⟨v0, e7, ?_⟩
          cases s' with
          | d d => exact DD.mono s1 q7
          | w d => exact q7
          | o b c => exact absurd rfl (n b c)
      · rw [List.getElem?_map] at e3 e4 e5 e6
        obtain ⟨z1, e3, z⟩ := Option.map_eq_some_iff.mp e3; cases z
        obtain ⟨z2, e4, z⟩ := Option.map_eq_some_iff.mp e4; cases z
        obtain ⟨v1, e5, z⟩ := Option.map_eq_some_iff.mp e5; cases z
        obtain ⟨v2, e6, z⟩ := Option.map_eq_some_iff.mp e6; cases z
        cases own e3
        cases own e4
        obtain ⟨b1, f1, f2, f3, _⟩ := lent e3
        obtain ⟨b2, g1, g2, g3, _⟩ := lent e4
        rw [e5] at f1; cases f1
        rw [e6] at g1; cases g1
        exact h3.apart j m a1 a2 p true c true c' f2 g2 f3 g3 p1 p2
      · rw [List.getElem?_map] at e
        obtain ⟨z1, e3, z⟩ := Option.map_eq_some_iff.mp e; cases z
        obtain ⟨a1, f1, _⟩ := lent e3
        exact ⟨.ref a1, by rw [List.getElem?_map, f1]; rfl, f1⟩
    have notO : ∀ i, r' ≠ .o i := by
      intro i z
      subst z
      cases r with
      | d d => cases e1
      | w d => cases e1
      | n c => cases e1
      | o j => simp only [retR] at e1; split at e1 <;> cases e1
    have hr : RepR K F B' H' (vs.map some) (ss'.map some) v r' := by
      have apn : ∀ {f : Addr → Prop}, (∀ (j : Nat) (c' : Cont) (a p : Addr), δ'[j]? = some (some (.o true c')) → σ'[j]? = some (some (.ref a)) → Foot H' a c' p → ¬ f p) → Off H' (vs.map some) (ss'.map some) f := by
        intro f hn i b c' a p e5 e6 fp
        rw [List.getElem?_map] at e5 e6
        obtain ⟨z1, e5, z⟩ := Option.map_eq_some_iff.mp e5; cases z
        obtain ⟨v1, e6, z⟩ := Option.map_eq_some_iff.mp e6; cases z
        cases own e5
        obtain ⟨a1, f1, f2, f3, _⟩ := lent e5
        rw [e6] at f1; cases f1
        exact hn i c' a p f2 f3 fp
      cases r with
      | d d => cases e1; exact q3
      | w d => cases e1; exact q3
      | n c =>
        cases e1
        obtain ⟨a, ea, hBF, qc, hn⟩ := q3
        exact ⟨a, ea, hBF, qc, apn fun j c' a p e5 e6 f => hn j true c' a p e5 e6 f⟩
      | o i =>
        have q3 : σ'[i]? = some (some v) := q3
        simp only [retR] at e1
        split at e1
        · rename_i d hd
          cases e1
          obtain ⟨v', e5, q5⟩ := h3.ok i _ hd
          rw [q3] at e5; cases e5
          exact q5
        · rename_i d hd
          cases e1
          obtain ⟨v', e5, q5⟩ := h3.ok i _ hd
          rw [q3] at e5; cases e5
          exact q5
        · rename_i c hd
          cases e1
          obtain ⟨v', e5, a, ea, hBF, qc⟩ := h3.ok i _ hd
          rw [q3] at e5; cases e5
          subst ea
          refine ⟨a, rfl, hBF, qc, apn fun j c' a' p e5 e6 f f' => ?_⟩
          have := h3.apart j i a' a p true c' false c e5 hd e6 q3 f f'
          subst this
          rw [hd] at e5; cases e5
        · cases e1
    exact k B' H' v r' ss' s1 h4 hr notO w3
  have h0 : Rep K F B H vs (start N vs) (ss.map some ++ List.replicate (N.length - np) none) := by
    have hlen : (ss.map some ++ List.replicate (N.length - np) (none : Option Sl)).length = (start N vs).length := by
      unfold L2.start
      rw [List.length_append, List.length_append, List.length_map, List.length_map, List.length_replicate, List.length_replicate]
      omega
    have low : ∀ {j : Nat} {s : Sl}, (ss.map some ++ List.replicate (N.length - np) (none : Option Sl))[j]? = some (some s) → (ss.map some)[j]? = some (some s) ∧ (start N vs)[j]? = (vs.map some)[j]? := by
      intro j s e
      by_cases hj : j < ss.length
      · rw [List.getElem?_append_left (by rw [List.length_map]; exact hj)] at e
        refine ⟨e, ?_⟩
        unfold L2.start
        rw [List.getElem?_append_left (by rw [List.length_map]; omega)]
      · rw [List.getElem?_append_right (by rw [List.length_map]; omega), List.getElem?_replicate] at e
        split at e <;> cases e
    refine ⟨h1.sb, h1.sf, h1.dj, hlen.symm, fun j s' e => ?_, fun j m a1 a2 p b c b' c' e3 e4 e5 e6 p1 p2 => ?_, fun j c e => ?_, h1.nt⟩
    · obtain ⟨e1, e2⟩ := low e
      rw [e2]; exact h1.ok j s' e1
    · obtain ⟨f1, f2⟩ := low e3
      obtain ⟨g1, g2⟩ := low e4
      rw [f2] at e5; rw [g2] at e6
      exact h1.apart j m a1 a2 p b c b' c' f1 g1 e5 e6 p1 p2
    · obtain ⟨e1, e2⟩ := low e
      rw [e2]; exact h1.bor j c e1
  refine s.run F B H vs _ _ _ _ hx h0 ⟨fun B' σ' H' δ' s1 h3 w3 => ?_, fun B' σ' H' δ' v r s1 h3 q3 w3 => fin s1 h3 q3 w3, fun _ _ _ _ _ _ w => False.elim w, fun _ _ _ _ _ _ w => False.elim w⟩ h2
  exact fin (v := .non) (r := .d .none) s1 h3 DD.non w3
/-- a def that lets nothing out -/
theorem fn_dl {g : Gx} {x qual : Str} {st : Stmt} {f : Addr} {fd : FuncData} {N ps : List Str} {k : Nat} {w : WS} (Fn : Fun g.K x qual st f fd) (Sc : FnScope N ps (defScope st)) (hb : ∀ E, DSs ⟨g, CX0, N, defScope st, k, E, true, false⟩ (defBody st) w) (hp : ps.length ≤ N.length) :
    FnG g CX0 (k + 1) f fd ps (spOf g.K ps.length (fnW ps.length N.length w)) := by
  obtain ⟨oc, od, kV, doc, pm, an, cdv, ct, osl, rfl, lk, hcd⟩ := Fn.ex
  refine ⟨fun vs H Q E h => h.1, fun A outer sh H args us vs Q E hgd hr e0 hbd rv hsp => ?_⟩
  have KX : g.K.In sh.heap := e0.mod.kin.keeps fun b o e => (e0.bs b o e).1
  have cell_or : ∀ y ∈ ps.zip us, (defScope st).names.lookup y.1 = some .local ∨ ((defScope st).names.lookup y.1 = some .cell ∧ ((cellsFrom (sh.heap.objs.size + 1) (defScope st).names []).lookup y.1).isSome = true) := by
    rintro ⟨nm, v⟩ hy
    have hz := Sc.par nm (List.of_mem_zip hy).1
    exact hz.imp id fun q => ⟨q, PySem.W.cellsFrom_some _ _ _ (.inl q)⟩
  refine codeAny_call_function hr.depth (KX _ _ lk) rfl Sc.co Sc.gen rfl (PySem.W.codeRec_of KX hcd) (hbd _ _ _ _ ?_)
  refine wpAny_newFunctionEnv_cells Sc.kind cell_or fun env he sh1 inC => ?_
  subst he
  refine ⟨(e0.mod.nolimit.keeps fun b o e => (e0.bs b o e).1).keeps inC.toInCall.keep, codeAny_func ?_⟩
  let X := cxOf CX0 g.P g.w g.K g.mg g.base N qual (defScope st) f cdv A outer sh H E
  have I : Inv X [] (L2.start N vs) H sh1 := inv_start Sc hr.hd e0 hsp.1 rv inC
  obtain ⟨t, p, sm⟩ := hb E
  let Y := X.nox
  let c : Cl := ⟨Y.A, Y.N, Y.s_0, Y.H_0, Y.env, Y.outer, Y.stack, Y.ex, Y.fn, Y.calm, Y.pn, Y.xe⟩
  have hc : Sg.ok ⟨g, CX0, N, defScope st, k, E, true, false⟩ c := ⟨rfl, Sc.nd, rfl, rfl, hr.deeper _, fun _ _ _ _ _ _ _ h => h.elim, PassesOwn.never, fun _ _ => rfl, hgd, (fun z => nomatch z), fun _ => ⟨rfl, rfl⟩⟩
  refine wpAny_mono (((p c hc : PSs Y (defBody st) t).nox).run [] sh1 _ H _ I (body_run hp sm hsp)) (fun fl sh' hs => ?_) fun e sh' hs => hs
  have ends : ∀ {σ' : L2.St} {H' : Hp} {v : V} {u : Value}, Inv X [] σ' H' sh' → RelV v u → Q v H' → CE outer g.P g.w H sh Q u sh' := fun J r q => ⟨_, _, J.os, J.bare, J.base, J.hok, r, q⟩
  cases fl with
  | ret u => obtain ⟨v, σ', H', J, r, q⟩ := hs; exact ends J r q
  | next => obtain ⟨σ', H', J, q⟩ := hs; exact ends (v := .non) (u := Value.none) J rfl q
  | brk => obtain ⟨_, _, _, q⟩ := hs; exact q.elim
  | cont => obtain ⟨_, _, _, q⟩ := hs; exact q.elim
/-- a weaker word -/
theorem spOf_imp {g : Gx} {CX : CXT} {k np : Nat} {f : Addr} {fd : FuncData} {ps : List Str} {W W' : FSpec} (Fk : FnG g CX k f fd ps (spOf g.K np W)) (h : ∀ ss Ex P, W' ss Ex P → W ss Ex P) : FnG g CX k f fd ps (spOf g.K np W') :=
  Fk.imp fun vs H Q E ⟨h1, F, B, ss, Ex, P, h2, h3, h4, h5⟩ => ⟨h1, F, B, ss, Ex, P, h2, h3, h _ _ _ h4, h5⟩
end DL
set_option Elab.async false
set_option linter.all false
set_option maxRecDepth 100000
set_option maxHeartbeats 4000000
set_option autoImplicit false
namespace DL
open PySem PySem.Spec PyProof.Rows L2
abbrev WI := XP → SEnv → (List PyData → SEnv → Prop) → Prop
/-- the turns yield these things -/
structure ItOk (B : Hp) (J : It) (ds : List PyData) : Prop where
  stop : ∀ (i : Nat) (H : Hp), Same B H → ds.length ≤ i → J.stop i H
  go : ∀ (i : Nat) (H : Hp), Same B H → i < ds.length → J.go i H
  yld : ∀ (i : Nat) (H B2 : Hp) (x : V) (H' : Hp) (d : PyData), Same B B2 → Same B2 H → J.yld i H x H' → ds[i]? = some d → ∃ B3, Same B2 B3 ∧ (∀ (K : PySem.W.Frag) (F : Hp) (vs : List V) (σ : L2.St) (δ : SEnv), Rep K F B2 H vs σ δ → Rep K F B3 H' vs σ δ) ∧ DD B3 x d
theorem ItOk.up {B B' : Hp} {J : It} {ds : List PyData} (h : ItOk B J ds) (s : Same B B') : ItOk B' J ds :=
  ⟨fun i H s1 => h.stop i H (s.trans s1), fun i H s1 => h.go i H (s.trans s1), fun i H B2 x H' d s1 s2 y e => h.yld i H B2 x H' d (s.trans s1) s2 y e⟩
theorem yl_same {B B2 H H' : Hp} {x : V} {d : PyData} (e : H' = H) (q : DD B x d) (s : Same B B2) : ∃ B3, Same B2 B3 ∧ (∀ (K : PySem.W.Frag) (F : Hp) (vs : List V) (σ : L2.St) (δ : SEnv), Rep K F B2 H vs σ δ → Rep K F B3 H' vs σ δ) ∧ DD B3 x d :=
  ⟨B2, Same.refl _, fun _ _ _ _ _ h => by subst e; exact h, q.mono s⟩
theorem yl_tup {B B2 H H' : Hp} {x : V} {p : Addr} {o : Obj} {xs : List V} {dd : List PyData} (s : Same B B2) (s2 : Same B2 H) (ex : x = .ref p) (hp : H p = none) (e : H' = upd H p (.frz o (.tup xs))) (ec : o.cls = .type "tuple") (ed : o.dict = none) (q : DDs B xs dd) : ∃ B3, Same B2 B3 ∧ (∀ (K : PySem.W.Frag) (F : Hp) (vs : List V) (σ : L2.St) (δ : SEnv), Rep K F B2 H vs σ δ → Rep K F B3 H' vs σ δ) ∧ DD B3 x (.tuple dd) := by
  subst ex e
  exact ⟨_, same_new (nof s2 hp) _, fun _ _ _ _ _ h => h.new hp _, DD.tup ⟨o, upd_same, ec, ed⟩ (q.mono (s.trans (same_new (nof s2 hp) _)))⟩
structure ISim (K : PySem.W.Frag) (E : XK) (wi : TI) (W : WI) : Prop where
  mono : ∀ (Ex Ex' : XP) (δ : SEnv) (P P' : List PyData → SEnv → Prop), (∀ e, Ex e → Ex' e) → (∀ r δ', P r δ' → P' r δ') → W Ex δ P → W Ex' δ P'
  run : ∀ (Ex : XP) (F B H : Hp) (vs : List V) (σ : L2.St) (δ : SEnv) (P : List PyData → SEnv → Prop) (R' : It → Hp → Prop), XOk F B E Ex → Rep K F B H vs σ δ → W Ex δ P →
    (∀ B' H' J ds δ', Same B B' → Rep K F B' H' vs σ δ' → ItOk B' J ds → P ds δ' → R' J H') → wi σ H R'
def DI (S : Sg) (tg iter : Expr) (W : WI) : Prop := ∃ t, (∀ c, S.ok c → PI (S.g.cx c) tg iter t) ∧ ISim S.g.K S.E t W
def signs (x : Str) : List PyData := x.cps.toList.map fun c => .str ⟨#[c]⟩
def itemsOf : PyData → Option (List PyData)
  | .list ds => some ds
  | .tuple ds => some ds
  | .str x => some (signs x)
  | _ => none
def walked (δ : SEnv) : R → Option (List PyData × SEnv)
  | .n (.pt ds) => some (ds, δ)
  | .o i => match plainAt δ i with
    | some ds => some (ds, δ)
    | none => (frz δ (.o i)).bind fun p => (itemsOf p.1).map fun ds => (ds, p.2)
  | .w d => (itemsOf d).bind fun ds => if ds.all scalar then some (ds, δ) else none
  | r => (frz δ r).bind fun p => (itemsOf p.1).map fun ds => (ds, p.2)
def iSeq (K : PySem.W.Frag) (te : TE) : TI := fun σ H R => te σ H fun x H1 => (∃ a xs, x = .ref a ∧ SqL K H1 a xs ∧ R (Itl K a) H1) ∨ (∃ a xs, x = .ref a ∧ SqT K H1 a xs ∧ R (Itt K a) H1) ∨ ∃ y, x = .str y ∧ R (Its y) H1
theorem pi_seq {X : Cx} {tg l : Expr} {tl : TE} (hl : PE X l tl) : PI X tg l (iSeq X.K tl) := by
  refine ⟨fun pins s σ H R I h => ?_⟩
  refine thn (hl.run pins s σ H _ I h) fun v s1 ⟨x, H1, I1, r1, q1⟩ => ?_
  rcases q1 with ⟨a, xs, e, hq, q⟩ | ⟨a, xs, e, hq, q⟩ | ⟨y, e, q⟩
  · subst e
    cases r1
    obtain ⟨its, rv, p, hz⟩ := I1.list hq
    refine wpAny_pyIter_list p.isList ?_
    refine ⟨s1.heap.objs.size, [s1.heap.objs.size], _, _, H1, rfl, I1.kept (t' := s1.toks) fun b o e => Heap.get?_push_of_some _ e, turn_list a _, ⟨_, Heap.get?_push_size _ rfl, rfl, rfl⟩, fun b hb => ?_, q⟩
    have e : b = s1.heap.objs.size := by simpa using hb
    subst e
    exact I1.fpOk (Nat.le_refl _) (I1.hok.fresh (Nat.le_refl _))
  · subst e
    cases r1
    obtain ⟨its, rv, p, hz⟩ := I1.tuple hq
    refine wpAny_pyIter_tuple (show s1.heap.IsTuple a its.toArray from p) ?_
    refine ⟨s1.heap.objs.size, [s1.heap.objs.size], _, _, H1, rfl, I1.kept (t' := s1.toks) fun b o e => Heap.get?_push_of_some _ e, turn_tuple a _, ⟨_, Heap.get?_push_size _ rfl, rfl, rfl⟩, fun b hb => ?_, q⟩
    have e : b = s1.heap.objs.size := by simpa using hb
    subst e
    exact I1.fpOk (Nat.le_refl _) (I1.hok.fresh (Nat.le_refl _))
  · subst e
    obtain ⟨t, rfl⟩ := r1
    cases ha : y.cps.all (· < 128)
    · exact wpAny_pyIter_wide ha (pi_one (tk := s1.toks) I1 _ (turn_str _ y t "str_iterator" (.inr rfl)) ⟨_, Heap.get?_push_size _ rfl, rfl, rfl⟩ q)
    · exact wpAny_pyIter_ascii ha (pi_one (tk := s1.toks) I1 _ (turn_str _ y t "str_ascii_iterator" (.inl rfl)) ⟨_, Heap.get?_push_size _ rfl, rfl, rfl⟩ q)
section
variable {K : PySem.W.Frag} {F B H : Hp}
theorem dp_items {vs : List V} {ds : List PyData} : DpAll K (fun _ => none) vs ds → ds.all scalar = true → ∀ B, DDs B vs ds
  | .nil, _, _ => .nil
  | .cons q r, h, B => by
    rw [List.all_cons, Bool.and_eq_true] at h
    exact .cons (DW.scal q h.1) (dp_items r h.2 B)
theorem it_list {a : Addr} {xs : List V} {ds : List PyData} (h : ∀ H, Same B H → SqL K H a xs) (q : DDs B xs ds) (inj : ∀ H, Same B H → ∀ ys, SqL K H a ys → True) : ItOk B (Itl K a) ds :=
  ⟨fun i H s hi => ⟨xs, h H s, by rw [q.length]; exact hi⟩, fun i H s hi => by
    have hx : i < xs.length := by rw [q.length]; exact hi
    exact ⟨xs, xs[i], h H s, by simp [hx]⟩, fun i H B2 x H' d s s2 y e => by
    obtain ⟨e1, y⟩ := y
    obtain ⟨v, e2, q2⟩ := q.get e
    have := y xs (h H (s.trans s2))
    rw [e2] at this; cases this
    exact yl_same e1 q2 s⟩
theorem it_tup {a : Addr} {xs : List V} {ds : List PyData} (h : ∀ H, Same B H → SqT K H a xs) (q : DDs B xs ds) : ItOk B (Itt K a) ds :=
  ⟨fun i H s hi => ⟨xs, h H s, by rw [q.length]; exact hi⟩, fun i H s hi => by
    have hx : i < xs.length := by rw [q.length]; exact hi
    exact ⟨xs, xs[i], h H s, by simp [hx]⟩, fun i H B2 x H' d s s2 y e => by
    obtain ⟨e1, y⟩ := y
    obtain ⟨v, e2, q2⟩ := q.get e
    have := y xs (h H (s.trans s2))
    rw [e2] at this; cases this
    exact yl_same e1 q2 s⟩
theorem it_str {y : Str} : ItOk B (Its y) (signs y) :=
  ⟨fun i H s hi => (by simpa [signs] using hi : y.cps.size ≤ i), fun i H s hi => (by simpa [signs] using hi : i < y.cps.size), fun i H B2 x H' d s s2 z e => by
    obtain ⟨e1, c, e2, e3⟩ := z
    refine yl_same e1 ?_ s
    subst e3
    unfold signs at e
    rw [List.getElem?_map, Array.getElem?_toList, e2] at e
    cases e
    exact .str _⟩
theorem it_range {lo : Int} {n : Nat} : ItOk B (Itr lo n) ((List.range n).map fun (i : Nat) => .int (lo + (i : Int))) :=
  ⟨fun i H s hi => (by simpa using hi : n ≤ i), fun i H s hi => (by simpa using hi : i < n), fun i H B2 x H' d s s2 z e => by
    obtain ⟨e1, e2⟩ := z
    refine yl_same e1 ?_ s
    subst e2
    rw [List.getElem?_map] at e
    obtain ⟨j, e3, e4⟩ := Option.map_eq_some_iff.mp e
    obtain ⟨_, e5⟩ := List.getElem?_eq_some_iff.mp e3
    rw [List.getElem_range] at e5
    subst e5; subst e4
    exact .int _⟩
end
def wIt (wa : WE) : WI := fun Ex δ P => wa Ex δ fun r δ1 => ob (walked δ1 r) fun p => P p.1 p.2
def wRng (wr : WA) (f : List Vw → Option (Int × Int)) : WI := fun Ex δ P => wr Ex δ fun rs δ1 => ob (views δ1 rs) fun as => ob (f as) fun p =>
  (-(2 ^ 62) ≤ p.1 ∧ p.1 < 2 ^ 62 ∧ -(2 ^ 62) ≤ p.2 ∧ p.2 < 2 ^ 62) ∧ P ((List.range (p.2 - p.1).toNat).map fun (i : Nat) => .int (p.1 + (i : Int))) δ1
def rng1 : List Vw → Option (Int × Int)
  | [.d (.int j)] => some (0, j)
  | _ => none
def rng2 : List Vw → Option (Int × Int)
  | [.d (.int i), .d (.int j)] => some (i, j)
  | _ => none
theorem ov_int {K : PySem.W.Frag} {B H : Hp} {v : V} {i : Int} (h : OV K B H v (.d (.int i))) : v = .int i := by
  rcases h with h | ⟨_, _, _, _, e, _⟩
  · cases h; rfl
  · cases e
section
variable {S : Sg}
theorem di_seq {tg e : Expr} {wa : WE} (h : DE S e wa) : DI S tg e (wIt wa) := by
  obtain ⟨t, p, s⟩ := h
  refine ⟨iSeq S.g.K t, fun c hc => pi_seq (X := S.g.cx c) (p c hc), ⟨fun Ex Ex' δ P P' hx h w => s.mono _ _ _ _ _ hx (fun r δ1 w => w.imp fun z w => h _ _ w) w, fun Ex F B H vs σ δ P R' hx h w k => ?_⟩⟩
  refine s.run _ _ _ _ _ _ _ _ _ hx h w fun B1 H1 v r δ1 s1 h1 q1 w1 => ?_
  obtain ⟨⟨ds, δ2⟩, e, w1⟩ := w1
  have frzn : (∃ p, frz δ1 r = some p ∧ itemsOf p.1 = some ds ∧ p.2 = δ2) → ((∃ a xs, v = .ref a ∧ SqL S.g.K H1 a xs ∧ R' (Itl S.g.K a) H1) ∨ (∃ a xs, v = .ref a ∧ SqT S.g.K H1 a xs ∧ R' (Itt S.g.K a) H1) ∨ ∃ y, v = .str y ∧ R' (Its y) H1) := by
    rintro ⟨⟨d, δ'⟩, e1, e2, e3⟩
    subst e3
    obtain ⟨B2, s2, h2, d2⟩ := frz_ok h1 q1 e1
    cases d2 with
    | non => cases e2
    | bl b => cases e2
    | int i => cases e2
    | str x =>
      cases e2
      exact .inr (.inr ⟨x, rfl, k B2 H1 _ _ _ (s1.trans s2) h2 it_str w1⟩)
    | lst r3 q3 =>
      cases e2
      have f : ∀ H, Same B2 H → SqL S.g.K H _ _ := fun H s => .inl (same_rd s r3)
      exact .inl ⟨_, _, rfl, f H1 h2.sb, k B2 H1 _ _ _ (s1.trans s2) h2 (it_list f q3 fun _ _ _ _ => trivial) w1⟩
    | tup r3 q3 =>
      cases e2
      have f : ∀ H, Same B2 H → SqT S.g.K H _ _ := fun H s => .inl (r3.mono s).rd
      exact .inr (.inl ⟨_, _, rfl, f H1 h2.sb, k B2 H1 _ _ _ (s1.trans s2) h2 (it_tup f q3) w1⟩)
  have plain : InP B1 v ds → P ds δ1 → ((∃ a xs, v = .ref a ∧ SqL S.g.K H1 a xs ∧ R' (Itl S.g.K a) H1) ∨ (∃ a xs, v = .ref a ∧ SqT S.g.K H1 a xs ∧ R' (Itt S.g.K a) H1) ∨ ∃ y, v = .str y ∧ R' (Its y) H1) := by
    rintro ⟨a, o, xs, rfl, r3, _, _, q3⟩ w1
    have f : ∀ H, Same B1 H → SqT S.g.K H a xs := fun H s => .inl (.inr ⟨o, s _ _ r3⟩)
    exact .inr (.inl ⟨_, _, rfl, f H1 h1.sb, k B1 H1 _ _ _ s1 h1 (it_tup f q3) w1⟩)
  cases r with
  | w d =>
    simp only [walked] at e
    obtain ⟨ds', e1, e⟩ := Option.bind_eq_some_iff.mp e
    split at e
    · rename_i hs
      cases e
      have q1 : Dp S.g.K (fun _ => none) v d := q1
      cases q1 with
      | non => cases e1
      | bl b => cases e1
      | int i => cases e1
      | str x => cases e1; exact .inr (.inr ⟨x, rfl, k B1 H1 _ _ _ s1 h1 it_str w1⟩)
      | lst r3 q3 =>
        cases e1
        have f : ∀ H, Same B1 H → SqL S.g.K H _ _ := fun H s => L2.Same.seq (fun _ _ z => by cases z) r3
        exact .inl ⟨_, _, rfl, f H1 h1.sb, k B1 H1 _ _ _ s1 h1 (it_list f (dp_items q3 hs B1) fun _ _ _ _ => trivial) w1⟩
      | tup r3 q3 =>
        cases e1
        have f : ∀ H, Same B1 H → SqT S.g.K H _ _ := fun H s => by
          rcases r3 with r3 | r3
          · exact .inl (same_rd (B := fun _ => none) (fun _ _ z => by cases z) r3)
          · exact .inr r3
        exact .inr (.inl ⟨_, _, rfl, f H1 h1.sb, k B1 H1 _ _ _ s1 h1 (it_tup f (dp_items q3 hs B1)) w1⟩)
    · cases e
  | d d =>
    simp only [walked] at e
    obtain ⟨p, e1, e⟩ := Option.bind_eq_some_iff.mp e
    obtain ⟨ds', e2, e⟩ := Option.map_eq_some_iff.mp e
    cases e
    exact frzn ⟨p, e1, e2, rfl⟩
  | o i =>
    simp only [walked] at e
    split at e
    · rename_i ds' hp
      cases e
      exact plain (plain_ok h1 q1 hp) w1
    · obtain ⟨p, e1, e⟩ := Option.bind_eq_some_iff.mp e
      obtain ⟨ds', e2, e⟩ := Option.map_eq_some_iff.mp e
      cases e
      exact frzn ⟨p, e1, e2, rfl⟩
  | n c =>
    have gen : ((frz δ1 (.n c)).bind fun p => (itemsOf p.1).map fun ds => (ds, p.2)) = some (ds, δ2) → ((∃ a xs, v = .ref a ∧ SqL S.g.K H1 a xs ∧ R' (Itl S.g.K a) H1) ∨ (∃ a xs, v = .ref a ∧ SqT S.g.K H1 a xs ∧ R' (Itt S.g.K a) H1) ∨ ∃ y, v = .str y ∧ R' (Its y) H1) := fun e => by
      obtain ⟨p, e1, e⟩ := Option.bind_eq_some_iff.mp e
      obtain ⟨ds', e2, e⟩ := Option.map_eq_some_iff.mp e
      cases e
      exact frzn ⟨p, e1, e2, rfl⟩
    cases c with
    | pt xs =>
      cases e
      obtain ⟨a, rfl, _, ⟨o, ys, e1, e2, e3, q⟩, _⟩ := q1
      exact plain ⟨a, o, ys, rfl, e1, e2, e3, q⟩ w1
    | _ => exact gen e
theorem di_rng1 {tg a : Expr} {wr : WA} {p pos : Pos} (hg : GlS S.sc "range") (hm : S.g.mg "range" = none) (ha : DA S [a] wr) (hs : ∀ env, starEach [a] env = [(false, eval a env)] := by intro _; rfl) : DI S tg (.Call (.Name "range" p) [a] [] pos) (wRng wr rng1) := by
  obtain ⟨t, pa, s⟩ := ha
  refine ⟨_, fun c hc => pi_range1 (gl_of hc hg) hm (pa c hc) (hs _), ⟨fun Ex Ex' δ P P' hx h w => s.mono _ _ _ _ _ hx (fun r δ1 w => w.imp fun as w => w.imp fun p w => ⟨w.1, h _ _ w.2⟩) w, fun Ex F B H vs σ δ P R' hx h w k => ?_⟩⟩
  refine s.run _ _ _ _ _ _ _ _ _ hx h w fun B1 H1 ws rs δ1 s1 h1 q1 w1 => ?_
  obtain ⟨as, e1, ⟨lo, hi⟩, e2, hb, w1⟩ := w1
  have ov := views_ok h1 q1 e1
  unfold rng1 at e2
  split at e2
  · cases e2
    cases ov with
    | cons o1 o2 =>
      cases o2
      have := ov_int o1
      subst this
      refine ⟨hi, rfl, hb.2.2.1, hb.2.2.2, k B1 H1 _ _ δ1 s1 h1 it_range (by simpa using w1)⟩
  · cases e2
theorem di_rng2 {tg a b : Expr} {wr : WA} {p pos : Pos} (hg : GlS S.sc "range") (hm : S.g.mg "range" = none) (ha : DA S [a, b] wr) (hs : ∀ env, starEach [a, b] env = [(false, eval a env), (false, eval b env)] := by intro _; rfl) (hs2 : ∀ env, starEach [b] env = [(false, eval b env)] := by intro _; rfl) : DI S tg (.Call (.Name "range" p) [a, b] [] pos) (wRng wr rng2) := by
  obtain ⟨t, pa, s⟩ := ha
  refine ⟨_, fun c hc => pi_range2 (gl_of hc hg) hm (pa c hc) (hs _) (hs2 _), ⟨fun Ex Ex' δ P P' hx h w => s.mono _ _ _ _ _ hx (fun r δ1 w => w.imp fun as w => w.imp fun p w => ⟨w.1, h _ _ w.2⟩) w, fun Ex F B H vs σ δ P R' hx h w k => ?_⟩⟩
  refine s.run _ _ _ _ _ _ _ _ _ hx h w fun B1 H1 ws rs δ1 s1 h1 q1 w1 => ?_
  obtain ⟨as, e1, ⟨lo, hi⟩, e2, hb, w1⟩ := w1
  have ov := views_ok h1 q1 e1
  unfold rng2 at e2
  split at e2
  · cases e2
    cases ov with
    | cons o1 o2 =>
      cases o2 with
      | cons o2 o3 =>
        cases o3
        have z1 := ov_int o1
        have z2 := ov_int o2
        subst z1 z2
        exact ⟨lo, hi, rfl, hb, k B1 H1 _ _ δ1 s1 h1 it_range w1⟩
  · cases e2
end
theorem wipe_at {σ : L2.St} {j : Nat} : ∀ (js : List Nat), (wipe σ js)[j]? = if j ∈ js then (σ[j]?).map (fun _ => none) else σ[j]?
  | [] => by simp [wipe]
  | k :: js => by
    show ((wipe σ js).set k none)[j]? = _
    rw [List.getElem?_set]
    by_cases hk : k = j
    · subst hk
      rw [if_pos rfl, if_pos List.mem_cons_self, wipe_length]
      by_cases hl : k < σ.length
      · rw [if_pos hl, List.getElem?_eq_getElem hl]; rfl
      · rw [if_neg hl, List.getElem?_eq_none (by omega)]; rfl
    · rw [if_neg hk, wipe_at js]
      by_cases hj : j ∈ js
      · rw [if_pos hj, if_pos (List.mem_cons_of_mem _ hj)]
      · rw [if_neg hj, if_neg (by intro z; rcases List.mem_cons.mp z with z | z; exact hk z.symm; exact hj z)]
theorem wipe_wipe (σ : L2.St) (js : List Nat) : wipe (wipe σ js) js = wipe σ js := by
  refine List.ext_getElem? fun j => ?_
  rw [wipe_at, wipe_at]
  split
  · cases σ[j]? <;> rfl
  · rfl
theorem wipe_set {σ : L2.St} {i : Nat} {v : Option V} {js : List Nat} (h : i ∈ js) : wipe (σ.set i v) js = wipe σ js := by
  refine List.ext_getElem? fun j => ?_
  rw [wipe_at, wipe_at, List.getElem?_set]
  by_cases hj : j ∈ js
  · rw [if_pos hj, if_pos hj]
    by_cases hi : i = j
    · subst hi
      rw [if_pos rfl]
      by_cases hl : i < σ.length
      · rw [if_pos hl, List.getElem?_eq_getElem hl]; rfl
      · rw [if_neg hl, List.getElem?_eq_none (by omega)]
    · rw [if_neg hi]
  · rw [if_neg hj, if_neg hj, if_neg (fun z : i = j => hj (by rw [← z]; exact h))]
/-- σ' is σ but for the slots ts -/
def ButFor (ts : List Nat) (σ σ' : L2.St) : Prop := σ'.length = σ.length ∧ ∀ js : List Nat, (∀ i ∈ ts, i ∈ js) → wipe σ' js = wipe σ js
abbrev WG := PyData → SEnv → Option SEnv
structure GSim (K : PySem.W.Frag) (g : TG) (G : WG) (ts : List Nat) : Prop where
  run : ∀ (F B H : Hp) (vs : List V) (σ : L2.St) (δ δ' : SEnv) (v : V) (d : PyData) (Q : L2.St → Hp → Prop), Rep K F B H vs σ δ → DD B v d → G d δ = some δ' → (∀ σ', Rep K F B H vs σ' δ' → ButFor ts σ σ' → Q σ' H) → g v σ H Q
def DG (S : Sg) (tg : Expr) (G : WG) (ts : List Nat) : Prop := ∃ t, (∀ c, S.ok c → PG (S.g.cx c) tg t) ∧ GSim S.g.K t G ts
abbrev WGs := List PyData → SEnv → Option SEnv
structure GsSim (K : PySem.W.Frag) (g : TGs) (G : WGs) (ts : List Nat) : Prop where
  run : ∀ (F B H : Hp) (vs : List V) (σ : L2.St) (δ δ' : SEnv) (ws : List V) (ds : List PyData) (Q : L2.St → Hp → Prop), Rep K F B H vs σ δ → DDs B ws ds → G ds δ = some δ' → (∀ σ', Rep K F B H vs σ' δ' → ButFor ts σ σ' → Q σ' H) → g ws σ H Q
def DGs (S : Sg) (tgs : List Expr) (G : WGs) (ts : List Nat) : Prop := ∃ t, (∀ c, S.ok c → PGs (S.g.cx c) tgs t) ∧ GsSim S.g.K t G ts
def gN (i : Nat) : WG := fun d δ => some (δ.set i (some (.d d)))
def gsN : WGs := fun ds δ => match ds with
  | [] => some δ
  | _ => none
def gsC (G : WG) (Gs : WGs) : WGs := fun ds δ => match ds with
  | d :: ds => (G d δ).bind (Gs ds)
  | _ => none
def gT (n : Nat) (Gs : WGs) : WG := fun d δ => match d with
  | .tuple ds => if ds.length = n then Gs ds δ else none
  | _ => none
section
variable {S : Sg}
theorem dg_name {i : Nat} {x : Str} {pos : Pos} (hi : S.N[i]? = some x) (hx : Loc S.sc x) (ht : S.top = true ∨ S.sc.names.lookup x = some .local := by first | exact .inl rfl | exact .inr rfl) : DG S (.Name x pos) (gN i) [i] := by
  refine ⟨gName i, fun c hc => pg_name (X := S.g.cx c) (by show c.N.Nodup; rw [hc.hN]; exact hc.nd) (by show c.N[i]? = _; rw [hc.hN]; exact hi) (by show Loc c.env.scope x; rw [hc.hs]; exact hx) (fn_ok hc ht), ⟨fun F B H vs σ δ δ' v d Q h q e k => ?_⟩⟩
  cases e
  exact k _ (h.store i v (.d d) q (fun _ z => nomatch z) (fun a _ c z => nomatch z)) ⟨List.length_set, fun js hj => wipe_set (hj i List.mem_cons_self)⟩
theorem dgs_nil : DGs S [] gsN [] := ⟨gNil, fun _ _ => pgs_nil, ⟨fun F B H vs σ δ δ' ws ds Q h q e k => by
  cases q with
  | nil => cases e; exact ⟨rfl, k σ h ⟨rfl, fun _ _ => rfl⟩⟩
  | cons _ _ => cases e⟩⟩
theorem dgs_cons {e : Expr} {es : List Expr} {G : WG} {Gs : WGs} {ts us : List Nat} (h1 : DG S e G ts) (h2 : DGs S es Gs us) (hs : ∀ env, (assignEach (e :: es) env).map (·.2) = assign e env :: (assignEach es env).map (·.2) := by intro _; rfl) : DGs S (e :: es) (gsC G Gs) (ts ++ us) := by
  obtain ⟨t, p, s⟩ := h1
  obtain ⟨t2, p2, s2⟩ := h2
  refine ⟨_, fun c hc => pgs_cons (p c hc) (p2 c hc) (hs _), ⟨fun F B H vs σ δ δ' ws ds Q h q e k => ?_⟩⟩
  cases q with
  | nil => cases e
  | cons q1 q2 =>
    obtain ⟨δ1, e1, e⟩ := Option.bind_eq_some_iff.mp e
    refine ⟨_, _, rfl, s.run F B H vs σ δ δ1 _ _ _ h q1 e1 fun σ1 h1 b1 => ?_⟩
    refine s2.run F B H vs σ1 δ1 δ' _ _ _ h1 q2 e fun σ2 h2 b2 => k σ2 h2 ⟨b2.1.trans b1.1, fun js hj => ?_⟩
    rw [b2.2 js fun i hi => hj i (List.mem_append_right _ hi), b1.2 js fun i hi => hj i (List.mem_append_left _ hi)]
theorem dg_tup {es : List Expr} {k n : Nat} {Gs : WGs} {pos : Pos} {ts : List Nat} (h : DGs S es Gs ts) (hn : ∀ env, (assignEach es env).length = n := by intro _; rfl) (hst : ∀ env, (assignEach es env).findIdx? (·.1) = none := by intro _; rfl) : DG S (.Tuple es k pos) (gT n Gs) ts := by
  obtain ⟨t, p, s⟩ := h
  refine ⟨gTup S.g.K n t, fun c hc => pg_tup (X := S.g.cx c) hc.calm (p c hc) (hn _) (hst _), ⟨fun F B H vs σ δ δ' v d Q h q e k => ?_⟩⟩
  cases q with
  | tup r q =>
    simp only [gT] at e
    split at e
    · rename_i hl
      exact ⟨_, _, rfl, .inl (r.mono h.sb).rd, by rw [q.length]; exact hl, s.run F B H vs σ δ δ' _ _ _ h q e k⟩
    · cases e
  | _ => cases e
end
end DL
set_option Elab.async false
set_option linter.all false
set_option maxRecDepth 100000
set_option maxHeartbeats 4000000
set_option autoImplicit false
namespace DL
open PySem PySem.Spec PyProof.Rows L2
def wForR (G : WG) (body : WS) : List PyData → WS
  | [], d, δ => d.nx δ
  | x :: xs, d, δ => ob (G x δ) fun δ1 => body { nx := wForR G body xs d, rt := d.rt, bk := d.nx, ct := wForR G body xs d, ex := d.ex } δ1
def wFor (wi : WI) (G : WG) (body : WS) : WS := fun d δ => wi d.ex δ fun ds δ1 => wForR G body ds d δ1
section
variable {S : Sg}
theorem wForR_mono {G : WG} {body : WS} (hb : ∀ (d d' : DEnds) (δ : SEnv), d.le d' → body d δ → body d' δ) : ∀ (xs : List PyData) (d d' : DEnds) (δ : SEnv), d.le d' → wForR G body xs d δ → wForR G body xs d' δ
  | [], d, d', δ, h, w => h.nx _ w
  | x :: xs, d, d', δ, h, w => w.imp fun δ1 w => hb { nx := wForR G body xs d, rt := d.rt, bk := d.nx, ct := wForR G body xs d, ex := d.ex } { nx := wForR G body xs d', rt := d'.rt, bk := d'.nx, ct := wForR G body xs d', ex := d'.ex } δ1
      ⟨fun δ w => wForR_mono hb xs d d' δ h w, h.rt, h.nx, fun δ w => wForR_mono hb xs d d' δ h w, h.ex⟩ w
theorem ds_for {tg iter : Expr} {body : List Stmt} {wi : WI} {G : WG} {wb : WS} {pos : Pos} {ts : List Nat} (hi : DI S tg iter wi) (hg : DG S tg G ts) (hb : DSs S body wb) (hf : ∀ env x, foldedSetIterable iter env x = pure x := by intro _ _; rfl) : DS S (.For tg iter body [] pos) (wFor wi G wb) := by
  obtain ⟨ti, pi, si⟩ := hi
  obtain ⟨tg', pg, sg⟩ := hg
  obtain ⟨tb, pb, sb⟩ := hb
  refine ⟨tFor ti tg' tb, fun c hc => ps_for hc.po hc.calm (pi c hc) (pg c hc) (pb c hc) (hf _), ⟨fun d d' δ h w => ?_, fun F B H vs σ δ D d hx h k w => ?_⟩⟩
  · exact si.mono _ _ _ _ _ h.ex (fun ds δ1 w => wForR_mono sb.mono ds d d' δ1 h w) w
  · refine si.run _ _ _ _ _ _ _ _ _ hx h w fun B1 H1 J ds δ1 s1 h1 q1 w1 => ?_
    refine ⟨fun i m σ H => m = ds.length - i ∧ i ≤ ds.length ∧ ∃ B' δ', Same B1 B' ∧ Rep S.g.K F B' H vs σ δ' ∧ wForR G wb (ds.drop i) d δ', ⟨ds.length, by simp, Nat.zero_le _, B1, δ1, Same.refl _, h1, w1⟩, ?_⟩
    rintro i m σ2 H2 ⟨rfl, hi, B2, δ2, s2, h2, w2⟩
    by_cases hlt : i < ds.length
    · refine .inr ⟨q1.go i H2 (s2.trans h2.sb) hlt, fun σ' H' => ∃ B' δ', Same B1 B' ∧ Rep S.g.K F B' H' vs σ' δ' ∧ wForR G wb (ds.drop (i + 1)) d δ', fun σ' H' ⟨B', δ', t1, t2, t3⟩ => ⟨ds.length - (i + 1), by omega, rfl, hlt, B', δ', t1, t2, t3⟩, fun x H' y => ?_⟩
      have ed : ds.drop i = ds[i] :: ds.drop (i + 1) := List.drop_eq_getElem_cons hlt
      rw [ed] at w2
      obtain ⟨δ3, e3, w3⟩ := w2
      have fin : ∀ (B3 H3 : Hp) (x : V), Same B2 B3 → Rep S.g.K F B3 H3 vs σ2 δ2 → DD B3 x ds[i] → tg' x σ2 H3 fun σ2' H2' => tb { D with nx := fun σ' H' => ∃ B' δ', Same B1 B' ∧ Rep S.g.K F B' H' vs σ' δ' ∧ wForR G wb (ds.drop (i + 1)) d δ', ct := fun σ' H' => ∃ B' δ', Same B1 B' ∧ Rep S.g.K F B' H' vs σ' δ' ∧ wForR G wb (ds.drop (i + 1)) d δ', bk := D.nx } σ2' H2' := by
        intro B3 H3 x s3 h3 q3
        refine sg.run F B3 H3 vs σ2 δ2 δ3 x _ _ h3 q3 e3 fun σ3 h4 _ => ?_
        have s4 : Same B B3 := s1.trans (s2.trans s3)
        refine sb.run F B3 H3 vs σ3 δ3 _ { nx := wForR G wb (ds.drop (i + 1)) d, rt := d.rt, bk := d.nx, ct := wForR G wb (ds.drop (i + 1)) d, ex := d.ex } (hx.up s4) h4 ⟨fun B' σ' H' δ' t1 t2 t3 => ⟨B', δ', (s2.trans s3).trans t1, t2, t3⟩, (k.up s4).rt, (k.up s4).nx, fun B' σ' H' δ' t1 t2 t3 => ⟨B', δ', (s2.trans s3).trans t1, t2, t3⟩⟩ w3
      obtain ⟨B3', s3', g3', q3'⟩ := q1.yld i H2 B2 x H' ds[i] s2 h2.sb y (by simp [hlt])
      exact fin B3' H' x s3' (g3' _ _ _ _ _ h2) q3'
    · have e : i = ds.length := by omega
      subst e
      rw [List.drop_length] at w2
      exact .inl ⟨q1.stop _ H2 (s2.trans h2.sb) (Nat.le_refl _), k.nx B2 σ2 H2 δ2 (s1.trans s2) h2 w2⟩
end
def forgetAll : SEnv → List Nat → SEnv
  | δ, [] => δ
  | δ, i :: is => (forgetAll δ is).set i none
/-- behind the block: its own names as they were, where they were data -/
def restore (δ0 : SEnv) : SEnv → List Nat → SEnv
  | δ, [] => δ
  | δ, i :: is => match δ0[i]? with
    | some (some (.d d)) => (restore δ0 δ is).set i (some (.d d))
    | _ => (restore δ0 δ is).set i none
abbrev Ex0 : XP := fun _ => False
def wLcR (G : WG) (wt : WT) (we : WE) (own : List Nat) : List PyData → List PyData → SEnv → (List PyData → SEnv → Prop) → Prop
  | [], acc, δ, P => P acc δ
  | x :: xs, acc, δ, P => ob (G x (forgetAll δ own)) fun δ1 => wt Ex0 δ1 fun b δ2 => if b = true then we Ex0 δ2 fun r δ3 => ob (frz δ3 r) fun p => acc.length < sizeLine ∧ wLcR G wt we own xs (acc ++ [p.1]) p.2 P else wLcR G wt we own xs acc δ2 P
def wLc (wi : WI) (G : WG) (wt : WT) (we : WE) (own : List Nat) : WE := fun Ex δ P => wi Ex δ fun ds δ1 => wLcR G wt we own ds [] δ1 fun acc δ2 => P (.n (.l acc)) (restore δ1 (forgetAll δ2 own) own)
def wYes : WT := fun _ δ P => P true δ
section
variable {K : PySem.W.Frag} {F B H : Hp} {vs : List V} {σ : L2.St} {δ : SEnv}
/-- slots may be unknown -/
theorem Rep.dim (h : Rep K F B H vs σ δ) {σ' : L2.St} {δ' : SEnv} (hl : σ'.length = δ'.length) (hs : ∀ (i : Nat) (s : Sl), δ'[i]? = some (some s) → δ[i]? = some (some s) ∧ σ'[i]? = σ[i]?) : Rep K F B H vs σ' δ' := by
  refine ⟨h.sb, h.sf, h.dj, hl, fun i s e => ?_, fun i j a a' p b c b' c' e1 e2 e3 e4 f5 f6 => ?_, fun i c e => ?_, h.nt⟩
  · obtain ⟨e1, e2⟩ := hs i s e
    rw [e2]; exact h.ok i s e1
  · obtain ⟨f1, f2⟩ := hs i _ e1
    obtain ⟨g1, g2⟩ := hs j _ e2
    rw [f2] at e3; rw [g2] at e4
    exact h.apart i j a a' p b c b' c' f1 g1 e3 e4 f5 f6
  · obtain ⟨e1, e2⟩ := hs i _ e
    rw [e2]; exact h.bor i c e1
theorem forgetAll_length (δ : SEnv) : ∀ is : List Nat, (forgetAll δ is).length = δ.length
  | [] => rfl
  | i :: is => by unfold forgetAll; rw [List.length_set, forgetAll_length δ is]
theorem forgetAll_get {δ : SEnv} {j : Nat} {s : Sl} : ∀ {is : List Nat}, (forgetAll δ is)[j]? = some (some s) → δ[j]? = some (some s) ∧ j ∉ is
  | [], e => ⟨e, by simp⟩
  | i :: is, e => by
    rcases set_get e with ⟨_, z⟩ | ⟨n, z⟩
    · cases z
    · obtain ⟨e1, e2⟩ := forgetAll_get (is := is) z
      exact ⟨e1, by intro hm; rcases List.mem_cons.mp hm with hm | hm; exact n hm; exact e2 hm⟩
theorem forgetAll_at {δ : SEnv} {j : Nat} : ∀ (js : List Nat), (forgetAll δ js)[j]? = if j ∈ js then (δ[j]?).map (fun _ => none) else δ[j]?
  | [] => by simp [forgetAll]
  | k :: js => by
    show ((forgetAll δ js).set k none)[j]? = _
    rw [List.getElem?_set]
    by_cases hk : k = j
    · subst hk
      rw [if_pos rfl, if_pos List.mem_cons_self, forgetAll_length]
      by_cases hl : k < δ.length
      · rw [if_pos hl, List.getElem?_eq_getElem hl]; rfl
      · rw [if_neg hl, List.getElem?_eq_none (by omega)]; rfl
    · rw [if_neg hk, forgetAll_at js]
      by_cases hj : j ∈ js
      · rw [if_pos hj, if_pos (List.mem_cons_of_mem _ hj)]
      · rw [if_neg hj, if_neg (by intro z; rcases List.mem_cons.mp z with z | z; exact hk z.symm; exact hj z)]
theorem forgetAll_twice (δ : SEnv) (js : List Nat) : forgetAll (forgetAll δ js) js = forgetAll δ js := by
  refine List.ext_getElem? fun j => ?_
  rw [forgetAll_at, forgetAll_at]
  split
  · cases δ[j]? <;> rfl
  · rfl
theorem wipe_get {j : Nat} : ∀ {is : List Nat}, j ∉ is → (wipe σ is)[j]? = σ[j]?
  | [], _ => rfl
  | i :: is, h => by
    unfold wipe
    rw [List.getElem?_set_ne (fun z => h (by rw [z]; exact List.mem_cons_self))]
    exact wipe_get fun z => h (List.mem_cons_of_mem _ z)
theorem Rep.wiped (h : Rep K F B H vs σ δ) (is : List Nat) : Rep K F B H vs (wipe σ is) (forgetAll δ is) :=
  h.dim (by rw [wipe_length, forgetAll_length]; exact h.len) fun i s e => by
    obtain ⟨e1, e2⟩ := forgetAll_get e
    exact ⟨e1, wipe_get e2⟩
theorem Rep.unwiped {σ2 : L2.St} {is : List Nat} (h : Rep K F B H vs σ2 δ) (hw : wipe σ2 is = wipe σ is) (hl : σ2.length = σ.length) : Rep K F B H vs σ (forgetAll δ is) :=
  h.dim (by rw [forgetAll_length, ← h.len, hl]) fun i s e => by
    obtain ⟨e1, e2⟩ := forgetAll_get e
    refine ⟨e1, ?_⟩
    rw [← wipe_get (σ := σ) e2, ← hw, wipe_get e2]
theorem Rep.restored {B0 : Hp} {H0 : Hp} {δ0 : SEnv} (h0 : Rep K F B0 H0 vs σ δ0) (s : Same B0 B) : ∀ {is : List Nat}, Rep K F B H vs σ δ → Rep K F B H vs σ (restore δ0 δ is)
  | [], h => h
  | i :: is, h => by
    have h' := Rep.restored h0 s (is := is) h
    unfold restore
    split
    · rename_i d e
      obtain ⟨v, e1, q⟩ := h0.ok i _ e
      exact h'.know e1 (DD.mono s q)
    · exact h'.forget i
/-- the list under way belongs to the frame -/
theorem Rep.lay (h : Rep K F B H vs σ δ) {D : Addr} (hD : H D = none) (o : HO) : Rep K (upd F D o) B (upd H D o) vs σ δ := by
  have h1 := h.newO hD o
  refine ⟨h1.sb, fun a u e => ?_, fun a u e => ?_, h1.len, fun i s e => ?_, h1.apart, h1.bor, h1.nt⟩
  · by_cases ha : a = D
    · subst ha; rw [upd_same] at e ⊢; exact e
    · rw [upd_ne ha] at e; exact h1.sf a u e
  · by_cases ha : a = D
    · subst ha; exact nof h.sb hD
    · rw [upd_ne ha] at e; exact h1.dj a u e
  · obtain ⟨v, e1, q⟩ := h1.ok i s e
    refine ⟨v, e1, ?_⟩
    cases s with
    | d d => exact q
    | w d => exact q
    | o b c =>
      obtain ⟨a, e2, e3, q2⟩ := q
      obtain ⟨v', e1', a', e2', _, q2'⟩ := h.ok i _ e
      rw [e1] at e1'; cases e1'
      subst e2; cases e2'
      refine ⟨a, rfl, fun p f => ?_, q2⟩
      have hp : p ≠ D := foot_new (o := o) q2' hD ((foot_upd q2' hD).mp f)
      rw [upd_ne hp]; exact e3 p f
theorem Rep.relay {D : Addr} {o o' : HO} (h : Rep K (upd F D o) B H vs σ δ) : Rep K (upd F D o') B (upd H D o') vs σ δ := by
  have hB : B D = none := h.dj D o upd_same
  have nd : ∀ {i : Nat} {b : Bool} {c : Cont} {a p : Addr}, δ[i]? = some (some (.o b c)) → σ[i]? = some (some (.ref a)) → Foot H a c p → p ≠ D := fun e ea f z => by
    have := ((h.own_up e ea).1 _ f).2
    subst z; rw [upd_same] at this; cases this
  have sm : ∀ {i : Nat} {b : Bool} {c : Cont} {a p : Addr}, δ[i]? = some (some (.o b c)) → σ[i]? = some (some (.ref a)) → (Foot (upd H D o') a c p ↔ Foot H a c p) := fun e ea => foot_eq fun p f => upd_ne (nd e ea f)
  refine ⟨fun a u e => ?_, fun a u e => ?_, fun a u e => ?_, h.len, fun i s e => ?_, fun i j a a' p b c b' c' e1 e2 e3 e4 f1 f2 => h.apart i j a a' p b c b' c' e1 e2 e3 e4 ((sm e1 e3).mp f1) ((sm e2 e4).mp f2), h.bor, h.nt⟩
  · rw [upd_ne (ne_of_none e hB)]; exact h.sb a u e
  · by_cases ha : a = D
    · subst ha; rw [upd_same] at e ⊢; exact e
    · rw [upd_ne ha] at e ⊢; exact h.sf a u (by rw [upd_ne ha]; exact e)
  · by_cases ha : a = D
    · subst ha; exact hB
    · rw [upd_ne ha] at e; exact h.dj a u (by rw [upd_ne ha]; exact e)
  · obtain ⟨v, e1, q⟩ := h.ok i s e
    refine ⟨v, e1, ?_⟩
    cases s with
    | d d => exact q
    | w d => exact q
    | o b c =>
      obtain ⟨a, e2, e3, q2⟩ := q
      subst e2
      refine ⟨a, rfl, fun p f => ?_, q2.mono (Same.refl _) fun p f => upd_ne (nd e e1 f)⟩
      have f' := (sm e e1).mp f
      have := e3 p f'
      rw [upd_ne (nd e e1 f')] at this ⊢
      exact this
theorem Rep.unlay {D : Addr} {o : HO} (h : Rep K (upd F D o) B H vs σ δ) (hF : F D = none) : Rep K F B H vs σ δ := by
  refine ⟨h.sb, fun a u e => h.sf a u (by rw [upd_ne (ne_of_none e hF)]; exact e), fun a u e => h.dj a u (by rw [upd_ne (ne_of_none e hF)]; exact e), h.len, fun i s e => ?_, h.apart, h.bor, h.nt⟩
  obtain ⟨v, e1, q⟩ := h.ok i s e
  refine ⟨v, e1, ?_⟩
  cases s with
  | d d => exact q
  | w d => exact q
  | o b c =>
    obtain ⟨a, e2, e3, q2⟩ := q
    refine ⟨a, e2, fun p f => ⟨(e3 p f).1, ?_⟩, q2⟩
    have z := (e3 p f).2
    have hp : p ≠ D := fun w => by subst w; rw [upd_same] at z; cases z
    rwa [upd_ne hp] at z
/-- what belongs to the frame stands apart from the slots -/
theorem Rep.off {D : Addr} {o : HO} (h : Rep K (upd F D o) B H vs σ δ) : Off H σ δ fun q => q = D := fun i b c a p e ea f z => by
  have := ((h.own_up e ea).1 _ f).2
  subst z; rw [upd_same] at this; cases this
theorem off_restore {H : Hp} {σ : L2.St} {δ1 δ' : SEnv} {f : Addr → Prop} {us : List Nat} (h : Off H σ (forgetAll δ' us) f) : ∀ (is : List Nat), Off H σ (restore δ1 (forgetAll δ' us) is) f := by
  have own_of : ∀ (is : List Nat) (i : Nat) (b : Bool) (c : Cont), (restore δ1 (forgetAll δ' us) is)[i]? = some (some (.o b c)) → (forgetAll δ' us)[i]? = some (some (.o b c)) := by
    intro is
    induction is with
    | nil => intro i b c e; exact e
    | cons j is ih =>
      intro i b c e
      unfold restore at e
      split at e <;> (rcases set_get e with ⟨_, z⟩ | ⟨_, z⟩ <;> first | (cases z; done) | exact ih i b c z)
  exact fun is i b c a p e ea fp => h i b c a p (own_of is i b c e) ea fp
end
/-- the block's own contexts -/
def Sg.blk (S : Sg) (scope : Scope) : Sg := ⟨S.g, S.CX, S.N, relS scope S.sc, S.k, fun _ _ _ => False, false, false⟩
def CXok (CX : CXT) : Prop := ∀ (outer : List Env) (H : Hp) (s : Shared) (e : Value) (s' : Shared), CX outer H s (fun _ _ _ => False) e s' → False
theorem cx0_ok : CXok CX0 := fun _ _ _ _ _ h => h
def DTs (S : Sg) (ifs : List Expr) (W : WT) : Prop := ∃ t, (∀ c, S.ok c → PTs (S.g.cx c) ifs t) ∧ TSim S.g.K S.E t W
theorem dts_nil {S : Sg} : DTs S [] wYes := ⟨tYes, fun _ _ => pts_nil, ⟨fun _ _ _ _ _ _ h w => h _ _ w, fun Ex F B H vs σ δ P Q hx h w k => k B H true δ (Same.refl _) h w⟩⟩
theorem dts_one {S : Sg} {c : Expr} {w : WT} (h : DT S c w) : DTs S [c] w := by
  obtain ⟨t, p, s⟩ := h
  exact ⟨t, fun c hc => pts_one (p c hc), s⟩
section
variable {S : Sg}
theorem blk_ok {scope : Scope} (hCX : CXok S.CX) {c : Cl} (hc : S.ok c) (s : Shared) (H : Hp) (C : Addr) (cl : List (Str × Addr)) (fp : List Addr) :
    (S.blk scope).ok ⟨c.A, c.N, s, H, compEnvC scope cl C c.env, c.stack, c.stack, fp, fun x => scope.names.lookup x == some .cell, c.calm, [], fun _ _ => False⟩ :=
  ⟨hc.hN, hc.nd, by show relS scope c.env.scope = relS scope S.sc; rw [hc.hs], hc.calm, hc.room, fun _ _ _ _ _ _ _ h => hCX _ _ _ _ _ h, PassesOwn.never, (fun z => by cases z), hc.gd, (fun z => by cases z), (fun z => by cases z)⟩
/-- the block of a comprehension, with its list at D -/
theorem lc_run {K : PySem.W.Frag} {tg' : TG} {tt : TT} {te : TE} {G : WG} {wt : WT} {we : WE} {own ts : List Nat} {F B1 H1 : Hp} {vs : List V} {σ : L2.St} {δ1 : SEnv} {J : It} {ds : List PyData} {E0' : XK} (sg : GSim K tg' G ts) (hts : ∀ i ∈ ts, i ∈ own) (st : TSim K E0' tt wt) (se : ESim K E0' te we)
    (h1 : Rep K F B1 H1 vs σ δ1) (q1 : ItOk B1 J ds) {D : Addr} (hD : H1 D = none) {P : List PyData → SEnv → Prop} (w1 : wLcR G wt we own ds [] δ1 P) {Qd : Hp → Prop}
    (k : ∀ B' H' acc xs δ', Same B1 B' → Rep K (upd F D (.lst xs)) B' H' vs σ (forgetAll δ' own) → DDs B' xs acc → P acc δ' → Qd H') :
    ∃ W : Nat → Nat → Hp → Prop, (∃ m, W 0 m (upd H1 D (.lst []))) ∧ ∀ i m H, W i m H →
      (J.stop i H ∧ Qd H) ∨ (J.go i H ∧ ∃ Nx : Hp → Prop, (∀ H', Nx H' → ∃ m', m' < m ∧ W (i + 1) m' H') ∧ ∀ x H', J.yld i H x H' → tg' x (wipe σ own) H' fun σ2 H2 => wipe σ2 own = wipe σ own ∧ tt σ2 H2 fun b H3 =>
        if b = true then te σ2 H3 fun y H4 => ∃ acc, H4 D = some (.lst acc) ∧ acc.length < sizeLine ∧ Nx (upd H4 D (.lst (acc ++ [y]))) else Nx H3) := by
  have hF : F D = none := nof h1.sf hD
  refine ⟨fun i m H => m = ds.length - i ∧ i ≤ ds.length ∧ ∃ B' δ' acc xs, Same B1 B' ∧ Rep K (upd F D (.lst xs)) B' H vs σ (forgetAll δ' own) ∧ DDs B' xs acc ∧ wLcR G wt we own (ds.drop i) acc δ' P, ⟨ds.length, by simp, Nat.zero_le _, B1, δ1, [], [], Same.refl _, ?_, .nil, w1⟩, ?_⟩
  · exact (h1.lay hD _).dim (by rw [forgetAll_length]; exact h1.len) fun i s e => ⟨(forgetAll_get e).1, rfl⟩
  rintro i m H2 ⟨rfl, hi, B2, δ2, acc, xs, s2, h2, qa, w2⟩
  by_cases hlt : i < ds.length
  · refine .inr ⟨q1.go i H2 (s2.trans h2.sb) hlt, fun H' => ∃ B' δ' acc xs, Same B1 B' ∧ Rep K (upd F D (.lst xs)) B' H' vs σ (forgetAll δ' own) ∧ DDs B' xs acc ∧ wLcR G wt we own (ds.drop (i + 1)) acc δ' P, fun H' ⟨B', δ', a', x', t1, t2, t3, t4⟩ => ⟨ds.length - (i + 1), by omega, rfl, hlt, B', δ', a', x', t1, t2, t3, t4⟩, fun x H' y => ?_⟩
    have ed : ds.drop i = ds[i] :: ds.drop (i + 1) := List.drop_eq_getElem_cons hlt
    rw [ed] at w2
    obtain ⟨δ3, e3, w3⟩ := w2
    have hw : Rep K (upd F D (.lst xs)) B2 H2 vs (wipe σ own) (forgetAll δ2 own) := by
      have := h2.wiped own
      rw [forgetAll_twice] at this; exact this
    -- behind an element or a test the slots of the def are as they were
    have away : ∀ {B5 H5 : Hp} {σ2 : L2.St} {δ5 : SEnv} {xs' : List V}, ButFor ts (wipe σ own) σ2 → Rep K (upd F D (.lst xs')) B5 H5 vs σ2 δ5 → Rep K (upd F D (.lst xs')) B5 H5 vs σ (forgetAll δ5 own) := by
      intro B5 H5 σ2 δ5 xs' b h5
      refine h5.unwiped ?_ (by rw [b.1, wipe_length])
      rw [b.2 own hts, wipe_wipe]
    have fin : ∀ (B3 H3 : Hp) (x : V), Same B2 B3 → Rep K (upd F D (.lst xs)) B3 H3 vs (wipe σ own) (forgetAll δ2 own) → DD B3 x ds[i] → tg' x (wipe σ own) H3 fun σ2 H2' => wipe σ2 own = wipe σ own ∧ tt σ2 H2' fun b H3' =>
        if b = true then te σ2 H3' fun y H4 => ∃ acc, H4 D = some (.lst acc) ∧ acc.length < sizeLine ∧ (∃ B' δ' acc' xs', Same B1 B' ∧ Rep K (upd F D (.lst xs')) B' (upd H4 D (.lst (acc ++ [y]))) vs σ (forgetAll δ' own) ∧ DDs B' xs' acc' ∧ wLcR G wt we own (ds.drop (i + 1)) acc' δ' P)
        else ∃ B' δ' acc' xs', Same B1 B' ∧ Rep K (upd F D (.lst xs')) B' H3' vs σ (forgetAll δ' own) ∧ DDs B' xs' acc' ∧ wLcR G wt we own (ds.drop (i + 1)) acc' δ' P := by
      intro B3 H3 x s3 h3 q3
      refine sg.run _ B3 H3 vs (wipe σ own) _ δ3 x _ _ h3 q3 e3 fun σ2 h4 b2 => ⟨by rw [b2.2 own hts, wipe_wipe], ?_⟩
      refine st.run Ex0 _ B3 H3 vs σ2 δ3 _ _ (fun _ _ _ _ _ _ _ _ _ _ _ _ z => z.elim) h4 w3 fun B4 H4 b δ4 s4 h5 w4 => ?_
      cases b with
      | false => exact ⟨B4, δ4, acc, xs, s2.trans (s3.trans s4), away b2 h5, qa.mono (s3.trans s4), w4⟩
      | true =>
        refine se.run Ex0 _ B4 H4 vs σ2 δ4 _ _ (fun _ _ _ _ _ _ _ _ _ _ _ _ z => z.elim) h5 w4 fun B5 H5 v r δ5 s5 h6 q6 w5 => ?_
        obtain ⟨⟨d, δ6⟩, e6, hl, w6⟩ := w5
        obtain ⟨B6, s6, h7, d7⟩ := frz_ok h6 q6 e6
        refine ⟨xs, h7.sf D _ upd_same, by rw [qa.length]; exact hl, B6, δ6, acc ++ [d], xs ++ [v], s2.trans (s3.trans (s4.trans (s5.trans s6))), ?_, ((qa.mono (s3.trans (s4.trans (s5.trans s6)))).snoc d7), w6⟩
        have := (away b2 h7).relay (o' := .lst (xs ++ [v]))
        exact this
    obtain ⟨B3', s3', g3', q3'⟩ := q1.yld i H2 B2 x H' ds[i] s2 h2.sb y (by simp [hlt])
    exact fin B3' H' x s3' (g3' _ _ _ _ _ hw) q3'
  · have e : i = ds.length := by omega
    subst e
    rw [List.drop_length] at w2
    exact .inl ⟨q1.stop _ H2 (s2.trans h2.sb) (Nat.le_refl _), k B2 H2 acc xs δ2 s2 h2 qa w2⟩
theorem wLcR_mono {K : PySem.W.Frag} {G : WG} {wt : WT} {we : WE} {own : List Nat} {tt : TT} {te : TE} {E0' : XK} (st : TSim K E0' tt wt) (se : ESim K E0' te we) : ∀ (xs acc : List PyData) (δ : SEnv) (P P' : List PyData → SEnv → Prop), (∀ a δ, P a δ → P' a δ) → wLcR G wt we own xs acc δ P → wLcR G wt we own xs acc δ P'
  | [], acc, δ, P, P', h, w => h _ _ w
  | x :: xs, acc, δ, P, P', h, w => w.imp fun δ1 w => by
    refine st.mono _ _ _ _ _ (fun _ z => z) (fun b δ2 w => ?_) w
    cases b with
    | false => exact wLcR_mono st se xs acc δ2 P P' h w
    | true =>
      refine se.mono _ _ _ _ _ (fun _ z => z) (fun r δ3 w => w.imp fun p w => ⟨w.1, ?_⟩) w
      exact wLcR_mono st se xs _ _ P P' h w.2
theorem sim_lc {K : PySem.W.Frag} {E E0' : XK} {ti : TI} {tg' : TG} {tt : TT} {te : TE} {wi : WI} {G : WG} {wt : WT} {we : WE} {own ts : List Nat} (si : ISim K E ti wi) (sg : GSim K tg' G ts) (hts : ∀ i ∈ ts, i ∈ own) (st : TSim K E0' tt wt) (se : ESim K E0' te we) : ESim K E (tLc ti tg' tt te own) (wLc wi G wt we own) := by
  refine ⟨fun Ex Ex' δ P P' hx h w => ?_, fun Ex F B H vs σ δ P Q hx h w k => ?_⟩
  · exact si.mono _ _ _ _ _ hx (fun ds δ1 w => wLcR_mono st se ds [] δ1 _ _ (fun acc δ2 w => h _ _ w) w) w
  · refine si.run _ _ _ _ _ _ _ _ _ hx h w fun B1 H1 J ds δ1 s1 h1 q1 w1 => ?_
    intro D hD
    refine lc_run sg hts st se h1 q1 hD w1 fun B' H' acc xs δ' s2 h2 qa w2 => ?_
    have hF : F D = none := nof h1.sf hD
    have h3 : Rep K F B' H' vs σ (restore δ1 (forgetAll δ' own) own) := Rep.restored h1 s2 (h2.unlay hF)
    exact k B' H' (.ref D) (.n (.l acc)) _ (s1.trans s2) h3 ⟨D, rfl, foot_bf rfl (h2.dj D _ upd_same) hF, ⟨xs, h2.sf D _ upd_same, qa⟩, off_restore h2.off own⟩ w2
theorem de_lc {elt tg iter : Expr} {ifs : List Expr} {scope : Scope} {own : List (Str × Nat)} {pos : Pos} {wi : WI} {G : WG} {wt : WT} {we : WE} {ts : List Nat} (hCX : CXok S.CX) (hi : DI S tg iter wi) (hblk : blkC S.N S.sc scope own = true) (hg : DG (S.blk scope) tg G ts) (hts : ts.all (fun i => (own.map (·.2)).contains i) = true)
    (ht : DTs (S.blk scope) ifs wt) (he : DE (S.blk scope) elt we) (hs : ∀ env x, foldedSetIterable iter env x = pure x := by intro _ _; rfl) : DE S (.ListComp elt [⟨tg, iter, ifs, 0⟩] scope pos) (wLc wi G wt we (own.map (·.2))) := by
  obtain ⟨ti, pi, si⟩ := hi
  obtain ⟨tg', pg, sg⟩ := hg
  obtain ⟨tt, pt, st⟩ := ht
  obtain ⟨te, pe, se⟩ := he
  have hts' : ∀ i ∈ ts, i ∈ own.map (·.2) := fun i hi => by
    have := List.all_eq_true.mp hts i hi
    simpa using this
  refine ⟨tLc ti tg' tt te (own.map (·.2)), fun c hc => ?_, sim_lc si sg hts' st se⟩
  refine pe_lc (X := S.g.cx c) hc.calm (by show c.N.Nodup; rw [hc.hN]; exact hc.nd) (pi c hc) (by show BlkOk c.N c.env.scope scope own; rw [hc.hN, hc.hs]; exact blkOk_by hblk) (fun s H C cl fp => ?_) (fun s H C cl fp => ?_) (fun s H C cl fp => ?_) (hs _)
  · exact pg _ (blk_ok hCX hc s H C cl fp)
  · exact pt _ (blk_ok hCX hc s H C cl fp)
  · exact pe _ (blk_ok hCX hc s H C cl fp)
end
end DL
set_option Elab.async false
set_option linter.all false
set_option maxRecDepth 100000
set_option maxHeartbeats 4000000
set_option autoImplicit false
namespace DL
open PySem PySem.Spec PyProof.Rows L2
theorem law_run {P : Program} {w : World} {K : PySem.W.Frag} {mg mb : Str → Option Value} {CX : CXT} {k : Nat} {fa a : Addr} {fd : FuncData} {x : Str} {sp : Sp} {sh : Shared} {vs : List Value} {ns : List Int}
    (KX : K.In sh.heap) (hns : sh.heap.Ns mainGlobals mg) (hb : sh.heap.Ns builtinsNs mb) (hbb : ∀ y : Str, y ≠ "__name__" → mb y = bootBuiltins y) (hlim : sh.heap.NoLimit) (hgn : sh.gens = #[])
    (ha : sh.heap.get? a = some { cls := .type "list", data := .seq vs.toArray }) (hi : IntsAre vs ns) (hl : ns.length ≤ sizeLine) (hr : Room k callerA)
    (hF : ∀ base : Heap, K.In base → base.Ns mainGlobals mg → FnG ⟨P, w, K, mg, base⟩ CX k fa fd [x] sp) (hbind : ∀ (s : Shared) (u : Value), BindsTo s fd ⟨[u], []⟩ [(x, u)])
    (hsp : ∀ H : Hp, Only H → SqL K H a (ns.map V.int) → sp [.ref a] H (fun v _ => v = .bl true) fun _ _ _ => False) (hCX : CXok CX) :
    codeAny (model P w) callerA (.call (.ref fa) ⟨[.ref a], []⟩) (fun r s' => r = .ok (.ret (.bool true)) ∧ OldK sh.heap s'.heap ∧ s'.os = sh.os ∧ AllBare s'.gens) sh := by
  have rv := vals_ints hi
  have main : ∀ H : Hp, Only H → SqL K H a (ns.map V.int) → HOk P w H sh.heap → (∀ b u, H b = some u → b = a ∧ K.lookup a = none) →
      codeAny (model P w) callerA (.call (.ref fa) ⟨[.ref a], []⟩) (fun r s' => r = .ok (.ret (.bool true)) ∧ OldK sh.heap s'.heap ∧ s'.os = sh.os ∧ AllBare s'.gens) sh := by
    intro H hO hS hok hA
    have stay : ∀ {b : Addr} {o : Obj}, sh.heap.get? b = some o → (∀ es ep, o.data = .dict es ep → H b = none) ∧ (K.lookup b = some o → H b = none) := by
      intro b o e
      constructor
      · intro es ep d
        cases q : H b with
        | none => rfl
        | some u =>
          obtain ⟨rfl, _⟩ := hA b u q
          rw [ha] at e; cases e; cases d
      · intro kl
        cases q : H b with
        | none => rfl
        | some u =>
          obtain ⟨rfl, z⟩ := hA b u q
          rw [z] at kl; cases kl
    have ns_of : ∀ {b : Addr} {m : Str → Option Value}, sh.heap.Ns b m → (hidT sh.heap H).Ns b m := by
      rintro b m ⟨o, es, ep, e, d, r⟩
      exact ⟨o, es, ep, hidT_get e ((stay e).1 es ep d), d, r⟩
    have KH : K.In (hidT sh.heap H) := fun b o e => hidT_get (KX b o e) ((stay (KX b o e)).2 e)
    have hM : Mod K mg (hidT sh.heap H) := by
      obtain ⟨mc, h1, h2⟩ := hlim
      exact ⟨KH, ns_of hns, ⟨mb, ns_of hb, hbb⟩, ⟨mc, ns_of h1, h2⟩⟩
    have e0 : Env0 P w K mg (hidT sh.heap H) callerA [] sh H := by
      refine ⟨rfl, hM, fun b o e => of_hidT e, Nat.le_of_eq (hidT_size _ _), trivial, fun b z => ?_, hok, .of_eq hgn⟩
      exact absurd (show b ∈ ([] : List Addr) from z) (by simp)
    refine codeAny_mono ((hF _ KH (ns_of hns)).run callerA [] sh H ⟨[.ref a], []⟩ [.ref a] [.ref a] _ _ rfl hr e0 (hbind sh (.ref a)) (.cons rfl .nil) (hsp H hO hS)) fun r s' h => ?_
    cases r with
    | error e => exact (hCX [] H sh e s' h).elim
    | ok fl => cases fl with
      | ret u =>
        obtain ⟨v, H', os, bare, un, hok', r', q⟩ := h
        have q : v = .bl true := q
        subst q
        obtain rfl : u = Value.bool true := r'
        refine ⟨rfl, OldK.of_keep fun b o e => ?_, os, bare⟩
        rcases hO b with z | ⟨ob, xs, z⟩
        · exact un.keep b o e z (fun z => absurd (show b ∈ ([] : List Addr) from z) (by simp)) (by simp)
        · obtain ⟨e1, _⟩ := hok b _ z
          obtain ⟨e2, _⟩ := hok' b _ (un.frzs b ob _ z)
          rw [e] at e1; cases e1
          exact e2
      | _ => exact h.elim
  cases hk : K.lookup a with
  | some o =>
    have e := KX a o hk
    rw [ha] at e
    cases e
    refine main (fun _ => none) (fun _ => .inl rfl) (.inr ⟨_, vs.toArray, _, hk, rfl, rfl, rfl, ?_, by simpa using rv⟩) (fun b u z => nomatch (show (none : Option HO) = some u from z)) (fun b u z => nomatch (show (none : Option HO) = some u from z))
    rw [List.size_toArray, hi.length]; exact hl
  | none =>
    let o : HO := .frz { cls := .type "list", data := .seq vs.toArray } (.lst (ns.map V.int))
    refine main (upd (fun _ => none) a o) (fun b => ?_) (.inl (.inr ⟨_, upd_same⟩)) (fun b u z => ?_) (fun b u z => ?_)
    · by_cases hab : b = a
      · subst hab; exact .inr ⟨_, _, upd_same⟩
      · exact .inl (upd_ne hab)
    · by_cases hab : b = a
      · subst hab
        rw [upd_same] at z; cases z
        exact ⟨ha, by rw [List.length_map]; exact hl, vs, _, rv, ha⟩
      · rw [upd_ne hab] at z; cases z
    · by_cases hab : b = a
      · exact ⟨hab, hk⟩
      · rw [upd_ne hab] at z; cases z
/-- the script, as a law's first slot holds it -/
def Scr (ns : List Int) (s : Sl) : Prop := s = .d (.list (ns.map .int)) ∨ s = .w (.list (ns.map .int))
theorem dps_ints {K : PySem.W.Frag} {H : Hp} : ∀ ns : List Int, DpAll K H (ns.map V.int) (ns.map .int)
  | [] => .nil
  | n :: ns => .cons (.int n) (dps_ints ns)
/-- what is left behind the head -/
theorem law_walk {l : PySem.W.OpenLaw} {n k : Nat} {q : Program} {loose : List Str} {XP : (Str → Option Value) → Heap → Prop} {YP : World → Heap → Prop} {d : DefRec} {K : Params → PySem.W.Frag} {x : Str} {W : FSpec} {CX : CXT} (hn : l.most = some n) (hn2 : n ≤ sizeLine) (hdf : d.params.defaults = []) (hr : Room k callerA) (hCX : CXok CX)
    (hY : ∀ (w : World) (h : Heap), YP w h → (K w.params).In h)
    (hF : ∀ (w : World) (mg : Str → Option Value) (fa : Addr) (h : Heap), (K w.params).In h → h.Ns mainGlobals mg → mg d.name = some (.ref fa) → ∃ fd : FuncData, (∀ (s : Shared) (u : Value), BindsTo s fd ⟨[u], []⟩ [(x, u)]) ∧
      ∀ base : Heap, (K w.params).In base → base.Ns mainGlobals mg → FnG ⟨l.prog, w, K w.params, mg, base⟩ CX k fa fd [x] (spOf (K w.params) 1 W))
    (hW : ∀ (ns : List Int) (s : Sl), ns.length ≤ n → Scr ns s → W [s] (fun _ => False) fun r _ => r = .d (.bool true)) :
    PySem.W.WalkO q loose XP YP l.row.toRowW d [] (fun f vs => PySem.call f vs) := by
  refine Att.attach_call hn hdf fun w s₀ sh mg mb fa o pm cd doc a vs ns G Y ho hd hcd hmg hobj hints hlen hgn => ?_
  have KX := hY w _ Y
  obtain ⟨fd, hb, hF⟩ := hF w mg fa _ KX G.T.g hmg
  refine law_run KX G.T.g G.T.b G.T.builtins G.T.nolimit hgn hobj hints (Nat.le_trans hlen hn2) hr hF hb (fun H hO hS => ?_) hCX
  have ex : ∃ s, Scr ns s ∧ SlOk (K w.params) (fun _ => none) H H (.ref a) s := by
    rcases hS with hS | hS
    · exact ⟨_, .inl rfl, DD.lst hS (DDs.of_ints ns)⟩
    · exact ⟨_, .inr rfl, Dp.lst (.inr hS) (dps_ints ns)⟩
  obtain ⟨s, hs, q⟩ := ex
  have no : ∀ b c, s ≠ .o b c := fun b c z => by
    rcases hs with e | e <;> (rw [e] at z; cases z)
  refine ⟨rfl, fun _ => none, H, [s], fun _ => False, fun r _ => r = .d (.bool true), ⟨Same.refl _, (fun _ _ z => by cases z), (fun _ _ z => by cases z), rfl, fun i s' e => ?_, fun i j b b3 p c b1 c1 b2 e1 => ?_, fun i c e => ?_, fun b ps e => by rcases hO b with z | ⟨_, _, z⟩ <;> (rw [z] at e; cases e)⟩, fun _ _ _ _ _ _ _ _ _ _ _ _ z => z.elim, hW ns s hlen hs, fun B' H' v r ss' s1 h1 q1 nO e => ?_⟩
  · match i, e with
    | 0, e => cases e; exact ⟨.ref a, rfl, q⟩
  · match i, e1 with
    | 0, e1 => cases e1; exact absurd rfl (no _ _)
  · match i, e with
    | 0, e => cases e; exact absurd rfl (no _ _)
  · subst e
    cases (show DD B' v (.bool true) from q1)
    rfl
end DL
set_option Elab.async false
set_option linter.all false
set_option maxRecDepth 100000
set_option maxHeartbeats 4000000
set_option autoImplicit false
namespace DL
open PySem PySem.Spec PyProof.Rows L2
section
variable {K : PySem.W.Frag} {B H : Hp} {v : V}
theorem ov_str {x : Str} (h : OV K B H v (.d (.str x))) : v = .str x := by
  rcases h with h | ⟨_, _, _, _, e, _⟩
  · cases h; rfl
  · cases e
theorem ov_bl {b : Bool} (h : OV K B H v (.d (.bool b))) : v = .bl b := by
  rcases h with h | ⟨_, _, _, _, e, _⟩
  · cases h; rfl
  · cases e
theorem ov_non (h : OV K B H v (.d .none)) : v = .non := by
  rcases h with h | ⟨_, _, _, _, e, _⟩
  · cases h; rfl
  · cases e
theorem ov_tup {ds : List PyData} (h : OV K B H v (.d (.tuple ds))) : ∃ p xs, v = .ref p ∧ PlT B p xs ∧ DDs B xs ds := by
  rcases h with h | ⟨_, _, _, _, e, _⟩
  · cases h with
    | tup r q => exact ⟨_, _, rfl, r, q⟩
  · cases e
theorem ov_lst {ds : List PyData} (s : Same B H) (h : OV K B H v (.d (.list ds))) : ∃ p xs, v = .ref p ∧ Rd H p (.lst xs) ∧ DDs B xs ds := by
  rcases h with h | ⟨a, xs, ds', e1, e2, e3, q⟩
  · cases h with
    | lst r q => exact ⟨_, _, rfl, same_rd s r, q⟩
  · cases e2; exact ⟨a, xs, e1, .inl e3, q⟩
end
theorem ov_bool {K : PySem.W.Frag} {B H : Hp} {v : V} {b : Bool} (h : OV K B H v (.d (.bool b))) : v = .bl b := by
  rcases h with h | ⟨_, _, _, _, e, _⟩
  · cases h; rfl
  · cases e
def addF : Vw → Vw → Option Rv
  | .d (.int a), .d (.int b) => some (.val (.int (a + b)))
  | .d (.str a), .d (.str b) => if a.length + b.length ≤ sizeLine then some (.val (.str (a ++ b))) else none
  | .d (.tuple a), .d (.tuple b) => if a.length + b.length ≤ sizeLine then some (.tup (a ++ b)) else none
  | .d (.list a), .d (.list b) => if a.length + b.length ≤ sizeLine then some (.lst (a ++ b)) else none
  | .d (.bool a), .d (.int b) => some (.val (.int ((if a = true then (1 : Int) else 0) + b)))
  | _, _ => none
theorem op_catRd {X : Cx} : OpR X (binaryOp .Add) fun x y H Q => ∃ l b xs zs, x = .ref l ∧ y = .ref b ∧ Rd H l (.lst xs) ∧ Rd H b (.lst zs) ∧ xs.length + zs.length ≤ sizeLine ∧ ∀ p, H p = none → Q (.ref p) (upd H p (.lst (xs ++ zs))) := by
  rintro pins s σ H x y v u Q I rx ry ⟨l, b, xs, zs, rfl, rfl, hl, hb, hz, q⟩
  cases rx
  cases ry
  obtain ⟨z, its, n, r, e⟩ := hl.ok I.hok
  obtain ⟨z2, its2, n2, r2, e2⟩ := hb.ok I.hok
  have l1 := r.length
  have l2 := r2.length
  refine PySem.P.add_list e e2 ?_ (by rw [List.size_toArray, List.size_toArray]; omega)
  rw [show its.toArray ++ its2.toArray = (its ++ its2).toArray by simp]
  exact ⟨.ref _, _, I.lnew (t' := s.toks) (r.append r2) (by rw [List.length_append]; omega), rfl, q _ I.fresh⟩
def rCatP (K : PySem.W.Frag) : R2 := fun x y H Q => ∃ a b xs ys, x = .ref a ∧ y = .ref b ∧ SqT K H a xs ∧ SqT K H b ys ∧ xs.length + ys.length ≤ sizeLine ∧
  (xs = [] → Q (.ref b) H) ∧ (xs ≠ [] → ys = [] → Q (.ref a) H) ∧ ∀ (p : Addr) (o : Obj), H p = none → o.cls = .type "tuple" → o.dict = none → Q (.ref p) (upd H p (.frz o (.tup (xs ++ ys))))
theorem op_catP {X : Cx} : OpR X (binaryOp .Add) (rCatP X.K) := by
  intro pins s σ H x y v u Q I rx ry h
  obtain ⟨a, b, xs, ys, rfl, rfl, ha, hb, hz, q0, q1, q2⟩ := h
  cases rx
  cases ry
  obtain ⟨its, r1, p1, _⟩ := I.tuple ha
  obtain ⟨its2, r2, p2, _⟩ := I.tuple hb
  have l1 := r1.length
  have l2 := r2.length
  by_cases hx : xs = []
  · subst hx
    cases r1
    exact cat_tup0 p1 p2 ⟨.ref b, H, I, rfl, q0 rfl⟩
  · have hi : its ≠ [] := fun e => hx (by rw [e] at l1; exact List.eq_nil_of_length_eq_zero l1)
    refine HT.cat_tup p1 p2 hi (fun e => ?_) (fun e => ?_) (by omega)
    · exact ⟨.ref a, H, I, rfl, q1 hx (by rw [e] at l2; exact List.eq_nil_of_length_eq_zero l2)⟩
    · refine ⟨.ref s.heap.objs.size, upd H s.heap.objs.size (.frz _ (.tup (xs ++ ys))), I.laid (t' := s.toks) (fun b o e => Heap.get?_push_of_some _ e) (Nat.le_refl _) ⟨Heap.get?_push_size _ rfl, (show ObjOk X.prog X.w _ _ _ (.tup (xs ++ ys)) from ?_)⟩, rfl, q2 _ _ (I.hok.fresh (Nat.le_refl _)) rfl rfl⟩
      exact ⟨by rw [List.length_append]; exact hz, its ++ its2, r1.append r2, IsTup.new _ _⟩
theorem os_add {S : Sg} : OpS S (binaryOp .Add) addF := by
  rintro c hc pins s σ H x y v u Q I rx ry ⟨B, a, b, rv, sB, oa, ob, e, k⟩
  unfold addF at e
  split at e
  · cases e
    cases ov_int oa; cases ov_int ob
    exact op_add pins s σ H _ _ v u Q I rx ry ⟨_, _, rfl, rfl, k _ (.int _)⟩
  · split at e
    · cases e
      cases ov_str oa; cases ov_str ob
      exact op_add_str pins s σ H _ _ v u Q I rx ry ⟨_, _, rfl, rfl, by assumption, k _ (.str _)⟩
    · cases e
  · split at e
    · cases e
      obtain ⟨p, xs, rfl, hp, qx⟩ := ov_tup oa
      obtain ⟨p2, ys, rfl, hp2, qy⟩ := ov_tup ob
      rename_i hl
      refine op_catP pins s σ H _ _ v u Q I rx ry ⟨p, p2, xs, ys, rfl, rfl, .inl (hp.mono sB).rd, .inl (hp2.mono sB).rd, by rw [qx.length, qy.length]; exact hl, fun ex => ?_, fun _ ey => ?_, fun p3 o hp3 ec ed => k.2 p3 o _ hp3 ec ed (qx.append qy)⟩
      · subst ex
        refine k.1 _ ?_
        rw [qx.nil_iff.mp rfl, List.nil_append]
        exact .tup hp2 qy
      · subst ey
        refine k.1 _ ?_
        rw [qy.nil_iff.mp rfl, List.append_nil]
        exact .tup hp qx
    · cases e
  · split at e
    · cases e
      rename_i hl
      obtain ⟨p, xs, rfl, hp, qx⟩ := ov_lst sB oa
      obtain ⟨p2, ys, rfl, hp2, qy⟩ := ov_lst sB ob
      exact op_catRd pins s σ H _ _ v u Q I rx ry ⟨p, p2, xs, ys, rfl, rfl, hp, hp2, by rw [qx.length, qy.length]; exact hl, fun p3 hp3 => k p3 _ hp3 (qx.append qy)⟩
    · cases e
  · cases e
    cases ov_int ob; cases ov_bool oa
    obtain ⟨t, rfl⟩ := ry
    cases rx
    exact PySem.IntBool.add_bool_int ⟨.int _, H, I.tok _, ⟨_, rfl⟩, k _ (.int _)⟩
  · cases e
def subF : Vw → Vw → Option Rv
  | .d (.int a), .d (.int b) => some (.val (.int (a - b)))
  | .d (.bool a), .d (.int b) => some (.val (.int ((if a = true then (1 : Int) else 0) - b)))
  | _, _ => none
theorem os_sub {S : Sg} : OpS S (binaryOp .Sub) subF := by
  rintro c hc pins s σ H x y v u Q I rx ry ⟨B, a, b, rv, sB, oa, ob, e, k⟩
  unfold subF at e
  split at e
  · cases e
    cases ov_int oa; cases ov_int ob
    exact op_sub pins s σ H _ _ v u Q I rx ry ⟨_, _, rfl, rfl, k _ (.int _)⟩
  · cases e
    cases ov_int ob; cases ov_bool oa
    obtain ⟨t, rfl⟩ := ry
    cases rx
    exact PySem.IntBool.sub_bool_int ⟨.int _, H, I.tok _, ⟨_, rfl⟩, k _ (.int _)⟩
  · cases e
def smallI (a : Int) : Bool := decide (-(2 ^ 64) < a ∧ a < 2 ^ 64)
def mulF : Vw → Vw → Option Rv
  | .d (.int a), .d (.int b) => if smallI a || smallI b || decide (a.natAbs.log2 + b.natAbs.log2 < 1000000) then some (.val (.int (a * b))) else none
  | _, _ => none
theorem os_mul {S : Sg} : OpS S (binaryOp .Mult) mulF := by
  rintro c hc pins s σ H x y v u Q I rx ry ⟨B, a, b, rv, sB, oa, ob, e, k⟩
  unfold mulF at e
  split at e
  · split at e
    · rename_i hs
      cases e
      cases ov_int oa; cases ov_int ob
      rw [Bool.or_eq_true, Bool.or_eq_true] at hs
      rcases hs with (hs | hs) | hs
      · exact op_mul pins s σ H _ _ v u Q I rx ry ⟨_, _, rfl, rfl, .inl (of_decide_eq_true hs), k _ (.int _)⟩
      · exact op_mul pins s σ H _ _ v u Q I rx ry ⟨_, _, rfl, rfl, .inr (of_decide_eq_true hs), k _ (.int _)⟩
      · have hs := of_decide_eq_true hs
        exact op_mulW pins s σ H _ _ v u Q I rx ry ⟨_, _, rfl, rfl, hs, k _ (.int _)⟩
    · cases e
  · cases e
def modF : Vw → Vw → Option Rv
  | .d (.int a), .d (.int b) => if 0 < b then some (.val (.int (a % b))) else none
  | _, _ => none
theorem os_mod {S : Sg} : OpS S (binaryOp .Mod) modF := by
  rintro c hc pins s σ H x y v u Q I rx ry ⟨B, a, b, rv, sB, oa, ob, e, k⟩
  unfold modF at e
  split at e
  · split at e
    · cases e
      cases ov_int oa; cases ov_int ob
      exact op_mod pins s σ H _ _ v u Q I rx ry ⟨_, _, rfl, rfl, by assumption, k _ (.int _)⟩
    · cases e
  · cases e
def fdivF : Vw → Vw → Option Rv
  | .d (.int a), .d (.int b) => if 0 < b ∧ b.natAbs.log2 < 9000 then some (.val (.int (a / b))) else none
  | _, _ => none
theorem os_fdiv {S : Sg} : OpS S (binaryOp .FloorDiv) fdivF := by
  rintro c hc pins s σ H x y v u Q I rx ry ⟨B, a, b, rv, sB, oa, ob, e, k⟩
  unfold fdivF at e
  split at e
  · split at e
    · cases e
      cases ov_int oa; cases ov_int ob
      exact op_fdivW pins s σ H _ _ v u Q I rx ry ⟨_, _, rfl, rfl, by assumption, k _ (.int _)⟩
    · cases e
  · cases e
def powF : Vw → Vw → Option Rv
  | .d (.int a), .d (.int b) => if 0 ≤ b ∧ b ≤ 1000000 ∧ a.natAbs < 2 ^ 64 then some (.val (.int (a ^ b.toNat))) else none
  | _, _ => none
theorem os_pow {S : Sg} : OpS S (binaryOp .Pow) powF := by
  rintro c hc pins s σ H x y v u Q I rx ry ⟨B, a, b, rv, sB, oa, ob, e, k⟩
  unfold powF at e
  split at e
  · split at e
    · cases e
      cases ov_int oa; cases ov_int ob
      exact op_pow pins s σ H _ _ v u Q I rx ry ⟨_, _, rfl, rfl, by assumption, k _ (.int _)⟩
    · cases e
  · cases e
def cmpF (fi : Int → Int → Bool) (fs : Str → Str → Bool) : Vw → Vw → Option Rv
  | .d (.int a), .d (.int b) => some (.val (.bool (fi a b)))
  | .d (.str a), .d (.str b) => some (.val (.bool (fs a b)))
  | _, _ => none
def strLt (a b : Str) : Bool := decide (a.cps.toList < b.cps.toList)
def ltF := cmpF (fun a b => decide (a < b)) strLt
def leF := cmpF (fun a b => decide (a ≤ b)) (fun a b => !decide (b.cps.toList < a.cps.toList))
def gtF := cmpF (fun a b => decide (b < a)) (fun a b => decide (b.cps.toList < a.cps.toList))
def geF := cmpF (fun a b => decide (b ≤ a)) (fun a b => !decide (a.cps.toList < b.cps.toList))
theorem os_lt {S : Sg} : OpS S (compareOp .Lt) ltF := by
  rintro c hc pins s σ H x y v u Q I rx ry ⟨B, a, b, rv, sB, oa, ob, e, k⟩
  unfold ltF cmpF at e
  split at e
  · cases e
    cases ov_int oa; cases ov_int ob
    exact op_lt pins s σ H _ _ v u Q I rx ry ⟨_, _, rfl, rfl, k _ (.bl _)⟩
  · cases e
    cases ov_str oa; cases ov_str ob
    exact op_lt_str pins s σ H _ _ v u Q I rx ry ⟨_, _, rfl, rfl, k _ (.bl _)⟩
  · cases e
theorem os_le {S : Sg} : OpS S (compareOp .LtE) leF := by
  rintro c hc pins s σ H x y v u Q I rx ry ⟨B, a, b, rv, sB, oa, ob, e, k⟩
  unfold leF cmpF at e
  split at e
  · cases e
    cases ov_int oa; cases ov_int ob
    exact op_le pins s σ H _ _ v u Q I rx ry ⟨_, _, rfl, rfl, k _ (.bl _)⟩
  · cases e
    cases ov_str oa; cases ov_str ob
    exact op_le_str pins s σ H _ _ v u Q I rx ry ⟨_, _, rfl, rfl, k _ (.bl _)⟩
  · cases e
theorem os_gt {S : Sg} : OpS S (compareOp .Gt) gtF := by
  rintro c hc pins s σ H x y v u Q I rx ry ⟨B, a, b, rv, sB, oa, ob, e, k⟩
  unfold gtF cmpF at e
  split at e
  · cases e
    cases ov_int oa; cases ov_int ob
    exact op_gt pins s σ H _ _ v u Q I rx ry ⟨_, _, rfl, rfl, k _ (.bl _)⟩
  · cases e
    cases ov_str oa; cases ov_str ob
    exact op_gt_str pins s σ H _ _ v u Q I rx ry ⟨_, _, rfl, rfl, k _ (.bl _)⟩
  · cases e
theorem os_ge {S : Sg} : OpS S (compareOp .GtE) geF := by
  rintro c hc pins s σ H x y v u Q I rx ry ⟨B, a, b, rv, sB, oa, ob, e, k⟩
  unfold geF cmpF at e
  split at e
  · cases e
    cases ov_int oa; cases ov_int ob
    exact op_ge pins s σ H _ _ v u Q I rx ry ⟨_, _, rfl, rfl, k _ (.bl _)⟩
  · cases e
    cases ov_str oa; cases ov_str ob
    exact op_ge_str pins s σ H _ _ v u Q I rx ry ⟨_, _, rfl, rfl, k _ (.bl _)⟩
  · cases e
def vd : Vw → Option PyData
  | .d d => some d
  | .w d => some d
  | _ => none
theorem vd_dp {K : PySem.W.Frag} {B H : Hp} {v : V} {w : Vw} {d : PyData} (s : Same B H) (h : OV K B H v w) (e : vd w = some d) : Dp K H v d := by
  cases w with
  | d d' => cases e; exact OV.dp s h
  | w d' => cases e; exact DW.dp h
  | k _ => cases e
  | t _ => cases e
  | xk _ => cases e
  | xl _ => cases e
  | rk _ => cases e
  | xt _ => cases e
def strs2 : PyData → PyData → Bool
  | .str _, .str _ => true
  | _, _ => false
theorem strs2_of {d e : PyData} (h : strs2 d e = true) : ∃ a b, d = .str a ∧ e = .str b := by
  unfold strs2 at h
  split at h
  · exact ⟨_, _, rfl, rfl⟩
  · cases h
theorem dp_str {K : PySem.W.Frag} {H : Hp} {v : V} {x : Str} (h : Dp K H v (.str x)) : v = .str x := by cases h; rfl
theorem str_beq (a b : Str) : decide (V.str a = V.str b) = PyData.eqv (.str a) (.str b) := by
  have e : PyData.eqv (.str a) (.str b) = (a == b) := by simp only [PyData.eqv]
  rw [e]
  by_cases h : a = b
  · subst h
    rw [decide_eq_true rfl]
    simp
  · rw [decide_eq_false (fun z => h (by cases z; rfl))]
    exact (beq_eq_false_iff_ne.mpr h).symm
def eqG (neg : Bool) : Vw → Vw → Option Rv := fun a b => (vd a).bind fun d => (vd b).bind fun e => if SeqAt.shaped d && SeqAt.shaped e || strs2 d e then some (.val (.bool (if neg then !PyData.eqv d e else PyData.eqv d e))) else none
def eqF := eqG false
def neF := eqG true
theorem os_eq {S : Sg} : OpS S (compareOp .Eq) eqF := by
  rintro c hc pins s σ H x y v u Q I rx ry ⟨B, a, b, rv, sB, oa, ob, e, k⟩
  unfold eqF eqG at e
  obtain ⟨d, e1, e⟩ := Option.bind_eq_some_iff.mp e
  obtain ⟨d2, e2, e⟩ := Option.bind_eq_some_iff.mp e
  split at e
  · rename_i hs
    cases e
    rw [Bool.or_eq_true, Bool.and_eq_true] at hs
    rcases hs with hs | hs
    · exact op_eqD hc.room.units pins s σ H _ _ v u Q I rx ry ⟨d, d2, vd_dp sB oa e1, vd_dp sB ob e2, hs.1, hs.2, k _ (.bl _)⟩
    · obtain ⟨a', b', rfl, rfl⟩ := strs2_of hs
      have ex := dp_str (vd_dp sB oa e1)
      have ey := dp_str (vd_dp sB ob e2)
      subst ex ey
      refine L2.op_eq pins s σ H _ _ v u Q I rx ry ⟨rfl, ?_⟩
      have kk := k _ (.bl _)
      simp only [← str_beq] at kk
      exact kk
  · cases e
theorem os_ne {S : Sg} : OpS S (compareOp .NotEq) neF := by
  rintro c hc pins s σ H x y v u Q I rx ry ⟨B, a, b, rv, sB, oa, ob, e, k⟩
  unfold neF eqG at e
  obtain ⟨d, e1, e⟩ := Option.bind_eq_some_iff.mp e
  obtain ⟨d2, e2, e⟩ := Option.bind_eq_some_iff.mp e
  split at e
  · rename_i hs
    cases e
    rw [Bool.or_eq_true, Bool.and_eq_true] at hs
    rcases hs with hs | hs
    · exact op_neD hc.room.units pins s σ H _ _ v u Q I rx ry ⟨d, d2, vd_dp sB oa e1, vd_dp sB ob e2, hs.1, hs.2, k _ (.bl _)⟩
    · obtain ⟨a', b', rfl, rfl⟩ := strs2_of hs
      have ex := dp_str (vd_dp sB oa e1)
      have ey := dp_str (vd_dp sB ob e2)
      subst ex ey
      refine L2.op_ne pins s σ H _ _ v u Q I rx ry ⟨rfl, ?_⟩
      have kk := k _ (.bl _)
      simp only [← str_beq] at kk
      exact kk
  · cases e
section
variable {S : Sg}
def negI : Vw → Option Int
  | .d (.int i) => some i
  | _ => none
def wNeg (wa : WE) : WE := fun Ex δ P => wa Ex δ fun r δ1 => ob (view δ1 r) fun w => ob (negI w) fun i => P (.d (.int (-i))) δ1
theorem de_neg {a : Expr} {wa : WE} {pos : Pos} (ha : DE S a wa) : DE S (.UnaryOp .USub a pos) (wNeg wa) := by
  obtain ⟨t, p, s⟩ := ha
  refine ⟨_, fun c hc => pe_un un_neg (p c hc), ⟨fun Ex Ex' δ P P' hx h w => s.mono _ _ _ _ _ hx (fun r δ1 w => w.imp fun v w => w.imp fun i w => h _ _ w) w, fun Ex F B H vs σ δ P Q hx h w k => ?_⟩⟩
  refine s.run _ _ _ _ _ _ _ _ _ hx h w fun B1 H1 v r δ1 s1 h1 q1 w1 => ?_
  obtain ⟨vw, e1, i, e2, w1⟩ := w1
  have o := view_ok h1 q1 e1
  unfold negI at e2
  split at e2
  · cases e2
    cases ov_int o
    exact ⟨i, rfl, k B1 H1 _ (.d (.int (-i))) δ1 s1 h1 (.int _) w1⟩
  · cases e2
end
end DL
set_option Elab.async false
set_option linter.all false
set_option maxRecDepth 100000
set_option maxHeartbeats 4000000
set_option autoImplicit false
namespace DL
open PySem PySem.Spec PyProof.Rows L2
section
variable {K : PySem.W.Frag} {B H : Hp}
theorem ovs1 {vs : List V} {a : Vw} (h : OVs K B H vs [a]) : ∃ v, vs = [v] ∧ OV K B H v a := by
  cases h with
  | cons q r => cases r; exact ⟨_, rfl, q⟩
theorem ovs2 {vs : List V} {a b : Vw} (h : OVs K B H vs [a, b]) : ∃ v u, vs = [v, u] ∧ OV K B H v a ∧ OV K B H u b := by
  cases h with
  | cons q r => cases r with
    | cons q2 r => cases r; exact ⟨_, _, rfl, q, q2⟩
theorem dpa_length {K : PySem.W.Frag} {H : Hp} : ∀ {vs : List V} {ds : List PyData}, DpAll K H vs ds → vs.length = ds.length
  | _, _, .nil => rfl
  | _, _, .cons _ r => congrArg (· + 1) (dpa_length r)
theorem kds_length {κ : Type} {B : Hp} {ys : List (κ × V)} {kvs : List (κ × PyData)} (h : KDs B ys kvs) : ys.length = kvs.length := Paired.length h
end
def lenD : PyData → Option Nat
  | .str x => if x.length ≤ sizeLine then some x.length else none
  | .list ds => some ds.length
  | .tuple ds => some ds.length
  | _ => none
def lenF : List Vw → Option Rv
  | [.d d] => (lenD d).map fun (n : Nat) => Rv.val (.int (n : Int))
  | [.w d] => (lenD d).map fun (n : Nat) => Rv.val (.int (n : Int))
  | [.k kvs] => some (.val (.int kvs.length))
  | [.rk kvs] => some (.val (.int kvs.length))
  | _ => none
theorem len_dp {K : PySem.W.Frag} {H : Hp} {v : V} {d : PyData} {n : Nat} (h : Dp K H v d) (e : lenD d = some n) : LenV K v H n := by
  cases h with
  | str x =>
    simp only [lenD] at e
    split at e
    · cases e; exact ⟨by assumption, rfl⟩
    · cases e
  | lst r q => cases e; exact .inl ⟨_, r, (dpa_length q).symm⟩
  | tup r q => cases e; exact .inr ⟨_, r, (dpa_length q).symm⟩
  | _ => cases e
theorem call_lenR {X : Cx} : CallR X (.builtin "len") (fun xs H Q => ∃ a kvs, xs = [V.ref a] ∧ Rd H a (.dK kvs) ∧ Q (.int kvs.length) H) := by
  intro pins s σ H xs us Q I r h
  obtain ⟨a, kvs, rfl, ha, q⟩ := h
  obtain ⟨u, rfl, ru⟩ := vals1 r
  cases ru
  exact d_len I ha fun t s' I' => ⟨.int kvs.length, H, I', ⟨t, rfl⟩, q⟩
theorem cs_len {S : Sg} : CallS S (.builtin "len") lenF := by
  rintro c hc pins s σ H xs us Q I rv ⟨B, as, r, sB, ov, e, k⟩
  unfold lenF at e
  split at e
  · obtain ⟨n, e1, e⟩ := Option.map_eq_some_iff.mp e
    cases e
    obtain ⟨v, rfl, q⟩ := ovs1 ov
    exact call_len pins s σ H _ us Q I rv ⟨v, n, rfl, len_dp (OV.dp sB q) e1, k _ (.int _)⟩
  · obtain ⟨n, e1, e⟩ := Option.map_eq_some_iff.mp e
    cases e
    obtain ⟨v, rfl, q⟩ := ovs1 ov
    exact call_len pins s σ H _ us Q I rv ⟨v, n, rfl, len_dp (DW.dp q) e1, k _ (.int _)⟩
  · cases e
    obtain ⟨v, rfl, a, ys, rfl, e1, q⟩ := ovs1 ov
    exact call_lenD pins s σ H _ us Q I rv ⟨a, ys, rfl, e1, by rw [kds_length q]; exact k _ (.int _)⟩
  · cases e
    obtain ⟨v, rfl, a, ys, rfl, e1, q⟩ := ovs1 ov
    exact call_lenR pins s σ H _ us Q I rv ⟨a, ys, rfl, e1, by rw [kds_length q]; exact k _ (.int _)⟩
  · cases e
def listF : List Vw → Option Rv
  | [.d (.list ds)] => some (.lst ds)
  | [.d (.tuple ds)] => some (.lst ds)
  | [.w (.list ds)] => if ds.all scalar then some (.lst ds) else none
  | [.w (.tuple ds)] => if ds.all scalar then some (.lst ds) else none
  | _ => none
theorem cs_list {S : Sg} : CallS S (.type "list") listF := by
  rintro c hc pins s σ H xs us Q I rv ⟨B, as, r, sB, ov, e, k⟩
  unfold listF at e
  split at e
  · cases e
    obtain ⟨v, rfl, q⟩ := ovs1 ov
    obtain ⟨p, zs, rfl, hp, qz⟩ := ov_lst sB q
    exact call_list_of pins s σ H _ us Q I rv ⟨p, zs, rfl, .inl (.inl hp), fun l hl => k l _ hl qz⟩
  · cases e
    obtain ⟨v, rfl, q⟩ := ovs1 ov
    obtain ⟨p, zs, rfl, hp, qz⟩ := ov_tup q
    exact call_list_of pins s σ H _ us Q I rv ⟨p, zs, rfl, .inr (.inl (PlT.mono sB hp).rd), fun l hl => k l _ hl qz⟩
  · split at e
    · rename_i hs
      cases e
      obtain ⟨v, rfl, q⟩ := ovs1 ov
      have q : Dp S.g.K (fun _ => none) v _ := q
      cases q with
      | lst r3 q3 => exact call_list_of pins s σ H _ us Q I rv ⟨_, _, rfl, .inl (L2.Same.seq (fun _ _ z => by cases z) r3), fun l hl => k l _ hl (dp_items q3 hs B)⟩
    · cases e
  · split at e
    · rename_i hs
      cases e
      obtain ⟨v, rfl, q⟩ := ovs1 ov
      have q : Dp S.g.K (fun _ => none) v _ := q
      cases q with
      | tup r3 q3 =>
        refine call_list_of pins s σ H _ us Q I rv ⟨_, _, rfl, .inr ?_, fun l hl => k l _ hl (dp_items q3 hs B)⟩
        rcases r3 with r3 | r3
        · exact .inl (same_rd (B := fun _ => none) (fun _ _ z => by cases z) r3)
        · exact .inr r3
    · cases e
  · cases e
theorem call_tupleP {X : Cx} : CallR X (.type "tuple") (fun xs H Q => ∃ p ys, xs = [.ref p] ∧ ((SqL X.K H p ys ∧ ∀ (l : Addr) (o : Obj), H l = none → o.cls = .type "tuple" → o.dict = none → Q (.ref l) (upd H l (.frz o (.tup ys)))) ∨ (SqT X.K H p ys ∧ Q (.ref p) H))) := by
  intro pins s σ H xs us Q I r h
  obtain ⟨p, ys, rfl, h⟩ := h
  rcases h with ⟨hq, q⟩ | ⟨hq, q⟩
  · obtain ⟨u, rfl, rx⟩ := vals1 r
    cases rx
    obtain ⟨its, r', pl, hz⟩ := I.list hq
    have hlen := r'.length
    refine call_tuple_list pl.isList (fun h' kp => ?_) (by simp only [List.size_toArray] <;> omega)
    have I1 : Inv X pins σ H { s with heap := h' } := I.kept (t' := s.toks) kp
    have I2 : Inv X pins σ (upd H h'.objs.size (.frz { cls := .type "tuple", data := .seq its.toArray } (.tup ys))) { s with heap := h'.push { cls := .type "tuple", data := .seq its.toArray } } :=
      I1.laid (t' := s.toks) (fun b o e => Heap.get?_push_of_some _ e) (Nat.le_refl _) ⟨Heap.get?_push_size _ rfl, (show ObjOk X.prog X.w _ _ _ (.tup ys) from ⟨hz, its, r', IsTup.new _ _⟩)⟩
    exact ⟨.ref h'.objs.size, _, I2, rfl, q _ _ (I1.hok.fresh (Nat.le_refl _)) rfl rfl⟩
  · exact call_tuple_of pins s σ H _ us Q I r ⟨p, ys, rfl, .inr ⟨hq, q⟩⟩
def tupleF : List Vw → Option Rv
  | [.d (.list ds)] => some (.tup ds)
  | [.d (.tuple ds)] => some (.tup ds)
  | _ => none
theorem cs_tuple {S : Sg} : CallS S (.type "tuple") tupleF := by
  rintro c hc pins s σ H xs us Q I rv ⟨B, as, r, sB, ov, e, k⟩
  unfold tupleF at e
  split at e
  · cases e
    obtain ⟨v, rfl, q⟩ := ovs1 ov
    obtain ⟨p, zs, rfl, hp, qz⟩ := ov_lst sB q
    exact call_tupleP pins s σ H _ us Q I rv ⟨p, zs, rfl, .inl ⟨.inl hp, fun l o hl ec ed => k.2 l o _ hl ec ed qz⟩⟩
  · cases e
    obtain ⟨v, rfl, q⟩ := ovs1 ov
    obtain ⟨p, zs, rfl, hp, qz⟩ := ov_tup q
    exact call_tupleP pins s σ H _ us Q I rv ⟨p, zs, rfl, .inr ⟨.inl (PlT.mono sB hp).rd, k.1 _ (.tup hp qz)⟩⟩
  · cases e
/-- text of data: no dict in it, shown within the line, of some depth at most -/
def showOk (d : PyData) : Bool := d.showable && !d.hasDict && decide (d.shown.length ≤ sizeLine) && decide (d.depth ≤ 60)
@[irreducible] def reprF : List Vw → Option Rv
  | [.d d] => if showOk d then some (.val (.str d.shown)) else none
  | [.w d] => if showOk d then some (.val (.str d.shown)) else none
  | _ => none
theorem repr_run {X : Cx} (hg : X.A.guards = some []) (hu : X.A.units + 64 < cLine) {pins : List (Addr × Obj)} {s : Shared} {σ : L2.St} {H : Hp} {v : V} {u : Value} {Q : VK} {d : PyData} (I : Inv X pins σ H s) (r : RelV v u) (h : Dp X.K H v d) (e : showOk d = true) (q : Q (.str d.shown) H) :
    wpAny (model X.prog X.w) X.A (call (.builtin "repr") [u]) (EP X pins σ Q) X.xe s := by
  unfold showOk at e
  simp only [Bool.and_eq_true, Bool.not_eq_true', decide_eq_true_eq] at e
  obtain ⟨⟨⟨h1, h2⟩, h3⟩, h4⟩ := e
  obtain ⟨as, hr⟩ := Dp.reads I d v u h r
  cases hr with
  | none =>
    refine call_repr_gives (typeIs_none s) F.slot_NoneType_repr F.entry_NoneType_repr (F.args_NoneType_repr_1 _) gives_none_repr ⟨.str _, H, I.tok _, ⟨_, rfl⟩, q⟩ (hx := by decide)
  | bool b =>
    refine call_repr_gives (PySem.typeIs_bool s b) F.slot_bool_repr F.entry_bool_repr (F.args_bool_repr_1 _) (gives_bool_repr b) ⟨.str _, H, I.tok _, ⟨_, rfl⟩, ?_⟩ (hx := by cases b <;> decide)
    simpa only [PyData.shown] using q
  | int i t =>
    exact PySem.P.repr_of_int (by simpa [PyData.showable] using h1) ⟨.str _, H, I.tok _, ⟨_, rfl⟩, by simpa only [PyData.shown] using q⟩
  | str x t =>
    refine call_repr_gives (typeIs_str s x t) F.slot_str_repr F.entry_str_repr (F.args_str_repr_1 _) (gives_str_repr x t) ⟨.str _, H, I.tok _, ⟨_, rfl⟩, by simpa only [PyData.shown] using q⟩ (hx := by simpa only [PyData.shown] using h3)
  | list g1 g2 g3 g4 =>
    exact repr_of_reads' (.list g1 g2 g3 g4) h1 (fun z => by rw [h2] at z; cases z) hg (by omega) (fun _ _ e => e) (fun h' u' tk hk => ⟨.str _, H, I.kept (t' := tk) hk, ⟨_, rfl⟩, q⟩) h3
  | tuple g1 g2 g3 g4 =>
    exact repr_of_reads' (.tuple g1 g2 g3 g4) h1 (fun z => by rw [h2] at z; cases z) hg (by omega) (fun _ _ e => e) (fun h' u' tk hk => ⟨.str _, H, I.kept (t' := tk) hk, ⟨_, rfl⟩, q⟩) h3
  | dict => cases h
theorem cs_repr {S : Sg} : CallS S (.builtin "repr") reprF := by
  rintro c hc pins s σ H xs us Q I rv ⟨B, as, r, sB, ov, e, k⟩
  unfold reprF at e
  split at e
  · split at e
    · cases e
      obtain ⟨v, rfl, q⟩ := ovs1 ov
      obtain ⟨u, rfl, ru⟩ := vals1 rv
      exact repr_run hc.gd hc.room.units I ru (OV.dp sB q) (by assumption) (k _ (.str _))
    · cases e
  · split at e
    · cases e
      obtain ⟨v, rfl, q⟩ := ovs1 ov
      obtain ⟨u, rfl, ru⟩ := vals1 rv
      exact repr_run hc.gd hc.room.units I ru (DW.dp q) (by assumption) (k _ (.str _))
    · cases e
  · cases e
end DL
set_option Elab.async false
set_option linter.all false
set_option maxRecDepth 100000
set_option maxHeartbeats 4000000
set_option autoImplicit false
namespace DL
open PySem PySem.Spec PyProof.Rows L2
theorem dds_at {B : Hp} {xs : List V} {ds : List PyData} {i : Int} {d : PyData} (q : DDs B xs ds) (e : atI ds i = some d) : ∃ v, atI xs i = some v ∧ DD B v d := by
  unfold atI at e ⊢
  obtain ⟨j, e1, e2⟩ := Option.bind_eq_some_iff.mp e
  obtain ⟨v, e3, q3⟩ := q.get e2
  exact ⟨v, by rw [q.length, e1]; exact e3, q3⟩
theorem dpa_at {K : PySem.W.Frag} {H : Hp} {i : Int} {d : PyData} : ∀ {xs : List V} {ds : List PyData}, DpAll K H xs ds → ∀ {j : Nat}, ds[j]? = some d → ∃ v, xs[j]? = some v ∧ Dp K H v d
  | _, _, .nil, j, e => by simp at e
  | _, _, .cons q r, 0, e => by simp at e; subst e; exact ⟨_, rfl, q⟩
  | _, _, .cons q r, j + 1, e => by
    obtain ⟨v, e1, q1⟩ := dpa_at (i := i) r (j := j) (by simpa using e)
    exact ⟨v, by simpa using e1, q1⟩
def lookD {κ : Type} [DecidableEq κ] (kvs : List (κ × PyData)) (k : κ) : Option PyData := (kvs.find? fun kv => decide (kv.1 = k)).map (·.2)
theorem kds_look {κ : Type} [DecidableEq κ] {B : Hp} {ys : List (κ × V)} {kvs : List (κ × PyData)} (h : KDs B ys kvs) (k : κ) : (lookD kvs k = none ∧ valV ys k = none) ∨ ∃ v d, lookD kvs k = some d ∧ valV ys k = some v ∧ DD B v d := by
  induction h with
  | nil => exact .inl ⟨rfl, rfl⟩
  | cons q r ih =>
    rename_i p1 p2 l1 l2
    obtain ⟨e, q⟩ := q
    by_cases hk : p2.1 = k
    · have hk1 : p1.1 = k := e.trans hk
      exact .inr ⟨p1.2, p2.2, by unfold lookD; rw [List.find?_cons]; simp [hk], by unfold valV; rw [List.find?_cons]; simp [hk1], q⟩
    · have hk1 : ¬ p1.1 = k := fun z => hk (e ▸ z)
      have g1 : lookD (p2 :: l2) k = lookD l2 k := by unfold lookD; rw [List.find?_cons]; simp [hk]
      have g2 : valV (p1 :: l1) k = valV l1 k := by unfold valV; rw [List.find?_cons]; simp [hk1]
      rw [g1, g2]; exact ih
def keyD : PyData → Option Key
  | .int i => some (.inl i)
  | .str x => some (.inr x)
  | _ => none
theorem key_dd {B : Hp} {v : V} {d : PyData} {k : Key} (e : keyD d = some k) (h : DD B v d) : v = kV k := by
  cases h with
  | int i => cases e; rfl
  | str x => cases e; rfl
  | _ => cases e
/-- what a dict has under a thing: none where the thing can't be a key here -/
def intsD : List PyData → Option (List Int)
  | [] => some []
  | .int i :: ds => (intsD ds).map fun ks => i :: ks
  | _ => none
theorem ints_dd {B : Hp} : ∀ {ds : List PyData} {vs : List V} {ks : List Int}, intsD ds = some ks → DDs B vs ds → vs = ks.map V.int
  | [], _, _, e, q => by cases e; cases q; rfl
  | d :: ds, _, _, e, q => by
    cases q with
    | cons q1 q2 =>
      unfold intsD at e
      split at e
      · rename_i h; cases h
      · rename_i i ds' h
        cases h
        obtain ⟨ks, e2, e⟩ := Option.map_eq_some_iff.mp e
        cases e
        cases q1
        rw [ints_dd e2 q2]; rfl
      · cases e
def keyT : PyData → Option (List Int)
  | .tuple ds => intsD ds
  | _ => none
def dgetF : Vw → PyData → Option (Option PyData)
  | .k kvs, d => (keyD d).map fun k => lookD kvs k
  | _, _ => none
def tgetF : Vw → PyData → Option (Option PyData)
  | .t kvs, d => (keyT d).map fun k => lookD kvs k
  | _, _ => none
theorem isKey_of {P : Program} {w : World} {H : Hp} {h : Heap} {a : Addr} {ks : List Int} (ok : HOk P w H h) (e : PlT H a (ks.map V.int)) : (tupleKind (PySem.intKind P w)).is h ks a := by
  obtain ⟨o, e, _, _⟩ := e
  obtain ⟨_, _, its, r, t⟩ := (show ObjOk P w H h a (.frz o (.tup (ks.map V.int))) from ok a _ e)
  obtain ⟨o1, h1, h2, n, h3⟩ := t
  refine ⟨o1, its.toArray, n, h1, h2, h3, ?_⟩
  have go : ∀ {ks : List Int} {its : List Value}, Vals (ks.map V.int) its → ItemsAre (PySem.intKind P w) ks its := by
    intro ks
    induction ks with
    | nil => intro its r; cases r; exact .nil
    | cons k ks ih =>
      intro its r
      cases r with
      | cons r1 r2 =>
        obtain ⟨t, rfl⟩ : ∃ t, _ = Value.int k t := r1
        exact .cons (by show Value.isInt k (.int k t) = true; simp [Value.isInt]) (ih r2)
  simpa using go r
theorem ti_dict {P : Program} {w : World} {B H : Hp} {h : Heap} {a : Addr} {xs : List (List Int × Addr × Value)} {kvs : List (List Int × PyData)} (ok : HOk P w H h) (s : Same B H) (q : TDi B H a xs kvs) : h.DictOfH (tupleKind (PySem.intKind P w)) a xs := by
  obtain ⟨⟨o, es, ep, h1, h2, h3, h4⟩, _⟩ := (show ObjOk P w H h a (dictI a xs) from ok a _ q.here)
  refine ⟨o, es, ep, h1, h2, h3, h4, fun x hx => ?_, q.nd⟩
  obtain ⟨i, hi, ei⟩ := List.getElem_of_mem hx
  obtain ⟨y, _, _, p, _⟩ := paired_at q.are (i := i) (x := x) (by rw [List.getElem?_eq_getElem hi, ei])
  exact isKey_of ok (p.mono s)
theorem ti_look {B : Hp} {xs : List (List Int × Addr × Value)} {kvs : List (List Int × PyData)} (q : TIs B xs kvs) (k : List Int) : (lookD kvs k = none ∧ atKey xs k = none) ∨ ∃ v d p, lookD kvs k = some d ∧ atKey xs k = some p ∧ RelV v p.2 ∧ DD B v d := by
  induction q with
  | nil => exact .inl ⟨rfl, rfl⟩
  | cons q r ih =>
    rename_i p1 p2 l1 l2
    obtain ⟨e, _, v, rv, q⟩ := q
    by_cases hk : p2.1 = k
    · have hk1 : p1.1 = k := e.trans hk
      exact .inr ⟨v, p2.2, p1.2, by unfold lookD; rw [List.find?_cons]; simp [hk], by unfold atKey; rw [List.find?_cons]; simp [hk1], rv, q⟩
    · have hk1 : ¬ p1.1 = k := fun z => hk (e ▸ z)
      have g1 : lookD (p2 :: l2) k = lookD l2 k := by unfold lookD; rw [List.find?_cons]; simp [hk]
      have g2 : atKey (p1 :: l1) k = atKey l1 k := by unfold atKey; rw [List.find?_cons]; simp [hk1]
      rw [g1, g2]; exact ih
theorem tget_ok {K : PySem.W.Frag} {B H : Hp} {x y : V} {w : Vw} {d : PyData} {o : Option PyData} (ox : OV K B H x w) (oy : OV K B H y (.d d)) (e : tgetF w d = some o) : ∃ a xs kvs b ks, x = .ref a ∧ y = .ref b ∧ TDi B H a xs kvs ∧ PlT B b (ks.map V.int) ∧ lookD kvs ks = o := by
  unfold tgetF at e
  split at e
  · obtain ⟨k, e1, e5⟩ := Option.map_eq_some_iff.mp e
    obtain ⟨a, xs, rfl, q⟩ := ox
    unfold keyT at e1
    split at e1
    · rcases oy with oy | ⟨_, _, _, _, z, _⟩
      · cases oy with
        | @tup b ys _ r q2 =>
          rw [ints_dd e1 q2] at r
          exact ⟨a, xs, _, b, k, rfl, rfl, q, r, e5⟩
      · cases z
    · cases e1
  · cases e
theorem dget_ok {K : PySem.W.Frag} {B H : Hp} {x y : V} {w : Vw} {d : PyData} {o : Option PyData} (sB : Same B H) (ox : OV K B H x w) (oy : OV K B H y (.d d)) (e : dgetF w d = some o) : ∃ a ov, x = .ref a ∧ DGet H a y ov ∧ ((o = none ∧ ov = none) ∨ ∃ v d', o = some d' ∧ ov = some v ∧ DD B v d') := by
  unfold dgetF at e
  split at e
  · obtain ⟨k, e1, e⟩ := Option.map_eq_some_iff.mp e
    obtain ⟨a, ys, rfl, e2, q⟩ := ox
    have ey : y = kV k := by
      rcases oy with oy | ⟨_, _, _, _, z, _⟩
      · exact key_dd e1 oy
      · subst z; cases e1
    subst ey
    refine ⟨a, valV ys k, rfl, DGet.k e2, ?_⟩
    rcases kds_look q k with ⟨z1, z2⟩ | ⟨v, d', z1, z2, q2⟩
    · exact .inl ⟨by rw [← e, z1], z2⟩
    · exact .inr ⟨v, d', by rw [← e, z1], z2, q2⟩
  · cases e
def idxD (d : PyData) (i : Int) : Option PyData := match d with
  | .list ds => atI ds i
  | .tuple ds => atI ds i
  | .str x => if x.length ≤ sizeLine then (atI x.cps.toList i).map fun c => .str ⟨#[c]⟩ else none
  | _ => none
def idxF : Vw → Vw → Option Rv
  | .d d, .d (.int i) => (idxD d i).map .val
  | .w d, .d (.int i) => (idxD d i).bind fun e => if scalar e then some (.val e) else none
  | .k kvs, .d d => ((dgetF (.k kvs) d).bind id).map .val
  | .t kvs, .d d => ((tgetF (.t kvs) d).bind id).map .val
  | _, _ => none
def IxS (S : Sg) (f : Vw → Vw → Option Rv) : Prop := ∀ c, S.ok c → IxR (S.g.cx c) (rF S.g.K f)
theorem ix_all {S : Sg} : IxS S idxF := by
  rintro c hc value slice pins s σ H x y v u Q I rx ry ⟨B, a, b, rv, sB, oa, ob, e, k⟩ hs
  have dict : ∀ {w : Vw} {d : PyData}, OV S.g.K B H x w → OV S.g.K B H y (.d d) → ((dgetF w d).bind id).map Rv.val = some rv → wpAny (model S.g.P S.g.w) c.A (subscriptTail value slice v u) (EP (S.g.cx c) pins σ Q) c.xe s := by
    intro w d ox oy e
    obtain ⟨d', e1, e⟩ := Option.map_eq_some_iff.mp e
    subst e
    obtain ⟨o, e2, e3⟩ := Option.bind_eq_some_iff.mp e1
    have e3 : o = some d' := e3
    subst e3
    obtain ⟨p, ov, rfl, g, z⟩ := dget_ok sB ox oy e2
    rcases z with ⟨z, _⟩ | ⟨v', d2, z, z2, q⟩
    · cases z
    · cases z
      subst z2
      cases rx
      exact tail_any (dict_typeIs I g) F.slot_dict_getitem.lookup (d_getItem (hu_of hc.room) I g ry fun w' s3 I3 rw' => ⟨v', H, I3, rw', k _ q⟩) hs
  have tict : ∀ {w : Vw} {d : PyData}, OV S.g.K B H x w → OV S.g.K B H y (.d d) → ((tgetF w d).bind id).map Rv.val = some rv → wpAny (model S.g.P S.g.w) c.A (subscriptTail value slice v u) (EP (S.g.cx c) pins σ Q) c.xe s := by
    intro w d ox oy e
    obtain ⟨d', e1, e⟩ := Option.map_eq_some_iff.mp e
    subst e
    obtain ⟨o, e2, e3⟩ := Option.bind_eq_some_iff.mp e1
    have e3 : o = some d' := e3
    subst e3
    obtain ⟨p, xs, kvs, b, ks, rfl, rfl, q, pk, lk⟩ := tget_ok ox oy e2
    rcases ti_look q.are ks with ⟨z, _⟩ | ⟨v', d2, pp, z, z2, rv', q2⟩
    · rw [lk] at z; cases z
    · rw [lk] at z; cases z
      cases rx; cases ry
      have dd := ti_dict I.hok sB q
      exact tail_any dd.typeIs F.slot_dict_getitem.lookup (wpAny_getItem_heap (tupleKind_room_in1 (hu_of hc.room)) (isKey_of I.hok (pk.mono sB)) dd z2 ⟨v', H, I.tok _, rv', k _ q2⟩) hs
  unfold idxF at e
  split at e
  · obtain ⟨d, e1, e⟩ := Option.map_eq_some_iff.mp e
    cases e
    cases ov_int ob
    unfold idxD at e1
    split at e1
    · obtain ⟨p, xs, rfl, hp, qx⟩ := ov_lst sB oa
      obtain ⟨z, e2, qz⟩ := dds_at qx e1
      exact ix_list value slice pins s σ H _ _ v u Q I rx ry ⟨p, xs, _, z, rfl, rfl, .inl hp, e2, k _ qz⟩ hs
    · obtain ⟨p, xs, rfl, hp, qx⟩ := ov_tup oa
      obtain ⟨z, e2, qz⟩ := dds_at qx e1
      exact ix_tup value slice pins s σ H _ _ v u Q I rx ry ⟨p, xs, _, z, rfl, rfl, .inl (PlT.mono sB hp).rd, e2, k _ qz⟩ hs
    · split at e1
      · obtain ⟨cc, e2, e1⟩ := Option.map_eq_some_iff.mp e1
        subst e1
        cases ov_str oa
        exact ix_str value slice pins s σ H _ _ v u Q I rx ry ⟨_, _, cc, rfl, rfl, by assumption, e2, k _ (.str _)⟩ hs
      · cases e1
    · cases e1
  · obtain ⟨d, e1, e⟩ := Option.bind_eq_some_iff.mp e
    split at e
    · rename_i hsc
      cases e
      cases ov_int ob
      have oa : Dp S.g.K (fun _ => none) x _ := oa
      unfold idxD atI at e1
      split at e1
      · obtain ⟨j, e2, e3⟩ := Option.bind_eq_some_iff.mp e1
        cases oa with
        | lst r3 q3 =>
          obtain ⟨z, e4, qz⟩ := dpa_at (i := 0) q3 e3
          exact ix_list value slice pins s σ H _ _ v u Q I rx ry ⟨_, _, _, z, rfl, rfl, L2.Same.seq (fun _ _ z => by cases z) r3, by unfold atI; rw [dpa_length q3, e2]; exact e4, k _ (DW.scal qz hsc)⟩ hs
      · obtain ⟨j, e2, e3⟩ := Option.bind_eq_some_iff.mp e1
        cases oa with
        | tup r3 q3 =>
          obtain ⟨z, e4, qz⟩ := dpa_at (i := 0) q3 e3
          refine ix_tup value slice pins s σ H _ _ v u Q I rx ry ⟨_, _, _, z, rfl, rfl, ?_, by unfold atI; rw [dpa_length q3, e2]; exact e4, k _ (DW.scal qz hsc)⟩ hs
          rcases r3 with r3 | r3
          · exact .inl (same_rd (B := fun _ => none) (fun _ _ z => by cases z) r3)
          · exact .inr r3
      · split at e1
        · obtain ⟨cc, e2, e1⟩ := Option.map_eq_some_iff.mp e1
          subst e1
          cases oa
          exact ix_str value slice pins s σ H _ _ v u Q I rx ry ⟨_, _, cc, rfl, rfl, by assumption, e2, k _ (.str _)⟩ hs
        · cases e1
      · cases e1
    · cases e
  · exact dict oa ob e
  · exact tict oa ob e
  · cases e
section
variable {S : Sg}
theorem de_ix {a b : Expr} {wa wb : WE} {pos : Pos} (ha : DE S a wa) (hb : DE S b wb) (hs : PlainIx b := by intro _ _; rfl) : DE S (.Subscript a b pos) (wOp idxF wa wb) := by
  obtain ⟨ta, pa, sa⟩ := ha
  obtain ⟨tb, pb, sb⟩ := hb
  exact ⟨_, fun c hc => pe_ix (ix_all c hc) (pa c hc) (pb c hc) hs, sim_op sa sb⟩
end
abbrev WO := XP → SEnv → (Option Int → SEnv → Prop) → Prop
structure OSim (K : PySem.W.Frag) (E : XK) (t : TO) (W : WO) : Prop where
  mono : ∀ (Ex Ex' : XP) (δ : SEnv) (P P' : Option Int → SEnv → Prop), (∀ e, Ex e → Ex' e) → (∀ r δ', P r δ' → P' r δ') → W Ex δ P → W Ex' δ P'
  run : ∀ (Ex : XP) (F B H : Hp) (vs : List V) (σ : L2.St) (δ : SEnv) (P : Option Int → SEnv → Prop) (Q : Option Int → Hp → Prop), XOk F B E Ex → Rep K F B H vs σ δ → W Ex δ P →
    (∀ B' H' o δ', Same B B' → Rep K F B' H' vs σ δ' → P o δ' → Q o H') → t σ H Q
def DO (S : Sg) (e : Option Expr) (W : WO) : Prop := ∃ t, (∀ c, S.ok c → PO (S.g.cx c) e t) ∧ OSim S.g.K S.E t W
def intV : Vw → Option Int
  | .d (.int i) => some i
  | _ => none
def wNoP : WO := fun _ δ P => P none δ
def wPart (wa : WE) : WO := fun Ex δ P => wa Ex δ fun r δ1 => ob (view δ1 r) fun w => ob (intV w) fun i => P (some i) δ1
theorem intV_ok {K : PySem.W.Frag} {B H : Hp} {v : V} {w : Vw} {i : Int} (o : OV K B H v w) (e : intV w = some i) : v = .int i := by
  unfold intV at e
  split at e
  · cases e; exact ov_int o
  · cases e
def cutL {α : Type} (xs : List α) (lo hi : Option Int) : List α := (xs.drop (HT.sIx xs.length 0 lo)).take (HT.sIx xs.length xs.length hi - HT.sIx xs.length 0 lo)
theorem dds_cut {B : Hp} {xs : List V} {ds : List PyData} (q : DDs B xs ds) (lo hi : Option Int) : DDs B (cutV xs lo hi) (cutL ds lo hi) := by
  unfold cutV cutL
  rw [q.length]
  exact (q.drop _).take _
theorem cut_all {α : Type} {xs : List α} {lo hi : Option Int} (h : HT.sIx xs.length 0 lo = 0 ∧ HT.sIx xs.length xs.length hi = xs.length) : cutL xs lo hi = xs := by
  unfold cutL
  rw [h.1, h.2, List.drop_zero]
  simp
def rSlP (K : PySem.W.Frag) : V → Option Int → Option Int → Hp → VK → Prop := fun x lo hi H Q => ∃ a xs, x = .ref a ∧ SqT K H a xs ∧
  (HT.sIx xs.length 0 lo = 0 ∧ HT.sIx xs.length xs.length hi = xs.length → Q (.ref a) H) ∧ ∀ (p : Addr) (o : Obj), H p = none → o.cls = .type "tuple" → o.dict = none → Q (.ref p) (upd H p (.frz o (.tup (cutV xs lo hi))))
theorem sl_tupP {X : Cx} : SlR X (rSlP X.K) := by
  intro pins s σ H x v vl vu lo hi sl Q I rx hs pl pu h
  obtain ⟨a, xs, rfl, hx, q1, q2⟩ := h
  cases rx
  obtain ⟨its, r, ht, hz⟩ := I.tuple hx
  have hlen : its.toArray.size = xs.length := by rw [List.size_toArray]; exact r.length.symm
  refine ⟨"tuple", _, PyProof.Rows.slot_tuple_getitem.lookup, ht.typeIs, ?_⟩
  by_cases hw : HT.sIx xs.length 0 lo = 0 ∧ HT.sIx xs.length xs.length hi = xs.length
  · exact getItem_tuple_whole ht hs pl pu (by rw [hlen]; exact hw) ⟨.ref a, H, I, rfl, q1 hw⟩
  · refine HT.getItem_tuple_cut ht hs pl pu (by rw [hlen]; exact hw) ?_ (by rw [hlen]; exact hz)
    rw [hlen]
    refine ⟨.ref s.heap.objs.size, _, I.laid (t' := s.toks) (o := .frz _ (.tup (cutV xs lo hi))) (fun b ob q => Heap.get?_push_of_some _ q) (Nat.le_refl _) ⟨Heap.get?_push_size _ rfl, (show ObjOk X.prog X.w _ _ _ (.tup (cutV xs lo hi)) from ?_)⟩, rfl, q2 _ _ (I.hok.fresh (Nat.le_refl _)) rfl rfl⟩
    exact ⟨Nat.le_trans (cutV_length xs lo hi) hz, _, (r.drop (HT.sIx xs.length 0 lo)).take (HT.sIx xs.length xs.length hi - HT.sIx xs.length 0 lo), IsTup.new _ _⟩
def slF (lo hi : Option Int) : Vw → Option Rv
  | .d (.list ds) => some (.lst (cutL ds lo hi))
  | .d (.tuple ds) => some (.tup (cutL ds lo hi))
  | .d (.str x) => if x.length ≤ sizeLine then some (.val (.str (cutS x lo hi))) else none
  | .w (.list ds) => if ds.all scalar then some (.lst (cutL ds lo hi)) else none
  | _ => none
def rSl (K : PySem.W.Frag) : V → Option Int → Option Int → Hp → VK → Prop := fun x lo hi H Q => ∃ B a rv, Same B H ∧ OV K B H x a ∧ slF lo hi a = some rv ∧ RvK B H Q rv
theorem sl_all {X : Cx} : SlR X (rSl X.K) := by
  rintro pins s σ H x v vl vu lo hi sl Q I rx hs pl pu ⟨B, a, rv, sB, oa, e, k⟩
  unfold slF at e
  split at e
  · cases e
    obtain ⟨p, xs, rfl, hp, qx⟩ := ov_lst sB oa
    exact sl_list pins s σ H _ v vl vu lo hi sl Q I rx hs pl pu ⟨p, xs, rfl, .inl hp, fun l hl => k l _ hl (dds_cut qx lo hi)⟩
  · cases e
    obtain ⟨p, xs, rfl, hp, qx⟩ := ov_tup oa
    refine sl_tupP pins s σ H _ v vl vu lo hi sl Q I rx hs pl pu ⟨p, xs, rfl, .inl (PlT.mono sB hp).rd, fun hw => k.1 _ ?_, fun l o hl ec ed => k.2 l o _ hl ec ed (dds_cut qx lo hi)⟩
    rw [qx.length] at hw
    rw [cut_all hw]
    exact .tup hp qx
  · split at e
    · cases e
      cases ov_str oa
      exact sl_str pins s σ H _ v vl vu lo hi sl Q I rx hs pl pu ⟨_, rfl, by assumption, k _ (.str _)⟩
    · cases e
  · split at e
    · rename_i hsc
      cases e
      have oa : Dp X.K (fun _ => none) x _ := oa
      cases oa with
      | lst r3 q3 => exact sl_list pins s σ H _ v vl vu lo hi sl Q I rx hs pl pu ⟨_, _, rfl, L2.Same.seq (fun _ _ z => by cases z) r3, fun l hl => k l _ hl (dds_cut (dp_items q3 hsc B) lo hi)⟩
    · cases e
  · cases e
def wSl (wa : WE) (wl wh : WO) : WE := fun Ex δ P => wa Ex δ fun ra δ1 => ob (settle ra) fun r' => wl Ex δ1 fun lo δ2 => wh Ex δ2 fun hi δ3 => ob (view δ3 r') fun a => ob (slF lo hi a) fun rv => P rv.r δ3
section
variable {S : Sg}
theorem do_none : DO S none wNoP := ⟨tNoPart, fun _ _ => po_none, ⟨fun _ _ _ _ _ _ h w => h _ _ w, fun Ex F B H vs σ δ P Q hx h w k => k B H none δ (Same.refl _) h w⟩⟩
theorem do_some {e : Expr} {wa : WE} (h : DE S e wa) : DO S (some e) (wPart wa) := by
  obtain ⟨t, p, s⟩ := h
  refine ⟨_, fun c hc => po_some (p c hc), ⟨fun Ex Ex' δ P P' hx h w => s.mono _ _ _ _ _ hx (fun r δ1 w => w.imp fun v w => w.imp fun i w => h _ _ w) w, fun Ex F B H vs σ δ P Q hx h w k => ?_⟩⟩
  refine s.run _ _ _ _ _ _ _ _ _ hx h w fun B1 H1 v r δ1 s1 h1 q1 w1 => ?_
  obtain ⟨vw, e1, i, e2, w1⟩ := w1
  exact ⟨i, intV_ok (view_ok h1 q1 e1) e2, k B1 H1 (some i) δ1 s1 h1 w1⟩
theorem de_sl {a : Expr} {lo hi : Option Expr} {wa : WE} {wl wh : WO} {p2 pos : Pos} (ha : DE S a wa) (hl : DO S lo wl) (hh : DO S hi wh) : DE S (.Subscript a (.Slice lo hi none p2) pos) (wSl wa wl wh) := by
  obtain ⟨ta, pa, sa⟩ := ha
  obtain ⟨tl, pl, sl⟩ := hl
  obtain ⟨th, ph, sh⟩ := hh
  refine ⟨tSl (rSl S.g.K) ta tl th, fun c hc => pe_slice (X := S.g.cx c) sl_all (pa c hc) (pl c hc) (ph c hc), ⟨fun Ex Ex' δ P P' hx h w => ?_, fun Ex F B H vs σ δ P Q hx h w k => ?_⟩⟩
  · refine sa.mono _ _ _ _ _ hx (fun r δ1 w => w.imp fun r' w => ?_) w
    refine sl.mono _ _ _ _ _ hx (fun lo δ2 w => ?_) w
    exact sh.mono _ _ _ _ _ hx (fun hi δ3 w => w.imp fun a w => w.imp fun rv w => h _ _ w) w
  · refine sa.run _ _ _ _ _ _ _ _ _ hx h w fun B1 H1 x ra δ1 s1 h1 q1 w1 => ?_
    obtain ⟨r', e1, w1⟩ := w1
    obtain ⟨B2, s2, h2, q2, n2⟩ := settle_ok h1 q1 e1
    refine sl.run _ _ _ _ _ _ _ _ _ (hx.up (s1.trans s2)) h2 w1 fun B3 H3 l δ2 s3 h3 w3 => ?_
    refine sh.run _ _ _ _ _ _ _ _ _ (hx.up ((s1.trans s2).trans s3)) h3 w3 fun B4 H4 u δ3 s4 h4 w4 => ?_
    obtain ⟨a, e2, rv, e4, w4⟩ := w4
    have q4 := RepR.up (H' := H4) (s3.trans s4) q2 n2 (δ' := δ3)
    exact ⟨B4, a, rv, h4.sb, view_ok h4 q4 e2, e4, rvk_ok (((s1.trans s2).trans s3).trans s4) h4 w4 k⟩
end
theorem eqV_eqv {B : Hp} {x y : V} {d e : PyData} (hx : DD B x d) (hy : DD B y e) (fx : flatV x = true) (fy : flatV y = true) : eqV x y = PyData.eqv d e := by
  cases hx <;> cases hy <;> first | rfl | (cases fx; done) | (cases fy; done) | simp [eqV, PyData.eqv]
theorem inV_any {B : Hp} {x : V} {d : PyData} (hx : DD B x d) (fx : flatV x = true) : ∀ {xs : List V} {ds : List PyData}, DDs B xs ds → xs.all flatV = true → inV x xs = ds.any fun z => PyData.eqv z d
  | _, _, .nil, _ => rfl
  | _, _, .cons q r, h => by
    rw [List.all_cons, Bool.and_eq_true] at h
    unfold inV
    rw [List.any_cons, List.any_cons, eqV_eqv q hx h.1 fx]
    have := inV_any hx fx r h.2
    unfold inV at this
    rw [this]
theorem flat_scal {B : Hp} {v : V} {d : PyData} (h : DD B v d) (e : scalar d = true) : flatV v = true := by
  cases h <;> first | rfl | cases e
theorem flats {B : Hp} : ∀ {vs : List V} {ds : List PyData}, DDs B vs ds → ds.all scalar = true → vs.all flatV = true
  | _, _, .nil, _ => rfl
  | _, _, .cons q r, h => by
    rw [List.all_cons, Bool.and_eq_true] at h ⊢
    exact ⟨flat_scal q h.1, flats r h.2⟩
def subIn (a b : Str) : Bool := !(Builtin.Str.occurrences b a 0 b.length 1).isEmpty
def inB : Vw → Vw → Option Bool
  | .d d, .d (.list ds) => if SeqAt.shaped d && SeqAt.shaped (.list ds) then some (ds.any fun z => PyData.eqv z d) else none
  | .d d, .d (.tuple ds) => if scalar d && ds.all scalar then some (ds.any fun z => PyData.eqv z d) else none
  | .d (.str a), .d (.str b) => some (subIn a b)
  | .d d, .k kvs => (dgetF (.k kvs) d).map (·.isSome)
  | .d d, .t kvs => (tgetF (.t kvs) d).map (·.isSome)
  | _, _ => none
def inG (neg : Bool) : Vw → Vw → Option Rv := fun a b => (inB a b).map fun r => .val (.bool (if neg then !r else r))
theorem os_in_ {S : Sg} (neg : Bool) : OpS S (compareOp (if neg then .NotIn else .In)) (inG neg) := by
  rintro c hc pins s σ H x y v u Q I rx ry ⟨B, a, b, rv, sB, oa, ob, e, k⟩
  unfold inG at e
  obtain ⟨r, e1, e2⟩ := Option.map_eq_some_iff.mp e
  clear e
  have e := e1
  clear e1
  subst e2
  have hu : (S.g.cx c).A.units + 65 < cLine := by have := hc.room.un; show c.A.units + 65 < cLine; omega
  have dict : ∀ {w : Vw} {d : PyData}, OV S.g.K B H x (.d d) → OV S.g.K B H y w → (dgetF w d).map (·.isSome) = some r → wpAny (model S.g.P S.g.w) c.A (compareOp (if neg then .NotIn else .In) v u) (EP (S.g.cx c) pins σ Q) c.xe s := by
    intro w d ox oy e
    obtain ⟨o, e2, e3⟩ := Option.map_eq_some_iff.mp e
    obtain ⟨p, ov, rfl, g, z⟩ := dget_ok sB oy ox e2
    have ei : ov.isSome = r := by
      rw [← e3]
      rcases z with ⟨z1, z2⟩ | ⟨_, _, z1, z2, _⟩ <;> rw [z1, z2] <;> rfl
    cases ry
    cases neg
    · exact d_in (hu_of hc.room) I g rx fun s3 I3 => ⟨.bl ov.isSome, H, I3, rfl, by rw [ei]; exact k _ (.bl _)⟩
    · exact d_notIn (hu_of hc.room) I g rx fun s3 I3 => ⟨.bl (!ov.isSome), H, I3, rfl, by rw [ei]; exact k _ (.bl _)⟩
  have tict : ∀ {w : Vw} {d : PyData}, OV S.g.K B H x (.d d) → OV S.g.K B H y w → (tgetF w d).map (·.isSome) = some r → wpAny (model S.g.P S.g.w) c.A (compareOp (if neg then .NotIn else .In) v u) (EP (S.g.cx c) pins σ Q) c.xe s := by
    intro w d ox oy e
    obtain ⟨o, e2, e3⟩ := Option.map_eq_some_iff.mp e
    obtain ⟨p, xs, kvs, b, ks, rfl, rfl, q, pk, lk⟩ := tget_ok oy ox e2
    have dd := ti_dict I.hok sB q
    have ei : (atKey xs ks).isSome = r := by
      rw [← e3, ← lk]
      rcases ti_look q.are ks with ⟨z1, z2⟩ | ⟨_, _, _, z1, z2, _⟩ <;> rw [z1, z2] <;> rfl
    cases rx; cases ry
    cases neg
    · exact wpAny_in_heap (tupleKind_room_in1 (hu_of hc.room)) (isKey_of I.hok (pk.mono sB)) q.big dd (by rw [ei]; exact ⟨.bl r, H, I.tok _, rfl, k _ (.bl _)⟩)
    · exact wpAny_notIn_heap (tupleKind_room_in1 (hu_of hc.room)) (isKey_of I.hok (pk.mono sB)) q.big dd (by rw [ei]; exact ⟨.bl (!r), H, I.tok _, rfl, k _ (.bl _)⟩)
  unfold inB at e
  split at e
  · split at e
    · rename_i hs
      cases e
      rw [Bool.and_eq_true] at hs
      cases neg
      · exact op_inD hu pins s σ H _ _ v u Q I rx ry ⟨_, _, OV.dp sB oa, OV.dp sB ob, hs.1, hs.2, k _ (.bl _)⟩
      · exact op_notInD hu pins s σ H _ _ v u Q I rx ry ⟨_, _, OV.dp sB oa, OV.dp sB ob, hs.1, hs.2, k _ (.bl _)⟩
    · cases e
  · split at e
    · rename_i d1 ds1 hs
      cases e
      rw [Bool.and_eq_true] at hs
      obtain ⟨p, xs, rfl, hp, qx⟩ := ov_tup ob
      have qd : DD B x d1 := by
        rcases oa with oa | ⟨_, _, _, _, z, _⟩
        · exact oa
        · subst z; cases hs.1
      have f1 := flat_scal qd hs.1
      have f2 := flats qx hs.2
      have ei := inV_any qd f1 qx f2
      cases neg
      · exact op_in_seq pins s σ H _ _ v u Q I rx ry ⟨p, xs, rfl, .inr (.inl (PlT.mono sB hp).rd), f1, f2, by rw [ei]; exact k _ (.bl _)⟩
      · exact op_notIn_seq pins s σ H _ _ v u Q I rx ry ⟨p, xs, rfl, .inr (.inl (PlT.mono sB hp).rd), f1, f2, by rw [ei]; exact k _ (.bl _)⟩
    · cases e
  · cases e
    cases ov_str oa; cases ov_str ob
    cases neg
    · exact op_in_str pins s σ H _ _ v u Q I rx ry ⟨_, _, rfl, rfl, k _ (.bl _)⟩
    · exact op_notin_str pins s σ H _ _ v u Q I rx ry ⟨_, _, rfl, rfl, k _ (.bl _)⟩
  · exact dict oa ob e
  · exact tict oa ob e
  · cases e
end DL
set_option Elab.async false
set_option linter.all false
set_option maxRecDepth 100000
set_option maxHeartbeats 4000000
set_option autoImplicit false
namespace DL
open PySem PySem.Spec PyProof.Rows L2
def wChn (f f' : Vw → Vw → Option Rv) (wa wb wc : WE) : WE := fun Ex δ P => wa Ex δ fun ra δ1 => ob (settle ra) fun ra' => wb Ex δ1 fun rb δ2 => ob (settle rb) fun rb' => ob (view δ2 ra') fun a => ob (view δ2 rb') fun b => ob (f a b) fun rv => ob (isB rv.r) fun k =>
  if k = true then wc Ex δ2 fun rc δ3 => ob (view δ3 rb') fun b' => ob (view δ3 rc) fun c => ob (f' b' c) fun rv' => P rv'.r δ3 else P (.d (.bool false)) δ2
theorem rvk_bool {K : PySem.W.Frag} {F B0 B H : Hp} {vs : List V} {σ : L2.St} {δ : SEnv} {rv : Rv} {k : Bool} (e : isB rv.r = some k) {Q : VK} (h : Q (.bl k) H) : RvK B H Q rv := by
  cases rv with
  | val d =>
    cases d with
    | bool b => cases e; intro z q; cases q; exact h
    | _ => cases e
  | _ => cases e
theorem sim_chn {K : PySem.W.Frag} {E : XK} {ta tb tc : TE} {wa wb wc : WE} {f f' : Vw → Vw → Option Rv} (sa : ESim K E ta wa) (sb : ESim K E tb wb) (sc : ESim K E tc wc) : ESim K E (tChain (rF K f) (rF K f') ta tb tc) (wChn f f' wa wb wc) := by
  refine ⟨fun Ex Ex' δ P P' hx h w => ?_, fun Ex F B H vs σ δ P Q hx h w k => ?_⟩
  · refine sa.mono _ _ _ _ _ hx (fun ra δ1 w => w.imp fun ra' w => ?_) w
    refine sb.mono _ _ _ _ _ hx (fun rb δ2 w => w.imp fun rb' w => w.imp fun a w => w.imp fun b w => w.imp fun rv w => w.imp fun kk w => ?_) w
    cases kk with
    | false => exact h _ _ w
    | true => exact sc.mono _ _ _ _ _ hx (fun rc δ3 w => w.imp fun b' w => w.imp fun c w => w.imp fun rv' w => h _ _ w) w
  · refine sa.run _ _ _ _ _ _ _ _ _ hx h w fun B1 H1 x ra δ1 s1 h1 q1 w1 => ?_
    obtain ⟨ra', e1, w1⟩ := w1
    obtain ⟨B2, s2, h2, q2, n2⟩ := settle_ok h1 q1 e1
    refine sb.run _ _ _ _ _ _ _ _ _ (hx.up (s1.trans s2)) h2 w1 fun B3 H3 y rb δ2 s3 h3 q3 w3 => ?_
    obtain ⟨rb', e2, a, e3, b, e4, rv, e5, kk, e6, w3⟩ := w3
    obtain ⟨B4, s4, h4, q4, n4⟩ := settle_ok h3 q3 e2
    have qa := RepR.up (H' := H3) (s3.trans s4) q2 n2 (δ' := δ2)
    have s14 := ((s1.trans s2).trans s3).trans s4
    refine ⟨B4, a, b, rv, h4.sb, view_ok h4 qa e3, view_ok h4 q4 e4, e5, rvk_bool (K := K) (F := F) (B0 := B) (vs := vs) (σ := σ) (δ := δ2) e6 ⟨kk, rfl, ?_⟩⟩
    cases kk with
    | false => exact k B4 H3 _ (.d (.bool false)) δ2 s14 h4 (DD.bl false) w3
    | true =>
      refine sc.run _ _ _ _ _ _ _ _ _ (hx.up s14) h4 w3 fun B5 H5 z rc δ3 s5 h5 q5 w5 => ?_
      obtain ⟨b', e7, c, e8, rv', e9, w5⟩ := w5
      have qb := RepR.up (H' := H5) s5 q4 n4 (δ' := δ3)
      exact ⟨B5, b', c, rv', h5.sb, view_ok h5 qb e7, view_ok h5 q5 e8, e9, rvk_ok (s14.trans s5) h5 w5 k⟩
section
variable {S : Sg}
theorem de_chn {a b c : Expr} {wa wb wc : WE} {pos : Pos} {op op' : CmpOp} {f f' : Vw → Vw → Option Rv} (ho : OpS S (compareOp op) f) (ho' : OpS S (compareOp op') f') (ha : DE S a wa) (hb : DE S b wb) (hc : DE S c wc)
    (hm : lastMarks [op, op'] [b, c] = false := by with_unfolding_all rfl) : DE S (.Compare a [op, op'] [b, c] pos) (wChn f f' wa wb wc) := by
  obtain ⟨ta, pa, sa⟩ := ha
  obtain ⟨tb, pb, sb⟩ := hb
  obtain ⟨tc, pc, sc⟩ := hc
  exact ⟨_, fun c hc => pe_chain (ho c hc) (ho' c hc) (pa c hc) (pb c hc) (pc c hc) hm, sim_chn sa sb sc⟩
def dV : Vw → Option PyData
  | .d d => some d
  | _ => none
def dI : Vw → Option PyData
  | .d d => some d
  | .xt ds => some (.tuple ds)
  | _ => none
end
def putD {κ : Type} [DecidableEq κ] (kvs : List (κ × PyData)) (k : κ) (d : PyData) : List (κ × PyData) :=
  if (kvs.any fun kv => decide (kv.1 = k)) = true then kvs.map (fun kv => if kv.1 = k then (kv.1, d) else kv) else kvs ++ [(k, d)]
theorem kds_any {κ : Type} [DecidableEq κ] {B : Hp} {ys : List (κ × V)} {kvs : List (κ × PyData)} (h : KDs B ys kvs) (k : κ) : (ys.any fun kv => decide (kv.1 = k)) = kvs.any fun kv => decide (kv.1 = k) := by
  induction h with
  | nil => rfl
  | cons q r ih => rw [List.any_cons, List.any_cons, ih, q.1]
theorem kds_map {κ : Type} [DecidableEq κ] {B : Hp} {ys : List (κ × V)} {kvs : List (κ × PyData)} (h : KDs B ys kvs) {k : κ} {v : V} {d : PyData} (q : DD B v d) : KDs B (ys.map fun kv => if kv.1 = k then (kv.1, v) else kv) (kvs.map fun kv => if kv.1 = k then (kv.1, d) else kv) := by
  induction h with
  | nil => exact .nil
  | cons q1 r ih =>
    rename_i p1 p2 l1 l2
    rw [List.map_cons, List.map_cons]
    refine .cons ?_ ih
    by_cases hk : p2.1 = k
    · rw [if_pos (q1.1.trans hk), if_pos hk]; exact ⟨q1.1, q⟩
    · rw [if_neg (fun z => hk (q1.1 ▸ z)), if_neg hk]; exact q1
theorem kds_app {κ : Type} {B : Hp} {ys zs : List (κ × V)} {kvs jvs : List (κ × PyData)} (h : KDs B ys kvs) (h2 : KDs B zs jvs) : KDs B (ys ++ zs) (kvs ++ jvs) := by
  induction h with
  | nil => exact h2
  | cons q r ih => exact .cons q ih
theorem kds_put {κ : Type} [DecidableEq κ] {B : Hp} {ys : List (κ × V)} {kvs : List (κ × PyData)} (h : KDs B ys kvs) {k : κ} {v : V} {d : PyData} (q : DD B v d) : KDs B (putK ys k v) (putD kvs k d) := by
  unfold putK putD
  rw [kds_any h k]
  split
  · exact kds_map h q
  · exact kds_app h (.cons ⟨rfl, q⟩ .nil)
def mergeD (kvs more : List (Key × PyData)) : List (Key × PyData) := more.foldl (fun acc kv => putD acc kv.1 kv.2) kvs
theorem kds_merge {B : Hp} {ys : List (Key × V)} {kvs : List (Key × PyData)} (h : KDs B ys kvs) : ∀ {y0 : List (Key × V)} {k0 : List (Key × PyData)}, KDs B y0 k0 → KDs B (mergeK y0 ys) (mergeD k0 kvs) := by
  induction h with
  | nil => intro y0 k0 h0; exact h0
  | cons q r ih =>
    intro y0 k0 h0
    unfold mergeK mergeD
    rw [List.foldl_cons, List.foldl_cons, q.1]
    exact ih (kds_put h0 q.2)
def wPairs : List (WE × WE) → XP → SEnv → (List (Key × PyData) → SEnv → Prop) → Prop
  | [], _, δ, P => P [] δ
  | (wk, wv) :: r, Ex, δ, P => wk Ex δ fun rk δ1 => ob (view δ1 rk) fun a => ob (dV a) fun dk => ob (keyD dk) fun k => wv Ex δ1 fun rv δ2 => ob (frz δ2 rv) fun p => wPairs r Ex p.2 fun kvs δ3 => P ((k, p.1) :: kvs) δ3
def wDisp (ps : List (WE × WE)) : WE := fun Ex δ P => wPairs ps Ex δ fun kvs δ1 => kvs.length ≤ 15 ∧ P (.n (.k (mergeD [] kvs))) δ1
def DPs (S : Sg) (pos : Pos) (keys : List (Option Expr)) (values : List Expr) (ws : List (WE × WE)) : Prop := ∃ trs : List (TE × TE), (∀ c, S.ok c → PPs (S.g.cx c) pos keys values trs) ∧ Paired (fun (t : TE × TE) (w : WE × WE) => ESim S.g.K S.E t.1 w.1 ∧ ESim S.g.K S.E t.2 w.2) trs ws
section
variable {S : Sg}
theorem dps_nil {pos : Pos} : DPs S pos [] [] [] := ⟨[], fun _ _ => pps_nil, .nil⟩
theorem dps_cons {pos : Pos} {k v : Expr} {ks : List (Option Expr)} {vs : List Expr} {wk wv : WE} {ws : List (WE × WE)} (hk : DE S k wk) (hv : DE S v wv) (hr : DPs S pos ks vs ws) : DPs S pos (some k :: ks) (v :: vs) ((wk, wv) :: ws) := by
  obtain ⟨tk, pk, sk⟩ := hk
  obtain ⟨tv, pv, sv⟩ := hv
  obtain ⟨tr, pr, sr⟩ := hr
  exact ⟨(tk, tv) :: tr, fun c hc => pps_cons (pk c hc) (pv c hc) (pr c hc), .cons ⟨sk, sv⟩ sr⟩
theorem pairs_mono {K : PySem.W.Frag} {E : XK} : ∀ {trs : List (TE × TE)} {ws : List (WE × WE)}, Paired (fun (t : TE × TE) (w : WE × WE) => ESim K E t.1 w.1 ∧ ESim K E t.2 w.2) trs ws → ∀ (Ex Ex' : XP) (δ : SEnv) (P P' : List (Key × PyData) → SEnv → Prop), (∀ e, Ex e → Ex' e) → (∀ r δ', P r δ' → P' r δ') → wPairs ws Ex δ P → wPairs ws Ex' δ P'
  | _, _, .nil, Ex, Ex', δ, P, P', hx, h, w => h _ _ w
  | _, _, .cons (b := (wk, wv)) q r, Ex, Ex', δ, P, P', hx, h, w => by
    refine q.1.mono _ _ _ _ _ hx (fun rk δ1 w => w.imp fun a w => w.imp fun dk w => w.imp fun k w => ?_) w
    refine q.2.mono _ _ _ _ _ hx (fun rv δ2 w => w.imp fun p w => ?_) w
    exact pairs_mono r Ex Ex' _ _ _ hx (fun kvs δ3 w => h _ _ w) w
theorem pairs_run {K : PySem.W.Frag} {E : XK} {vs : List V} {σ : L2.St} : ∀ {trs : List (TE × TE)} {ws : List (WE × WE)}, Paired (fun (t : TE × TE) (w : WE × WE) => ESim K E t.1 w.1 ∧ ESim K E t.2 w.2) trs ws → ∀ (Ex : XP) (F B H : Hp) (δ : SEnv) (P : List (Key × PyData) → SEnv → Prop) (Q : List (V × V) → Hp → Prop), XOk F B E Ex → Rep K F B H vs σ δ → wPairs ws Ex δ P →
    (∀ B' H' ys kvs δ', Same B B' → Rep K F B' H' vs σ δ' → KDs B' ys kvs → P kvs δ' → Q (ys.map fun kv => (kV kv.1, kv.2)) H') → tPairs trs σ H Q
  | _, _, .nil, Ex, F, B, H, δ, P, Q, hx, h, w, k => k B H [] [] δ (Same.refl _) h .nil w
  | _, _, .cons (a := (tk, tv)) (b := (wk, wv)) q r, Ex, F, B, H, δ, P, Q, hx, h, w, kk => by
    refine q.1.run _ _ _ _ _ _ _ _ _ hx h w fun B1 H1 x rk δ1 s1 h1 q1 w1 => ?_
    obtain ⟨a, e1, dk, e2, k, e3, w1⟩ := w1
    have o := view_ok h1 q1 e1
    have ex : x = kV k := by
      cases a with
      | d d =>
        cases e2
        rcases o with o | ⟨_, _, _, _, z, _⟩
        · exact key_dd e3 o
        · subst z; cases e3
      | _ => cases e2
    subst ex
    refine q.2.run _ _ _ _ _ _ _ _ _ (hx.up s1) h1 w1 fun B2 H2 y rv δ2 s2 h2 q2 w2 => ?_
    obtain ⟨⟨d, δ3⟩, e4, w2⟩ := w2
    obtain ⟨B3, s3, h3, q3⟩ := frz_ok h2 q2 e4
    refine pairs_run r Ex F B3 H2 δ3 _ _ (hx.up ((s1.trans s2).trans s3)) h3 w2 fun B4 H4 ys kvs δ4 s4 h4 q4 w4 => ?_
    exact kk B4 H4 ((k, y) :: ys) ((k, d) :: kvs) δ4 (((s1.trans s2).trans s3).trans s4) h4 (.cons ⟨rfl, q3.mono s4⟩ q4) w4
theorem de_disp {pos : Pos} {keys : List (Option Expr)} {values : List Expr} {ws : List (WE × WE)} (h : DPs S pos keys values ws) (hall : keys.all (·.isSome) = true := by rfl) (hl : keys.length = values.length := by rfl) (h0 : keys ≠ [] := by exact fun z => nomatch z) (h15 : keys.length ≤ 15 := by decide) : DE S (.Dict keys values pos) (wDisp ws) := by
  obtain ⟨trs, p, s⟩ := h
  refine ⟨tDisp trs, fun c hc => pe_disp (p c hc) hall hl h0 h15, ⟨fun Ex Ex' δ P P' hx h w => pairs_mono s Ex Ex' δ _ _ hx (fun kvs δ1 w => ⟨w.1, h _ _ w.2⟩) w, fun Ex F B H vs σ δ P Q hx h w k => ?_⟩⟩
  intro p hp
  refine pairs_run s Ex (upd F p (.dK [])) B _ δ _ _ (fun cls da B' H' fs fds t1 t2 t3 t4 t5 t6 t7 => hx cls da B' H' fs fds t1 t2 (fun a o e => t3 a o (by rw [upd_ne (ne_of_none e (nof h.sf hp))]; exact e)) (fun a o e => t4 a o (by rw [upd_ne (ne_of_none e (nof h.sf hp))]; exact e)) t5 t6 t7) (h.lay hp _) w fun B1 H1 ys kvs δ1 s1 h1 q1 w1 => ?_
  have e1 : H1 p = some (.dK []) := h1.sf p _ upd_same
  have hF : F p = none := nof h.sf hp
  refine ⟨e1, ys, rfl, by rw [kds_length q1]; exact w1.1, ?_⟩
  have h2 := (h1.relay (o' := .dK (mergeK [] ys))).unlay hF
  have h1' := h1.relay (o' := .dK (mergeK [] ys))
  exact k B1 _ (.ref p) (.n (.k (mergeD [] kvs))) δ1 s1 h2 ⟨p, rfl, foot_bf rfl (h1.dj p _ upd_same) hF, ⟨_, upd_same, kds_merge q1 .nil⟩, h1'.off⟩ w1.2
theorem de_dnew {pos : Pos} : DE S (.Dict [] [] pos) (fun _ δ P => P (.n (.k [])) δ) := by
  refine ⟨tDNewK, fun c hc => pe_dnewK, ⟨fun Ex Ex' δ P P' hx h w => h _ _ w, fun Ex F B H vs σ δ P Q hx h w k => ?_⟩⟩
  intro p hp
  exact k B _ (.ref p) (.n (.k [])) δ (Same.refl _) (h.newO hp _) ⟨p, rfl, foot_bf rfl (nof h.sb hp) (nof h.sf hp), ⟨[], upd_same, .nil⟩, h.fresh hp _⟩ w
end
end DL
set_option Elab.async false
set_option linter.all false
set_option maxRecDepth 100000
set_option maxHeartbeats 4000000
set_option autoImplicit false
namespace DL
open PySem PySem.Spec PyProof.Rows L2
section
variable {K : PySem.W.Frag} {F B H : Hp} {vs : List V} {σ : L2.St} {δ : SEnv}
/-- an object of one's own is changed -/
theorem Rep.mutate (h : Rep K F B H vs σ δ) {i : Nat} {a : Addr} {b : Bool} {c c' : Cont} {o : HO} (e : δ[i]? = some (some (.o b c))) (ea : σ[i]? = some (some (.ref a))) (q : ContOk B (upd H a o) a c') (hf : ∀ p, Foot (upd H a o) a c' p → Foot H a c p := by exact fun _ z => z) (hr : c.real = true := by rfl) :
    Rep K F B (upd H a o) vs σ (δ.set i (some (.o b c'))) := by
  obtain ⟨hBF, _⟩ := h.own_up e ea
  have hB := (hBF a (foot_self hr)).1
  have hF := (hBF a (foot_self hr)).2
  have ne : ∀ {j : Nat} {b2 : Bool} {c2 : Cont} {a2 p : Addr}, j ≠ i → δ[j]? = some (some (.o b2 c2)) → σ[j]? = some (some (.ref a2)) → Foot H a2 c2 p → p ≠ a := fun n z e2 f w => by
    subst w; exact n (h.apart _ _ _ _ _ _ _ _ _ z e e2 ea f (foot_self hr))
  have sm : ∀ {j : Nat} {b2 : Bool} {c2 : Cont} {a2 p : Addr}, j ≠ i → δ[j]? = some (some (.o b2 c2)) → σ[j]? = some (some (.ref a2)) → (Foot (upd H a o) a2 c2 p ↔ Foot H a2 c2 p) := fun n z e2 => foot_eq fun p f => upd_ne (ne n z e2 f)
  refine ⟨fun p u z => ?_, fun p u z => ?_, h.dj, by rw [List.length_set]; exact h.len, fun j s z => ?_, fun j k a1 a2 p b1 c1 b2 c2 z1 z2 z3 z4 f1 f2 => ?_, fun j c1 z => ?_, h.nt⟩
  · rw [upd_ne (ne_of_none z hB)]; exact h.sb p u z
  · rw [upd_ne (ne_of_none z hF)]; exact h.sf p u z
  · rcases set_get z with ⟨ej, z'⟩ | ⟨n, z'⟩
    · subst ej; cases z'; exact ⟨_, ea, a, rfl, fun p f => hBF p (hf p f), q⟩
    · obtain ⟨v, e2, q2⟩ := h.ok j s z'
      refine ⟨v, e2, ?_⟩
      cases s with
      | d d => exact q2
      | w d => exact q2
      | o b2 c2 =>
        obtain ⟨p, e3, hBF2, q3⟩ := q2
        subst e3
        exact ⟨p, rfl, fun r f => hBF2 r ((sm n z' e2).mp f), q3.mono (Same.refl _) fun r f => upd_ne (ne n z' e2 f)⟩
  · rcases set_get z1 with ⟨ej, y1⟩ | ⟨nj, y1⟩
    · rcases set_get z2 with ⟨ek, y2⟩ | ⟨nk, y2⟩
      · rw [ej, ek]
      · cases y1; subst ej
        rw [ea] at z3; cases z3
        exact h.apart _ k _ a2 p _ c _ c2 e y2 ea z4 (hf p f1) ((sm nk y2 z4).mp f2)
    · rcases set_get z2 with ⟨ek, y2⟩ | ⟨nk, y2⟩
      · cases y2; subst ek
        rw [ea] at z4; cases z4
        exact h.apart j _ a1 _ p b1 c1 _ c y1 e z3 ea ((sm nj y1 z3).mp f1) (hf p f2)
      · exact h.apart j k a1 a2 p b1 c1 b2 c2 y1 y2 z3 z4 ((sm nj y1 z3).mp f1) ((sm nk y2 z4).mp f2)
  · rcases set_get z with ⟨ej, z'⟩ | ⟨n, z'⟩
    · subst ej; cases z'; exact h.bor _ c e
    · exact h.bor j c1 z'
theorem own_at (h : Rep K F B H vs σ δ) {i : Nat} {b : Bool} {c : Cont} {v : V} (e : δ[i]? = some (some (.o b c))) (ev : σ[i]? = some (some v)) : ∃ a, v = .ref a ∧ (∀ p, Foot H a c p → B p = none ∧ F p = none) ∧ ContOk B H a c := by
  obtain ⟨v0, e0, q⟩ := h.ok i _ e
  rw [ev] at e0; cases e0
  exact q
end
def ownL (δ : SEnv) (i : Nat) : Option (Bool × List PyData) := match δ[i]? with
  | some (some (.o b (.l ds))) => some (b, ds)
  | _ => none
theorem ownL_at {δ : SEnv} {i : Nat} {b : Bool} {ds : List PyData} (h : ownL δ i = some (b, ds)) : δ[i]? = some (some (.o b (.l ds))) := by
  unfold ownL at h
  split at h
  · cases h; assumption
  · cases h
def wApp (i : Nat) (wa : WE) : WE := fun Ex δ P => ob (ownL δ i) fun _ => wa Ex δ fun r δ1 => ob (frz δ1 r) fun p => ob (ownL p.2 i) fun q => q.2.length < sizeLine ∧ P (.d .none) (p.2.set i (some (.o q.1 (.l (q.2 ++ [p.1])))))
theorem mt_extendRd {X : Cx} : MtR X "list.extend" fun x vs H Q => ∃ l b xs zs, x = .ref l ∧ vs = [.ref b] ∧ H l = some (.lst xs) ∧ Rd H b (.lst zs) ∧ xs.length + zs.length ≤ sizeLine ∧ Q .non (upd H l (.lst (xs ++ zs))) := by
  rintro pins s σ H x vs v us Q I rx rv ⟨l, b, xs, zs, rfl, rfl, hl, hb, hz, q⟩
  cases rx
  obtain ⟨u, rfl, ru⟩ := rv.one
  cases ru
  obtain ⟨z1, its, n, r, e⟩ := I.hok l _ hl
  obtain ⟨z2, its2, n2, r2, e2⟩ := hb.ok I.hok
  have l1 := r.length
  have l2 := r2.length
  have tot : its.toArray.size + its2.toArray.size ≤ sizeLine := by rw [List.size_toArray, List.size_toArray]; omega
  refine call_meets F.slot_list_extend ⟨_, e, rfl⟩ F.entry_list_extend (F.args_list_extend_2 _ _) (AutoSeq1.list_extend_list_list_0 l its.toArray n b its2.toArray n2 (by rw [notLongL tot, Bool.and_false]; exact Bool.false_ne_true) (by rw [List.size_toArray]; omega) (by omega)) ⟨e, e2, ?_⟩
  exact ⟨.non, _, I.lset (its' := its ++ its2) hl e (by simp) (r.append r2) (by rw [List.length_append]; omega), rfl, q⟩
section
variable {S : Sg}
theorem vis_v {c : Cl} (hc : S.ok c) {i : Nat} {x : Str} {p : Pos} (hN : S.N[i]? = some x) (hv : Vis S.sc x) (hd : (x == ("__debug__" : Str)) = false) (hcd : (x == ("__classdict__" : Str)) = false) : PE (S.g.cx c) (.Name x p) (tVar i) :=
  pe_var (by show c.N[i]? = _; rw [hc.hN]; exact hN) (by show Vis c.env.scope x; rw [hc.hs]; exact hv) hd hcd
/-- how a method with one argument is called on a name -/
def few (cpos : Pos) (e : Expr) : Prop := ∀ env, ((backTo cpos (starEach [e] env)).all (fun x => !x.1) && (backToKw cpos (keywordEach [] env)).all (fun x => x.1.isSome) && decide ([e].length + ([] : List Keyword).length + (if ([] : List Keyword).isEmpty then 0 else 1) < 30)) = true
theorem de_app {i : Nat} {x : Str} {e : Expr} {wa : WE} {p apos cpos : Pos} (hN : S.N[i]? = some x) (hv : Vis S.sc x) (ha : DE S e wa) (hd : (x == ("__debug__" : Str)) = false := by decide) (hcd : (x == ("__classdict__" : Str)) = false := by decide)
    (hb : ∀ env, attributeBase (.Name x p) "append" env (eval (.Name x p) env) = eval (.Name x p) env := by intro _; rfl) (hf : few cpos e := by intro _; rfl) (hl : (apos.endLine == cpos.line) = true := by rfl)
    (hs : ∀ env, starEach [e] env = (false, eval e env) :: starEach [] env := by intro _; rfl) (hp : ∀ env, (backTo cpos (starEach [] env)).any (·.1) = false := by intro _; rfl) :
    DE S (.Call (.Attribute (.Name x p) "append" apos) [e] [] cpos) (wApp i wa) := by
  obtain ⟨t, pa, s⟩ := ha
  refine ⟨tBM S.g.K "list" rAppend (tVar i) (tCons t tNil), fun c hc => pe_bm (X := S.g.cx c) PySem.F.plainAttrs_list PySem.F.slot_list_append PySem.F.type_list_append mt_append (vis_v hc hN hv hd hcd) (pa_cons (pa c hc) pa_nil (hs _)) (hb _) (hf _) hl (hs _) (hp _), ⟨fun Ex Ex' δ P P' hx h w => ?_, fun Ex F B H vs σ δ P Q hx h w k => ?_⟩⟩
  · exact w.imp fun _ w => s.mono _ _ _ _ _ hx (fun r δ1 w => w.imp fun p w => w.imp fun q w => ⟨w.1, h _ _ w.2⟩) w
  · obtain ⟨⟨b0, ds0⟩, e0, w⟩ := w
    have a0 := ownL_at e0
    obtain ⟨v, ev, a, rfl, hBF, xs, hx0, q0⟩ := h.ok i _ a0
    refine ⟨_, ev, .inl ⟨rfl, xs, SqL.of hx0⟩, ?_⟩
    refine s.run _ _ _ _ _ _ _ _ _ hx h w fun B1 H1 y r δ1 s1 h1 q1 w1 => ?_
    obtain ⟨⟨d, δ2⟩, e1, ⟨b, ds⟩, e2, hl2, w1⟩ := w1
    obtain ⟨B2, s2, h2, q2⟩ := frz_ok h1 q1 e1
    have a2 := ownL_at e2
    obtain ⟨a', ea, hBF2, ys, hy, qy⟩ := own_at h2 a2 ev
    cases ea
    refine ⟨a, ys, y, rfl, rfl, hy, by rw [qy.length]; exact hl2, ?_⟩
    exact k B2 _ .non (.d .none) _ (s1.trans s2) (h2.mutate (c' := .l (ds ++ [d])) a2 ev ⟨_, upd_same, qy.snoc q2⟩) .non w1
end
def putF (c : Cont) (k : PyData) (d : PyData) : Option Cont := match c with
  | .l ds => match k with
    | .int i => (ixN ds.length i).map fun j => .l (ds.set j d)
    | _ => none
  | .k kvs => if kvs.length < sizeLine then (keyD k).map fun kk => .k (putD kvs kk d) else none
  | _ => none
def ownC (δ : SEnv) (i : Nat) : Option (Bool × Cont) := match δ[i]? with
  | some (some (.o b c)) => some (b, c)
  | _ => none
theorem ownC_at {δ : SEnv} {i : Nat} {b : Bool} {c : Cont} (h : ownC δ i = some (b, c)) : δ[i]? = some (some (.o b c)) := by
  unfold ownC at h
  split at h
  · cases h; assumption
  · cases h
def wPut (i : Nat) (wi wv : WE) : WS := fun d δ => wv d.ex δ fun rv δ1 => ob (frz δ1 rv) fun p => ob (ownC p.2 i) fun _ => wi d.ex p.2 fun ri δ2 => ob (view δ2 ri) fun a => ob (dV a) fun dk => ob (ownC δ2 i) fun q => ob (putF q.2 dk p.1) fun c' => d.nx (δ2.set i (some (.o q.1 c')))
def rPut : TSet := fun o i v H Q => rSetL o i v H Q ∨ rSetD o i v H Q
theorem set_all {X : Cx} (hu : X.A.units + 1 < cLine) : PSet X rPut := by
  intro pins s σ H o i v ov iv u Q I ro ri rv h
  rcases h with h | h
  · exact set_list pins s σ H o i v ov iv u Q I ro ri rv h
  · exact set_dict hu pins s σ H o i v ov iv u Q I ro ri rv h
theorem ds_put {S : Sg} {i : Nat} {x : Str} {ie ve : Expr} {wi wv : WE} {p pos pos' : Pos} (hN : S.N[i]? = some x) (hv : Vis S.sc x) (hi : DE S ie wi) (hw : DE S ve wv) (hd : (x == ("__debug__" : Str)) = false := by decide) (hcd : (x == ("__classdict__" : Str)) = false := by decide)
    (hs : ∀ env, swapsWithSole [.Subscript (.Name x p) ie pos'] ve pos.line env = pure false := by intro _; rfl) (hws : ∀ env, swappedStores [.Subscript (.Name x p) ie pos'] ve env = pure none := by intro _; rfl)
    (hx : ∀ c, S.ok c → ∀ t ti, PE (S.g.cx c) (.Name x p) t → PE (S.g.cx c) ie ti → PG (S.g.cx c) (.Subscript (.Name x p) ie pos') (gSub t ti rPut) := by exact fun c hc t ti h1 h2 => pg_sub h1 h2 (set_all (hu_of hc.room))) :
    DS S (.Assign [.Subscript (.Name x p) ie pos'] ve pos) (wPut i wi wv) := by
  obtain ⟨ti, pi, si⟩ := hi
  obtain ⟨tv, pv, sv⟩ := hw
  refine ⟨tAsg tv (gSub (tVar i) ti rPut), fun c hc => ps_asg (pv c hc) (hx c hc _ _ (vis_v hc hN hv hd hcd) (pi c hc)) (hs _) (hws _), ⟨fun d d' δ h w => ?_, fun F B H vs σ δ D d hx h k w => ?_⟩⟩
  · refine sv.mono _ _ _ _ _ h.ex (fun r δ1 w => w.imp fun p w => w.imp fun _ w => ?_) w
    exact si.mono _ _ _ _ _ h.ex (fun r δ2 w => w.imp fun a w => w.imp fun dk w => w.imp fun q w => w.imp fun c' w => h.nx _ w) w
  · refine sv.run _ _ _ _ _ _ _ _ _ hx h w fun B1 H1 v rv δ1 s1 h1 q1 w1 => ?_
    obtain ⟨⟨dv, δ2⟩, e1, ⟨b0, c0⟩, e0, w1⟩ := w1
    obtain ⟨B2, s2, h2, q2⟩ := frz_ok h1 q1 e1
    obtain ⟨o, eo, p0, rfl, _⟩ := h2.ok i _ (ownC_at e0)
    refine ⟨_, eo, ?_⟩
    refine si.run _ _ _ _ _ _ _ _ _ (hx.up (s1.trans s2)) h2 w1 fun B3 H3 y ri δ3 s3 h3 q3 w3 => ?_
    obtain ⟨a, e2, dk, e3, ⟨b, c⟩, e4, c', e5, w3⟩ := w3
    have a4 := ownC_at e4
    obtain ⟨p1, ep, hBF, qc⟩ := own_at h3 a4 eo
    cases ep
    have ov := view_ok h3 q3 e2
    have q2' := q2.mono s3
    have s123 := (s1.trans s2).trans s3
    cases a with
    | d dk' =>
      cases e3
      cases c with
      | ot _ => simp only [putF] at e5; cases e5
      | al _ _ _ => simp only [putF] at e5; cases e5
      | tp _ => simp only [putF] at e5; cases e5
      | pt _ => simp only [putF] at e5; cases e5
      | fk _ _ => simp only [putF] at e5; cases e5
      | l ds =>
        obtain ⟨ys, hy, qy⟩ := qc
        simp only [putF] at e5
        split at e5
        · obtain ⟨j, e6, e5⟩ := Option.map_eq_some_iff.mp e5
          subst e5
          cases ov_int ov
          exact .inl ⟨p0, ys, _, j, rfl, rfl, hy, by rw [qy.length]; exact e6, k.nx B3 σ _ _ s123 (h3.mutate (c' := .l _) a4 eo ⟨_, upd_same, DDs.set q2' j qy⟩) w3⟩
        · cases e5
      | k kvs =>
        obtain ⟨ys, hy, qy⟩ := qc
        simp only [putF] at e5
        split at e5
        · rename_i hl
          obtain ⟨kk, e6, e5⟩ := Option.map_eq_some_iff.mp e5
          subst e5
          have ey : y = kV kk := by
            rcases ov with ov | ⟨_, _, _, _, z, _⟩
            · exact key_dd e6 ov
            · subst z; cases e6
          subst ey
          exact .inr ⟨p0, _, rfl, DPut.k hy (by rw [kds_length qy]; exact hl), k.nx B3 σ _ _ s123 (h3.mutate (c' := .k _) a4 eo ⟨_, upd_same, kds_put qy q2'⟩) w3⟩
        · cases e5
      | t kvs => cases e5
    | _ => cases e3
end DL
set_option Elab.async false
set_option linter.all false
set_option maxRecDepth 100000
set_option maxHeartbeats 4000000
set_option autoImplicit false
namespace DL
open PySem PySem.Spec PyProof.Rows L2
section
variable {S : Sg}
theorem ds_setLc {i : Nat} {y : Str} {py : Pos} {elt tg iter : Expr} {ifs : List Expr} {scope : Scope} {own : List (Str × Nat)} {pos spos : Pos} {wi : WI} {G : WG} {wt : WT} {we : WE} {ts : List Nat} (hCX : CXok S.CX) (hy : S.N[i]? = some y) (hyl : S.sc.names.lookup y = some .local) (hk : S.sc.kind = .function)
    (hln : (py.line == pos.line) = true) (hnn : (scope.names.any fun (n, k) => n == y && (k == .local || k == .cell)) = false)
    (hi : DI S tg iter wi) (hblk : blkC S.N S.sc scope own = true) (hg : DG (S.blk scope) tg G ts) (hts : ts.all (fun i => (own.map (·.2)).contains i) = true) (ht : DTs (S.blk scope) ifs wt) (he : DE (S.blk scope) elt we) (hs : ∀ env x, foldedSetIterable iter env x = pure x := by intro _ _; rfl) :
    DS S (.Assign [.Name y py] (.ListComp elt [⟨tg, iter, ifs, 0⟩] scope pos) spos) (wSet i (wLc wi G wt we (own.map (·.2)))) := by
  obtain ⟨ti, pi, si⟩ := hi
  obtain ⟨tg', pg, sg⟩ := hg
  obtain ⟨tt, pt, st⟩ := ht
  obtain ⟨te, pe, se⟩ := he
  have hts' : ∀ i ∈ ts, i ∈ own.map (·.2) := fun i hi => by
    have := List.all_eq_true.mp hts i hi
    simpa using this
  have sl := sim_lc si sg hts' st se
  refine ⟨tAsg (tLc ti tg' tt te (own.map (·.2))) (gName i), fun c hc => ?_, ⟨fun d d' δ h w => sl.mono _ _ _ _ _ h.ex (fun r δ1 w => w.imp fun δ2 w => h.nx _ w) w, fun F B H vs σ δ D d hx h k w => ?_⟩⟩
  · refine ps_setLc (X := S.g.cx c) hc.calm (by show c.N.Nodup; rw [hc.hN]; exact hc.nd) (by show c.N[i]? = _; rw [hc.hN]; exact hy) (by show c.env.scope.names.lookup y = _; rw [hc.hs]; exact hyl) (sw_true (by show c.env.scope.kind = _; rw [hc.hs]; exact hk) (by show c.env.scope.names.lookup y = _; rw [hc.hs]; exact hyl) hln hnn)
      (pi c hc) (by show BlkOk c.N c.env.scope scope own; rw [hc.hN, hc.hs]; exact blkOk_by hblk) (fun s H C cl fp => pg _ (blk_ok hCX hc s H C cl fp)) (fun s H C cl fp => pt _ (blk_ok hCX hc s H C cl fp)) (fun s H C cl fp => pe _ (blk_ok hCX hc s H C cl fp)) (hs _)
  · refine sl.run _ _ _ _ _ _ _ _ _ hx h w fun B1 H1 v r δ1 s1 h1 q1 w1 => ?_
    obtain ⟨δ2, e1, w1⟩ := w1
    obtain ⟨B2, s2, h2⟩ := asgn_ok h1 q1 e1
    exact k.nx B2 _ H1 δ2 (s1.trans s2) h2 w1
end
end DL
set_option Elab.async false
set_option linter.all false
set_option maxRecDepth 100000
set_option maxHeartbeats 4000000
set_option autoImplicit false
namespace DL
open PySem PySem.Spec PyProof.Rows L2
def Cal (g : Gx) (CX : CXT) (k : Nat) (x : Str) (ps : List Str) (W : FSpec) : Prop :=
  ∃ (f : Addr) (fd : FuncData), FnG g CX k f fd ps (spOf g.K ps.length W) ∧ g.mg x = some (.ref f) ∧ PySem.W.keepIn g.K (.ref f) = true ∧ Binds g.K fd ps []
theorem Cal.mono {g : Gx} {CX : CXT} {j k : Nat} {x : Str} {ps : List Str} {W : FSpec} (h : Cal g CX j x ps W) (l : j ≤ k) : Cal g CX k x ps W := by
  obtain ⟨f, fd, F, m, q, b⟩ := h
  exact ⟨f, fd, F.mono l, m, q, b⟩
theorem Cal.imp {g : Gx} {CX : CXT} {k : Nat} {x : Str} {ps : List Str} {W W' : FSpec} (h : Cal g CX k x ps W) (l : ∀ ss Ex P, W' ss Ex P → W ss Ex P) : Cal g CX k x ps W' := by
  obtain ⟨f, fd, F, m, q, b⟩ := h
  exact ⟨f, fd, spOf_imp F l, m, q, b⟩
section
variable {S : Sg}
theorem de_cal {n : Nat} {W : FSpec} {ms : List Bool} {wr : WA} {x : Str} {ps : List Str} {p pos : Pos} {e : Expr} {es : List Expr} (h : Cal S.g S.CX S.k x ps W) (hW : FMono W) (hg : GlS S.sc x) (ha : DA S (e :: es) wr)
    (hs : ∀ env, starEach (e :: es) env = (false, eval e env) :: starEach es env := by intro _; rfl) (hpl : ∀ env, (backTo pos (starEach es env)).any (·.1) = false := by intro _; rfl) (hdb : (x == ("__debug__" : Str)) = false := by decide) (hn : ps.length = n := by rfl) :
    DE S (.Call (.Name x p) (e :: es) [] pos) (wCall n W ms wr) := by
  subst hn
  obtain ⟨f, fd, F, m, q, b⟩ := h
  exact de_call hW F (Nat.le_refl _) hg m q b ha hs hpl hdb
end
def Ct (pre : List Sl → Prop) (post : List Sl → R → List Sl → Prop) : FSpec := fun ss _ P => pre ss ∧ ∀ r ss', post ss r ss' → P r ss'
theorem ct_mono {pre : List Sl → Prop} {post : List Sl → R → List Sl → Prop} : FMono (Ct pre post) := fun ss Ex Ex' P P' _ hp ⟨h1, h2⟩ => ⟨h1, fun r ss' q => hp _ _ (h2 r ss' q)⟩
def Got (g : Gx) (x : Str) (st : Stmt) : Prop := ∃ (f : Addr) (fd : FuncData), g.mg x = some (.ref f) ∧ Fun g.K x x st f fd
theorem got_mk {P : Program} {w : World} {K : PySem.W.Frag} {mg : Str → Option Value} {base h : Heap} (X : K.In h) (G : h.Ns mainGlobals mg) {x : Str} {st : Stmt} {f : Addr} {oc : Value} {od an : Option Addr} {osl : Array (Option Value)} {kV doc pm cdv ct : Value}
    (a : PySem.W.nsIn K mainGlobals x = some (some (.ref f))) (l : K.lookup f = some ⟨oc, od, .func (PySem.W.fnOf x x (defArgs st) (defBody st) (defScope st) .none kV doc pm an cdv ct), osl⟩)
    (c : PySem.W.codeIn K cdv x = true) (k : PySem.W.keepIn K (.ref f) = true) : Got ⟨P, w, K, mg, base⟩ x st := ⟨f, _, PySem.W.mg_of X G a, fun_mk l c k⟩
end DL
set_option Elab.async false
set_option linter.all false
set_option maxRecDepth 100000
set_option maxHeartbeats 4000000
set_option autoImplicit false
set_option exponentiation.threshold 4000
namespace DL
open PySem PySem.Spec PyProof.Rows L2
mutual
def intsB (N : Nat) : PyData → Bool
  | .none | .bool _ | .str _ => true
  | .int i => decide (i.natAbs ≤ N)
  | .list xs | .tuple xs => intsBs N xs
  | .dict _ => false
def intsBs (N : Nat) : List PyData → Bool
  | [] => true
  | x :: xs => intsB N x && intsBs N xs
end
structure Nd (N D : Nat) (d : PyData) : Prop where
  lay : d.canLay0 = true
  nums : intsB N d = true
  dep : d.depth ≤ D
def Nds (N D : Nat) (xs : List PyData) : Prop := ∀ x ∈ xs, Nd N D x
theorem lay_all : ∀ {xs : List PyData}, PyData.canLayAll0 xs = true ↔ ∀ x ∈ xs, x.canLay0 = true
  | [] => by simp [PyData.canLayAll0]
  | x :: xs => by simp [PyData.canLayAll0, lay_all (xs := xs)]
theorem ints_all {N : Nat} : ∀ {xs : List PyData}, intsBs N xs = true ↔ ∀ x ∈ xs, intsB N x = true
  | [] => by simp [intsBs]
  | x :: xs => by simp [intsBs, ints_all (xs := xs)]
theorem dep_all {D : Nat} : ∀ {xs : List PyData}, PyData.depthAll xs ≤ D ↔ ∀ x ∈ xs, x.depth ≤ D
  | [] => by simp [PyData.depthAll]
  | x :: xs => by simp [PyData.depthAll, dep_all (xs := xs), Nat.max_le]
section
variable {N D : Nat}
theorem nd_int {i : Int} (h : i.natAbs ≤ N) : Nd N D (.int i) := ⟨rfl, by simp [intsB, h], Nat.zero_le _⟩
theorem nd_str {x : Str} (h : PyData.strOk x = true) : Nd N D (.str x) := ⟨by simp [PyData.canLay0, h], rfl, Nat.zero_le _⟩
theorem nd_tup {xs : List PyData} (h : Nds N D xs) : Nd N (D + 1) (.tuple xs) :=
  ⟨by simp only [PyData.canLay0]; exact lay_all.mpr fun x m => (h x m).lay, by simp only [intsB]; exact ints_all.mpr fun x m => (h x m).nums, by simp only [PyData.depth]; exact Nat.succ_le_succ (dep_all.mpr fun x m => (h x m).dep)⟩
theorem nd_lst {xs : List PyData} (h : Nds N D xs) : Nd N (D + 1) (.list xs) :=
  ⟨by simp only [PyData.canLay0]; exact lay_all.mpr fun x m => (h x m).lay, by simp only [intsB]; exact ints_all.mpr fun x m => (h x m).nums, by simp only [PyData.depth]; exact Nat.succ_le_succ (dep_all.mpr fun x m => (h x m).dep)⟩
theorem Nd.tup {xs : List PyData} (h : Nd N (D + 1) (.tuple xs)) : Nds N D xs := fun x m =>
  ⟨lay_all.mp (by simpa only [PyData.canLay0] using h.lay) x m, ints_all.mp (by simpa only [intsB] using h.nums) x m, dep_all.mp (Nat.le_of_succ_le_succ (by simpa only [PyData.depth] using h.dep)) x m⟩
theorem Nd.lst {xs : List PyData} (h : Nd N (D + 1) (.list xs)) : Nds N D xs := fun x m =>
  ⟨lay_all.mp (by simpa only [PyData.canLay0] using h.lay) x m, ints_all.mp (by simpa only [intsB] using h.nums) x m, dep_all.mp (Nat.le_of_succ_le_succ (by simpa only [PyData.depth] using h.dep)) x m⟩
theorem Nd.pos {xs : List PyData} (h : Nd N D (.tuple xs)) : ∃ D', D = D' + 1 := by
  have := h.dep
  simp only [PyData.depth] at this
  exact ⟨D - 1, by omega⟩
theorem Nd.int {i : Int} (h : Nd N D (.int i)) : i.natAbs ≤ N := by simpa [intsB] using h.nums
theorem Nd.str {x : Str} (h : Nd N D (.str x)) : PyData.strOk x = true := by simpa [PyData.canLay0] using h.lay
mutual
theorem intsB_mono {N' : Nat} (h : N ≤ N') : ∀ d : PyData, intsB N d = true → intsB N' d = true
  | .none, _ => rfl
  | .bool _, _ => rfl
  | .str _, _ => rfl
  | .int i, e => by simp only [intsB, decide_eq_true_eq] at *; omega
  | .list xs, e => by simp only [intsB] at *; exact intsBs_mono h xs e
  | .tuple xs, e => by simp only [intsB] at *; exact intsBs_mono h xs e
  | .dict _, e => by simp [intsB] at e
theorem intsBs_mono {N' : Nat} (h : N ≤ N') : ∀ xs : List PyData, intsBs N xs = true → intsBs N' xs = true
  | [], _ => rfl
  | x :: xs, e => by
    simp only [intsBs, Bool.and_eq_true] at *
    exact ⟨intsB_mono h x e.1, intsBs_mono h xs e.2⟩
end
theorem Nd.mono {N' D' : Nat} {d : PyData} (h : Nd N D d) (h1 : N ≤ N') (h2 : D ≤ D') : Nd N' D' d := ⟨h.lay, intsB_mono h1 d h.nums, Nat.le_trans h.dep h2⟩
theorem Nds.mono {N' D' : Nat} {xs : List PyData} (h : Nds N D xs) (h1 : N ≤ N') (h2 : D ≤ D') : Nds N' D' xs := fun x m => (h x m).mono h1 h2
theorem nds_nil : Nds N D [] := fun _ m => by cases m
theorem nds_cons {x : PyData} {xs : List PyData} (h : Nd N D x) (r : Nds N D xs) : Nds N D (x :: xs) := fun y m => by
  rcases List.mem_cons.mp m with rfl | m
  · exact h
  · exact r y m
theorem Nds.append {xs ys : List PyData} (h : Nds N D xs) (r : Nds N D ys) : Nds N D (xs ++ ys) := fun y m => (List.mem_append.mp m).elim (h y) (r y)
theorem Nds.sub {xs ys : List PyData} (h : Nds N D xs) (s : ∀ y ∈ ys, y ∈ xs) : Nds N D ys := fun y m => h y (s y m)
theorem nd_shaped {d : PyData} (h : Nd N D d) (hD : D ≤ 64) : SeqAt.shaped d = true := by
  unfold SeqAt.shaped
  rw [h.lay, Bool.true_and]
  exact decide_eq_true (Nat.le_trans h.dep hD)
end
theorem log_lt {a : Nat} (h : a < 2 ^ 1920) : a.log2 < 1920 := by
  by_cases h0 : a = 0
  · subst h0; decide
  · exact (Nat.log2_lt h0).mpr h
mutual
theorem intsB_show {N : Nat} (h : N < 2 ^ 1920) : ∀ d : PyData, d.canLay0 = true → intsB N d = true → d.showable = true ∧ d.hasDict = false
  | .none, _, _ => ⟨rfl, rfl⟩
  | .bool _, _, _ => ⟨rfl, rfl⟩
  | .str _, _, _ => ⟨rfl, rfl⟩
  | .int i, _, e => by
    simp only [intsB, decide_eq_true_eq] at e
    exact ⟨by simp only [PyData.showable, decide_eq_true_eq]; exact log_lt (by omega), rfl⟩
  | .list xs, l, e => by simp only [intsB, PyData.canLay0, PyData.showable, PyData.hasDict] at *; exact intsBs_show h xs l e
  | .tuple xs, l, e => by simp only [intsB, PyData.canLay0, PyData.showable, PyData.hasDict] at *; exact intsBs_show h xs l e
  | .dict _, _, e => by simp [intsB] at e
theorem intsBs_show {N : Nat} (h : N < 2 ^ 1920) : ∀ xs : List PyData, PyData.canLayAll0 xs = true → intsBs N xs = true → PyData.showableAll xs = true ∧ PyData.hasDictAll xs = false
  | [], _, _ => ⟨rfl, rfl⟩
  | x :: xs, l, e => by
    simp only [intsBs, PyData.canLayAll0, PyData.showableAll, PyData.hasDictAll, Bool.and_eq_true, Bool.or_eq_false_iff] at *
    have a := intsB_show h x l.1 e.1
    have b := intsBs_show h xs l.2 e.2
    exact ⟨⟨a.1, b.1⟩, a.2, b.2⟩
end
theorem int_shown {i : Int} {k : Nat} (hk : 0 < k) (h : i.natAbs < 10 ^ k) : (PyData.shown (.int i)).length ≤ k + 1 := by
  have := int_text_length_le10 hk h
  simp only [PyData.shown]
  rw [PySem.ofString_length]
  exact this
mutual
theorem leaves_short {N k : Nat} (hk : 0 < k) (h : N < 10 ^ k) : ∀ d : PyData, d.canLay0 = true → intsB N d = true → d.leavesShort (k + 1) = true
  | .none, _, _ => rfl
  | .bool _, _, _ => rfl
  | .str x, l, _ => PyData.leavesShort_of_canLay0 (k + 1) (.str x) l rfl
  | .int i, _, e => by
    simp only [intsB, decide_eq_true_eq] at e
    simp only [PyData.leavesShort, decide_eq_true_eq]
    exact int_shown hk (by omega)
  | .list xs, l, e => by simp only [intsB, PyData.canLay0, PyData.leavesShort] at *; exact leaves_shorts hk h xs l e
  | .tuple xs, l, e => by simp only [intsB, PyData.canLay0, PyData.leavesShort] at *; exact leaves_shorts hk h xs l e
  | .dict _, _, e => by simp [intsB] at e
theorem leaves_shorts {N k : Nat} (hk : 0 < k) (h : N < 10 ^ k) : ∀ xs : List PyData, PyData.canLayAll0 xs = true → intsBs N xs = true → PyData.leavesShortAll (k + 1) xs = true
  | [], _, _ => rfl
  | x :: xs, l, e => by
    simp only [intsBs, PyData.canLayAll0, PyData.leavesShortAll, Bool.and_eq_true] at *
    exact ⟨leaves_short hk h x l.1 e.1, leaves_shorts hk h xs l.2 e.2⟩
end
theorem ten_two : (10 : Nat) ^ 200 < 2 ^ 1920 := by
  refine Nat.lt_of_lt_of_le (Nat.pow_lt_pow_left (by decide : 10 < 16) (by decide)) ?_
  rw [show (16 : Nat) = 2 ^ 4 from rfl, ← Nat.pow_mul]
  exact Nat.pow_le_pow_right (by decide) (by decide)
theorem nd_show {N D b : Nat} {d : PyData} (h : Nd N D d) (hN : N < 10 ^ 200) (hD : D ≤ 60) (hb : d.bulk ≤ b) (hb2 : b ≤ 80000) : showOk d = true := by
  have h1 := intsB_show (N := N) (Nat.lt_trans hN ten_two) d h.lay h.nums
  have h2 := PyData.shown_le_bulk 201 (by decide) d (leaves_short (by decide) hN d h.lay h.nums)
  have h3 : d.shown.length ≤ sizeLine := by
    have e : sizeLine = 16777216 := by decide
    have e2 : (201 + 2) * d.bulk ≤ 203 * 80000 := Nat.mul_le_mul (by decide) (by omega)
    omega
  unfold showOk
  rw [h1.1, h1.2, decide_eq_true h3, decide_eq_true (Nat.le_trans h.dep hD)]
  rfl
end DL
set_option Elab.async false
set_option linter.all false
set_option maxRecDepth 100000
set_option maxHeartbeats 4000000
set_option autoImplicit false
namespace DL
open PySem PySem.Spec PyProof.Rows L2
theorem ifT {c : Bool} {A B : Prop} (h : c = true) (a : A) : if c = true then A else B := by rw [if_pos h]; exact a
theorem ifF {c : Bool} {A B : Prop} (h : c = false) (b : B) : if c = true then A else B := by rw [if_neg (by rw [h]; decide)]; exact b
end DL
set_option Elab.async false
set_option linter.all false
set_option maxRecDepth 100000
set_option maxHeartbeats 4000000
set_option autoImplicit false
namespace DL
open PySem PySem.Spec PyProof.Rows L2
def isNon : Vw → Bool
  | .d .none => true
  | .w .none => true
  | _ => false
def isG (neg : Bool) : Vw → Vw → Option Rv := fun a b => if isNon b then some (.val (.bool (if neg then !isNon a else isNon a))) else none
def isF := isG false
def isNotF := isG true
theorem non_of {K : PySem.W.Frag} {B H : Hp} {v : V} {w : Vw} (sB : Same B H) (h : OV K B H v w) : decide (v = .non) = isNon w := by
  cases w with
  | d d =>
    rcases h with h | ⟨_, _, _, e1, e2, _⟩
    · cases h <;> rfl
    · subst e1 e2; rfl
  | w d =>
    have h : Dp K (fun _ => none) v d := h
    cases h <;> rfl
  | k _ => obtain ⟨a, ys, rfl, _⟩ := h; rfl
  | t _ => obtain ⟨a, ys, rfl, _⟩ := h; rfl
  | xk _ => obtain ⟨a, ys, rfl, _⟩ := h; rfl
  | xl _ => obtain ⟨a, ys, rfl, _⟩ := h; rfl
  | rk _ => obtain ⟨a, ys, rfl, _⟩ := h; rfl
  | xt _ => obtain ⟨a, o, ys, rfl, _⟩ := h; rfl
theorem isnon_eq {K : PySem.W.Frag} {B H : Hp} {v : V} {w : Vw} (sB : Same B H) (h : OV K B H v w) (e : isNon w = true) : v = .non := of_decide_eq_true ((non_of sB h).trans e)
theorem os_is {S : Sg} : OpS S (compareOp .Is) isF := by
  rintro c hc pins s σ H x y v u Q I rx ry ⟨B, a, b, rv, sB, oa, ob, e, k⟩
  unfold isF isG at e
  split at e
  · cases e
    refine op_isN pins s σ H _ _ v u Q I rx ry ⟨isnon_eq sB ob (by assumption), ?_⟩
    rw [non_of sB oa]
    exact k _ (.bl _)
  · cases e
theorem os_isnot {S : Sg} : OpS S (compareOp .IsNot) isNotF := by
  rintro c hc pins s σ H x y v u Q I rx ry ⟨B, a, b, rv, sB, oa, ob, e, k⟩
  unfold isNotF isG at e
  split at e
  · cases e
    refine op_notN pins s σ H _ _ v u Q I rx ry ⟨isnon_eq sB ob (by assumption), ?_⟩
    rw [non_of sB oa]
    exact k _ (.bl _)
  · cases e
def wWh (wt : WT) (wb : WS) : Nat → WS
  | 0 => fun _ _ => False
  | n + 1 => fun d δ => wt d.ex δ fun b δ1 => if b = true then wb { nx := wWh wt wb n d, rt := d.rt, bk := d.nx, ct := wWh wt wb n d, ex := d.ex } δ1 else d.nx δ1
def wWhile (wt : WT) (wb : WS) : WS := fun d δ => ∃ n, wWh wt wb n d δ
theorem wWh_mono {wt : WT} {wb : WS} (ht : ∀ (Ex Ex' : XP) (δ : SEnv) (P P' : Bool → SEnv → Prop), (∀ e, Ex e → Ex' e) → (∀ r δ', P r δ' → P' r δ') → wt Ex δ P → wt Ex' δ P') (hb : ∀ (d d' : DEnds) (δ : SEnv), d.le d' → wb d δ → wb d' δ) :
    ∀ (n : Nat) (d d' : DEnds) (δ : SEnv), d.le d' → wWh wt wb n d δ → wWh wt wb n d' δ
  | 0, _, _, _, _, w => w
  | n + 1, d, d', δ, h, w => by
    refine ht d.ex d'.ex δ _ _ h.ex (fun b δ1 w => ?_) w
    cases b with
    | true =>
      rw [if_pos rfl] at w ⊢
      exact hb { nx := wWh wt wb n d, rt := d.rt, bk := d.nx, ct := wWh wt wb n d, ex := d.ex } { nx := wWh wt wb n d', rt := d'.rt, bk := d'.nx, ct := wWh wt wb n d', ex := d'.ex } δ1
          ⟨fun δ w => wWh_mono ht hb n d d' δ h w, h.rt, h.nx, fun δ w => wWh_mono ht hb n d d' δ h w, h.ex⟩ w
    | false =>
      rw [if_neg (by decide)] at w ⊢
      exact h.nx _ w
section
variable {S : Sg}
theorem ds_while {c : Expr} {body : List Stmt} {wt : WT} {wb : WS} {pos : Pos} (hc : DT S c wt) (hb : DSs S body wb) : DS S (.While c body [] pos) (wWhile wt wb) := by
  obtain ⟨tc, pc, sc⟩ := hc
  obtain ⟨tb, pb, sb⟩ := hb
  refine ⟨tWhile tc tb, fun c hc => ps_while hc.po (pc c hc) (pb c hc), ⟨fun d d' δ h w => w.imp fun n w => wWh_mono sc.mono sb.mono n d d' δ h w, fun F B H vs σ δ D d hx h k w => ?_⟩⟩
  obtain ⟨n, w⟩ := w
  refine ⟨fun m σ H => ∃ B' δ', Same B B' ∧ Rep S.g.K F B' H vs σ δ' ∧ wWh wt wb m d δ', ⟨n, B, δ, Same.refl _, h, w⟩, ?_⟩
  rintro m σ1 H1 ⟨B1, δ1, s1, h1, w1⟩
  cases m with
  | zero => exact w1.elim
  | succ m =>
    refine sc.run _ _ _ _ _ _ _ _ _ (hx.up s1) h1 w1 fun B2 H2 b δ2 s2 h2 w2 => ?_
    cases b with
    | true =>
      rw [if_pos rfl]
      refine ⟨fun σ' H' => ∃ B' δ', Same B B' ∧ Rep S.g.K F B' H' vs σ' δ' ∧ wWh wt wb m d δ', fun σ' H' q => ⟨m, Nat.lt_succ_self m, q⟩, ?_⟩
      have s3 : Same B B2 := s1.trans s2
      exact sb.run F B2 H2 vs σ1 δ2 _ { nx := wWh wt wb m d, rt := d.rt, bk := d.nx, ct := wWh wt wb m d, ex := d.ex } (hx.up s3) h2
        ⟨fun B' σ' H' δ' t1 t2 t3 => ⟨B', δ', s3.trans t1, t2, t3⟩, (k.up s3).rt, (k.up s3).nx, fun B' σ' H' δ' t1 t2 t3 => ⟨B', δ', s3.trans t1, t2, t3⟩⟩ w2
    | false =>
      rw [if_neg (by decide)]
      exact (k.up (s1.trans s2)).nx B2 _ _ _ (Same.refl _) h2 w2
end
def keyV (w : Vw) : Option Key := (dV w).bind keyD
theorem key_ov {K : PySem.W.Frag} {B H : Hp} {v : V} {w : Vw} {k : Key} (h : OV K B H v w) (e : keyV w = some k) : v = kV k := by
  unfold keyV at e
  obtain ⟨d, e1, e2⟩ := Option.bind_eq_some_iff.mp e
  cases w with
  | d d' =>
    cases e1
    rcases h with h | ⟨_, _, _, _, z, _⟩
    · exact key_dd e2 h
    · subst z; cases e2
  | _ => cases e1
def sortI (ns : List Int) : List Int := ns.mergeSort fun a b => decide (a ≤ b)
theorem sortI_perm (ns : List Int) : (sortI ns).Perm ns := List.mergeSort_perm _ _
theorem sortI_up (ns : List Int) : (sortI ns).Pairwise (· ≤ ·) := by
  have h := List.pairwise_mergeSort (le := fun (a b : Int) => decide (a ≤ b)) (fun a b c h1 h2 => by simp only [decide_eq_true_eq] at *; omega) (fun a b => by simp only [Bool.or_eq_true, decide_eq_true_eq]; omega) ns
  exact h.imp fun h => of_decide_eq_true h
theorem sortI_one {ms ns : List Int} (h1 : ms.Perm ns) (h2 : ms.Pairwise (· ≤ ·)) : ms = sortI ns :=
  List.Perm.eq_of_pairwise (fun a b _ _ x y => Int.le_antisymm x y) h2 (sortI_up ns) (h1.trans (sortI_perm ns).symm)
def numsD : List PyData → Option (List Int)
  | [] => some []
  | .int i :: ds => (numsD ds).map fun ns => i :: ns
  | _ => none
theorem nums_dd {B : Hp} : ∀ {ds : List PyData} {ns : List Int} {xs : List V}, numsD ds = some ns → DDs B xs ds → xs = ns.map V.int
  | [], _, _, e, q => by cases e; cases q; rfl
  | d :: ds, _, _, e, q => by
    cases q with
    | cons q1 q2 =>
      cases d with
      | int i =>
        simp only [numsD] at e
        obtain ⟨ns, e1, e⟩ := Option.map_eq_some_iff.mp e
        cases e; cases q1
        rw [nums_dd e1 q2]; rfl
      | _ => cases e
theorem dds_ofI {B : Hp} (ns : List Int) : DDs B (ns.map V.int) (ns.map .int) := DDs.of_ints ns
def numK : List Key → Option (List Int)
  | [] => some []
  | .inl i :: ks => (numK ks).map fun ns => i :: ns
  | _ => none
theorem numK_eq : ∀ {ks : List Key} {ns : List Int}, numK ks = some ns → ks = ns.map Sum.inl
  | [], _, e => by cases e; rfl
  | k :: ks, _, e => by
    cases k with
    | inl i =>
      simp only [numK] at e
      obtain ⟨ns, e1, e⟩ := Option.map_eq_some_iff.mp e
      cases e
      rw [numK_eq e1]; rfl
    | inr x => cases e
theorem kds_keys {κ : Type} [DecidableEq κ] {B : Hp} {ys : List (κ × V)} {kvs : List (κ × PyData)} (h : KDs B ys kvs) : ys.map (·.1) = kvs.map (·.1) := by
  induction h with
  | nil => rfl
  | cons q r ih => rw [List.map_cons, List.map_cons, ih, q.1]
def sortF : List Vw → Option Rv
  | [.d (.list ds)] => (numsD ds).bind fun ns => if ns.length < 64 then some (.lst ((sortI ns).map .int)) else none
  | [.k kvs] => (numK (kvs.map (·.1))).bind fun ns => if ns.length < 64 then some (.lst ((sortI ns).map .int)) else none
  | _ => none
theorem cr_sortRd {X : Cx} (hc : X.calm = true) : CallR X (.builtin "sorted") (fun vs H Q => ∃ (a : Addr) (ns : List Int), vs = [V.ref a] ∧ Rd H a (.lst (ns.map V.int)) ∧ ns.length < 64 ∧
    ∀ (ns' : List Int) (p : Addr), ns'.Perm ns → ns'.Pairwise (· ≤ ·) → H p = none → Q (.ref p) (upd H p (.lst (ns'.map V.int)))) := by
  intro pins s σ H vs us Q I r h
  obtain ⟨a, ns, rfl, hs, h64, q⟩ := h
  exact cr_sorted pins s σ H _ us Q I r ⟨a, ns, rfl, .inl hs, h64, q⟩
theorem cs_sorted {S : Sg} : CallS S (.builtin "sorted") sortF := by
  rintro c hc pins s σ H xs us Q I rv ⟨B, as, r, sB, ov, e, k⟩
  unfold sortF at e
  split at e
  · obtain ⟨ns, e1, e⟩ := Option.bind_eq_some_iff.mp e
    split at e
    · cases e
      obtain ⟨v, rfl, q⟩ := ovs1 ov
      obtain ⟨p, zs, rfl, hp, qz⟩ := ov_lst sB q
      have ez := nums_dd e1 qz
      subst ez
      refine cr_sortRd hc.calm pins s σ H _ us Q I rv ⟨p, ns, rfl, hp, by assumption, fun ns' p' h1 h2 hp' => ?_⟩
      rw [sortI_one h1 h2]
      exact k p' _ hp' (dds_ofI _)
    · cases e
  · obtain ⟨ns, e1, e⟩ := Option.bind_eq_some_iff.mp e
    split at e
    · cases e
      obtain ⟨v, rfl, a, ys, rfl, hy, q⟩ := ovs1 ov
      refine call_sortedDI hc.calm pins s σ H _ us Q I rv ⟨a, ys, ns, rfl, .inl hy, by rw [kds_keys q]; exact numK_eq e1, by assumption, fun ns' p' h1 h2 hp' => ?_⟩
      rw [sortI_one h1 h2]
      exact k p' _ hp' (dds_ofI _)
    · cases e
  · cases e
end DL
set_option Elab.async false
set_option linter.all false
set_option maxRecDepth 100000
set_option maxHeartbeats 4000000
set_option autoImplicit false
namespace DL
open PySem PySem.Spec PyProof.Rows L2
def enumD (ds : List PyData) : List PyData := ds.mapIdx fun i d => .tuple [.int (i : Nat), d]
def zipD (ds es : List PyData) : List PyData := List.zipWith (fun d e => .tuple [d, e]) ds es
def intF : List Vw → Option Rv
  | [.d (.int i)] => some (.val (.int i))
  | [.d (.bool b)] => some (.val (.int (if b then 1 else 0)))
  | _ => none
theorem cs_int {S : Sg} : CallS S (.type "int") intF := by
  rintro c hc pins s σ H xs us Q I rv ⟨B, as, r, sB, ov, e, k⟩
  unfold intF at e
  split at e
  · cases e
    obtain ⟨v, rfl, q⟩ := ovs1 ov
    cases ov_int q
    exact call_int1 pins s σ H _ us Q I rv (.inl ⟨_, rfl, k _ (.int _)⟩)
  · cases e
    obtain ⟨v, rfl, q⟩ := ovs1 ov
    cases ov_bool q
    exact call_int1 pins s σ H _ us Q I rv (.inr ⟨_, rfl, k _ (.int _)⟩)
  · cases e
def pairsD : List PyData → Option (List (Key × PyData))
  | [] => some []
  | .tuple [k, v] :: ds => (keyD k).bind fun kk => (pairsD ds).map fun r => (kk, v) :: r
  | _ => none
theorem pairs_dd {K : PySem.W.Frag} {B H : Hp} (sB : Same B H) : ∀ {ds : List PyData} {kvs : List (Key × PyData)} {xs : List V}, pairsD ds = some kvs → DDs B xs ds →
    ∃ (ps : List Addr) (ys : List (Key × V)), xs = ps.map V.ref ∧ Paired (fun p kv => SqT K H p [kV kv.1, kv.2]) ps ys ∧ KDs B ys kvs
  | [], _, _, e, q => by
    cases e; cases q
    exact ⟨[], [], rfl, .nil, .nil⟩
  | d :: ds, _, _, e, q => by
    cases q with
    | cons q1 q2 =>
      unfold pairsD at e
      split at e
      · rename_i z
        cases z
      · rename_i k v ds' z
        cases z
        obtain ⟨kk, e1, e⟩ := Option.bind_eq_some_iff.mp e
        obtain ⟨r, e2, e⟩ := Option.map_eq_some_iff.mp e
        cases e
        obtain ⟨ps, ys, rfl, h1, h2⟩ := pairs_dd sB e2 q2
        cases q1 with
        | tup hp qx =>
          cases qx with
          | cons a1 qx =>
            cases qx with
            | cons a2 qx =>
              cases qx
              have ek := key_dd e1 a1
              subst ek
              exact ⟨_ :: ps, (kk, _) :: ys, rfl, .cons (.inl (PlT.mono sB hp).rd) h1, .cons ⟨rfl, a2⟩ h2⟩
      · cases e
def dictF : List Vw → Option Rv
  | [.k kvs] => some (.dk kvs)
  | [.d (.list ds)] => (pairsD ds).map fun kvs => .dk (mergeD [] kvs)
  | _ => none
theorem cs_dict {S : Sg} : CallS S (.type "dict") dictF := by
  rintro c hc pins s σ H xs us Q I rv ⟨B, as, r, sB, ov, e, k⟩
  unfold dictF at e
  split at e
  · cases e
    obtain ⟨v, rfl, a, ys, rfl, hy, q⟩ := ovs1 ov
    exact call_dictD pins s σ H _ us Q I rv ⟨a, ys, rfl, .inl hy, fun p hp => k p ys hp q⟩
  · obtain ⟨kvs, e1, e⟩ := Option.map_eq_some_iff.mp e
    cases e
    obtain ⟨v, rfl, q⟩ := ovs1 ov
    obtain ⟨p, zs, rfl, hp, qz⟩ := ov_lst sB q
    obtain ⟨ps, ys, rfl, h1, h2⟩ := pairs_dd (K := S.g.K) sB e1 qz
    exact call_dictP hc.calm pins s σ H _ us Q I rv ⟨p, ps, ys, rfl, .inl hp, h1, fun p' hp' => k p' _ hp' (kds_merge h2 .nil)⟩
  · cases e
end DL
set_option Elab.async false
set_option linter.all false
set_option maxRecDepth 100000
set_option maxHeartbeats 4000000
set_option autoImplicit false
namespace DL
open PySem PySem.Spec PyProof.Rows L2
end DL
set_option Elab.async false
set_option linter.all false
set_option maxRecDepth 100000
set_option maxHeartbeats 4000000
set_option autoImplicit false
namespace DL
open PySem PySem.Spec PyProof.Rows L2
abbrev dc2 (kx vx ta ia tb ib : Expr) (sc : Scope) (p : Pos) : Expr := .DictComp kx vx [⟨ta, ia, [], 0⟩, ⟨tb, ib, [], 0⟩] sc p
end DL
set_option Elab.async false
set_option linter.all false
set_option maxRecDepth 100000
set_option maxHeartbeats 4000000
set_option autoImplicit false
namespace DL
open PySem PySem.Spec PyProof.Rows L2
end DL
set_option Elab.async false
set_option linter.all false
set_option maxRecDepth 100000
set_option maxHeartbeats 4000000
set_option autoImplicit false
namespace DL
open PySem PySem.Spec PyProof.Rows L2
end DL
set_option Elab.async false
set_option linter.all false
set_option maxRecDepth 100000
set_option maxHeartbeats 6400000
set_option autoImplicit false
namespace DL
open PySem PySem.Spec PyProof.Rows L2
section
variable {P : Program} {w : World} {A : Around} {E : Value → Shared → Prop} {s : Shared}
abbrev bareSet (w : World) : Obj := { cls := .type "set", dict := none, data := .set #[] 0 (.fresh 0 0 (!w.params.followText "set-order")) }
/-- set(xs), xs a list of ints -/
theorem set_of_ints {l : Addr} {its : Array Value} (ns : List Int) {Q : Value → Shared → Prop} (ha : A.handled = none) (hl : s.heap.IsList l its) (hi : IntsAre its.toList ns) (hb : ns.length + 1 < scanBound)
    (h : ∀ (g : Heap) (tk c : Nat), SetR w g s.heap.objs.size (fun j => decide (j ∈ ns)) c → c ≤ ns.length → (∀ b o, s.heap.get? b = some o → g.get? b = some o) → Q (.ref s.heap.objs.size) { s with heap := g, toks := tk }) :
    wpAny (model P w) A (call (.type "set") [.ref l]) Q E s := by
  have hsz : its.size = ns.length := by rw [← Array.length_toList]; exact IntsAre.length hi
  obtain ⟨c, tl, hmro⟩ := F.called_set.mro
  have m1 := F.called_set.made
  have m2 := F.called_set.sub
  refine wpAny_call (codeAny_of_tree ?_)
  show wpAny _ _ (callAny (.type "set") _) _ _ _
  refine wpAny_pure ⟨Code.quiet_builtin _ (by decide +kernel), codeAny_builtin F.entry_type_call ?_⟩
  rw [Around.under_plain (weight_type_call_type "set" [.ref l] []) rfl]
  have m3 := F.called_set.notType
  have m4 := F.called_set.canCreate
  have m5 := F.typeCall_set_1 (.ref l)
  repeat (any_goals (first | assumption | wp_step))

  refine codeAny_mono (code_set_led1 (.ref l) (E := E) (Q₁ := fun ob t => ob = .ref s.heap.objs.size ∧ t = { s with heap := s.heap.push { cls := .type "set", dict := none, data := .set #[] 0 (.fresh 0 0 (!w.params.followText "set-order")) } }) ⟨rfl, rfl⟩) fun r t ht => ?_
  cases r with
  | error e => exact ht
  | ok fl =>
    cases fl with
    | ret ob =>
      obtain ⟨rfl, rfl⟩ := ht
      have n1 : (s.heap.push { cls := .type "set", dict := none, data := .set #[] 0 (.fresh 0 0 (!w.params.followText "set-order")) }).get? s.heap.objs.size = some (bareSet w) := Heap.get?_push_size _ rfl
      have n2 : Shared.TypeIs { s with heap := s.heap.push { cls := .type "set", dict := none, data := .set #[] 0 (.fresh 0 0 (!w.params.followText "set-order")) } } (.ref s.heap.objs.size) "set" := ⟨_, n1, rfl⟩
      have n3 := F.called_set.init.lookup
      have n4 := F.called_set.init.bind (.ref s.heap.objs.size)
      repeat (any_goals (first | assumption | wp_step))

      refine codeAny_mono (codeAny_call_builtin (R := wants (fun r t2 => r = .none ∧ ∃ g tk c, t2 = { s with heap := g, toks := tk } ∧ SetR w g s.heap.objs.size (fun j => decide (j ∈ ns)) c ∧ c ≤ ns.length ∧ (∀ b o, s.heap.get? b = some o → g.get? b = some o)) E)
          F.called_set.init.plain F.entry_set_init (check_set_init_1 n2 ?_)) fun r2 t2 ht2 => ?_
      · obtain ⟨⟨k1, k2, k3, k4⟩, hol, e1, nl, e2⟩ := hl
        simp only at e1 e2
        subst e1; subst e2
        have up : (s.heap.push { cls := .type "set", dict := none, data := .set #[] 0 (.fresh 0 0 (!w.params.followText "set-order")) }).get? l = some { cls := .type "list", dict := k2, data := .seq its nl, slots := k4 } := Heap.get?_push_of_some _ hol
        have o1 := F.sub_list_set
        have o2 := F.sub_list_frozenset
        have o3 : (Value.type "list" == Value.type "dict") = false := by decide
        have isl : (s.heap.push { cls := .type "set", dict := none, data := .set #[] 0 (.fresh 0 0 (!w.params.followText "set-order")) }).IsList l its := ⟨_, up, rfl, nl, rfl⟩
        unfold Builtin.«set.__init__» noKeywords Builtin.Frozenset.updateFrom
        generalize hg : pyIter = G
        wp_walk
        subst hg

        refine wpAny_pyIter_list isl (wpAny_bind (wpAny_runValue ?_))
        have lt : l < s.heap.objs.size := Heap.lt_size hol
        have a3 : A.in1.in1.in1.handled = none := by simp [ha]
        have zz : (s.heap.push (bareSet w)).objs.size = s.heap.objs.size + 1 := Heap.size_push ..
        have neI : l ≠ (s.heap.push { cls := .type "set", dict := none, data := .set #[] 0 (.fresh 0 0 (!w.params.followText "set-order")) }).objs.size := Nat.ne_of_lt (by rw [zz]; exact Nat.lt_succ_of_lt lt)
        have out : s.heap.objs.size ∉ [(s.heap.push { cls := .type "set", dict := none, data := .set #[] 0 (.fresh 0 0 (!w.params.followText "set-order")) }).objs.size, l] := by
          rw [zz]; intro hm
          rcases List.mem_cons.mp hm with e | e
          · exact absurd e (Nat.ne_of_lt (Nat.lt_succ_self _))
          · exact absurd (List.mem_singleton.mp e) (Nat.ne_of_gt lt)
        refine set_update_ints ((Walks.list a3 _ l neI its).toS) s.heap.objs.size out ns hsz hb (fun i v hv => ?_) (its.size - 0) 0 _ (by omega) (Nat.zero_le _) ⟨⟨_, Heap.get?_push_size _ rfl, rfl, rfl⟩, (isl.push _)⟩ ⟨0, Nat.le_refl 0, setR_new_at (Heap.get?_push_of_some _ n1)⟩ (fun t3 c3 hm hc3 hS => ?_)
        · have lti : i < ns.length := by rw [← hsz]; exact (Array.getElem?_eq_some_iff.mp hv).1
          obtain ⟨t, e⟩ := IntsAre.int_at hi i v (by rw [Array.getElem?_toList]; exact hv)
          exact ⟨ns[i], t, List.getElem?_eq_getElem lti, by rw [e, List.getD_eq_getElem?_getD, List.getElem?_eq_getElem lti]; rfl⟩
        · obtain ⟨g, gg, dd, tk, oo⟩ := t3
          cases (hm.gens : gg = s.gens)
          cases (hm.drawn : dd = s.drawn)
          cases (hm.os : oo = s.os)
          refine wpAny_pure ?_
          show wpAny _ _ (ret Value.none) _ _ _
          rw [hsz] at hc3
          refine wpAny_pure ⟨rfl, g, tk, c3, rfl, hS, hc3, fun b o e => hm.heap b o ?_ (Heap.get?_push_of_some _ (Heap.get?_push_of_some _ e))⟩
          have b0 : b < s.heap.objs.size := Heap.lt_size e
          intro hq
          rcases List.mem_cons.mp hq with e | e
          · exact absurd e (Nat.ne_of_lt b0)
          · exact absurd ((List.mem_singleton.mp e).trans zz) (Nat.ne_of_lt (Nat.lt_succ_of_lt b0))
      · cases r2 with
        | error e => exact ht2
        | ok fl2 =>
          cases fl2 with
          | ret r =>
            obtain ⟨rfl, g, tk, c3, rfl, hS, hc3, hk⟩ := ht2
            repeat (any_goals (first | assumption | wp_step))
            exact h _ _ _ hS hc3 hk
          | _ => exact ht2.elim
    | _ => exact ht.elim
end
end DL
set_option Elab.async false
set_option linter.all false
set_option maxRecDepth 100000
set_option maxHeartbeats 4000000
set_option autoImplicit false
namespace DL
open PySem PySem.Spec PyProof.Rows L2
open Classical in
noncomputable def layF (F H : Hp) (f : Addr → Prop) : Hp := fun p => if f p then H p else F p
theorem layF_in {F H : Hp} {f : Addr → Prop} {p : Addr} (h : f p) : layF F H f p = H p := by unfold layF; rw [if_pos h]
theorem layF_out {F H : Hp} {f : Addr → Prop} {p : Addr} (h : ¬ f p) : layF F H f p = F p := by unfold layF; rw [if_neg h]
def rfoot (H : Hp) (v : V) : R → Addr → Prop
  | .n c, p => ∃ a, v = .ref a ∧ Foot H a c p
  | _, _ => False
section
variable {K : PySem.W.Frag} {F B H : Hp} {vs : List V} {σ : L2.St} {δ : SEnv} {v : V} {r : R}
theorem rfoot_ok (h : RepR K F B H σ δ v r) {p : Addr} (f : rfoot H v r p) : B p = none ∧ F p = none ∧ ∃ u, H p = some u := by
  cases r with
  | n c =>
    obtain ⟨a, rfl, hBF, qc, _⟩ := h
    obtain ⟨a', e, f⟩ := f
    cases e
    exact ⟨(hBF p f).1, (hBF p f).2, qc.there f⟩
  | _ => exact f.elim
theorem rfoot_off (h : RepR K F B H σ δ v r) : Off H σ δ (rfoot H v r) := by
  cases r with
  | n c =>
    obtain ⟨a, rfl, _, _, off⟩ := h
    intro i b c' a' p e ea f f'
    obtain ⟨a0, e0, f'⟩ := f'
    cases e0
    exact off i b c' a' p e ea f f'
  | _ => exact fun _ _ _ _ _ _ _ _ z => z.elim
theorem Rep.hold (h : Rep K F B H vs σ δ) (q : RepR K F B H σ δ v r) : Rep K (layF F H (rfoot H v r)) B H vs σ δ := by
  refine ⟨h.sb, fun p u e => ?_, fun p u e => ?_, h.len, fun i s e => ?_, h.apart, h.bor, h.nt⟩
  · by_cases f : rfoot H v r p
    · rw [layF_in f] at e; exact e
    · rw [layF_out f] at e; exact h.sf p u e
  · by_cases f : rfoot H v r p
    · exact (rfoot_ok q f).1
    · rw [layF_out f] at e; exact h.dj p u e
  · obtain ⟨w, e1, q1⟩ := h.ok i s e
    refine ⟨w, e1, ?_⟩
    cases s with
    | d d => exact q1
    | w d => exact q1
    | o b c =>
      obtain ⟨a, e2, hBF, q2⟩ := q1
      subst e2
      refine ⟨a, rfl, fun p f => ⟨(hBF p f).1, ?_⟩, q2⟩
      rw [layF_out (rfoot_off q i b c a p e e1 f)]
      exact (hBF p f).2
theorem hold_xok {E : XK} {Ex : Exc → Prop} (q : RepR K F B H σ δ v r) (hx : XOk F B E Ex) : XOk (layF F H (rfoot H v r)) B E Ex := by
  have up : ∀ a o, F a = some o → layF F H (rfoot H v r) a = some o := fun a o e => by
    by_cases f : rfoot H v r a
    · have := (rfoot_ok q f).2.1; rw [e] at this; cases this
    · rw [layF_out f]; exact e
  exact fun cls da B' H' fs fds s1 s2 s3 s4 e f x => hx cls da B' H' fs fds s1 s2 (fun a o z => s3 a o (up a o z)) (fun a o z => s4 a o (up a o z)) e f x
/-- behind what was reckoned meanwhile -/
theorem held {B2 H2 : Hp} {δ2 : SEnv} (q : RepR K F B H σ δ v r) (no : ∀ i, r ≠ .o i) (s : Same B B2) (h : Rep K (layF F H (rfoot H v r)) B2 H2 vs σ δ2) : Rep K F B2 H2 vs σ δ2 ∧ RepR K F B2 H2 σ δ2 v r ∧ (∀ p, rfoot H2 v r p ↔ rfoot H v r p) := by
  have keep : ∀ p, rfoot H v r p → H2 p = H p ∧ B2 p = none := fun p f => by
    obtain ⟨u, hu⟩ := (rfoot_ok q f).2.2
    have e : layF F H (rfoot H v r) p = some u := by rw [layF_in f]; exact hu
    exact ⟨by rw [hu]; exact h.sf p u e, h.dj p u e⟩
  have out : ∀ p u, F p = some u → ¬ rfoot H v r p := fun p u e f => by have := (rfoot_ok q f).2.1; rw [e] at this; cases this
  have offl : ∀ {i : Nat} {b : Bool} {c : Cont} {a p : Addr}, δ2[i]? = some (some (.o b c)) → σ[i]? = some (some (.ref a)) → Foot H2 a c p → ¬ rfoot H v r p := fun e ea f g => by
    have z := ((h.own_up e ea).1 _ f).2
    obtain ⟨u, hu⟩ := (rfoot_ok q g).2.2
    rw [layF_in g, hu] at z; cases z
  refine ⟨⟨h.sb, fun p u e => h.sf p u (by rw [layF_out (out p u e)]; exact e), fun p u e => h.dj p u (by rw [layF_out (out p u e)]; exact e), h.len, fun i s' e => ?_, h.apart, h.bor, h.nt⟩, ?_⟩
  · obtain ⟨w, e1, q1⟩ := h.ok i s' e
    refine ⟨w, e1, ?_⟩
    cases s' with
    | d d => exact q1
    | w d => exact q1
    | o b c =>
      obtain ⟨a, e2, hBF, q2⟩ := q1
      subst e2
      refine ⟨a, rfl, fun p f => ⟨(hBF p f).1, ?_⟩, q2⟩
      have z := (hBF p f).2
      rw [layF_out (offl e e1 f)] at z
      exact z
  · cases r with
    | d d => exact ⟨DD.mono s q, fun _ => Iff.rfl⟩
    | w d => exact ⟨q, fun _ => Iff.rfl⟩
    | o i => exact absurd rfl (no i)
    | n c =>
      obtain ⟨a, rfl, hBF, qc, off⟩ := q
      have k2 : ∀ p, Foot H a c p → H2 p = H p ∧ B2 p = none := fun p f => keep p ⟨a, rfl, f⟩
      have fe : ∀ p, Foot H2 a c p ↔ Foot H a c p := fun p => foot_eq fun p f => (k2 p f).1
      refine ⟨⟨a, rfl, fun p f => ⟨(k2 p ((fe p).mp f)).2, (hBF p ((fe p).mp f)).2⟩, qc.mono s fun p f => (k2 p f).1, fun i b c' a' p e ea f f' => offl e ea f ⟨a, rfl, (fe p).mp f'⟩⟩, fun p => ?_⟩
      exact ⟨fun ⟨a', e, f⟩ => by cases e; exact ⟨a, rfl, (fe p).mp f⟩, fun ⟨a', e, f⟩ => by cases e; exact ⟨a, rfl, (fe p).mpr f⟩⟩
/-- things told one beside the other, new ones apart -/
def RepO (K : PySem.W.Frag) (F B H : Hp) (σ : L2.St) (δ : SEnv) (ws : List V) (rs : List R) : Prop := Paired (fun v r => RepR K F B H σ δ v r ∧ ∀ i, r ≠ .o i) ws rs ∧
  ∀ (i j : Nat) (v w : V) (r r' : R) (p : Addr), i ≠ j → ws[i]? = some v → ws[j]? = some w → rs[i]? = some r → rs[j]? = some r' → rfoot H v r p → ¬ rfoot H w r' p
end
structure AOSim (K : PySem.W.Frag) (E : XK) (t : TA) (W : WA) : Prop where
  mono : ∀ (Ex Ex' : XP) (δ : SEnv) (P P' : List R → SEnv → Prop), (∀ e, Ex e → Ex' e) → (∀ r δ', P r δ' → P' r δ') → W Ex δ P → W Ex' δ P'
  run : ∀ (Ex : XP) (F B H : Hp) (vs : List V) (σ : L2.St) (δ : SEnv) (P : List R → SEnv → Prop) (Q : List V → Hp → Prop), XOk F B E Ex → Rep K F B H vs σ δ → W Ex δ P →
    (∀ B' H' ws rs δ', Same B B' → Rep K F B' H' vs σ δ' → RepO K F B' H' σ δ' ws rs → P rs δ' → Q ws H') → t σ H Q
def DAO (S : Sg) (es : List Expr) (W : WA) : Prop := ∃ t, (∀ c, S.ok c → PA (S.g.cx c) es t) ∧ AOSim S.g.K S.E t W
/-- an own list under a name is taken as data -/
def frzN (δ : SEnv) : R → Option (R × SEnv)
  | .o i => (frz δ (.o i)).map fun p => (.d p.1, p.2)
  | r => some (r, δ)
def wConsO (wa : WE) (wr : WA) : WA := fun Ex δ P => wa Ex δ fun r δ1 => ob (frzN δ1 r) fun p => wr Ex p.2 fun rs δ2 => P (p.1 :: rs) δ2
theorem frzN_ok {K : PySem.W.Frag} {F B H : Hp} {vs : List V} {σ : L2.St} {δ δ' : SEnv} {v : V} {r r' : R} (h : Rep K F B H vs σ δ) (q : RepR K F B H σ δ v r) (e : frzN δ r = some (r', δ')) : ∃ B', Same B B' ∧ Rep K F B' H vs σ δ' ∧ RepR K F B' H σ δ' v r' ∧ ∀ i, r' ≠ .o i := by
  cases r with
  | d d => cases e; exact ⟨B, Same.refl _, h, q, fun _ z => nomatch z⟩
  | w d => cases e; exact ⟨B, Same.refl _, h, q, fun _ z => nomatch z⟩
  | n c => cases e; exact ⟨B, Same.refl _, h, q, fun _ z => nomatch z⟩
  | o i =>
    simp only [frzN] at e
    obtain ⟨⟨d, δ1⟩, e1, e⟩ := Option.map_eq_some_iff.mp e
    cases e
    obtain ⟨B', s, h', q'⟩ := frz_ok h q e1
    exact ⟨B', s, h', q', fun _ z => nomatch z⟩
section
variable {S : Sg}
theorem dao_nil : DAO S [] wNil := ⟨tNil, fun _ _ => pa_nil, ⟨fun _ _ δ P P' _ h w => h _ _ w, fun Ex F B H vs σ δ P Q hx h w k => k B H [] [] δ (Same.refl _) h ⟨.nil, fun i j v w r r' p _ e => by simp at e⟩ w⟩⟩
theorem dao_cons {e : Expr} {es : List Expr} {wa : WE} {wr : WA} (ha : DE S e wa) (hr : DAO S es wr) (hs : ∀ env, starEach (e :: es) env = (false, eval e env) :: starEach es env := by intro _; rfl) : DAO S (e :: es) (wConsO wa wr) := by
  obtain ⟨ta, pa, sa⟩ := ha
  obtain ⟨tr, pr, sr⟩ := hr
  refine ⟨_, fun c hc => pa_cons (pa c hc) (pr c hc) (hs _), ⟨fun Ex Ex' δ P P' hx h w => ?_, fun Ex F B H vs σ δ P Q hx h w k => ?_⟩⟩
  · exact sa.mono _ _ _ _ _ hx (fun r δ1 w => w.imp fun p w => sr.mono _ _ _ _ _ hx (fun rs δ2 w => h _ _ w) w) w
  · refine sa.run _ _ _ _ _ _ _ _ _ hx h w fun B1 H1 x r0 δ0 s1 h0 q0 w1 => ?_
    obtain ⟨⟨r, δ1⟩, e1, w1⟩ := w1
    obtain ⟨B2, s2, h1, q1, no⟩ := frzN_ok h0 q0 e1
    have s12 := s1.trans s2
    refine sr.run Ex _ B2 H1 vs σ δ1 _ _ (hold_xok q1 (hx.up s12)) (h1.hold q1) w1 fun B3 H3 ws rs δ2 s3 h3 q3 w3 => ?_
    obtain ⟨h4, q4, fe⟩ := held q1 no s3 h3
    refine k B3 H3 (x :: ws) (r :: rs) δ2 (s12.trans s3) h4 ⟨.cons ⟨q4, no⟩ (Paired.mapP q3.1 fun v r' z => ⟨?_, z.2⟩), ?_⟩ w3
    · obtain ⟨z, _⟩ := z
      cases r' with
      | d d => exact z
      | w d => exact z
      | o i => exact z
      | n c =>
        obtain ⟨a, rfl, hBF, qc, off⟩ := z
        refine ⟨a, rfl, fun p f => ⟨(hBF p f).1, ?_⟩, qc, off⟩
        have y := (hBF p f).2
        by_cases g : rfoot H1 x r p
        · exact (rfoot_ok q1 g).2.1
        · rw [layF_out g] at y; exact y
    · have apart : ∀ (j : Nat) (w : V) (r' : R) (p : Addr), ws[j]? = some w → rs[j]? = some r' → rfoot H3 x r p → ¬ rfoot H3 w r' p := by
        intro j w r' p e2 e3 f f'
        obtain ⟨y, e4, z⟩ := paired_at q3.1 e2
        rw [e3] at e4; cases e4
        have y := (rfoot_ok z.1 f').2.1
        have g := (fe p).mp f
        obtain ⟨u, hu⟩ := (rfoot_ok q1 g).2.2
        rw [layF_in g, hu] at y; cases y
      intro i j v w r1 r2 p ne e2 e3 e4 e5 f f'
      cases i with
      | zero =>
        cases j with
        | zero => exact ne rfl
        | succ j => simp at e2 e4; subst e2 e4; exact apart j w r2 p (by simpa using e3) (by simpa using e5) f f'
      | succ i =>
        cases j with
        | zero => simp at e3 e5; subst e3 e5; exact apart i v r1 p (by simpa using e2) (by simpa using e4) f' f
        | succ j => exact q3.2 i j v w r1 r2 p (fun z => ne (by rw [z])) (by simpa using e2) (by simpa using e3) (by simpa using e4) (by simpa using e5) f f'
end
def stN (δ : SEnv) (i : Nat) : R → Option SEnv
  | .d d => some (δ.set i (some (.d d)))
  | .w d => some (δ.set i (some (.w d)))
  | .n c => some (δ.set i (some (.o false c)))
  | .o _ => none
theorem stN_ok {K : PySem.W.Frag} {F B H : Hp} {vs : List V} {σ : L2.St} {δ δ' : SEnv} {i : Nat} {v : V} {r : R} (h : Rep K F B H vs σ δ) (q : RepR K F B H σ δ v r) (e : stN δ i r = some δ') : Rep K F B H vs (σ.set i (some v)) δ' ∧
    ∀ (w : V) (r' : R), RepR K F B H σ δ w r' → (∀ k, r' ≠ .o k) → (∀ p, rfoot H v r p → ¬ rfoot H w r' p) → RepR K F B H (σ.set i (some v)) δ' w r' := by
  have gen : ∀ (s : Sl), δ' = δ.set i (some s) → (∀ b c a p, s = .o b c → v = .ref a → Foot H a c p → rfoot H v r p) → Rep K F B H vs (σ.set i (some v)) δ' → ∀ (w : V) (r' : R), RepR K F B H σ δ w r' → (∀ k, r' ≠ .o k) → (∀ p, rfoot H v r p → ¬ rfoot H w r' p) → RepR K F B H (σ.set i (some v)) δ' w r' := by
    intro s ed hs hR w r' q' no dis
    cases r' with
    | d d => exact q'
    | w d => exact q'
    | o k => exact absurd rfl (no k)
    | n c =>
      obtain ⟨a, rfl, hBF, qc, off⟩ := q'
      refine ⟨a, rfl, hBF, qc, fun j b c' a' p e1 e2 f f' => ?_⟩
      subst ed
      by_cases hj : j = i
      · subst hj
        have z := set_look e1
        cases z
        rw [List.getElem?_set_self (len_lt h e1)] at e2
        cases e2
        exact dis p (hs b c' a' p rfl rfl f) ⟨a, rfl, f'⟩
      · rw [List.getElem?_set_ne (Ne.symm hj)] at e1 e2
        exact off j b c' a' p e1 e2 f f'
  cases r with
  | d d => cases e; have hR := h.store i v (.d d) q (fun _ z => nomatch z) (fun a _ c z => nomatch z); exact ⟨hR, gen (.d d) rfl (fun _ _ _ _ z => nomatch z) hR⟩
  | w d => cases e; have hR := h.store i v (.w d) q (fun _ z => nomatch z) (fun a _ c z => nomatch z); exact ⟨hR, gen (.w d) rfl (fun _ _ _ _ z => nomatch z) hR⟩
  | o k => cases e
  | n c =>
    cases e
    obtain ⟨a, rfl, hBF, qc, off⟩ := q
    have hR := h.store i (.ref a) (.o false c) ⟨a, rfl, hBF, qc⟩ (fun _ z => nomatch z) (fun a' ea' c' ec => by cases ea'; cases ec; exact off)
    exact ⟨hR, gen (.o false c) rfl (fun b c' a' p z ea f => by cases z; cases ea; exact ⟨a, rfl, f⟩) hR⟩
def stNs (δ : SEnv) : List Nat → List R → Option SEnv
  | [], [] => some δ
  | i :: is, r :: rs => (stN δ i r).bind fun δ1 => stNs δ1 is rs
  | _, _ => none
def sets (σ : L2.St) : List Nat → List V → L2.St
  | i :: is, v :: vs => sets (σ.set i (some v)) is vs
  | _, _ => σ
theorem stNs_ok {K : PySem.W.Frag} {F B H : Hp} {vs : List V} : ∀ {is : List Nat} {rs : List R} {ws : List V} {σ : L2.St} {δ δ' : SEnv}, Rep K F B H vs σ δ → RepO K F B H σ δ ws rs → stNs δ is rs = some δ' → Rep K F B H vs (sets σ is ws) δ'
  | [], [], ws, σ, δ, δ', h, q, e => by cases e; obtain ⟨q, _⟩ := q; cases q; exact h
  | [], _ :: _, _, _, _, _, _, _, e => nomatch e
  | _ :: _, [], _, _, _, _, _, _, e => nomatch e
  | i :: is, r :: rs, ws, σ, δ, δ', h, q, e => by
    obtain ⟨q, dis⟩ := q
    cases q with
    | @cons v _ ws _ q1 q2 =>
      simp only [stNs] at e
      obtain ⟨δ1, e1, e⟩ := Option.bind_eq_some_iff.mp e
      obtain ⟨h1, up⟩ := stN_ok h q1.1 e1
      show Rep K F B H vs (sets (σ.set i (some v)) is ws) δ'
      refine stNs_ok (is := is) (rs := rs) (σ := σ.set i (some v)) h1 ⟨paired_mono q2 fun j w r' e2 e3 z => ⟨up w r' z.1 z.2 fun p f => dis 0 (j + 1) v w r r' p (by omega) rfl (by simpa using e2) rfl (by simpa using e3) f, z.2⟩, fun a b w w' r1 r2 p ne e2 e3 e4 e5 f => ?_⟩ e
      exact dis (a + 1) (b + 1) w w' r1 r2 p (by omega) (by simpa using e2) (by simpa using e3) (by simpa using e4) (by simpa using e5) f
/-- a, b = x, y and a, b, c = x, y, z -/
def wParO (is : List Nat) (wr : WA) : WS := fun d δ => wr d.ex δ fun rs δ1 => ob (stNs δ1 is rs) fun δ2 => d.nx δ2
section
variable {S : Sg}
theorem ds_parO2 {i j : Nat} {x y : Str} {a b : Expr} {wr : WA} {px py pt pos : Pos} {kt k2 : Nat} {pt2 : Pos} (hi : S.N[i]? = some x) (hj : S.N[j]? = some y) (hij : i ≠ j) (hx : S.sc.names.lookup x = some .local) (hy : S.sc.names.lookup y = some .local) (ha : DAO S [a, b] wr)
    (hw : ∀ env : Env, swappedStores [.Tuple [.Name x px, .Name y py] kt pt] (.Tuple [a, b] k2 pt2) { env with scope := S.sc } = pure (some [x, y]))
    (hs : ∀ env, swapsWithSole [.Tuple [.Name x px, .Name y py] kt pt] (.Tuple [a, b] k2 pt2) pos.line env = pure false := by intro _; rfl) :
    DS S (.Assign [.Tuple [.Name x px, .Name y py] kt pt] (.Tuple [a, b] k2 pt2) pos) (wParO [i, j] wr) := by
  obtain ⟨t, p, s⟩ := ha
  refine ⟨tPar i j t, fun c hc => ps_par (X := S.g.cx c) hc.calm (by show c.N.Nodup; rw [hc.hN]; exact hc.nd) (by show c.N[i]? = _; rw [hc.hN]; exact hi) (by show c.N[j]? = _; rw [hc.hN]; exact hj) hij (by show c.env.scope.names.lookup x = _; rw [hc.hs]; exact hx) (by show c.env.scope.names.lookup y = _; rw [hc.hs]; exact hy) (p c hc) (by have q := hw c.env; rw [← hc.hs] at q; exact q) (hs _), ⟨fun d d' δ h w => s.mono _ _ _ _ _ h.ex (fun rs δ1 w => w.imp fun p w => h.nx _ w) w, fun F B H vs σ δ D d hx h k w => ?_⟩⟩
  refine s.run _ _ _ _ _ _ _ _ _ hx h w fun B1 H1 ws rs δ1 s1 h1 q1 w1 => ?_
  obtain ⟨δ2, e1, w1⟩ := w1
  have h2 := stNs_ok h1 q1 e1
  match rs, ws, q1.1, e1 with
  | [r1, r2], [v, w], _, e1 => exact ⟨v, w, rfl, k.nx B1 _ H1 _ s1 h2 w1⟩
  | [], _, _, e1 => exact nomatch e1
  | [_], _, _, e1 => simp only [stNs] at e1; obtain ⟨_, _, e1⟩ := Option.bind_eq_some_iff.mp e1; exact nomatch e1
  | _ :: _ :: _ :: _, _, _, e1 => simp only [stNs] at e1; obtain ⟨_, _, e1⟩ := Option.bind_eq_some_iff.mp e1; obtain ⟨_, _, e1⟩ := Option.bind_eq_some_iff.mp e1; exact nomatch e1
end
def Pt.r : Pt → R
  | .d x => R.d x
  | .l xs => R.n (Cont.l xs)
  | .k xs => R.n (Cont.k xs)
  | .p xs => R.n (Cont.pt xs)
/-- a, b, .. = a tuple -/
def unp (δ : SEnv) (is : List Nat) : R → Option SEnv
  | .n (.tp ps) => stNs δ is (ps.map Pt.r)
  | r => (frz δ r).bind fun p => match p.1 with
    | .tuple ds => stNs p.2 is (ds.map R.d)
    | _ => none
def wUnp (is : List Nat) (wa : WE) : WS := fun d δ => wa d.ex δ fun r δ1 => ob (unp δ1 is r) fun δ2 => d.nx δ2
theorem stNs_len : ∀ {is : List Nat} {rs : List R} {δ δ' : SEnv}, stNs δ is rs = some δ' → is.length = rs.length
  | [], [], _, _, _ => rfl
  | [], _ :: _, _, _, e => nomatch e
  | _ :: _, [], _, _, e => nomatch e
  | i :: is, r :: rs, _, _, e => by
    simp only [stNs] at e
    obtain ⟨δ1, _, e⟩ := Option.bind_eq_some_iff.mp e
    rw [List.length_cons, List.length_cons, stNs_len e]
theorem dds_reps {K : PySem.W.Frag} {F B H : Hp} {σ : L2.St} {δ : SEnv} : ∀ {ws : List V} {ds : List PyData}, DDs B ws ds → Paired (fun v r => RepR K F B H σ δ v r ∧ ∀ i, r ≠ .o i) ws (ds.map R.d)
  | _, _, .nil => .nil
  | _, _, .cons q r => .cons ⟨q, fun _ z => nomatch z⟩ (dds_reps r)
theorem repo_ds {K : PySem.W.Frag} {F B H : Hp} {σ : L2.St} {δ : SEnv} {ws : List V} {ds : List PyData} (q : DDs B ws ds) : RepO K F B H σ δ ws (ds.map R.d) := by
  refine ⟨dds_reps q, fun i j v w r r' p _ _ _ e _ f => ?_⟩
  rw [List.getElem?_map] at e
  obtain ⟨d, _, rfl⟩ := Option.map_eq_some_iff.mp e
  exact f.elim
theorem repo_pts {K : PySem.W.Frag} {F B H : Hp} {σ : L2.St} {δ : SEnv} {a : Addr} {ps : List Pt} {xs : List V} (ha : H a = some (.tup xs)) (hBF : ∀ p, Foot H a (.tp ps) p → B p = none ∧ F p = none) (q : Paired (PtOk B H a) xs ps)
    (d : ∀ (i j : Nat) (b : Addr) (p q : Pt), ps[i]? = some p → ps[j]? = some q → p.own = true → q.own = true → xs[i]? = some (.ref b) → xs[j]? = some (.ref b) → i = j) (off : Off H σ δ (Foot H a (.tp ps))) : RepO K F B H σ δ xs (ps.map Pt.r) := by
  have one : ∀ {i : Nat} {v : V} {p : Pt}, xs[i]? = some v → ps[i]? = some p → PtOk B H a v p → RepR K F B H σ δ v p.r ∧ (∀ b, rfoot H v p.r b → v = .ref b ∧ p.own = true) := by
    intro i v p e1 e2 z
    cases p with
    | d d =>
      show RepR K F B H σ δ v (.d d) ∧ ∀ b, rfoot H v (.d d) b → _
      exact ⟨z, fun b f => f.elim⟩
    | l ds =>
      show RepR K F B H σ δ v (.n (.l ds)) ∧ ∀ b, rfoot H v (.n (.l ds)) b → _
      obtain ⟨b, zs, rfl, n, hb, qz⟩ := z
      have fb : Foot H a (.tp ps) b := .inr ⟨xs, ha, i, _, e2, rfl, e1⟩
      exact ⟨⟨b, rfl, fun p f => by cases f; exact hBF _ fb, ⟨zs, hb, qz⟩, fun j b' c a' p e3 e4 f f' => by cases f'; exact off j b' c a' _ e3 e4 f fb⟩, fun b' ⟨a', e, f⟩ => by cases e; cases f; exact ⟨rfl, rfl⟩⟩
    | k kvs =>
      show RepR K F B H σ δ v (.n (.k kvs)) ∧ ∀ b, rfoot H v (.n (.k kvs)) b → _
      obtain ⟨b, zs, rfl, n, hb, qz⟩ := z
      have fb : Foot H a (.tp ps) b := .inr ⟨xs, ha, i, _, e2, rfl, e1⟩
      exact ⟨⟨b, rfl, fun p f => by cases f; exact hBF _ fb, ⟨zs, hb, qz⟩, fun j b' c a' p e3 e4 f f' => by cases f'; exact off j b' c a' _ e3 e4 f fb⟩, fun b' ⟨a', e, f⟩ => by cases e; cases f; exact ⟨rfl, rfl⟩⟩
    | p ds =>
      show RepR K F B H σ δ v (.n (.pt ds)) ∧ ∀ b, rfoot H v (.n (.pt ds)) b → _
      obtain ⟨b, o, zs, rfl, hb, ec, ed, qz⟩ := z
      exact ⟨⟨b, rfl, fun p f => f.elim, ⟨o, zs, hb, ec, ed, qz⟩, fun _ _ _ _ _ _ _ _ f => f⟩, fun b' ⟨a', e, f⟩ => f.elim⟩
  refine ⟨?_, fun i j v w r r' p ne e1 e2 e3 e4 f f' => ?_⟩
  · have gen : ∀ {ys : List V} {qs : List Pt}, Paired (PtOk B H a) ys qs → (∀ (i : Nat) (v : V) (p : Pt), ys[i]? = some v → qs[i]? = some p → PtOk B H a v p → RepR K F B H σ δ v p.r) → Paired (fun v r => RepR K F B H σ δ v r ∧ ∀ i, r ≠ .o i) ys (qs.map Pt.r) := by
      intro ys qs h
      induction h with
      | nil => intro _; exact .nil
      | @cons v p _ _ z _ ih => intro f; exact .cons ⟨f 0 v p rfl rfl z, fun i y => by cases p <;> cases y⟩ (ih fun i v p e1 e2 z => f (i + 1) v p (by simpa using e1) (by simpa using e2) z)
    exact gen q fun i v p e1 e2 z => (one e1 e2 z).1
  · rw [List.getElem?_map] at e3 e4
    obtain ⟨p1, g3, rfl⟩ := Option.map_eq_some_iff.mp e3
    obtain ⟨p2, g4, rfl⟩ := Option.map_eq_some_iff.mp e4
    obtain ⟨p1', e5, z1⟩ := paired_at q e1
    obtain ⟨p2', e6, z2⟩ := paired_at q e2
    rw [g3] at e5; cases e5
    rw [g4] at e6; cases e6
    obtain ⟨ev, o1⟩ := (one e1 g3 z1).2 p f
    obtain ⟨ew, o2⟩ := (one e2 g4 z2).2 p f'
    subst ev ew
    exact ne (d i j p p1 p2 g3 g4 o1 o2 e1 e2)
/-- the names of a target -/
def gNames : List Nat → TGs
  | [] => gNil
  | i :: is => gCons (gName i) (gNames is)
theorem gNames_run {H : Hp} {Q : L2.St → Hp → Prop} : ∀ {is : List Nat} {ws : List V} {σ : L2.St}, is.length = ws.length → Q (sets σ is ws) H → gNames is ws σ H Q
  | [], [], _, _, q => ⟨rfl, q⟩
  | [], _ :: _, _, l, _ => by cases l
  | _ :: _, [], _, l, _ => by cases l
  | i :: is, w :: ws, σ, l, q => ⟨w, ws, rfl, gNames_run (σ := σ.set i (some w)) (by simpa using l) q⟩
def DNs (S : Sg) (tgs : List Expr) (is : List Nat) : Prop := ∀ c, S.ok c → PGs (S.g.cx c) tgs (gNames is)
section
variable {S : Sg}
theorem dns_nil : DNs S [] [] := fun _ _ => pgs_nil
theorem dns_cons {i : Nat} {is : List Nat} {x : Str} {p : Pos} {es : List Expr} (hi : S.N[i]? = some x) (hx : Loc S.sc x) (h : DNs S es is) (ht : S.top = true ∨ S.sc.names.lookup x = some .local := by first | exact .inl rfl | exact .inr rfl)
    (hs : ∀ env, (assignEach (.Name x p :: es) env).map (·.2) = assign (.Name x p) env :: (assignEach es env).map (·.2) := by intro _; rfl) : DNs S (.Name x p :: es) (i :: is) :=
  fun c hc => pgs_cons (pg_name (X := S.g.cx c) (by show c.N.Nodup; rw [hc.hN]; exact hc.nd) (by show c.N[i]? = _; rw [hc.hN]; exact hi) (by show Loc c.env.scope x; rw [hc.hs]; exact hx) (fn_ok hc ht)) (h c hc) (hs _)
theorem ds_unp {tgs : List Expr} {k n : Nat} {is : List Nat} {pt pos : Pos} {e : Expr} {wa : WE} (h : DE S e wa) (hg : DNs S tgs is) (hl : is.length = n) (hn : ∀ env, (assignEach tgs env).length = n := by intro _; rfl) (hst : ∀ env, (assignEach tgs env).findIdx? (·.1) = none := by intro _; rfl)
    (hs : ∀ env, swapsWithSole [.Tuple tgs k pt] e pos.line env = pure false := by intro _; rfl) (hw : ∀ c, S.ok c → swappedStores [.Tuple tgs k pt] e c.env = pure none := by intro _ _; rfl) (h1 : ∀ env, (assignEach [.Tuple tgs k pt] env).map (·.2) = [assign (.Tuple tgs k pt) env] := by intro _; rfl) :
    DS S (.Assign [.Tuple tgs k pt] e pos) (wUnp is wa) := by
  obtain ⟨t, p, s⟩ := h
  refine ⟨tAsg t (gTup S.g.K n (gNames is)), fun c hc => ps_asg (p c hc) (pg_tup (X := S.g.cx c) hc.calm (hg c hc) (hn _) (hst _)) (hs _) (hw c hc) (h1 _), ⟨fun d d' δ h w => s.mono _ _ _ _ _ h.ex (fun r δ1 w => w.imp fun p w => h.nx _ w) w, fun F B H vs σ δ D d hx h k w => ?_⟩⟩
  refine s.run _ _ _ _ _ _ _ _ _ hx h w fun B1 H1 v r δ1 s1 h1 q1 w1 => ?_
  obtain ⟨δ2, e1, w1⟩ := w1
  have dat : ((frz δ1 r).bind fun p => match p.1 with | .tuple ds => stNs p.2 is (ds.map R.d) | _ => none) = some δ2 → gTup S.g.K n (gNames is) v σ H1 D.nx := by
    intro e1
    obtain ⟨⟨d0, δ3⟩, e2, e1⟩ := Option.bind_eq_some_iff.mp e1
    obtain ⟨B2, s2, h2, q2⟩ := frz_ok h1 q1 e2
    cases q2 with
    | @tup a xs ds r3 q3 =>
      have h3 := stNs_ok h2 (repo_ds q3) e1
      have l := stNs_len e1
      rw [List.length_map] at l
      exact ⟨a, xs, rfl, .inl (PlT.mono h2.sb r3).rd, by rw [q3.length, ← l, hl], gNames_run (by rw [l, q3.length]) (k.nx B2 _ H1 _ (s1.trans s2) h3 w1)⟩
    | _ => cases e1
  cases r with
  | n c =>
    cases c with
    | tp ps =>
      obtain ⟨a, rfl, hBF, ⟨xs, hx2, qx, dx⟩, off⟩ := q1
      have h3 := stNs_ok h1 (repo_pts hx2 hBF qx dx off) e1
      have l := stNs_len e1
      rw [List.length_map] at l
      have lx := Paired.length qx
      exact ⟨a, xs, rfl, .inl (.inl hx2), by rw [lx, ← l, hl], gNames_run (by rw [l, lx]) (k.nx B1 _ H1 _ s1 h3 w1)⟩
    | _ => exact dat e1
  | _ => exact dat e1
end
end DL
set_option Elab.async false
set_option linter.all false
set_option maxRecDepth 100000
set_option maxHeartbeats 4000000
set_option autoImplicit false
namespace DL
open PySem PySem.Spec PyProof.Rows L2
def insU (n : Int) : List Int → List Int
  | [] => [n]
  | m :: ms => if n < m then n :: m :: ms else if n = m then m :: ms else m :: insU n ms
def upI (ns : List Int) : List Int := ns.foldr insU []
theorem mem_insU {n k : Int} : ∀ {ms : List Int}, k ∈ insU n ms ↔ k = n ∨ k ∈ ms
  | [] => by simp [insU]
  | m :: ms => by
    unfold insU
    split
    · simp
    · split
      · rename_i e; subst e; simp
      · rw [List.mem_cons, mem_insU (ms := ms), List.mem_cons]
        constructor
        · rintro (h | h | h)
          · exact .inr (.inl h)
          · exact .inl h
          · exact .inr (.inr h)
        · rintro (h | h | h)
          · exact .inr (.inl h)
          · exact .inl h
          · exact .inr (.inr h)
theorem mem_upI {k : Int} : ∀ {ns : List Int}, k ∈ upI ns ↔ k ∈ ns
  | [] => by simp [upI]
  | n :: ns => by
    show k ∈ insU n (upI ns) ↔ _
    rw [mem_insU, mem_upI (ns := ns), List.mem_cons]
theorem up_insU {n : Int} : ∀ {ms : List Int}, ms.Pairwise (· < ·) → (insU n ms).Pairwise (· < ·)
  | [], _ => by simp [insU]
  | m :: ms, h => by
    obtain ⟨h1, h2⟩ := List.pairwise_cons.mp h
    unfold insU
    split
    · rename_i hl
      refine List.pairwise_cons.mpr ⟨fun k hk => ?_, h⟩
      rcases List.mem_cons.mp hk with e | e
      · omega
      · have := h1 k e; omega
    · split
      · exact h
      · refine List.pairwise_cons.mpr ⟨fun k hk => ?_, up_insU h2⟩
        rcases mem_insU.mp hk with e | e
        · omega
        · exact h1 k e
theorem up_upI : ∀ (ns : List Int), (upI ns).Pairwise (· < ·)
  | [] => by simp [upI]
  | n :: ns => up_insU (up_upI ns)
theorem upI_one {ms ns : List Int} (h1 : ms.Pairwise (· < ·)) (h2 : ∀ k : Int, k ∈ ms ↔ k ∈ ns) : ms = upI ns := by
  have nd : ∀ {l : List Int}, l.Pairwise (· < ·) → l.Nodup := fun h => h.imp fun h e => by omega
  have hp : ms.Perm (upI ns) := (List.perm_ext_iff_of_nodup (nd h1) (nd (up_upI ns))).mpr fun k => by rw [h2 k, mem_upI]
  exact List.Perm.eq_of_pairwise (le := fun (a b : Int) => a < b) (fun a b _ _ x y => by omega) h1 (up_upI ns) hp
theorem len_insU {n : Int} : ∀ {ms : List Int}, (insU n ms).length ≤ ms.length + 1
  | [] => by simp [insU]
  | m :: ms => by
    unfold insU
    split
    · simp
    · split
      · simp
      · rw [List.length_cons, List.length_cons]; have := len_insU (n := n) (ms := ms); omega
theorem len_upI : ∀ {ns : List Int}, (upI ns).length ≤ ns.length
  | [] => by simp [upI]
  | n :: ns => by
    show (insU n (upI ns)).length ≤ _
    have := len_insU (n := n) (ms := upI ns)
    have := len_upI (ns := ns)
    rw [List.length_cons]; omega
section
variable {X : Cx}
def rSetI (K : PySem.W.Frag) (w : World) : List V → Hp → VK → Prop := fun xs H Q => ∃ (l : Addr) (ns : List Int), xs = [.ref l] ∧ (SqL K H l (ns.map V.int) ∨ SqT K H l (ns.map V.int)) ∧ ns.length ≤ 1000 ∧
  ∀ p c, H p = none → c ≤ ns.length → Q (.ref p) (upd H p (SetO w p (fun j => decide (j ∈ ns)) c))
theorem cr_setI (hc : X.calm = true) : CallR X (.type "set") (rSetI X.K X.w) := by
  intro pins s σ H xs us Q I r h
  obtain ⟨l, ns, rfl, hs, hl, q⟩ := h
  rw [Vals.ref1 r]
  have hb : ns.length + 1 < scanBound := by unfold scanBound; omega
  rcases hs with hs | hs
  · obtain ⟨its, rv, pl, hz⟩ := I.list hs
    refine set_of_ints ns (I.ok.hd hc) pl.isList (by simpa using ints_of_vals rv) hb fun g tk c hS hc2 hk => ?_
    exact ⟨.ref s.heap.objs.size, _, I.laid (t' := tk) hk (Nat.le_refl _) (setO_new hS), rfl, q _ c (I.hok.fresh (Nat.le_refl _)) hc2⟩
  · obtain ⟨its, rv, pt, hz⟩ := I.tuple hs
    refine call_set_tupI ns (I.ok.hd hc) (show s.heap.IsTuple l its.toArray from pt) (by simpa using ints_of_vals rv) hb fun g tk c hS hc2 hk => ?_
    exact ⟨.ref s.heap.objs.size, _, I.laid (t' := tk) hk (Nat.le_refl _) (setO_new hS), rfl, q _ c (I.hok.fresh (Nat.le_refl _)) hc2⟩
end
def ssetF : List Vw → Option Rv
  | [.d (.list ds)] => (numsD ds).bind fun ns => if ns.length < 64 then some (.lst ((upI ns).map .int)) else none
  | [.d (.tuple ds)] => (numsD ds).bind fun ns => if ns.length < 64 then some (.lst ((upI ns).map .int)) else none
  | _ => none
section
variable {S : Sg}
theorem de_sortedSet {a : Expr} {wa : WE} {p p2 q pos : Pos} (hg : GlS S.sc "sorted") (hm : S.g.mg "sorted" = none) (hg2 : GlS S.sc "set") (hm2 : S.g.mg "set" = none) (ha : DE S a wa)
    (hs : ∀ env, starEach [a] env = (false, eval a env) :: starEach [] env := by intro _; rfl) (hs2 : ∀ env, starEach [Expr.Call (.Name "set" p2) [a] [] q] env = (false, eval (Expr.Call (.Name "set" p2) [a] [] q) env) :: starEach [] env := by intro _; rfl)
    (hp : ∀ env, (backTo pos (starEach [] env)).any (·.1) = false := by intro _; rfl) (hp2 : ∀ env, (backTo q (starEach [] env)).any (·.1) = false := by intro _; rfl) :
    DE S (.Call (.Name "sorted" p) [.Call (.Name "set" p2) [a] [] q] [] pos) (wCB ssetF (wCons wa wNil)) := by
  obtain ⟨t, pa, s⟩ := ha
  refine ⟨tCB (rSortedSet S.g.w) (tCons (tCB (rSetI S.g.K S.g.w) (tCons t tNil)) tNil), fun c hc => ?_, ⟨fun Ex Ex' δ P P' hx h w => ?_, fun Ex F B H vs σ δ P Q hx h w k => ?_⟩⟩
  · exact pe_callB (cr_sortedSet hc.calm) (gl_of hc hg) hm (by first | rfl | decide +kernel) (pa_cons (pe_callTy (cr_setI hc.calm) (gl_of hc hg2) hm2 (by first | rfl | decide +kernel) (pa_cons (pa c hc) pa_nil (hs _)) (by decide) (by decide) (hs _) (hp2 _)) pa_nil (hs2 _)) (by decide) (by decide) (hs2 _) (hp _)
  · exact s.mono _ _ _ _ _ hx (fun r δ1 w => w.imp fun r' w => w.imp fun as w => w.imp fun rv w => h _ _ w) w
  · refine s.run _ _ _ _ _ _ _ _ _ hx h w fun B1 H1 x r δ1 s1 h1 q1 w1 => ?_
    obtain ⟨r', e1, as, e2, rv, e3, w1⟩ := w1
    obtain ⟨B2, s2, h2, q2, n2⟩ := settle_ok h1 q1 e1
    have ov := views_ok h2 (show RepRs S.g.K F B2 H1 σ δ1 [x] [r'] from .cons ⟨q2, n2⟩ .nil) e2
    have key : ∀ (p : Addr) (ns : List Int), x = .ref p → (SqL S.g.K H1 p (ns.map V.int) ∨ SqT S.g.K H1 p (ns.map V.int)) → ns.length < 64 → rv = .lst ((upI ns).map .int) → rSetI S.g.K S.g.w [x] H1 fun y H2 => rSortedSet S.g.w [y] H2 Q := by
      intro p ns ex hsq hl ev
      subst ex ev
      refine ⟨p, ns, rfl, hsq, by omega, fun a c ha hc2 => ⟨a, _, c, rfl, upd_same, by omega, fun ns' b hb1 hb2 hb3 hb => ?_⟩⟩
      have en : ns' = upI ns := upI_one hb1 fun k => by rw [hb2 k, decide_eq_true_eq]
      subst en
      exact rvk_ok (s1.trans s2) (h2.newO ha _) w1 k b _ hb (dds_ofI _)
    unfold ssetF at e3
    split at e3
    · obtain ⟨ns, e4, e3⟩ := Option.bind_eq_some_iff.mp e3
      split at e3
      · cases e3
        obtain ⟨v, ev, q⟩ := ovs1 ov
        cases ev
        obtain ⟨p, xs, rfl, hr, qx⟩ := ov_lst h2.sb q
        cases nums_dd e4 qx
        exact key p ns rfl (.inl (.inl hr)) (by assumption) rfl
      · cases e3
    · obtain ⟨ns, e4, e3⟩ := Option.bind_eq_some_iff.mp e3
      split at e3
      · cases e3
        obtain ⟨v, ev, q⟩ := ovs1 ov
        cases ev
        obtain ⟨p, xs, rfl, hr, qx⟩ := ov_tup q
        cases nums_dd e4 qx
        exact key p ns rfl (.inr (.inl (PlT.mono h2.sb hr).rd)) (by assumption) rfl
      · cases e3
    · cases e3
end
def minF : List Vw → Option Rv
  | [.d (.int i), .d (.int j)] => some (.val (.int (if j < i then j else i)))
  | _ => none
theorem cs_min {S : Sg} : CallS S (.builtin "min") minF := by
  rintro c hc pins s σ H xs us Q I rv ⟨B, as, r, sB, ov, e, k⟩
  unfold minF at e
  split at e
  · cases e
    obtain ⟨v, u, rfl, q1, q2⟩ := ovs2 ov
    cases ov_int q1; cases ov_int q2
    exact call_min2 hc.calm pins s σ H _ us Q I rv ⟨_, _, rfl, k _ (.int _)⟩
  · cases e
def maxL : List Int → Int
  | [] => 0
  | n :: ns => ns.foldl (fun a b => if b > a then b else a) n
theorem foldl_max : ∀ (ns : List Int) (n : Int), (ns.foldl (fun a b => if b > a then b else a) n = n ∨ ns.foldl (fun a b => if b > a then b else a) n ∈ ns) ∧ n ≤ ns.foldl (fun a b => if b > a then b else a) n ∧ ∀ m ∈ ns, m ≤ ns.foldl (fun a b => if b > a then b else a) n
  | [], n => ⟨.inl rfl, Int.le_refl _, fun m h => by simp at h⟩
  | m :: ns, n => by
    rw [List.foldl_cons]
    obtain ⟨h1, h2, h3⟩ := foldl_max ns (if m > n then m else n)
    refine ⟨?_, ?_, fun k hk => ?_⟩
    · rcases h1 with h1 | h1
      · rw [h1]
        split
        · exact .inr List.mem_cons_self
        · exact .inl rfl
      · exact .inr (List.mem_cons_of_mem _ h1)
    · refine Int.le_trans ?_ h2; split <;> omega
    · rcases List.mem_cons.mp hk with e | e
      · subst e; refine Int.le_trans ?_ h2; split <;> omega
      · exact h3 k e
theorem maxL_mem {ns : List Int} (h : 0 < ns.length) : maxL ns ∈ ns ∧ ∀ m ∈ ns, m ≤ maxL ns := by
  cases ns with
  | nil => simp at h
  | cons n ns =>
    obtain ⟨h1, h2, h3⟩ := foldl_max ns n
    refine ⟨?_, fun m hm => ?_⟩
    · rcases h1 with h1 | h1
      · show ns.foldl _ n ∈ _; rw [h1]; exact List.mem_cons_self
      · exact List.mem_cons_of_mem _ h1
    · rcases List.mem_cons.mp hm with e | e
      · subst e; exact h2
      · exact h3 m e
theorem maxL_one {ns : List Int} {m : Int} (h : m ∈ ns) (hm : ∀ y ∈ ns, y ≤ m) : m = maxL ns := by
  obtain ⟨h1, h2⟩ := maxL_mem (List.length_pos_of_mem h)
  exact Int.le_antisymm (h2 m h) (hm _ h1)
def maxF2 : List Vw → Option Rv
  | [.d (.int i), .d (.int j)] => some (.val (.int (if j > i then j else i)))
  | [.d (.list ds)] => (numsD ds).bind fun ns => if 0 < ns.length then some (.val (.int (maxL ns))) else none
  | _ => none
theorem cs_max2 {S : Sg} : CallS S (.builtin "max") maxF2 := by
  rintro c hc pins s σ H xs us Q I rv ⟨B, as, r, sB, ov, e, k⟩
  unfold maxF2 at e
  split at e
  · cases e
    obtain ⟨v, u, rfl, q1, q2⟩ := ovs2 ov
    cases ov_int q1; cases ov_int q2
    exact call_max2 hc.calm pins s σ H _ us Q I rv ⟨_, _, rfl, k _ (.int _)⟩
  · obtain ⟨ns, e1, e⟩ := Option.bind_eq_some_iff.mp e
    split at e
    · cases e
      obtain ⟨v, rfl, q⟩ := ovs1 ov
      obtain ⟨p, xs, rfl, hr, qx⟩ := ov_lst sB q
      cases nums_dd e1 qx
      refine cr_max hc.calm pins s σ H _ us Q I rv ⟨p, ns, rfl, .inl hr, by assumption, fun m hm hle => ?_⟩
      rw [maxL_one hm hle]
      exact k _ (.int _)
    · cases e
  · cases e
end DL
set_option Elab.async false
set_option linter.all false
set_option maxRecDepth 100000
set_option maxHeartbeats 400000
set_option autoImplicit false
namespace DL
open PySem PySem.Spec PyProof.Rows L2
def kvsV : Vw → Option (List (Key × PyData))
  | .k kvs => some kvs
  | _ => none
end DL
set_option Elab.async false
set_option linter.all false
set_option maxRecDepth 100000
set_option maxHeartbeats 1000000
set_option autoImplicit false
namespace DL
open PySem PySem.Spec PyProof.Rows L2
def inN (neg : Bool) (a b : Vw) : Option Rv := match a, b with
  | .d .none, .k _ => some (.val (.bool neg))
  | .d .none, .rk _ => some (.val (.bool neg))
  | .d d, .rk kvs => (keyD d).map fun k => .val (.bool (if neg then !(lookD kvs k).isSome else (lookD kvs k).isSome))
  | a, b => inG neg a b
theorem look_same {B : Hp} {ys : List (Key × V)} {kvs : List (Key × PyData)} (q : KDs B ys kvs) (k : Key) : (valV ys k).isSome = (lookD kvs k).isSome := by
  rcases kds_look q k with ⟨z1, z2⟩ | ⟨_, _, z1, z2, _⟩ <;> rw [z1, z2] <;> rfl
theorem os_inN_ {S : Sg} (neg : Bool) : OpS S (compareOp (if neg then .NotIn else .In)) (inN neg) := by
  rintro c hc pins s σ H x y v u Q I rx ry ⟨B, a, b, rv, sB, oa, ob, e, k⟩
  unfold inN at e
  split at e
  · cases e
    cases ov_non oa
    obtain ⟨p, ys, rfl, hy, _⟩ := ob
    cases (show v = Value.none from rx)
    cases (show u = Value.ref p from ry)
    cases neg
    · exact d_inNone (X := S.g.cx c) I (.inl hy) fun s3 I3 => ⟨.bl false, H, I3, rfl, k _ (.bl _)⟩
    · exact d_notInNone (X := S.g.cx c) I (.inl hy) fun s3 I3 => ⟨.bl true, H, I3, rfl, k _ (.bl _)⟩
  · cases e
    cases ov_non oa
    obtain ⟨p, ys, rfl, hy, _⟩ := ob
    cases (show v = Value.none from rx)
    cases (show u = Value.ref p from ry)
    cases neg
    · exact d_inNone (X := S.g.cx c) I hy fun s3 I3 => ⟨.bl false, H, I3, rfl, k _ (.bl _)⟩
    · exact d_notInNone (X := S.g.cx c) I hy fun s3 I3 => ⟨.bl true, H, I3, rfl, k _ (.bl _)⟩
  · obtain ⟨kk, e1, e⟩ := Option.map_eq_some_iff.mp e
    subst e
    obtain ⟨p, ys, rfl, hy, qy⟩ := ob
    have ey : x = kV kk := by
      rcases oa with oa | ⟨_, _, _, _, z, _⟩
      · exact key_dd e1 oa
      · subst z; cases e1
    subst ey
    have g : DGet H p (kV kk) (valV ys kk) := .inl ⟨ys, kk, hy, rfl, rfl⟩
    have ei := look_same qy kk
    cases (show u = Value.ref p from ry)
    cases neg
    · exact d_in (hu_of hc.room) I g rx fun s3 I3 => ⟨.bl (valV ys kk).isSome, H, I3, rfl, by rw [ei]; exact k _ (.bl _)⟩
    · exact d_notIn (hu_of hc.room) I g rx fun s3 I3 => ⟨.bl (!(valV ys kk).isSome), H, I3, rfl, by rw [ei]; exact k _ (.bl _)⟩
  · exact os_in_ neg c hc pins s σ H x y v u Q I rx ry ⟨B, _, _, rv, sB, oa, ob, e, k⟩
end DL
set_option Elab.async false
set_option linter.all false
set_option maxRecDepth 100000
set_option maxHeartbeats 1000000
set_option autoImplicit false
namespace DL
open PySem PySem.Spec PyProof.Rows L2
def delH (B : Hp) (a : Addr) : Hp := fun p => if p = a then none else B p
theorem del_ne {B : Hp} {a p : Addr} (h : p ≠ a) : delH B a p = B p := by unfold delH; rw [if_neg h]
def NoSeq (B : Hp) (a : Addr) : Prop := ∀ xs, ¬ Rd B a (.lst xs) ∧ ¬ Rd B a (.tup xs)
theorem rd_del {B : Hp} {a p : Addr} {u : HO} (h : Rd B p u) (n : p ≠ a) : Rd (delH B a) p u := by
  unfold Rd; rw [del_ne n]; exact h
theorem pl_del {B : Hp} {a p : Addr} {xs : List V} (h : PlT B p xs) (n : p ≠ a) : PlT (delH B a) p xs := by
  obtain ⟨o, e, r⟩ := h
  exact ⟨o, by rw [del_ne n]; exact e, r⟩
mutual
theorem DD.del {B : Hp} {a : Addr} (n : NoSeq B a) : ∀ {v : V} {d : PyData}, DD B v d → DD (delH B a) v d
  | _, _, .non => .non
  | _, _, .bl b => .bl b
  | _, _, .int i => .int i
  | _, _, .str x => .str x
  | _, _, .lst r q => .lst (rd_del r fun e => (n _).1 (e ▸ r)) (DDs.del n q)
  | _, _, .tup (xs := xs) r q => .tup (pl_del r fun e => (n xs).2 (e ▸ r.rd)) (DDs.del n q)
theorem DDs.del {B : Hp} {a : Addr} (n : NoSeq B a) : ∀ {vs : List V} {ds : List PyData}, DDs B vs ds → DDs (delH B a) vs ds
  | _, _, .nil => .nil
  | _, _, .cons q r => .cons (DD.del n q) (DDs.del n r)
end
theorem KDs.del {κ : Type} {B : Hp} {a : Addr} (n : NoSeq B a) {ys : List (κ × V)} {kvs : List (κ × PyData)} (q : KDs B ys kvs) : KDs (delH B a) ys kvs := Paired.mapP q fun _ _ z => ⟨z.1, z.2.del n⟩
theorem TIs.del {B : Hp} {a : Addr} (n : NoSeq B a) {xs : List (List Int × Addr × Value)} {kvs : List (List Int × PyData)} (q : TIs B xs kvs) : TIs (delH B a) xs kvs := Paired.mapP q fun _ _ z => ⟨z.1, pl_del z.2.1 fun e => (n _).2 (e ▸ z.2.1.rd), z.2.2.imp fun _ y => ⟨y.1, y.2.del n⟩⟩
def fkAt (a : Addr) : Cont → Prop
  | .fk d _ => d = a
  | _ => False
mutual
theorem OTk.del {B H : Hp} {a : Addr} (n : NoSeq B a) : ∀ {v : V} {t : OT}, OTk B H v t → OTk (delH B a) H v t
  | _, _, .d q => .d (q.del n)
  | _, _, .n h q => .n h (OTks.del n q)
theorem OTks.del {B H : Hp} {a : Addr} (n : NoSeq B a) : ∀ {ys : List (Key × V)} {ts : List (Key × OT)}, OTks B H ys ts → OTks (delH B a) H ys ts
  | _, _, .nil => .nil
  | _, _, .cons q r => .cons (OTk.del n q) (OTks.del n r)
end
theorem ContOk.del {B H : Hp} {a p : Addr} {c : Cont} (n : NoSeq B a) (nf : ¬ fkAt a c) (q : ContOk B H p c) : ContOk (delH B a) H p c := by
  cases c with
  | l ds => obtain ⟨xs, e, r⟩ := q; exact ⟨xs, e, r.del n⟩
  | k kvs => obtain ⟨xs, e, r⟩ := q; exact ⟨xs, e, r.del n⟩
  | t kvs => obtain ⟨xs, r⟩ := q; exact ⟨xs, r.here, r.big, r.few, r.nd, r.are.del n⟩
  | pt ds => obtain ⟨o, xs, e, ec, ed, r⟩ := q; exact ⟨o, xs, (del_ne fun z => (n xs).2 (by subst z; exact .inr ⟨o, e⟩)).trans e, ec, ed, r.del n⟩
  | fk d kvs =>
    obtain ⟨rfl, o, xs, e, r⟩ := q
    exact ⟨rfl, o, xs, (del_ne fun z => nf z).trans e, r.del n⟩
  | ot t => exact ⟨q.1.del n, q.2⟩
  | al _ _ _ => exact q
  | tp ps =>
    obtain ⟨xs, e, r, d⟩ := q
    refine ⟨xs, e, Paired.mapP r fun x y z => ?_, d⟩
    cases y with
    | d _ => exact DD.del n z
    | l _ => obtain ⟨b, zs, e1, e2, e3, e4⟩ := z; exact ⟨b, zs, e1, e2, e3, e4.del n⟩
    | k _ => obtain ⟨b, zs, e1, e2, e3, e4⟩ := z; exact ⟨b, zs, e1, e2, e3, e4.del n⟩
    | p _ => obtain ⟨b, o, zs, e1, e3, ec, ed, e4⟩ := z; exact ⟨b, o, zs, e1, (del_ne fun z => (n zs).2 (by subst z; exact .inr ⟨o, e3⟩)).trans e3, ec, ed, e4.del n⟩
end DL
set_option Elab.async false
set_option linter.all false
set_option maxRecDepth 100000
set_option maxHeartbeats 1000000
set_option autoImplicit false
namespace DL
open PySem PySem.Spec PyProof.Rows L2
end DL
set_option Elab.async false
set_option linter.all false
set_option maxRecDepth 100000
set_option maxHeartbeats 1000000
set_option autoImplicit false
namespace DL
open PySem PySem.Spec PyProof.Rows L2
theorem ext_tup (l : Addr) (xs : Array Value) (n : Nat) (b : Addr) (ys : Array Value) (m : Nat) (dd : Option Addr) (ss : Array (Option Value)) (h0 : ¬(!xs.isEmpty && Builtin.List.listTooLong (xs.size + ys.size)) = true) (h1 : xs.size ≤ sizeLine) (h2 : xs.size + ys.size ≤ sizeLine + 1) :
    Meets (Builtin.«list.extend» ⟨[.ref l, .ref b], []⟩) (fun _ R s => s.heap.get? l = some { cls := .type "list", dict := none, data := .seq xs n, slots := #[] } ∧ s.heap.get? b = some { cls := .type "tuple", dict := dd, data := .seq ys m, slots := ss } ∧
      R (.ok (.ret Value.none)) { s with heap := s.heap.update l (Obj.mapSeq fun x => x ++ ys), toks := s.toks }) :=
  .of_wp fun prog w A R s h => by
    obtain ⟨a1, a2, a3, a4, a5⟩ := s
    obtain ⟨hl, hb, h⟩ := h
    have f1 := AutoSeq1.idx_int
    have f2 := AutoSeq1.sub_tuple_tuple
    have f3 := AutoSeq1.sub_list_list
    have f4 := AutoSeq1.sub_tuple_list
    have f5 := AutoSeq1.sub_list_tuple
    have z : (xs ++ ys).size ≤ sizeLine + 1 := by rw [Array.size_append]; exact h2
    wp_walk using (wpAny_updateSeq hl rfl (hz := h1) (_hz' := z)), AutoSeq1.wpAny_loadPart' hl, AutoSeq1.wpAny_loadPart' hb
    exact ⟨_, rfl, h⟩
def rExtT (K : PySem.W.Frag) : V → List V → Hp → VK → Prop := fun x vs H Q => ∃ l b xs zs, x = .ref l ∧ vs = [.ref b] ∧ H l = some (.lst xs) ∧ (Rd H b (.lst zs) ∨ SqT K H b zs) ∧ xs.length + zs.length ≤ sizeLine ∧ Q .non (upd H l (.lst (xs ++ zs)))
theorem mt_extT {X : Cx} : MtR X "list.extend" (rExtT X.K) := by
  rintro pins s σ H x vs v us Q I rx rv ⟨l, b, xs, zs, rfl, rfl, hl, hb, hz, q⟩
  rcases hb with hb | hb
  · exact mt_extendRd pins s σ H _ _ v us Q I rx rv ⟨l, b, xs, zs, rfl, rfl, hl, hb, hz, q⟩
  · cases rx
    obtain ⟨u, rfl, ru⟩ := rv.one
    cases ru
    obtain ⟨z1, its, n, r, e⟩ := I.hok l _ hl
    obtain ⟨its2, r2, ⟨⟨c2, d2, dt2, sl2⟩, ho2, hc2, n2, hd2⟩, hz2⟩ := I.tuple hb
    simp only at hc2 hd2
    subst hc2 hd2
    have l1 := r.length
    have l2 := r2.length
    have tot : its.toArray.size + its2.toArray.size ≤ sizeLine := by rw [List.size_toArray, List.size_toArray]; omega
    refine call_meets F.slot_list_extend ⟨_, e, rfl⟩ F.entry_list_extend (F.args_list_extend_2 _ _) (ext_tup l its.toArray n b its2.toArray n2 d2 sl2 (by rw [notLongL tot, Bool.and_false]; exact Bool.false_ne_true) (by rw [List.size_toArray]; omega) (by omega)) ⟨e, ho2, ?_⟩
    exact ⟨.non, _, I.lset (its' := its ++ its2) hl e (by simp) (r.append r2) (by rw [List.length_append]; omega), rfl, q⟩
def seqD : PyData → Option (List PyData)
  | .list ds => some ds
  | .tuple ds => some ds
  | _ => none
def wExtT (i : Nat) (wa : WE) : WE := fun Ex δ P => ob (ownL δ i) fun _ => wa Ex δ fun r δ1 => ob (frz δ1 r) fun p => ob (seqD p.1) fun zs => ob (ownL p.2 i) fun q => q.2.length + zs.length ≤ sizeLine ∧ P (.d .none) (p.2.set i (some (.o q.1 (.l (q.2 ++ zs)))))
section
variable {S : Sg}
theorem de_extT {i : Nat} {x : Str} {e : Expr} {wa : WE} {p apos cpos : Pos} (hN : S.N[i]? = some x) (hv : Vis S.sc x) (ha : DE S e wa) (hd : (x == ("__debug__" : Str)) = false := by decide) (hcd : (x == ("__classdict__" : Str)) = false := by decide)
    (hb : ∀ env, attributeBase (.Name x p) "extend" env (eval (.Name x p) env) = eval (.Name x p) env := by intro _; rfl) (hf : few cpos e := by intro _; rfl) (hl : (apos.endLine == cpos.line) = true := by rfl)
    (hs : ∀ env, starEach [e] env = (false, eval e env) :: starEach [] env := by intro _; rfl) (hp : ∀ env, (backTo cpos (starEach [] env)).any (·.1) = false := by intro _; rfl) :
    DE S (.Call (.Attribute (.Name x p) "extend" apos) [e] [] cpos) (wExtT i wa) := by
  obtain ⟨t, pa, s⟩ := ha
  refine ⟨tBM S.g.K "list" (rExtT S.g.K) (tVar i) (tCons t tNil), fun c hc => pe_bm (X := S.g.cx c) PySem.F.plainAttrs_list PySem.F.slot_list_extend PySem.F.type_list_extend mt_extT (vis_v hc hN hv hd hcd) (pa_cons (pa c hc) pa_nil (hs _)) (hb _) (hf _) hl (hs _) (hp _), ⟨fun Ex Ex' δ P P' hx h w => ?_, fun Ex F B H vs σ δ P Q hx h w k => ?_⟩⟩
  · exact w.imp fun _ w => s.mono _ _ _ _ _ hx (fun r δ1 w => w.imp fun p w => w.imp fun zs w => w.imp fun q w => ⟨w.1, h _ _ w.2⟩) w
  · obtain ⟨⟨b0, ds0⟩, e0, w⟩ := w
    have a0 := ownL_at e0
    obtain ⟨v, ev, a, rfl, hBF, xs, hx0, q0⟩ := h.ok i _ a0
    refine ⟨_, ev, .inl ⟨rfl, xs, SqL.of hx0⟩, ?_⟩
    refine s.run _ _ _ _ _ _ _ _ _ hx h w fun B1 H1 y r δ1 s1 h1 q1 w1 => ?_
    obtain ⟨⟨d, δ2⟩, e1, zs, ez, ⟨b, ds⟩, e2, hl2, w1⟩ := w1
    obtain ⟨B2, s2, h2, q2⟩ := frz_ok h1 q1 e1
    have a2 := ownL_at e2
    obtain ⟨a', ea, hBF2, ys, hy, qy⟩ := own_at h2 a2 ev
    cases ea
    have fin : ∀ {us : List V}, DDs B2 us zs → Q .non (upd H1 a (.lst (ys ++ us))) := fun qu => k B2 _ .non (.d .none) _ (s1.trans s2) (h2.mutate (c' := .l (ds ++ zs)) a2 ev ⟨_, upd_same, qy.append qu⟩) .non w1
    cases q2 with
    | lst r q => cases ez; exact ⟨a, _, ys, _, rfl, rfl, hy, .inl (same_rd h2.sb r), by rw [qy.length, q.length]; exact hl2, fin q⟩
    | tup r q => cases ez; exact ⟨a, _, ys, _, rfl, rfl, hy, .inr (.inl (PlT.mono h2.sb r).rd), by rw [qy.length, q.length]; exact hl2, fin q⟩
    | _ => cases ez
end
end DL
set_option Elab.async false
set_option linter.all false
set_option maxRecDepth 100000
set_option maxHeartbeats 1000000
set_option autoImplicit false
namespace DL
open PySem PySem.Spec PyProof.Rows L2
end DL
set_option Elab.async false
set_option linter.all false
set_option maxRecDepth 100000
set_option maxHeartbeats 1000000
set_option autoImplicit false
namespace DL
open PySem PySem.Spec PyProof.Rows L2
end DL
set_option Elab.async false
set_option linter.all false
set_option maxRecDepth 100000
set_option maxHeartbeats 1000000
set_option autoImplicit false
namespace DL
open PySem PySem.Spec PyProof.Rows L2
section
variable {K : PySem.W.Frag} {F B H : Hp} {vs : List V} {σ : L2.St} {δ : SEnv}
/-- an object that belongs to one's own is changed; others may come to belong to it that belonged to none -/
theorem Rep.mutIn (h : Rep K F B H vs σ δ) {i : Nat} {a p0 : Addr} {b : Bool} {c c' : Cont} {o : HO} (e : δ[i]? = some (some (.o b c))) (ea : σ[i]? = some (some (.ref a))) (f0 : Foot H a c p0) (q : ContOk B (upd H p0 o) a c') (hf : ∀ p, Foot (upd H p0 o) a c' p → Foot H a c p ∨ (B p = none ∧ F p = none ∧ Off H σ δ fun q => q = p)) :
    Rep K F B (upd H p0 o) vs σ (δ.set i (some (.o b c'))) := by
  obtain ⟨hBF, _⟩ := h.own_up e ea
  have hB := (hBF p0 f0).1
  have hF := (hBF p0 f0).2
  have ne : ∀ {j : Nat} {b2 : Bool} {c2 : Cont} {a2 p : Addr}, j ≠ i → δ[j]? = some (some (.o b2 c2)) → σ[j]? = some (some (.ref a2)) → Foot H a2 c2 p → p ≠ p0 := fun n z e2 f w => by
    subst w; exact n (h.apart _ _ _ _ _ _ _ _ _ z e e2 ea f f0)
  have sm : ∀ {j : Nat} {b2 : Bool} {c2 : Cont} {a2 p : Addr}, j ≠ i → δ[j]? = some (some (.o b2 c2)) → σ[j]? = some (some (.ref a2)) → (Foot (upd H p0 o) a2 c2 p ↔ Foot H a2 c2 p) := fun n z e2 => foot_eq fun p f => upd_ne (ne n z e2 f)
  refine ⟨fun p u z => ?_, fun p u z => ?_, h.dj, by rw [List.length_set]; exact h.len, fun j s z => ?_, fun j k a1 a2 p b1 c1 b2 c2 z1 z2 z3 z4 f1 f2 => ?_, fun j c1 z => ?_, h.nt⟩
  · rw [upd_ne (ne_of_none z hB)]; exact h.sb p u z
  · rw [upd_ne (ne_of_none z hF)]; exact h.sf p u z
  · rcases set_get z with ⟨ej, z'⟩ | ⟨n, z'⟩
    · subst ej; cases z'; exact ⟨_, ea, a, rfl, fun p f => (hf p f).elim (hBF p) fun z => ⟨z.1, z.2.1⟩, q⟩
    · obtain ⟨v, e2, q2⟩ := h.ok j s z'
      refine ⟨v, e2, ?_⟩
      cases s with
      | d d => exact q2
      | w d => exact q2
      | o b2 c2 =>
        obtain ⟨p, e3, hBF2, q3⟩ := q2
        subst e3
        exact ⟨p, rfl, fun r f => hBF2 r ((sm n z' e2).mp f), q3.mono (Same.refl _) fun r f => upd_ne (ne n z' e2 f)⟩
  · rcases set_get z1 with ⟨ej, y1⟩ | ⟨nj, y1⟩
    · rcases set_get z2 with ⟨ek, y2⟩ | ⟨nk, y2⟩
      · rw [ej, ek]
      · cases y1; subst ej
        rw [ea] at z3; cases z3
        exact (hf p f1).elim (fun g => h.apart _ k _ a2 p _ c _ c2 e y2 ea z4 g ((sm nk y2 z4).mp f2)) fun g => (g.2.2 k b2 c2 a2 p y2 z4 ((sm nk y2 z4).mp f2) rfl).elim
    · rcases set_get z2 with ⟨ek, y2⟩ | ⟨nk, y2⟩
      · cases y2; subst ek
        rw [ea] at z4; cases z4
        exact (hf p f2).elim (fun g => h.apart j _ a1 _ p b1 c1 _ c y1 e z3 ea ((sm nj y1 z3).mp f1) g) fun g => (g.2.2 j b1 c1 a1 p y1 z3 ((sm nj y1 z3).mp f1) rfl).elim
      · exact h.apart j k a1 a2 p b1 c1 b2 c2 y1 y2 z3 z4 ((sm nj y1 z3).mp f1) ((sm nk y2 z4).mp f2)
  · rcases set_get z with ⟨ej, z'⟩ | ⟨n, z'⟩
    · subst ej; cases z'; exact h.bor _ c e
    · exact h.bor j c1 z'
end
end DL
set_option Elab.async false
set_option linter.all false
set_option maxRecDepth 100000
set_option maxHeartbeats 4000000
set_option autoImplicit false
namespace DL
open PySem PySem.Spec PyProof.Rows L2
end DL
set_option Elab.async false
set_option linter.all false
set_option maxRecDepth 100000
set_option maxHeartbeats 1000000
set_option autoImplicit false
namespace DL
open PySem PySem.Spec PyProof.Rows L2
def BindsK (K : PySem.W.Frag) (fd : FuncData) (ps ks : List Str) (n : Nat) : Prop := ∀ (s : Shared) (us ws : List Value), K.In s.heap → us.length = n → ws.length = ks.length → BindsTo s fd ⟨us, ks.zip ws⟩ (ps.zip (us ++ ws))
end DL
set_option Elab.async false
set_option linter.all false
set_option maxRecDepth 100000
set_option maxHeartbeats 1000000
set_option autoImplicit false
namespace DL
open PySem PySem.Spec PyProof.Rows L2
def noneD : PyData → Bool
  | .none => true
  | _ => false
def cmpD (f : PyData → PyData → Bool) : Vw → Vw → Option Rv := fun a b => (vd a).bind fun d => (vd b).bind fun e => if (SeqAt.shaped d && PySem.W.alike d e && !noneD d) = true then some (.val (.bool (f d e))) else none
section
variable {X : Cx}
def rCmpD (K : PySem.W.Frag) (f : PyData → PyData → Bool) : R2 := fun x y H Q => ∃ d e, Dp K H x d ∧ Dp K H y e ∧ SeqAt.shaped d = true ∧ PySem.W.alike d e = true ∧ d ≠ .none ∧ Q (.bl (f d e)) H
theorem few_units {A : Around} (hu : A.units + 64 < cLine) {d e : PyData} (h : SeqAt.shaped d = true) : A.units + min d.depth e.depth < cLine := by
  have := SeqAt.depth_of_shaped h
  omega
theorem op_ltD (hu : X.A.units + 64 < cLine) : OpR X (compareOp .Lt) (rCmpD X.K PySem.W.dataLt) := by
  intro pins s σ H x y v u Q I rx ry h
  obtain ⟨d, e, hd, he, sd, al, nn, q⟩ := h
  obtain ⟨as, r1⟩ := Dp.reads I d x v hd rx
  obtain ⟨bs, r2⟩ := Dp.reads I e y u he ry
  exact PySem.W.lt_data r1 r2 al nn (few_units hu sd) ⟨.bl _, H, I, rfl, q⟩
theorem op_gtD (hu : X.A.units + 64 < cLine) : OpR X (compareOp .Gt) (rCmpD X.K fun d e => PySem.W.dataLt e d) := by
  intro pins s σ H x y v u Q I rx ry h
  obtain ⟨d, e, hd, he, sd, al, nn, q⟩ := h
  obtain ⟨as, r1⟩ := Dp.reads I d x v hd rx
  obtain ⟨bs, r2⟩ := Dp.reads I e y u he ry
  exact PySem.W.gt_data r1 r2 al nn (few_units hu sd) ⟨.bl _, H, I, rfl, q⟩
theorem op_leD (hu : X.A.units + 64 < cLine) : OpR X (compareOp .LtE) (rCmpD X.K fun d e => !PySem.W.dataLt e d) := by
  intro pins s σ H x y v u Q I rx ry h
  obtain ⟨d, e, hd, he, sd, al, nn, q⟩ := h
  obtain ⟨as, r1⟩ := Dp.reads I d x v hd rx
  obtain ⟨bs, r2⟩ := Dp.reads I e y u he ry
  exact PySem.W.le_data r1 r2 al nn (few_units hu sd) ⟨.bl _, H, I, rfl, q⟩
end
theorem cmpD_of {K : PySem.W.Frag} {B H : Hp} {f : PyData → PyData → Bool} {x y : V} {a b : Vw} {rv : Rv} {Q : VK} (sB : Same B H) (oa : OV K B H x a) (ob : OV K B H y b) (e : cmpD f a b = some rv) (k : RvK B H Q rv) : rCmpD K f x y H Q := by
  unfold cmpD at e
  obtain ⟨d, e1, e⟩ := Option.bind_eq_some_iff.mp e
  obtain ⟨d2, e2, e⟩ := Option.bind_eq_some_iff.mp e
  split at e
  · rename_i hs
    cases e
    simp only [Bool.and_eq_true, Bool.not_eq_true'] at hs
    refine ⟨d, d2, vd_dp sB oa e1, vd_dp sB ob e2, hs.1.1, hs.1.2, fun z => ?_, k _ (.bl _)⟩
    subst z
    exact absurd hs.2 (by decide)
  · cases e
theorem os_ltD {S : Sg} : OpS S (compareOp .Lt) (cmpD PySem.W.dataLt) := by
  rintro c hc pins s σ H x y v u Q I rx ry ⟨B, a, b, rv, sB, oa, ob, e, k⟩
  exact op_ltD hc.room.units pins s σ H _ _ v u Q I rx ry (cmpD_of sB oa ob e k)
theorem os_gtD {S : Sg} : OpS S (compareOp .Gt) (cmpD fun d e => PySem.W.dataLt e d) := by
  rintro c hc pins s σ H x y v u Q I rx ry ⟨B, a, b, rv, sB, oa, ob, e, k⟩
  exact op_gtD hc.room.units pins s σ H _ _ v u Q I rx ry (cmpD_of sB oa ob e k)
theorem os_leD {S : Sg} : OpS S (compareOp .LtE) (cmpD fun d e => !PySem.W.dataLt e d) := by
  rintro c hc pins s σ H x y v u Q I rx ry ⟨B, a, b, rv, sB, oa, ob, e, k⟩
  exact op_leD hc.room.units pins s σ H _ _ v u Q I rx ry (cmpD_of sB oa ob e k)
end DL
set_option Elab.async false
set_option linter.all false
set_option maxRecDepth 100000
set_option maxHeartbeats 1000000
set_option autoImplicit false
namespace DL
open PySem PySem.Spec PyProof.Rows L2
section
variable {X : Cx}
theorem op_isB : OpR X (compareOp .Is) (fun x y H Q => ∃ a b, x = .bl a ∧ y = .bl b ∧ Q (.bl (decide (a = b))) H) := by
  intro pins s σ H x y v u Q I rx ry h
  obtain ⟨a, b, rfl, rfl, q⟩ := h
  cases rx
  cases ry
  show wpAny _ _ ((isSame (Value.bool a) (Value.bool b)) >>= fun z => pure (Value.bool z)) _ _ s
  cases a <;> cases b <;> exact wpAny_bind (wpAny_pure (wpAny_pure (fin_bl I q rfl)))
theorem op_isnotB : OpR X (compareOp .IsNot) (fun x y H Q => ∃ a b, x = .bl a ∧ y = .bl b ∧ Q (.bl (!decide (a = b))) H) := by
  intro pins s σ H x y v u Q I rx ry h
  obtain ⟨a, b, rfl, rfl, q⟩ := h
  cases rx
  cases ry
  show wpAny _ _ ((isSame (Value.bool a) (Value.bool b)) >>= fun z => pure (Value.bool (!z))) _ _ s
  cases a <;> cases b <;> exact wpAny_bind (wpAny_pure (wpAny_pure (fin_bl I q rfl)))
end
def isBF (neg : Bool) : Vw → Vw → Option Rv
  | .d (.bool a), .d (.bool b) => some (.val (.bool (if neg then !decide (a = b) else decide (a = b))))
  | _, _ => none
theorem os_isB {S : Sg} : OpS S (compareOp .Is) (isBF false) := by
  rintro c hc pins s σ H x y v u Q I rx ry ⟨B, a, b, rv, sB, oa, ob, e, k⟩
  unfold isBF at e
  split at e
  · cases e
    exact op_isB pins s σ H _ _ v u Q I rx ry ⟨_, _, ov_bl oa, ov_bl ob, k _ (.bl _)⟩
  · cases e
theorem os_isnotB {S : Sg} : OpS S (compareOp .IsNot) (isBF true) := by
  rintro c hc pins s σ H x y v u Q I rx ry ⟨B, a, b, rv, sB, oa, ob, e, k⟩
  unfold isBF at e
  split at e
  · cases e
    exact op_isnotB pins s σ H _ _ v u Q I rx ry ⟨_, _, ov_bl oa, ov_bl ob, k _ (.bl _)⟩
  · cases e
end DL
set_option Elab.async false
set_option linter.all false
set_option maxRecDepth 100000
set_option maxHeartbeats 1000000
set_option autoImplicit false
namespace DL
open PySem PySem.Spec PyProof.Rows L2
end DL
set_option Elab.async false
set_option linter.all false
set_option maxRecDepth 100000
set_option maxHeartbeats 1000000
set_option autoImplicit false
namespace DL
open PySem PySem.Spec PyProof.Rows L2
def orF (f g : Vw → Vw → Option Rv) : Vw → Vw → Option Rv := fun a b => match f a b with
  | some r => some r
  | none => g a b
theorem os_or {S : Sg} {op : Value → Value → Sem Value} {f g : Vw → Vw → Option Rv} (hf : OpS S op f) (hg : OpS S op g) : OpS S op (orF f g) := by
  rintro c hc pins s σ H x y v u Q I rx ry ⟨B, a, b, rv, sB, oa, ob, e, k⟩
  unfold orF at e
  split at e
  · cases e
    exact hf c hc pins s σ H x y v u Q I rx ry ⟨B, a, b, _, sB, oa, ob, by assumption, k⟩
  · exact hg c hc pins s σ H x y v u Q I rx ry ⟨B, a, b, _, sB, oa, ob, e, k⟩
def ltU := orF ltF (cmpD PySem.W.dataLt)
def gtU := orF gtF (cmpD fun d e => PySem.W.dataLt e d)
def leU := orF leF (cmpD fun d e => !PySem.W.dataLt e d)
def isU := orF isF (isBF false)
def isNotU := orF isNotF (isBF true)
theorem os_ltU {S : Sg} : OpS S (compareOp .Lt) ltU := os_or os_lt os_ltD
theorem os_gtU {S : Sg} : OpS S (compareOp .Gt) gtU := os_or os_gt os_gtD
theorem os_leU {S : Sg} : OpS S (compareOp .LtE) leU := os_or os_le os_leD
theorem os_isU {S : Sg} : OpS S (compareOp .Is) isU := os_or os_is os_isB
theorem os_isnotU {S : Sg} : OpS S (compareOp .IsNot) isNotU := os_or os_isnot os_isnotB
/-- a def, by its name, called with these keywords behind n others -/
def CalK (g : Gx) (k : Nat) (x : Str) (ps ks : List Str) (n : Nat) (W : FSpec) : Prop := ∃ (f : Addr) (fd : FuncData), FnG g CX0 k f fd ps (spOf g.K ps.length W) ∧ g.mg x = some (.ref f) ∧ PySem.W.keepIn g.K (.ref f) = true ∧ BindsK g.K fd ps ks n
theorem CalK.mono {g : Gx} {j k n : Nat} {x : Str} {ps ks : List Str} {W : FSpec} (h : CalK g j x ps ks n W) (l : j ≤ k) : CalK g k x ps ks n W := by
  obtain ⟨f, fd, F, m, q, b⟩ := h
  exact ⟨f, fd, F.mono l, m, q, b⟩
theorem CalK.imp {g : Gx} {k n : Nat} {x : Str} {ps ks : List Str} {W W' : FSpec} (h : CalK g k x ps ks n W) (l : ∀ ss Ex P, W' ss Ex P → W ss Ex P) : CalK g k x ps ks n W' := by
  obtain ⟨f, fd, F, m, q, b⟩ := h
  exact ⟨f, fd, spOf_imp F l, m, q, b⟩
end DL
set_option Elab.async false
set_option linter.all false
set_option maxRecDepth 100000
set_option maxHeartbeats 1000000
set_option autoImplicit false
namespace DL
open PySem PySem.Spec PyProof.Rows L2
end DL
set_option Elab.async false
set_option linter.all false
set_option maxRecDepth 100000
set_option maxHeartbeats 1000000
set_option autoImplicit false
namespace DL
open PySem PySem.Spec PyProof.Rows L2
end DL
set_option Elab.async false
set_option linter.all false
set_option maxRecDepth 100000
set_option maxHeartbeats 1000000
set_option autoImplicit false
namespace DL
open PySem PySem.Spec PyProof.Rows L2
end DL
set_option Elab.async false
set_option linter.all false
set_option maxRecDepth 100000
set_option maxHeartbeats 1000000
set_option autoImplicit false
namespace DL
open PySem PySem.Spec PyProof.Rows L2
/-- a def, by its name, called without its last ones, which are these then -/
def CalD (g : Gx) (k : Nat) (x : Str) (ps : List Str) (dd : List PyData) (W : FSpec) : Prop := ∃ (f : Addr) (fd : FuncData) (dvs : List V) (ds : List Value), FnG g CX0 k f fd ps (spOf g.K ps.length W) ∧ g.mg x = some (.ref f) ∧ PySem.W.keepIn g.K (.ref f) = true ∧ Binds g.K fd ps ds ∧ Vals dvs ds ∧ Paired (DW g.K) dvs dd
theorem CalD.mono {g : Gx} {j k : Nat} {x : Str} {ps : List Str} {dd : List PyData} {W : FSpec} (h : CalD g j x ps dd W) (l : j ≤ k) : CalD g k x ps dd W := by
  obtain ⟨f, fd, dvs, ds, F, r⟩ := h
  exact ⟨f, fd, dvs, ds, F.mono l, r⟩
theorem CalD.imp {g : Gx} {k : Nat} {x : Str} {ps : List Str} {dd : List PyData} {W W' : FSpec} (h : CalD g k x ps dd W) (l : ∀ ss Ex P, W' ss Ex P → W ss Ex P) : CalD g k x ps dd W' := by
  obtain ⟨f, fd, dvs, ds, F, r⟩ := h
  exact ⟨f, fd, dvs, ds, spOf_imp F l, r⟩
end DL
set_option Elab.async false
set_option linter.all false
set_option maxRecDepth 100000
set_option maxHeartbeats 1000000
set_option autoImplicit false
namespace DL
open PySem PySem.Spec PyProof.Rows L2
theorem FnG.any {g : Gx} {CX : CXT} {k : Nat} {f : Addr} {fd : FuncData} {ps : List Str} {sp : Sp} (F : FnG g CX0 k f fd ps sp) : FnG g CX k f fd ps sp :=
  ⟨F.len, fun A outer sh H args us vs Q E hg hr he hb hv hs => codeAny_mono (F.run A outer sh H args us vs Q E hg hr he hb hv hs) fun res s' q => by
    cases res with
    | error e => exact (show False from q).elim
    | ok fl => cases fl <;> exact q⟩
theorem Cal.any {g : Gx} {CX : CXT} {k : Nat} {x : Str} {ps : List Str} {W : FSpec} (h : Cal g CX0 k x ps W) : Cal g CX k x ps W := by
  obtain ⟨f, fd, F, r⟩ := h
  exact ⟨f, fd, F.any, r⟩
abbrev Gx.ex (g : Gx) : CXT := L2.CX g.P g.w
theorem cxE_ok {g : Gx} : CXok g.ex := fun _ _ _ _ _ h => by
  obtain ⟨_, _, _, _, _, _, _, _, _, _, _, _, z⟩ := h
  exact z
theorem fn_dlx {g : Gx} {x qual : Str} {st : Stmt} {f : Addr} {fd : FuncData} {N ps : List Str} {k : Nat} {w : WS} (Fn : Fun g.K x qual st f fd) (Sc : FnScope N ps (defScope st)) (hb : ∀ E, DSs ⟨g, g.ex, N, defScope st, k, E, true, true⟩ (defBody st) w) (hp : ps.length ≤ N.length) :
    FnG g g.ex (k + 1) f fd ps (spOf g.K ps.length (fnW ps.length N.length w)) := by
  obtain ⟨oc, od, kV, doc, pm, an, cdv, ct, osl, rfl, lk, hcd⟩ := Fn.ex
  refine ⟨fun vs H Q E h => h.1, fun A outer sh H args us vs Q E hgd hr e0 hbd rv hsp => ?_⟩
  have KX : g.K.In sh.heap := e0.mod.kin.keeps fun b o e => (e0.bs b o e).1
  have cell_or : ∀ y ∈ ps.zip us, (defScope st).names.lookup y.1 = some .local ∨ ((defScope st).names.lookup y.1 = some .cell ∧ ((cellsFrom (sh.heap.objs.size + 1) (defScope st).names []).lookup y.1).isSome = true) := by
    rintro ⟨nm, v⟩ hy
    have hz := Sc.par nm (List.of_mem_zip hy).1
    exact hz.imp id fun q => ⟨q, PySem.W.cellsFrom_some _ _ _ (.inl q)⟩
  refine codeAny_call_function hr.depth (KX _ _ lk) rfl Sc.co Sc.gen rfl (PySem.W.codeRec_of KX hcd) (hbd _ _ _ _ ?_)
  refine wpAny_newFunctionEnv_cells Sc.kind cell_or fun env he sh1 inC => ?_
  subst he
  refine ⟨(e0.mod.nolimit.keeps fun b o e => (e0.bs b o e).1).keeps inC.toInCall.keep, codeAny_func ?_⟩
  let X := cxOf g.ex g.P g.w g.K g.mg g.base N qual (defScope st) f cdv A outer sh H E
  have I : Inv X [] (L2.start N vs) H sh1 := inv_start Sc hr.hd e0 hsp.1 rv inC
  obtain ⟨t, p, sm⟩ := hb E
  let c : Cl := ⟨X.A, X.N, X.s_0, X.H_0, X.env, X.outer, X.stack, X.ex, X.fn, X.calm, X.pn, X.xe⟩
  have tk : Takes X fun cls d _ H => E cls d H := takes_of rfl rfl rfl rfl
  have hc : Sg.ok ⟨g, g.ex, N, defScope st, k, E, true, true⟩ c := ⟨rfl, Sc.nd, rfl, rfl, hr.deeper _, passes_call tk fun _ _ _ _ h => h, passes_of (X := X) rfl, fun _ _ => rfl, hgd, (fun _ => tk), fun _ => ⟨rfl, rfl⟩⟩
  refine wpAny_mono ((p c hc : PSs X (defBody st) t).run [] sh1 _ H _ I (body_run hp sm hsp)) (fun fl sh' hs => ?_) fun e sh' hs => hs
  have ends : ∀ {σ' : L2.St} {H' : Hp} {v : V} {u : Value}, Inv X [] σ' H' sh' → RelV v u → Q v H' → CE outer g.P g.w H sh Q u sh' := fun J r q => ⟨_, _, J.os, J.bare, J.base, J.hok, r, q⟩
  cases fl with
  | ret u => obtain ⟨v, σ', H', J, r, q⟩ := hs; exact ends J r q
  | next => obtain ⟨σ', H', J, q⟩ := hs; exact ends (v := .non) (u := Value.none) J rfl q
  | brk => obtain ⟨_, _, _, q⟩ := hs; exact q.elim
  | cont => obtain ⟨_, _, _, q⟩ := hs; exact q.elim
end DL
set_option Elab.async false
set_option linter.all false
set_option maxRecDepth 100000
set_option maxHeartbeats 1000000
set_option autoImplicit false
namespace DL
open PySem PySem.Spec PyProof.Rows L2 LamX
/-- a reading, weakened at will -/
def TL (tb : XK → TE) (σ : L2.St) : XK → Hp → VK → Prop := fun E H Q => ∃ (E1 : XK) (Q1 : VK), tb E1 σ H Q1 ∧ (∀ c d H', E1 c d H' → E c d H') ∧ ∀ v H', Q1 v H' → Q v H'
theorem TL.mono {tb : XK → TE} {σ : L2.St} {E E' : XK} {H : Hp} {Q Q' : VK} (h1 : ∀ c d H', E c d H' → E' c d H') (h2 : ∀ v H', Q v H' → Q' v H') (h : TL tb σ E H Q) : TL tb σ E' H Q' := by
  obtain ⟨E1, Q1, a, b, c⟩ := h
  exact ⟨E1, Q1, a, fun _ _ _ z => h1 _ _ _ (b _ _ _ z), fun _ _ z => h2 _ _ (c _ _ z)⟩
end DL
set_option Elab.async false
set_option linter.all false
set_option maxRecDepth 100000
set_option maxHeartbeats 1000000
set_option autoImplicit false
namespace DL
open PySem PySem.Spec PyProof.Rows L2 LamX
theorem PSs.imp {X : Cx} {b : List Stmt} {t u : TS} (h : PSs X b t) (i : ∀ D σ H, u D σ H → t D σ H) : PSs X b u := ⟨fun pins s σ H D I q => h.run pins s σ H D I (i D σ H q)⟩
end DL
set_option Elab.async false
set_option linter.all false
set_option maxRecDepth 100000
set_option maxHeartbeats 1000000
set_option autoImplicit false
namespace DL
open PySem PySem.Spec PyProof.Rows L2 LamX
theorem dictI_ne {a : Addr} {xs : List (List Int × Addr × Value)} {x : Str} : dictI a xs ≠ CodeO a x := by
  intro z
  unfold dictI CodeO at z
  injection z with z
  let o : Obj := { cls := .type "dict", data := .dict (xs.map entI).toArray }
  let h : Heap := { objs := Array.replicate (a + 1) o }
  have e : h.get? a = some o := by
    unfold Heap.get?
    show (match (Array.replicate (a + 1) o)[a]? with | some ⟨_, _, .freed, _⟩ => none | q => q) = _
    rw [Array.getElem?_replicate, if_pos (Nat.lt_succ_self a)]
  have p : ∃ (oc : Obj) (vs : Array Value) (t : Tok), h.get? a = some oc ∧ oc.data = .fields vs ∧ vs[1]? = some (.str x t) := by
    rw [← congrFun z h]
    exact ⟨o, _, 0, e, ⟨rfl, rfl, rfl⟩, rfl, by simp⟩
  obtain ⟨oc, vs, t, e1, e2, _⟩ := p
  rw [e] at e1
  cases e1
  cases e2
theorem ContOk.kind {B H : Hp} {a p : Addr} {c : Cont} (q : ContOk B H a c) (f : Foot H a c p) : ∃ o, H p = some o ∧ (∀ x, o ≠ CodeO p x) ∧ ∀ ps, o ≠ .tbl ps := by
  have n1 : ∀ {xs : List V} {x : Str}, HO.lst xs ≠ CodeO p x := fun z => by unfold CodeO at z; cases z
  have n2 : ∀ {xs : List (Key × V)} {x : Str}, HO.dK xs ≠ CodeO p x := fun z => by unfold CodeO at z; cases z
  have n4 : ∀ {xs : List V} {x : Str}, HO.tup xs ≠ CodeO p x := fun z => by unfold CodeO at z; cases z
  cases c with
  | fk _ _ => exact f.elim
  | l ds => cases f; obtain ⟨xs, e, _⟩ := q; exact ⟨_, e, fun _ => n1, fun _ z => nomatch z⟩
  | k kvs => cases f; obtain ⟨xs, e, _⟩ := q; exact ⟨_, e, fun _ => n2, fun _ z => nomatch z⟩
  | t kvs => cases f; obtain ⟨xs, q⟩ := q; exact ⟨_, q.here, fun _ => dictI_ne, fun _ z => nomatch z⟩
  | pt ds => exact f.elim
  | ot t =>
    have g : p ∈ t.fp := by
      rcases f with rfl | f
      · obtain ⟨_, _, e⟩ := q
        cases t with
        | d _ => cases e
        | n a b ts => cases e; unfold OT.fp; exact List.mem_cons_self ..
      · exact f
    obtain ⟨b, ys, e⟩ := q.1.thereN g
    cases b with
    | true => exact ⟨_, e, fun _ => n2, fun _ z => nomatch z⟩
    | false => exact ⟨_, e, fun _ => n1, fun _ z => nomatch z⟩
  | al _ _ _ => exact f.elim
  | tp ps =>
    obtain ⟨xs, e, r, _⟩ := q
    rcases f with rfl | ⟨xs', e', i, y, e1, eo, f⟩
    · exact ⟨_, e, fun _ => n4, fun _ z => nomatch z⟩
    · rw [e] at e'; cases e'
      obtain ⟨y', e2, q⟩ := paired_at r f
      rw [e1] at e2; cases e2
      cases y with
      | d _ => cases eo
      | l _ => obtain ⟨b, zs, eb, _, q, _⟩ := q; cases eb; exact ⟨_, q, fun _ => n1, fun _ z => nomatch z⟩
      | k _ => obtain ⟨b, zs, eb, _, q, _⟩ := q; cases eb; exact ⟨_, q, fun _ => n2, fun _ z => nomatch z⟩
      | p _ => cases eo
def TabF (P : Addr) (q : Str) (F B : Hp) : Prop := ∃ ps : Array Value, F P = some (.tbl ps) ∧ TriplesOk ps.toList ∧ ∀ (pos : Pos) (cv : Value), codeAmong pos ps.toList = some cv → ∃ c, cv = .ref c ∧ B c = some (CodeO c q)
theorem TabF.up {P : Addr} {q : Str} {F B B' : Hp} (h : TabF P q F B) (s : Same B B') : TabF P q F B' := by
  obtain ⟨ps, h1, h2, h3⟩ := h
  exact ⟨ps, h1, h2, fun pos cv e => by
    obtain ⟨c, e1, e2⟩ := h3 pos cv e
    exact ⟨c, e1, s _ _ e2⟩⟩
structure EndsT (K : PySem.W.Frag) (P : Addr) (q : Str) (B : Hp) (vs : List V) (D : Ends) (d : DEnds) : Prop where
  nx : ∀ F' B' σ' H' δ', TabF P q F' B' → Same B B' → Rep K F' B' H' vs σ' δ' → d.nx δ' → D.nx σ' H'
  rt : ∀ F' B' σ' H' δ' v r, TabF P q F' B' → Same B B' → Rep K F' B' H' vs σ' δ' → RepR K F' B' H' σ' δ' v r → d.rt r δ' → D.rt v H'
  bk : ∀ F' B' σ' H' δ', TabF P q F' B' → Same B B' → Rep K F' B' H' vs σ' δ' → d.bk δ' → D.bk σ' H'
  ct : ∀ F' B' σ' H' δ', TabF P q F' B' → Same B B' → Rep K F' B' H' vs σ' δ' → d.ct δ' → D.ct σ' H'
theorem EndsT.up {K : PySem.W.Frag} {P : Addr} {q : Str} {B B1 : Hp} {vs : List V} {D : Ends} {d : DEnds} (h : EndsT K P q B vs D d) (s : Same B B1) : EndsT K P q B1 vs D d :=
  ⟨fun F' B' σ' H' δ' t s1 => h.nx F' B' σ' H' δ' t (s.trans s1), fun F' B' σ' H' δ' v r t s1 => h.rt F' B' σ' H' δ' v r t (s.trans s1), fun F' B' σ' H' δ' t s1 => h.bk F' B' σ' H' δ' t (s.trans s1), fun F' B' σ' H' δ' t s1 => h.ct F' B' σ' H' δ' t (s.trans s1)⟩
end DL
set_option Elab.async false
set_option linter.all false
set_option maxRecDepth 100000
set_option maxHeartbeats 1000000
set_option autoImplicit false
namespace DL
open PySem PySem.Spec PyProof.Rows L2 LamX
end DL
set_option Elab.async false
set_option linter.all false
set_option maxRecDepth 100000
set_option maxHeartbeats 1000000
set_option autoImplicit false
namespace DL
open PySem PySem.Spec PyProof.Rows L2 LamX
end DL
set_option Elab.async false
set_option linter.all false
set_option maxRecDepth 100000
set_option maxHeartbeats 1000000
set_option autoImplicit false
namespace DL
open PySem PySem.Spec PyProof.Rows L2
end DL
set_option Elab.async false
set_option linter.all false
set_option maxRecDepth 100000
set_option maxHeartbeats 1000000
set_option autoImplicit false
namespace DL
open PySem PySem.Spec PyProof.Rows L2 LamX
section
variable {K : PySem.W.Frag}
theorem kitCls_of {t : Value} {C : Addr} {b : Bool} (i : PySem.W.isClsIn K C = true) (t1 : PySem.W.typeIn K (.ref C) = some (.type "type")) (s : PySem.W.subIn K t (.ref C) = some b) : PySem.W.kitCls K t (.ref C) = some b := by
  have i : (PySem.W.clsIn K C).isSome = true := i
  show (if ((PySem.W.clsIn K C).isSome && PySem.W.typeIn K (.ref C) == some (.type "type")) = true then PySem.W.subIn K t (.ref C) else none) = some b
  rw [if_pos (by rw [i, t1]; rfl)]
  exact s
theorem exmOne_of {t : Value} {C : Addr} (e : PySem.W.subIn K (.ref C) (.type "BaseException") = some true) (i : PySem.W.isClsIn K C = true) (t1 : PySem.W.typeIn K (.ref C) = some (.type "type")) (s : PySem.W.subIn K t (.ref C) = some true) : PySem.W.exmOne K t (.ref C) = some true := by
  unfold PySem.W.exmOne
  rw [if_pos (by rw [e]; rfl)]
  exact kitCls_of i t1 s
end
end DL
set_option Elab.async false
set_option linter.all false
set_option maxRecDepth 100000
set_option maxHeartbeats 1000000
set_option autoImplicit false
namespace DL
open PySem PySem.Spec PyProof.Rows L2
open Builtin.SmallTypes (nextOf)
/-- true: a tuple -/
def ItK : Bool → Heap → Addr → Addr → Nat → Prop
  | true, h, it, a, i => h.IsTupleIter it a i
  | false, h, it, a, i => h.IsListIter it a i
def IsK : Bool → Heap → Addr → Array Value → Prop
  | true, h, a, items => h.IsTuple a items
  | false, h, a, items => h.IsList a items
def SqK : Bool → PySem.W.Frag → Hp → Addr → List V → Prop
  | true, K, H, a, xs => SqT K H a xs
  | false, K, H, a, xs => SqL K H a xs
def itO (t : Bool) (a : Addr) : Obj := { cls := .type (if t then "tuple_iterator" else "list_iterator"), data := .fields #[.ref a, .int 0 0] }
theorem IsK.at_ {t : Bool} {h h' : Heap} {a : Addr} {items : Array Value} (q : IsK t h a items) (k : ∀ o, h.get? a = some o → h'.get? a = some o) : IsK t h' a items := by
  cases t
  · exact Heap.IsList.at q k
  · exact Heap.IsTuple.at q k
theorem ItK.at_ {t : Bool} {h h' : Heap} {it a : Addr} {i : Nat} (q : ItK t h it a i) (k : ∀ o, h.get? it = some o → h'.get? it = some o) : ItK t h' it a i := by
  cases t
  · exact Heap.IsListIter.at q k
  · exact Heap.IsTupleIter.at q k
theorem ItK.ob {t : Bool} {h : Heap} {it a : Addr} {i : Nat} (q : ItK t h it a i) : ∃ o, h.get? it = some o ∧ o.cls = .type (if t then "tuple_iterator" else "list_iterator") ∧ ∃ d, o.data = .fields d := by
  cases t
  · obtain ⟨o, e, c, d⟩ := q; exact ⟨o, e, c, _, d⟩
  · obtain ⟨o, e, c, d⟩ := q; exact ⟨o, e, c, _, d⟩
theorem IsK.ob {t : Bool} {h : Heap} {a : Addr} {items : Array Value} (q : IsK t h a items) : ∃ o, h.get? a = some o ∧ o.cls = .type (if t then "tuple" else "list") := by
  cases t
  · obtain ⟨o, e, c, _⟩ := q; exact ⟨o, e, c⟩
  · obtain ⟨o, e, c, _⟩ := q; exact ⟨o, e, c⟩
theorem draws_k {prog : Program} {w : World} {A : Around} (t : Bool) (hh : A.handled = none) (it a : Addr) (hne : a ≠ it) (items : Array Value) :
    Draws prog w A it [it, a] items.size (fun i v => items[i]? = some v) (fun i h => ItK t h it a i ∧ IsK t h a items) := by
  cases t
  · exact Draws.list hh it a hne items
  · exact Draws.tuple hh it a hne items
theorem draws_end {prog : Program} {w : World} {A : Around} (t : Bool) (hh : A.handled = none) (it a : Addr) (items : Array Value) (i : Nat) (he : items[i]? = none) :
    Draws prog w A it [it, a] i (fun _ _ => False) (fun j h => j = i ∧ ItK t h it a i ∧ IsK t h a items) where
  live := fun _ _ st => let ⟨o, ho, _⟩ := st.2.1.ob; ⟨o, ho⟩
  frame := fun _ _ _ st hk => ⟨st.1, st.2.1.at_ fun o e => hk it (by simp) o e, st.2.2.at_ fun o e => hk a (by simp) o e⟩
  item := fun j s Q E hi st hQ => by have := st.1; omega
  done := fun s Q E st hE => by
    obtain ⟨_, h1, h2⟩ := st
    cases t
    · exact wpAny_nextOf_list_end hh h1 h2 he hE
    · exact wpAny_nextOf_tuple_end hh h1 h2 he hE
theorem begins_k (t : Bool) (a : Addr) (items : Array Value) : Begins (.ref a) (itO t a) fun h => IsK t h a items := by
  cases t
  · exact begins_list a items
  · exact begins_tuple a items
theorem seq_k {X : Cx} {pins : List (Addr × Obj)} {σ : L2.St} {H : Hp} {s : Shared} (I : Inv X pins σ H s) {t : Bool} {a : Addr} {xs : List V} (q : SqK t X.K H a xs) : ∃ its : List Value, Vals xs its ∧ IsK t s.heap a its.toArray := by
  cases t
  · obtain ⟨its, rv, p, _⟩ := I.list q; exact ⟨its, rv, p.isList⟩
  · obtain ⟨its, rv, p, _⟩ := I.tuple q; exact ⟨its, rv, p⟩
theorem inj_k {X : Cx} {pins : List (Addr × Obj)} {σ : L2.St} {H : Hp} {s : Shared} (I : Inv X pins σ H s) {t : Bool} {a : Addr} {xs ys : List V} (q : SqK t X.K H a xs) (r : SqK t X.K H a ys) : xs = ys := by
  cases t
  · exact I.list_inj q r
  · exact I.tuple_inj q r
/-- a zip's own object, with the pair handed out and its mark -/
abbrev ZObj (h : Heap) (z TI TO : Addr) (f0 : Value) (m : Bool) : Prop :=
  h.get? z = some { cls := .type "zip", dict := none, data := .fields #[f0, .bool m, .bool false, .ref TI, .ref TO], slots := #[] }
/-- it holds no pair, or the one at T -/
def ZFr (f0 : Value) : Prop := f0 = .none ∨ ∃ T : Addr, f0 = rawInt (T : Nat)
abbrev ZPair (h : Heap) (T : Addr) (x y : Value) : Prop := h.get? T = some { cls := .type "tuple", data := .seq #[x, y] }
section
variable {prog : Program} {w : World} {A : Around} {E : Value → Shared → Prop} {s : Shared} {z TI TO i1 i2 : Addr} {fa fb : List Addr} {na nb i : Nat} {Pa Pb : Nat → Value → Prop} {Sa Sb : Nat → Heap → Prop} {u v f0 : Value} {m : Bool}
theorem alive_any {a : Addr} {Q : Option Obj → Shared → Prop} (h : Q (s.heap.get? a) s) : wpAny (model prog w) A (loadIfAlive a) Q E s := fun _ _ _ => h
/-- whether the pair is free again -/
theorem zfree {Q : Bool → Shared → Prop} (hz : ZObj s.heap z TI TO f0 m) (hf : ZFr f0) (hT : Q true s) (hF : ∀ (T : Nat) h', f0 = rawInt T → ZObj h' z TI TO f0 true → Heap.SameBut z s.heap h' → Q false { s with heap := h' }) : wpAny (model prog w) A (Builtin.SmallTypes.ownedTupleIsFree (.ref z)) Q E s := by
  unfold Builtin.SmallTypes.ownedTupleIsFree
  rcases hf with rfl | ⟨T, rfl⟩
  · exact wpAny_bind (wpAny_field hz rfl (x := .none) rfl (wpAny_pure hT))
  · refine wpAny_bind (wpAny_field hz rfl (x := rawInt T) rfl ?_)
    show wpAny _ _ (loadIfAlive (T : Int).toNat >>= _) _ _ _
    rw [Int.toNat_natCast]
    refine wpAny_bind (alive_any ?_)
    cases hg : s.heap.get? T with
    | none =>
      simp only [Option.isNone_none, if_true]
      exact wpAny_pure hT
    | some o =>
      simp only [Option.isNone_some, Bool.false_eq_true, if_false]
      refine wpAny_bind (wpAny_field hz rfl (x := .bool m) rfl ?_)
      cases m
      · simp only [show ((Value.bool false) != .bool true) = true from rfl, if_true]
        exact wpAny_bind (wpAny_setField_rec hz (by simp) fun h1 hz1 hs1 => wpAny_pure (hF T h1 rfl hz1 hs1))
      · simp only [show ((Value.bool true) != .bool true) = false from rfl, Bool.false_eq_true, if_false]
        exact wpAny_bind (wpAny_pure (wpAny_pure (hF T s.heap rfl hz ⟨rfl, fun _ _ => rfl⟩)))
theorem sb_get {a : Addr} {h h' : Heap} (k : Heap.SameBut a h h') {b : Addr} {o : Obj} (n : b ≠ a) (e : h.get? b = some o) : h'.get? b = some o := k.extBut _ _ n e
/-- a zip's next pair -/
theorem zip_nextU {Q : Value → Shared → Prop} (S : ZipSep2 z TI TO i1 i2 fa fb) (Da : Draws prog w A i1 fa na Pa Sa) (Db : Draws prog w A i2 fb nb Pb Sb)
    (hz : ZObj s.heap z TI TO f0 m) (hf : ZFr f0) (hI : ZPair s.heap TI (.ref i1) (.ref i2)) (hO : ZPair s.heap TO u v) (sa : Sa i s.heap) (sb : Sb i s.heap) (la : i < na) (lb : i < nb)
    (k : ∀ x y h' tk f1 m1, Pa i x → Pb i y → ZObj h' z TI TO f1 m1 → ZFr f1 → (∃ u' v', ZPair h' TO u' v') → Sa (i + 1) h' → Sb (i + 1) h' → ZPair h' s.heap.objs.size x y → h'.objs.size = s.heap.objs.size + 1 →
      (∀ c o, c ≠ z → c ≠ TO → c ≠ i1 → c ≠ i2 → s.heap.get? c = some o → h'.get? c = some o) → (f0 = .none ∧ m = false → f1 = rawInt s.heap.objs.size ∧ m1 = false) → Q (.ref s.heap.objs.size) { s with heap := h', toks := tk }) :
    wpAny (model prog w) A (Builtin.«zip.__next__» ⟨[.ref z], []⟩) (fun fin s' => ∃ v, fin = .done (.ret v) ∧ Q v s') E s := by
  obtain ⟨hp, gg, dd, tk0, oo⟩ := s
  show wpAny _ _ (field (.ref z) 2 >>= _) _ _ _
  refine wpAny_bind (wpAny_field hz rfl (x := .bool false) rfl ?_)
  show wpAny _ _ (field (.ref z) 3 >>= _) _ _ _
  refine wpAny_bind (wpAny_field hz rfl (x := .ref TI) rfl ?_)
  refine wpAny_bind (wpAny_seqItems hI rfl ?_)
  show wpAny _ _ (Builtin.SmallTypes.ownedTupleIsFree (.ref z) >>= _) _ _ _
  refine wpAny_bind (zfree (m := m) hz hf ?_ ?_)
  · -- the pair of its own, again
    simp only [if_true]
    refine wpAny_bind (wpAny_rule ?_)
    refine wpAny_bind (wpAny_field hz rfl (x := .ref TO) rfl ?_)
    refine wpAny_bind (wpAny_setField_rec hz (by simp) fun k0 z0 e0 => ?_)
    replace z0 : ZObj k0 z TI TO .ellipsis m := z0
    replace e0 : Heap.SameBut z hp k0 := e0
    refine wpAny_bind ?_
    simp only [List.zipIdx_cons, List.zipIdx_nil, List.forIn_cons, List.forIn_nil]
    refine wpAny_bind (wpAny_bind (wpAny_onRaise ?_))
    show wpAny _ _ (nextOf (.ref i1) >>= _) _ _ ⟨k0, gg, dd, tk0, oo⟩
    refine wpAny_bind (Da.item i _ _ _ la (Da.over sa e0 S.zf1) fun x j1 t1 px q1 r1 => wpAny_pure ?_)
    replace r1 : Heap.SameBut i1 k0 j1 := r1
    have o1 : ZPair j1 TO u v := sb_get r1 S.Ti1 (sb_get e0 S.TOz hO)
    refine wpAny_bind (wpAny_seqItems (s := ⟨j1, gg, dd, t1, oo⟩) o1 rfl ?_)
    refine wpAny_bind (updateSeq_IsTupOf2 (s := ⟨j1, gg, dd, t1, oo⟩) o1 fun k1 p1 e1 => ?_)
    replace p1 : ZPair k1 TO x v := p1
    replace e1 : Heap.SameBut TO j1 k1 := e1
    refine wpAny_bind (wpAny_letGo (wpAny_pure ?_))
    refine wpAny_bind (wpAny_bind (wpAny_onRaise ?_))
    show wpAny _ _ (nextOf (.ref i2) >>= _) _ _ ⟨k1, gg, dd, t1, oo⟩
    refine wpAny_bind (Db.item i _ _ _ lb (Db.over (Db.over (Db.over sb e0 S.zf2) r1 S.sep1_2) e1 S.Tf2) fun y j2 t2 py q2 r2 => wpAny_pure ?_)
    replace r2 : Heap.SameBut i2 k1 j2 := r2
    have o2 : ZPair j2 TO x v := sb_get r2 S.Ti2 p1
    refine wpAny_bind (wpAny_seqItems (s := ⟨j2, gg, dd, t2, oo⟩) o2 rfl ?_)
    refine wpAny_bind (updateSeq_IsTupOf2 (s := ⟨j2, gg, dd, t2, oo⟩) o2 fun k2 p2 e2 => ?_)
    replace p2 : ZPair k2 TO x y := p2
    replace e2 : Heap.SameBut TO j2 k2 := e2
    refine wpAny_bind (wpAny_letGo (wpAny_pure (wpAny_pure ?_)))
    refine wpAny_bind (wpAny_seqItems (s := ⟨k2, gg, dd, t2, oo⟩) p2 rfl ?_)
    refine wpAny_bind (wpAny_newTuple ?_)
    have sz : k2.objs.size = hp.objs.size := by rw [e2.1, r2.1, e1.1, r1.1, e0.1]
    have zz : ZObj k2 z TI TO .ellipsis m := sb_get e2 S.TOz.symm (sb_get r2 S.zi2 (sb_get e1 S.TOz.symm (sb_get r1 S.zi1 z0)))
    have kk : ∀ c o, c ≠ z → c ≠ TO → c ≠ i1 → c ≠ i2 → hp.get? c = some o → k2.get? c = some o := fun c o cz cT c1 c2 e => sb_get e2 cT (sb_get r2 c2 (sb_get e1 cT (sb_get r1 c1 (sb_get e0 cz e))))
    have ja : Sa (i + 1) k2 := Da.over (Da.over (Da.over q1 e1 S.Tf1) r2 S.sep2_1) e2 S.Tf1
    have jb : Sb (i + 1) k2 := Db.over q2 e2 S.Tf2
    have zl : z < k2.objs.size := Heap.lt_size zz
    show wpAny _ _ (Builtin.SmallTypes.ownedTupleHandOut (.ref z) (.ref k2.objs.size) >>= _) _ _ ⟨k2.push { cls := .type "tuple", data := .seq #[x, y] }, gg, dd, t2, oo⟩
    refine wpAny_bind ?_
    unfold Builtin.SmallTypes.ownedTupleHandOut
    have z6 : ZObj (k2.push { cls := .type "tuple", data := .seq #[x, y] }) z TI TO .ellipsis m := Heap.get?_push_of_some _ zz
    refine wpAny_bind (wpAny_setField_rec z6 (by simp) fun k7 z7 e7 => ?_)
    replace z7 : ZObj k7 z TI TO (rawInt k2.objs.size) m := z7
    refine wpAny_setField_rec z7 (by simp) fun k8 z8 e8 => ?_
    replace z8 : ZObj k8 z TI TO (rawInt k2.objs.size) false := z8
    replace e7 : Heap.SameBut z (k2.push { cls := .type "tuple", data := .seq #[x, y] }) k7 := e7
    replace e8 : Heap.SameBut z k7 k8 := e8
    have up : ∀ c o, c ≠ z → k2.get? c = some o → k8.get? c = some o := fun c o c1 e => sb_get e8 c1 (sb_get e7 c1 (Heap.get?_push_of_some _ e))
    have T8 : ZPair k8 k2.objs.size x y := sb_get e8 (Nat.ne_of_gt zl) (sb_get e7 (Nat.ne_of_gt zl) (Heap.get?_push_size _ rfl))
    have s8 : k8.objs.size = k2.objs.size + 1 := by rw [e8.1, e7.1, Heap.size_push]
    rw [sz] at z8 T8 s8
    refine wpAny_pure ⟨_, rfl, ?_⟩
    show Q (.ref k2.objs.size) ⟨k8, gg, dd, t2, oo⟩
    rw [sz]
    exact k x y k8 t2 _ _ px py z8 (.inr ⟨_, rfl⟩) ⟨_, _, up _ _ S.TOz p2⟩ (Da.frame _ _ _ ja fun b hb o e => up b o (fun q => S.zf1 (q ▸ hb)) e) (Db.frame _ _ _ jb fun b hb o e => up b o (fun q => S.zf2 (q ▸ hb)) e) T8 s8 (fun c o cz cT c1 c2 e => up c o cz (kk c o cz cT c1 c2 e)) fun _ => ⟨rfl, rfl⟩
  · -- another pair
    intro T k0 ef z0 e0
    replace e0 : Heap.SameBut z hp k0 := e0
    simp only [Bool.false_eq_true, if_false]
    have sa0 : Sa i k0 := Da.over sa e0 S.zf1
    have sb0 : Sb i k0 := Db.over sb e0 S.zf2
    simp only [List.forIn_toArray, List.forIn_cons, List.forIn_nil]
    refine wpAny_bind (wpAny_bind (wpAny_bind (wpAny_holding ?_)))
    show wpAny _ _ (nextOf (.ref i1) >>= _) _ _ ⟨k0, gg, dd, tk0, oo⟩
    refine wpAny_bind (Da.item i _ _ _ la sa0 fun x j1 t1 px q1 r1 => wpAny_pure ?_)
    replace r1 : Heap.SameBut i1 k0 j1 := r1
    refine wpAny_pure ?_
    refine wpAny_bind (wpAny_bind (wpAny_holding ?_))
    show wpAny _ _ (nextOf (.ref i2) >>= _) _ _ ⟨j1, gg, dd, t1, oo⟩
    refine wpAny_bind (Db.item i _ _ _ lb (Db.over sb0 r1 S.sep1_2) fun y j2 t2 py q2 r2 => wpAny_pure ?_)
    replace r2 : Heap.SameBut i2 j1 j2 := r2
    refine wpAny_pure (wpAny_pure ?_)
    have sz : j2.objs.size = hp.objs.size := by rw [r2.1, r1.1, e0.1]
    have zz : ZObj j2 z TI TO f0 true := sb_get r2 S.zi2 (sb_get r1 S.zi1 z0)
    have OO : ZPair j2 TO u v := sb_get r2 S.Ti2 (sb_get r1 S.Ti1 (sb_get e0 S.TOz hO))
    have kk : ∀ c o, c ≠ z → c ≠ TO → c ≠ i1 → c ≠ i2 → hp.get? c = some o → j2.get? c = some o := fun c o cz cT c1 c2 e => sb_get r2 c2 (sb_get r1 c1 (sb_get e0 cz e))
    have ja : Sa (i + 1) j2 := Da.over q1 r2 S.sep2_1
    show wpAny _ _ (newTuple [x, y] >>= _) _ _ ⟨j2, gg, dd, t2, oo⟩
    refine wpAny_bind (wpAny_newTuple ?_)
    have up : ∀ c o, j2.get? c = some o → (j2.push { cls := .type "tuple", data := .seq #[x, y] }).get? c = some o := fun c o e => Heap.get?_push_of_some _ e
    refine wpAny_pure ⟨_, rfl, ?_⟩
    show Q (.ref j2.objs.size) ⟨j2.push { cls := .type "tuple", data := .seq #[x, y] }, gg, dd, t2, oo⟩
    rw [show j2.objs.size = hp.objs.size from sz]
    exact k x y _ t2 _ _ px py (up _ _ zz) (.inr ⟨_, ef⟩) ⟨_, _, up _ _ OO⟩ (Da.frame _ _ _ ja fun b hb o e => up b o e) (Db.frame _ _ _ q2 fun b hb o e => up b o e) (by rw [← sz]; exact Heap.get?_push_size _ rfl) (by rw [Heap.size_push, sz]) (fun c o cz cT c1 c2 e => up c o (kk c o cz cT c1 c2 e)) fun z => by rw [ef] at z; cases z.1
end
end DL
set_option Elab.async false
set_option linter.all false
set_option maxRecDepth 100000
set_option maxHeartbeats 1000000
set_option autoImplicit false
namespace DL
open PySem PySem.Spec PyProof.Rows L2
open Builtin.SmallTypes (nextOf)
section
variable {prog : Program} {w : World} {A : Around} {E : Value → Shared → Prop} {s : Shared} {z TI TO i1 i2 : Addr} {fa fb : List Addr} {na nb i : Nat} {Pa Pb : Nat → Value → Prop} {Sa Sb : Nat → Heap → Prop} {u v f0 : Value} {m : Bool}
/-- a zip's end -/
theorem zip_endU {Q : Fin → Shared → Prop} (S : ZipSep2 z TI TO i1 i2 fa fb) (Da : Draws prog w A i1 fa na Pa Sa) (Db : Draws prog w A i2 fb nb Pb Sb)
    (hz : ZObj s.heap z TI TO f0 m) (hf : ZFr f0) (hI : ZPair s.heap TI (.ref i1) (.ref i2)) (hO : ZPair s.heap TO u v) (sa : Sa i s.heap) (sb : Sb i s.heap) (la : i ≤ na) (lb : i ≤ nb) (hend : i = na ∨ i = nb)
    (k : ∀ h' tk e, (∀ c o, c ≠ z → c ≠ TO → c ≠ i1 → c ≠ i2 → s.heap.get? c = some o → h'.get? c = some o) → (∃ o, h'.get? e = some o ∧ o.cls = .type "StopIteration") → E (.ref e) { s with heap := h', toks := tk }) :
    wpAny (model prog w) A (Builtin.«zip.__next__» ⟨[.ref z], []⟩) Q E s := by
  obtain ⟨hp, gg, dd, tk0, oo⟩ := s
  show wpAny _ _ (field (.ref z) 2 >>= _) _ _ _
  refine wpAny_bind (wpAny_field hz rfl (x := .bool false) rfl ?_)
  show wpAny _ _ (field (.ref z) 3 >>= _) _ _ _
  refine wpAny_bind (wpAny_field hz rfl (x := .ref TI) rfl ?_)
  refine wpAny_bind (wpAny_seqItems hI rfl ?_)
  show wpAny _ _ (Builtin.SmallTypes.ownedTupleIsFree (.ref z) >>= _) _ _ _
  refine wpAny_bind (zfree (m := m) hz hf ?_ ?_)
  · simp only [if_true]
    refine wpAny_bind (wpAny_rule ?_)
    refine wpAny_bind (wpAny_field hz rfl (x := .ref TO) rfl ?_)
    refine wpAny_bind (wpAny_setField_rec hz (by simp) fun k0 z0 e0 => ?_)
    replace z0 : ZObj k0 z TI TO .ellipsis m := z0
    replace e0 : Heap.SameBut z hp k0 := e0
    refine wpAny_bind ?_
    simp only [List.zipIdx_cons, List.zipIdx_nil, List.forIn_cons, List.forIn_nil]
    refine wpAny_bind (wpAny_bind (wpAny_onRaise ?_))
    show wpAny _ _ (nextOf (.ref i1) >>= _) _ _ ⟨k0, gg, dd, tk0, oo⟩
    by_cases c1 : i < na
    · refine wpAny_bind (Da.item i _ _ _ c1 (Da.over sa e0 S.zf1) fun x j1 t1 px q1 r1 => wpAny_pure ?_)
      replace r1 : Heap.SameBut i1 k0 j1 := r1
      have o1 : ZPair j1 TO u v := sb_get r1 S.Ti1 (sb_get e0 S.TOz hO)
      refine wpAny_bind (wpAny_seqItems (s := ⟨j1, gg, dd, t1, oo⟩) o1 rfl ?_)
      refine wpAny_bind (updateSeq_IsTupOf2 (s := ⟨j1, gg, dd, t1, oo⟩) o1 fun k1 p1 e1 => ?_)
      replace p1 : ZPair k1 TO x v := p1
      replace e1 : Heap.SameBut TO j1 k1 := e1
      refine wpAny_bind (wpAny_letGo (wpAny_pure ?_))
      have e2 : i = nb := by omega
      refine wpAny_bind (wpAny_bind (wpAny_onRaise ?_))
      show wpAny _ _ (nextOf (.ref i2) >>= _) _ _ ⟨k1, gg, dd, t1, oo⟩
      refine wpAny_bind (Db.done ⟨k1, gg, dd, t1, oo⟩ _ _ (by rw [← e2]; exact Db.over (Db.over (Db.over sb e0 S.zf2) r1 S.sep1_2) e1 S.Tf2) fun q e hq he => ?_)
      replace hq : Heap.ExtBut i2 k1 q := hq
      obtain ⟨oe, he, hc⟩ := he
      replace he : q.get? e = some oe := he
      have zq : ZObj q z TI TO .ellipsis m := hq _ _ S.zi2 (sb_get e1 S.TOz.symm (sb_get r1 S.zi1 z0))
      have ez : e ≠ z := fun x => by subst x; rw [zq] at he; cases he; simp at hc
      refine wpAny_setField_rec (s := ⟨q, gg, dd, t1, oo⟩) zq (by simp) fun q' _ hq' => ?_
      replace hq' : Heap.SameBut z q q' := hq'
      exact k q' t1 e (fun c o cz cT a1 a2 x => sb_get hq' cz (hq _ _ a2 (sb_get e1 cT (sb_get r1 a1 (sb_get e0 cz x))))) ⟨oe, sb_get hq' ez he, hc⟩
    · have e1 : i = na := by omega
      refine wpAny_bind (Da.done ⟨k0, gg, dd, tk0, oo⟩ _ _ (by rw [← e1]; exact Da.over sa e0 S.zf1) fun q e hq he => ?_)
      replace hq : Heap.ExtBut i1 k0 q := hq
      obtain ⟨oe, he, hc⟩ := he
      replace he : q.get? e = some oe := he
      have zq : ZObj q z TI TO .ellipsis m := hq _ _ S.zi1 z0
      have ez : e ≠ z := fun x => by subst x; rw [zq] at he; cases he; simp at hc
      refine wpAny_setField_rec (s := ⟨q, gg, dd, tk0, oo⟩) zq (by simp) fun q' _ hq' => ?_
      replace hq' : Heap.SameBut z q q' := hq'
      exact k q' tk0 e (fun c o cz cT a1 a2 x => sb_get hq' cz (hq _ _ a1 (sb_get e0 cz x))) ⟨oe, sb_get hq' ez he, hc⟩
  · intro T k0 ef z0 e0
    replace e0 : Heap.SameBut z hp k0 := e0
    simp only [Bool.false_eq_true, if_false]
    have sa0 : Sa i k0 := Da.over sa e0 S.zf1
    have sb0 : Sb i k0 := Db.over sb e0 S.zf2
    simp only [List.forIn_toArray, List.forIn_cons, List.forIn_nil]
    refine wpAny_bind (wpAny_bind (wpAny_bind (wpAny_holding ?_)))
    show wpAny _ _ (nextOf (.ref i1) >>= _) _ _ ⟨k0, gg, dd, tk0, oo⟩
    by_cases c1 : i < na
    · refine wpAny_bind (Da.item i _ _ _ c1 sa0 fun x j1 t1 px q1 r1 => wpAny_pure ?_)
      replace r1 : Heap.SameBut i1 k0 j1 := r1
      refine wpAny_pure ?_
      have e2 : i = nb := by omega
      refine wpAny_bind (wpAny_bind (wpAny_holding ?_))
      show wpAny _ _ (nextOf (.ref i2) >>= _) _ _ ⟨j1, gg, dd, t1, oo⟩
      refine wpAny_bind (Db.done ⟨j1, gg, dd, t1, oo⟩ _ _ (by rw [← e2]; exact Db.over sb0 r1 S.sep1_2) fun q e hq he => ?_)
      replace hq : Heap.ExtBut i2 j1 q := hq
      exact k q t1 e (fun c o cz cT a1 a2 x => hq _ _ a2 (sb_get r1 a1 (sb_get e0 cz x))) he
    · have e1 : i = na := by omega
      refine wpAny_bind (Da.done ⟨k0, gg, dd, tk0, oo⟩ _ _ (by rw [← e1]; exact sa0) fun q e hq he => ?_)
      replace hq : Heap.ExtBut i1 k0 q := hq
      exact k q tk0 e (fun c o cz cT a1 a2 x => hq _ _ a1 (sb_get e0 cz x)) he
/-- a step of an iterator from s on: what comes, and the heap behind; ch: what it changes of what was -/
def StepN (prog : Program) (w : World) (A : Around) (it : Addr) (ch : List Addr) (s : Shared) (R : Value → Heap → Prop) : Prop := ∀ (Q E : Value → Shared → Prop), (∀ x h' tk, R x h' → s.heap.objs.size ≤ h'.objs.size → (∀ b o, b ∉ ch → s.heap.get? b = some o → h'.get? b = some o) → Q x { s with heap := h', toks := tk }) → wpAny (model prog w) A (nextOf (.ref it)) Q E s
def StopN (prog : Program) (w : World) (A : Around) (it : Addr) (ch : List Addr) (s : Shared) : Prop := ∀ (Q E : Value → Shared → Prop), (∀ e h' tk, (∃ o, h'.get? e = some o ∧ o.cls = .type "StopIteration") → (∀ b o, b ∉ ch → s.heap.get? b = some o → h'.get? b = some o) → E (.ref e) { s with heap := h', toks := tk }) → wpAny (model prog w) A (nextOf (.ref it)) Q E s
theorem next_zip {Q E : Value → Shared → Prop} (hz : ZObj s.heap z TI TO f0 m) (h : wpAny (model prog w) A.in1 (Builtin.«zip.__next__» ⟨[.ref z], []⟩) (fun fin s' => ∃ v, fin = .done (.ret v) ∧ Q v s') E s) : wpAny (model prog w) A (nextOf (.ref z)) Q E s := by
  have hT : s.TypeIs (.ref z) "zip" := ⟨_, hz, rfl⟩
  unfold nextOf
  refine wpAny_bind (wpAny_callSpecial?_slot (name := Str.ofString "__next__") hT F.slot_zip_next (wpAny_call_entry F.slot_zip_next hT F.entry_zip_next ?_ (F.args_zip_next_1 _)))
  exact thn h fun r s' ⟨v, e, q⟩ => ⟨v, e, wpAny_pure q⟩
/-- enumerate's next pair, over whatever it draws from -/
theorem enum_nextN {e it : Addr} {ch : List Addr} {c : Int} {old : Value} {R : Value → Heap → Prop} {Q : Value → Shared → Prop} (D : StepN prog w A it ch s R) (he : IsEnum s.heap e it c old) (hc : e ∉ ch)
    (k : ∀ x h1 t1 h' , R x h1 → s.heap.objs.size ≤ h1.objs.size → (∀ b o, b ∉ ch → s.heap.get? b = some o → h1.get? b = some o) → IsEnumOut h' e it (c + 1) x h1.objs.size → h'.get? h1.objs.size = some { cls := .type "tuple", data := .seq #[.int c t1, x] } →
      (∀ b o, b ≠ e → h1.get? b = some o → h'.get? b = some o) → Q (.ref h1.objs.size) { s with heap := h', toks := t1 + 1 }) :
    wpAny (model prog w) A (Builtin.«enumerate.__next__» ⟨[.ref e], []⟩) (fun fin s' => ∃ v, fin = .done (.ret v) ∧ Q v s') E s := by
  obtain ⟨hp, gg, dd, tk0, oo⟩ := s
  show wpAny _ _ (field (.ref e) 2 >>= _) _ _ _
  refine wpAny_bind (wpAny_field he rfl (x := .ref it) rfl ?_)
  refine wpAny_bind (D _ _ fun x h1 t1 hR hsz hk => ?_)
  replace hk : ∀ b o, b ∉ ch → hp.get? b = some o → h1.get? b = some o := hk
  have e1 : IsEnum h1 e it c old := hk _ _ hc he
  show wpAny _ _ (field (.ref e) 3 >>= _) _ _ ⟨h1, gg, dd, t1, oo⟩
  refine wpAny_bind (wpAny_field e1 rfl (x := rawInt c) rfl ?_)
  show wpAny _ _ (field (.ref e) 4 >>= _) _ _ ⟨h1, gg, dd, t1, oo⟩
  refine wpAny_bind (wpAny_field e1 rfl (x := .none) rfl ?_)
  show wpAny _ _ (mkInt c >>= _) _ _ ⟨h1, gg, dd, t1, oo⟩
  refine wpAny_bind (wpAny_mkInt ?_)
  show wpAny _ _ (setField (.ref e) 3 (rawInt (c + 1)) >>= _) _ _ ⟨h1, gg, dd, t1 + 1, oo⟩
  refine wpAny_bind (wpAny_setField_rec e1 (by simp) fun h2 e2 s2 => ?_)
  replace s2 : Heap.SameBut e h1 h2 := s2
  replace e2 : IsEnum h2 e it (c + 1) old := e2
  show wpAny _ _ (setField (.ref e) 4 .none >>= _) _ _ ⟨h2, gg, dd, t1 + 1, oo⟩
  refine wpAny_bind (wpAny_setField_rec e2 (by simp) fun h3 e3 s3 => ?_)
  replace s3 : Heap.SameBut e h2 h3 := s3
  replace e3 : IsEnum h3 e it (c + 1) old := e3
  show wpAny _ _ (newTuple [.int c t1, x] >>= _) _ _ ⟨h3, gg, dd, t1 + 1, oo⟩
  refine wpAny_bind (wpAny_newTuple ?_)
  have z3 : h3.objs.size = h1.objs.size := by rw [s3.1, s2.1]
  have le : e < h1.objs.size := Heap.lt_size e1
  have e4 : IsEnum (h3.push { cls := .type "tuple", data := .seq #[.int c t1, x] }) e it (c + 1) old := Heap.get?_push_of_some _ e3
  have T4 : (h3.push { cls := .type "tuple", data := .seq #[.int c t1, x] }).get? h1.objs.size = some { cls := .type "tuple", data := .seq #[.int c t1, x] } := by rw [← z3]; exact Heap.get?_push_size _ rfl
  have k4 : ∀ b o, b ≠ e → h1.get? b = some o → (h3.push { cls := .type "tuple", data := .seq #[.int c t1, x] }).get? b = some o := fun b o n q => Heap.get?_push_of_some _ (sb_get s3 n (sb_get s2 n q))
  generalize h3.push { cls := .type "tuple", data := .seq #[.int c t1, x] } = h4 at e4 T4 k4
  show wpAny _ _ (Builtin.SmallTypes.ownedTupleIsFree (.ref e) >>= _) _ _ ⟨h4, gg, dd, t1 + 1, oo⟩
  rw [z3]
  refine wpAny_bind ?_
  unfold Builtin.SmallTypes.ownedTupleIsFree
  refine wpAny_bind (wpAny_field e4 rfl (x := .none) rfl (wpAny_pure ?_))
  simp only [if_true]
  refine wpAny_bind (wpAny_rule ?_)
  refine wpAny_bind (wpAny_field e4 rfl (x := old) rfl ?_)
  refine wpAny_bind (wpAny_setField_rec e4 (by simp) fun h5 e5 s5 => ?_)
  replace s5 : Heap.SameBut e h4 h5 := s5
  replace e5 : IsEnum h5 e it (c + 1) x := e5
  show wpAny _ _ (Builtin.SmallTypes.ownedTupleHandOut (.ref e) (.ref h1.objs.size) >>= _) _ _ ⟨h5, gg, dd, t1 + 1, oo⟩
  refine wpAny_bind ?_
  unfold Builtin.SmallTypes.ownedTupleHandOut
  refine wpAny_bind (wpAny_setField_rec e5 (by simp) fun h6 e6 s6 => ?_)
  replace s6 : Heap.SameBut e h5 h6 := s6
  replace e6 : IsEnumOut h6 e it (c + 1) x h1.objs.size := e6
  refine wpAny_setField_rec e6 (by simp) fun h7 e7 s7 => ?_
  replace s7 : Heap.SameBut e h6 h7 := s7
  replace e7 : IsEnumOut h7 e it (c + 1) x h1.objs.size := e7
  refine wpAny_bind (wpAny_letGo (wpAny_pure ⟨_, rfl, ?_⟩))
  exact k x h1 t1 h7 hR hsz hk e7 (sb_get s7 (Nat.ne_of_gt le) (sb_get s6 (Nat.ne_of_gt le) (sb_get s5 (Nat.ne_of_gt le) T4))) fun b o n q => sb_get s7 n (sb_get s6 n (sb_get s5 n (k4 b o n q)))
theorem py_enumN {e it : Addr} {ch : List Addr} {c : Int} {old : Value} {R : Value → Heap → Prop} {Q : Option Value → Shared → Prop} (D : StepN prog w A.in1 it ch s R) (he : IsEnum s.heap e it c old) (hc : e ∉ ch)
    (k : ∀ x h1 t1 h' , R x h1 → s.heap.objs.size ≤ h1.objs.size → (∀ b o, b ∉ ch → s.heap.get? b = some o → h1.get? b = some o) → IsEnumOut h' e it (c + 1) x h1.objs.size → h'.get? h1.objs.size = some { cls := .type "tuple", data := .seq #[.int c t1, x] } →
      (∀ b o, b ≠ e → h1.get? b = some o → h'.get? b = some o) → Q (some (.ref h1.objs.size)) { s with heap := h', toks := t1 + 1 }) : wpAny (model prog w) A (pyNext (.ref e)) Q E s := by
  have hT : s.TypeIs (.ref e) "enumerate" := ⟨_, he, rfl⟩
  unfold pyNext
  exact wpAny_bind (wpAny_attempt (wpAny_callSpecial?_slot (name := Str.ofString "__next__") hT F.slot_enumerate_next (wpAny_call_entry F.slot_enumerate_next hT F.entry_enumerate_next
    (enum_nextN D he hc fun x h1 t1 h' a b c d e' f => wpAny_pure (k x h1 t1 h' a b c d e' f)) (F.args_enumerate_next_1 _))))
theorem py_enumEnd {e it : Addr} {ch : List Addr} {c : Int} {old : Value} {Q : Option Value → Shared → Prop} (D : StopN prog w A.in1 it ch s) (he : IsEnum s.heap e it c old)
    (k : ∀ h' tk, (∀ b o, b ∉ ch → s.heap.get? b = some o → h'.get? b = some o) → Q none { s with heap := h', toks := tk }) : wpAny (model prog w) A (pyNext (.ref e)) Q E s := by
  have hT : s.TypeIs (.ref e) "enumerate" := ⟨_, he, rfl⟩
  unfold pyNext
  refine wpAny_bind (wpAny_attempt (wpAny_callSpecial?_slot (name := Str.ofString "__next__") hT F.slot_enumerate_next (wpAny_call_entry F.slot_enumerate_next hT F.entry_enumerate_next ?_ (F.args_enumerate_next_1 _))))
  show wpAny _ _ (field (.ref e) 2 >>= _) _ _ _
  refine wpAny_bind (wpAny_field he rfl (x := .ref it) rfl ?_)
  refine wpAny_bind (D _ _ fun x h' tk hx hk => ?_)
  obtain ⟨o, ho, hc⟩ := hx
  refine wpAny_bind (wpAny_isInstance (T := "StopIteration") (b := true) ⟨o, ho, hc⟩ isSubtype_stop ?_)
  exact wpAny_pure (k _ _ hk)
end
end DL
set_option Elab.async false
set_option linter.all false
set_option maxRecDepth 100000
set_option maxHeartbeats 1000000
set_option autoImplicit false
namespace DL
open PySem PySem.Spec PyProof.Rows L2
open Builtin.SmallTypes (nextOf)
section
variable {prog : Program} {w : World} {A : Around} {E : Value → Shared → Prop} {s : Shared}
theorem step_draws {it : Addr} {fp : List Addr} {n i : Nat} {P : Nat → Value → Prop} {St : Nat → Heap → Prop} (D : Draws prog w A it fp n P St) (hi : i < n) (hst : St i s.heap) : StepN prog w A it [it] s fun x h' => P i x ∧ St (i + 1) h' ∧ h'.objs.size = s.heap.objs.size := fun Q E k =>
  D.item i s Q E hi hst fun x h' tk p st sb => k x h' tk ⟨p, st, sb.1⟩ (Nat.le_of_eq sb.1.symm) fun b o n e => sb_get sb (by simpa using n) e
theorem stop_draws {it : Addr} {fp : List Addr} {n : Nat} {P : Nat → Value → Prop} {St : Nat → Heap → Prop} (D : Draws prog w A it fp n P St) (hst : St n s.heap) : StopN prog w A it [it] s := fun Q E k =>
  D.done s Q E hst fun h' e x he => k e h' s.toks he fun b o n q => x b o (by simpa using n) q
end
abbrev tupO (vs : Array Value) : Obj := { cls := .type "tuple", data := .seq vs }
/-- item i of the sequence at a, in a new pair -/
def IteF (t : Bool) (K : PySem.W.Frag) (a : Addr) : It :=
  ⟨fun i H => ∃ (xs : List V) (x : V), SqK t K H a xs ∧ xs[i]? = some x, fun i H v H' => ∃ T o x, v = .ref T ∧ H T = none ∧ H' = upd H T (.frz o (.tup [.int (i : Nat), x])) ∧ o.cls = .type "tuple" ∧ o.dict = none ∧ ∀ xs, SqK t K H a xs → xs[i]? = some x, fun i H => ∃ xs : List V, SqK t K H a xs ∧ xs.length ≤ i⟩
theorem ne_src {t : Bool} {h : Heap} {a it : Addr} {items : Array Value} {i : Nat} {b : Addr} (p : IsK t h a items) (q : ItK t h it b i) : a ≠ it := fun e => by
  obtain ⟨o, e1, c1⟩ := p.ob
  obtain ⟨o', e2, c2, _⟩ := q.ob
  rw [e, e2] at e1; cases e1
  rw [c1] at c2
  exact absurd c2 (by cases t <;> decide)
theorem src_end {prog : Program} {w : World} {A : Around} {s : Shared} {t : Bool} (hh : A.handled = none) {it a : Addr} {items : Array Value} {i : Nat} (h1 : ItK t s.heap it a i) (h2 : IsK t s.heap a items) (he : items.size ≤ i) : StopN prog w A it [it] s :=
  stop_draws (draws_end t hh it a items i (by simp; omega)) ⟨rfl, h1, h2⟩
theorem turn_enumF {P : Program} {w : World} {K : PySem.W.Frag} {elts : List Expr} {kk : Nat} {tpos : Pos} {t : Bool} (a e it : Addr) :
    Turn P w K (.Tuple elts kk tpos) (IteF t K a) [e, it] e (fun i h => (∃ old, IsEnum h e it ((i : Nat) : Int) old) ∧ ItK t h it a i ∧ e ≠ it) where
  mem := by simp
  obj := fun i h st b hb => by
    obtain ⟨⟨old, he⟩, hi, _⟩ := st
    obtain ⟨o, ho, _, d, hd⟩ := hi.ob
    have e' : b = e ∨ b = it := by simpa using hb
    rcases e' with z | z
    · rw [z]; exact ⟨_, he, fun v q => nomatch q⟩
    · rw [z]; exact ⟨o, ho, fun v q => by rw [hd] at q; cases q⟩
  keep := fun i h h' st k => let ⟨⟨old, he⟩, hi, hne⟩ := st; ⟨⟨old, k e (by simp) _ he⟩, hi.at_ fun o q => k it (by simp) o q, hne⟩
  item := by
    intro X hP hw hK hc i pins s σ H E I hf st hg
    subst hP hw hK
    obtain ⟨⟨old, he⟩, hit, hne⟩ := st
    obtain ⟨xs, x, hq, hx⟩ := hg
    obtain ⟨its, rv, p⟩ := seq_k I hq
    obtain ⟨u, hu, ru⟩ := rv.get hx
    have nai := ne_src p hit
    have hlt : i < its.toArray.size := by
      have := (List.getElem?_eq_some_iff.mp hu).1
      simpa using this
    have hel : e < s.heap.objs.size := Heap.lt_size he
    have hil : it < s.heap.objs.size := by obtain ⟨_, q, _⟩ := hit.ob; exact Heap.lt_size q
    refine py_enumN (step_draws (draws_k t (A := X.A.in1) (show X.A.in1.handled = none from I.ok.hd hc) it a nai its.toArray) hlt ⟨hit, p⟩) he (by simpa using hne) fun x' h1 t1 h' ⟨hPx, hst, hsz⟩ hle hk ho hT hk2 => ?_
    have ex : x' = u := by
      have hPx : its.toArray[i]? = some x' := hPx
      rw [List.getElem?_toArray, hu] at hPx
      exact (Option.some.inj hPx).symm
    subst ex
    refine ⟨_, rfl, wpAny_letOwnedTupleGo_enum (s := { s with heap := h', toks := t1 + 1 }) ho fun h'' he' sb => ?_⟩
    rw [hsz] at hT ho
    have hT2 : h''.get? s.heap.objs.size = some (tupO #[.int i t1, x']) := sb_get sb (Nat.ne_of_gt hel) hT
    have new : ObjOk X.prog X.w (upd H s.heap.objs.size (.frz (tupO #[.int i t1, x']) (.tup [.int (i : Nat), x]))) h'' s.heap.objs.size (.frz (tupO #[.int i t1, x']) (.tup [.int (i : Nat), x])) :=
      ⟨hT2, by show 2 ≤ sizeLine; decide, [.int i t1, x'], .cons ⟨_, rfl⟩ (.cons ru .nil), ⟨_, hT2, rfl, _, rfl⟩⟩
    have I1 := I.turnedNew (h' := h'') (t' := t1 + 1) (ch := [e, it]) (fun b ob hb q => sb_get sb (fun z => hb (by simp [z])) (hk2 b ob (fun z => hb (by simp [z])) (hk b ob (fun z => hb (List.mem_cons_of_mem _ z)) q))) hf (Nat.le_refl _) new
    rw [hsz]
    refine ⟨.ref s.heap.objs.size, _, I1, rfl, ⟨_, _, x, rfl, I.hok.fresh (Nat.le_refl _), rfl, rfl, rfl, fun ys hy => by rw [inj_k I hy hq]; exact hx⟩, ⟨⟨x', ?_⟩, hst.1.at_ fun o q => sb_get sb (Ne.symm hne) (hk2 _ _ (Ne.symm hne) q), hne⟩, fun b hb => ?_⟩
    · have e1 : ((i + 1 : Nat) : Int) = (i : Int) + 1 := by omega
      rw [e1]; exact he'
    · have hb' : b < s.heap.objs.size := by
        have e' : b = e ∨ b = it := by simpa using hb
        rcases e' with z | z
        · rw [z]; exact hel
        · rw [z]; exact hil
      rw [upd_ne (Nat.ne_of_lt hb')]
      exact (hf b hb).1
  done := by
    intro X hP hw hK hc i pins s σ H E I hf st hg
    subst hP hw hK
    obtain ⟨⟨old, he⟩, hit, hne⟩ := st
    obtain ⟨xs, hq, hx⟩ := hg
    obtain ⟨its, rv, p⟩ := seq_k I hq
    have hl := rv.length
    refine py_enumEnd (src_end (A := X.A.in1) (show X.A.in1.handled = none from I.ok.hd hc) hit p (by simp; omega)) he fun h' tk hk => ⟨rfl, I.turnedL (t' := tk) (ch := [e, it]) (fun b o hb q => hk b o (fun z => hb (List.mem_cons_of_mem _ z)) q) hf⟩
  self := fun A i s Q E st h => let ⟨⟨_, he⟩, _⟩ := st; wpAny_pyIter_enum he h
/-- a zip under way at turn i -/
structure ZAt (h : Heap) (t1 t2 : Bool) (a b z TI TO i1 i2 : Addr) (i : Nat) : Prop where
  zo : ∃ f0 m, ZObj h z TI TO f0 m ∧ ZFr f0
  ti : ZPair h TI (.ref i1) (.ref i2)
  to : ∃ x y, ZPair h TO x y
  k1 : ItK t1 h i1 a i
  k2 : ItK t2 h i2 b i
theorem ZAt.keep {h h' : Heap} {t1 t2 : Bool} {a b z TI TO i1 i2 : Addr} {i : Nat} (st : ZAt h t1 t2 a b z TI TO i1 i2 i) (k : ∀ c ∈ [z, TI, TO, i1, i2], ∀ o, h.get? c = some o → h'.get? c = some o) : ZAt h' t1 t2 a b z TI TO i1 i2 i := by
  obtain ⟨⟨f0, m, e, f⟩, hI, ⟨x, y, hO⟩, h1, h2⟩ := st
  exact ⟨⟨f0, m, k z (by simp) _ e, f⟩, k TI (by simp) _ hI, ⟨x, y, k TO (by simp) _ hO⟩, h1.at_ fun o q => k i1 (by simp) o q, h2.at_ fun o q => k i2 (by simp) o q⟩
theorem ZAt.obj {h : Heap} {t1 t2 : Bool} {a b z TI TO i1 i2 : Addr} {i : Nat} (st : ZAt h t1 t2 a b z TI TO i1 i2 i) : ∀ c ∈ [z, TI, TO, i1, i2], ∃ o, h.get? c = some o ∧ ∀ v, o.data ≠ .cell v := fun c hc => by
  obtain ⟨⟨f0, m, e, f⟩, hI, ⟨x, y, hO⟩, h1, h2⟩ := st
  obtain ⟨o1, e1, _, f1, d1⟩ := h1.ob
  obtain ⟨o2, e2, _, f2, d2⟩ := h2.ob
  have e' : c = z ∨ c = TI ∨ c = TO ∨ c = i1 ∨ c = i2 := by simpa using hc
  rcases e' with q | q | q | q | q
  · rw [q]; exact ⟨_, e, fun v q => nomatch q⟩
  · rw [q]; exact ⟨_, hI, fun v q => nomatch q⟩
  · rw [q]; exact ⟨_, hO, fun v q => nomatch q⟩
  · rw [q]; exact ⟨o1, e1, fun v q => by rw [d1] at q; cases q⟩
  · rw [q]; exact ⟨o2, e2, fun v q => by rw [d2] at q; cases q⟩
section
variable {prog : Program} {w : World} {A : Around} {s : Shared} {t1 t2 : Bool} {a b z TI TO i1 i2 : Addr} {i : Nat}
theorem ZAt.stop (S : ZipSep2 z TI TO i1 i2 [i1, a] [i2, b]) (hh : A.in1.handled = none) (st : ZAt s.heap t1 t2 a b z TI TO i1 i2 i) {xs ys : Array Value} (p : IsK t1 s.heap a xs) (q : IsK t2 s.heap b ys) (l : xs.size ≤ i ∨ ys.size ≤ i) :
    StopN prog w A z [z, TO, i1, i2] s := by
  intro Q E k
  have n1 := ne_src p st.k1
  have n2 := ne_src q st.k2
  obtain ⟨⟨f0, m, e, f⟩, hI, ⟨x0, y0, hO⟩, h1, h2⟩ := st
  have fin : ∀ (h' : Heap) (tk : Nat) (x : Addr), (∀ c o, c ≠ z → c ≠ TO → c ≠ i1 → c ≠ i2 → s.heap.get? c = some o → h'.get? c = some o) → (∃ o, h'.get? x = some o ∧ o.cls = .type "StopIteration") → E (.ref x) { s with heap := h', toks := tk } := fun h' tk x hk hx =>
    k x h' tk hx fun c o hc e => hk c o (fun q' => hc (by simp [q'])) (fun q' => hc (by simp [q'])) (fun q' => hc (by simp [q'])) (fun q' => hc (by simp [q'])) e
  by_cases c1 : xs.size ≤ i
  · by_cases c2 : ys.size ≤ i
    · exact next_zip e (zip_endU S (draws_end t1 hh i1 a xs i (by simp; omega)) (draws_end t2 hh i2 b ys i (by simp; omega)) e f hI hO ⟨rfl, h1, p⟩ ⟨rfl, h2, q⟩ (Nat.le_refl _) (Nat.le_refl _) (.inl rfl) fin)
    · exact next_zip e (zip_endU S (draws_end t1 hh i1 a xs i (by simp; omega)) (draws_k t2 hh i2 b n2 ys) e f hI hO ⟨rfl, h1, p⟩ ⟨h2, q⟩ (Nat.le_refl _) (by omega) (.inl rfl) fin)
  · have c2 : ys.size ≤ i := by omega
    exact next_zip e (zip_endU S (draws_k t1 hh i1 a n1 xs) (draws_end t2 hh i2 b ys i (by simp; omega)) e f hI hO ⟨h1, p⟩ ⟨rfl, h2, q⟩ (by omega) (Nat.le_refl _) (.inr rfl) fin)
end
end DL
set_option Elab.async false
set_option linter.all false
set_option maxRecDepth 100000
set_option maxHeartbeats 1000000
set_option autoImplicit false
namespace DL
open PySem PySem.Spec PyProof.Rows L2
open Builtin.SmallTypes (nextOf)
end DL
set_option Elab.async false
set_option linter.all false
set_option maxRecDepth 100000
set_option maxHeartbeats 1000000
set_option autoImplicit false
namespace DL
open PySem PySem.Spec PyProof.Rows L2
theorem meets_enumB {v : Value} {o : Obj} {H : Heap → Prop} (B : Begins v o H) :
    Meets (Builtin.«enumerate.__new__» ⟨[.type "enumerate", v], []⟩) (fun _ R s => H s.heap ∧
      R (.ok (.ret (.ref (s.heap.push o).objs.size))) { s with heap := (s.heap.push o).push { cls := .type "enumerate", data := .fields #[.none, .bool false, .ref s.heap.objs.size, rawInt 0, .none, .none] } }) :=
  .of_wp fun prog w A R s h => by
    obtain ⟨hp, g, d, tk, os⟩ := s; obtain ⟨h1, h⟩ := h
    have hsub := sub_enumerate
    have q1 : ∀ {A' : Around} {E : Value → Shared → Prop} {Q : Value → Shared → Prop}, Q (.ref hp.objs.size) ⟨hp.push o, g, d, tk, os⟩ → wpAny (model prog w) A' (pyIter v) Q E ⟨hp, g, d, tk, os⟩ :=
      fun q => B.iter prog w _ _ ⟨hp, g, d, tk, os⟩ _ h1 q
    wp_walk using q1
    refine wpAny_stack_any fun st => wpAny_pure ?_
    split
    · rename_i c _ _ _ _ _
      cases (c == Value.type "enumerate")
      · wp_walk using q1
        exact ⟨_, rfl, h⟩
      · wp_walk using q1
        exact ⟨_, rfl, h⟩
    · wp_walk using q1
      exact ⟨_, rfl, h⟩
section
variable {prog : Program} {w : World} {A : Around} {E : Value → Shared → Prop} {s : Shared}
theorem call_enumB {v : Value} {o : Obj} {H : Heap → Prop} {Q : Value → Shared → Prop} (B : Begins v o H) (h1 : H s.heap)
    (h : ∀ h', IsEnum h' (s.heap.objs.size + 1) s.heap.objs.size 0 .none → h'.get? s.heap.objs.size = some o → h'.objs.size = s.heap.objs.size + 2 →
      (∀ b o, s.heap.get? b = some o → h'.get? b = some o) → Q (.ref (s.heap.objs.size + 1)) { s with heap := h' }) :
    wpAny (model prog w) A (call (.type "enumerate") [v]) Q E s := by
  refine callType_new F.called_enumerate (by decide) (F.typeCall_enumerate_1 _) (F.newCall_enumerate_1 _) (fun obj => F.args_object_init_2 obj _) F.entry_enumerate_new
    (meets_enumB B) ⟨h1, ?_⟩
  have hz : (s.heap.push o).objs.size = s.heap.objs.size + 1 := Heap.size_push ..
  show _ ∧ _
  rw [hz]
  have he : IsEnum ((s.heap.push o).push { cls := .type "enumerate", data := .fields #[.none, .bool false, .ref s.heap.objs.size, rawInt 0, .none, .none] }) (s.heap.objs.size + 1) s.heap.objs.size 0 .none := by
    have := Heap.get?_push_size (s.heap.push o) (o := { cls := .type "enumerate", data := .fields #[.none, .bool false, .ref s.heap.objs.size, rawInt 0, .none, .none] }) rfl
    rw [hz] at this; exact this
  refine ⟨⟨_, he, rfl⟩, h _ he (Heap.get?_push_of_some _ (Heap.get?_push_size _ B.free)) (by rw [Heap.size_push, hz]) fun b o x => Heap.get?_push_of_some _ (Heap.get?_push_of_some _ x)⟩
end
def iEnumF (K : PySem.W.Frag) (ta : TA) : TI := fun σ H R => ta σ H fun vs H1 => ∃ t a xs, vs = [.ref a] ∧ SqK t K H1 a xs ∧ R (IteF t K a) H1
theorem pi_enumF {X : Cx} {e : Expr} {ta : TA} {p pos tpos : Pos} {elts : List Expr} {kk : Nat} (hg : Gl X "enumerate") (hm : X.mg "enumerate" = none) (ha : PA X [e] ta) (hs : starEach [e] X.env = [(false, eval e X.env)] := by rfl) :
    PI X (.Tuple elts kk tpos) (.Call (.Name "enumerate" p) [e] [] pos) (iEnumF X.K ta) := by
  refine ⟨fun pins s σ H R I h => ?_⟩
  refine Call_ (ld_blt I hg hm boot_enumerate (PyProof.Rows.callWith_type1 (thn (ha.run pos pins s σ H _ I h) fun us s1 ⟨vs, H1, I1, r1, q1⟩ => ?_) hs rfl))
  obtain ⟨t, a, xs, ex, hq, q⟩ := q1
  subst ex
  cases r1 with
  | cons r rr =>
    cases rr
    cases r
    have fp : ∀ b ∈ [s1.heap.objs.size + 1, s1.heap.objs.size], s1.heap.objs.size ≤ b := fun b hb => by
      have e' : b = s1.heap.objs.size + 1 ∨ b = s1.heap.objs.size := by simpa using hb
      rcases e' with z | z
      · rw [z]; exact Nat.le_add_right _ _
      · rw [z]; exact Nat.le_refl _
    obtain ⟨its, rv, p'⟩ := seq_k I1 hq
    refine call_enumB (begins_k t a its.toArray) p' fun h' he hit hsz hk => wpAny_pyIter_enum he ?_
    have I2 : Inv X pins σ H1 { s1 with heap := h' } := I1.kept (t' := s1.toks) hk
    have i1 : ItK t h' s1.heap.objs.size a 0 := by cases t <;> exact ⟨_, hit, rfl, rfl⟩
    exact ⟨s1.heap.objs.size + 1, [s1.heap.objs.size + 1, s1.heap.objs.size], _, _, H1, rfl, I2, turn_enumF a (s1.heap.objs.size + 1) s1.heap.objs.size, ⟨⟨.none, he⟩, i1, Nat.succ_ne_self _⟩, fun b hb => I1.fpOk (fp b hb) (I1.hok.fresh (fp b hb)), q⟩
/-- a zip's making, whatever is done with it -/
theorem run_zip {X : Cx} {e e2 : Expr} {ta : TA} {p pos : Pos} {pins : List (Addr × Obj)} {s : Shared} {σ : L2.St} {H : Hp} {Q : Value → Shared → Prop} (hg : Gl X "zip") (hm : X.mg "zip" = none) (ha : PA X [e, e2] ta) (I : Inv X pins σ H s)
    (hs : starEach [e, e2] X.env = (false, eval e X.env) :: starEach [e2] X.env) (hpl : (backTo pos (starEach [e2] X.env)).any (·.1) = false) {J : Bool → Bool → Addr → Addr → Hp → Prop}
    (h : ta σ H fun vs H1 => ∃ t1 t2 a b xs ys, vs = [.ref a, .ref b] ∧ SqK t1 X.K H1 a xs ∧ SqK t2 X.K H1 b ys ∧ J t1 t2 a b H1)
    (k : ∀ t1 t2 a b H1 (s1 : Shared) h' N, Inv X pins σ H1 { s1 with heap := h' } → J t1 t2 a b H1 → s1.heap.objs.size = N → Inv X pins σ H1 s1 → h'.objs.size = N + 5 → a < N → b < N → IsZip h' (N + 4) (N + 2) (N + 3) .none → ZAt h' t1 t2 a b (N + 4) (N + 2) (N + 3) N (N + 1) 0 → Q (.ref (N + 4)) { s1 with heap := h' }) :
    wpAny (model X.prog X.w) X.A (eval (.Call (.Name "zip" p) [e, e2] [] pos) X.env) Q X.xe s := by
  refine Call_ (ld_blt I hg hm PyProof.Rows.boot_zip (PyProof.Rows.callWith_type1 (thn (ha.run pos pins s σ H _ I h) fun us s1 ⟨vs, H1, I1, r1, q1⟩ => ?_) hs hpl))
  obtain ⟨t1, t2, a, b, xs, ys, ex, hqx, hqy, q⟩ := q1
  subst ex
  cases r1 with
  | cons r rr =>
    cases rr with
    | cons r' rr =>
      cases rr
      cases r
      cases r'
      obtain ⟨its, rv, p1⟩ := seq_k I1 hqx
      obtain ⟨its2, rv2, p2⟩ := seq_k I1 hqy
      have la : a < s1.heap.objs.size := by obtain ⟨o, e, _⟩ := p1.ob; exact Heap.lt_size e
      have lb : b < s1.heap.objs.size := by obtain ⟨o, e, _⟩ := p2.ob; exact Heap.lt_size e
      refine zip_begins2 (begins_k t1 a its.toArray) (begins_k t2 b its2.toArray) p1 p2 fun h' hz hTI hTO h1 h2 hsz hk => ?_
      have I2 : Inv X pins σ H1 { s1 with heap := h' } := I1.kept (t' := s1.toks) hk
      have i1 : ItK t1 h' s1.heap.objs.size a 0 := by cases t1 <;> exact ⟨_, h1, rfl, rfl⟩
      have i2 : ItK t2 h' (s1.heap.objs.size + 1) b 0 := by cases t2 <;> exact ⟨_, h2, rfl, rfl⟩
      exact k t1 t2 a b H1 s1 h' _ I2 q rfl I1 hsz la lb hz ⟨⟨_, _, hz, .inl rfl⟩, hTI, ⟨_, _, hTO⟩, i1, i2⟩
theorem sep5 {N a b : Addr} (la : a < N) (lb : b < N) : ZipSep2 (N + 4) (N + 2) (N + 3) N (N + 1) [N, a] [N + 1, b] :=
  zip_sep2 (fp1 := [a]) (fp2 := [b]) (fun c hc => by rw [List.mem_singleton] at hc; subst hc; exact la) (fun c hc => by rw [List.mem_singleton] at hc; subst hc; exact lb)
theorem ge5 {N c : Nat} (h : c ∈ [N + 4, N + 2, N + 3, N, N + 1]) : N ≤ c ∧ c < N + 5 := by
  simp only [List.mem_cons, List.not_mem_nil, or_false] at h
  omega
end DL
set_option Elab.async false
set_option linter.all false
set_option maxRecDepth 100000
set_option maxHeartbeats 1000000
set_option autoImplicit false
namespace DL
open PySem PySem.Spec PyProof.Rows L2
def seqS : PyData → Option (List PyData)
  | .list ds => some ds
  | .tuple ds => some ds
  | _ => none
def srcR (δ : SEnv) : R → Option (List PyData × SEnv)
  | .w d => (seqS d).bind fun ds => if ds.all scalar then some (ds, δ) else none
  | r => (frz δ r).bind fun p => (seqS p.1).map fun ds => (ds, p.2)
def srcR1 (δ : SEnv) : List R → Option (List PyData × SEnv)
  | [r] => srcR δ r
  | _ => none
def srcR2 (δ : SEnv) : List R → Option ((List PyData × List PyData) × SEnv)
  | [r1, r2] => (srcR δ r1).bind fun p => (srcR p.2 r2).map fun q => ((p.1, q.1), q.2)
  | _ => none
section
variable {K : PySem.W.Frag} {F B H : Hp} {vs : List V} {σ : L2.St} {δ : SEnv} {v : V}
/-- a sequence of these things stands at v -/
def SrcAt (K : PySem.W.Frag) (B : Hp) (v : V) (ds : List PyData) : Prop := ∃ t a xs, v = .ref a ∧ DDs B xs ds ∧ ∀ H, Same B H → SqK t K H a xs
theorem SrcAt.up {B B' : Hp} {ds : List PyData} (h : SrcAt K B v ds) (s : Same B B') : SrcAt K B' v ds := by
  obtain ⟨t, a, xs, e, q, f⟩ := h
  exact ⟨t, a, xs, e, q.mono s, fun H s1 => f H (s.trans s1)⟩
theorem src_dd {d : PyData} {ds : List PyData} (h : DD B v d) (e : seqS d = some ds) : SrcAt K B v ds := by
  cases h with
  | lst r q => cases e; exact ⟨false, _, _, rfl, q, fun H s => .inl (same_rd s r)⟩
  | tup r q => cases e; exact ⟨true, _, _, rfl, q, fun H s => .inl (r.mono s).rd⟩
  | _ => cases e
theorem srcR_ok {r : R} {ds : List PyData} {δ' : SEnv} (h : Rep K F B H vs σ δ) (hr : RepR K F B H σ δ v r) (e : srcR δ r = some (ds, δ')) : ∃ B', Same B B' ∧ Rep K F B' H vs σ δ' ∧ SrcAt K B' v ds := by
  have fr : ((frz δ r).bind fun p => (seqS p.1).map fun ds => (ds, p.2)) = some (ds, δ') → ∃ B', Same B B' ∧ Rep K F B' H vs σ δ' ∧ SrcAt K B' v ds := by
    intro e
    obtain ⟨⟨d, δ1⟩, e1, e2⟩ := Option.bind_eq_some_iff.mp e
    obtain ⟨ds', e3, e4⟩ := Option.map_eq_some_iff.mp e2
    cases e4
    obtain ⟨B', s, h', q⟩ := frz_ok h hr e1
    exact ⟨B', s, h', src_dd q e3⟩
  cases r with
  | w d =>
    obtain ⟨ds', e1, e2⟩ := Option.bind_eq_some_iff.mp e
    split at e2
    · rename_i hs
      cases e2
      refine ⟨B, Same.refl _, h, ?_⟩
      have q1 : Dp K (fun _ => none) v d := hr
      cases q1 with
      | lst r3 q3 => cases e1; exact ⟨false, _, _, rfl, dp_items q3 hs B, fun H s => L2.Same.seq (fun _ _ z => by cases z) r3⟩
      | tup r3 q3 =>
        cases e1
        refine ⟨true, _, _, rfl, dp_items q3 hs B, fun H s => ?_⟩
        rcases r3 with r3 | r3
        · exact .inl (same_rd (B := fun _ => none) (fun _ _ z => by cases z) r3)
        · exact .inr r3
      | _ => cases e1
    · cases e2
  | d d => exact fr e
  | o i => exact fr e
  | n c => exact fr e
theorem it_enumF {t : Bool} {a : Addr} {xs : List V} {ds : List PyData} (h : ∀ H, Same B H → SqK t K H a xs) (q : DDs B xs ds) : ItOk B (IteF t K a) (enumD ds) := by
  have hl : (enumD ds).length = ds.length := List.length_mapIdx
  refine ⟨fun i H s hi => ⟨xs, h H s, by rw [q.length, ← hl]; exact hi⟩, fun i H s hi => ?_, fun i H B2 x H' d s s2 y e => ?_⟩
  · have hx : i < xs.length := by rw [q.length, ← hl]; exact hi
    exact ⟨xs, xs[i], h H s, by simp [hx]⟩
  · obtain ⟨T, o, v, e1, e2, e3, ec, ed, y⟩ := y
    unfold enumD at e
    rw [List.getElem?_mapIdx] at e
    obtain ⟨d0, e4, e5⟩ := Option.map_eq_some_iff.mp e
    subst e5
    obtain ⟨v0, e6, p1⟩ := q.get e4
    have a1 := y xs (h H (s.trans s2))
    rw [e6] at a1; cases a1
    exact yl_tup s s2 e1 e2 e3 ec ed (.cons (.int _) (.cons p1 .nil))
end
def wEnumW (wr : WA) : WI := fun Ex δ P => wr Ex δ fun rs δ1 => ob (srcR1 δ1 rs) fun p => P (enumD p.1) p.2
section
variable {S : Sg}
theorem src2_ok {K : PySem.W.Frag} {F B H : Hp} {vs ws : List V} {σ : L2.St} {δ δ' : SEnv} {rs : List R} {p : List PyData × List PyData} (h : Rep K F B H vs σ δ) (hr : RepRs K F B H σ δ ws rs) (e : srcR2 δ rs = some (p, δ')) :
    ∃ B' v1 v2, ws = [v1, v2] ∧ Same B B' ∧ Rep K F B' H vs σ δ' ∧ SrcAt K B' v1 p.1 ∧ SrcAt K B' v2 p.2 := by
  unfold srcR2 at e
  split at e
  · obtain ⟨⟨ds, δ1⟩, e1, e2⟩ := Option.bind_eq_some_iff.mp e
    obtain ⟨⟨es, δ2⟩, e3, e4⟩ := Option.map_eq_some_iff.mp e2
    cases e4
    cases hr with
    | cons a1 a2 =>
      cases a2 with
      | cons a2 a3 =>
        cases a3
        obtain ⟨B1, s1, h1, q1⟩ := srcR_ok h a1.1 e1
        obtain ⟨B2, s2, h2, q2⟩ := srcR_ok h1 (RepR.up s1 a2.1 a2.2) e3
        exact ⟨B2, _, _, rfl, s1.trans s2, h2, q1.up s2, q2⟩
  · cases e
theorem di_enumW {e : Expr} {wr : WA} {p pos tpos : Pos} {elts : List Expr} {kk : Nat} (hg : GlS S.sc "enumerate") (hm : S.g.mg "enumerate" = none) (ha : DA S [e] wr) (hs : ∀ env, starEach [e] env = [(false, eval e env)] := by intro _; rfl) :
    DI S (.Tuple elts kk tpos) (.Call (.Name "enumerate" p) [e] [] pos) (wEnumW wr) := by
  obtain ⟨t, pa, s⟩ := ha
  refine ⟨iEnumF S.g.K t, fun c hc => pi_enumF (X := S.g.cx c) (gl_of hc hg) hm (pa c hc) (hs _), ⟨fun Ex Ex' δ P P' hx h w => s.mono _ _ _ _ _ hx (fun r δ1 w => w.imp fun p w => h _ _ w) w, fun Ex F B H vs σ δ P R' hx h w k => ?_⟩⟩
  refine s.run _ _ _ _ _ _ _ _ _ hx h w fun B1 H1 ws rs δ1 s1 h1 q1 w1 => ?_
  obtain ⟨⟨ds, δ2⟩, e1, w1⟩ := w1
  unfold srcR1 at e1
  split at e1
  · cases q1 with
    | cons a1 a2 =>
      cases a2
      obtain ⟨B2, s2, h2, t, a, xs, rfl, q, f⟩ := srcR_ok h1 a1.1 e1
      exact ⟨t, a, xs, rfl, f H1 h2.sb, k B2 H1 _ _ δ2 (s1.trans s2) h2 (it_enumF f q) w1⟩
  · cases e1
end
end DL
set_option Elab.async false
set_option linter.all false
set_option maxRecDepth 100000
set_option maxHeartbeats 1000000
set_option autoImplicit false
namespace DL
open PySem PySem.Spec PyProof.Rows L2
def inT (neg : Bool) (a b : Vw) : Option Rv := match a, b with
  | .d d, .d (.tuple ds) => if SeqAt.shaped d && SeqAt.shaped (.tuple ds) then some (.val (.bool (if neg then !(ds.any fun z => PyData.eqv z d) else ds.any fun z => PyData.eqv z d))) else inN neg (.d d) (.d (.tuple ds))
  | a, b => inN neg a b
theorem os_inT_ {S : Sg} (neg : Bool) : OpS S (compareOp (if neg then .NotIn else .In)) (inT neg) := by
  rintro c hc pins s σ H x y v u Q I rx ry ⟨B, a, b, rv, sB, oa, ob, e, k⟩
  have hu : (S.g.cx c).A.units + 65 < cLine := by have := hc.room.un; show c.A.units + 65 < cLine; omega
  unfold inT at e
  split at e
  · split at e
    · rename_i hs
      cases e
      rw [Bool.and_eq_true] at hs
      obtain ⟨as, r1⟩ := Dp.reads I _ x v (OV.dp sB oa) rx
      obtain ⟨bs, r2⟩ := Dp.reads I _ y u (OV.dp sB ob) ry
      cases neg
      · exact SeqAt.in_tuple_reads r2 r1 (SeqAt.canLay_of_shaped hs.2) (SeqAt.canLay_of_shaped hs.1) (room_in_shaped hs.1 hu) ⟨.bl _, H, I, rfl, k _ (.bl _)⟩
      · exact SeqAt.notIn_tuple_reads r2 r1 (SeqAt.canLay_of_shaped hs.2) (SeqAt.canLay_of_shaped hs.1) (room_in_shaped hs.1 hu) ⟨.bl _, H, I, rfl, k _ (.bl _)⟩
    · exact os_inN_ neg c hc pins s σ H x y v u Q I rx ry ⟨B, _, _, rv, sB, oa, ob, e, k⟩
  · exact os_inN_ neg c hc pins s σ H x y v u Q I rx ry ⟨B, _, _, rv, sB, oa, ob, e, k⟩
theorem os_inT {S : Sg} : OpS S (compareOp .In) (inT false) := os_inT_ false
theorem os_notinT {S : Sg} : OpS S (compareOp .NotIn) (inT true) := os_inT_ true
end DL
set_option Elab.async false
set_option linter.all false
set_option maxRecDepth 100000
set_option maxHeartbeats 1000000
set_option autoImplicit false
namespace DL
open PySem PySem.Spec PyProof.Rows L2 LamX
end DL
set_option Elab.async false
set_option linter.all false
set_option maxRecDepth 100000
set_option maxHeartbeats 1000000
set_option autoImplicit false
namespace DL
open PySem PySem.Spec PyProof.Rows L2
theorem fps_nil : OT.fps [] = [] := by unfold OT.fps; rfl
theorem fps_cons {q : Key × OT} {r : List (Key × OT)} : OT.fps (q :: r) = q.2.fp ++ OT.fps r := by
  obtain ⟨k, t⟩ := q; rw [OT.fps]
theorem fp_d {d : PyData} : (OT.d d).fp = [] := by unfold OT.fp; rfl
theorem fp_n {a : Addr} {b : Bool} {ts : List (Key × OT)} : (OT.n a b ts).fp = a :: OT.fps ts := by rw [OT.fp]
theorem fps_append : ∀ {xs ys : List (Key × OT)}, OT.fps (xs ++ ys) = OT.fps xs ++ OT.fps ys
  | [], _ => by rw [fps_nil]; rfl
  | q :: r, ys => by rw [List.cons_append, fps_cons, fps_cons, fps_append, List.append_assoc]
theorem fps_in : ∀ {ts : List (Key × OT)} {i : Nat} {q : Key × OT} {p : Addr}, ts[i]? = some q → p ∈ q.2.fp → p ∈ OT.fps ts
  | [], _, _, _, e, _ => by simp at e
  | x :: r, 0, _, _, e, f => by simp at e; subst e; rw [fps_cons]; exact List.mem_append_left _ f
  | x :: r, i + 1, _, _, e, f => by rw [fps_cons]; exact List.mem_append_right _ (fps_in (i := i) (by simpa using e) f)
theorem root_in {t : OT} {a : Addr} (e : t.root = some a) : a ∈ t.fp := by
  cases t with
  | d _ => cases e
  | n _ _ _ => cases e; rw [fp_n]; exact List.mem_cons_self ..
def OT.put : OT → List Key → OT → OT
  | _, [], u => u
  | .d x, _ :: _, _ => .d x
  | .n a b ts, k :: p, u => match chN b ts k with
    | some i => match ts[i]? with
      | some q => .n a b (ts.set i (q.1, q.2.put p u))
      | none => .n a b ts
    | none => .n a b ts
theorem at_cons {a : Addr} {b : Bool} {ts : List (Key × OT)} {k : Key} {p : List Key} {u : OT} (e : (OT.n a b ts).at (k :: p) = some u) : ∃ i q, chN b ts k = some i ∧ ts[i]? = some q ∧ q.2.at p = some u := by
  simp only [OT.at] at e
  obtain ⟨i, e1, e⟩ := Option.bind_eq_some_iff.mp e
  obtain ⟨q, e2, e⟩ := Option.bind_eq_some_iff.mp e
  exact ⟨i, q, e1, e2, e⟩
theorem at_nil {t : OT} : t.at [] = some t := by cases t <;> rfl
theorem put_nil {t u : OT} : t.put [] u = u := by cases t <;> rfl
theorem put_cons {a : Addr} {b : Bool} {ts : List (Key × OT)} {k : Key} {p : List Key} {u : OT} {i : Nat} {q : Key × OT} (e1 : chN b ts k = some i) (e2 : ts[i]? = some q) : (OT.n a b ts).put (k :: p) u = .n a b (ts.set i (q.1, q.2.put p u)) := by
  simp only [OT.put, e1, e2]
theorem at_fp : ∀ {p : List Key} {t u : OT} {x : Addr}, t.at p = some u → x ∈ u.fp → x ∈ t.fp
  | [], t, u, x, e, f => by rw [at_nil] at e; cases e; exact f
  | k :: p, .d _, u, x, e, f => by cases e
  | k :: p, .n a b ts, u, x, e, f => by
    obtain ⟨i, q, _, e2, e3⟩ := at_cons e
    rw [fp_n]
    exact List.mem_cons_of_mem _ (fps_in e2 (at_fp e3 f))
theorem root_put {p : List Key} {t t0 u : OT} {a : Addr} (e : t.at p = some t0) (e0 : t0.root = some a) (eu : u.root = some a) : (t.put p u).root = t.root := by
  cases p with
  | nil => rw [at_nil] at e; cases e; rw [put_nil, e0, eu]
  | cons k p =>
    cases t with
    | d _ => cases e
    | n a b ts => obtain ⟨i, q, e1, e2, e3⟩ := at_cons e; rw [put_cons e1 e2]; rfl
theorem fps_set : ∀ {ts : List (Key × OT)} {i : Nat} {q : Key × OT} {x : Addr} {k : Key} {u : OT}, ts[i]? = some q → x ∈ OT.fps (ts.set i (k, u)) → x ∈ OT.fps ts ∨ x ∈ u.fp
  | [], _, _, _, _, _, e, _ => by simp at e
  | y :: r, 0, _, _, _, _, e, f => by
    rw [List.set_cons_zero, fps_cons] at f
    rcases List.mem_append.mp f with f | f
    · exact .inr f
    · exact .inl (by rw [fps_cons]; exact List.mem_append_right _ f)
  | y :: r, i + 1, _, _, _, _, e, f => by
    rw [List.set_cons_succ, fps_cons] at f
    rcases List.mem_append.mp f with f | f
    · exact .inl (by rw [fps_cons]; exact List.mem_append_left _ f)
    · rcases fps_set (i := i) (by simpa using e) f with f | f
      · exact .inl (by rw [fps_cons]; exact List.mem_append_right _ f)
      · exact .inr f
theorem fp_put : ∀ {p : List Key} {t t0 u : OT} {x : Addr}, t.at p = some t0 → x ∈ (t.put p u).fp → x ∈ t.fp ∨ x ∈ u.fp
  | [], t, t0, u, x, e, f => by rw [put_nil] at f; exact .inr f
  | k :: p, .d _, _, u, x, e, f => by cases e
  | k :: p, .n a b ts, _, u, x, e, f => by
    obtain ⟨i, q, e1, e2, e3⟩ := at_cons e
    rw [put_cons e1 e2, fp_n] at f
    rw [fp_n]
    rcases List.mem_cons.mp f with rfl | f
    · exact .inl (List.mem_cons_self ..)
    · rcases fps_set e2 f with f | f
      · exact .inl (List.mem_cons_of_mem _ f)
      · rcases fp_put e3 f with f | f
        · exact .inl (List.mem_cons_of_mem _ (fps_in e2 f))
        · exact .inr f
theorem nodup_set : ∀ {ts : List (Key × OT)} {i : Nat} {q : Key × OT} {k : Key} {u : OT}, ts[i]? = some q → (OT.fps ts).Nodup → u.fp.Nodup → (∀ x, x ∈ u.fp → x ∈ q.2.fp ∨ x ∉ OT.fps ts) → (OT.fps (ts.set i (k, u))).Nodup
  | [], _, _, _, _, e, _, _, _ => by simp at e
  | y :: r, 0, q, _, u, e, n, nu, h => by
    simp at e; subst e
    rw [fps_cons] at n
    obtain ⟨n1, n2, n3⟩ := List.nodup_append.mp n
    rw [List.set_cons_zero, fps_cons]
    refine List.nodup_append.mpr ⟨nu, n2, fun x f y' f' z => ?_⟩
    subst z
    rcases h x f with g | g
    · exact n3 x g x f' rfl
    · exact g (by rw [fps_cons]; exact List.mem_append_right _ f')
  | y :: r, i + 1, q, k, u, e, n, nu, h => by
    have e' : r[i]? = some q := by simpa using e
    rw [fps_cons] at n
    obtain ⟨n1, n2, n3⟩ := List.nodup_append.mp n
    rw [List.set_cons_succ, fps_cons]
    refine List.nodup_append.mpr ⟨n1, nodup_set e' n2 nu fun x f => (h x f).imp id fun g z => g (by rw [fps_cons]; exact List.mem_append_right _ z), fun x f y' f' z => ?_⟩
    subst z
    rcases fps_set e' f' with g | g
    · exact n3 x f x g rfl
    · rcases h x g with g | g
      · exact n3 x f x (fps_in e' g) rfl
      · exact g (by rw [fps_cons]; exact List.mem_append_left _ f)
theorem nodup_at {ts : List (Key × OT)} {i : Nat} {q : Key × OT} (e : ts[i]? = some q) (n : (OT.fps ts).Nodup) : q.2.fp.Nodup := by
  induction ts generalizing i with
  | nil => simp at e
  | cons y r ih =>
    rw [fps_cons] at n
    obtain ⟨n1, n2, _⟩ := List.nodup_append.mp n
    cases i with
    | zero => simp at e; subst e; exact n1
    | succ i => exact ih (i := i) (by simpa using e) n2
theorem nodup_put : ∀ {p : List Key} {t t0 u : OT}, t.at p = some t0 → t.fp.Nodup → u.fp.Nodup → (∀ x, x ∈ u.fp → x ∈ t0.fp ∨ x ∉ t.fp) → (t.put p u).fp.Nodup
  | [], t, t0, u, e, n, nu, h => by rw [put_nil]; exact nu
  | k :: p, .d _, _, u, e, n, nu, h => by cases e
  | k :: p, .n a b ts, t0, u, e, n, nu, h => by
    obtain ⟨i, q, e1, e2, e3⟩ := at_cons e
    rw [put_cons e1 e2, fp_n]
    rw [fp_n] at n
    obtain ⟨na, n⟩ := List.nodup_cons.mp n
    have no : ∀ x, x ∈ u.fp → x ∈ t0.fp ∨ x ∉ OT.fps ts := fun x f => (h x f).imp id fun g z => g (by rw [fp_n]; exact List.mem_cons_of_mem _ z)
    refine List.nodup_cons.mpr ⟨fun z => ?_, nodup_set e2 n (nodup_put e3 (nodup_at e2 n) nu fun x f => (no x f).imp id fun g z => g (fps_in e2 z)) fun x f => ?_⟩
    · rcases fps_set e2 z with z | z
      · exact na z
      · rcases fp_put e3 z with z | z
        · exact na (fps_in e2 z)
        · rcases h a z with z | z
          · exact na (fps_in e2 (at_fp e3 z))
          · exact z (by rw [fp_n]; exact List.mem_cons_self ..)
    · rcases fp_put e3 f with f | f
      · exact .inl f
      · exact (no x f).imp (at_fp e3) id
theorem otks_set {B H H' : Hp} {a' : Addr} (fr : ∀ x, x ≠ a' → H' x = H x) : ∀ {ys : List (Key × V)} {ts : List (Key × OT)} {i : Nat} {q : Key × OT} {u : OT}, OTks B H ys ts → ts[i]? = some q → (OT.fps ts).Nodup → a' ∈ q.2.fp → (∀ v, OTk B H v q.2 → OTk B H' v u) → OTks B H' ys (ts.set i (q.1, u))
  | _, _, _, _, _, .nil, e, _, _, _ => by simp at e
  | _, _, 0, _, _, .cons q r, e, n, f, h => by
    simp at e; subst e
    rw [fps_cons] at n
    obtain ⟨n1, n2, n3⟩ := List.nodup_append.mp n
    exact .cons (h _ q) (r.mono (Same.refl _) fun x g => fr x fun z => by subst z; exact n3 _ f _ g rfl)
  | _, _, i + 1, q', _, .cons q r, e, n, f, h => by
    have e' := by simpa using e
    rw [fps_cons] at n
    obtain ⟨n1, n2, n3⟩ := List.nodup_append.mp n
    exact .cons (q.mono (Same.refl _) fun x g => fr x fun z => by subst z; exact n3 _ g _ (fps_in e' f) rfl) (otks_set fr (i := i) r e' n2 f h)
theorem put_ok {B H H' : Hp} {a' : Addr} {u : OT} (fr : ∀ x, x ≠ a' → H' x = H x) (qu : OTk B H' (.ref a') u) : ∀ {p : List Key} {v : V} {t t0 : OT}, OTk B H v t → t.fp.Nodup → t.at p = some t0 → t0.root = some a' → OTk B H' v (t.put p u)
  | [], v, t, t0, q, n, e, e0 => by rw [at_nil] at e; cases e; rw [put_nil, q.root e0]; exact qu
  | k :: p, v, .d _, t0, q, n, e, e0 => by cases e
  | k :: p, _, .n a b ts, t0, .n h q, n, e, e0 => by
    obtain ⟨i, x, e1, e2, e3⟩ := at_cons e
    rw [put_cons e1 e2]
    rw [fp_n] at n
    obtain ⟨na, n⟩ := List.nodup_cons.mp n
    have f := at_fp e3 (root_in e0)
    exact .n (by rw [fr a fun z => by subst z; exact na (fps_in e2 f)]; exact h) (otks_set fr q e2 n f fun v qv => put_ok fr qu qv (nodup_at e2 n) e3 e0)
end DL
set_option Elab.async false
set_option linter.all false
set_option maxRecDepth 100000
set_option maxHeartbeats 1000000
set_option autoImplicit false
namespace DL
open PySem PySem.Spec PyProof.Rows L2
def nodeOf (δ : SEnv) : R → Option (Nat × List Key × OT)
  | .o i => match δ[i]? with
    | some (some (.o _ (.ot t))) => some (i, [], t)
    | some (some (.o _ (.al a j p))) => (alAt δ a j p).map fun u => (j, p, u)
    | _ => none
  | .n (.al a j p) => (alAt δ a j p).map fun u => (j, p, u)
  | _ => none
def holdR : R → Option R
  | .n (.al a i p) => some (.n (.al a i p))
  | r => settle r
def stepN (b : Bool) (ts : List (Key × OT)) (k : Key) : Option (Key × Nat) := if b = true then (ts.findIdx? fun q => decide (q.1 = k)).map fun i => (k, i) else match k with
  | .inl i => (ixN ts.length i).map fun (j : Nat) => (Sum.inl (Int.ofNat j), j)
  | .inr _ => none
def childR (u : OT) (j : Nat) (p : List Key) (k : Key) : Option R := match u with
  | .n _ b ts => (stepN b ts k).bind fun s => (ts[s.2]?).map fun q => match q.2 with
    | .d x => R.d x
    | .n a _ _ => R.n (.al a j (p ++ [s.1]))
  | .d _ => none
section
variable {K : PySem.W.Frag} {F B H : Hp} {vs : List V} {σ : L2.St} {δ : SEnv} {v : V} {r : R}
theorem rep_al {a : Addr} {i : Nat} {p : List Key} : RepR K F B H σ δ (.ref a) (.n (.al a i p)) := ⟨a, rfl, fun _ f => f.elim, rfl, fun _ _ _ _ _ _ _ _ f => f.elim⟩
theorem holdR_ok {r' : R} (h : Rep K F B H vs σ δ) (q : RepR K F B H σ δ v r) (e : holdR r = some r') : ∃ B', Same B B' ∧ Rep K F B' H vs σ δ ∧ ∀ F2 B2 H2 δ2, Same B' B2 → RepR K F2 B2 H2 σ δ2 v r' := by
  have gen : settle r = some r' → ∃ B', Same B B' ∧ Rep K F B' H vs σ δ ∧ ∀ F2 B2 H2 δ2, Same B' B2 → RepR K F2 B2 H2 σ δ2 v r' := fun e => by
    obtain ⟨B', s, h', q', n⟩ := settle_ok h q e
    refine ⟨B', s, h', fun F2 B2 H2 δ2 s2 => ?_⟩
    cases r' with
    | d _ => exact DD.mono s2 q'
    | w _ => exact q'
    | o _ => exact q'
    | n c => exact absurd rfl (n c)
  cases r with
  | n c =>
    cases c with
    | al a i p =>
      cases e
      obtain ⟨a', rfl, _, ea, _⟩ := q
      cases (show a' = a from ea)
      exact ⟨B, Same.refl _, h, fun _ _ _ _ _ => rep_al⟩
    | _ => exact gen e
  | _ => exact gen e
theorem nodeOf_ok {j : Nat} {p : List Key} {u : OT} (h : Rep K F B H vs σ δ) (q : RepR K F B H σ δ v r) (e : nodeOf δ r = some (j, p, u)) : ∃ b t a0 a, δ[j]? = some (some (.o b (.ot t))) ∧ σ[j]? = some (some (.ref a0)) ∧ t.at p = some u ∧ v = .ref a ∧ u.root = some a ∧ OTk B H (.ref a) u := by
  have al : ∀ {a : Addr} {j' : Nat} {p' : List Key}, v = .ref a → (alAt δ a j' p').map (fun u => (j', p', u)) = some (j, p, u) → ∃ b t a0 a, δ[j]? = some (some (.o b (.ot t))) ∧ σ[j]? = some (some (.ref a0)) ∧ t.at p = some u ∧ v = .ref a ∧ u.root = some a ∧ OTk B H (.ref a) u := by
    intro a j' p' ev e
    obtain ⟨u', e1, e⟩ := Option.map_eq_some_iff.mp e
    cases e
    obtain ⟨b, t, e2, e3, e4⟩ := alAt_some e1
    obtain ⟨v', e5, a0, rfl, _⟩ := h.ok _ _ e2
    exact ⟨b, t, a0, a, e2, e5, e3, ev, e4, alAt_ok h e1⟩
  cases r with
  | o i =>
    have ev : σ[i]? = some (some v) := q
    simp only [nodeOf] at e
    split at e
    · rename_i b t ed
      cases e
      obtain ⟨v', e5, a0, rfl, _, q2, _, e6⟩ := h.ok _ _ ed
      rw [ev] at e5; cases e5
      exact ⟨b, _, a0, a0, ed, ev, at_nil, rfl, e6, q2⟩
    · rename_i b a j' p' ed
      obtain ⟨v', e5, a0, rfl, _, q2⟩ := h.ok _ _ ed
      rw [ev] at e5; cases e5
      cases (show a0 = a from q2)
      exact al rfl e
    · cases e
  | n c =>
    cases c with
    | al a j' p' =>
      obtain ⟨a', rfl, _, ea, _⟩ := q
      cases (show a' = a from ea)
      exact al rfl e
    | _ => cases e
  | _ => cases e
end
def rIxO : R2 := fun x y H Q => ∃ a, x = .ref a ∧ ((∃ ys k v, H a = some (.dK ys) ∧ y = kV k ∧ valV ys k = some v ∧ Q v H) ∨ ∃ xs i v, H a = some (.lst xs) ∧ y = .int i ∧ atI xs i = some v ∧ Q v H)
theorem val_find {B H : Hp} {k : Key} : ∀ {ys : List (Key × V)} {ts : List (Key × OT)} {i : Nat} {q : Key × OT}, OTks B H ys ts → ts.findIdx? (fun q => decide (q.1 = k)) = some i → ts[i]? = some q → ∃ v, valV ys k = some v ∧ OTk B H v q.2
  | _, _, _, _, .nil, e, _ => by simp at e
  | _, _, i, q, .cons (k := k0) (ys := ys) (ts := ts) z r, e, e2 => by
    rw [List.findIdx?_cons] at e
    by_cases hk : k0 = k
    · rw [if_pos (decide_eq_true hk)] at e
      cases e
      simp at e2; subst e2
      exact ⟨_, valV_pos hk, z⟩
    · rw [if_neg (by simpa using hk)] at e
      obtain ⟨i', e3, e⟩ := Option.map_eq_some_iff.mp e
      subst e
      obtain ⟨v, e4, q4⟩ := val_find r e3 (by simpa using e2)
      exact ⟨v, by rw [valV_neg hk]; exact e4, q4⟩
def wIxO (wa wb : WE) : WE := fun Ex δ P => wa Ex δ fun ra δ1 => ob (holdR ra) fun ra' => wb Ex δ1 fun rb δ2 => ob (view δ2 rb) fun b => ob (keyV b) fun k => ob (nodeOf δ2 ra') fun q => ob (childR q.2.2 q.1 q.2.1 k) fun r => P r δ2
section
variable {S : Sg}
theorem ix_O {c : Cl} (hc : S.ok c) : IxR (S.g.cx c) rIxO := by
  intro value slice pins s σ H x y v u Q I rx ry h hs
  obtain ⟨a, rfl, h⟩ := h
  rcases h with ⟨ys, k, z, hy, rfl, e, q⟩ | ⟨xs, i, z, hx, rfl, e, q⟩
  · have g : DGet H a (kV k) (some z) := by rw [← e]; exact DGet.k hy
    cases rx
    exact tail_any (dict_typeIs I g) F.slot_dict_getitem.lookup (d_getItem (hu_of hc.room) I g ry fun w' s3 I3 rw' => ⟨z, H, I3, rw', q⟩) hs
  · exact ix_list value slice pins s σ H _ _ v u Q I rx ry ⟨a, xs, i, z, rfl, rfl, SqL.of hx, e, q⟩ hs
theorem de_ixO {a b : Expr} {wa wb : WE} {pos : Pos} (ha : DE S a wa) (hb : DE S b wb) (hs : PlainIx b := by intro _ _; rfl) : DE S (.Subscript a b pos) (wIxO wa wb) := by
  obtain ⟨ta, pa, sa⟩ := ha
  obtain ⟨tb, pb, sb⟩ := hb
  refine ⟨_, fun c hc => pe_ix (ix_O hc) (pa c hc) (pb c hc) hs, ⟨fun Ex Ex' δ P P' hx h w => ?_, fun Ex F B H vs σ δ P Q hx h w k => ?_⟩⟩
  · refine sa.mono _ _ _ _ _ hx (fun r δ1 w => w.imp fun r' w => ?_) w
    exact sb.mono _ _ _ _ _ hx (fun r δ2 w => w.imp fun a w => w.imp fun k w => w.imp fun q w => w.imp fun r w => h _ _ w) w
  · refine sa.run _ _ _ _ _ _ _ _ _ hx h w fun B1 H1 x ra δ1 s1 h1 q1 w1 => ?_
    obtain ⟨ra', e1, w1⟩ := w1
    obtain ⟨B2, s2, h2, pass⟩ := holdR_ok h1 q1 e1
    refine sb.run _ _ _ _ _ _ _ _ _ (hx.up (s1.trans s2)) h2 w1 fun B3 H3 y rb δ2 s3 h3 q3 w3 => ?_
    obtain ⟨vk, e2, kk, e4, ⟨j, p, u⟩, e5, r, e6, w3⟩ := w3
    have ey := key_ov (view_ok h3 q3 e2) e4
    subst ey
    obtain ⟨b0, t, a0, a1, d1, d2, d3, rfl, d5, d6⟩ := nodeOf_ok h3 (pass F B3 H3 δ2 s3) e5
    have s123 := (s1.trans s2).trans s3
    cases u with
    | d _ => cases e6
    | n a2 bb ts =>
      cases d5
      simp only [childR] at e6
      obtain ⟨⟨k2, i⟩, e7, e6⟩ := Option.bind_eq_some_iff.mp e6
      obtain ⟨⟨k3, c⟩, e8, e6⟩ := Option.map_eq_some_iff.mp e6
      cases d6 with
      | @n _ _ ys _ hy qy =>
        have fin : ∀ v, OTk B3 H3 v c → Q v H3 := fun v qv => by
          cases c with
          | d x => cases e6; cases qv with | d qv => exact k B3 H3 v (.d x) δ2 s123 h3 qv w3
          | n a3 b3 ts3 => cases e6; cases qv with | n _ _ => exact k B3 H3 _ _ δ2 s123 h3 rep_al w3
        refine ⟨a1, rfl, ?_⟩
        cases bb with
        | true =>
          obtain ⟨i', e9, e7⟩ := Option.map_eq_some_iff.mp e7
          cases e7
          obtain ⟨v, e10, qv⟩ := val_find qy e9 e8
          exact .inl ⟨ys, kk, v, hy, rfl, e10, fin v qv⟩
        | false =>
          cases kk with
          | inr _ => cases e7
          | inl i0 =>
            obtain ⟨j', e9, e7⟩ := Option.map_eq_some_iff.mp (show (ixN ts.length i0).map (fun (j : Nat) => ((Sum.inl (Int.ofNat j) : Key), j)) = _ from e7)
            cases e7
            obtain ⟨v, e10, qv⟩ := qy.at e8
            refine .inr ⟨ys.map (fun x => x.2), i0, v, (show H3 a1 = some (.lst (ys.map fun x => x.2)) from hy), rfl, ?_, fin v qv⟩
            unfold atI
            rw [List.length_map, qy.len, e9]
            show (ys.map fun x => x.2)[_]? = _
            rw [List.getElem?_map, e10]; rfl
end
end DL
set_option Elab.async false
set_option linter.all false
set_option maxRecDepth 100000
set_option maxHeartbeats 1000000
set_option autoImplicit false
namespace DL
open PySem PySem.Spec PyProof.Rows L2
/-- a thing as a part -/
def childOf : R → Addr → Option OT
  | .d x, _ => some (.d x)
  | .w x, _ => if scalar x then some (.d x) else none
  | .n (.k kvs), a => some (.n a true (kvs.map fun q => (q.1, OT.d q.2)))
  | .n (.l ds), a => some (.n a false (ds.map fun x => ((.inl 0 : Key), OT.d x)))
  | .n (.ot t), _ => some t
  | _, _ => none
theorem otks_kds {B H : Hp} {ys : List (Key × V)} {kvs : List (Key × PyData)} (h : KDs B ys kvs) : OTks B H ys (kvs.map fun q => (q.1, OT.d q.2)) := by
  induction h with
  | nil => exact .nil
  | @cons p q _ _ z _ ih =>
    obtain ⟨k, v⟩ := p
    obtain ⟨e, z⟩ := z
    cases e
    exact .cons (.d z) ih
theorem otks_dds {B H : Hp} : ∀ {xs : List V} {ds : List PyData}, DDs B xs ds → OTks B H (xs.map fun v => ((.inl 0 : Key), v)) (ds.map fun x => ((.inl 0 : Key), OT.d x))
  | _, _, .nil => .nil
  | _, _, .cons q r => .cons (.d q) (otks_dds r)
theorem fps_dat {α : Type} {f : α → Key} {g : α → PyData} : ∀ {xs : List α}, OT.fps (xs.map fun x => (f x, OT.d (g x))) = []
  | [] => fps_nil
  | x :: r => by rw [List.map_cons, fps_cons, fp_d, fps_dat]; rfl
theorem childOf_ok {K : PySem.W.Frag} {F B H : Hp} {σ : L2.St} {δ : SEnv} {v : V} {r : R} (q : RepR K F B H σ δ v r) : ∃ a, ∀ u, childOf r a = some u → OTk B H v u ∧ u.fp.Nodup ∧ ∀ p, p ∈ u.fp → rfoot H v r p := by
  cases r with
  | d x => exact ⟨0, fun u e => by cases e; exact ⟨.d q, by rw [fp_d]; exact List.nodup_nil, fun p f => by rw [fp_d] at f; cases f⟩⟩
  | w x =>
    refine ⟨0, fun u e => ?_⟩
    simp only [childOf] at e
    split at e
    · cases e; exact ⟨.d (DW.scal q (by assumption)), by rw [fp_d]; exact List.nodup_nil, fun p f => by rw [fp_d] at f; cases f⟩
    · cases e
  | o i => exact ⟨0, fun u e => by cases e⟩
  | n c =>
    obtain ⟨a, rfl, _, qc, _⟩ := q
    refine ⟨a, fun u e => ?_⟩
    cases c with
    | k kvs =>
      cases e
      obtain ⟨ys, hy, qy⟩ := qc
      refine ⟨.n (b := true) hy (otks_kds qy), ?_, fun p f => ?_⟩
      · rw [fp_n, fps_dat]; exact List.nodup_cons.mpr ⟨(fun z => by cases z), List.nodup_nil⟩
      · rw [fp_n, fps_dat] at f
        rcases List.mem_cons.mp f with rfl | f
        · exact ⟨_, rfl, rfl⟩
        · cases f
    | l ds =>
      cases e
      obtain ⟨xs, hx, qx⟩ := qc
      refine ⟨.n (b := false) (ys := xs.map fun v => ((.inl 0 : Key), v)) ?_ (otks_dds qx), ?_, fun p f => ?_⟩
      · show H a = some (.lst _)
        rw [hx, List.map_map]
        have : xs.map ((fun (x : Key × V) => x.2) ∘ fun v => ((.inl 0 : Key), v)) = xs := by
          rw [show ((fun (x : Key × V) => x.2) ∘ fun v => ((.inl 0 : Key), v)) = id from rfl, List.map_id]
        rw [this]
      · rw [fp_n, fps_dat]; exact List.nodup_cons.mpr ⟨(fun z => by cases z), List.nodup_nil⟩
      · rw [fp_n, fps_dat] at f
        rcases List.mem_cons.mp f with rfl | f
        · exact ⟨_, rfl, rfl⟩
        · cases f
    | ot t => cases e; exact ⟨qc.1, qc.2.1, fun p f => ⟨a, rfl, .inr f⟩⟩
    | _ => cases e
def putN : OT → Key → OT → Option OT
  | .n a true ts, k, u => if ts.length < sizeLine then (if (ts.any fun q => decide (q.1 = k)) = true then u.dat.map fun _ => .n a true (ts.map fun q => if q.1 = k then (q.1, u) else q) else some (.n a true (ts ++ [(k, u)]))) else none
  | .n a false ts, .inl i, u => (ixN ts.length i).bind fun j => (ts[j]?).map fun q => .n a false (ts.set j (q.1, u))
  | _, _, _ => none
theorem otks_any {B H : Hp} {k : Key} : ∀ {ys : List (Key × V)} {ts : List (Key × OT)}, OTks B H ys ts → (ys.any fun q => decide (q.1 = k)) = ts.any fun q => decide (q.1 = k)
  | _, _, .nil => rfl
  | _, _, .cons _ r => by rw [List.any_cons, List.any_cons, otks_any r]
theorem otks_map {B H : Hp} {k : Key} {v : V} {u : OT} (q : OTk B H v u) : ∀ {ys : List (Key × V)} {ts : List (Key × OT)}, OTks B H ys ts → OTks B H (ys.map fun kv => if kv.1 = k then (kv.1, v) else kv) (ts.map fun q => if q.1 = k then (q.1, u) else q)
  | _, _, .nil => .nil
  | _, _, .cons (k := k0) z r => by
    rw [List.map_cons, List.map_cons]
    by_cases hk : k0 = k
    · rw [if_pos hk, if_pos hk]; exact .cons q (otks_map q r)
    · rw [if_neg hk, if_neg hk]; exact .cons z (otks_map q r)
theorem otks_app {B H : Hp} {k : Key} {v : V} {u : OT} (q : OTk B H v u) : ∀ {ys : List (Key × V)} {ts : List (Key × OT)}, OTks B H ys ts → OTks B H (ys ++ [(k, v)]) (ts ++ [(k, u)])
  | _, _, .nil => .cons q .nil
  | _, _, .cons z r => .cons z (otks_app q r)
theorem otks_set1 {B H : Hp} {k : Key} {v : V} {u : OT} (q : OTk B H v u) : ∀ {ys : List (Key × V)} {ts : List (Key × OT)} (j : Nat), OTks B H ys ts → OTks B H (ys.set j (k, v)) (ts.set j (k, u))
  | _, _, _, .nil => .nil
  | _, _, 0, .cons _ r => .cons q r
  | _, _, j + 1, .cons z r => .cons z (otks_set1 q j r)
theorem fps_map {k : Key} {u : OT} (hu : u.fp = []) : ∀ {ts : List (Key × OT)}, (OT.fps (ts.map fun q => if q.1 = k then (q.1, u) else q)).Sublist (OT.fps ts)
  | [] => by rw [List.map_nil]; exact List.Sublist.refl _
  | q :: r => by
    rw [List.map_cons, fps_cons, fps_cons]
    refine List.Sublist.append ?_ (fps_map hu)
    by_cases hk : q.1 = k
    · rw [if_pos hk]; show u.fp.Sublist _; rw [hu]; exact List.nil_sublist _
    · rw [if_neg hk]; exact List.Sublist.refl _
theorem dat_fp {u : OT} {d : PyData} (e : u.dat = some d) : u.fp = [] := by
  cases u with
  | d _ => exact fp_d
  | n _ _ _ => cases e
theorem putN_ok {B H : Hp} {a : Addr} {t u u' : OT} {v : V} {k : Key} {Q : Hp → Prop} (qt : OTk B H (.ref a) t) (nt : t.fp.Nodup) (qu : OTk B H v u) (nu : u.fp.Nodup) (ap : ∀ p, p ∈ u.fp → p ∉ t.fp) (e : putN t k u = some u')
    (h : ∀ o, t.root = some a → u'.root = some a → OTk B (upd H a o) (.ref a) u' → u'.fp.Nodup → (∀ p, p ∈ u'.fp → p ∈ t.fp ∨ p ∈ u.fp) → Q (upd H a o)) : rPut (.ref a) (kV k) v H Q := by
  cases t with
  | d _ => cases e
  | n a' b ts =>
    cases qt with
    | @n _ _ ys _ hy qy =>
      rw [fp_n] at nt
      obtain ⟨na, nts⟩ := List.nodup_cons.mp nt
      have nau : a ∉ u.fp := fun z => ap _ z (by rw [fp_n]; exact List.mem_cons_self ..)
      have apu : ∀ p, p ∈ u.fp → p ∉ OT.fps ts := fun p f z => ap p f (by rw [fp_n]; exact List.mem_cons_of_mem _ z)
      cases b with
      | true =>
        simp only [putN] at e
        split at e
        · rename_i hl
          have hy : H a = some (.dK ys) := hy
          refine .inr ⟨a, _, rfl, DPut.k hy (by rw [qy.len]; exact hl), ?_⟩
          have qy1 : ∀ o, OTks B (upd H a o) ys ts := fun o => qy.mono (Same.refl _) fun p f => upd_ne fun z => by subst z; exact na f
          have qu1 : ∀ o, OTk B (upd H a o) v u := fun o => qu.mono (Same.refl _) fun p f => upd_ne fun z => by subst z; exact nau f
          unfold putK
          rw [otks_any qy]
          split at e
          · rename_i hany
            obtain ⟨d, ed, e⟩ := Option.map_eq_some_iff.mp e
            cases e
            have hf := dat_fp ed
            rw [if_pos hany]
            have sub := fps_map (k := k) hf (ts := ts)
            refine h _ rfl rfl (.n (b := true) upd_same (otks_map (qu1 _) (qy1 _))) ?_ fun p f => ?_
            · rw [fp_n]; exact List.nodup_cons.mpr ⟨fun z => na (sub.subset z), nts.sublist sub⟩
            · rw [fp_n] at f ⊢
              rcases List.mem_cons.mp f with rfl | f
              · exact .inl (List.mem_cons_self ..)
              · exact .inl (List.mem_cons_of_mem _ (sub.subset f))
          · rename_i hany
            cases e
            rw [if_neg hany]
            have ef : OT.fps (ts ++ [(k, u)]) = OT.fps ts ++ u.fp := by rw [fps_append, fps_cons, fps_nil, List.append_nil]
            refine h _ rfl rfl (.n (b := true) upd_same (otks_app (qu1 _) (qy1 _))) ?_ fun p f => ?_
            · rw [fp_n, ef]
              refine List.nodup_cons.mpr ⟨fun z => ?_, List.nodup_append.mpr ⟨nts, nu, fun x f y f' z => ?_⟩⟩
              · rcases List.mem_append.mp z with z | z
                · exact na z
                · exact nau z
              · subst z; exact apu x f' f
            · rw [fp_n, ef] at f
              rw [fp_n]
              rcases List.mem_cons.mp f with rfl | f
              · exact .inl (List.mem_cons_self ..)
              · rcases List.mem_append.mp f with f | f
                · exact .inl (List.mem_cons_of_mem _ f)
                · exact .inr f
        · cases e
      | false =>
        cases k with
        | inr _ => cases e
        | inl i =>
          simp only [putN] at e
          obtain ⟨j, e1, e⟩ := Option.bind_eq_some_iff.mp e
          obtain ⟨q, e2, e⟩ := Option.map_eq_some_iff.mp e
          cases e
          have hy : H a = some (.lst (ys.map fun x => x.2)) := hy
          refine .inl ⟨a, ys.map fun x => x.2, i, j, rfl, rfl, hy, by rw [List.length_map, qy.len]; exact e1, ?_⟩
          have es : (ys.map fun x => x.2).set j v = (ys.set j (q.1, v)).map fun x => x.2 := by rw [List.map_set]
          rw [es]
          have qy1 : ∀ o, OTks B (upd H a o) ys ts := fun o => qy.mono (Same.refl _) fun p f => upd_ne fun z => by subst z; exact na f
          have qu1 : ∀ o, OTk B (upd H a o) v u := fun o => qu.mono (Same.refl _) fun p f => upd_ne fun z => by subst z; exact nau f
          refine h _ rfl rfl (.n (b := false) upd_same (otks_set1 (qu1 _) j (qy1 _))) ?_ fun p f => ?_
          · rw [fp_n]
            refine List.nodup_cons.mpr ⟨fun z => ?_, nodup_set e2 nts nu fun x f => .inr (apu x f)⟩
            rcases fps_set e2 z with z | z
            · exact na z
            · exact nau z
          · rw [fp_n] at f ⊢
            rcases List.mem_cons.mp f with rfl | f
            · exact .inl (List.mem_cons_self ..)
            · rcases fps_set e2 f with f | f
              · exact .inl (List.mem_cons_of_mem _ f)
              · exact .inr f
end DL
set_option Elab.async false
set_option linter.all false
set_option maxRecDepth 100000
set_option maxHeartbeats 1000000
set_option autoImplicit false
namespace DL
open PySem PySem.Spec PyProof.Rows L2
theorem nodup_atp : ∀ {p : List Key} {t u : OT}, t.at p = some u → t.fp.Nodup → u.fp.Nodup
  | [], t, u, e, n => by rw [at_nil] at e; cases e; exact n
  | k :: p, .d _, u, e, n => by cases e
  | k :: p, .n a b ts, u, e, n => by
    obtain ⟨i, q, _, e2, e3⟩ := at_cons e
    rw [fp_n] at n
    exact nodup_atp e3 (nodup_at e2 (List.nodup_cons.mp n).2)
abbrev WTG := XP → SEnv → R → (SEnv → Prop) → Prop
structure TgSim (K : PySem.W.Frag) (E : XK) (g : TG) (W : WTG) : Prop where
  mono : ∀ (Ex Ex' : XP) (δ : SEnv) (r : R) (P P' : SEnv → Prop), (∀ e, Ex e → Ex' e) → (∀ δ', P δ' → P' δ') → W Ex δ r P → W Ex' δ r P'
  run : ∀ (Ex : XP) (F B H : Hp) (vs : List V) (σ : L2.St) (δ : SEnv) (v : V) (r : R) (P : SEnv → Prop) (Q : L2.St → Hp → Prop), XOk F B E Ex → Rep K F B H vs σ δ → RepR K F B H σ δ v r → (∀ i, r ≠ .o i) → W Ex δ r P →
    (∀ B' σ' H' δ', Same B B' → Rep K F B' H' vs σ' δ' → P δ' → Q σ' H') → g v σ H Q
def DTg (S : Sg) (tg : Expr) (W : WTG) : Prop := ∃ g, (∀ c, S.ok c → PG (S.g.cx c) tg g) ∧ TgSim S.g.K S.E g W
def ownT (δ : SEnv) (i : Nat) : Option (Bool × OT) := match δ[i]? with
  | some (some (.o b (.ot t))) => some (b, t)
  | _ => none
def putR (δ : SEnv) (rx : R) (k : Key) (r : R) (nx : SEnv → Prop) : Prop := ob (nodeOf δ rx) fun q => ∀ a, ob (childOf r a) fun u => ob (putN q.2.2 k u) fun u' => ob (ownT δ q.1) fun bt => nx (δ.set q.1 (some (.o bt.1 (.ot (bt.2.put q.2.1 u')))))
def slotOf : R → Option Nat
  | .o i => some i
  | _ => none
def datR : R → Option PyData
  | .d x => some x
  | .w x => if scalar x then some x else none
  | _ => none
def putS (δ : SEnv) (rx : R) (dk : PyData) (r : R) (nx : SEnv → Prop) : Prop := ob (slotOf rx) fun i => ob (ownC δ i) fun q => ob (datR r) fun x => ob (putF q.2 dk x) fun c' => nx (δ.set i (some (.o q.1 c')))
def wTgS (wx wi : WE) : WTG := fun Ex δ r P => wx Ex δ fun rx δ2 => ob (holdR rx) fun rx' => wi Ex δ2 fun ri δ3 => ob (view δ3 ri) fun vk => ob (dV vk) fun dk => putS δ3 rx' dk r P ∨ ob (keyD dk) fun k => putR δ3 rx' k r P
theorem putR_imp {δ : SEnv} {rx : R} {k : Key} {r : R} {P P' : SEnv → Prop} (h : ∀ δ', P δ' → P' δ') (w : putR δ rx k r P) : putR δ rx k r P' := w.imp fun q w a => (w a).imp fun u w => w.imp fun u' w => w.imp fun bt w => h _ w
theorem putS_imp {δ : SEnv} {rx : R} {k : PyData} {r : R} {P P' : SEnv → Prop} (h : ∀ δ', P δ' → P' δ') (w : putS δ rx k r P) : putS δ rx k r P' := w.imp fun i w => w.imp fun q w => w.imp fun x w => w.imp fun c w => h _ w
section
variable {K : PySem.W.Frag} {F B H : Hp} {vs : List V} {σ : L2.St} {δ : SEnv} {v x : V} {r rx : R}
theorem datR_ok {d : PyData} (q : RepR K F B H σ δ v r) (e : datR r = some d) : DD B v d := by
  cases r with
  | d _ => cases e; exact q
  | w _ =>
    simp only [datR] at e
    split at e
    · cases e; exact DW.scal q (by assumption)
    · cases e
  | _ => cases e
theorem ownT_at {i : Nat} {b : Bool} {t : OT} (e : ownT δ i = some (b, t)) : δ[i]? = some (some (.o b (.ot t))) := by
  unfold ownT at e
  split at e
  · cases e; assumption
  · cases e
theorem putR_run {k : Key} {P : SEnv → Prop} {Q : Hp → Prop} (h : Rep K F B H vs σ δ) (qx : RepR K F B H σ δ x rx) (q : RepR K F B H σ δ v r) (w : putR δ rx k r P) (fin : ∀ H' δ', Rep K F B H' vs σ δ' → P δ' → Q H') : rPut x (kV k) v H Q := by
  obtain ⟨⟨j, p, t0⟩, e1, w⟩ := w
  obtain ⟨b, t, a0, a, d1, d2, d3, rfl, d5, d6⟩ := nodeOf_ok h qx e1
  obtain ⟨a1, sp⟩ := childOf_ok q
  obtain ⟨u, e2, u', e3, ⟨b', t'⟩, e4, w⟩ := w a1
  have e5 := ownT_at e4
  rw [show δ[(j, p, t0).1]? = δ[j]? from rfl, d1] at e5
  cases e5
  obtain ⟨qu, nu, fu⟩ := sp u e2
  obtain ⟨hBF, qt, nt, et⟩ := h.own_up d1 d2
  have off : ∀ y, y ∈ u.fp → y ∉ t.fp := fun y f g => rfoot_off q j b _ a0 y d1 d2 (.inr g) (fu y f)
  refine putN_ok d6 (nodup_atp d3 nt) qu nu (fun y f g => off y f (at_fp d3 g)) e3 fun o r0 r1 q' n' f' => ?_
  refine fin _ _ (h.mutIn (c' := .ot (t.put p u')) d1 d2 (.inr (at_fp d3 (root_in d5))) ⟨put_ok (fun y ny => upd_ne ny) q' qt nt d3 d5, nodup_put d3 nt n' fun y f => (f' y f).imp id fun f => off y f, by rw [root_put d3 d5 r1]; exact et⟩ fun y f => ?_) w
  rcases f with f | f
  · exact .inl (.inl f)
  · rcases fp_put d3 f with f | f
    · exact .inl (.inr f)
    · rcases f' y f with f | f
      · exact .inl (.inr (at_fp d3 f))
      · have z := rfoot_ok q (fu y f)
        exact .inr ⟨z.1, z.2.1, fun i b c a y' e ea f2 f3 => by subst f3; exact rfoot_off q i b c a y' e ea f2 (fu y' f)⟩
theorem putS_run {dk : PyData} {vk : V} {P : SEnv → Prop} {Q : Hp → Prop} (h : Rep K F B H vs σ δ) (qx : RepR K F B H σ δ x rx) (q : RepR K F B H σ δ v r) (ov : OV K B H vk (.d dk)) (w : putS δ rx dk r P) (fin : ∀ H' δ', Rep K F B H' vs σ δ' → P δ' → Q H') : rPut x vk v H Q := by
  obtain ⟨i, e0, ⟨b, c⟩, e4, d, e1, c', e5, w3⟩ := w
  cases rx with
  | o i' =>
    cases e0
    have eo : σ[i]? = some (some x) := qx
    have a4 := ownC_at e4
    obtain ⟨p0, rfl, hBF, qc⟩ := own_at h a4 eo
    have q2 := datR_ok q e1
    cases c with
    | ot _ => simp only [putF] at e5; cases e5
    | al _ _ _ => simp only [putF] at e5; cases e5
    | tp _ => simp only [putF] at e5; cases e5
    | pt _ => simp only [putF] at e5; cases e5
    | fk _ _ => simp only [putF] at e5; cases e5
    | l ds =>
      obtain ⟨ys, hy, qy⟩ := qc
      simp only [putF] at e5
      split at e5
      · obtain ⟨j, e6, e5⟩ := Option.map_eq_some_iff.mp e5
        subst e5
        cases ov_int ov
        exact .inl ⟨p0, ys, _, j, rfl, rfl, hy, by rw [qy.length]; exact e6, fin _ _ (h.mutate (c' := .l _) a4 eo ⟨_, upd_same, DDs.set q2 j qy⟩) w3⟩
      · cases e5
    | k kvs =>
      obtain ⟨ys, hy, qy⟩ := qc
      simp only [putF] at e5
      split at e5
      · rename_i hl
        obtain ⟨kk, e6, e5⟩ := Option.map_eq_some_iff.mp e5
        subst e5
        have ey : vk = kV kk := by
          rcases ov with ov | ⟨_, _, _, _, z, _⟩
          · exact key_dd e6 ov
          · subst z; cases e6
        subst ey
        exact .inr ⟨p0, _, rfl, DPut.k hy (by rw [kds_length qy]; exact hl), fin _ _ (h.mutate (c' := .k _) a4 eo ⟨_, upd_same, kds_put qy q2⟩) w3⟩
      · cases e5
    | t kvs => cases e5
  | _ => cases e0
end
section
variable {S : Sg}
theorem dtg_sub {o ie : Expr} {wx wi : WE} {pos : Pos} (ho : DE S o wx) (hi : DE S ie wi)
    (ha : ∀ c, S.ok c → ∀ t ti, PE (S.g.cx c) o t → PE (S.g.cx c) ie ti → PG (S.g.cx c) (.Subscript o ie pos) (gSub t ti rPut) := by exact fun c hc t ti h1 h2 => pg_sub h1 h2 (set_all (hu_of hc.room))) : DTg S (.Subscript o ie pos) (wTgS wx wi) := by
  obtain ⟨tx, px, sx⟩ := ho
  obtain ⟨ti, pi, si⟩ := hi
  refine ⟨_, fun c hc => ha c hc _ _ (px c hc) (pi c hc), ⟨fun Ex Ex' δ r P P' hx h w => ?_, fun Ex F B H vs σ δ v r P Q hx h q no w k => ?_⟩⟩
  · refine sx.mono _ _ _ _ _ hx (fun rx δ1 w => w.imp fun rx' w => ?_) w
    exact si.mono _ _ _ _ _ hx (fun ri δ2 w => w.imp fun a w => w.imp fun dk w => w.imp (putS_imp h) fun w => w.imp fun k w => putR_imp h w) w
  · refine sx.run _ _ _ _ _ _ _ _ _ (hold_xok q hx) (h.hold q) w fun B1 H1 x rx δ1 s1 h1 q1 w1 => ?_
    obtain ⟨rx', e1, w1⟩ := w1
    obtain ⟨B2, s2, h2, pass⟩ := holdR_ok h1 q1 e1
    refine si.run _ _ _ _ _ _ _ _ _ ((hold_xok q hx).up (s1.trans s2)) h2 w1 fun B3 H3 y ri δ3 s3 h3 q3 w3 => ?_
    obtain ⟨a, e2, dk, e3, w3⟩ := w3
    have s123 := (s1.trans s2).trans s3
    have ov := view_ok h3 q3 e2
    obtain ⟨h4, q4, _⟩ := held q no s123 h3
    have qx := pass F B3 H3 δ3 s3
    cases a with
    | d dk' =>
      cases e3
      rcases w3 with w3 | ⟨kk, e4, w3⟩
      · exact putS_run h4 qx q4 ov w3 fun H' δ' h' w => k B3 σ H' δ' s123 h' w
      · have ey : y = kV kk := by
          rcases ov with ov | ⟨_, _, _, _, z, _⟩
          · exact key_dd e4 ov
          · subst z; cases e4
        subst ey
        exact putR_run h4 qx q4 w3 fun H' δ' h' w => k B3 σ H' δ' s123 h' w
    | _ => cases e3
/-- target = e -/
def wAsgO (wt : WTG) (wa : WE) : WS := fun d δ => wa d.ex δ fun r δ1 => ob (frzN δ1 r) fun p => wt d.ex p.2 p.1 d.nx
theorem ds_asgO {tg e : Expr} {wt : WTG} {wa : WE} {pos : Pos} (h : DE S e wa) (hg : DTg S tg wt) (hs : ∀ env, swapsWithSole [tg] e pos.line env = pure false := by intro _; rfl) (hw : ∀ c, S.ok c → swappedStores [tg] e c.env = pure none := by intro _ _; rfl) (h1 : ∀ env, (assignEach [tg] env).map (·.2) = [assign tg env] := by intro _; rfl) : DS S (.Assign [tg] e pos) (wAsgO wt wa) := by
  obtain ⟨t, p, s⟩ := h
  obtain ⟨g, pg, sg⟩ := hg
  refine ⟨tAsg t g, fun c hc => ps_asg (p c hc) (pg c hc) (hs _) (hw c hc) (h1 _), ⟨fun d d' δ h w => s.mono _ _ _ _ _ h.ex (fun r δ1 w => w.imp fun p w => sg.mono _ _ _ _ _ _ h.ex h.nx w) w, fun F B H vs σ δ D d hx h k w => ?_⟩⟩
  refine s.run _ _ _ _ _ _ _ _ _ hx h w fun B1 H1 v r δ1 s1 h1 q1 w1 => ?_
  obtain ⟨⟨r', δ2⟩, e1, w1⟩ := w1
  obtain ⟨B2, s2, h2, q2, no⟩ := frzN_ok h1 q1 e1
  exact sg.run _ _ _ _ _ _ _ _ _ _ _ (hx.up (s1.trans s2)) h2 q2 no w1 fun B' σ' H' δ' s3 h3 w => k.nx B' σ' H' δ' ((s1.trans s2).trans s3) h3 w
def wTgs : List WTG → XP → SEnv → List R → (SEnv → Prop) → Prop
  | [], _, δ, [], P => P δ
  | w :: ws, Ex, δ, r :: rs, P => (∀ r' ∈ rs, ∃ x, r' = R.d x) ∧ w Ex δ r fun δ1 => wTgs ws Ex δ1 rs P
  | _, _, _, _, _ => False
structure TgsSim (K : PySem.W.Frag) (E : XK) (g : TGs) (ws : List WTG) : Prop where
  mono : ∀ (Ex Ex' : XP) (δ : SEnv) (rs : List R) (P P' : SEnv → Prop), (∀ e, Ex e → Ex' e) → (∀ δ', P δ' → P' δ') → wTgs ws Ex δ rs P → wTgs ws Ex' δ rs P'
  run : ∀ (Ex : XP) (F B H : Hp) (vs : List V) (σ : L2.St) (δ : SEnv) (xs : List V) (rs : List R) (P : SEnv → Prop) (Q : L2.St → Hp → Prop), XOk F B E Ex → Rep K F B H vs σ δ → Paired (fun v r => RepR K F B H σ δ v r ∧ ∀ i, r ≠ .o i) xs rs → wTgs ws Ex δ rs P →
    (∀ B' σ' H' δ', Same B B' → Rep K F B' H' vs σ' δ' → P δ' → Q σ' H') → g xs σ H Q
def DTgs (S : Sg) (tgs : List Expr) (ws : List WTG) : Prop := ∃ g, (∀ c, S.ok c → PGs (S.g.cx c) tgs g) ∧ TgsSim S.g.K S.E g ws
theorem dtgs_nil : DTgs S [] [] := ⟨gNil, fun _ _ => pgs_nil, ⟨fun Ex Ex' δ rs P P' hx h w => by
    cases rs with
    | nil => exact h _ w
    | cons _ _ => exact w.elim, fun Ex F B H vs σ δ xs rs P Q hx h q w k => by
    cases q with
    | nil => exact ⟨rfl, k B σ H δ (Same.refl _) h w⟩
    | cons _ _ => exact w.elim⟩⟩
theorem dtgs_cons {e : Expr} {es : List Expr} {w : WTG} {ws : List WTG} (h : DTg S e w) (hr : DTgs S es ws) (hs : ∀ env, (assignEach (e :: es) env).map (·.2) = assign e env :: (assignEach es env).map (·.2) := by intro _; rfl) : DTgs S (e :: es) (w :: ws) := by
  obtain ⟨g, pg, sg⟩ := h
  obtain ⟨gs, pgs, sgs⟩ := hr
  refine ⟨gCons g gs, fun c hc => pgs_cons (pg c hc) (pgs c hc) (hs _), ⟨fun Ex Ex' δ rs P P' hx h w => ?_, fun Ex F B H vs σ δ xs rs P Q hx h q w k => ?_⟩⟩
  · cases rs with
    | nil => exact w.elim
    | cons r rs => exact ⟨w.1, sg.mono _ _ _ _ _ _ hx (fun δ1 w => sgs.mono _ _ _ _ _ _ hx h w) w.2⟩
  · cases q with
    | nil => exact w.elim
    | @cons v r xs rs q1 q2 =>
      refine ⟨v, xs, rfl, sg.run _ _ _ _ _ _ _ _ _ _ _ hx h q1.1 q1.2 w.2 fun B1 σ1 H1 δ1 s1 h1 w1 => ?_⟩
      refine sgs.run _ F B1 H1 vs σ1 δ1 _ _ _ _ (hx.up s1) h1 (paired_mono q2 fun i x y e1 e2 z => ?_) w1 fun B2 σ2 H2 δ2 s2 h2 w2 => k B2 σ2 H2 δ2 (s1.trans s2) h2 w2
      obtain ⟨d, rfl⟩ := w.1 y (List.mem_of_getElem? e2)
      exact ⟨DD.mono s1 z.1, z.2⟩
end
end DL
set_option Elab.async false
set_option linter.all false
set_option maxRecDepth 100000
set_option maxHeartbeats 1000000
set_option autoImplicit false
namespace DL
open PySem PySem.Spec PyProof.Rows L2
def wDisp1 (wk wv : WE) : WE := fun Ex δ P => wk Ex δ fun rk δ1 => ob (view δ1 rk) fun a => ob (keyV a) fun k => wv Ex δ1 fun rv δ2 => ob (frzN δ2 rv) fun p => ∀ a b, ob (childOf p.1 a) fun u => P (.n (.ot (.n b true [(k, u)]))) p.2
section
variable {K : PySem.W.Frag} {F B H : Hp} {vs : List V} {σ : L2.St} {δ : SEnv} {v : V} {r : R}
/-- what was told apart from an object that then changes -/
theorem repr_relay {D : Addr} {o o' : HO} (h : Rep K (upd F D o) B H vs σ δ) (q : RepR K (upd F D o) B H σ δ v r) : RepR K F B (upd H D o') σ δ v r ∧ (∀ p, rfoot (upd H D o') v r p ↔ rfoot H v r p) ∧ ¬ rfoot H v r D := by
  have nd : ¬ rfoot H v r D := fun f => by have := (rfoot_ok q f).2.1; rw [upd_same] at this; cases this
  cases r with
  | d x => exact ⟨q, fun _ => Iff.rfl, nd⟩
  | w x => exact ⟨q, fun _ => Iff.rfl, nd⟩
  | o i => exact ⟨q, fun _ => Iff.rfl, nd⟩
  | n c =>
    obtain ⟨a, rfl, hBF, qc, off⟩ := q
    have ne : ∀ p, Foot H a c p → p ≠ D := fun p f z => by subst z; exact nd ⟨a, rfl, f⟩
    have fe : ∀ p, Foot (upd H D o') a c p ↔ Foot H a c p := fun p => foot_eq fun p f => upd_ne (ne p f)
    refine ⟨⟨a, rfl, fun p f => ?_, qc.mono (Same.refl _) fun p f => upd_ne (ne p f), fun i b c' a' p e ea f f' => ?_⟩, fun p => ⟨fun ⟨a', e, f⟩ => by cases e; exact ⟨a, rfl, (fe p).mp f⟩, fun ⟨a', e, f⟩ => by cases e; exact ⟨a, rfl, (fe p).mpr f⟩⟩, nd⟩
    · have f := (fe p).mp f
      have := hBF p f
      rw [upd_ne (ne p f)] at this
      exact this
    · refine off i b c' a' p e ea ((foot_eq fun p f => ?_).mp f) ((fe p).mp f')
      exact upd_ne fun z => by
        have := ((h.own_up e ea).1 _ f).2
        subst z; rw [upd_same] at this; cases this
end
section
variable {S : Sg}
theorem de_disp1 {pos : Pos} {k v : Expr} {wk wv : WE} (hk : DE S k wk) (hv : DE S v wv) : DE S (.Dict [some k] [v] pos) (wDisp1 wk wv) := by
  obtain ⟨tk, pk, sk⟩ := hk
  obtain ⟨tv, pv, sv⟩ := hv
  refine ⟨tDisp [(tk, tv)], fun c hc => pe_disp (pps_cons (pk c hc) (pv c hc) pps_nil) rfl rfl (fun z => nomatch z) (by show 1 ≤ 15; omega), ⟨fun Ex Ex' δ P P' hx h w => ?_, fun Ex F B H vs σ δ P Q hx h w k => ?_⟩⟩
  · refine sk.mono _ _ _ _ _ hx (fun rk δ1 w => w.imp fun a w => w.imp fun k w => ?_) w
    exact sv.mono _ _ _ _ _ hx (fun rv δ2 w => w.imp fun p w a b => (w a b).imp fun u w => h _ _ w) w
  · intro p hp
    have hF : F p = none := nof h.sf hp
    have hx' : XOk (upd F p (.dK [])) B S.E Ex := fun cls da B' H' fs fds t1 t2 t3 t4 t5 t6 t7 => hx cls da B' H' fs fds t1 t2 (fun a o e => t3 a o (by rw [upd_ne (ne_of_none e hF)]; exact e)) (fun a o e => t4 a o (by rw [upd_ne (ne_of_none e hF)]; exact e)) t5 t6 t7
    refine sk.run Ex (upd F p (.dK [])) B _ _ _ _ _ _ hx' (h.lay hp _) w fun B1 H1 x rk δ1 s1 h1 q1 w1 => ?_
    obtain ⟨a, e1, kk, e2, w1⟩ := w1
    have ex := key_ov (view_ok h1 q1 e1) e2
    subst ex
    refine sv.run _ _ _ _ _ _ _ _ _ (hx'.up s1) h1 w1 fun B2 H2 y rv δ2 s2 h2 q2 w2 => ?_
    obtain ⟨⟨r', δ3⟩, e3, w2⟩ := w2
    obtain ⟨B3, s3, h3, q3, no⟩ := frzN_ok h2 q2 e3
    obtain ⟨a1, sp⟩ := childOf_ok q3
    obtain ⟨u, e4, w3⟩ := w2 a1 p
    obtain ⟨qu, nu, fu⟩ := sp u e4
    have e5 : H2 p = some (.dK []) := h3.sf p _ upd_same
    obtain ⟨q4, fe, nd⟩ := repr_relay (o' := .dK (mergeK [] [(kk, y)])) h3 q3
    have h4 := h3.relay (o' := .dK (mergeK [] [(kk, y)]))
    have h5 := h4.unlay hF
    refine ⟨e5, [(kk, y)], rfl, (by show 1 ≤ 15; omega), ?_⟩
    have np : ∀ z, z ∈ u.fp → z ≠ p := fun z f e => by subst e; exact nd (fu _ f)
    have efp : (OT.n p true [(kk, u)]).fp = p :: u.fp := by rw [fp_n, fps_cons, fps_nil, List.append_nil]
    refine k B3 _ (.ref p) (.n (.ot (.n p true [(kk, u)]))) δ3 ((s1.trans s2).trans s3) h5 ⟨p, rfl, fun z f => ?_, ⟨.n (b := true) upd_same (.cons (qu.mono (Same.refl _) fun z f => upd_ne (np z f)) .nil), ?_, rfl⟩, fun i b c a z e ea f f' => ?_⟩ w3
    · have f : z = p ∨ z ∈ u.fp := by
        rcases f with f | f
        · exact .inl f
        · rw [efp] at f; exact List.mem_cons.mp f
      rcases f with rfl | f
      · exact ⟨h3.dj _ _ upd_same, hF⟩
      · have g := rfoot_ok q4 ((fe z).mpr (fu z f))
        exact ⟨g.1, g.2.1⟩
    · rw [efp]; exact List.nodup_cons.mpr ⟨fun z => np p z rfl, nu⟩
    · have f' : z = p ∨ z ∈ u.fp := by
        rcases f' with f' | f'
        · exact .inl f'
        · rw [efp] at f'; exact List.mem_cons.mp f'
      rcases f' with rfl | f'
      · exact h4.off i b c a _ e ea f rfl
      · exact rfoot_off q4 i b c a z e ea f ((fe z).mpr (fu z f'))
end
def sortX : List Vw → Option Rv
  | [.xk ks] => (numK ks).bind fun ns => if ns.length < 64 then some (.lst ((sortI ns).map .int)) else none
  | vs => sortF vs
theorem cs_sortX {S : Sg} : CallS S (.builtin "sorted") sortX := by
  rintro c hc pins s σ H xs us Q I rv ⟨B, as, r, sB, ov, e, k⟩
  unfold sortX at e
  split at e
  · obtain ⟨ns, e1, e⟩ := Option.bind_eq_some_iff.mp e
    split at e
    · cases e
      obtain ⟨v, rfl, a, ys, rfl, hy, q⟩ := ovs1 ov
      refine call_sortedDI hc.calm pins s σ H _ us Q I rv ⟨a, ys, ns, rfl, .inl hy, by rw [q]; exact numK_eq e1, by assumption, fun ns' p' h1 h2 hp' => ?_⟩
      rw [sortI_one h1 h2]
      exact k p' _ hp' (dds_ofI _)
    · cases e
  · exact cs_sorted c hc pins s σ H xs us Q I rv ⟨B, as, r, sB, ov, e, k⟩
end DL
set_option Elab.async false
set_option linter.all false
set_option maxRecDepth 100000
set_option maxHeartbeats 1000000
set_option autoImplicit false
namespace DL
open PySem PySem.Spec PyProof.Rows L2
def keyPy : Key → PyData
  | .inl i => .int i
  | .inr x => .str x
def pairD (q : Key × PyData) : PyData := .tuple [keyPy q.1, q.2]
theorem keyPy_dd {B : Hp} (k : Key) : DD B (kV k) (keyPy k) := by
  cases k with
  | inl i => exact .int i
  | inr x => exact .str x
def layL (H : Hp) (L : List (Addr × HO)) : Hp := L.foldl (fun H z => upd H z.1 z.2) H
theorem layL_old {L : List (Addr × HO)} : ∀ {H : Hp} {a : Addr}, (∀ z ∈ L, z.1 ≠ a) → layL H L a = H a := by
  induction L with
  | nil => intro H a _; rfl
  | cons z L ih =>
    intro H a h
    show layL (upd H z.1 z.2) L a = H a
    rw [ih fun y hy => h y (List.mem_cons_of_mem _ hy), upd_ne fun e => h z (List.mem_cons_self ..) e.symm]
theorem layL_at {L : List (Addr × HO)} : ∀ {H : Hp} {z : Addr × HO}, (L.map (·.1)).Nodup → z ∈ L → layL H L z.1 = some z.2 := by
  induction L with
  | nil => intro H z _ h; cases h
  | cons y L ih =>
    intro H z n h
    rw [List.map_cons, List.nodup_cons] at n
    show layL (upd H y.1 y.2) L z.1 = some z.2
    rcases List.mem_cons.mp h with rfl | h
    · rw [layL_old fun y' hy e => n.1 (List.mem_map.mpr ⟨y', hy, e⟩), upd_same]
    · exact ih n.2 h
def pairsL (L : List (Addr × Obj)) (kvs : List (Key × V)) : List (Addr × HO) := (L.zip kvs).map fun z => (z.1.1, HO.frz z.1.2 (.tup [kV z.2.1, z.2.2]))
theorem pairsL_fst {L : List (Addr × Obj)} {kvs : List (Key × V)} (h : L.length = kvs.length) : (pairsL L kvs).map (·.1) = L.map (·.1) := by
  unfold pairsL
  rw [List.map_map]
  have : (L.zip kvs).map (fun z => z.1) = L := List.map_fst_zip (by omega)
  calc (L.zip kvs).map ((fun x => x.1) ∘ fun z => (z.1.1, HO.frz z.1.2 (.tup [kV z.2.1, z.2.2]))) = ((L.zip kvs).map (fun z => z.1)).map (·.1) := by rw [List.map_map]; rfl
    _ = L.map (·.1) := by rw [this]
def SortOk (K : PySem.W.Frag) (H : Hp) (kvs : List (Key × V)) (kds : List (Key × PyData)) : Prop := Paired (fun (p : Key × V) (q : Key × PyData) => p.1 = q.1 ∧ Dp K H p.2 q.2) kvs kds ∧ PySem.W.AllAlike (kds.map pairD) ∧ (∀ q ∈ kds, q.2.depth ≤ 90) ∧ kds.length ≤ 100000
def tSortIt (K : PySem.W.Frag) (td : TE) : TE := fun σ H Q => td σ H fun x H1 => ∃ a kvs kds, x = V.ref a ∧ H1 a = some (.dK kvs) ∧ SortOk K H1 kvs kds ∧
  ∀ (L : List (Addr × Obj)) (p : Addr), L.length = kvs.length → (L.map (·.1)).Nodup → (∀ z ∈ L, H1 z.1 = none ∧ z.2.cls = .type "tuple" ∧ z.2.dict = none) → layL H1 (pairsL L kvs) p = none →
    Q (.ref p) (upd (layL H1 (pairsL L kvs)) p (.lst (((L.zip kds).mergeSort (PySem.W.dataLe false fun z => pairD z.2)).map fun z => V.ref z.1.1)))
section
variable {X : Cx} {pins : List (Addr × Obj)} {σ : L2.St}
theorem takeL {H0 : Hp} {s : Shared} {h' : Heap} {tk : Nat} (I0 : Inv X pins σ H0 s) : ∀ (L : List (Addr × HO)) (H1 : Hp), Inv X pins σ H1 { s with heap := h', toks := tk } → (L.map (·.1)).Nodup →
    (∀ z ∈ L, s.heap.objs.size ≤ z.1 ∧ H1 z.1 = none ∧ ∀ H2, ObjOk X.prog X.w H2 h' z.1 z.2) → Inv X pins σ (layL H1 L) { s with heap := h', toks := tk }
  | [], H1, I1, _, _ => I1
  | z :: L, H1, I1, n, h => by
    obtain ⟨hb, hnone, ok⟩ := h z (List.mem_cons_self ..)
    rw [List.map_cons, List.nodup_cons] at n
    refine takeL I0 L (upd H1 z.1 z.2) (I1.take (h' := h') (t' := tk) (fun b ob _ e => e) (I0.fpOk hb hnone) (ok _)) n.2 fun y hy => ?_
    obtain ⟨c1, c2, c3⟩ := h y (List.mem_cons_of_mem _ hy)
    exact ⟨c1, by rw [upd_ne (fun e => n.1 (List.mem_map.mpr ⟨y, hy, e⟩))]; exact c2, c3⟩
mutual
theorem reads_lt {h : Heap} : ∀ {v : Value} {d : PyData} {as : List Addr}, Reads h v d as → ∀ a ∈ as, a < h.objs.size
  | _, _, _, .none, a, m => by cases m
  | _, _, _, .bool _, a, m => by cases m
  | _, _, _, .int _ _, a, m => by cases m
  | _, _, _, .str _ _, a, m => by cases m
  | _, _, _, .list e _ _ r, a, m => by
    rcases List.mem_cons.mp m with rfl | m
    · exact Heap.lt_size e
    · exact readsAll_lt r a m
  | _, _, _, .tuple _ _ _ r, a, m => readsAll_lt r a m
  | _, _, _, .dict e _ _ r1 r2, a, m => by
    rcases List.mem_append.mp m with m | m
    · rcases List.mem_cons.mp m with rfl | m
      · exact Heap.lt_size e
      · exact readsAll_lt r1 a m
    · exact readsAll_lt r2 a m
theorem readsAll_lt {h : Heap} : ∀ {vs : List Value} {ds : List PyData} {as : List Addr}, ReadsAll h vs ds as → ∀ a ∈ as, a < h.objs.size
  | _, _, _, .nil, a, m => by cases m
  | _, _, _, .cons r1 r2, a, m => by
    rcases List.mem_append.mp m with m | m
    · exact reads_lt r1 a m
    · exact readsAll_lt r2 a m
end
theorem each_at {α β : Type} {R : α → β → Prop} : ∀ {as : List α} {bs : List β}, as.length = bs.length → (∀ (i : Nat) (a : α) (b : β), as[i]? = some a → bs[i]? = some b → R a b) → PySem.W.EachIs R as bs
  | [], [], _, _ => .nil
  | [], _ :: _, l, _ => by cases l
  | _ :: _, [], l, _ => by cases l
  | a :: as, b :: bs, l, h => .cons (h 0 a b rfl rfl) (each_at (by simpa using l) fun i x y e1 e2 => h (i + 1) x y (by simpa using e1) (by simpa using e2))
theorem each_eq {α : Type} {f : α → Value} : ∀ {out : List Value} {zs : List α}, PySem.W.EachIs (fun v z => v = f z) out zs → out = zs.map f
  | _, _, .nil => rfl
  | _, _, .cons h r => by rw [List.map_cons, ← each_eq r, h]
theorem depth_pair (q : Key × PyData) : (pairD q).depth ≤ q.2.depth + 2 := by
  obtain ⟨k, d⟩ := q
  have : (keyPy k).depth = 0 := by cases k <;> rfl
  show (PyData.tuple [keyPy k, d]).depth ≤ _
  simp only [PyData.depth, PyData.depthAll, this]
  omega
theorem kV_of {k : Key} {u : Value} (h : keyIs k u = true) : RelV (kV k) u := by
  rcases keyIs_shape h with ⟨i, t, rfl, rfl⟩ | ⟨x, t, rfl, rfl⟩
  · exact ⟨t, rfl⟩
  · exact ⟨t, rfl⟩
theorem pe_sortIt {o : Expr} {p pos apos mpos : Pos} {td : TE} (hc : X.calm = true) (hr : X.A.units + 200 < cLine) (hg : Gl X "sorted") (hm : X.mg "sorted" = none) (hd : PE X o td) (hbase : attributeBase o "items" X.env (eval o X.env) = eval o X.env := by rfl) (hline : (apos.endLine == mpos.line) = true := by rfl)
    (hse : starEach [Expr.Call (.Attribute o "items" apos) [] [] mpos] X.env = (false, eval (Expr.Call (.Attribute o "items" apos) [] [] mpos) X.env) :: starEach [] X.env := by rfl) :
    PE X (.Call (.Name "sorted" p) [.Call (.Attribute o "items" apos) [] [] mpos] [] pos) (tSortIt X.K td) := by
  refine ⟨fun pins s σ H Q I h => ?_⟩
  refine Call_ (ld_blt I hg hm (u := .builtin "sorted") (by rfl) (PyProof.Rows.callWith_builtin1 (PyProof.Rows.args_cons (wpAny_Call_method0_late hbase hline (thn (hd.run pins s σ H _ I h) fun v s1 ⟨x, H1, I1, r1, a, kvs, kds, ex, ha, ⟨hp, hal, hdep, hlen⟩, q⟩ => ?_)) hse) hse rfl))
  subst ex
  cases (show v = Value.ref a from r1)
  obtain ⟨hz, hsys, us, rel, dof⟩ := dk_of I1.hok ha
  obtain ⟨ep, dat⟩ := id dof.dictAt
  obtain ⟨ob, es, ho, exd, hdat⟩ := id dat
  refine ⟨"dict", "dict.items", F.plainAttrs_dict, F.slot_dict_items, F.type_dict_items, ⟨ob, ho, exd.1⟩, fun b e => ?_, Calls.callWith_builtin rfl (PySem.evalArgs_none ?_)⟩
  · cases e; exact ⟨ob, ho, exd.2.1⟩
  refine DT.callItems (es := es) (ep := ep) hsys ⟨ob, ho, exd, hdat.1⟩ ?_
  refine PyProof.Rows.args_nil ?_
  have les : es.size = us.length := by rw [← Array.length_toList]; exact hdat.2.2.1.length
  have lk : kvs.length = us.length := KV.length rel
  have ld : kds.length = kvs.length := (Paired.length hp).symm
  have up : ∀ b u, s1.heap.get? b = some u → (s1.heap.push { cls := .type "dict_items", data := .fields #[.ref a] }).get? b = some u := fun b u e => Heap.get?_push_of_some _ e
  have I2 : Inv X pins σ H1 { s1 with heap := s1.heap.push { cls := .type "dict_items", data := .fields #[.ref a] } } := I1.kept (t' := s1.toks) up
  generalize hh0 : s1.heap.push { cls := .type "dict_items", data := .fields #[.ref a] } = h0 at up I2 ⊢
  have hv0 : h0.IsItemsView s1.heap.objs.size a := by rw [← hh0]; exact ⟨_, Heap.get?_push_size _ rfl, rfl, rfl⟩
  have raw0 : DT.Raw h0 a es ep := ⟨ob, up _ _ ho, exd, hdat.1⟩
  refine DT.sortedI (s := { s1 with heap := h0 }) (es := es) (ep := ep) (I1.ok.hd hc) hv0 raw0 (by rw [les, ← lk]; exact hz) fun h' tk as hk hlt hl hG => ?_
  have lak : as.length = kvs.length := by omega
  have nd : as.Nodup := List.Pairwise.imp (fun h => Nat.ne_of_lt h) hG.rise
  have I3 : Inv X pins σ H1 { s1 with heap := h', toks := tk } := I2.kept (t' := tk) hk
  have lo0 : s1.heap.objs.size ≤ h0.objs.size := by rw [← hh0, Heap.size_push]; exact Nat.le_succ _
  have hlt' : h0.objs.size < h'.objs.size := hlt
  have lE : es.toList.length = as.length := by rw [Array.length_toList, les]; omega
  -- the tuples made
  let tob : DictEntry → Obj := fun e => { cls := .type "tuple", data := .seq #[e.key, e.val] }
  let L : List (Addr × Obj) := (as.zip es.toList).map fun z => (z.1, tob z.2)
  have hL : L = (as.zip es.toList).map fun z => (z.1, tob z.2) := rfl
  have lL : L.length = as.length := by rw [hL, List.length_map, List.length_zip, lE]; omega
  have fL : L.map (·.1) = as := by
    rw [hL, List.map_map]
    exact (show (as.zip es.toList).map (fun z => z.1) = as from List.map_fst_zip (by rw [lE]; exact Nat.le_refl _))
  have at_ : ∀ {j : Nat} {z : Addr × Obj} {k : Key} {y : V}, L[j]? = some z → kvs[j]? = some (k, y) → as[j]? = some z.1 ∧ z.2.cls = .type "tuple" ∧ z.2.dict = none ∧ h'.get? z.1 = some z.2 ∧ ∃ ku uv, RelV (kV k) ku ∧ RelV y uv ∧ z.2.data = .seq #[ku, uv] := by
    intro j z k y e1 e2
    rw [hL, List.getElem?_map] at e1
    obtain ⟨⟨a1, en⟩, e3, rfl⟩ := Option.map_eq_some_iff.mp e1
    obtain ⟨e4, e5⟩ := List.getElem?_zip_eq_some.mp e3
    obtain ⟨en', e6, e7⟩ := hG.pairs j a1 e4
    have e5' : es[j]? = some en := by rw [← Array.getElem?_toList]; exact e5
    rw [e5'] at e6; cases e6
    have lu : j < us.length := by rw [← lk]; exact (List.getElem?_eq_some_iff.mp e2).1
    obtain ⟨⟨k2, uv⟩, e8⟩ : ∃ q, us[j]? = some q := ⟨_, List.getElem?_eq_getElem lu⟩
    obtain ⟨y', e9, ry⟩ := KV.at' rel e8
    rw [e2] at e9; cases e9
    obtain ⟨g1, g2⟩ := hdat.2.2.1.get? e5 e8
    exact ⟨e4, rfl, rfl, e7, en.key, uv, kV_of g1, ry, by rw [← g2]⟩
  have hn0 : ∀ b, s1.heap.objs.size ≤ b → H1 b = none := fun b hb => I1.hok.fresh hb
  have abv : ∀ b ∈ as, s1.heap.objs.size ≤ b ∧ b < h'.objs.size := fun b hb => ⟨Nat.le_trans lo0 (Nat.le_of_lt (hG.above b hb)), hG.there hb⟩
  have kvAt : ∀ {j : Nat} {q : Key × PyData}, kds[j]? = some q → ∃ y, kvs[j]? = some (q.1, y) ∧ Dp X.K H1 y q.2 := by
    intro j q e
    have lj : j < kvs.length := by rw [← ld]; exact (List.getElem?_eq_some_iff.mp e).1
    have e1 : kvs[j]? = some kvs[j] := List.getElem?_eq_getElem lj
    obtain ⟨q', e2, e3, e4⟩ := paired_at hp e1
    rw [e] at e2; cases e2
    exact ⟨kvs[j].2, by rw [e1, ← e3], e4⟩
  -- the list, sorted
  have hob : (h'.push { cls := .type "list", data := .seq (as.map Value.ref).toArray }).get? h'.objs.size = some (seqObj "list" (as.map Value.ref).toArray 0) := Heap.get?_push_size _ rfl
  have kb : ∀ b o, h'.get? b = some o → (h'.push { cls := .type "list", data := .seq (as.map Value.ref).toArray }).get? b = some o := fun b o e => Heap.get?_push_of_some _ e
  generalize hh2 : h'.push { cls := .type "list", data := .seq (as.map Value.ref).toArray } = h2 at hob kb ⊢
  have lz : (as.map Value.ref).length = (L.zip kds).length := by rw [List.length_map, List.length_zip]; omega
  have refAt : ∀ {i : Nat} {v : Value} {z : (Addr × Obj) × (Key × PyData)}, (as.map Value.ref)[i]? = some v → (L.zip kds)[i]? = some z → v = .ref z.1.1 ∧ L[i]? = some z.1 ∧ kds[i]? = some z.2 := by
    intro i v z e1 e2
    obtain ⟨e3, e4⟩ := List.getElem?_zip_eq_some.mp e2
    have e5 : as[i]? = some z.1.1 := by rw [← fL, List.getElem?_map, e3]; rfl
    rw [List.getElem?_map, e5] at e1; cases e1
    exact ⟨rfl, e3, e4⟩
  have hal' : PySem.W.AllAlike ((L.zip kds).map fun z => pairD z.2) := by
    have e : (L.zip kds).map (fun z => pairD z.2) = kds.map pairD := by
      have e2 : (L.zip kds).map (fun z => z.2) = kds := List.map_snd_zip (by omega)
      conv => rhs; rw [← e2, List.map_map]
      rfl
    rw [e]; exact hal
  refine PySem.W.list_sort_data (s := { s1 with heap := h2, toks := tk }) (bs := L.zip kds) (R := fun v z => v = Value.ref z.1.1) (enc := fun z => pairD z.2) hob (each_at lz fun i v z e1 e2 => (refAt e1 e2).1) (each_at lz fun i v z e1 e2 => ?_) hal' (.tuples fun b => ⟨_, _, rfl⟩) (by rw [← lz, List.length_map, lak]; exact hz) (fun b hb => ?_) fun out o1 o2 => ?_
  · obtain ⟨rfl, e3, e4⟩ := refAt e1 e2
    obtain ⟨y, e5, dp⟩ := kvAt e4
    obtain ⟨e6, e7, e8, e9, ku, uv, rk, ry, ed⟩ := at_ e3 e5
    obtain ⟨as1, r1⟩ := Dp.reads I3 _ _ _ ((keyPy_dd (B := H1) z.2.1).dp) rk
    obtain ⟨as2, r2⟩ := Dp.reads I3 _ _ _ dp ry
    have r : Reads h' (.ref z.1.1) (pairD z.2) _ := Reads.tuple e9 e7 ed (.cons r1 (.cons r2 .nil))
    exact ⟨_, PyProof.Rows.Reads.keeps kb r, fun m => Nat.lt_irrefl _ (reads_lt r _ m)⟩
  · have hb2 : b.2 ∈ kds := (List.of_mem_zip hb).2
    have := depth_pair b.2
    have := hdep _ hb2
    show X.A.units + 1 + 1 + (pairD b.2).depth < cLine
    omega
  · have eo := each_eq (f := fun z : (Addr × Obj) × (Key × PyData) => Value.ref z.1.1) o2
    obtain ⟨eF, heF⟩ := PyProof.Rows.sortedHeap_at (vs := as.map Value.ref) (out := List.toArray out) hob
    have ne0 : ∀ b o, h'.get? b = some o → b ≠ h'.objs.size := fun b o e => Nat.ne_of_lt (Heap.lt_size e)
    have kF : ∀ b o, h'.get? b = some o → (sortedHeap h2 h'.objs.size (as.map Value.ref) (List.toArray out)).get? b = some o := fun b o e => (PyProof.Rows.sortedHeap_old (ne0 b o e) (Heap.lt_size (kb b o e))).trans (kb b o e)
    have I4 : Inv X pins σ H1 { s1 with heap := sortedHeap h2 h'.objs.size (as.map Value.ref) (List.toArray out), toks := tk } := I3.kept (t' := tk) kF
    have I5 := takeL I1 (h' := sortedHeap h2 h'.objs.size (as.map Value.ref) (List.toArray out)) (tk := tk) (pairsL L kvs) H1 I4 (by rw [pairsL_fst (by omega), fL]; exact nd) fun z hz' => ?_
    · have hpn : layL H1 (pairsL L kvs) h'.objs.size = none := by
        rw [layL_old fun z hz' e => ?_]
        · exact hn0 _ (by omega)
        · have : z.1 ∈ (pairsL L kvs).map (·.1) := List.mem_map.mpr ⟨z, hz', rfl⟩
          rw [pairsL_fst (by omega), fL, e] at this
          exact absurd (abv _ this).2 (Nat.lt_irrefl _)
      refine ⟨.ref h'.objs.size, upd (layL H1 (pairsL L kvs)) h'.objs.size (.lst (((L.zip kds).mergeSort (PySem.W.dataLe false fun z => pairD z.2)).map fun z => V.ref z.1.1)), I5.take (h' := sortedHeap h2 h'.objs.size (as.map Value.ref) (List.toArray out)) (t' := tk) (fun b ob _ e => e) (I1.fpOk (by omega) hpn) ⟨?_, out, eF, ?_, heF⟩, rfl, q L h'.objs.size (by omega) (by rw [fL]; exact nd) (fun z hz' => ?_) hpn⟩
      · rw [List.length_map, List.length_mergeSort, ← lz, List.length_map, lak]; exact hz
      · rw [eo]
        exact vals_maps (fun z : (Addr × Obj) × (Key × PyData) => V.ref z.1.1) (fun z => Value.ref z.1.1) _ fun _ _ => rfl
      · obtain ⟨j, hj⟩ := List.mem_iff_getElem?.mp hz'
        have lj : j < kvs.length := by have := (List.getElem?_eq_some_iff.mp hj).1; omega
        obtain ⟨e6, e7, e8, _⟩ := at_ hj (List.getElem?_eq_getElem lj)
        exact ⟨hn0 _ (abv _ (List.mem_of_getElem? e6)).1, e7, e8⟩
    · unfold pairsL at hz'
      obtain ⟨⟨z0, k, y⟩, hm0, rfl⟩ := List.mem_map.mp hz'
      obtain ⟨j, hj⟩ := List.mem_iff_getElem?.mp hm0
      obtain ⟨e1, e2⟩ := List.getElem?_zip_eq_some.mp hj
      obtain ⟨e6, e7, e8, e9, ku, uv, rk, ry, ed⟩ := at_ e1 e2
      have ab := abv _ (List.mem_of_getElem? e6)
      exact ⟨ab.1, hn0 _ ab.1, fun H2 => ⟨kF _ _ e9, by rw [sizeLine_eq]; show 2 ≤ 16777216; omega, [ku, uv], .cons rk (.cons ry .nil), ⟨_, kF _ _ e9, e7, 0, ed⟩⟩⟩
end
end DL
set_option Elab.async false
set_option linter.all false
set_option maxRecDepth 100000
set_option maxHeartbeats 1000000
set_option autoImplicit false
namespace DL
open PySem PySem.Spec PyProof.Rows L2
theorem rep_layL {K : PySem.W.Frag} {F : Hp} {vs : List V} {σ : L2.St} {δ : SEnv} : ∀ (L : List (Addr × HO)) {B H : Hp}, Rep K F B H vs σ δ → (L.map (·.1)).Nodup → (∀ z ∈ L, H z.1 = none ∧ ∀ ps, z.2 ≠ .tbl ps) → Rep K F (layL B L) (layL H L) vs σ δ ∧ Same B (layL B L)
  | [], B, H, h, _, _ => ⟨h, Same.refl _⟩
  | z :: L, B, H, h, n, f => by
    obtain ⟨f1, f2⟩ := f z (List.mem_cons_self ..)
    rw [List.map_cons, List.nodup_cons] at n
    obtain ⟨h2, s2⟩ := rep_layL L (h.new f1 z.2 f2) n.2 fun y hy => by
      obtain ⟨g1, g2⟩ := f y (List.mem_cons_of_mem _ hy)
      exact ⟨by rw [upd_ne (fun e => n.1 (List.mem_map.mpr ⟨y, hy, e⟩))]; exact g1, g2⟩
    exact ⟨h2, (same_new (nof h.sb f1) _).trans s2⟩
theorem dds_mem {α : Type} {B : Hp} {f : α → V} {g : α → PyData} : ∀ {zs : List α}, (∀ z ∈ zs, DD B (f z) (g z)) → DDs B (zs.map f) (zs.map g)
  | [], _ => .nil
  | z :: zs, h => .cons (h z (List.mem_cons_self ..)) (dds_mem fun y hy => h y (List.mem_cons_of_mem _ hy))
def sortIt (kvs : List (Key × PyData)) : List PyData := (kvs.map pairD).mergeSort (PySem.W.dataLe false id)
def wSortIt (wa : WE) : WE := fun Ex δ P => wa Ex δ fun r δ1 => ob (view δ1 r) fun w => ob (kvsV w) fun kvs => PySem.W.AllAlike (kvs.map pairD) ∧ (∀ q ∈ kvs, q.2.depth ≤ 90) ∧ kvs.length ≤ 100000 ∧ P (.n (.l (sortIt kvs))) δ1
section
variable {S : Sg}
theorem de_sortIt {o : Expr} {wa : WE} {p pos apos mpos : Pos} (hg : GlS S.sc "sorted") (hm : S.g.mg "sorted" = none) (ha : DE S o wa) (hbase : ∀ env, attributeBase o "items" env (eval o env) = eval o env := by intro _; rfl) (hline : (apos.endLine == mpos.line) = true := by rfl)
    (hse : ∀ env, starEach [Expr.Call (.Attribute o "items" apos) [] [] mpos] env = (false, eval (Expr.Call (.Attribute o "items" apos) [] [] mpos) env) :: starEach [] env := by intro _; rfl) :
    DE S (.Call (.Name "sorted" p) [.Call (.Attribute o "items" apos) [] [] mpos] [] pos) (wSortIt wa) := by
  obtain ⟨t, pa, s⟩ := ha
  refine ⟨tSortIt S.g.K t, fun c hc => pe_sortIt (X := S.g.cx c) hc.calm (by have := hc.room.un; show c.A.units + 200 < cLine; omega) (gl_of hc hg) hm (pa c hc) (hbase _) hline (hse _), ⟨fun Ex Ex' δ P P' hx h w => ?_, fun Ex F B H vs σ δ P Q hx h w k => ?_⟩⟩
  · exact s.mono _ _ _ _ _ hx (fun r δ1 w => w.imp fun a w => w.imp fun kvs w => ⟨w.1, w.2.1, w.2.2.1, h _ _ w.2.2.2⟩) w
  · refine s.run _ _ _ _ _ _ _ _ _ hx h w fun B1 H1 x r δ1 s1 h1 q1 w1 => ?_
    obtain ⟨vw, e1, kvs, e2, hal, hdep, hlen, w1⟩ := w1
    have ov := view_ok h1 q1 e1
    unfold kvsV at e2
    split at e2
    · cases e2
      obtain ⟨a, ys, rfl, hy, qy⟩ := ov
      have lq : ys.length = kvs.length := kds_length qy
      refine ⟨a, ys, kvs, rfl, hy, ⟨Paired.mapP qy fun p q z => ⟨z.1, (z.2.mono h1.sb).dp⟩, hal, hdep, hlen⟩, fun L p lL nL fL hp => ?_⟩
      obtain ⟨h2, s2⟩ := rep_layL (pairsL L ys) h1 (by rw [pairsL_fst lL]; exact nL) fun z hz => by
        unfold pairsL at hz
        obtain ⟨⟨z0, k0, y0⟩, hm0, rfl⟩ := List.mem_map.mp hz
        exact ⟨(fL z0 (List.of_mem_zip hm0).1).1, fun ps e => nomatch e⟩
      have es : sortIt kvs = ((L.zip kvs).mergeSort (PySem.W.dataLe false fun z => pairD z.2)).map fun z => pairD z.2 := by
        have e2 : (L.zip kvs).map (fun z => z.2) = kvs := List.map_snd_zip (by omega)
        unfold sortIt
        conv => lhs; rw [← e2, List.map_map]
        exact (List.map_mergeSort (r := PySem.W.dataLe false fun z : (Addr × Obj) × (Key × PyData) => pairD z.2) (s := PySem.W.dataLe false id) (f := fun z => pairD z.2) (l := L.zip kvs) (fun a _ b _ => rfl)).symm
      have hq : DDs (layL B1 (pairsL L ys)) (((L.zip kvs).mergeSort (PySem.W.dataLe false fun z => pairD z.2)).map fun z => V.ref z.1.1) (sortIt kvs) := by
        rw [es]
        refine dds_mem fun z hz => ?_
        obtain ⟨j, hj⟩ := List.mem_iff_getElem?.mp ((List.mergeSort_perm _ _).mem_iff.mp hz)
        obtain ⟨e3, e4⟩ := List.getElem?_zip_eq_some.mp hj
        have lj : j < ys.length := by rw [lq]; exact (List.getElem?_eq_some_iff.mp e4).1
        have e5 : ys[j]? = some ys[j] := List.getElem?_eq_getElem lj
        obtain ⟨q', e6, e7, e8⟩ := paired_at qy e5
        rw [e4] at e6; cases e6
        have m0 : (z.1, ys[j]) ∈ L.zip ys := List.mem_of_getElem? (i := j) (List.getElem?_zip_eq_some.mpr ⟨e3, e5⟩)
        have m1 : (z.1.1, HO.frz z.1.2 (.tup [kV ys[j].1, ys[j].2])) ∈ pairsL L ys := List.mem_map.mpr ⟨_, m0, rfl⟩
        have e9 := layL_at (H := B1) (by rw [pairsL_fst lL]; exact nL) m1
        have f1 := fL z.1 (List.mem_of_getElem? e3)
        exact DD.tup ⟨z.1.2, e9, f1.2.1, f1.2.2⟩ (.cons (by rw [e7]; exact keyPy_dd _) (.cons (e8.mono s2) .nil))
      exact k _ _ (.ref p) (.n (.l (sortIt kvs))) δ1 (s1.trans s2) (h2.newO hp _) ⟨p, rfl, foot_bf rfl (nof h2.sb hp) (nof h2.sf hp), ⟨_, upd_same, hq⟩, h2.fresh hp _⟩ w1
    · cases e2
end
end DL
set_option Elab.async false
set_option linter.all false
set_option maxRecDepth 100000
set_option maxHeartbeats 1000000
set_option autoImplicit false
namespace DL
open PySem PySem.Spec PyProof.Rows L2
section
variable {K : PySem.W.Frag} {F B H : Hp} {vs : List V} {σ : L2.St} {δ : SEnv} {v : V} {r : R}
/-- a node is changed -/
theorem node_set {j : Nat} {p : List Key} {t t0 u' : OT} {a a0 : Addr} {b : Bool} {o : HO} (h : Rep K F B H vs σ δ) (q : RepR K F B H σ δ v r) (d1 : δ[j]? = some (some (.o b (.ot t)))) (d2 : σ[j]? = some (some (.ref a0))) (d3 : t.at p = some t0) (d5 : t0.root = some a)
    (r1 : u'.root = some a) (q' : OTk B (upd H a o) (.ref a) u') (n' : u'.fp.Nodup) (f' : ∀ y, y ∈ u'.fp → y ∈ t0.fp ∨ rfoot H v r y) : Rep K F B (upd H a o) vs σ (δ.set j (some (.o b (.ot (t.put p u'))))) := by
  obtain ⟨hBF, qt, nt, et⟩ := h.own_up d1 d2
  have off : ∀ y, rfoot H v r y → y ∉ t.fp := fun y f g => rfoot_off q j b _ a0 y d1 d2 (.inr g) f
  refine h.mutIn (c' := .ot (t.put p u')) d1 d2 (.inr (at_fp d3 (root_in d5))) ⟨put_ok (fun y ny => upd_ne ny) q' qt nt d3 d5, nodup_put d3 nt n' fun y f => (f' y f).imp id fun f => off y f, by rw [root_put d3 d5 r1]; exact et⟩ fun y f => ?_
  rcases f with f | f
  · exact .inl (.inl f)
  · rcases fp_put d3 f with f | f
    · exact .inl (.inr f)
    · rcases f' y f with f | f
      · exact .inl (.inr (at_fp d3 f))
      · have z := rfoot_ok q f
        exact .inr ⟨z.1, z.2.1, fun i b c a y' e ea f2 f3 => by subst f3; exact rfoot_off q i b c a y' e ea f2 f⟩
end
def appN : OT → OT → Option OT
  | .n a false ts, u => if ts.length < sizeLine then some (.n a false (ts ++ [((.inl 0 : Key), u)])) else none
  | _, _ => none
def isLN : OT → Option Unit
  | .n _ false _ => some ()
  | _ => none
def wAppO (i : Nat) (wa : WE) : WE := fun Ex δ P => ob (nodeOf δ (.o i)) fun q0 => ob (isLN q0.2.2) fun _ => wa Ex δ fun r δ1 => ob (frzN δ1 r) fun p => ob (nodeOf p.2 (.o i)) fun q => ∀ a, ob (childOf p.1 a) fun u => ob (appN q.2.2 u) fun u' => ob (ownT p.2 q.1) fun bt => P (.d .none) (p.2.set q.1 (some (.o bt.1 (.ot (bt.2.put q.2.1 u')))))
section
variable {S : Sg}
theorem de_appO {i : Nat} {x : Str} {e : Expr} {wa : WE} {p apos cpos : Pos} (hN : S.N[i]? = some x) (hv : Vis S.sc x) (ha : DE S e wa) (hd : (x == ("__debug__" : Str)) = false := by decide) (hcd : (x == ("__classdict__" : Str)) = false := by decide)
    (hb : ∀ env, attributeBase (.Name x p) "append" env (eval (.Name x p) env) = eval (.Name x p) env := by intro _; rfl) (hf : few cpos e := by intro _; rfl) (hl : (apos.endLine == cpos.line) = true := by rfl)
    (hs : ∀ env, starEach [e] env = (false, eval e env) :: starEach [] env := by intro _; rfl) (hp : ∀ env, (backTo cpos (starEach [] env)).any (·.1) = false := by intro _; rfl) :
    DE S (.Call (.Attribute (.Name x p) "append" apos) [e] [] cpos) (wAppO i wa) := by
  obtain ⟨t, pa, s⟩ := ha
  refine ⟨tBM S.g.K "list" rAppend (tVar i) (tCons t tNil), fun c hc => pe_bm (X := S.g.cx c) PySem.F.plainAttrs_list PySem.F.slot_list_append PySem.F.type_list_append mt_append (vis_v hc hN hv hd hcd) (pa_cons (pa c hc) pa_nil (hs _)) (hb _) (hf _) hl (hs _) (hp _), ⟨fun Ex Ex' δ P P' hx h w => ?_, fun Ex F B H vs σ δ P Q hx h w k => ?_⟩⟩
  · exact w.imp fun _ w => w.imp fun _ w => s.mono _ _ _ _ _ hx (fun r δ1 w => w.imp fun p w => w.imp fun q w a => (w a).imp fun u w => w.imp fun u' w => w.imp fun bt w => h _ _ w) w
  · obtain ⟨⟨j0, p0, u0⟩, e0, _, eN, w⟩ := w
    obtain ⟨v, ev⟩ : ∃ v, σ[i]? = some (some v) := by
      simp only [nodeOf] at e0
      split at e0
      · obtain ⟨v, ev, _⟩ := h.ok i _ (by assumption); exact ⟨v, ev⟩
      · obtain ⟨v, ev, _⟩ := h.ok i _ (by assumption); exact ⟨v, ev⟩
      · cases e0
    obtain ⟨b0, t0, a0, a1, d1, d2, d3, rfl, d5, d6⟩ := nodeOf_ok h (r := .o i) ev e0
    cases u0 with
    | d _ => cases eN
    | n a2 bb ts =>
      cases bb with
      | true => cases eN
      | false =>
        cases d6 with
        | @n _ _ ys _ hy qy =>
          refine ⟨_, ev, .inl ⟨rfl, ys.map fun x => x.2, SqL.of (show H a1 = some (.lst (ys.map fun x => x.2)) from hy)⟩, ?_⟩
          refine s.run _ _ _ _ _ _ _ _ _ hx h w fun B1 H1 y r δ1 s1 h1 q1 w1 => ?_
          obtain ⟨⟨r', δ2⟩, e1, ⟨j, p, u⟩, e2, w1⟩ := w1
          obtain ⟨B2, s2, h2, q2, no⟩ := frzN_ok h1 q1 e1
          obtain ⟨b3, t3, a3, a4, g1, g2, g3, ga, g5, g6⟩ := nodeOf_ok h2 (r := .o i) ev e2
          cases ga
          obtain ⟨ax, sp⟩ := childOf_ok q2
          obtain ⟨uc, e3, u', e4, ⟨b', t'⟩, e5, w1⟩ := w1 ax
          have e6 := ownT_at e5
          rw [show δ2[(j, p, u).1]? = δ2[j]? from rfl, g1] at e6
          cases e6
          obtain ⟨qu, nu, fu⟩ := sp uc e3
          obtain ⟨hBF, qt, nt, et⟩ := h2.own_up g1 g2
          have off : ∀ y, y ∈ uc.fp → y ∉ t3.fp := fun y f g => rfoot_off q2 j b3 _ a3 y g1 g2 (.inr g) (fu y f)
          have nn := nodup_atp g3 nt
          cases u with
          | d _ => cases e4
          | n a5 bb ts5 =>
            cases bb with
            | true => cases e4
            | false =>
              simp only [appN] at e4
              split at e4
              · rename_i hlt
                cases e4
                cases g5
                cases g6 with
                | @n _ _ zs _ hz qz =>
                  rw [fp_n] at nn
                  obtain ⟨na, nts⟩ := List.nodup_cons.mp nn
                  have ap : ∀ z, z ∈ uc.fp → z ∉ (OT.n a1 false ts5).fp := fun z f g => off z f (at_fp g3 g)
                  have nau : a1 ∉ uc.fp := fun z => ap _ z (by rw [fp_n]; exact List.mem_cons_self ..)
                  have apu : ∀ p, p ∈ uc.fp → p ∉ OT.fps ts5 := fun p f z => ap p f (by rw [fp_n]; exact List.mem_cons_of_mem _ z)
                  have hz' : H1 a1 = some (.lst (zs.map fun x => x.2)) := hz
                  refine ⟨a1, zs.map fun x => x.2, y, rfl, rfl, hz', by rw [List.length_map, qz.len]; exact hlt, ?_⟩
                  have ef : OT.fps (ts5 ++ [((.inl 0 : Key), uc)]) = OT.fps ts5 ++ uc.fp := by rw [fps_append, fps_cons, fps_nil, List.append_nil]
                  refine k B2 _ .non (.d .none) _ (s1.trans s2) (node_set (o := .lst ((zs.map fun x => x.2) ++ [y])) h2 q2 g1 g2 g3 rfl rfl (.n (b := false) (ys := zs ++ [((.inl 0 : Key), y)]) ?_ (otks_app (qu.mono (Same.refl _) fun p f => upd_ne fun z => by subst z; exact nau f) (qz.mono (Same.refl _) fun p f => upd_ne fun z => by subst z; exact na f))) ?_ fun z f => ?_) .non w1
                  · rw [upd_same]; show some (HO.lst _) = some (HO.lst _); rw [List.map_append]; rfl
                  · rw [fp_n, ef]
                    refine List.nodup_cons.mpr ⟨fun z => ?_, List.nodup_append.mpr ⟨nts, nu, fun x f y f' z => ?_⟩⟩
                    · rcases List.mem_append.mp z with z | z
                      · exact na z
                      · exact nau z
                    · subst z; exact apu x f' f
                  · rw [fp_n, ef] at f
                    rw [fp_n]
                    rcases List.mem_cons.mp f with rfl | f
                    · exact .inl (List.mem_cons_self ..)
                    · rcases List.mem_append.mp f with f | f
                      · exact .inl (List.mem_cons_of_mem _ f)
                      · exact .inr (fu z f)
              · cases e4
end
end DL
set_option Elab.async false
set_option linter.all false
set_option maxRecDepth 100000
set_option maxHeartbeats 1000000
set_option autoImplicit false
namespace DL
open PySem PySem.Spec PyProof.Rows L2
mutual
def OT.data : OT → Option PyData
  | .d x => some x
  | .n _ true _ => none
  | .n _ false ts => (OT.datas ts).map .list
def OT.datas : List (Key × OT) → Option (List PyData)
  | [] => some []
  | (_, t) :: r => t.data.bind fun x => (OT.datas r).map fun xs => x :: xs
end
mutual
theorem data_dd {B B' H : Hp} (s : Same B B') : ∀ {v : V} {t : OT} {d : PyData}, OTk B H v t → (∀ p, p ∈ t.fp → B' p = H p) → t.data = some d → DD B' v d
  | _, .d x, d, .d q, _, e => by rw [OT.data] at e; cases e; exact q.mono s
  | _, .n a true ts, d, .n h q, _, e => by rw [OT.data] at e; cases e
  | _, .n a false ts, d, .n (ys := ys) h q, f, e => by
    rw [OT.data] at e
    obtain ⟨ds, e1, e⟩ := Option.map_eq_some_iff.mp e
    cases e
    exact .lst (.inl ((f a (by rw [fp_n]; exact List.mem_cons_self ..)).trans h)) (datas_dd s q (fun p z => f p (by rw [fp_n]; exact List.mem_cons_of_mem _ z)) e1)
theorem datas_dd {B B' H : Hp} (s : Same B B') : ∀ {ys : List (Key × V)} {ts : List (Key × OT)} {ds : List PyData}, OTks B H ys ts → (∀ p, p ∈ OT.fps ts → B' p = H p) → OT.datas ts = some ds → DDs B' (ys.map fun x => x.2) ds
  | _, [], _, .nil, _, e => by rw [OT.datas] at e; cases e; exact .nil
  | _, (k, t) :: r, _, .cons q qr, f, e => by
    rw [OT.datas] at e
    obtain ⟨x, e1, e⟩ := Option.bind_eq_some_iff.mp e
    obtain ⟨xs, e2, e⟩ := Option.map_eq_some_iff.mp e
    cases e
    exact .cons (data_dd s q (fun p z => f p (by rw [fps_cons]; exact List.mem_append_left _ z)) e1) (datas_dd s qr (fun p z => f p (by rw [fps_cons]; exact List.mem_append_right _ z)) e2)
end
def frzT (δ : SEnv) (i : Nat) : Option SEnv := match δ[i]? with
  | some (some (.o b (.ot (.n _ false ts)))) => (OT.datas ts).map fun ds => δ.set i (some (.o b (.l ds)))
  | _ => none
section
variable {K : PySem.W.Frag} {F B H : Hp} {vs : List V} {σ : L2.St} {δ : SEnv}
theorem frzT_ok {i : Nat} {δ' : SEnv} (h : Rep K F B H vs σ δ) (e : frzT δ i = some δ') : ∃ B', Same B B' ∧ Rep K F B' H vs σ δ' := by
  unfold frzT at e
  split at e
  · rename_i b a ts ei
    obtain ⟨ds, e1, e⟩ := Option.map_eq_some_iff.mp e
    subst e
    obtain ⟨v, ev, a0, rfl, hBF, q, nd0, er⟩ := h.ok i _ ei
    cases er
    cases q with
    | @n _ _ ys _ hy qy =>
      rw [fp_n] at nd0
      obtain ⟨na, nts⟩ := List.nodup_cons.mp nd0
      have ft : ∀ p, p ∈ OT.fps ts → Foot H a (.ot (.n a false ts)) p := fun p f => .inr (by rw [fp_n]; exact List.mem_cons_of_mem _ f)
      have sB : Same B (layF B H fun p => p ∈ OT.fps ts) := fun p u e => by
        by_cases f : p ∈ OT.fps ts
        · have := (hBF p (ft p f)).1; rw [e] at this; cases this
        · rw [layF_out f]; exact e
      refine ⟨layF B H fun p => p ∈ OT.fps ts, sB, ?_⟩
      have hi : i < δ.length := (List.getElem?_eq_some_iff.mp ei).1
      have off : ∀ {j : Nat} {b2 : Bool} {c2 : Cont} {a2 p : Addr}, j ≠ i → δ[j]? = some (some (.o b2 c2)) → σ[j]? = some (some (.ref a2)) → Foot H a2 c2 p → ¬ p ∈ OT.fps ts := fun n z e2 f g => n (h.apart _ _ _ _ _ _ _ _ _ z ei e2 ev f (ft _ g))
      refine ⟨fun p u e => ?_, h.sf, fun p u e => ?_, by rw [List.length_set]; exact h.len, fun j s z => ?_, fun j k a1 a2 p b1 c1 b2 c2 z1 z2 z3 z4 f1 f2 => ?_, fun j c z => ?_, fun p ps e => ?_⟩
      · by_cases f : p ∈ OT.fps ts
        · rw [layF_in f] at e; exact e
        · rw [layF_out f] at e; exact h.sb p u e
      · by_cases f : p ∈ OT.fps ts
        · have := (hBF p (ft p f)).2; rw [e] at this; cases this
        · rw [layF_out f]; exact h.dj p u e
      · rcases set_get z with ⟨ej, z'⟩ | ⟨n, z'⟩
        · subst ej; cases z'
          refine ⟨_, ev, a, rfl, fun p f => ?_, ys.map fun x => x.2, (show H a = some (.lst (ys.map fun x => x.2)) from hy), datas_dd sB qy (fun p f => layF_in f) e1⟩
          cases f
          have g := hBF a (foot_self rfl)
          exact ⟨by rw [layF_out na]; exact g.1, g.2⟩
        · obtain ⟨v, e2, q2⟩ := h.ok j s z'
          refine ⟨v, e2, ?_⟩
          cases s with
          | d d => exact DD.mono sB q2
          | w d => exact q2
          | o b2 c2 =>
            obtain ⟨a2, e3, hBF2, q3⟩ := q2
            subst e3
            refine ⟨a2, rfl, fun p f => ⟨?_, (hBF2 p f).2⟩, q3.mono sB fun _ _ => rfl⟩
            rw [layF_out (off n z' e2 f)]; exact (hBF2 p f).1
      · have fi : ∀ {p : Addr}, Foot H a (.l ds) p → Foot H a (.ot (.n a false ts)) p := fun f => .inl f
        rcases set_get z1 with ⟨ej, y1⟩ | ⟨nj, y1⟩
        · rcases set_get z2 with ⟨ek, y2⟩ | ⟨nk, y2⟩
          · rw [ej, ek]
          · cases y1; subst ej
            rw [ev] at z3; cases z3
            exact h.apart _ k _ a2 p _ _ _ c2 ei y2 ev z4 (fi f1) f2
        · rcases set_get z2 with ⟨ek, y2⟩ | ⟨nk, y2⟩
          · cases y2; subst ek
            rw [ev] at z4; cases z4
            exact h.apart j _ a1 _ p b1 c1 _ _ y1 ei z3 ev f1 (fi f2)
          · exact h.apart j k a1 a2 p b1 c1 b2 c2 y1 y2 z3 z4 f1 f2
      · rcases set_get z with ⟨ej, z'⟩ | ⟨n, z'⟩
        · subst ej; cases z'; exact h.bor _ _ ei
        · exact h.bor j c z'
      · by_cases f : p ∈ OT.fps ts
        · rw [layF_in f] at e
          obtain ⟨b2, zs, e2⟩ := qy.thereN f
          rw [e2] at e; cases b2 <;> cases e
        · rw [layF_out f] at e; exact h.nt p ps e
  · cases e
end
def wFrzS (i : Nat) (w : WS) : WS := fun d δ => ob (frzT δ i) fun δ' => w d δ'
section
variable {S : Sg}
theorem ds_frzS {e : Stmt} {w : WS} {i : Nat} (h : DS S e w) : DS S e (wFrzS i w) := by
  obtain ⟨t, p, s⟩ := h
  refine ⟨t, p, ⟨fun d d' δ h w => w.imp fun δ' w => s.mono _ _ _ h w, fun F B H vs σ δ D d hx h k w => ?_⟩⟩
  obtain ⟨δ', e, w⟩ := w
  obtain ⟨B', s1, h'⟩ := frzT_ok h e
  exact s.run _ _ _ _ _ _ _ _ (hx.up s1) h' (k.up s1) w
end
def lenX : List Vw → Option Rv
  | [.xl n] => some (.val (.int n))
  | vs => lenF vs
theorem cs_lenX {S : Sg} : CallS S (.builtin "len") lenX := by
  rintro c hc pins s σ H xs us Q I rv ⟨B, as, r, sB, ov, e, k⟩
  unfold lenX at e
  split at e
  · cases e
    obtain ⟨v, rfl, a, zs, rfl, hz, rfl⟩ := ovs1 ov
    exact call_len pins s σ H _ us Q I rv ⟨_, _, rfl, .inl ⟨zs, SqL.of hz, rfl⟩, k _ (.int _)⟩
  · exact cs_len c hc pins s σ H xs us Q I rv ⟨B, as, r, sB, ov, e, k⟩
end DL
set_option Elab.async false
set_option linter.all false
set_option maxRecDepth 100000
set_option maxHeartbeats 1000000
set_option autoImplicit false
namespace DL
open PySem PySem.Spec PyProof.Rows L2
section
variable {K : PySem.W.Frag} {F F' B H : Hp} {vs : List V} {σ : L2.St} {δ : SEnv}
theorem Rep.unframe (h : Rep K F' B H vs σ δ) (up : ∀ p o, F p = some o → F' p = some o) : Rep K F B H vs σ δ := by
  refine ⟨h.sb, fun p o e => h.sf p o (up p o e), fun p o e => h.dj p o (up p o e), h.len, fun i s e => ?_, h.apart, h.bor, h.nt⟩
  obtain ⟨v, e1, q⟩ := h.ok i s e
  refine ⟨v, e1, ?_⟩
  cases s with
  | d d => exact q
  | w d => exact q
  | o b c =>
    obtain ⟨a, e2, e3, q2⟩ := q
    refine ⟨a, e2, fun p f => ⟨(e3 p f).1, ?_⟩, q2⟩
    cases e4 : F p with
    | none => rfl
    | some o => have := up p o e4; rw [(e3 p f).2] at this; cases this
theorem Rep.offF (h : Rep K F' B H vs σ δ) {p : Addr} {o : HO} (e : F' p = some o) : Off H σ δ fun q => q = p := fun i b c a q e1 e2 f z => by
  have := ((h.own_up e1 e2).1 _ f).2
  subst z; rw [e] at this; cases this
end
def emps (as : List Addr) : List (Addr × HO) := as.map fun a => (a, HO.lst [])
theorem emps_snoc {as : List Addr} {a : Addr} {H : Hp} : layL H (emps (as ++ [a])) = upd (layL H (emps as)) a (.lst []) := by
  unfold emps layL
  rw [List.map_append, List.foldl_append]; rfl
theorem upd_comm {H : Hp} {a b : Addr} {x y : HO} (n : a ≠ b) : upd (upd H a x) b y = upd (upd H b y) a x := by
  funext p
  by_cases h1 : p = a
  · subst h1; rw [upd_same, upd_ne n, upd_same]
  · by_cases h2 : p = b
    · subst h2; rw [upd_same, upd_ne h1, upd_same]
    · rw [upd_ne h2, upd_ne h1, upd_ne h1, upd_ne h2]
def wLcE (wi : WI) (G : WG) (own : List Nat) : WE := fun Ex δ P => wi Ex δ fun ds δ1 => (∀ d ∈ ds, (G d (forgetAll δ1 own)).isSome = true) ∧ ds.length ≤ 100000 ∧ ∀ (as : List Addr) (b : Addr), as.length = ds.length → P (.n (.ot (.n b false (as.map fun a => ((.inl 0 : Key), OT.n a false []))))) (restore δ1 (forgetAll δ1 own) own)
theorem sim_lcE {K : PySem.W.Frag} {E : XK} {ti : TI} {tg' : TG} {wi : WI} {G : WG} {own ts : List Nat} (si : ISim K E ti wi) (sg : GSim K tg' G ts) (hts' : ∀ i ∈ ts, i ∈ own) : ESim K E (tLc ti tg' tYes (tLst tNil) own) (wLcE wi G own) := by
  refine ⟨fun Ex Ex' δ P P' hx h w => si.mono _ _ _ _ _ hx (fun ds δ1 w => ⟨w.1, w.2.1, fun as b e => h _ _ (w.2.2 as b e)⟩) w, fun Ex F B H vs σ δ P Q hx h w k => ?_⟩
  refine si.run _ _ _ _ _ _ _ _ _ hx h w fun B1 H1 J ds δ1 s1 h1 q1 w1 => ?_
  obtain ⟨wg, wl, wp⟩ := w1
  intro D hD
  have hF : F D = none := nof h1.sf hD
  refine ⟨fun i m H => m = ds.length - i ∧ i ≤ ds.length ∧ ∃ B' as, Same B1 B' ∧ as.length = i ∧ (D :: as).Nodup ∧ (∀ a ∈ as, F a = none) ∧ Rep K (upd (layL F (emps as)) D (.lst (as.map V.ref))) B' H vs σ (forgetAll δ1 own), ⟨ds.length, by simp, Nat.zero_le _, B1, [], Same.refl _, rfl, by simp, (fun a m => by cases m), ?_⟩, ?_⟩
  · exact (h1.lay hD _).dim (by rw [forgetAll_length]; exact h1.len) fun i s e => ⟨(forgetAll_get e).1, rfl⟩
  rintro i m H2 ⟨rfl, hi, B2, as, s2, la, nd, fa, h2⟩
  have nDas : D ∉ as := (List.nodup_cons.mp nd).1
  have ndas : as.Nodup := (List.nodup_cons.mp nd).2
  by_cases hlt : i < ds.length
  · refine .inr ⟨q1.go i H2 (s2.trans h2.sb) hlt, fun H' => ∃ B' as, Same B1 B' ∧ as.length = i + 1 ∧ (D :: as).Nodup ∧ (∀ a ∈ as, F a = none) ∧ Rep K (upd (layL F (emps as)) D (.lst (as.map V.ref))) B' H' vs σ (forgetAll δ1 own), fun H' ⟨B', as', t⟩ => ⟨ds.length - (i + 1), by omega, rfl, hlt, B', as', t⟩, fun x H' y => ?_⟩
    have hw : Rep K (upd (layL F (emps as)) D (.lst (as.map V.ref))) B2 H2 vs (wipe σ own) (forgetAll δ1 own) := by
      have := h2.wiped own
      rw [forgetAll_twice] at this; exact this
    obtain ⟨B3, s3, g3, q3⟩ := q1.yld i H2 B2 x H' ds[i] s2 h2.sb y (by simp [hlt])
    have h3 := g3 _ _ _ _ _ hw
    obtain ⟨δ3, e3⟩ := Option.isSome_iff_exists.mp (wg ds[i] (List.getElem_mem hlt))
    refine sg.run _ B3 H' vs (wipe σ own) _ δ3 x _ _ h3 q3 e3 fun σ2 h4 b2 => ⟨by rw [b2.2 own hts', wipe_wipe], ?_⟩
    simp only [tYes, if_true]
    refine ⟨Nat.zero_le _, fun a ha => ?_⟩
    have h5 : Rep K (upd (layL F (emps as)) D (.lst (as.map V.ref))) B3 H' vs σ (forgetAll δ1 own) := by
      have := h3.unwiped (σ := σ) (is := own) (by rw [wipe_wipe]) (by rw [wipe_length])
      rw [forgetAll_twice] at this; exact this
    have hDs : H' D = some (.lst (as.map V.ref)) := h5.sf D _ upd_same
    have naD : a ≠ D := fun z => by subst z; rw [ha] at hDs; cases hDs
    have fr : (upd (layL F (emps as)) D (.lst (as.map V.ref))) a = none := nof h5.sf ha
    have faa : layL F (emps as) a = none := by rw [upd_ne naD] at fr; exact fr
    have naas : a ∉ as := fun m => by
      have e := layL_at (H := F) (L := emps as) (z := (a, HO.lst [])) (by unfold emps; rw [List.map_map]; exact (show (as.map fun a => a).Nodup by rw [List.map_id']; exact ndas)) (List.mem_map.mpr ⟨a, m, rfl⟩)
      rw [faa] at e; cases e
    have fFa : F a = none := by
      rw [layL_old] at faa
      · exact faa
      · intro z hz e
        obtain ⟨a', ha', rfl⟩ := List.mem_map.mp hz
        exact naas (e ▸ ha')
    have h6 := h5.lay ha (.lst [])
    rw [upd_comm (Ne.symm naD)] at h6
    have h7 := h6.relay (o' := .lst ((as.map V.ref) ++ [V.ref a]))
    refine ⟨as.map V.ref, by rw [upd_ne (Ne.symm naD)]; exact hDs, by rw [List.length_map, la, sizeLine_eq]; omega, B3, as ++ [a], s2.trans s3, by rw [List.length_append, la]; rfl, ?_, ?_, ?_⟩
    · refine List.nodup_cons.mpr ⟨fun m => ?_, List.nodup_append.mpr ⟨ndas, by simp, fun x mx y my e => ?_⟩⟩
      · rcases List.mem_append.mp m with m | m
        · exact nDas m
        · rw [List.mem_singleton] at m; exact naD m.symm
      · rw [List.mem_singleton] at my; subst my; subst e; exact naas mx
    · intro z m
      rcases List.mem_append.mp m with m | m
      · exact fa z m
      · rw [List.mem_singleton] at m; subst m; exact fFa
    · rw [emps_snoc, List.map_append]
      exact h7
  · have e : i = ds.length := by omega
    subst e
    refine .inl ⟨q1.stop _ H2 (s2.trans h2.sb) (Nat.le_refl _), ?_⟩
    have inF : ∀ a ∈ as, (upd (layL F (emps as)) D (.lst (as.map V.ref))) a = some (.lst []) := fun a m => by
      have n : a ≠ D := fun z => nDas (z ▸ m)
      rw [upd_ne n]
      exact layL_at (H := F) (L := emps as) (z := (a, HO.lst [])) (by unfold emps; rw [List.map_map]; exact (show (as.map fun a => a).Nodup by rw [List.map_id']; exact ndas)) (List.mem_map.mpr ⟨a, m, rfl⟩)
    have inD : (upd (layL F (emps as)) D (.lst (as.map V.ref))) D = some (.lst (as.map V.ref)) := upd_same
    have h3 : Rep K F B2 H2 vs σ (forgetAll δ1 own) := h2.unframe fun p o e => by
      have np : p ≠ D := fun z => by subst z; rw [hF] at e; cases e
      rw [upd_ne np, layL_old]
      · exact e
      · intro z hz e2
        obtain ⟨a', ha', rfl⟩ := List.mem_map.mp hz
        have := fa a' ha'
        have e2 : a' = p := e2
        subst e2; rw [e] at this; cases this
    have h4 : Rep K F B2 H2 vs σ (restore δ1 (forgetAll δ1 own) own) := Rep.restored h1 s2 h3
    have efp : ∀ {as : List Addr}, OT.fps (as.map fun a => ((.inl 0 : Key), OT.n a false [])) = as := by
      intro as
      induction as with
      | nil => exact fps_nil
      | cons a as ih => rw [List.map_cons, fps_cons, fp_n, fps_nil, ih]; rfl
    have qs : ∀ {bs : List Addr}, (∀ a ∈ bs, a ∈ as) → OTks B2 H2 ((bs.map V.ref).map fun v => ((.inl 0 : Key), v)) (bs.map fun a => ((.inl 0 : Key), OT.n a false [])) := by
      intro bs
      induction bs with
      | nil => intro _; exact .nil
      | cons a bs ih =>
        intro hm
        refine .cons (.n (b := false) (ys := []) ?_ .nil) (ih fun x m => hm x (List.mem_cons_of_mem _ m))
        exact h2.sf a _ (inF a (hm a (List.mem_cons_self ..)))
    have foot : ∀ p, Foot H2 D (.ot (.n D false (as.map fun a => ((.inl 0 : Key), OT.n a false [])))) p → p = D ∨ p ∈ as := fun p f => by
      rcases f with f | f
      · exact .inl f
      · rw [fp_n, efp] at f; exact List.mem_cons.mp f
    refine k B2 H2 (.ref D) (.n (.ot (.n D false (as.map fun a => ((.inl 0 : Key), OT.n a false []))))) _ (s1.trans s2) h4 ⟨D, rfl, fun p f => ?_, ⟨.n (b := false) (ys := (as.map V.ref).map fun v => ((.inl 0 : Key), v)) ?_ (qs fun _ m => m), ?_, rfl⟩, ?_⟩ (wp as D la)
    · rcases foot p f with rfl | m
      · exact ⟨h2.dj _ _ inD, hF⟩
      · exact ⟨h2.dj _ _ (inF p m), fa p m⟩
    · rw [h2.sf D _ inD]
      show some (HO.lst _) = some (HO.lst _)
      rw [List.map_map]
      have : (as.map V.ref).map ((fun (x : Key × V) => x.2) ∘ fun v => ((.inl 0 : Key), v)) = as.map V.ref := by
        rw [show ((fun (x : Key × V) => x.2) ∘ fun v => ((.inl 0 : Key), v)) = id from rfl, List.map_id]
      rw [this]
    · rw [fp_n, efp]; exact nd
    · have off2 : Off H2 σ (forgetAll δ1 own) (Foot H2 D (.ot (.n D false (as.map fun a => ((.inl 0 : Key), OT.n a false []))))) := fun i b c a p e1 e2 f f' => by
        rcases foot p f' with rfl | m
        · exact h2.offF inD i b c a _ e1 e2 f rfl
        · exact h2.offF (inF p m) i b c a p e1 e2 f rfl
      have := off_restore (δ1 := δ1) (δ' := forgetAll δ1 own) (us := own) (by rw [forgetAll_twice]; exact off2) own
      rw [forgetAll_twice] at this
      exact this
section
variable {S : Sg}
theorem ds_setLcE {i : Nat} {y : Str} {py : Pos} {tg iter : Expr} {scope : Scope} {own : List (Str × Nat)} {pos spos lpos : Pos} {wi : WI} {G : WG} {ts : List Nat} (hCX : CXok S.CX) (hy : S.N[i]? = some y) (hyl : S.sc.names.lookup y = some .local) (hk : S.sc.kind = .function)
    (hln : (py.line == pos.line) = true) (hnn : (scope.names.any fun (n, k) => n == y && (k == .local || k == .cell)) = false)
    (hi : DI S tg iter wi) (hblk : blkC S.N S.sc scope own = true) (hg : DG (S.blk scope) tg G ts) (hts : ts.all (fun i => (own.map (·.2)).contains i) = true) (hs : ∀ env x, foldedSetIterable iter env x = pure x := by intro _ _; rfl) :
    DS S (.Assign [.Name y py] (.ListComp (.List [] lpos) [⟨tg, iter, [], 0⟩] scope pos) spos) (wSet i (wLcE wi G (own.map (·.2)))) := by
  obtain ⟨ti, pi, si⟩ := hi
  obtain ⟨tg', pg, sg⟩ := hg
  have hts' : ∀ i ∈ ts, i ∈ own.map (·.2) := fun i hi => by
    have := List.all_eq_true.mp hts i hi
    simpa using this
  have sl := sim_lcE si sg hts'
  refine ⟨tAsg (tLc ti tg' tYes (tLst tNil) (own.map (·.2))) (gName i), fun c hc => ?_, ⟨fun d d' δ h w => sl.mono _ _ _ _ _ h.ex (fun r δ1 w => w.imp fun δ2 w => h.nx _ w) w, fun F B H vs σ δ D d hx h k w => ?_⟩⟩
  · refine ps_setLc (X := S.g.cx c) hc.calm (by show c.N.Nodup; rw [hc.hN]; exact hc.nd) (by show c.N[i]? = _; rw [hc.hN]; exact hy) (by show c.env.scope.names.lookup y = _; rw [hc.hs]; exact hyl) (sw_true (by show c.env.scope.kind = _; rw [hc.hs]; exact hk) (by show c.env.scope.names.lookup y = _; rw [hc.hs]; exact hyl) hln hnn)
      (pi c hc) (by show BlkOk c.N c.env.scope scope own; rw [hc.hN, hc.hs]; exact blkOk_by hblk) (fun s H C cl fp => pg _ (blk_ok hCX hc s H C cl fp)) (fun s H C cl fp => pts_nil) (fun s H C cl fp => pe_lst pa_nil) (hs _)
  · refine sl.run _ _ _ _ _ _ _ _ _ hx h w fun B1 H1 v r δ1 s1 h1 q1 w1 => ?_
    obtain ⟨δ2, e1, w1⟩ := w1
    obtain ⟨B2, s2, h2⟩ := asgn_ok h1 q1 e1
    exact k.nx B2 _ H1 δ2 (s1.trans s2) h2 w1
end
end DL
set_option Elab.async false
set_option linter.all false
set_option maxRecDepth 100000
set_option maxHeartbeats 1000000
set_option autoImplicit false
namespace DL
open PySem PySem.Spec PyProof.Rows L2
section
variable {K : PySem.W.Frag} {F B H : Hp} {vs : List V} {σ : L2.St} {δ : SEnv}
theorem rfoot_newO {v : V} {r : R} {p q : Addr} {o : HO} (z : RepR K F B H σ δ v r) (hp : H p = none) : rfoot (upd H p o) v r q ↔ rfoot H v r q := by
  cases r with
  | n c =>
    obtain ⟨a, rfl, hBF, qc, off⟩ := z
    have fe := foot_upd (o := o) (q := q) qc hp
    exact ⟨fun ⟨a', e, f⟩ => by cases e; exact ⟨a, rfl, fe.mp f⟩, fun ⟨a', e, f⟩ => by cases e; exact ⟨a, rfl, fe.mpr f⟩⟩
  | _ => exact Iff.rfl
theorem repr_newO {v : V} {r : R} {p : Addr} {o : HO} (h : Rep K F B H vs σ δ) (z : RepR K F B H σ δ v r) (hp : H p = none) : RepR K F B (upd H p o) σ δ v r := by
  cases r with
  | d x => exact z
  | w x => exact z
  | o i => exact z
  | n c =>
    obtain ⟨a, rfl, hBF, qc, off⟩ := z
    refine ⟨a, rfl, fun q f => hBF q ((foot_upd qc hp).mp f), qc.mono (Same.refl _) fun q f => upd_ne (foot_new (o := o) qc hp f), fun i b c' a' q e1 e2 f f' => off i b c' a' q e1 e2 ?_ ((foot_upd qc hp).mp f')⟩
    exact (foot_upd (h.own_up e1 e2).2 hp).mp f
theorem repo_newO {ws : List V} {rs : List R} {p : Addr} {o : HO} (h : Rep K F B H vs σ δ) (z : RepO K F B H σ δ ws rs) (hp : H p = none) : RepO K F B (upd H p o) σ δ ws rs := by
  refine ⟨Paired.mapP z.1 fun v r q => ⟨repr_newO h q.1 hp, q.2⟩, fun i j v w r r' q ne e1 e2 e3 e4 f f' => ?_⟩
  obtain ⟨y, e5, q1⟩ := paired_at z.1 e1
  rw [e3] at e5; cases e5
  obtain ⟨y, e6, q2⟩ := paired_at z.1 e2
  rw [e4] at e6; cases e6
  exact z.2 i j v w r r' q ne e1 e2 e3 e4 ((rfoot_newO q1.1 hp).mp f) ((rfoot_newO q2.1 hp).mp f')
end
section
variable {S : Sg}
theorem ds_parU {tgs es : List Expr} {k n k2 : Nat} {is : List Nat} {pt pt2 pos : Pos} {wr : WA} (h : DAO S es wr) (hg : DNs S tgs is) (hl : is.length = n) (hz : n ≤ 10) (hn : ∀ env, (assignEach tgs env).length = n := by intro _; rfl) (hst : ∀ env, (assignEach tgs env).findIdx? (·.1) = none := by intro _; rfl)
    (hs : ∀ env, swapsWithSole [.Tuple tgs k pt] (.Tuple es k2 pt2) pos.line env = pure false := by intro _; rfl) (hw : ∀ env : Env, swappedStores [.Tuple tgs k pt] (.Tuple es k2 pt2) { env with scope := S.sc } = pure none := by intro _; rfl) (h1 : ∀ env, (assignEach [.Tuple tgs k pt] env).map (·.2) = [assign (.Tuple tgs k pt) env] := by intro _; rfl) :
    DS S (.Assign [.Tuple tgs k pt] (.Tuple es k2 pt2) pos) (wParO is wr) := by
  obtain ⟨t, p, s⟩ := h
  refine ⟨tAsg (tTup t) (gTup S.g.K n (gNames is)), fun c hc => ps_asg (pe_tup (p c hc)) (pg_tup (X := S.g.cx c) hc.calm (hg c hc) (hn _) (hst _)) (hs _) (by have q := hw c.env; rw [← hc.hs] at q; exact q) (h1 _), ⟨fun d d' δ h w => s.mono _ _ _ _ _ h.ex (fun rs δ1 w => w.imp fun p w => h.nx _ w) w, fun F B H vs σ δ D d hx h k w => ?_⟩⟩
  refine s.run _ _ _ _ _ _ _ _ _ hx h w fun B1 H1 ws rs δ1 s1 h1 q1 w1 => ?_
  obtain ⟨δ2, e1, w1⟩ := w1
  have l := stNs_len e1
  have l2 := Paired.length q1.1
  refine ⟨by rw [l2, ← l, hl, sizeLine_eq]; omega, fun p hp => ?_⟩
  have h2 := h1.newO hp (.tup ws)
  have h3 := stNs_ok h2 (repo_newO h1 q1 hp) e1
  exact ⟨p, ws, rfl, .inl (.inl upd_same), by rw [l2, ← l, hl], gNames_run (by rw [l, l2]) (k.nx B1 _ _ _ s1 h3 w1)⟩
def wAsgP (ws : List WTG) (wr : WA) : WS := fun d δ => wr d.ex δ fun rs δ1 => (rs.length = ws.length ∧ rs.length ≤ 10) ∧ wTgs ws d.ex δ1 rs d.nx
theorem ds_asgP {tgs es : List Expr} {k n k2 : Nat} {ws : List WTG} {pt pt2 pos : Pos} {wr : WA} (h : DAO S es wr) (hg : DTgs S tgs ws) (hl : ws.length = n) (hn : ∀ env, (assignEach tgs env).length = n := by intro _; rfl) (hst : ∀ env, (assignEach tgs env).findIdx? (·.1) = none := by intro _; rfl)
    (hs : ∀ env, swapsWithSole [.Tuple tgs k pt] (.Tuple es k2 pt2) pos.line env = pure false := by intro _; rfl) (hw : ∀ env : Env, swappedStores [.Tuple tgs k pt] (.Tuple es k2 pt2) { env with scope := S.sc } = pure none := by intro _; rfl) (h1 : ∀ env, (assignEach [.Tuple tgs k pt] env).map (·.2) = [assign (.Tuple tgs k pt) env] := by intro _; rfl) :
    DS S (.Assign [.Tuple tgs k pt] (.Tuple es k2 pt2) pos) (wAsgP ws wr) := by
  obtain ⟨t, p, s⟩ := h
  obtain ⟨g, pg, sg⟩ := hg
  refine ⟨tAsg (tTup t) (gTup S.g.K n g), fun c hc => ps_asg (pe_tup (p c hc)) (pg_tup (X := S.g.cx c) hc.calm (pg c hc) (hn _) (hst _)) (hs _) (by have q := hw c.env; rw [← hc.hs] at q; exact q) (h1 _), ⟨fun d d' δ h w => s.mono _ _ _ _ _ h.ex (fun rs δ1 w => ⟨w.1, sg.mono _ _ _ _ _ _ h.ex h.nx w.2⟩) w, fun F B H vs σ δ D d hx h k w => ?_⟩⟩
  refine s.run _ _ _ _ _ _ _ _ _ hx h w fun B1 H1 xs rs δ1 s1 h1 q1 w1 => ?_
  obtain ⟨⟨l, hz⟩, w1⟩ := w1
  have l2 := Paired.length q1.1
  refine ⟨by rw [l2, sizeLine_eq]; omega, fun p hp => ?_⟩
  exact ⟨p, xs, rfl, .inl (.inl upd_same), by rw [l2, l, hl], sg.run _ _ _ _ _ _ _ _ _ _ _ (hx.up s1) (h1.newO hp (.tup xs)) (repo_newO h1 q1 hp).1 w1 fun B' σ' H' δ' s3 h3 w => k.nx B' σ' H' δ' (s1.trans s3) h3 w⟩
end
end DL
set_option Elab.async false
set_option linter.all false
set_option maxRecDepth 100000
set_option maxHeartbeats 1000000
set_option autoImplicit false
namespace DL
open PySem PySem.Spec PyProof.Rows L2
theorem mod_ge {a m : Int} (h : 0 < m) : 0 ≤ a % m := Int.emod_nonneg _ (by omega)
theorem mod_lt {a m : Int} (h : 0 < m) : a % m < m := Int.emod_lt_of_pos _ h
theorem small_of {a : Int} (h : 0 ≤ a) (h2 : a < 2147483648) : smallI a = true := decide_eq_true (by omega)
theorem mulI {a b : Int} (h : (smallI a || smallI b) = true) : mulF (.d (.int a)) (.d (.int b)) = some (.val (.int (a * b))) := by
  show (if smallI a || smallI b || _ then _ else _) = _
  rw [if_pos (by rw [h]; rfl)]
theorem eq_shaped {neg : Bool} {d e : PyData} (h : SeqAt.shaped d = true) (h2 : SeqAt.shaped e = true) : eqG neg (.d d) (.d e) = some (.val (.bool (if neg then !PyData.eqv d e else PyData.eqv d e))) := by
  show (if SeqAt.shaped d && SeqAt.shaped e || strs2 d e then _ else none) = _
  rw [if_pos (by rw [h, h2]; rfl)]
theorem ints_shaped (cs : List Int) : SeqAt.shaped (.list (cs.map .int)) = true := PySem.W.ke_shaped_ints cs
theorem atI_ok {α : Type} {xs : List α} {i : Int} (h0 : 0 ≤ i) (h1 : i < xs.length) : ∃ x, atI xs i = some x ∧ x ∈ xs := by
  obtain ⟨n, rfl⟩ := Int.eq_ofNat_of_zero_le h0
  have hn : n < xs.length := by omega
  exact ⟨xs[n], atI_nat (List.getElem?_eq_getElem hn), List.getElem_mem hn⟩
theorem mulB {a b : Int} (h : a.natAbs < 2 ^ 70) (h2 : b.natAbs < 2 ^ 300) : mulF (.d (.int a)) (.d (.int b)) = some (.val (.int (a * b))) := by
  show (if smallI a || smallI b || _ then _ else _) = _
  have l1 : a.natAbs.log2 < 80 := by
    by_cases z : a.natAbs = 0
    · rw [z]; decide
    · exact (Nat.log2_lt z).mpr (Nat.lt_trans h (by decide))
  have l2 : b.natAbs.log2 < 400 := by
    by_cases z : b.natAbs = 0
    · rw [z]; decide
    · exact (Nat.log2_lt z).mpr (Nat.lt_of_lt_of_le h2 (Nat.pow_le_pow_right (by decide) (by decide)))
  rw [if_pos (by rw [Bool.or_eq_true]; exact .inr (decide_eq_true (by omega)))]
/-- a draw in a body: the tape's slot is lent -/
theorem back_1 {δ : SEnv} {i : Nat} {b : Bool} {c c' : Cont} {s : Sl} (h : δ[i]? = some (some (.o b c))) (hs : c.simple = true) (hs' : c'.simple = true) {m : Int} : back δ (DL.clear δ [.o i, .d (.int m)]) [.o i, .d (.int m)] [.o true c', s] = some (δ.set i (some (.o b c'))) := by
  simp only [back, DL.clear, h, hs, hs']
  simp
theorem cut_map {α β : Type} (f : α → β) (xs : List α) (lo hi : Option Int) : cutL (xs.map f) lo hi = (cutL xs lo hi).map f := by
  unfold cutL
  rw [List.length_map, List.map_take, List.map_drop]
theorem scal_ints (ns : List Int) : (ns.map PyData.int).all scalar = true := by
  rw [List.all_eq_true]
  intro x m
  obtain ⟨n, _, rfl⟩ := List.mem_map.mp m
  rfl
theorem lc_of {α : Type} {g : α → PyData} {G : WG} {wt : WT} {we : WE} {own : List Nat} {P : List PyData → SEnv → Prop} {δf : SEnv} (p : α → Bool) (f : α → PyData) : ∀ {xs : List α} {acc : List PyData} {δ : SEnv}, forgetAll δ own = δf → acc.length + xs.length ≤ sizeLine →
    (∀ x ∈ xs, ∀ (Q : R → SEnv → Prop) (Q' : SEnv → Prop), (p x = true → ∀ δ1, forgetAll δ1 own = δf → Q (.d (f x)) δ1) → (p x = false → ∀ δ1, forgetAll δ1 own = δf → Q' δ1) →
      ob (G (g x) δf) fun δ1 => wt Ex0 δ1 fun b δ2 => if b = true then we Ex0 δ2 Q else Q' δ2) →
    (∀ δ', forgetAll δ' own = δf → P (acc ++ (xs.filter p).map f) δ') → wLcR G wt we own (xs.map g) acc δ P
  | [], acc, δ, h0, _, _, k => by have := k δ h0; rwa [List.filter_nil, List.map_nil, List.append_nil] at this
  | x :: xs, acc, δ, h0, hl, step, k => by
    rw [List.map_cons]
    unfold wLcR
    rw [h0]
    rw [List.length_cons] at hl
    refine step x (List.mem_cons_self ..) (fun r δ3 => ob (frz δ3 r) fun q => acc.length < sizeLine ∧ wLcR G wt we own (xs.map g) (acc ++ [q.1]) q.2 P) (fun δ2 => wLcR G wt we own (xs.map g) acc δ2 P) (fun hp δ1 h1 => ⟨_, rfl, by omega, ?_⟩) (fun hp δ1 h1 => ?_)
    · refine lc_of p f h1 (by rw [List.length_append, List.length_singleton]; omega) (fun y m => step y (List.mem_cons_of_mem _ m)) fun δ' h' => ?_
      have := k δ' h'
      rw [List.filter_cons, if_pos hp, List.map_cons] at this
      rw [List.append_assoc]; exact this
    · refine lc_of p f h1 (by omega) (fun y m => step y (List.mem_cons_of_mem _ m)) fun δ' h' => ?_
      have := k δ' h'
      rwa [List.filter_cons, if_neg (by rw [hp]; decide)] at this
theorem for_of {α : Type} {g : α → PyData} {G : WG} {body : WS} {xs : List α} {d : DEnds} (I : List α → SEnv → Prop) (fin : ∀ δ, I xs δ → d.nx δ)
    (step : ∀ (pre : List α) (x : α) (post : List α) (δ : SEnv) (Q : SEnv → Prop), xs = pre ++ x :: post → I pre δ → (∀ δ', I (pre ++ [x]) δ' → Q δ') → ob (G (g x) δ) fun δ1 => body { d with nx := Q, bk := d.nx, ct := Q } δ1) :
    ∀ {δ : SEnv}, I [] δ → wForR G body (xs.map g) d δ := by
  have go : ∀ (post pre : List α) (δ : SEnv), xs = pre ++ post → I pre δ → wForR G body (post.map g) d δ := by
    intro post
    induction post with
    | nil =>
      intro pre δ e h
      rw [List.append_nil] at e
      subst e
      exact fin _ h
    | cons x post ih =>
      intro pre δ e h
      exact step pre x post δ (wForR G body (post.map g) d) e h fun δ' h' => ih (pre ++ [x]) δ' (by rw [e, List.append_assoc]; rfl) h'
  intro δ h
  exact go xs [] δ rfl h
theorem call_d {pre : List Sl → Prop} {post : List Sl → R → List Sl → Prop} {wa : WE} {δ δ1 : SEnv} {d : PyData} {Ex : XP} {P : R → SEnv → Prop} (hm : ∀ Q : R → SEnv → Prop, Q (.d d) δ1 → wa Ex δ Q) (hp : pre [.d d]) (k : ∀ r ss', post [.d d] r ss' → ss' = [.d d] ∧ P r δ1) : wCall 1 (Ct pre post) [false] (wCons wa wNil) Ex δ P := by
  unfold wCall
  refine hm _ ?_
  refine ⟨_, rfl, ?_⟩
  refine ⟨([.d d], δ1), rfl, rfl, List.nodup_nil, ?_⟩
  refine ⟨[.d d], rfl, hp, fun r ss' q _ => ?_⟩
  obtain ⟨rfl, z⟩ := k r ss' q
  exact ⟨_, rfl, z⟩
theorem call_dd {pre : List Sl → Prop} {post : List Sl → R → List Sl → Prop} {wa wb : WE} {δ δ1 δ2 : SEnv} {d e : PyData} {Ex : XP} {P : R → SEnv → Prop} (hm : ∀ Q : R → SEnv → Prop, Q (.d d) δ1 → wa Ex δ Q) (hm2 : ∀ Q : R → SEnv → Prop, Q (.d e) δ2 → wb Ex δ1 Q) (hp : pre [.d d, .d e]) (k : ∀ r ss', post [.d d, .d e] r ss' → ss' = [.d d, .d e] ∧ P r δ2) : wCall 2 (Ct pre post) [false, false] (wCons wa (wCons wb wNil)) Ex δ P := by
  unfold wCall
  refine hm _ ?_
  refine ⟨_, rfl, ?_⟩
  refine hm2 _ ?_
  refine ⟨_, rfl, ?_⟩
  refine ⟨([.d d, .d e], δ2), rfl, rfl, List.nodup_nil, ?_⟩
  refine ⟨[.d d, .d e], rfl, hp, fun r ss' q _ => ?_⟩
  obtain ⟨rfl, z⟩ := k r ss' q
  exact ⟨_, rfl, z⟩
/-- one lent, one by its data -/
theorem call_od {pre : List Sl → Prop} {post : List Sl → R → List Sl → Prop} {wa : WE} {δ : SEnv} {i : Nat} {b : Bool} {c : Cont} {d : PyData} {Ex : XP} {P : R → SEnv → Prop} (e : δ[i]? = some (some (.o b c))) (hs : c.simple = true) (hm : ∀ Q : R → SEnv → Prop, Q (.d d) δ → wa Ex δ Q) (hp : pre [.o true c, .d d])
    (k : ∀ r ss', post [.o true c, .d d] r ss' → ∃ c', ss' = [.o true c', .d d] ∧ c'.simple = true ∧ P r (δ.set i (some (.o b c')))) : wCall 2 (Ct pre post) [true, false] (wCons (wVar i) (wCons wa wNil)) Ex δ P := by
  unfold wCall
  refine ⟨_, e, _, rfl, ?_⟩
  refine ⟨.o i, rfl, ?_⟩
  refine hm _ ?_
  refine ⟨.d d, rfl, ?_⟩
  refine ⟨([.o i, .d d], δ), rfl, rfl, ?_, ?_⟩
  · show ([i] : List Nat).Nodup
    exact List.nodup_cons.mpr ⟨by simp, List.nodup_nil⟩
  refine ⟨[.o true c, .d d], ?_, hp, fun r ss' q _ => ?_⟩
  · simp [slsOf, slOf, e, hs]
  · obtain ⟨c', rfl, h2, z⟩ := k r ss' q
    refine ⟨δ.set i (some (.o b c')), ?_, z⟩
    simp only [back, DL.clear, e, hs, h2]
    simp
end DL
set_option Elab.async false
set_option linter.all false
set_option maxRecDepth 100000
set_option maxHeartbeats 1000000
set_option autoImplicit false
namespace DL
open PySem PySem.Spec PyProof.Rows L2
abbrev pI (p : Int × Int) : PyData := .tuple [.int p.1, .int p.2]
abbrev cB' : Int := 1000000
def cd (p : Int × Int) : Int := p.1 * cB' + p.2
end DL
set_option Elab.async false
set_option linter.all false
set_option maxRecDepth 100000
set_option maxHeartbeats 1000000
set_option autoImplicit false
namespace DL
open PySem PySem.Spec PyProof.Rows L2 LamX
def spIni1 (K : PySem.W.Frag) (f1 : Str) : Sp := fun vs H Q _ => ∃ (a C : Addr) (v1 : V), vs = [.ref a, v1] ∧ OexC K C ∧ PySem.W.findIn K (.ref C) f1 = some none ∧ H a = some (exo a C none) ∧
  ∀ dx, H dx = none → dx ≠ a → Q .non (upd (upd H dx (exd dx [(f1, v1)])) a (exo a C (some dx)))
theorem ini1_ok {g : Gx} {qual : Str} {st : Stmt} {f : Addr} {fd : FuncData} {s p1 f1 : Str} {q1 q2 q3 q4 : Pos} (F : Fun g.K "__init__" qual st f fd) (S : FnScope [s, p1] [s, p1] (defScope st))
    (hb : defBody st = [.Assign [.Attribute (.Name s q1) f1 q2] (.Name p1 q3) q4])
    (d0 : (s == ("__debug__" : Str)) = false) (d1 : (p1 == ("__debug__" : Str)) = false) (c0 : (s == ("__classdict__" : Str)) = false) (c1 : (p1 == ("__classdict__" : Str)) = false) :
    FnOk g.P g.w g.K g.mg g.base CX0 1 f fd [s, p1] (spIni1 g.K f1) := by
  have vis : ∀ y ∈ [s, p1], Vis (defScope st) y := fun y hy => (S.par y hy).imp id .inl
  refine F.ok S (fun vs H Q E ⟨a, C, v1, e, _⟩ => by rw [e]; rfl) fun cdv A outer sh H vs Q E hr hsp => ?_
  obtain ⟨a, C, v1, rfl, T, n1, ea, k⟩ := hsp
  rw [hb]
  have v0 : ∀ {pos : Pos}, PE (cxOf CX0 g.P g.w g.K g.mg g.base [s, p1] qual (defScope st) f cdv A outer sh H E).nox (.Name s pos) (tVar 0) := pe_var (i := 0) rfl (vis s (by simp)) d0 c0
  have v1' : ∀ {pos : Pos}, PE (cxOf CX0 g.P g.w g.K g.mg g.base [s, p1] qual (defScope st) f cdv A outer sh H E).nox (.Name p1 pos) (tVar 1) := pe_var (i := 1) rfl (vis p1 (by simp)) d1 c1
  refine ⟨_, pss_one (ps_ost v0 v1'), ?_⟩
  refine ⟨v1, rfl, .ref a, rfl, a, C, rfl, T, n1, .inl ⟨ea, fun dx hd hne => ?_⟩⟩
  exact k dx hd hne
/-- a class of refusals, at C, whose making keeps its argument as f1 -/
structure RfC1 (g : Gx) (C : Addr) (f1 : Str) : Prop where
  ox : OexC g.K C
  n1 : PySem.W.findIn g.K (.ref C) f1 = some none
  ini : ∃ (fI : Addr) (fd : FuncData) (ps : List Str), PySem.W.findIn g.K (.ref C) "__init__" = some (some (.ref fI)) ∧ PySem.W.typeIn g.K (.ref fI) = some (.type "function") ∧ Binds g.K fd ps [] ∧ FnOk g.P g.w g.K g.mg g.base CX0 1 fI fd ps (spIni1 g.K f1)
def oneDt : List PyData → Option PyData
  | [a] => some a
  | _ => none
def wRaise1 (C : Addr) (f1 : Str) (wa : WA) : WS := fun d δ => wa d.ex δ fun rs δ1 => ob (frzs δ1 rs) fun p => ob (oneDt p.1) fun q => d.ex ⟨.ref C, [(f1, q)]⟩
section
variable {S : Sg}
theorem ds_raise1 {x f1 : Str} {C : Addr} {e : Expr} {es : List Expr} {wa : WA} {p pos pos' : Pos} (ht : S.thr = true) (R : RfC1 S.g C f1) (hk : 2 ≤ S.k) (hg : GlS S.sc x) (hm : S.g.mg x = some (.ref C)) (ha : DA S (e :: es) wa)
    (hs : ∀ env, starEach (e :: es) env = (false, eval e env) :: starEach es env := by intro _; rfl) (hpl : ∀ env, (backTo pos (starEach es env)).any (·.1) = false := by intro _; rfl) (hdb : (x == ("__debug__" : Str)) = false := by decide) :
    DS S (.Raise (some (.Call (.Name x p) (e :: es) [] pos)) none pos') (wRaise1 C f1 wa) := by
  obtain ⟨t, pa, s⟩ := ha
  obtain ⟨fI, fd, ps, h1, h2, h3, h4⟩ := R.ini
  refine ⟨fun _ σ H => tMkO C (spIni1 S.g.K f1) [] t σ H fun cls d H' => S.E cls d H', fun c hc => ps_raise hc.calm (hc.tk ht) (pmk_oex (X := S.g.cx c) R.ox h1 h2 h4 (hc.room.mono hk) h3 .nil pass0 (gl_of hc hg) hm (pa c hc) hdb (hs _) (hpl _)), ⟨fun d d' δ h w => ?_, fun F B H vs σ δ D d hx h k w => ?_⟩⟩
  · exact s.mono _ _ _ _ _ h.ex (fun rs δ1 w => w.imp fun p w => w.imp fun q w => h.ex _ w) w
  · refine s.run _ _ _ _ _ _ _ _ _ hx h w fun B1 H1 ws rs δ1 s1 h1' q1 w1 => ?_
    obtain ⟨⟨ds, δ2⟩, e1, d1, e2, w1⟩ := w1
    obtain ⟨B2, s2, hr2, dd⟩ := frzs_ok h1' q1 e1
    have ed : ds = [d1] := by
      have e3 : oneDt ds = some d1 := e2
      match ds, e3 with
      | [a], e3 => cases e3; rfl
    subst ed
    obtain ⟨v1, rfl, a1⟩ : ∃ v1, ws = [v1] ∧ DD B2 v1 d1 := by
      match ws, dd with
      | [v1], .cons a1 .nil => exact ⟨v1, rfl, a1⟩
    refine ⟨by show 1 ≤ 1000; decide, fun a ha => ⟨a, C, v1, rfl, R.ox, R.n1, upd_same, fun dx hdx hne => ⟨rfl, dx, [(f1, v1)], upd_same, ?_, ?_, ?_⟩⟩⟩
    · rw [upd_ne hne, upd_same]
    · rwa [upd_ne hne] at hdx
    · have hd1 : H1 dx = none := by rwa [upd_ne hne] at hdx
      have key : Same H1 (upd (L2.del (upd (upd (upd H1 a (exo a C none)) dx (exd dx [(f1, v1)])) a (exo a C (some dx))) a) dx (.xd [(f1, v1)])) := fun b o e => by
        have hb : b ≠ dx := ne_of_none e hd1
        have hb2 : b ≠ a := ne_of_none e ha
        rw [upd_ne hb, L2.del_ne hb2, upd_ne hb2, upd_ne hb, upd_ne hb2]
        exact e
      have hB : B2 dx = none := nof hr2.sb hd1
      refine hx (.ref C) dx (upd B2 dx (.xd [(f1, v1)])) _ [(f1, v1)] [(f1, d1)] ⟨(s1.trans s2).trans (same_new hB _), nt_upd hr2.nt (by intro _ z; cases z)⟩ (fun b o e => ?_) (hr2.sf.trans key) (fun b o e => ?_) upd_same ?_ w1
      · by_cases hb : b = dx
        · subst hb
          rw [upd_same] at e ⊢
          exact e
        · rw [upd_ne hb] at e
          exact key b o (hr2.sb b o e)
      · have hb : b ≠ dx := ne_of_none (hr2.sf b o e) hd1
        rw [upd_ne hb]
        exact hr2.dj b o e
      · exact .cons ⟨rfl, a1.mono (same_new hB _)⟩ .nil
end
theorem rfC1_mk {K : PySem.W.Frag} {P : Program} {w : World} {mg : Str → Option Value} {base : Heap} {C fI : Addr} {f1 p1 : Str} {qual : Str} {st : Stmt} {fd : FuncData} {q1 q2 q3 q4 : Pos}
    (ox : OexC K C) (n1 : PySem.W.findIn K (.ref C) f1 = some none)
    (aI : PySem.W.findIn K (.ref C) "__init__" = some (some (.ref fI))) (tI : PySem.W.typeIn K (.ref fI) = some (.type "function")) (F : Fun K "__init__" qual st fI fd) (S : FnScope ["self", p1] ["self", p1] (defScope st))
    (hb : defBody st = [.Assign [.Attribute (.Name "self" q1) f1 q2] (.Name p1 q3) q4]) (bd : Binds K fd ["self", p1] [])
    (d1 : (p1 == ("__debug__" : Str)) = false) (c1 : (p1 == ("__classdict__" : Str)) = false) : RfC1 ⟨P, w, K, mg, base⟩ C f1 :=
  ⟨ox, n1, fI, fd, ["self", p1], aI, tI, bd, ini1_ok (g := ⟨P, w, K, mg, base⟩) F S hb (by decide) d1 (by decide) c1⟩
theorem FnG.calm {g : Gx} {k : Nat} {f : Addr} {fd : FuncData} {ps : List Str} {np : Nat} {pre : List Sl → Prop} {post : List Sl → R → List Sl → Prop} (F : FnG g g.ex k f fd ps (spOf g.K np (Ct pre post))) : FnG g CX0 k f fd ps (spOf g.K np (Ct pre post)) :=
  ⟨F.len, fun A outer sh H args us vs Q E hg hr he hb hv ⟨h1, F0, B, ss, Ex, P, h2, _, h4, h5⟩ => codeAny_mono (F.run A outer sh H args us vs Q (fun _ _ _ => False) hg hr he hb hv ⟨h1, F0, B, ss, (fun _ => False), P, h2, (fun _ _ _ _ _ _ _ _ _ _ _ _ z => z.elim), h4, h5⟩) fun res s' q => by
    cases res with
    | error e =>
      obtain ⟨_, _, _, _, _, _, _, _, _, _, _, _, z⟩ := q
      exact z.elim
    | ok fl => cases fl <;> exact q⟩
theorem Cal.calm {g : Gx} {k : Nat} {x : Str} {ps : List Str} {pre : List Sl → Prop} {post : List Sl → R → List Sl → Prop} (h : Cal g g.ex k x ps (Ct pre post)) : Cal g CX0 k x ps (Ct pre post) := by
  obtain ⟨f, fd, F, r⟩ := h
  exact ⟨f, fd, F.calm, r⟩
abbrev Sg.off (S : Sg) : Sg := ⟨S.g, S.CX, S.N, S.sc, S.k, fun _ _ _ => False, S.top, false⟩
abbrev Cl.tr (c : Cl) (pn : List (Addr × Obj)) (xe : Value → Shared → Prop) : Cl := { c with pn := pn, xe := xe }
theorem off_ok {S : Sg} (hC : S.CX = S.g.ex) {c : Cl} (hc : S.ok c) {pn : List (Addr × Obj)} {xe : Value → Shared → Prop} (po : PassesOwn (model S.g.P S.g.w) c.A c.env xe) : S.off.ok (c.tr pn xe) :=
  ⟨hc.hN, hc.nd, hc.hs, hc.calm, hc.room, fun _ _ _ _ _ _ _ h => by
    have h : S.CX _ _ _ _ _ _ := h
    rw [hC] at h
    exact (cxE_ok (g := S.g) _ _ _ _ _ h).elim, po, hc.fn, hc.gd, (fun z => by cases z), hc.fr⟩
def DEs (S : Sg) (e : Expr) (W : WE) : Prop := ∃ t : XK → TE, (∀ c, S.ok c → ∀ (Wx : WX) (pn : List (Addr × Obj)) (xe : Value → Shared → Prop), Takes (S.g.cx (c.tr pn xe)) Wx → PassesOwn (model S.g.P S.g.w) c.A c.env xe → PE (S.g.cx (c.tr pn xe)) e (fun σ H Q => t (fun cls d H' => Wx cls d σ H') σ H Q)) ∧ ∀ E, ESim S.g.K E (t E) W
def DBs (S : Sg) (b : List Stmt) (W : WS) : Prop := ∃ t : XK → TS, (∀ c, S.ok c → ∀ (Wx : WX) (pn : List (Addr × Obj)) (xe : Value → Shared → Prop), Takes (S.g.cx (c.tr pn xe)) Wx → PassesOwn (model S.g.P S.g.w) c.A c.env xe → PSs (S.g.cx (c.tr pn xe)) b (fun D σ H => t (fun cls d H' => Wx cls d σ H') D σ H)) ∧ ∀ E, SSim S.g.K E (t E) W
def wNoX (wr : WA) : WA := fun _ δ P => wr (fun _ => False) δ P
theorem xok_no {F B : Hp} {E : XK} : XOk F B E fun _ => False := fun _ _ _ _ _ _ _ _ _ _ _ _ z => z.elim
section
variable {S : Sg}
theorem des_cal {n : Nat} {W : FSpec} {ms : List Bool} {wr : WA} {x : Str} {ps : List Str} {p pos : Pos} {e : Expr} {es : List Expr} (hC : S.CX = S.g.ex) (h : Cal S.g S.g.ex S.k x ps W) (hW : FMono W) (hg : GlS S.sc x) (ha : DA S.off (e :: es) wr)
    (hs : ∀ env, starEach (e :: es) env = (false, eval e env) :: starEach es env := by intro _; rfl) (hpl : ∀ env, (backTo pos (starEach es env)).any (·.1) = false := by intro _; rfl) (hdb : (x == ("__debug__" : Str)) = false := by decide) (hn : ps.length = n := by rfl) :
    DEs S (.Call (.Name x p) (e :: es) [] pos) (wCall n W ms (wNoX wr)) := by
  subst hn
  obtain ⟨f, fd, F, m, q, b⟩ := h
  obtain ⟨t, pa, s⟩ := ha
  have s' : ∀ E, ASim S.g.K E t (wNoX wr) := fun E => ⟨fun Ex Ex' δ P P' _ h w => s.mono _ _ _ _ _ (fun _ z => z) h w, fun Ex F B H vs σ δ P Q hx h w k => s.run _ _ _ _ _ _ _ _ _ xok_no h w k⟩
  refine ⟨fun E => tCall (spOf S.g.K ps.length W) [] E t, fun c hc Wx pn xe tk po => ⟨fun pins sh σ H Q I h => ?_⟩, fun E => sim_call hW (s' E)⟩
  have hoff := off_ok (pn := pn) hC hc po
  have hgl : Gl (S.g.cx (c.tr pn xe)) x := gl_of hoff hg
  refine wpAny_Call_Name_kw (ld_glob I hgl m ?_ hdb)
  refine PySem.W.callWith_K (h₀ := S.g.base) I.ok.mod.kin q ?_ (hs _) (hpl _)
  refine thn ((pa _ hoff).run pos pins sh σ H _ I h) fun us sh1 ⟨vs, H1, I1, rv, q⟩ => ⟨I1.kIn, ?_⟩
  have q : spOf S.g.K ps.length W (vs ++ []) H1 Q (fun cls d H' => Wx cls d σ H') := q
  rw [List.append_nil] at q
  have hl : us.length = ps.length := rv.length.symm.trans (F.len _ _ _ _ q)
  have hbd := b sh1 us I1.kIn (by rw [List.append_nil]; exact hl)
  rw [List.append_nil] at hbd
  refine wpAny_call (codeAny_mono (F.run c.A c.stack sh1 H1 _ us vs Q (fun cls d H' => Wx cls d σ H') hc.gd hc.room I1.env0 hbd rv q) fun res sh' hq => ?_)
  cases res with
  | error e => exact passAt tk σ _ _ _ _ _ I1 hq
  | ok fl => cases fl with
    | ret u => exact I1.after hq
    | _ => exact hq.elim
theorem dbs_set {i : Nat} {x : Str} {e : Expr} {wa : WE} {pos pos' : Pos} (hi : S.N[i]? = some x) (hx : Loc S.sc x) (h : DEs S e wa) (hs : ∀ env, swapsWith e (some (.Name x pos')) pos.line env = pure false := by intro _; rfl) (ht : S.top = true ∨ S.sc.names.lookup x = some .local := by exact .inl rfl) :
    DBs S [.Assign [.Name x pos'] e pos] (wSet i wa) := by
  obtain ⟨t, p, sm⟩ := h
  refine ⟨fun E => tAsg (t E) (gName i), fun c hc Wx pn xe tk po => pss_one (ps_set (X := S.g.cx (c.tr pn xe)) (i := i) (by show c.N.Nodup; rw [hc.hN]; exact hc.nd) (by show c.N[i]? = _; rw [hc.hN]; exact hi) (by show Loc c.env.scope x; rw [hc.hs]; exact hx) (p c hc Wx pn xe tk po) (hs _) (fn_ok hc ht)), fun E => ⟨fun d d' δ h w => (sm E).mono _ _ _ _ _ h.ex (fun r δ1 w => w.imp fun δ2 w => h.nx _ w) w, fun F B H vs σ δ D d hx h k w => ?_⟩⟩
  refine (sm E).run _ _ _ _ _ _ _ _ _ hx h w fun B1 H1 v r δ1 s1 h1 q1 w1 => ?_
  obtain ⟨δ2, e1, w1⟩ := w1
  obtain ⟨B2, s2, h2⟩ := asgn_ok h1 q1 e1
  exact k.nx B2 _ H1 δ2 (s1.trans s2) h2 w1
end
def keepS : Option Sl → Option Sl
  | some (.d d) => some (.d d)
  | some (.w d) => some (.w d)
  | _ => none
abbrev strip (δ : SEnv) : SEnv := δ.map keepS
theorem strip_get {δ : SEnv} {i : Nat} {s : Sl} (e : (strip δ)[i]? = some (some s)) : δ[i]? = some (some s) ∧ ∀ b c, s ≠ .o b c := by
  rw [List.getElem?_map] at e
  obtain ⟨o, e1, e⟩ := Option.map_eq_some_iff.mp e
  cases o with
  | none => cases e
  | some s' =>
    cases s' with
    | d d => cases e; exact ⟨e1, fun _ _ z => nomatch z⟩
    | w d => cases e; exact ⟨e1, fun _ _ z => nomatch z⟩
    | o b c => cases e
section
variable {K : PySem.W.Frag} {F B H B' H' : Hp} {vs : List V} {σ : L2.St} {δ : SEnv}
theorem Rep.strip (h : Rep K F B H vs σ δ) (s : Same B B') (sb : Same B' H') (sf : Same F H') (dj : ∀ a o, F a = some o → B' a = none) (nt : ∀ (a : Addr) (ps : Array Value), B' a ≠ some (.tbl ps)) : Rep K F B' H' vs σ (strip δ) := by
  refine ⟨sb, sf, dj, by rw [List.length_map]; exact h.len, fun i sl e => ?_, fun i j a a' p b c b' c' e1 _ _ _ _ _ => absurd rfl ((strip_get e1).2 b c), fun i c e => absurd rfl ((strip_get e).2 true c), nt⟩
  obtain ⟨e1, no⟩ := strip_get e
  obtain ⟨v, e2, q⟩ := h.ok i sl e1
  refine ⟨v, e2, ?_⟩
  cases sl with
  | d d => exact DD.mono s q
  | w d => exact q
  | o b c => exact absurd rfl (no b c)
/-- a slot of which nothing is known takes anything -/
theorem Rep.any (h : Rep K F B H vs σ δ) (i : Nat) (x : Option V) : Rep K F B H vs (σ.set i x) (δ.set i none) := by
  have f := h.forget i
  refine ⟨h.sb, h.sf, h.dj, by rw [List.length_set, List.length_set]; exact h.len, fun j s e => ?_, fun j k a a' p b c b' c' e1 e2 e3 e4 f1 f2 => ?_, fun j c e => ?_, h.nt⟩
  · rcases set_get e with ⟨_, z⟩ | ⟨n, z⟩
    · cases z
    · rw [List.getElem?_set_ne (Ne.symm n)]; exact h.ok j s z
  · rcases set_get e1 with ⟨_, z⟩ | ⟨n, z⟩
    · cases z
    · rcases set_get e2 with ⟨_, z2⟩ | ⟨n2, z2⟩
      · cases z2
      · rw [List.getElem?_set_ne (Ne.symm n)] at e3
        rw [List.getElem?_set_ne (Ne.symm n2)] at e4
        exact h.apart j k a a' p b c b' c' z z2 e3 e4 f1 f2
  · rcases set_get e with ⟨_, z⟩ | ⟨n, z⟩
    · cases z
    · rw [List.getElem?_set_ne (Ne.symm n)]; exact h.bor j c z
end
end DL
set_option Elab.async false
set_option linter.all false
set_option maxRecDepth 100000
set_option maxHeartbeats 1000000
set_option autoImplicit false
namespace DL
open PySem PySem.Spec PyProof.Rows L2 LamX
end DL
set_option Elab.async false
set_option linter.all false
set_option maxRecDepth 100000
set_option maxHeartbeats 4000000
set_option autoImplicit false
namespace DL
open PySem PySem.Spec PyProof.Rows L2
theorem dictI_ok {P : Program} {w : World} {H : Hp} {h : Heap} {a : Addr} {xs : List (List Int × Addr × Value)} (d : h.DictOfH (tupleKind (PySem.intKind P w)) a xs) : ObjOk P w H h a (dictI a xs) := by
  obtain ⟨o, es, ep, h1, h2, h3, h4, _, _⟩ := d
  refine ⟨⟨o, es, ep, h1, h2, h3, h4⟩, ⟨o, h1⟩, ?_⟩
  rintro g1 g2 ⟨o, es, ep, h1, h2, h3, h4⟩ st
  exact ⟨o, es, ep, st o h1, h2, h3, h4⟩
theorem dictI_is {P : Program} {w : World} {H : Hp} {h : Heap} {a : Addr} {xs : List (List Int × Addr × Value)} (ok : HOk P w H h) (e : H a = some (dictI a xs)) (nd : (xs.map (·.1)).Nodup) (ks : ∀ x ∈ xs, PlT H x.2.1 (x.1.map V.int)) : h.DictOfH (tupleKind (PySem.intKind P w)) a xs := by
  obtain ⟨⟨o, es, ep, h1, h2, h3, h4⟩, _⟩ := (show ObjOk P w H h a (dictI a xs) from ok a _ e)
  exact ⟨o, es, ep, h1, h2, h3, h4, fun x hx => isKey_of ok (ks x hx), nd⟩
theorem storedH_len {xs : List (List Int × Addr × Value)} {k : List Int} {q : Addr} {u : Value} : (storedH xs k q u).length ≤ xs.length + 1 := by
  unfold storedH
  split
  · rw [List.length_map]; omega
  · rw [List.length_append]; exact Nat.le_refl _
/-- D[t] = v, D a dict by tuples of numbers -/
theorem d_setI {X : Cx} {pins : List (Addr × Obj)} {σ : L2.St} {H : Hp} {s : Shared} {E : Value → Shared → Prop} {D q : Addr} {xs : List (List Int × Addr × Value)} {k : List Int} {u : Value} {Q : Unit → Shared → Prop} (hu : X.A.units < cLine) (I : Inv X pins σ H s) (hD : H D = some (dictI D xs)) (nd : (xs.map (·.1)).Nodup)
    (ks : ∀ x ∈ xs, PlT H x.2.1 (x.1.map V.int)) (hz : xs.length < sizeLine) (hk : PlT H q (k.map V.int)) (h : ∀ s', Inv X pins σ (upd H D (dictI D (storedH xs k q u))) s' → ((storedH xs k q u).map (·.1)).Nodup → Q () s') : wpAny (model X.prog X.w) X.A (dictSet D (.ref q) u) Q E s := by
  refine wpAny_dictSet_heap (knd := tupleKind (PySem.intKind X.prog X.w)) hu (isKey_of I.hok hk) (dictI_is I.hok hD nd ks) (fun h' dd hs => ?_) (by omega)
  have nd' : ((storedH xs k q u).map (·.1)).Nodup := by obtain ⟨_, _, _, _, _, _, _, _, z⟩ := dd; exact z
  have he : ∃ o, h'.get? D = some o := by obtain ⟨o, _, _, z, _⟩ := dd; exact ⟨o, z⟩
  exact h _ (d_write I (by rw [hD]; exact True.intro) hs he (dictI_ok dd)) nd'
section
variable {X : Cx}
/-- what is asked of {t: v for a in xs if ..}: us the block's slots -/
def tDcI (wi : TI) (ga : TG) (tt : TT) (tk tv : TE) (us : List Nat) : TE := fun σ H Q => wi σ H fun J H1 => ∀ D, H1 D = none → (D == sysModules) = false → ∃ U : Nat → Nat → Hp → Prop, (∃ m, U 0 m (upd H1 D (dictI D []))) ∧ ∀ i m H, U i m H →
  (J.stop i H ∧ Q (.ref D) H) ∨ (J.go i H ∧ ∃ Z : Hp → Prop, (∀ H', Z H' → ∃ m', m' < m ∧ U (i + 1) m' H') ∧ ∀ x H', J.yld i H x H' → ga x (wipe σ us) H' fun σ2 H2 => wipe σ2 us = wipe σ us ∧ tt σ2 H2 fun b H3 =>
    if b = true then tk σ2 H3 fun y H4 => tv σ2 H4 fun z H5 => ∃ xs q ks, y = .ref q ∧ PlT H5 q (ks.map V.int) ∧ H5 D = some (dictI D xs) ∧ (xs.map (·.1)).Nodup ∧ (∀ x ∈ xs, PlT H5 x.2.1 (x.1.map V.int)) ∧ xs.length < sizeLine ∧
      ∀ u, RelV z u → ((storedH xs ks q u).map (·.1)).Nodup → Z (upd H5 D (dictI D (storedH xs ks q u))) else Z H3)
theorem pe_dcI {kx vx ta ia : Expr} {fs : List Expr} {sc : Scope} {own : List (Str × Nat)} {p : Pos} {wi : TI} {ga : TG} {tt : TT} {tk tv : TE} (hc : X.calm = true) (hu : X.A.units < cLine) (hN : X.N.Nodup) (hi : PI X ta ia wi) (ok : BlkOk X.N X.env.scope sc own)
    (ha : ∀ (s : Shared) (H : Hp) (C : Addr) (cl : List (Str × Addr)) (fp : List Addr), PG (X.blk s H sc (compEnvC sc cl C X.env) fp) ta ga) (hf : ∀ (s : Shared) (H : Hp) (C : Addr) (cl : List (Str × Addr)) (fp : List Addr), PTs (X.blk s H sc (compEnvC sc cl C X.env) fp) fs tt)
    (hk : ∀ (s : Shared) (H : Hp) (C : Addr) (cl : List (Str × Addr)) (fp : List Addr), PE (X.blk s H sc (compEnvC sc cl C X.env) fp) kx tk) (he : ∀ (s : Shared) (H : Hp) (C : Addr) (cl : List (Str × Addr)) (fp : List Addr), PE (X.blk s H sc (compEnvC sc cl C X.env) fp) vx tv) (h1 : ∀ x, foldedSetIterable ia X.env x = pure x := by intro _; rfl) :
    PE X (.DictComp kx vx [⟨ta, ia, fs, 0⟩] sc p) (tDcI wi ga tt tk tv (own.map (·.2))) := by
  refine ⟨fun pins s σ H Q I h => ?_⟩
  rw [arm_eval_DictComp]
  refine wpAny_comprehension_free rfl h1 (closure_ok fun y hy e => (ok.free y hy e).elim (fun k => I.ok.has _ (.inl k)) fun k => I.ok.has _ (.inr k)) ok.kind (fun y hy e => by rw [ok.uniq y hy, e]) (thn (hi.run pins s σ H _ I h) fun _ q1 hx => thn hx fun itv q2 hy => ?_)
  obtain ⟨it, fp, tn, J, H2, rfl, I2, T, z2, f2, q⟩ := hy
  refine wpAny_newObj_type (newEnv_comp ?_)
  generalize hD : q2.heap.objs.size = D
  have nD : H2 D = none := I2.hok.fresh (Nat.le_of_eq hD)
  have bD : (D == sysModules) = false := by rw [← hD]; exact beq_eq_false_iff_ne.mpr (Nat.ne_of_gt I2.big)
  obtain ⟨U, ⟨m0, u0⟩, turn⟩ := q D nD bD
  generalize hq3 : ({ q2 with heap := q2.heap.push { cls := .type "dict", data := .dict #[] } } : Shared) = q3
  have I3 : Inv X pins σ (upd H2 D (dictI D [])) q3 := by
    rw [← hq3]
    refine I2.laid (t' := q2.toks) (fun b o e => Heap.get?_push_of_some _ e) (Nat.le_of_eq hD) ?_
    rw [← hD]; exact dictI_ok (P := X.prog) (w := X.w) (Heap.DictOfH.new q2.heap)
  have hp3 : q3.heap = q2.heap.push { cls := .type "dict", data := .dict #[] } := by rw [← hq3]
  have f3 : ∀ b ∈ fp, FpOk X pins (upd H2 D (dictI D [])) b ∧ b < q3.heap.objs.size := fun b hb => by
    obtain ⟨o, e, _⟩ := T.obj _ _ z2 b hb
    have lt := Heap.lt_size e
    refine ⟨⟨?_, (f2 b hb).2⟩, by rw [hp3, Heap.size_push]; exact Nat.lt_succ_of_lt lt⟩
    rw [upd_ne (by rw [← hD]; exact Nat.ne_of_lt lt)]; exact (f2 b hb).1
  have z3 : tn 0 q3.heap := T.keep _ _ _ z2 fun b _ o e => by rw [hp3]; exact Heap.get?_push_of_some _ e
  have I4 := block_start I3 ok hN f3
  let cl := cellsFrom (q3.heap.objs.size + 1) sc.names (cloFrom X.env.cells sc.names [])
  have pa := ha q3 (upd H2 D (dictI D [])) q3.heap.objs.size cl fp
  have pf := hf q3 (upd H2 D (dictI D [])) q3.heap.objs.size cl fp
  have pk := hk q3 (upd H2 D (dictI D [])) q3.heap.objs.size cl fp
  have pv := he q3 (upd H2 D (dictI D [])) q3.heap.objs.size cl fp
  show codeAny _ _ (.compStart (.DictComp kx vx [⟨ta, ia, fs, 0⟩] sc p) 0 (.ref it) (.ref D) (compEnvC sc cl q3.heap.objs.size X.env)) (compPost (model X.prog X.w) X.A X.xe none (EP X pins σ Q) (.ref D) q3.heap.objs.size) { q3 with heap := pushCells (q3.heap.push { cls := .type "dict", data := .dict #[] }) sc.names }
  have nfp : ∀ b ∈ fp, (upd H2 D (dictI D [])) b = none := fun b hb => (f3 b hb).1.1
  generalize hce : compEnvC sc cl q3.heap.objs.size X.env = ce at pa pf pk pv ⊢
  have I4 : Inv (X.blk q3 (upd H2 D (dictI D [])) sc ce fp) [] (wipe σ (own.map (·.2))) (upd H2 D (dictI D [])) { q3 with heap := pushCells (q3.heap.push { cls := .type "dict", data := .dict #[] }) sc.names } := by rw [← hce]; exact I4
  have cL : ce.locals = q3.heap.objs.size := by subst hce; rfl
  generalize hH3 : upd H2 D (dictI D []) = H3 at I3 I4 pa pf pk pv u0 nfp f3
  generalize hq4 : ({ q3 with heap := pushCells (q3.heap.push { cls := .type "dict", data := .dict #[] }) sc.names } : Shared) = q4 at I4 ⊢
  have z4 : tn 0 q4.heap := T.keep _ _ _ z3 fun b _ o e => by rw [← hq4]; exact pushCells_keeps _ _ _ _ (Heap.get?_push_of_some _ e)
  have still : ∀ {σ' : L2.St} {H' : Hp} {t : Shared}, Inv (X.blk q3 H3 sc ce fp) [] σ' H' t → (∀ b ∈ fp, H' b = none) → ∀ b ∈ fp, FpOk (X.blk q3 H3 sc ce fp) [] H' b :=
    fun {σ' H' t} I' hn b hb => ⟨hn b hb, (I'.ok.exf b hb).1, I'.ok.exfs b hb, .inl hb, fun x c e => (I'.ok.exf b hb).2 x c e, fun p hp => absurd (show p ∈ ([] : List (Addr × Obj)) ++ [] from hp) (by simp)⟩
  have loop : codeAny (model X.prog X.w) X.A (.compLoop (.DictComp kx vx [⟨ta, ia, fs, 0⟩] sc p) 0 (.ref it) (.ref D) ce) (compPost (model X.prog X.w) X.A X.xe none (EP X pins σ Q) (.ref D) q3.heap.objs.size) q4 := by
    refine compLoop_anyD (fun n t => ∃ i H', Inv (X.blk q3 H3 sc ce fp) [] (wipe σ (own.map (·.2))) H' t ∧ tn i t.heap ∧ (∀ b ∈ fp, H' b = none) ∧ U i n H') ?_ m0 ⟨0, H3, I4, z4, nfp, u0⟩
    rintro n q5 ⟨i, H5, I5, z5, n5, u5⟩
    rcases turn i n H5 u5 with ⟨stop, qq⟩ | ⟨go, Z, hZ, step⟩
    · refine thnF (T.done (X.blk q3 H3 sc ce fp) rfl rfl rfl hc i [] q5 _ H5 (fun _ _ => False) I5 (still I5 n5) z5 stop) fun r q6 ⟨hr, I6⟩ => ?_
      subst hr
      have I7 : Inv X pins σ H5 q6 := I3.call' (ch := fp) I6.os I6.base I6.hok I6.bare fun b hb => ⟨(f3 b hb).1.2.2.2.1, (f3 b hb).1.2.1, (f3 b hb).1.2.2.2.2.1, (f3 b hb).1.2.2.2.2.2⟩
      have nC : H5 q3.heap.objs.size = none := cL ▸ (show H5 ce.locals = none from I6.free)
      obtain ⟨m, hn, _⟩ := I6.loc
      have hn : q6.heap.Ns q3.heap.objs.size m := cL ▸ (show q6.heap.Ns ce.locals m from hn)
      obtain ⟨g0, g1, g2, g3, g4, g5⟩ := I3.fpOk (Nat.le_refl _) nC
      exact ⟨m, hn, fun h'' sb => ⟨.ref D, H5, I7.turned (t' := q6.toks) (fun b o hb e => (sb.2 b hb).trans e) g0 g1 g3 g4 g5, rfl, qq⟩⟩
    · refine thnF (T.item (X.blk q3 H3 sc ce fp) rfl rfl rfl hc i [] q5 _ H5 (fun _ _ => False) I5 (still I5 n5) z5 go) fun r q6 ⟨u, hr, h6⟩ => ?_
      subst hr
      refine thnF h6 fun _ q7 ⟨x, H7, I7, r7, y7, z7, n7⟩ => ?_
      refine thnF (pa.run _ q7 _ H7 x u _ (I7.pinned (still I7 n7) (T.obj _ _ z7)) r7 (step x H7 y7)) fun _ q8 ⟨σ8, H8, I8, e8, w8⟩ => ?_
      have fin : ∀ {t : Shared} {H' : Hp}, Inv (X.blk q3 H3 sc ce fp) ([] ++ pinsAt fp q7.heap) σ8 H' t → Z H' → ∃ m, m < n ∧ ∃ i H', Inv (X.blk q3 H3 sc ce fp) [] (wipe σ (own.map (·.2))) H' t ∧ tn i t.heap ∧ (∀ b ∈ fp, H' b = none) ∧ U i m H' := fun {t H'} I' zz => by
        obtain ⟨m', lm, u'⟩ := hZ H' zz
        have pin' : ∀ b ∈ fp, ∀ o, q7.heap.get? b = some o → t.heap.get? b = some o ∧ H' b = none := fun b hb o e =>
          let y := I'.pin (b, o) (List.mem_append_right _ (List.mem_append_right _ (mem_pinsAt hb e))); ⟨y.1, y.2.1⟩
        refine ⟨m', lm, i + 1, H', (I'.unpinned (pins := [])).weak (by rw [← e8, wipe_length]) (fun j v e => by rw [← e8] at e; exact (wipe_some e).1), T.keep _ _ _ z7 fun b hb o e => (pin' b hb o e).1, fun b hb => ?_, u'⟩
        obtain ⟨o, e, _⟩ := T.obj _ _ z7 b hb
        exact (pin' b hb o e).2
      refine thnF (pf.run _ q8 σ8 H8 _ I8 w8) fun b q9 ⟨H9, I9, w9⟩ => ?_
      by_cases hb : b = true
      · subst hb
        rw [if_pos rfl] at w9 ⊢
        refine thnF (pk.run _ q9 σ8 H9 _ I9 w9) fun kk q10 ⟨yk, H10, I10, r10, w10⟩ => ?_
        refine thnF (pv.run _ q10 σ8 H10 _ I10 w10) fun vv q11 ⟨yv, H11, I11, r11, xs, qa, ks, ek, pl, hD11, nd, kall, lz, nx⟩ => ?_
        subst ek
        obtain rfl : kk = Value.ref qa := r10
        exact d_setI (X := X.blk q3 H3 sc ce fp) hu I11 hD11 nd kall lz pl fun q12 I12 nd' => fin I12 (nx vv r11 nd')
      · dsimp only at w9
        rw [if_neg hb] at w9 ⊢
        exact fin I9 w9
  exact codeAny_compStart_dict loop (T.self X.A 0 _ _ _ z4 loop)
end
def ptV : Vw → Option (List Int)
  | .d d => keyT d
  | _ => none
def wKVI (wk wv : WE) (acc : List (List Int × PyData)) (δ : SEnv) (P : List (List Int × PyData) → SEnv → Prop) : Prop :=
  wk Ex0 δ fun r δ1 => ob (view δ1 r) fun w => ob (ptV w) fun k => wv Ex0 δ1 fun r2 δ2 => ob (frz δ2 r2) fun p => acc.length < sizeLine ∧ P (putD acc k p.1) p.2
def wDcIR (G : WG) (wt : WT) (wk wv : WE) (own : List Nat) : List PyData → List (List Int × PyData) → SEnv → (List (List Int × PyData) → SEnv → Prop) → Prop
  | [], acc, δ, P => P acc δ
  | x :: xs, acc, δ, P => ob (G x (forgetAll δ own)) fun δ1 => wt Ex0 δ1 fun b δ2 => if b = true then wKVI wk wv acc δ2 fun acc' δ3 => wDcIR G wt wk wv own xs acc' δ3 P else wDcIR G wt wk wv own xs acc δ2 P
def wDcI (wi : WI) (G : WG) (wt : WT) (wk wv : WE) (own : List Nat) : WE := fun Ex δ P => wi Ex δ fun ds δ1 => wDcIR G wt wk wv own ds [] δ1 fun acc δ2 => P (.n (.t acc)) (restore δ1 (forgetAll δ2 own) own)
theorem pt_ov {K : PySem.W.Frag} {B H : Hp} {v : V} {w : Vw} {k : List Int} (o : OV K B H v w) (e : ptV w = some k) : ∃ q, v = .ref q ∧ PlT B q (k.map V.int) := by
  cases w with
  | d d =>
    have e : keyT d = some k := e
    cases d with
    | tuple ds =>
      rcases o with o | ⟨_, _, _, _, z, _⟩
      · cases o with
        | @tup q ys _ r q2 =>
          rw [ints_dd e q2] at r
          exact ⟨q, rfl, r⟩
      · cases z
    | _ => cases e
  | _ => cases e
theorem tis_len {B : Hp} {xs : List (List Int × Addr × Value)} {acc : List (List Int × PyData)} (q : TIs B xs acc) : xs.length = acc.length := Paired.length q
theorem tis_keys {B : Hp} {xs : List (List Int × Addr × Value)} {acc : List (List Int × PyData)} (q : TIs B xs acc) : ∀ x ∈ xs, PlT B x.2.1 (x.1.map V.int) := by
  intro x hx
  obtain ⟨i, hi, ei⟩ := List.getElem_of_mem hx
  obtain ⟨y, _, _, p, _⟩ := paired_at q (i := i) (x := x) (by rw [List.getElem?_eq_getElem hi, ei])
  exact p
theorem tis_put {B : Hp} {xs : List (List Int × Addr × Value)} {acc : List (List Int × PyData)} {k : List Int} {q : Addr} {u : Value} {v : V} {d : PyData} (h : TIs B xs acc) (hk : PlT B q (k.map V.int)) (rv : RelV v u) (hd : DD B v d) : TIs B (storedH xs k q u) (putD acc k d) := by
  have ea : ∀ {xs : List (List Int × Addr × Value)} {acc : List (List Int × PyData)}, TIs B xs acc → (atKey xs k).isSome = acc.any fun kv => decide (kv.1 = k) := by
    intro xs acc h
    induction h with
    | nil => rfl
    | cons z r ih =>
      rename_i p1 p2 l1 l2
      rw [List.any_cons, ← z.1, ← ih]
      by_cases e : p1.1 = k
      · unfold atKey; rw [List.find?_cons]; simp [e]
      · have : atKey (p1 :: l1) k = atKey l1 k := by unfold atKey; rw [List.find?_cons]; simp [e]
        rw [this]; simp [e]
  have em : ∀ {xs : List (List Int × Addr × Value)} {acc : List (List Int × PyData)}, TIs B xs acc → TIs B (xs.map (putAt k u)) (acc.map fun kv => if kv.1 = k then (kv.1, d) else kv) := by
    intro xs acc h
    induction h with
    | nil => exact .nil
    | cons z r ih =>
      rename_i p1 p2 l1 l2
      refine .cons ?_ ih
      obtain ⟨z1, z2, z3⟩ := z
      show (putAt k u p1).1 = (if p2.1 = k then (p2.1, d) else p2).1 ∧ PlT B (putAt k u p1).2.1 ((putAt k u p1).1.map V.int) ∧ ∃ v, RelV v (putAt k u p1).2.2 ∧ DD B v (if p2.1 = k then (p2.1, d) else p2).2
      unfold putAt
      by_cases e : p1.1 = k
      · rw [if_pos e, if_pos (z1.symm.trans e)]
        exact ⟨z1, z2, v, rv, hd⟩
      · rw [if_neg e, if_neg (fun y => e (z1.trans y))]
        exact ⟨z1, z2, z3⟩
  have eap : ∀ {xs : List (List Int × Addr × Value)} {acc : List (List Int × PyData)}, TIs B xs acc → TIs B (xs ++ [(k, q, u)]) (acc ++ [(k, d)]) := by
    intro xs acc h
    induction h with
    | nil => exact .cons ⟨rfl, hk, v, rv, hd⟩ .nil
    | cons z r ih => exact .cons z ih
  unfold storedH putD
  rw [ea h]
  split
  · exact em h
  · exact eap h
section
variable {K : PySem.W.Frag} {E0' : XK} {tt : TT} {tk tv : TE} {wt : WT} {wk wv : WE} {G : WG} {own ts : List Nat} {tg' : TG}
theorem wKVI_mono (sk : ESim K E0' tk wk) (sv : ESim K E0' tv wv) {acc : List (List Int × PyData)} {δ : SEnv} {P P' : List (List Int × PyData) → SEnv → Prop} (h : ∀ a δ, P a δ → P' a δ) (w : wKVI wk wv acc δ P) : wKVI wk wv acc δ P' :=
  sk.mono _ _ _ _ _ (fun _ z => z) (fun r δ1 w => w.imp fun a w => w.imp fun k w => sv.mono _ _ _ _ _ (fun _ z => z) (fun r2 δ2 w => w.imp fun p w => ⟨w.1, h _ _ w.2⟩) w) w
theorem wDcIR_mono (st : TSim K E0' tt wt) (sk : ESim K E0' tk wk) (sv : ESim K E0' tv wv) : ∀ (xs : List PyData) (acc : List (List Int × PyData)) (δ : SEnv) (P P' : List (List Int × PyData) → SEnv → Prop), (∀ a δ, P a δ → P' a δ) → wDcIR G wt wk wv own xs acc δ P → wDcIR G wt wk wv own xs acc δ P'
  | [], _, _, _, _, h, w => h _ _ w
  | x :: xs, acc, δ, P, P', h, w => w.imp fun δ1 w => by
    refine st.mono _ _ _ _ _ (fun _ z => z) (fun b δ2 w => ?_) w
    cases b with
    | false => exact wDcIR_mono st sk sv xs acc δ2 P P' h w
    | true => exact wKVI_mono sk sv (fun a δ w => wDcIR_mono st sk sv xs a δ P P' h w) w
theorem dcI_run {F B1 H1 : Hp} {vs : List V} {σ : L2.St} {δ1 : SEnv} {J : It} {ds : List PyData} (sg : GSim K tg' G ts) (hts : ∀ i ∈ ts, i ∈ own) (st : TSim K E0' tt wt) (sk : ESim K E0' tk wk) (sv : ESim K E0' tv wv)
    (h1 : Rep K F B1 H1 vs σ δ1) (q1 : ItOk B1 J ds) {D : Addr} (hD : H1 D = none) {P : List (List Int × PyData) → SEnv → Prop} (w1 : wDcIR G wt wk wv own ds [] δ1 P) {Qd : Hp → Prop}
    (k : ∀ B' H' acc ys δ', Same B1 B' → Rep K (upd F D (dictI D ys)) B' H' vs σ (forgetAll δ' own) → (ys.map (·.1)).Nodup → ys.length ≤ sizeLine → TIs B' ys acc → P acc δ' → Qd H') :
    ∃ W : Nat → Nat → Hp → Prop, (∃ m, W 0 m (upd H1 D (dictI D []))) ∧ ∀ i m H, W i m H →
      (J.stop i H ∧ Qd H) ∨ (J.go i H ∧ ∃ Nx : Hp → Prop, (∀ H', Nx H' → ∃ m', m' < m ∧ W (i + 1) m' H') ∧ ∀ x H', J.yld i H x H' → tg' x (wipe σ own) H' fun σ2 H2 => wipe σ2 own = wipe σ own ∧ tt σ2 H2 fun b H3 =>
        if b = true then tk σ2 H3 fun y H4 => tv σ2 H4 fun z H5 => ∃ xs q ks, y = .ref q ∧ PlT H5 q (ks.map V.int) ∧ H5 D = some (dictI D xs) ∧ (xs.map (·.1)).Nodup ∧ (∀ x ∈ xs, PlT H5 x.2.1 (x.1.map V.int)) ∧ xs.length < sizeLine ∧
          ∀ u, RelV z u → ((storedH xs ks q u).map (·.1)).Nodup → Nx (upd H5 D (dictI D (storedH xs ks q u))) else Nx H3) := by
  refine ⟨fun i m H => m = ds.length - i ∧ i ≤ ds.length ∧ ∃ B' δ' acc ys, Same B1 B' ∧ Rep K (upd F D (dictI D ys)) B' H vs σ (forgetAll δ' own) ∧ (ys.map (·.1)).Nodup ∧ ys.length ≤ sizeLine ∧ TIs B' ys acc ∧ wDcIR G wt wk wv own (ds.drop i) acc δ' P, ⟨ds.length, by simp, Nat.zero_le _, B1, δ1, [], [], Same.refl _, ?_, List.nodup_nil, Nat.zero_le _, .nil, w1⟩, ?_⟩
  · exact (h1.lay hD _).dim (by rw [forgetAll_length]; exact h1.len) fun i s e => ⟨(forgetAll_get e).1, rfl⟩
  rintro i m H2 ⟨rfl, hi, B2, δ2, acc, ys, s2, h2, nd, lz, qa, w2⟩
  by_cases hlt : i < ds.length
  · refine .inr ⟨q1.go i H2 (s2.trans h2.sb) hlt, fun H' => ∃ B' δ' acc ys, Same B1 B' ∧ Rep K (upd F D (dictI D ys)) B' H' vs σ (forgetAll δ' own) ∧ (ys.map (·.1)).Nodup ∧ ys.length ≤ sizeLine ∧ TIs B' ys acc ∧ wDcIR G wt wk wv own (ds.drop (i + 1)) acc δ' P, fun H' hz => ⟨ds.length - (i + 1), by omega, rfl, hlt, hz⟩, fun x H' y => ?_⟩
    have ed : ds.drop i = ds[i] :: ds.drop (i + 1) := List.drop_eq_getElem_cons hlt
    rw [ed] at w2
    obtain ⟨δ3, e3, w3⟩ := w2
    have hw : Rep K (upd F D (dictI D ys)) B2 H2 vs (wipe σ own) (forgetAll δ2 own) := by
      have := h2.wiped own
      rw [forgetAll_twice] at this; exact this
    obtain ⟨B3, s3, g3, q3⟩ := q1.yld i H2 B2 x H' ds[i] s2 h2.sb y (by simp [hlt])
    have h3 := g3 _ _ _ _ _ hw
    refine sg.run _ B3 H' vs (wipe σ own) _ δ3 x _ _ h3 q3 e3 fun σ2 h4 b2 => ⟨by rw [b2.2 own hts, wipe_wipe], ?_⟩
    refine st.run Ex0 _ B3 H' vs σ2 δ3 _ _ (fun _ _ _ _ _ _ _ _ _ _ _ _ z => z.elim) h4 w3 fun B4 H4 b δ4 s4 h5 w4 => ?_
    cases b with
    | false => exact ⟨B4, δ4, acc, ys, s2.trans (s3.trans s4), h5.unwiped (by rw [b2.2 own hts, wipe_wipe]) (by rw [b2.1, wipe_length]), nd, lz, qa.mono (s3.trans s4), w4⟩
    | true =>
      rw [if_pos rfl] at w4
      rw [if_pos rfl]
      have qa4 := qa.mono (s3.trans s4)
      refine sk.run Ex0 _ B4 _ vs σ2 δ4 _ _ (fun _ _ _ _ _ _ _ _ _ _ _ _ z => z.elim) h5 w4 fun B5 H5 yy r δ5 s5 h6 q6 w5 => ?_
      obtain ⟨vw, e1, kk, e2, w5⟩ := w5
      obtain ⟨qq, rfl, pl⟩ := pt_ov (view_ok h6 q6 e1) e2
      refine sv.run Ex0 _ B5 H5 vs σ2 δ5 _ _ (fun _ _ _ _ _ _ _ _ _ _ _ _ z => z.elim) h6 w5 fun B6 H6 z r2 δ6 s6 h7 q7 w6 => ?_
      obtain ⟨⟨d, δ7⟩, e4, hl, w7⟩ := w6
      obtain ⟨B7, s7, h8, d8⟩ := frz_ok h7 q7 e4
      have s57 : Same B5 B7 := s6.trans s7
      have qa7 := qa4.mono (s5.trans s57)
      refine ⟨ys, qq, kk, rfl, (pl.mono s57).mono h8.sb, h8.sf D _ upd_same, nd, fun x hx => (tis_keys qa7 x hx).mono h8.sb, by rw [tis_len qa7]; exact hl, fun u rv nd' => ?_⟩
      have h9 := h8.relay (o' := dictI D (storedH ys kk qq u))
      exact ⟨B7, δ7, putD acc kk d, storedH ys kk qq u, s2.trans (s3.trans (s4.trans (s5.trans s57))), h9.unwiped (by rw [b2.2 own hts, wipe_wipe]) (by rw [b2.1, wipe_length]), nd', by have := storedH_len (xs := ys) (k := kk) (q := qq) (u := u); have := tis_len qa7; omega, tis_put qa7 (pl.mono s57) rv d8, w7⟩
  · have e : i = ds.length := by omega
    subst e
    rw [List.drop_length] at w2
    exact .inl ⟨q1.stop _ H2 (s2.trans h2.sb) (Nat.le_refl _), k B2 H2 acc ys δ2 s2 h2 nd lz qa w2⟩
theorem sim_dcI {E : XK} {ti : TI} {wi : WI} (si : ISim K E ti wi) (sg : GSim K tg' G ts) (hts : ∀ i ∈ ts, i ∈ own) (st : TSim K E0' tt wt) (sk : ESim K E0' tk wk) (sv : ESim K E0' tv wv) : ESim K E (tDcI ti tg' tt tk tv own) (wDcI wi G wt wk wv own) := by
  refine ⟨fun Ex Ex' δ P P' hx h w => si.mono _ _ _ _ _ hx (fun ds δ1 w => wDcIR_mono st sk sv ds [] δ1 _ _ (fun acc δ2 w => h _ _ w) w) w, fun Ex F B H vs σ δ P Q hx h w k => ?_⟩
  refine si.run _ _ _ _ _ _ _ _ _ hx h w fun B1 H1 J ds δ1 s1 h1 q1 w1 => ?_
  intro D hD bD
  refine dcI_run sg hts st sk sv h1 q1 hD w1 fun B' H' acc ys δ' s2 h2 nd lz qa w2 => ?_
  have hF : F D = none := nof h1.sf hD
  have h3 : Rep K F B' H' vs σ (restore δ1 (forgetAll δ' own) own) := Rep.restored h1 s2 (h2.unlay hF)
  exact k B' H' (.ref D) (.n (.t acc)) _ (s1.trans s2) h3 ⟨D, rfl, foot_bf rfl (h2.dj D _ upd_same) hF, ⟨ys, ⟨h2.sf D _ upd_same, bD, lz, nd, qa⟩⟩, off_restore h2.off own⟩ w2
end
section
variable {S : Sg}
theorem de_dcI {kx vx tg iter : Expr} {ifs : List Expr} {scope : Scope} {own : List (Str × Nat)} {pos : Pos} {wi : WI} {G : WG} {wt : WT} {wk wv : WE} {ts : List Nat} (hCX : CXok S.CX) (hi : DI S tg iter wi) (hblk : blkC S.N S.sc scope own = true) (hg : DG (S.blk scope) tg G ts) (hts : ts.all (fun i => (own.map (·.2)).contains i) = true)
    (ht : DTs (S.blk scope) ifs wt) (hk : DE (S.blk scope) kx wk) (hv : DE (S.blk scope) vx wv) (hs : ∀ env x, foldedSetIterable iter env x = pure x := by intro _ _; rfl) : DE S (.DictComp kx vx [⟨tg, iter, ifs, 0⟩] scope pos) (wDcI wi G wt wk wv (own.map (·.2))) := by
  obtain ⟨ti, pi, si⟩ := hi
  obtain ⟨tg', pg, sg⟩ := hg
  obtain ⟨tt, pt, st⟩ := ht
  obtain ⟨tk, pk, sk⟩ := hk
  obtain ⟨tv, pv, sv⟩ := hv
  have hts' : ∀ i ∈ ts, i ∈ own.map (·.2) := fun i hi => by
    have := List.all_eq_true.mp hts i hi
    simpa using this
  refine ⟨tDcI ti tg' tt tk tv (own.map (·.2)), fun c hc => ?_, sim_dcI si sg hts' st sk sv⟩
  refine pe_dcI (X := S.g.cx c) hc.calm (by have := hc.room.un; show c.A.units < cLine; omega) (by show c.N.Nodup; rw [hc.hN]; exact hc.nd) (pi c hc) (by show BlkOk c.N c.env.scope scope own; rw [hc.hN, hc.hs]; exact blkOk_by hblk) (fun s H C cl fp => ?_) (fun s H C cl fp => ?_) (fun s H C cl fp => ?_) (fun s H C cl fp => ?_) (hs _)
  · exact pg _ (blk_ok hCX hc s H C cl fp)
  · exact pt _ (blk_ok hCX hc s H C cl fp)
  · exact pk _ (blk_ok hCX hc s H C cl fp)
  · exact pv _ (blk_ok hCX hc s H C cl fp)
end
end DL
set_option Elab.async false
set_option linter.all false
set_option maxRecDepth 100000
set_option maxHeartbeats 1000000
set_option autoImplicit false
namespace DL
open PySem PySem.Spec PyProof.Rows L2
def pairsTD : List PyData → Option (List (List Int × PyData))
  | [] => some []
  | .tuple [k, v] :: ds => (keyT k).bind fun ks => (pairsTD ds).map fun kvs => (ks, v) :: kvs
  | _ => none
def mergeT (acc more : List (List Int × PyData)) : List (List Int × PyData) := more.foldl (fun acc kv => putD acc kv.1 kv.2) acc
theorem tis_merge {B : Hp} {prs : List (List Int × Addr × Value)} {kvs : List (List Int × PyData)} (h : TIs B prs kvs) : ∀ {xs : List (List Int × Addr × Value)} {acc : List (List Int × PyData)}, TIs B xs acc → TIs B (storedAllH xs prs) (mergeT acc kvs) := by
  induction h with
  | nil => exact fun q => q
  | cons z r ih =>
    intro xs acc q
    unfold storedAllH mergeT
    rw [List.foldl_cons, List.foldl_cons]
    obtain ⟨z1, z2, v, rv, hd⟩ := z
    rw [← z1]
    exact ih (tis_put q z2 rv hd)
theorem pair_of {X : Cx} {pins : List (Addr × Obj)} {σ : L2.St} {B H : Hp} {s : Shared} (I : Inv X pins σ H s) (sB : Same B H) {z : V} {k v : PyData} {ks : List Int} (q : DD B z (.tuple [k, v])) (e : keyT k = some ks) :
    ∃ (T : Addr) (x : List Int × Addr × Value), z = .ref T ∧ (x.1 = ks ∧ PlT B x.2.1 (x.1.map V.int) ∧ ∃ y : V, RelV y x.2.2 ∧ DD B y v) ∧ s.heap.IsTuple T #[.ref x.2.1, x.2.2] := by
  obtain ⟨T, ws, rfl, pl, qs⟩ : ∃ T ws, z = .ref T ∧ PlT B T ws ∧ DDs B ws [k, v] := by
    cases q with
    | tup pl qs => exact ⟨_, _, rfl, pl, qs⟩
  obtain ⟨vk, vv, rfl, qk, qv⟩ : ∃ vk vv, ws = [vk, vv] ∧ DD B vk k ∧ DD B vv v := by
    cases qs with
    | cons q1 q2 =>
      cases q2 with
      | cons q2 q3 =>
        cases q3
        exact ⟨_, _, rfl, q1, q2⟩
  obtain ⟨q, rfl, pk⟩ := pt_ov (K := X.K) (H := H) (w := .d k) (.inl qk) e
  obtain ⟨o, eo, ec, ed⟩ := pl.mono sB
  obtain ⟨_, _, its, rv, it⟩ := (show ObjOk X.prog X.w H s.heap T (.frz o (.tup [.ref q, vv])) from I.hok T _ eo)
  obtain ⟨uk, uv, rfl, rk, ru⟩ := vals2 rv
  obtain rfl : uk = Value.ref q := rk
  obtain ⟨o', g1, g2, n, g3⟩ := it
  exact ⟨T, (ks, q, uv), rfl, ⟨rfl, pk, vv, ru, qv⟩, o', g1, g2, n, g3⟩
theorem prs_of {X : Cx} {pins : List (Addr × Obj)} {σ : L2.St} {B H : Hp} {s : Shared} (I : Inv X pins σ H s) (sB : Same B H) : ∀ (ds : List PyData) {zs : List V} {kvs : List (List Int × PyData)}, DDs B zs ds → pairsTD ds = some kvs →
    ∃ (Ts : List Addr) (prs : List (List Int × Addr × Value)), zs = Ts.map V.ref ∧ Ts.length = prs.length ∧ TIs B prs kvs ∧ ∀ (j : Nat) (x : List Int × Addr × Value), prs[j]? = some x → ∃ T, Ts[j]? = some T ∧ s.heap.IsTuple T #[.ref x.2.1, x.2.2] := by
  intro ds
  induction ds with
  | nil =>
    intro zs kvs q e
    cases q
    cases e
    exact ⟨[], [], rfl, rfl, .nil, fun j x e => by simp at e⟩
  | cons d ds ih =>
    intro zs kvs q e
    cases q with
    | cons q r =>
      unfold pairsTD at e
      split at e
      · rename_i h; cases h
      · rename_i k v ds' h
        cases h
        obtain ⟨ks, e1, e⟩ := Option.bind_eq_some_iff.mp e
        obtain ⟨kvs', e2, e⟩ := Option.map_eq_some_iff.mp e
        cases e
        obtain ⟨Ts, prs, h1, h2, h3, h4⟩ := ih r e2
        obtain ⟨T, x, rfl, ⟨z1, z2, z3⟩, it⟩ := pair_of I sB q e1
        refine ⟨T :: Ts, x :: prs, by rw [h1, List.map_cons], by rw [List.length_cons, List.length_cons, h2], .cons ⟨z1, z2, z3⟩ h3, fun j y e => ?_⟩
        cases j with
        | zero =>
          rw [List.getElem?_cons_zero] at e
          cases e
          exact ⟨T, rfl, it⟩
        | succ j => simpa using h4 j y (by simpa using e)
      · cases e
def dictIF : List Vw → Option Rv
  | [.d (.list ds)] => (pairsTD ds).map fun kvs => .dt (mergeT [] kvs)
  | _ => none
theorem cs_dictI {S : Sg} : CallS S (.type "dict") dictIF := by
  rintro c hc pins s σ H xs us Q I rv ⟨B, as, r, sB, ov, e, k⟩
  unfold dictIF at e
  split at e
  · rename_i ds
    obtain ⟨kvs, e1, e⟩ := Option.map_eq_some_iff.mp e
    cases e
    obtain ⟨v, rfl, q⟩ := ovs1 ov
    obtain ⟨p, zs, rfl, hp, qz⟩ := ov_lst sB q
    obtain ⟨u, eu, rx⟩ := vals1 rv
    subst eu
    cases rx
    obtain ⟨Ts, prs, rfl, hl, ti, hpr⟩ := prs_of I sB _ qz e1
    obtain ⟨its, rvs, pll, hz⟩ := I.list (X := S.g.cx c) (a := p) (xs := Ts.map V.ref) (.inl hp)
    have ei := refs_at rvs
    subst ei
    rw [List.length_map] at hz
    have hget : ∀ (j : Nat) (x : List Int × Addr × Value), prs[j]? = some x → ∃ T, Ts[j]? = some T ∧ s.heap.IsTuple T #[.ref x.2.1, x.2.2] := hpr
    have keys : ∀ x ∈ prs, (tupleKind (PySem.intKind S.g.P S.g.w)).is s.heap x.1 x.2.1 := fun x hx => isKey_of (P := S.g.P) (w := S.g.w) I.hok ((tis_keys ti x hx).mono sB)
    refine call_dict_pairsH (knd := tupleKind (PySem.intKind S.g.P S.g.w)) (ps := prs) (PairArg.list p (Ts.map Value.ref).toArray (fun j => Ts.getD j 0) (prs.map fun x => (Value.ref x.2.1, x.2.2))) (I.ok.hd hc.calm) (tupleKind_room_in1 (A := c.A.in1) (by have := hc.room.un; show c.A.units + 1 + 1 < cLine; omega))
      ⟨?_, by simp [hl], fun j kk vv ej => ?_⟩ ⟨by simp, fun i key vv ei => ?_⟩ (fun h' hk x hx => ?_) (by rw [List.length_map, ← hl]; exact hz) fun h' tk dd hk => ?_
    · obtain ⟨o, n, g1, g2, g3, g4⟩ := pll
      exact ⟨o, n, g1, g2, g3, g4⟩
    · rw [List.getElem?_map] at ej
      obtain ⟨x, ex, ej⟩ := Option.map_eq_some_iff.mp ej
      cases ej
      obtain ⟨T, eT, it⟩ := hget j x ex
      refine ⟨by simp [List.getD_eq_getElem?_getD, eT], .inl ?_⟩
      show s.heap.IsTuple (Ts.getD j 0) _
      rw [List.getD_eq_getElem?_getD, eT]
      exact it
    · have ei : (prs.map fun x => (Value.ref x.2.1, x.2.2))[i]? = some (key, vv) := ei
      rw [List.getElem?_map] at ei
      obtain ⟨x, ex, ei⟩ := Option.map_eq_some_iff.mp ei
      cases ei
      exact ⟨x.1, x.2.1, ex, rfl⟩
    · obtain ⟨o, items, n, g1, g2, g3, g4⟩ := keys x hx
      exact ⟨o, items, n, hk _ _ (Nat.ne_of_lt (Heap.lt_size g1)) (fun z => nomatch z) g1, g2, g3, g4⟩
    · have fr := I.hok.fresh (a := s.heap.objs.size) (Nat.le_refl _)
      have tm := tis_merge ti (B := B) (xs := []) (acc := []) .nil
      have big : (s.heap.objs.size == sysModules) = false := beq_eq_false_iff_ne.mpr (Nat.ne_of_gt I.big)
      have hlen : (storedAllH [] prs).length ≤ sizeLine := by
        have : ∀ (ps xs : List (List Int × Addr × Value)), (storedAllH xs ps).length ≤ xs.length + ps.length := by
          intro ps
          induction ps with
          | nil => intro xs; exact Nat.le_refl _
          | cons y ys ih =>
            intro xs
            have := ih (storedH xs y.1 y.2.1 y.2.2)
            have h2 := storedH_len (xs := xs) (k := y.1) (q := y.2.1) (u := y.2.2)
            show (storedAllH (storedH xs y.1 y.2.1 y.2.2) ys).length ≤ _
            rw [List.length_cons]; omega
        have := this prs []
        rw [List.length_nil] at this
        omega
      have nd : ((storedAllH [] prs).map (·.1)).Nodup := by obtain ⟨_, _, _, _, _, _, _, _, z⟩ := dd; exact z
      exact ⟨.ref s.heap.objs.size, upd H s.heap.objs.size (dictI s.heap.objs.size (storedAllH [] prs)), I.laid (t' := tk) (fun b o e => hk b o (fun z => nomatch z) e) (Nat.le_refl _) (dictI_ok dd), rfl, k _ _ fr ⟨upd_same, big, hlen, nd, tm⟩⟩
  · cases e
end DL
set_option Elab.async false
set_option linter.all false
set_option maxRecDepth 100000
set_option maxHeartbeats 1000000
set_option autoImplicit false
namespace DL
open PySem PySem.Spec PyProof.Rows L2
end DL
set_option Elab.async false
set_option linter.all false
set_option maxRecDepth 100000
set_option maxHeartbeats 1000000
set_option autoImplicit false
namespace DL
open PySem PySem.Spec PyProof.Rows L2
end DL
set_option Elab.async false
set_option linter.all false
set_option maxRecDepth 100000
set_option maxHeartbeats 1000000
set_option autoImplicit false
namespace DL
open PySem PySem.Spec PyProof.Rows L2
end DL
set_option Elab.async false
set_option linter.all false
set_option maxRecDepth 100000
set_option maxHeartbeats 4000000
set_option autoImplicit false
namespace DL
open PySem PySem.Spec PyProof.Rows L2
end DL
set_option Elab.async false
set_option linter.all false
set_option maxRecDepth 100000
set_option maxHeartbeats 4000000
set_option autoImplicit false
namespace DL
open PySem PySem.Spec PyProof.Rows L2
end DL
set_option Elab.async false
set_option linter.all false
set_option maxRecDepth 100000
set_option maxHeartbeats 1000000
set_option autoImplicit false
namespace DL
open PySem PySem.Spec PyProof.Rows L2
end DL
set_option Elab.async false
set_option linter.all false
set_option maxRecDepth 100000
set_option maxHeartbeats 1000000
set_option autoImplicit false
namespace DL
open PySem PySem.Spec PyProof.Rows L2
end DL
set_option Elab.async false
set_option linter.all false
set_option maxRecDepth 100000
set_option maxHeartbeats 1000000
set_option autoImplicit false
namespace DL
open PySem PySem.Spec PyProof.Rows L2
end DL
set_option Elab.async false
set_option linter.all false
set_option maxRecDepth 100000
set_option maxHeartbeats 1000000
set_option autoImplicit false
namespace DL
open PySem PySem.Spec PyProof.Rows L2
end DL
set_option Elab.async false
set_option linter.all false
set_option maxRecDepth 100000
set_option maxHeartbeats 1000000
set_option autoImplicit false
namespace DL
open PySem PySem.Spec PyProof.Rows L2
def alB (ds : List PyData) : Bool := ds.all fun a => ds.all fun b => PySem.W.alike a b
def tup1 : PyData → Bool
  | .tuple (_ :: _) => true
  | _ => false
def sortL (ds : List PyData) : List PyData := ds.mergeSort (PySem.W.dataLe false id)
def sortD : List Vw → Option Rv
  | [.d (.list ds)] => if alB ds && ds.all tup1 && ds.all (fun d => decide (d.depth ≤ 90)) && decide (ds.length ≤ 100000) then some (.lst (sortL ds)) else sortX [.d (.list ds)]
  | vs => sortX vs
theorem each_dd {X : Cx} {B H : Hp} {pins : List (Addr × Obj)} {σ : L2.St} {s : Shared} (I : Inv X pins σ H s) (sB : Same B H) : ∀ {zs : List V} {its : List Value} {ds : List PyData}, Vals zs its → DDs B zs ds → PySem.W.EachIs (fun v d => ∃ y, RelV y v ∧ DD B y d) its ds ∧ PySem.W.EachIs (fun v d => ∃ as, Reads s.heap v d as) its ds
  | _, _, _, .nil, .nil => ⟨.nil, .nil⟩
  | _, _, _, .cons r rs, .cons q qs => by
    obtain ⟨h1, h2⟩ := each_dd I sB rs qs
    exact ⟨.cons ⟨_, r, q⟩ h1, .cons (Dp.reads I _ _ _ (dp_mono sB q.dp) r) h2⟩
theorem each_back {B : Hp} : ∀ {its : List Value} {ds : List PyData}, PySem.W.EachIs (fun v d => ∃ y, RelV y v ∧ DD B y d) its ds → ∃ ys, Vals ys its ∧ DDs B ys ds
  | _, _, .nil => ⟨[], .nil, .nil⟩
  | _, _, .cons ⟨y, r, q⟩ h => by
    obtain ⟨ys, h1, h2⟩ := each_back h
    exact ⟨y :: ys, .cons r h1, .cons q h2⟩
theorem cs_sortD {S : Sg} : CallS S (.builtin "sorted") sortD := by
  rintro c hc pins s σ H xs us Q I rv ⟨B, as, r, sB, ov, e, k⟩
  unfold sortD at e
  split at e
  · rename_i ds
    split at e
    · rename_i hc1
      cases e
      simp only [Bool.and_eq_true, decide_eq_true_eq] at hc1
      obtain ⟨⟨⟨h1, h2⟩, h3⟩, h4⟩ := hc1
      obtain ⟨v, rfl, q⟩ := ovs1 ov
      obtain ⟨p, zs, rfl, hp, qz⟩ := ov_lst sB q
      obtain ⟨its, rvz, hl, hz⟩ := I.list (a := p) (xs := zs) (.inl hp)
      rw [Vals.ref1 rv]
      obtain ⟨q1, q2⟩ := each_dd I sB rvz qz
      have hlen : ds.length ≤ sizeLine := by rw [sizeLine_eq]; omega
      refine PySem.W.sorted_data (bs := ds) (R := fun v d => ∃ y, RelV y v ∧ DD B y d) (enc := id) hl.isList q1 q2 (fun d m d' m' => ?_) (.inl fun d m => ?_) hlen (fun b hb => ?_) fun out o1 o2 => ?_
      · rw [List.map_id] at m m'
        exact List.all_eq_true.mp (List.all_eq_true.mp h1 d m) d' m'
      · rw [List.map_id] at m
        have := List.all_eq_true.mp h2 d m
        cases d with
        | tuple l =>
          cases l with
          | nil => cases this
          | cons x r => exact ⟨x, r, rfl⟩
        | _ => cases this
      · have := List.all_eq_true.mp h3 b hb
        have := of_decide_eq_true this
        have hu := hc.room.un
        show c.A.units + 2 + b.depth < cLine
        omega
      · obtain ⟨ys, v1, v2⟩ := each_back o2
        obtain ⟨ep, he'⟩ := PyProof.Rows.sortedAll_at s.heap its (List.toArray out)
        have hl2 : ys.length ≤ sizeLine := by rw [v2.length, List.length_mergeSort]; exact hlen
        exact ⟨.ref _, upd H (s.heap.objs.size + 1) (.lst ys), I.laid (t' := s.toks) (fun _ _ => PyProof.Rows.sortedAll_old) (Nat.le_succ _) ⟨hl2, out, ep, v1, he'⟩, rfl, k _ ys (I.hok.fresh (Nat.le_succ _)) v2⟩
    · exact cs_sortX c hc pins s σ H xs us Q I rv ⟨B, _, r, sB, ov, e, k⟩
  · exact cs_sortX c hc pins s σ H xs us Q I rv ⟨B, _, r, sB, ov, e, k⟩
end DL
set_option Elab.async false
set_option linter.all false
set_option maxRecDepth 100000
set_option maxHeartbeats 1000000
set_option autoImplicit false
namespace DL
open PySem PySem.Spec PyProof.Rows L2
section
variable {prog : Program} {w : World} {A : Around} {E : Value → Shared → Prop} {s : Shared} {d : Addr} {es : Array DictEntry} {ep : Nat}
theorem kdl_raw (lo : (d == sysModules) = false) : PySem.W.KdlSrc prog w "dict" d d es.size (fun i v => ∃ hi : i < es.size, v = es[i].key) (fun h => h.DictRaw d es ep) where
  type := fun _ hm => hm.typeIs
  there := fun _ ⟨_, ho, _⟩ => ⟨Heap.lt_size ho, Heap.lt_size ho⟩
  keep := fun _ _ hm hk => hm.at fun o e => hk d (.inl rfl) o e
  notList := by decide
  notTuple := by decide
  hint := fun _ _ _ _ hm hq => PySem.W.kdl_hint_dict hm.typeIs hq
  iter := fun _ _ hh hm => ⟨_, _, (fun _ _ hq => wpAny_pyIter_dict_raw lo hm hq), Walks.rawKeys hh _ d (let ⟨_, ho, _⟩ := hm; Nat.ne_of_lt (Heap.lt_size ho)) es ep, ⟨⟨_, Heap.get?_push_size _ rfl, rfl, rfl⟩, hm.at fun o e => Heap.get?_push_of_some _ e⟩⟩
theorem sorted_raw {Q : Value → Shared → Prop} (hh : A.handled = none) (lo : (d == sysModules) = false) (hm : s.heap.DictRaw d es ep) (hn : es.size ≤ sizeLine)
    (h : ∀ (h' : Heap) (tk : Nat) (vs : List Value), (∀ b o, s.heap.get? b = some o → h'.get? b = some o) → vs.length = es.size → (∀ j v, vs[j]? = some v → ∃ hi : j < es.size, v = es[j].key) →
      wpAny (model prog w) A.in1 (call (.builtin "list.sort") [.ref h'.objs.size]) (fun _ s' => Q (.ref h'.objs.size) s') E { s with heap := h'.push (seqObj "list" vs.toArray 0), toks := tk }) :
    wpAny (model prog w) A (call (.builtin "sorted") [.ref d]) Q E s := by
  refine Calls.call_function_entry PyProof.Rows.kind_sorted PyProof.Rows.plain_sorted PyProof.Rows.entry_sorted (PyProof.Rows.args_sorted1 _) ?_
  unfold Builtin.«sorted»
  refine wpAny_bind (m := checkCount "sorted" 1 1 _) (wpAny_pure ?_)
  refine wpAny_bind (PySem.W.kdu_collect (A := A.in1) (kdl_raw lo) hh hm hn fun h' tk acc hk hacc => ?_)
  have hl : acc.toList.length = es.size := by rw [Array.length_toList, hacc.1]
  refine wpAny_bind (wpAny_newList ?_ (by rw [hl]; exact hn))
  have hg := h h' tk acc.toList hk hl fun j v e => hacc.2 j v (by rw [← Array.getElem?_toList]; exact e)
  refine wpAny_bind (wpAny_holding (wpAny_mono hg (fun _ s' x => ?_) fun _ _ e => e))
  exact wpAny_pure ⟨_, rfl, x⟩
end
def sortT : List Vw → Option Rv
  | [.t kvs] => if alB (kvs.map fun q => .tuple (q.1.map .int)) && (kvs.map fun q : List Int × PyData => PyData.tuple (q.1.map .int)).all tup1 && decide (kvs.length ≤ 100000) then some (.lst (sortL (kvs.map fun q => .tuple (q.1.map .int)))) else none
  | vs => sortD vs
theorem dd_ints {B : Hp} : ∀ ns : List Int, DDs B (ns.map V.int) (ns.map PyData.int)
  | [] => .nil
  | n :: ns => .cons (.int n) (dd_ints ns)
theorem each_keys {X : Cx} {B H : Hp} {pins : List (Addr × Obj)} {σ : L2.St} {s : Shared} (I : Inv X pins σ H s) (sB : Same B H) : ∀ {xs : List (List Int × Addr × Value)} {kvs : List (List Int × PyData)}, TIs B xs kvs →
    PySem.W.EachIs (fun v d => ∃ y, RelV y v ∧ DD B y d) (xs.map fun x => Value.ref x.2.1) (kvs.map fun q => PyData.tuple (q.1.map .int)) ∧ PySem.W.EachIs (fun v d => ∃ as, Reads s.heap v d as) (xs.map fun x => Value.ref x.2.1) (kvs.map fun q => PyData.tuple (q.1.map .int))
  | _, _, .nil => ⟨.nil, .nil⟩
  | _, _, .cons (a := x) (b := q) ⟨e, pl, _⟩ r => by
    obtain ⟨h1, h2⟩ := each_keys I sB r
    have dd : DD B (.ref x.2.1) (.tuple (q.1.map .int)) := .tup (by rw [← e]; exact pl) (dd_ints _)
    exact ⟨.cons ⟨.ref x.2.1, rfl, dd⟩ h1, .cons (Dp.reads I _ _ _ (dp_mono sB dd.dp) rfl) h2⟩
theorem cs_sortT {S : Sg} : CallS S (.builtin "sorted") sortT := by
  rintro c hc pins s σ H xs us Q I rv ⟨B, as, r, sB, ov, e, k⟩
  unfold sortT at e
  split at e
  · rename_i kvs
    split at e
    · rename_i hc1
      cases e
      simp only [Bool.and_eq_true, decide_eq_true_eq] at hc1
      obtain ⟨⟨h1, h2⟩, h4⟩ := hc1
      obtain ⟨v, rfl, q⟩ := ovs1 ov
      obtain ⟨a, ys, rfl, td⟩ := q
      rw [Vals.ref1 rv]
      obtain ⟨o, es, ep, ho, hx, hdat, hes⟩ := (show ObjOk S.g.P S.g.w H s.heap a (dictI a ys) from I.hok a _ td.here).1
      have hsz : es.size = ys.length := by rw [← Array.length_toList, hes, List.length_map]
      have hyk : ys.length = kvs.length := Paired.length td.are
      have raw : s.heap.DictRaw a es ep := ⟨o, ho, hx, hdat⟩
      obtain ⟨q1, _⟩ := each_keys I sB td.are
      refine sorted_raw (I.ok.hd hc.calm) td.big raw (by rw [hsz]; exact td.few) fun h' tk vs hk hl hv => ?_
      have ev : vs = ys.map fun x => Value.ref x.2.1 := by
        refine List.ext_getElem? fun j => ?_
        by_cases hj : j < vs.length
        · obtain ⟨hi, e1⟩ := hv j _ (List.getElem?_eq_getElem hj)
          have hy : j < ys.length := by rw [← hsz]; exact hi
          have e2 : es.toList[j]? = some (entI ys[j]) := by rw [hes, List.getElem?_map, List.getElem?_eq_getElem hy]; rfl
          rw [Array.getElem?_toList, Array.getElem?_eq_getElem hi] at e2
          have e3 := Option.some.inj e2
          rw [List.getElem?_eq_getElem hj, e1, e3, List.getElem?_map, List.getElem?_eq_getElem hy]
          rfl
        · rw [List.getElem?_eq_none (by omega), List.getElem?_eq_none (by rw [List.length_map]; omega)]
      have I1 : Inv (S.g.cx c) pins σ H { s with heap := h', toks := tk } := I.kept hk
      obtain ⟨_, q2⟩ := each_keys I1 sB td.are
      rw [← ev] at q1 q2
      have hlen : (kvs.map fun q : List Int × PyData => PyData.tuple (q.1.map .int)).length ≤ sizeLine := by rw [List.length_map, sizeLine_eq]; omega
      have hoL : (h'.push (seqObj "list" vs.toArray 0)).get? h'.objs.size = some (seqObj "list" vs.toArray 0) := Heap.get?_push_size _ rfl
      have kb : ∀ b o, h'.get? b = some o → (h'.push (seqObj "list" vs.toArray 0)).get? b = some o := fun b o e => Heap.get?_push_of_some _ e
      refine PySem.W.list_sort_data (s := { s with heap := h'.push (seqObj "list" vs.toArray 0), toks := tk }) (bs := kvs.map fun q => PyData.tuple (q.1.map .int)) (R := fun v d => ∃ y, RelV y v ∧ DD B y d) (enc := id) hoL q1 (q2.mono fun v d ⟨as, r⟩ => ⟨as, PyProof.Rows.Reads.keeps kb r, fun m => Nat.lt_irrefl _ (reads_lt r _ m)⟩) (fun d m d' m' => ?_) (.inl fun d m => ?_) hlen (fun b hb => ?_) fun out o1 o2 => ?_
      · rw [List.map_id] at m m'
        exact List.all_eq_true.mp (List.all_eq_true.mp h1 d m) d' m'
      · rw [List.map_id] at m
        have := List.all_eq_true.mp h2 d m
        cases d with
        | tuple l =>
          cases l with
          | nil => cases this
          | cons x r => exact ⟨x, r, rfl⟩
        | _ => cases this
      · obtain ⟨q, _, rfl⟩ := List.mem_map.mp hb
        have hd : ∀ ns : List Int, PyData.depthAll (ns.map PyData.int) = 0 := by
          intro ns
          induction ns with
          | nil => rfl
          | cons n ns ih => show max _ (PyData.depthAll (ns.map PyData.int)) = 0; rw [ih]; rfl
        have hu := hc.room.un
        have : (PyData.tuple (q.1.map PyData.int)).depth ≤ 1 := by
          simp only [PyData.depth, hd]; omega
        show c.A.units + 1 + 1 + (PyData.tuple (q.1.map PyData.int)).depth < cLine
        omega
      · obtain ⟨zs, v1, v2⟩ := each_back o2
        obtain ⟨e', he'⟩ := PyProof.Rows.sortedHeap_at (vs := vs) (out := List.toArray out) hoL
        have hl2 : zs.length ≤ sizeLine := by rw [v2.length, List.length_mergeSort]; exact hlen
        refine ⟨.ref h'.objs.size, upd H h'.objs.size (.lst zs), I1.laid (t' := tk) (fun b u e => ?_) (Nat.le_refl _) ⟨hl2, out, e', v1, he'⟩, rfl, k _ zs (I1.hok.fresh (Nat.le_refl _)) v2⟩
        have hb : b < h'.objs.size := Heap.lt_size e
        rw [PyProof.Rows.sortedHeap_old (Nat.ne_of_lt hb) (Heap.lt_size (kb b u e))]
        exact kb b u e
    · cases e
  · exact cs_sortD c hc pins s σ H xs us Q I rv ⟨B, _, r, sB, ov, e, k⟩
end DL
set_option Elab.async false
set_option linter.all false
set_option maxRecDepth 100000
set_option maxHeartbeats 1000000
set_option autoImplicit false
namespace DL
open PySem PySem.Spec PyProof.Rows L2
end DL
set_option Elab.async false
set_option linter.all false
set_option maxRecDepth 100000
set_option maxHeartbeats 1000000
set_option autoImplicit false
namespace DL
open PySem PySem.Spec PyProof.Rows L2
def firstD : PyData → PyData
  | .tuple (x :: _) => x
  | _ => .none
def apB : List PyData → Bool
  | [] => true
  | d :: ds => ds.all (fun e => !PyData.eqv (firstD d) (firstD e) && !PyData.eqv (firstD e) (firstD d)) && apB ds
section
open PySem.W
/-- the first item of a value's datum, by its place -/
noncomputable def fsKind (vs : List Value) (ds : List PyData) : PyProof.Rows.KeyKind where
  toKeyOrd := listOrd itemOrd
  keyOf v := open Classical in if q : ∃ d, (v, d) ∈ vs.zip ds then some (keyToks (firstD q.choose)) else none
  dflt := ([] : List (Int ⊕ List Nat))
structure Fs (h : Heap) (vs : List Value) (ds : List PyData) : Prop where
  e : EachIs (fun v d => ∃ as, Reads h v d as) vs ds
  t : ∀ d ∈ ds, tup1 d = true
  al : ∀ d ∈ ds, ∀ d' ∈ ds, alike (firstD d) (firstD d') = true
  ap : apB ds = true
theorem tup1_of {d : PyData} (h : tup1 d = true) : ∃ x r, d = .tuple (x :: r) := by
  cases d with
  | tuple l =>
    cases l with
    | nil => cases h
    | cons x r => exact ⟨x, r, rfl⟩
  | _ => cases h
theorem Fs.one {h : Heap} {vs : List Value} {ds : List PyData} (F : Fs h vs ds) {v : Value} {d d' : PyData} (m : (v, d) ∈ vs.zip ds) (m' : (v, d') ∈ vs.zip ds) : firstD d = firstD d' := by
  obtain ⟨_, r⟩ := F.e.zip _ m
  obtain ⟨_, r'⟩ := F.e.zip _ m'
  have md := (List.of_mem_zip m).2
  have md' := (List.of_mem_zip m').2
  have ha := F.al d md d' md'
  obtain ⟨x, q, rfl⟩ := tup1_of (F.t d md)
  obtain ⟨x', q', rfl⟩ := tup1_of (F.t d' md')
  cases r with
  | @tuple a o xs n _ _ h1 h2 h3 h4 =>
    cases r' with
    | @tuple _ o' xs' n' _ _ k1 k2 k3 k4 =>
      have h1 : h.get? a = some o := h1
      have k1 : h.get? a = some o' := k1
      rw [h1] at k1
      cases k1
      rw [h3] at k3
      cases k3
      generalize xs.toList = l at h4 k4
      cases h4 with
      | cons a1 _ =>
        cases k4 with
        | cons b1 _ => exact alike_unique x x' _ _ _ ha a1 b1
theorem Fs.key {h : Heap} {vs : List Value} {ds : List PyData} (F : Fs h vs ds) {v : Value} {d : PyData} (m : (v, d) ∈ vs.zip ds) : (fsKind vs ds).keyOf v = some (keyToks (firstD d)) := by
  have q : ∃ d, (v, d) ∈ vs.zip ds := ⟨d, m⟩
  show (open Classical in if q : ∃ d, (v, d) ∈ vs.zip ds then some (keyToks (firstD q.choose)) else none) = _
  rw [dif_pos q, F.one q.choose_spec m]
end
end DL
set_option Elab.async false
set_option linter.all false
set_option maxRecDepth 100000
set_option maxHeartbeats 1000000
set_option autoImplicit false
namespace DL
open PySem PySem.Spec PyProof.Rows L2
end DL
set_option Elab.async false
set_option linter.all false
set_option maxRecDepth 100000
set_option maxHeartbeats 1000000
set_option autoImplicit false
namespace DL
open PySem PySem.Spec PyProof.Rows L2
mutual
def tx : PyData → List Nat
  | .none => [78, 111, 110, 101]
  | .bool b => if b = true then [84, 114, 117, 101] else [70, 97, 108, 115, 101]
  | .int i => (toString i).toList.map Char.toNat
  | .str x => 39 :: (x.cps.toList ++ [39])
  | .list xs => 91 :: (txs xs ++ [93])
  | .tuple xs => 40 :: (txs xs ++ (if xs.length = 1 then [44, 41] else [41]))
  | .dict _ => []
def txs : List PyData → List Nat
  | [] => []
  | x :: xs => tx x ++ txr xs
def txr : List PyData → List Nat
  | [] => []
  | x :: xs => 44 :: 32 :: (tx x ++ txr xs)
end
def tm (r : List Nat) : Prop := r = [] ∨ ∃ c s, r = c :: s ∧ (c = 44 ∨ c = 41 ∨ c = 93)
def cl (r : List Nat) : Prop := ∃ c s, r = c :: s ∧ (c = 41 ∨ c = 93 ∨ (c = 44 ∧ ∃ t, s = 41 :: t))
end DL
set_option Elab.async false
set_option linter.all false
set_option maxRecDepth 100000
set_option maxHeartbeats 1000000
set_option autoImplicit false
namespace DL
open PySem PySem.Spec PyProof.Rows L2
end DL
set_option Elab.async false
set_option linter.all false
set_option maxRecDepth 100000
set_option maxHeartbeats 4000000
set_option autoImplicit false
namespace DL
open PySem PySem.Spec PyProof.Rows L2
end DL
set_option Elab.async false
set_option linter.all false
set_option maxRecDepth 100000
set_option maxHeartbeats 1000000
set_option autoImplicit false
namespace DL
open PySem PySem.Spec PyProof.Rows L2 LamX
end DL
set_option Elab.async false
set_option linter.all false
set_option maxRecDepth 100000
set_option maxHeartbeats 1000000
set_option autoImplicit false
namespace DL
open PySem PySem.Spec PyProof.Rows L2
end DL
set_option Elab.async false
set_option linter.all false
set_option maxRecDepth 100000
set_option maxHeartbeats 1000000
set_option autoImplicit false
namespace DL
open PySem PySem.Spec PyProof.Rows L2 LamX
structure HSimO (K : PySem.W.Frag) (A : Addr) (ts : Addr → TS) (wh : Exc → WS) : Prop where
  mono : ∀ (x : Exc) (d d' : DEnds) (δ : SEnv), d.le d' → wh x d δ → wh x d' δ
  run : ∀ (F B H : Hp) (vs : List V) (σ : L2.St) (δ : SEnv) (D : Ends) (d : DEnds) (da : Addr) (fs : List (Str × V)) (fds : List (Str × PyData)), Rep K F B H vs σ δ → B da = some (.xd fs) → FldsOk B fs fds → EndsOk K F B vs D d →
    wh ⟨.ref A, fds⟩ d δ → ts da D σ H
/-- a handler of refusals of the class A, which names none -/
def DHo (S : Sg) (A : Addr) (suite : List Stmt) (wh : Exc → WS) : Prop := ∃ ts : Addr → Addr → TS, (∀ c, S.ok c → ∀ (a : Addr) (oe : Obj) (da : Addr) (pn : List (Addr × Obj)), Zc (.ref A) (some da) oe → (∃ vs, oe.data = .fields vs) → PSs ((S.g.cx c).suite a ((a, oe) :: pn)) suite (ts a da)) ∧ ∀ a, HSimO S.g.K A (ts a) wh
def wTryO (A : Addr) (wb : WS) (wh : Exc → WS) : WS := fun d δ => wb { d with ex := fun x => x.cls = .ref A ∧ wh x d (strip δ) } δ
section
variable {S : Sg}
theorem ds_tryOnly {A CC : Addr} {cx : Str} {body suite : List Stmt} {b0 : Stmt} {wb : WS} {wh : Exc → WS} {np pos pos' : Pos} (ht : S.top = true) (hm : S.g.mg cx = some (.ref CC)) (hg : GlS S.sc cx) (em : PySem.W.exmOne S.g.K (.ref A) (.ref CC) = some true)
    (hb : DBs S body wb) (hh : DHo S A (b0 :: suite) wh) (hdb : (cx == ("__debug__" : Str)) = false := by decide) :
    DS S (.Try body [.ExceptHandler (some (.Name cx np)) none (b0 :: suite) pos'] [] [] pos) (wTryO A wb wh) := by
  obtain ⟨tb, pb, sb⟩ := hb
  obtain ⟨ts, pt, st⟩ := hh
  refine ⟨fun D σ H => tb (fun cls d H' => wOnly S.g.K (.ref CC) (fun a cls d D σ H => ∃ da, cls = .ref A ∧ d = some da ∧ ts a da D σ H) (fun _ _ _ _ => False) D cls d σ H') D σ H, fun c hc => ?_, ⟨fun d d' δ h w => ?_, fun F B H vs σ δ D d hx h k w => ?_⟩⟩
  · have fr := hc.fr ht
    refine ps_try_only (X := S.g.cx c) (c := .ref CC) (tb := fun W D σ H => tb (fun cls d H' => W cls d σ H') D σ H) (Wout := fun _ _ _ _ => False) fr.1 fr.2 ⟨gl_of hc hg, hdb, .inl hm⟩ L2.takes0 (fun W pn xe tk po => pb c hc W pn xe tk po) fun a oe cls d pn hz hf => ⟨fun pins s σ H D I ⟨da, h1, h2, h3⟩ => ?_⟩
    subst h1 h2
    exact (pt c hc a oe da pn hz hf).run pins s σ H D I h3
  · exact (sb (fun _ _ _ => False)).mono { d with ex := fun x => x.cls = .ref A ∧ wh x d (strip δ) } { d' with ex := fun x => x.cls = .ref A ∧ wh x d' (strip δ) } _ ⟨h.nx, h.rt, h.bk, h.ct, fun x ⟨z1, z2⟩ => ⟨z1, (st 0).mono _ _ _ _ h z2⟩⟩ w
  · refine (sb _).run F B H vs σ δ D { d with ex := fun x => x.cls = .ref A ∧ wh x d (strip δ) } (fun cls da B' H' fs fds s1 s2 s3 s4 e1 fo x => ?_) h ⟨k.nx, k.rt, k.bk, k.ct⟩ w
    obtain ⟨x1, x2⟩ := x
    have x1 : cls = .ref A := x1
    subst x1
    refine ⟨true, em, fun _ a ha => ⟨da, rfl, rfl, ?_⟩, fun z => nomatch z⟩
    have r1 := h.strip s1.1 s2 s3 s4 s1.2
    exact (st a).run F B' H' vs _ _ _ d da fs fds r1 e1 fo (k.up s1.1) x2
def wHC (i : Nat) (v : PyData) : Exc → WS := fun _ d δ => d.nx (δ.set i (some (.d v)))
theorem dh_cst {A : Addr} {i : Nat} {x : Str} {cc : Const} {v : V} {dd : PyData} {k : Nat} {p pos pos' : Pos} (hc : ∀ {X : Cx}, PE X (.Constant cc k p) (tC v)) (hd : ∀ B, DD B v dd) (hw : ∀ env line, swapsWith (.Constant cc k p) (some (.Name x pos')) line env = pure false) (ht : S.top = true) (hi : S.N[i]? = some x) (hl : S.sc.names.lookup x = some .local) : DHo S A [.Assign [.Name x pos'] (.Constant cc k p) pos] (wHC i dd) := by
  refine ⟨fun _ _ D σ H => D.nx (σ.set i (some v)) H, fun c hcc a oe da pn hz hf => ?_, fun a => ⟨fun x d d' δ h w => h.nx _ w, fun F B H vs σ δ D d da fs fds hr e1 fo' k w => ?_⟩⟩
  · let Y := (S.g.cx c).suite a ((a, oe) :: pn)
    have nd : Y.N.Nodup := by show c.N.Nodup; rw [hcc.hN]; exact hcc.nd
    have iN : Y.N[i]? = some x := by show c.N[i]? = _; rw [hcc.hN]; exact hi
    have lo : Y.env.scope.names.lookup x = some .local := by show c.env.scope.names.lookup _ = _; rw [hcc.hs]; exact hl
    have hfn : ∀ x, (S.g.cx c).fn x = true := hcc.fn ht
    refine PSs.imp (pss_one (ps_set (X := Y) (i := i) nd iN (.inl lo) hc (hw _ _) (.inl (hfn _)))) ?_
    intro D σ H h
    exact h
  · have R := hr.store i v (.d dd) (hd _) (fun _ z => nomatch z) (fun a e c z => nomatch z)
    exact k.nx _ _ _ _ (fun _ _ z => z) R w
end
end DL
set_option Elab.async false
set_option linter.all false
set_option maxRecDepth 100000
set_option maxHeartbeats 1000000
set_option autoImplicit false
namespace DL
open PySem PySem.Spec PyProof.Rows L2
end DL
set_option Elab.async false
set_option linter.all false
set_option maxRecDepth 100000
set_option maxHeartbeats 4000000
set_option autoImplicit false
namespace DL
open PySem PySem.Spec PyProof.Rows L2
end DL
set_option Elab.async false
set_option linter.all false
set_option maxRecDepth 100000
set_option maxHeartbeats 1000000
set_option autoImplicit false
namespace DL
open PySem PySem.Spec PyProof.Rows L2
end DL
set_option Elab.async false
set_option linter.all false
set_option maxRecDepth 100000
set_option maxHeartbeats 1000000
set_option autoImplicit false
namespace DL
open PySem PySem.Spec PyProof.Rows L2
end DL
set_option Elab.async false
set_option linter.all false
set_option maxRecDepth 100000
set_option maxHeartbeats 1000000
set_option autoImplicit false
namespace DL
open PySem PySem.Spec PyProof.Rows L2
end DL
set_option Elab.async false
set_option linter.all false
set_option maxRecDepth 100000
set_option maxHeartbeats 1000000
set_option autoImplicit false
namespace DL
open PySem PySem.Spec PyProof.Rows L2
end DL
set_option Elab.async false
set_option linter.all false
set_option maxRecDepth 100000
set_option maxHeartbeats 1000000
set_option autoImplicit false
namespace DL
open PySem PySem.Spec PyProof.Rows L2
end DL
set_option Elab.async false
set_option linter.all false
set_option maxRecDepth 100000
set_option maxHeartbeats 1000000
set_option autoImplicit false
namespace DL
open PySem PySem.Spec PyProof.Rows L2
theorem zip_no_len : typeLookup (.type "zip") "__len__" = pure none := by rw [typeLookup_type, builtinLookup_eq_fast]; kernel_rfl
theorem zip_no_hint : typeLookup (.type "zip") "__length_hint__" = pure none := by rw [typeLookup_type, builtinLookup_eq_fast]; kernel_rfl
section
variable {prog : Program} {w : World} {A : Around} {E : Value → Shared → Prop} {s : Shared} {t1 t2 : Bool} {a b z TI TO i1 i2 : Addr} {i : Nat}
theorem ZAt.typ (st : ZAt s.heap t1 t2 a b z TI TO i1 i2 i) : s.TypeIs (.ref z) "zip" := let ⟨_, _, e, _⟩ := st.zo; ⟨_, e, rfl⟩
theorem ZAt.pstep (S : ZipSep2 z TI TO i1 i2 [i1, a] [i2, b]) (hh : A.in1.handled = none) (st : ZAt s.heap t1 t2 a b z TI TO i1 i2 i) {xs ys : Array Value} (p : IsK t1 s.heap a xs) (q : IsK t2 s.heap b ys) (l1 : i < xs.size) (l2 : i < ys.size) {Q : Option Value → Shared → Prop}
    (k : ∀ h' tk u v, xs[i]? = some u → ys[i]? = some v → h'.objs.size = s.heap.objs.size + 1 → ZAt h' t1 t2 a b z TI TO i1 i2 (i + 1) → ZPair h' s.heap.objs.size u v → (∀ c o, c ∉ [z, TO, i1, i2] → s.heap.get? c = some o → h'.get? c = some o) → Q (some (.ref s.heap.objs.size)) { s with heap := h', toks := tk }) :
    wpAny (model prog w) A (pyNext (.ref z)) Q E s := by
  have n1 := ne_src p st.k1
  have n2 := ne_src q st.k2
  have hT := st.typ
  obtain ⟨⟨f0, m, e, f⟩, hI, ⟨x0, y0, hO⟩, h1, h2⟩ := st
  unfold pyNext
  refine wpAny_bind (wpAny_attempt (wpAny_callSpecial?_slot (name := Str.ofString "__next__") hT F.slot_zip_next (wpAny_call_entry F.slot_zip_next hT F.entry_zip_next
    (zip_nextU S (draws_k t1 (A := A.in1) hh i1 a n1 xs) (draws_k t2 (A := A.in1) hh i2 b n2 ys) e f hI hO ⟨h1, p⟩ ⟨h2, q⟩ l1 l2 fun x y h' tk f1 m1 px py z' fr' O' sa sb hT' hsz hk hz => wpAny_pure ?_) (F.args_zip_next_1 _))))
  exact k h' tk x y px py hsz ⟨⟨f1, m1, z', fr'⟩, hk _ _ S.TIz S.TITO S.TIi1 S.TIi2 hI, O', sa.1, sb.1⟩ hT' fun c o hc e => hk c o (fun q' => hc (by simp [q'])) (fun q' => hc (by simp [q'])) (fun q' => hc (by simp [q'])) (fun q' => hc (by simp [q'])) e
theorem ZAt.pstop (S : ZipSep2 z TI TO i1 i2 [i1, a] [i2, b]) (hh : A.in1.handled = none) (st : ZAt s.heap t1 t2 a b z TI TO i1 i2 i) {xs ys : Array Value} (p : IsK t1 s.heap a xs) (q : IsK t2 s.heap b ys) (l : xs.size ≤ i ∨ ys.size ≤ i) {Q : Option Value → Shared → Prop}
    (k : ∀ h' tk, (∀ c o, c ∉ [z, TO, i1, i2] → s.heap.get? c = some o → h'.get? c = some o) → Q none { s with heap := h', toks := tk }) :
    wpAny (model prog w) A (pyNext (.ref z)) Q E s := by
  have n1 := ne_src p st.k1
  have n2 := ne_src q st.k2
  have hT := st.typ
  obtain ⟨⟨f0, m, e, f⟩, hI, ⟨x0, y0, hO⟩, h1, h2⟩ := st
  unfold pyNext
  refine wpAny_bind (wpAny_attempt (wpAny_callSpecial?_slot (name := Str.ofString "__next__") hT F.slot_zip_next (wpAny_call_entry F.slot_zip_next hT F.entry_zip_next ?_ (F.args_zip_next_1 _))))
  have fin : ∀ (h' : Heap) (tk : Nat), (∀ c o, c ≠ z → c ≠ TO → c ≠ i1 → c ≠ i2 → s.heap.get? c = some o → h'.get? c = some o) → Q none { s with heap := h', toks := tk } := fun h' tk hk =>
    k h' tk fun c o hc e => hk c o (fun q' => hc (by simp [q'])) (fun q' => hc (by simp [q'])) (fun q' => hc (by simp [q'])) (fun q' => hc (by simp [q'])) e
  by_cases c1 : xs.size ≤ i
  · by_cases c2 : ys.size ≤ i
    · exact zip_endU S (draws_end t1 hh i1 a xs i (by simp; omega)) (draws_end t2 hh i2 b ys i (by simp; omega)) e f hI hO ⟨rfl, h1, p⟩ ⟨rfl, h2, q⟩ (Nat.le_refl _) (Nat.le_refl _) (.inl rfl) fun h' tk e hk ⟨o, ho, hc'⟩ => wpAny_bind (wpAny_isInstance (T := "StopIteration") (b := true) ⟨o, ho, hc'⟩ isSubtype_stop (wpAny_pure (fin h' tk hk)))
    · exact zip_endU S (draws_end t1 hh i1 a xs i (by simp; omega)) (draws_k t2 hh i2 b n2 ys) e f hI hO ⟨rfl, h1, p⟩ ⟨h2, q⟩ (Nat.le_refl _) (by omega) (.inl rfl) fun h' tk e hk ⟨o, ho, hc'⟩ => wpAny_bind (wpAny_isInstance (T := "StopIteration") (b := true) ⟨o, ho, hc'⟩ isSubtype_stop (wpAny_pure (fin h' tk hk)))
  · have c2 : ys.size ≤ i := by omega
    exact zip_endU S (draws_k t1 hh i1 a n1 xs) (draws_end t2 hh i2 b ys i (by simp; omega)) e f hI hO ⟨h1, p⟩ ⟨rfl, h2, q⟩ (by omega) (Nat.le_refl _) (.inr rfl) fun h' tk e hk ⟨o, ho, hc'⟩ => wpAny_bind (wpAny_isInstance (T := "StopIteration") (b := true) ⟨o, ho, hc'⟩ isSubtype_stop (wpAny_pure (fin h' tk hk)))
end
/-- the pairs made so far: each address above lo holds the pair of its place -/
structure MadeZ (xs ys : Array Value) (lo : Addr) (h : Heap) (as : List Addr) : Prop where
  rise : as.Pairwise (· < ·)
  above : ∀ a ∈ as, lo < a
  pairs : ∀ (j : Nat) (a : Addr), as[j]? = some a → ∃ u v, xs[j]? = some u ∧ ys[j]? = some v ∧ ZPair h a u v
theorem MadeZ.there {xs ys : Array Value} {lo : Addr} {h : Heap} {as : List Addr} (g : MadeZ xs ys lo h as) {a : Addr} (ha : a ∈ as) : a < h.objs.size := by
  obtain ⟨j, hj⟩ := List.mem_iff_getElem?.mp ha
  obtain ⟨_, _, _, _, e⟩ := g.pairs j a hj
  exact Heap.lt_size e
section
variable {prog : Program} {w : World} {A : Around} {s : Shared} {R : Result → Shared → Prop} {t1 t2 : Bool} {a b z TI TO i1 i2 : Addr} {xs ys : Array Value}
theorem loopZ {S : Addr} (sp : ZipSep2 z TI TO i1 i2 [i1, a] [i2, b]) (hh : A.handled = none) (hSf : S ∉ [z, TI, TO, i1, i2]) (hlo : ∀ c ∈ [z, TI, TO, i1, i2], c < S) (hSa : a ∉ [S, z, TO, i1, i2]) (hSb : b ∉ [S, z, TO, i1, i2]) (hn : min xs.size ys.size ≤ sizeLine) (res : Value) {h₁ : Heap}
    (hR : ∀ h' tk acc c as, (∀ b o, b ≠ S → b ∉ [z, TO, i1, i2] → h₁.get? b = some o → h'.get? b = some o) → h'.get? S = some { cls := .type "list", dict := none, data := .seq acc c, slots := #[] } → as.length = min xs.size ys.size → MadeZ xs ys S h' as →
      acc.toList = as.map Value.ref → R (.ok (.ret res)) { s with heap := h', toks := tk }) :
    ∀ (k i : Nat) (h : Heap) (tk c : Nat) (acc : Array Value) (as : List Addr), min xs.size ys.size - i = k → i ≤ min xs.size ys.size → ZAt h t1 t2 a b z TI TO i1 i2 i → IsK t1 h a xs → IsK t2 h b ys → (∀ b o, b ≠ S → b ∉ [z, TO, i1, i2] → h₁.get? b = some o → h.get? b = some o) →
      h.get? S = some { cls := .type "list", dict := none, data := .seq acc c, slots := #[] } → acc.toList = as.map Value.ref → as.length = i → MadeZ xs ys S h as →
      codeAny (model prog w) A (.builtin "list.extend.loop" ⟨[.ref S, .ref z, res], []⟩) R { s with heap := h, toks := tk } := by
  have sub : ∀ c, c ∈ [z, TO, i1, i2] → c ∈ [z, TI, TO, i1, i2] := fun c h => by
    simp only [List.mem_cons, List.not_mem_nil, or_false] at h ⊢
    rcases h with h | h | h | h <;> simp [h]
  have hne : ∀ c ∈ [z, TO, i1, i2], S ≠ c := fun c hc e => hSf (e ▸ sub c hc)
  have low : ∀ {h : Heap} {as : List Addr}, MadeZ xs ys S h as → ∀ c ∈ as, c ∉ [z, TO, i1, i2] := fun g c hc z => Nat.lt_irrefl _ (Nat.lt_trans (hlo c (sub c z)) (g.above c hc))
  have hSn : S ∉ [z, TO, i1, i2] := fun z => hne S z rfl
  have an : a ∉ [z, TO, i1, i2] := fun z => hSa (List.mem_cons_of_mem _ z)
  have bn : b ∉ [z, TO, i1, i2] := fun z => hSb (List.mem_cons_of_mem _ z)
  have aS : a ≠ S := fun z => hSa (by rw [z]; exact List.mem_cons_self)
  have bS : b ≠ S := fun z => hSb (by rw [z]; exact List.mem_cons_self)
  intro k
  induction k with
  | zero =>
    intro i h tk c acc as hk hi hst hA hB hkeep hS hacc hal hG
    refine codeAny_builtin PySem.F.entry_extend_loop ?_
    rw [Around.under_plainId PySem.F.plain_extend_loop _]
    show wpAny _ A.in1 (pyNext (.ref z) >>= _) _ _ _
    refine wpAny_bind (ZAt.pstop (s := { s with heap := h, toks := tk }) (A := A.in1) sp hh hst hA hB (by omega) fun h' tk' he => ?_)
    refine wpAny_pure (hR h' tk' acc c as (fun b o h1 h2 e => he b o h2 (hkeep b o h1 h2 e)) (he S _ hSn hS) (by omega) ⟨hG.rise, hG.above, fun j a hj => ?_⟩ hacc)
    obtain ⟨u, v, e1, e2, e3⟩ := hG.pairs j a hj
    exact ⟨u, v, e1, e2, he a _ (low hG a (List.mem_of_getElem? hj)) e3⟩
  | succ k ih =>
    intro i h tk c acc as hk hi hst hA hB hkeep hS hacc hal hG
    have l1 : i < xs.size := by omega
    have l2 : i < ys.size := by omega
    have hsz : acc.size = i := by rw [← Array.length_toList, hacc, List.length_map, hal]
    refine codeAny_builtin PySem.F.entry_extend_loop ?_
    rw [Around.under_plainId PySem.F.plain_extend_loop _]
    show wpAny _ A.in1 (pyNext (.ref z) >>= _) _ _ _
    refine wpAny_bind (ZAt.pstep (s := { s with heap := h, toks := tk }) (A := A.in1) sp hh hst hA hB l1 l2 fun h' tk' u v hu hv hz hst' ht hkp => ?_)
    dsimp only at ht hz hkp ⊢
    have hS' := hkp S _ hSn hS
    have up : ∀ b o, b ≠ S → h'.get? b = some o → (h'.update S (Obj.mapSeq (·.push (Value.ref h.objs.size)))).get? b = some o := fun b o hb e => (Heap.get?_update_other _ _ (Ne.symm hb)).trans e
    have hSl : S < h.objs.size := Heap.lt_size hS
    show wpAny _ A.in1 (updateSeq S (·.push (Value.ref h.objs.size)) >>= _) _ _ _
    refine wpAny_bind ?_
    refine wpAny_updateSeq hS' rfl (wpAny_pure ⟨plainId_quiet PySem.F.plain_extend_loop _, ih (i + 1) _ tk' _ (acc.push (Value.ref h.objs.size)) (as ++ [h.objs.size]) (by omega) (by omega) (hst'.keep fun c hc o e => up c o (fun z => hSf (z ▸ hc)) e) (hA.at_ fun o e => up a o aS (hkp a o an e)) (hB.at_ fun o e => up b o bS (hkp b o bn e))
      (fun b o h1 h2 e => up b o h1 (hkp b o h2 (hkeep b o h1 h2 e))) (Heap.get?_update_self _ hS' rfl) (by rw [Array.toList_push, hacc, List.map_append]; rfl) (by rw [List.length_append, hal]; rfl) ⟨?_, ?_, ?_⟩⟩) (by rw [hsz]; omega) (by show (acc.push (Value.ref h.objs.size)).size ≤ sizeLine + 1; rw [Array.size_push, hsz]; omega)
    · refine List.pairwise_append.mpr ⟨hG.rise, List.pairwise_singleton _ _, fun a ha b hb => ?_⟩
      rw [List.mem_singleton.mp hb]
      exact hG.there ha
    · intro a ha
      rcases List.mem_append.mp ha with ha | ha
      · exact hG.above a ha
      · rw [List.mem_singleton.mp ha]; exact hSl
    · intro j b hj
      rcases Nat.lt_trichotomy j as.length with h1 | h1 | h1
      · rw [List.getElem?_append_left h1] at hj
        obtain ⟨u', v', e1, e2, e3⟩ := hG.pairs j b hj
        have hm := List.mem_of_getElem? hj
        exact ⟨u', v', e1, e2, up b _ (Nat.ne_of_gt (hG.above b hm)) (hkp b _ (low hG b hm) e3)⟩
      · subst h1
        have hb : h.objs.size = b := by simpa using hj
        subst hb
        exact ⟨u, v, by rw [hal]; exact hu, by rw [hal]; exact hv, up _ _ (Nat.ne_of_gt hSl) ht⟩
      · have hnone : (as ++ [h.objs.size])[j]? = none := List.getElem?_eq_none (by rw [List.length_append, List.length_singleton]; omega)
        rw [hnone] at hj; cases hj
end
section
variable {prog : Program} {w : World} {A : Around} {E : Value → Shared → Prop} {s : Shared} {t1 t2 : Bool} {a b z TI TO i1 i2 : Addr} {xs ys : Array Value}
theorem call_listZip {Q : Value → Shared → Prop} (sp : ZipSep2 z TI TO i1 i2 [i1, a] [i2, b]) (hh : A.handled = none) (hz : IsZip s.heap z TI TO .none) (st : ZAt s.heap t1 t2 a b z TI TO i1 i2 0) (pa : IsK t1 s.heap a xs) (pb : IsK t2 s.heap b ys) (an : a ∉ [z, TO, i1, i2]) (bn : b ∉ [z, TO, i1, i2]) (hn : min xs.size ys.size ≤ sizeLine)
    (hQ : ∀ h' tk acc c as, (∀ b o, b ∉ [z, TO, i1, i2] → s.heap.get? b = some o → h'.get? b = some o) → h'.get? s.heap.objs.size = some { cls := .type "list", dict := none, data := .seq acc c, slots := #[] } → as.length = min xs.size ys.size → MadeZ xs ys s.heap.objs.size h' as →
      acc.toList = as.map Value.ref → Q (.ref s.heap.objs.size) { s with heap := h', toks := tk }) :
    wpAny (model prog w) A (call (.type "list") [.ref z]) Q E s := by
  have hl : ∀ c ∈ [z, TI, TO, i1, i2], c < s.heap.objs.size := fun c hc => let ⟨_, e, _⟩ := st.obj c hc; Heap.lt_size e
  have la : a < s.heap.objs.size := by obtain ⟨o, e, _⟩ := pa.ob; exact Heap.lt_size e
  have lb : b < s.heap.objs.size := by obtain ⟨o, e, _⟩ := pb.ob; exact Heap.lt_size e
  have sub : ∀ c, c ∈ [z, TO, i1, i2] → c ∈ [z, TI, TO, i1, i2] := fun c h => by
    simp only [List.mem_cons, List.not_mem_nil, or_false] at h ⊢
    rcases h with h | h | h | h <;> simp [h]
  refine callType_codes (Q₁ := fun obj s₁ => obj = .ref s.heap.objs.size ∧ s₁ = { s with heap := s.heap.push { cls := .type "list", data := .seq #[] } }) PySem.F.called_list (PySem.F.typeCall_list_1 _) PySem.F.entry_list_init
    (code_list_new _ ⟨rfl, rfl⟩) fun obj s₁ h₁ => ?_
  obtain ⟨rfl, rfl⟩ := h₁
  have hS : (s.heap.push { cls := .type "list", data := .seq #[] }).get? s.heap.objs.size = some { cls := .type "list", data := .seq #[] } := Heap.get?_push_size _ rfl
  have hSz : s.heap.objs.size ≠ z := Nat.ne_of_gt (hl z (by simp))
  refine ⟨⟨_, hS, rfl⟩, PySem.F.args_list_init_2 _ _, ?_⟩
  show wpAny _ A.in1.in1 (do let old ← Builtin.List.listItems (.ref s.heap.objs.size); Builtin.List.listUpdate (.ref s.heap.objs.size) (fun _ => #[]); letGo old.toList.reverse; Builtin.List.listExtendWith (.ref s.heap.objs.size) (.ref z) .none) _ _ _
  refine wpAny_bind ?_
  unfold Builtin.List.listItems
  refine wpAny_bind (wpAny_seqItems hS rfl (wpAny_pure ?_))
  show wpAny _ A.in1.in1 (updateSeq s.heap.objs.size (fun _ => #[]) >>= fun _ => letGo (#[] : Array Value).toList.reverse >>= fun _ => Builtin.List.listExtendWith (.ref s.heap.objs.size) (.ref z) .none) _ _ _
  refine wpAny_bind (wpAny_updateSeq hS rfl ?_)
  have hS2 := Heap.get?_update_self (Obj.mapSeq (fun _ => (#[] : Array Value))) hS rfl
  refine wpAny_bind (wpAny_letGo ?_)
  unfold Builtin.List.listExtendWith
  have up : ∀ (h : Heap) (f : Obj → Obj), (∀ b o, s.heap.get? b = some o → h.get? b = some o) → ∀ b o, s.heap.get? b = some o → (h.update s.heap.objs.size f).get? b = some o := fun h f q b o e =>
    (Heap.get?_update_other _ _ (Ne.symm (Nat.ne_of_lt (Heap.lt_size e)))).trans (q b o e)
  have k1 : ∀ b o, s.heap.get? b = some o → (s.heap.push { cls := .type "list", data := .seq #[] }).get? b = some o := fun b o e => Heap.get?_push_of_some _ e
  have k2 := up _ (Obj.mapSeq (fun _ => (#[] : Array Value))) k1
  refine wpAny_bind (wpAny_typeOf (T := "zip") ⟨_, k2 _ _ hz, rfl⟩ ?_)
  have h1 : Builtin.List.listSameRef (.ref s.heap.objs.size) (.ref z) = false := by simp [Builtin.List.listSameRef, hSz]
  have h2 : (Value.type "zip" == Value.type "list") = false := by decide
  have h3 : (Value.type "zip" == Value.type "tuple") = false := by decide
  simp only [h1, h2, h3, Bool.or_false, Bool.false_eq_true, if_false]
  refine wpAny_bind (wpAny_pyIter_zip (s := { s with heap := _ }) (k2 _ _ hz) ?_)
  refine wpAny_bind (wpAny_holding ?_)
  unfold Builtin.List.listLengthHint
  refine wpAny_bind (wpAny_specialOf (T := "zip") ⟨_, k2 _ _ hz, rfl⟩ zip_no_len ?_)
  show wpAny _ A.in1.in1 (specialOf (Value.ref z) (Str.ofString "__length_hint__") >>= _) _ _ _
  refine wpAny_bind (wpAny_specialOf (T := "zip") ⟨_, k2 _ _ hz, rfl⟩ zip_no_hint ?_)
  refine wpAny_pure ?_
  show wpAny _ A.in1.in1 (rule "list.extend.makes-room" >>= fun _ => Builtin.List.listTouch (.ref s.heap.objs.size) >>= fun _ =>
    again (.builtin "list.extend.loop" ⟨[.ref s.heap.objs.size, .ref z, .none], []⟩)) _ _ _
  refine wpAny_bind (wpAny_rule ?_)
  refine wpAny_bind ?_
  show wpAny _ A.in1.in1 (updateSeq s.heap.objs.size (·.push .none) >>= fun _ => updateSeq s.heap.objs.size (·.pop)) _ _ _
  refine wpAny_bind (wpAny_updateSeq hS2 rfl ?_)
  have hS3 := Heap.get?_update_self (Obj.mapSeq (·.push Value.none)) hS2 rfl
  refine wpAny_updateSeq (hz := by seq_fits) hS3 rfl ?_
  have hS4 := Heap.get?_update_self (Obj.mapSeq (·.pop)) hS3 rfl
  have k4 := up _ (Obj.mapSeq (·.pop)) (up _ (Obj.mapSeq (·.push Value.none)) k2)
  refine wpAny_pure ⟨plainId_quiet PySem.F.plain_extend_loop _, ?_⟩
  refine loopZ (A := A.in1) (xs := xs) (ys := ys) (h₁ := s.heap) sp hh (fun hc => Nat.lt_irrefl _ (hl _ hc)) hl (fun hc => ?_) (fun hc => ?_) hn .none (fun h' tk acc c as hk hS' hl' hG hacc => ⟨rfl, hQ h' tk acc c as (fun b o hb e => hk b o (Nat.ne_of_lt (Heap.lt_size e)) hb e) hS' hl' hG hacc⟩)
    (min xs.size ys.size) 0 _ _ _ #[] [] (Nat.sub_zero _) (Nat.zero_le _) (st.keep fun c hc o e => k4 c o e) (pa.at_ fun o e => k4 a o e) (pb.at_ fun o e => k4 b o e) (fun b o hb _ e => k4 b o e) hS4 rfl rfl
    ⟨List.Pairwise.nil, (fun _ ha => nomatch ha), (fun j a hj => by simp at hj)⟩
  · rcases List.mem_cons.mp hc with q | q
    · exact Nat.ne_of_lt la q
    · exact an q
  · rcases List.mem_cons.mp hc with q | q
    · exact Nat.ne_of_lt lb q
    · exact bn q
end
abbrev RwF := Addr × Obj × V × V
/-- pairs laid one behind the other -/
def putZ : Hp → List RwF → Hp
  | H, [] => H
  | H, r :: rs => putZ (upd H r.1 (.frz r.2.1 (.tup [r.2.2.1, r.2.2.2]))) rs
def FrF : Hp → List RwF → Prop
  | _, [] => True
  | H, r :: rs => H r.1 = none ∧ r.2.1.cls = .type "tuple" ∧ r.2.1.dict = none ∧ FrF (upd H r.1 (.frz r.2.1 (.tup [r.2.2.1, r.2.2.2]))) rs
theorem putZ_off {b : Addr} : ∀ (rs : List RwF) (H : Hp), b ∉ rs.map (·.1) → putZ H rs b = H b
  | [], _, _ => rfl
  | r :: rs, H, h => by
    show putZ _ rs b = H b
    rw [putZ_off rs _ (fun z => h (List.mem_cons_of_mem _ z)), upd_ne (fun z => h (by rw [z]; exact List.mem_cons_self))]
theorem frF_of : ∀ (rs : List RwF) (H : Hp), (∀ r ∈ rs, H r.1 = none ∧ r.2.1.cls = .type "tuple" ∧ r.2.1.dict = none) → (rs.map (·.1)).Nodup → FrF H rs
  | [], _, _, _ => True.intro
  | r :: rs, H, h, hn => by
    have hn' := List.nodup_cons.mp hn
    obtain ⟨h1, h2, h3⟩ := h r List.mem_cons_self
    refine ⟨h1, h2, h3, frF_of rs _ (fun q hq => ?_) hn'.2⟩
    obtain ⟨g1, g2, g3⟩ := h q (List.mem_cons_of_mem _ hq)
    have ne : q.1 ≠ r.1 := fun z => hn'.1 (List.mem_map.mpr ⟨q, hq, z⟩)
    exact ⟨by rw [upd_ne ne]; exact g1, g2, g3⟩
theorem takeF {X : Cx} {pins : List (Addr × Obj)} {σ : L2.St} {H0 : Hp} {s : Shared} {h' : Heap} {tk : Nat} (I0 : Inv X pins σ H0 s) : ∀ (rs : List RwF) (H1 : Hp), Inv X pins σ H1 { s with heap := h', toks := tk } → FrF H1 rs →
    (∀ r ∈ rs, s.heap.objs.size ≤ r.1 ∧ ∀ H2, ObjOk X.prog X.w H2 h' r.1 (.frz r.2.1 (.tup [r.2.2.1, r.2.2.2]))) → Inv X pins σ (putZ H1 rs) { s with heap := h', toks := tk }
  | [], _, I1, _, _ => I1
  | r :: rs, H1, I1, f, h => by
    obtain ⟨f1, _, _, f2⟩ := f
    obtain ⟨h1, h2⟩ := h r List.mem_cons_self
    exact takeF I0 rs _ (I1.take (h' := h') (t' := tk) (fun b ob _ e => e) (I0.fpOk h1 f1) (h2 _)) f2 fun q hq => h q (List.mem_cons_of_mem _ hq)
theorem rep_put {K : PySem.W.Frag} {F : Hp} {vs : List V} {σ : L2.St} {δ : SEnv} : ∀ (rs : List RwF) {B H : Hp}, Rep K F B H vs σ δ → FrF H rs →
    Rep K F (putZ B rs) (putZ H rs) vs σ δ ∧ Same B (putZ B rs) ∧ ∀ r ∈ rs, putZ B rs r.1 = some (.frz r.2.1 (.tup [r.2.2.1, r.2.2.2])) ∧ r.2.1.cls = .type "tuple" ∧ r.2.1.dict = none
  | [], _, _, h, _ => ⟨h, Same.refl _, fun _ z => nomatch z⟩
  | r :: rs, B, H, h, f => by
    obtain ⟨f1, f2, f3, f4⟩ := f
    obtain ⟨g1, g2, g3⟩ := rep_put rs (h.new f1 (.frz r.2.1 (.tup [r.2.2.1, r.2.2.2]))) f4
    have sn := same_new (nof h.sb f1) (.frz r.2.1 (.tup [r.2.2.1, r.2.2.2]))
    refine ⟨g1, sn.trans g2, fun q hq => ?_⟩
    rcases List.mem_cons.mp hq with z | z
    · subst z
      exact ⟨g2 _ _ upd_same, f2, f3⟩
    · exact g3 q z
theorem nin4 {N a : Nat} (h : a < N) : a ∉ [N + 4, N + 3, N, N + 1] := by simp only [List.mem_cons, List.not_mem_nil, or_false]; omega
theorem nin5 {N c : Nat} (h : c ∉ [N + 4, N + 2, N + 3, N, N + 1]) : c ∉ [N + 4, N + 3, N, N + 1] := by simp only [List.mem_cons, List.not_mem_nil, or_false] at h ⊢; omega
theorem le5 {M N c : Nat} (h : M = N + 5) (g : M < c) : N + 5 ≤ c := by omega
theorem vals_refsZ : ∀ as : List Addr, Vals (as.map V.ref) (as.map Value.ref)
  | [] => .nil
  | _ :: as => .cons rfl (vals_refsZ as)
def JLZ (K : PySem.W.Frag) (Q : VK) (t1 t2 : Bool) (a b : Addr) (H1 : Hp) : Prop := ∃ (xs ys : List V), SqK t1 K H1 a xs ∧ SqK t2 K H1 b ys ∧ (xs.zip ys).length ≤ sizeLine ∧
  ∀ (rs : List RwF) (S : Addr), FrF H1 rs → rs.map (fun r => (r.2.2.1, r.2.2.2)) = xs.zip ys → putZ H1 rs S = none → Q (.ref S) (upd (putZ H1 rs) S (.lst (rs.map fun r => V.ref r.1)))
def tLstZip (K : PySem.W.Frag) (ta : TA) : TE := fun σ H Q => ta σ H fun vs H1 => ∃ t1 t2 a b xs ys, vs = [.ref a, .ref b] ∧ SqK t1 K H1 a xs ∧ SqK t2 K H1 b ys ∧ JLZ K Q t1 t2 a b H1
theorem boot_list : bootBuiltins "list" = some (.type "list") := by rfl
theorem pe_listZip {X : Cx} (hc : X.calm = true) {e e2 : Expr} {ta : TA} {p p2 pos pos2 : Pos} (hgl : Gl X "list") (hml : X.mg "list" = none) (hg : Gl X "zip") (hm : X.mg "zip" = none) (ha : PA X [e, e2] ta)
    (hs0 : starEach [.Call (.Name "zip" p2) [e, e2] [] pos2] X.env = [(false, eval (.Call (.Name "zip" p2) [e, e2] [] pos2) X.env)] := by rfl)
    (hs : starEach [e, e2] X.env = (false, eval e X.env) :: starEach [e2] X.env := by rfl) (hpl : (backTo pos2 (starEach [e2] X.env)).any (·.1) = false := by rfl) :
    PE X (.Call (.Name "list" p) [.Call (.Name "zip" p2) [e, e2] [] pos2] [] pos) (tLstZip X.K ta) := by
  refine ⟨fun pins s σ H Q I h => ?_⟩
  refine Call_ (ld_blt I hgl hml boot_list (PyProof.Rows.callWith_type1 ?_ hs0 rfl))
  rw [hs0]
  show wpAny _ _ (spliced [(false, eval (.Call (.Name "zip" p2) [e, e2] [] pos2) X.env)]) _ _ s
  refine Calls.spliced_cons ?_
  refine run_zip (J := JLZ X.K Q) hg hm ha I hs hpl h fun t1 t2 a b H1 s1 h' N I2 q hN I1 hsz la lb hz za => Calls.spliced_nil ?_
  obtain ⟨xs, ys, hqx, hqy, hlen, q⟩ := q
  obtain ⟨its, rv, p1⟩ := seq_k I2 hqx
  obtain ⟨its2, rv2, p2⟩ := seq_k I2 hqy
  have lx := rv.length
  have ly := rv2.length
  have hfp : ∀ c ∈ [N + 4, N + 2, N + 3, N, N + 1], FpOk X pins H1 c := fun c hcm => by
    have hle : s1.heap.objs.size ≤ c := by rw [hN]; exact (ge5 hcm).1
    exact I1.fpOk hle (I1.hok.fresh hle)
  rw [List.length_zip] at hlen
  refine call_listZip (s := { s1 with heap := h' }) (sep5 la lb) (I1.ok.hd hc) hz za p1 p2 (nin4 la) (nin4 lb) (by simp only [List.size_toArray]; omega) fun h2 tk acc c as hk hS hl hG hacc => ?_
  simp only [List.size_toArray] at hl
  dsimp only at hk hS hG
  have hN5 : h'.objs.size = N + 5 := hsz
  have Ia : Inv X pins σ H1 { s1 with heap := h2, toks := tk } := Inv.turnedL (s := { s1 with heap := h' }) I2 (h' := h2) (t' := tk) (ch := [N + 4, N + 2, N + 3, N, N + 1]) (fun c o hb q => hk c o (nin5 hb) q) hfp
  have nd : as.Nodup := List.Pairwise.imp (fun {a b} (h : a < b) => Nat.ne_of_lt h) hG.rise
  let rs : List RwF := (as.zip ((its.zip its2).zip (xs.zip ys))).map fun r => (r.1, tupO #[r.2.1.1, r.2.1.2], r.2.2.1, r.2.2.2)
  have hl1 : as.length = ((its.zip its2).zip (xs.zip ys)).length := by simp only [List.length_zip]; omega
  have hl2 : (its.zip its2).length = (xs.zip ys).length := by simp only [List.length_zip]; omega
  have e1 : rs.map (·.1) = as := by
    show ((as.zip _).map _).map _ = as
    rw [List.map_map]
    exact List.map_fst_zip (Nat.le_of_eq hl1)
  have e2 : rs.map (fun r => (r.2.2.1, r.2.2.2)) = xs.zip ys := by
    show ((as.zip _).map _).map _ = _
    rw [List.map_map]
    have m1 := List.map_snd_zip (l₁ := as) (l₂ := (its.zip its2).zip (xs.zip ys)) (Nat.le_of_eq hl1.symm)
    have m2 := List.map_snd_zip (l₁ := its.zip its2) (l₂ := xs.zip ys) (Nat.le_of_eq hl2.symm)
    refine Eq.trans ?_ m2
    conv => rhs; rw [← m1]
    rw [List.map_map]
    rfl
  have at_ : ∀ r ∈ rs, ∃ (j : Nat) (u v : Value), as[j]? = some r.1 ∧ its[j]? = some u ∧ its2[j]? = some v ∧ xs[j]? = some r.2.2.1 ∧ ys[j]? = some r.2.2.2 ∧ r.2.1 = tupO #[u, v] := fun r hr => by
    obtain ⟨r0, h0, rfl⟩ := List.mem_map.mp hr
    obtain ⟨j, hj⟩ := List.mem_iff_getElem?.mp h0
    obtain ⟨j1, j2⟩ := List.getElem?_zip_eq_some.mp hj
    obtain ⟨j3, j4⟩ := List.getElem?_zip_eq_some.mp j2
    obtain ⟨j5, j6⟩ := List.getElem?_zip_eq_some.mp j3
    obtain ⟨j7, j8⟩ := List.getElem?_zip_eq_some.mp j4
    exact ⟨j, _, _, j1, j5, j6, j7, j8, rfl⟩
  have ge : ∀ r ∈ rs, N + 5 ≤ r.1 := fun r hr => by
    obtain ⟨j, u, v, j1, _⟩ := at_ r hr
    exact le5 hN5 (hG.above r.1 (List.mem_of_getElem? j1))
  have fr : FrF H1 rs := frF_of rs H1 (fun r hr => by
    obtain ⟨j, u, v, j1, _, _, _, _, j2⟩ := at_ r hr
    refine ⟨I2.hok.fresh (by show h'.objs.size ≤ r.1; rw [hN5]; exact ge r hr), ?_, ?_⟩
    · rw [j2]
    · rw [j2]) (by rw [e1]; exact nd)
  have Ib := takeF I2 rs H1 Ia fr fun r hr => by
    obtain ⟨j, u, v, j1, j2, j3, j4, j5, j6⟩ := at_ r hr
    obtain ⟨u', v', g1, g2, g3⟩ := hG.pairs j r.1 j1
    rw [List.getElem?_toArray] at g1 g2
    rw [j2] at g1; cases g1
    rw [j3] at g2; cases g2
    obtain ⟨w1, w2, w3⟩ := rv.get j4
    obtain ⟨w4, w5, w6⟩ := rv2.get j5
    rw [j2] at w2; cases w2
    rw [j3] at w5; cases w5
    refine ⟨by show h'.objs.size ≤ r.1; rw [hN5]; exact ge r hr, fun H2 => ?_⟩
    rw [j6]
    exact ⟨g3, by show 2 ≤ sizeLine; decide, [u, v], .cons w3 (.cons w6 .nil), ⟨_, g3, rfl, _, rfl⟩⟩
  have hS5 : h'.objs.size ∉ as := fun z => Nat.lt_irrefl _ (hG.above _ z)
  have hSn : putZ H1 rs h'.objs.size = none := by
    rw [putZ_off rs H1 (by rw [e1]; exact hS5)]
    exact I2.hok.fresh (Nat.le_refl _)
  have er : rs.map (fun r => V.ref r.1) = as.map V.ref := by
    have z : (rs.map (·.1)).map V.ref = rs.map fun r => V.ref r.1 := List.map_map
    rw [← z, e1]
  have Ic : Inv X pins σ (upd (putZ H1 rs) h'.objs.size (.lst (rs.map fun r => V.ref r.1))) { s1 with heap := h2, toks := tk } :=
    Ib.take (h' := h2) (t' := tk) (fun b ob _ e => e) (I2.fpOk (Nat.le_refl _) hSn) ⟨by rw [er, List.length_map]; omega, acc.toList, c, by rw [er, hacc]; exact vals_refsZ as, by rw [Array.toArray_toList]; exact hS⟩
  exact ⟨.ref h'.objs.size, _, Ic, rfl, q rs _ fr e2 hSn⟩
def wLstZip (wr : WA) : WE := fun Ex δ P => wr Ex δ fun rs δ1 => ob (srcR2 δ1 rs) fun p => (zipD p.1.1 p.1.2).length ≤ sizeLine ∧ P (.n (.l (zipD p.1.1 p.1.2))) p.2
theorem dds_zip {B B' : Hp} (s : Same B B') : ∀ {rs : List RwF} {xs ys : List V} {ds es : List PyData}, DDs B xs ds → DDs B ys es → rs.map (fun r => (r.2.2.1, r.2.2.2)) = xs.zip ys →
    (∀ r ∈ rs, B' r.1 = some (.frz r.2.1 (.tup [r.2.2.1, r.2.2.2])) ∧ r.2.1.cls = .type "tuple" ∧ r.2.1.dict = none) → DDs B' (rs.map fun r => V.ref r.1) (zipD ds es)
  | [], [], _, _, _, a, _, _, _ => by cases a; exact .nil
  | [], _ :: _, [], _, _, a, b, _, _ => by cases a; cases b; exact .nil
  | [], _ :: _, _ :: _, _, _, _, _, e, _ => by simp at e
  | _ :: _, [], _, _, _, _, _, e, _ => by simp at e
  | _ :: _, _ :: _, [], _, _, _, _, e, _ => by simp at e
  | r :: rs, x :: xs, y :: ys, _, _, a, b, e, h => by
    rw [List.map_cons, List.zip_cons_cons] at e
    injection e with e1 e2
    cases a with
    | cons a1 a2 =>
      cases b with
      | cons b1 b2 =>
        obtain ⟨h1, h2, h3⟩ := h r List.mem_cons_self
        have ex : r.2.2.1 = x := congrArg Prod.fst e1
        have ey : r.2.2.2 = y := congrArg Prod.snd e1
        refine .cons (DD.tup ⟨r.2.1, h1, h2, h3⟩ (.cons ?_ (.cons ?_ .nil))) (dds_zip s a2 b2 e2 fun q hq => h q (List.mem_cons_of_mem _ hq))
        · rw [ex]; exact a1.mono s
        · rw [ey]; exact b1.mono s
theorem de_listZip {S : Sg} {e e2 : Expr} {wr : WA} {p p2 pos pos2 : Pos} (hgl : GlS S.sc "list") (hml : S.g.mg "list" = none) (hg : GlS S.sc "zip") (hm : S.g.mg "zip" = none) (ha : DA S [e, e2] wr)
    (hs0 : ∀ env, starEach [.Call (.Name "zip" p2) [e, e2] [] pos2] env = [(false, eval (.Call (.Name "zip" p2) [e, e2] [] pos2) env)] := by intro _; rfl)
    (hs : ∀ env, starEach [e, e2] env = (false, eval e env) :: starEach [e2] env := by intro _; rfl) (hp : ∀ env, (backTo pos2 (starEach [e2] env)).any (·.1) = false := by intro _; rfl) :
    DE S (.Call (.Name "list" p) [.Call (.Name "zip" p2) [e, e2] [] pos2] [] pos) (wLstZip wr) := by
  obtain ⟨t, pa, s⟩ := ha
  refine ⟨tLstZip S.g.K t, fun c hc => pe_listZip (X := S.g.cx c) hc.calm (gl_of hc hgl) hml (gl_of hc hg) hm (pa c hc) (hs0 _) (hs _) (hp _), ⟨fun Ex Ex' δ P P' hx h w => s.mono _ _ _ _ _ hx (fun r δ1 w => w.imp fun p w => ⟨w.1, h _ _ w.2⟩) w, fun Ex F B H vs σ δ P Q hx h w k => ?_⟩⟩
  refine s.run _ _ _ _ _ _ _ _ _ hx h w fun B1 H1 ws rs δ1 s1 h1 q1 w1 => ?_
  obtain ⟨⟨⟨ds, es⟩, δ2⟩, e1, hl, w1⟩ := w1
  obtain ⟨B2, v1, v2, rfl, s2, h2, ⟨t1, a, xs, rfl, qa, fa⟩, t2, b, ys, rfl, qb, fb⟩ := src2_ok h1 q1 e1
  refine ⟨t1, t2, a, b, xs, ys, rfl, fa H1 h2.sb, fb H1 h2.sb, xs, ys, fa H1 h2.sb, fb H1 h2.sb, ?_, fun rs S hf hm hS => ?_⟩
  · have z : (zipD ds es).length = min ds.length es.length := List.length_zipWith
    rw [List.length_zip, qa.length, qb.length]
    rw [z] at hl
    exact hl
  · obtain ⟨g1, g2, g3⟩ := rep_put rs h2 hf
    exact k _ _ (.ref S) (.n (.l (zipD ds es))) δ2 ((s1.trans s2).trans g2) (g1.newO hS _) ⟨S, rfl, foot_bf rfl (nof g1.sb hS) (nof g1.sf hS), ⟨_, upd_same, dds_zip g2 qa qb hm g3⟩, g1.fresh hS _⟩ w1
def minL : List Int → Int
  | [] => 0
  | n :: ns => ns.foldl (fun a b => if b < a then b else a) n
theorem foldl_min : ∀ (ns : List Int) (n : Int), (ns.foldl (fun a b => if b < a then b else a) n = n ∨ ns.foldl (fun a b => if b < a then b else a) n ∈ ns) ∧ ns.foldl (fun a b => if b < a then b else a) n ≤ n ∧ ∀ m ∈ ns, ns.foldl (fun a b => if b < a then b else a) n ≤ m
  | [], n => ⟨.inl rfl, Int.le_refl _, fun m h => by simp at h⟩
  | m :: ns, n => by
    rw [List.foldl_cons]
    obtain ⟨h1, h2, h3⟩ := foldl_min ns (if m < n then m else n)
    refine ⟨?_, ?_, fun k hk => ?_⟩
    · rcases h1 with h1 | h1
      · rw [h1]
        split
        · exact .inr List.mem_cons_self
        · exact .inl rfl
      · exact .inr (List.mem_cons_of_mem _ h1)
    · refine Int.le_trans h2 ?_; split <;> omega
    · rcases List.mem_cons.mp hk with e | e
      · subst e; refine Int.le_trans h2 ?_; split <;> omega
      · exact h3 k e
theorem minL_mem {ns : List Int} (h : 0 < ns.length) : minL ns ∈ ns ∧ ∀ m ∈ ns, minL ns ≤ m := by
  cases ns with
  | nil => simp at h
  | cons n ns =>
    obtain ⟨h1, h2, h3⟩ := foldl_min ns n
    refine ⟨?_, fun m hm => ?_⟩
    · rcases h1 with h1 | h1
      · show ns.foldl _ n ∈ _; rw [h1]; exact List.mem_cons_self
      · exact List.mem_cons_of_mem _ h1
    · rcases List.mem_cons.mp hm with e | e
      · subst e; exact h2
      · exact h3 m e
theorem minL_one {ns : List Int} {m : Int} (h : m ∈ ns) (hm : ∀ y ∈ ns, m ≤ y) : m = minL ns := by
  obtain ⟨h1, h2⟩ := minL_mem (List.length_pos_of_mem h)
  exact Int.le_antisymm (hm _ h1) (h2 m h)
def minF2 : List Vw → Option Rv
  | [.d (.list ds)] => (numsD ds).bind fun ns => if 0 < ns.length then some (.val (.int (minL ns))) else none
  | as => minF as
theorem cs_min2 {S : Sg} : CallS S (.builtin "min") minF2 := by
  rintro c hc pins s σ H xs us Q I rv ⟨B, as, r, sB, ov, e, k⟩
  unfold minF2 at e
  split at e
  · obtain ⟨ns, e1, e⟩ := Option.bind_eq_some_iff.mp e
    split at e
    · cases e
      obtain ⟨v, rfl, q⟩ := ovs1 ov
      obtain ⟨p, xs, rfl, hr, qx⟩ := ov_lst sB q
      cases nums_dd e1 qx
      refine cr_min hc.calm pins s σ H _ us Q I rv ⟨p, ns, rfl, .inl hr, by assumption, fun m hm hle => ?_⟩
      rw [minL_one hm hle]
      exact k _ (.int _)
    · cases e
  · exact cs_min c hc pins s σ H xs us Q I rv ⟨B, as, r, sB, ov, e, k⟩
end DL
set_option Elab.async false
set_option linter.all false
set_option maxRecDepth 100000
set_option maxHeartbeats 4000000
set_option autoImplicit false
namespace V23
open PySem PySem.Spec PyProof.Rows L2 DL
def top (i : Nat) : Stmt := PySem.Challenge.pw_drawerways_k23_whole_moments_or_none.main.body.getD i (.Pass ⟨0, 0, 0, 0⟩)
abbrev s_spans_by_task : Stmt := top 5
abbrev s_first_misfit : Stmt := top 6
abbrev s_moments_by : Stmt := top 7
abbrev s_source : Stmt := top 9
abbrev s_pick : Stmt := top 10
abbrev s_tree : Stmt := top 11
abbrev s_ways : Stmt := top 12
abbrev s_way : Stmt := top 13
abbrev s_deed : Stmt := top 14
abbrev s_hands : Stmt := top 15
abbrev s_spans : Stmt := top 16
abbrev s_scene : Stmt := top 17
abbrev s_lines : Stmt := top 18
abbrev s_fits : Stmt := top 19
abbrev s_few : Stmt := top 20
abbrev s_tried : Stmt := top 21
abbrev s_said : Stmt := top 22
abbrev s_law : Stmt := top 23
theorem sc_spans_by_task : FnScope ["spans", "task", "begin", "end"] ["spans"] (defScope s_spans_by_task) := ⟨rfl, rfl, rfl, by decide +kernel, rfl, by decide +kernel, by decide +kernel⟩
@[irreducible] def t_spans_by_task_1 : WS := (wRet (wDcI (wIt (wVar 0)) (gT 3 (gsC (gN 1) (gsC (gN 2) (gsC (gN 3) gsN)))) wYes (wVar 1) (wTup (wCons (wVar 2) (wCons (wVar 3) wNil))) [1, 2, 3]))
def w_spans_by_task : WS := ((wRet (wDcI (wIt (wVar 0)) (gT 3 (gsC (gN 1) (gsC (gN 2) (gsC (gN 3) gsN)))) wYes (wVar 1) (wTup (wCons (wVar 2) (wCons (wVar 3) wNil))) [1, 2, 3])))
theorem w_spans_by_task_eq : w_spans_by_task = (t_spans_by_task_1) := by with_unfolding_all rfl
theorem df_spans_by_task {g : Gx} {k : Nat} {f : Addr} {fd : FuncData} (Fn : Fun g.K "spans_by_task" "spans_by_task" s_spans_by_task f fd) : FnG g CX0 (k + 1) f fd ["spans"] (spOf g.K 1 (fnW 1 4 w_spans_by_task)) :=
  fn_dl (N := ["spans", "task", "begin", "end"]) Fn sc_spans_by_task (fun E => (ds_one (ds_ret (de_dcI (own := [("task", 1), ("begin", 2), ("end", 3)]) cx0_ok (di_seq (de_var (i := 0) rfl (by first | exact .inl rfl | exact .inr (.inl rfl) | exact .inr (.inr rfl)))) rfl (dg_tup (dgs_cons (dg_name (i := 1) rfl (by first | exact .inl rfl | exact .inr rfl)) (dgs_cons (dg_name (i := 2) rfl (by first | exact .inl rfl | exact .inr rfl)) (dgs_cons (dg_name (i := 3) rfl (by first | exact .inl rfl | exact .inr rfl)) dgs_nil)))) rfl dts_nil (de_var (i := 1) rfl (by first | exact .inl rfl | exact .inr (.inl rfl) | exact .inr (.inr rfl))) (de_tup (da_cons (de_var (i := 2) rfl (by first | exact .inl rfl | exact .inr (.inl rfl) | exact .inr (.inr rfl))) (da_cons (de_var (i := 3) rfl (by first | exact .inl rfl | exact .inr (.inl rfl) | exact .inr (.inr rfl))) da_nil))))))) (by decide)
theorem bd_spans_by_task {K : PySem.W.Frag} {f : Addr} {fd : FuncData} (Fn : Fun K "spans_by_task" "spans_by_task" s_spans_by_task f fd) : Binds K fd ["spans"] [] := Fn.binds (ps := ["spans"]) fun _ _ _ _ _ _ us hl => match us, hl with | [_], _ => rfl
theorem cal_spans_by_task {g : Gx} {k : Nat} {W : FSpec} (h : Got g "spans_by_task" s_spans_by_task) (im : ∀ ss Ex P, W ss Ex P → fnW 1 4 w_spans_by_task ss Ex P) : Cal g CX0 (k + 1) "spans_by_task" ["spans"] W := by
  obtain ⟨f, fd, m, F⟩ := h
  exact Cal.imp ⟨f, fd, df_spans_by_task       F, m, F.kp, bd_spans_by_task F⟩ im
theorem sc_first_misfit : FnScope ["spans", "line", "span_by", "j", "other", "i", "one"] ["spans", "line"] (defScope s_first_misfit) := ⟨rfl, rfl, rfl, by decide +kernel, rfl, by decide +kernel, by decide +kernel⟩
@[irreducible] def t_first_misfit_1 (C_spans_by_task : FSpec) : WS := (wRet (wC .none))
@[irreducible] def t_first_misfit_2 (C_spans_by_task : FSpec) : WS := (wRet (wTup (wCons (wVar 5) (wCons (wVar 3) wNil))))
@[irreducible] def t_first_misfit_3 (C_spans_by_task : FSpec) : WS := (wIfS (wB (wOp ltU (wOp idxF (wOp idxF (wVar 2) (wVar 4)) (wC (.int 1))) (wOp idxF (wOp idxF (wVar 2) (wVar 6)) (wC (.int 0)))))
    (t_first_misfit_2 C_spans_by_task) wNext)
@[irreducible] def t_first_misfit_4 (C_spans_by_task : FSpec) : WS := (wFor (wEnumW (wCons (wSl (wVar 1) wNoP (wPart (wVar 3))) wNil)) (gT 2 (gsC (gN 5) (gsC (gN 6) gsN)))
    (t_first_misfit_3 C_spans_by_task))
@[irreducible] def t_first_misfit_5 (C_spans_by_task : FSpec) : WS := wSeq (wFor (wEnumW (wCons (wVar 1) wNil)) (gT 2 (gsC (gN 3) (gsC (gN 4) gsN)))
    (t_first_misfit_4 C_spans_by_task))
    (t_first_misfit_1 C_spans_by_task)
@[irreducible] def t_first_misfit_6 (C_spans_by_task : FSpec) : WS := wSeq (wSet 2 (wCall 1 C_spans_by_task [false] (wCons (wVar 0) wNil)))
    (t_first_misfit_5 C_spans_by_task)
def w_first_misfit (C_spans_by_task : FSpec) : WS := (wSeq (wSet 2 (wCall 1 C_spans_by_task [false] (wCons (wVar 0) wNil)))
    (wSeq (wFor (wEnumW (wCons (wVar 1) wNil)) (gT 2 (gsC (gN 3) (gsC (gN 4) gsN)))
    ((wFor (wEnumW (wCons (wSl (wVar 1) wNoP (wPart (wVar 3))) wNil)) (gT 2 (gsC (gN 5) (gsC (gN 6) gsN)))
    ((wIfS (wB (wOp ltU (wOp idxF (wOp idxF (wVar 2) (wVar 4)) (wC (.int 1))) (wOp idxF (wOp idxF (wVar 2) (wVar 6)) (wC (.int 0)))))
    ((wRet (wTup (wCons (wVar 5) (wCons (wVar 3) wNil))))) wNext)))))
    ((wRet (wC .none)))))
theorem w_first_misfit_eq (C_spans_by_task : FSpec) : w_first_misfit C_spans_by_task = (t_first_misfit_6 C_spans_by_task) := by with_unfolding_all rfl
theorem df_first_misfit {g : Gx} {k : Nat} {C_spans_by_task : FSpec} (mono_spans_by_task : FMono C_spans_by_task) (c_spans_by_task : Cal g CX0 k "spans_by_task" ["spans"] C_spans_by_task) (m_enumerate : g.mg "enumerate" = none) {f : Addr} {fd : FuncData} (Fn : Fun g.K "first_misfit" "first_misfit" s_first_misfit f fd) : FnG g CX0 (k + 1) f fd ["spans", "line"] (spOf g.K 2 (fnW 2 7 (w_first_misfit C_spans_by_task))) :=
  fn_dl (N := ["spans", "line", "span_by", "j", "other", "i", "one"]) Fn sc_first_misfit (fun E => (ds_cons (ds_set (i := 2) rfl (by first | exact .inl rfl | exact .inr rfl) (de_cal (ms := [false]) c_spans_by_task mono_spans_by_task rfl (da_cons (de_var (i := 0) rfl (by first | exact .inl rfl | exact .inr (.inl rfl) | exact .inr (.inr rfl))) da_nil)))
    (ds_cons (ds_for (di_enumW rfl m_enumerate (da_cons (de_var (i := 1) rfl (by first | exact .inl rfl | exact .inr (.inl rfl) | exact .inr (.inr rfl))) da_nil)) (dg_tup (dgs_cons (dg_name (i := 3) rfl (by first | exact .inl rfl | exact .inr rfl)) (dgs_cons (dg_name (i := 4) rfl (by first | exact .inl rfl | exact .inr rfl)) dgs_nil)))
    (ds_one (ds_for (di_enumW rfl m_enumerate (da_cons (de_sl (de_var (i := 1) rfl (by first | exact .inl rfl | exact .inr (.inl rfl) | exact .inr (.inr rfl))) do_none (do_some (de_var (i := 3) rfl (by first | exact .inl rfl | exact .inr (.inl rfl) | exact .inr (.inr rfl))))) da_nil)) (dg_tup (dgs_cons (dg_name (i := 5) rfl (by first | exact .inl rfl | exact .inr rfl)) (dgs_cons (dg_name (i := 6) rfl (by first | exact .inl rfl | exact .inr rfl)) dgs_nil)))
    (ds_one (ds_if (dt_cmp os_ltU (de_ix (de_ix (de_var (i := 2) rfl (by first | exact .inl rfl | exact .inr (.inl rfl) | exact .inr (.inr rfl))) (de_var (i := 4) rfl (by first | exact .inl rfl | exact .inr (.inl rfl) | exact .inr (.inr rfl)))) de_int) (de_ix (de_ix (de_var (i := 2) rfl (by first | exact .inl rfl | exact .inr (.inl rfl) | exact .inr (.inr rfl))) (de_var (i := 6) rfl (by first | exact .inl rfl | exact .inr (.inl rfl) | exact .inr (.inr rfl)))) de_int) rfl)
    (ds_one (ds_ret (de_tup (da_cons (de_var (i := 5) rfl (by first | exact .inl rfl | exact .inr (.inl rfl) | exact .inr (.inr rfl))) (da_cons (de_var (i := 3) rfl (by first | exact .inl rfl | exact .inr (.inl rfl) | exact .inr (.inr rfl))) da_nil))))) ds_nil)))))
    (ds_one (ds_ret de_non))))) (by decide)
theorem bd_first_misfit {K : PySem.W.Frag} {f : Addr} {fd : FuncData} (Fn : Fun K "first_misfit" "first_misfit" s_first_misfit f fd) : Binds K fd ["spans", "line"] [] := Fn.binds (ps := ["spans", "line"]) fun _ _ _ _ _ _ us hl => match us, hl with | [_, _], _ => rfl
theorem cal_first_misfit {g : Gx} {k : Nat} {C_spans_by_task : FSpec} {W : FSpec} (mono_spans_by_task : FMono C_spans_by_task) (c_spans_by_task : Cal g CX0 k "spans_by_task" ["spans"] C_spans_by_task) (m_enumerate : g.mg "enumerate" = none) (h : Got g "first_misfit" s_first_misfit) (im : ∀ ss Ex P, W ss Ex P → fnW 2 7 (w_first_misfit C_spans_by_task) ss Ex P) : Cal g CX0 (k + 1) "first_misfit" ["spans", "line"] W := by
  obtain ⟨f, fd, m, F⟩ := h
  exact Cal.imp ⟨f, fd, df_first_misfit mono_spans_by_task c_spans_by_task   m_enumerate   F, m, F.kp, bd_first_misfit F⟩ im
theorem sc_moments_by : FnScope ["spans", "line", "misfit", "i", "j", "span_by", "moments", "moment", "task"] ["spans", "line"] (defScope s_moments_by) := ⟨rfl, rfl, rfl, by decide +kernel, rfl, by decide +kernel, by decide +kernel⟩
@[irreducible] def t_moments_by_1 (C_spans_by_task C_first_misfit : FSpec) (A_NoOrder : Addr) : WS := (wRet (wCB tupleF (wCons (wVar 6) wNil)))
@[irreducible] def t_moments_by_2 (C_spans_by_task C_first_misfit : FSpec) (A_NoOrder : Addr) : WS := (wDrop (wApp 6 (wTup (wCons (wVar 8) (wCons (wVar 7) wNil)))))
@[irreducible] def t_moments_by_3 (C_spans_by_task C_first_misfit : FSpec) (A_NoOrder : Addr) : WS := wSeq (wSet 7 (wCB maxF2 (wCons (wVar 7) (wCons (wOp idxF (wOp idxF (wVar 5) (wVar 8)) (wC (.int 0))) wNil))))
    (t_moments_by_2 C_spans_by_task C_first_misfit A_NoOrder)
@[irreducible] def t_moments_by_4 (C_spans_by_task C_first_misfit : FSpec) (A_NoOrder : Addr) : WS := wSeq (wFor (wIt (wVar 1)) (gN 8)
    (t_moments_by_3 C_spans_by_task C_first_misfit A_NoOrder))
    (t_moments_by_1 C_spans_by_task C_first_misfit A_NoOrder)
@[irreducible] def t_moments_by_5 (C_spans_by_task C_first_misfit : FSpec) (A_NoOrder : Addr) : WS := wSeq (wSet 7 (wC (.int 0)))
    (t_moments_by_4 C_spans_by_task C_first_misfit A_NoOrder)
@[irreducible] def t_moments_by_6 (C_spans_by_task C_first_misfit : FSpec) (A_NoOrder : Addr) : WS := wSeq (wSet 6 (wLst wNil))
    (t_moments_by_5 C_spans_by_task C_first_misfit A_NoOrder)
@[irreducible] def t_moments_by_7 (C_spans_by_task C_first_misfit : FSpec) (A_NoOrder : Addr) : WS := wSeq (wSet 5 (wCall 1 C_spans_by_task [false] (wCons (wVar 0) wNil)))
    (t_moments_by_6 C_spans_by_task C_first_misfit A_NoOrder)
@[irreducible] def t_moments_by_8 (C_spans_by_task C_first_misfit : FSpec) (A_NoOrder : Addr) : WS := (wRaise1 A_NoOrder "paper" (wCons (wTup (wCons (wOp idxF (wVar 1) (wVar 3)) (wCons (wOp idxF (wVar 1) (wVar 4)) wNil))) wNil))
@[irreducible] def t_moments_by_9 (C_spans_by_task C_first_misfit : FSpec) (A_NoOrder : Addr) : WS := wSeq (wUnp [3, 4] (wVar 2))
    (t_moments_by_8 C_spans_by_task C_first_misfit A_NoOrder)
@[irreducible] def t_moments_by_10 (C_spans_by_task C_first_misfit : FSpec) (A_NoOrder : Addr) : WS := wSeq (wIfS (wB (wOp isNotU (wVar 2) (wC .none)))
    (t_moments_by_9 C_spans_by_task C_first_misfit A_NoOrder) wNext)
    (t_moments_by_7 C_spans_by_task C_first_misfit A_NoOrder)
@[irreducible] def t_moments_by_11 (C_spans_by_task C_first_misfit : FSpec) (A_NoOrder : Addr) : WS := wSeq (wSet 2 (wCall 2 C_first_misfit [false, false] (wCons (wVar 0) (wCons (wVar 1) wNil))))
    (t_moments_by_10 C_spans_by_task C_first_misfit A_NoOrder)
def w_moments_by (C_spans_by_task C_first_misfit : FSpec) (A_NoOrder : Addr) : WS := (wSeq (wSet 2 (wCall 2 C_first_misfit [false, false] (wCons (wVar 0) (wCons (wVar 1) wNil))))
    (wSeq (wIfS (wB (wOp isNotU (wVar 2) (wC .none)))
    (wSeq (wUnp [3, 4] (wVar 2))
    ((wRaise1 A_NoOrder "paper" (wCons (wTup (wCons (wOp idxF (wVar 1) (wVar 3)) (wCons (wOp idxF (wVar 1) (wVar 4)) wNil))) wNil)))) wNext)
    (wSeq (wSet 5 (wCall 1 C_spans_by_task [false] (wCons (wVar 0) wNil)))
    (wSeq (wSet 6 (wLst wNil))
    (wSeq (wSet 7 (wC (.int 0)))
    (wSeq (wFor (wIt (wVar 1)) (gN 8)
    (wSeq (wSet 7 (wCB maxF2 (wCons (wVar 7) (wCons (wOp idxF (wOp idxF (wVar 5) (wVar 8)) (wC (.int 0))) wNil))))
    ((wDrop (wApp 6 (wTup (wCons (wVar 8) (wCons (wVar 7) wNil))))))))
    ((wRet (wCB tupleF (wCons (wVar 6) wNil))))))))))
theorem w_moments_by_eq (C_spans_by_task C_first_misfit : FSpec) (A_NoOrder : Addr) : w_moments_by C_spans_by_task C_first_misfit A_NoOrder = (t_moments_by_11 C_spans_by_task C_first_misfit A_NoOrder) := by with_unfolding_all rfl
theorem df_moments_by {g : Gx} {k : Nat} {C_spans_by_task C_first_misfit : FSpec} {A_NoOrder : Addr} (mono_spans_by_task : FMono C_spans_by_task) (c_spans_by_task : Cal g CX0 k "spans_by_task" ["spans"] C_spans_by_task) (mono_first_misfit : FMono C_first_misfit) (c_first_misfit : Cal g CX0 k "first_misfit" ["spans", "line"] C_first_misfit) (m_tuple : g.mg "tuple" = none) (m_max : g.mg "max" = none) (R_NoOrder : RfC1 g A_NoOrder "paper") (mg_NoOrder : g.mg "NoOrder" = some (.ref A_NoOrder)) (hk : 2 ≤ k) {f : Addr} {fd : FuncData} (Fn : Fun g.K "moments_by" "moments_by" s_moments_by f fd) : FnG g g.ex (k + 1) f fd ["spans", "line"] (spOf g.K 2 (fnW 2 9 (w_moments_by C_spans_by_task C_first_misfit A_NoOrder))) :=
  fn_dlx (N := ["spans", "line", "misfit", "i", "j", "span_by", "moments", "moment", "task"]) Fn sc_moments_by (fun E => (ds_cons (ds_set (i := 2) rfl (by first | exact .inl rfl | exact .inr rfl) (de_cal (ms := [false, false]) c_first_misfit.any mono_first_misfit rfl (da_cons (de_var (i := 0) rfl (by first | exact .inl rfl | exact .inr (.inl rfl) | exact .inr (.inr rfl))) (da_cons (de_var (i := 1) rfl (by first | exact .inl rfl | exact .inr (.inl rfl) | exact .inr (.inr rfl))) da_nil))))
    (ds_cons (ds_if (dt_cmp os_isnotU (de_var (i := 2) rfl (by first | exact .inl rfl | exact .inr (.inl rfl) | exact .inr (.inr rfl))) de_non rfl)
    (ds_cons (ds_unp (de_var (i := 2) rfl (by first | exact .inl rfl | exact .inr (.inl rfl) | exact .inr (.inr rfl))) (dns_cons (i := 3) rfl (by first | exact .inl rfl | exact .inr rfl) (dns_cons (i := 4) rfl (by first | exact .inl rfl | exact .inr rfl) dns_nil)) rfl)
    (ds_one (ds_raise1 rfl R_NoOrder hk rfl mg_NoOrder (da_cons (de_tup (da_cons (de_ix (de_var (i := 1) rfl (by first | exact .inl rfl | exact .inr (.inl rfl) | exact .inr (.inr rfl))) (de_var (i := 3) rfl (by first | exact .inl rfl | exact .inr (.inl rfl) | exact .inr (.inr rfl)))) (da_cons (de_ix (de_var (i := 1) rfl (by first | exact .inl rfl | exact .inr (.inl rfl) | exact .inr (.inr rfl))) (de_var (i := 4) rfl (by first | exact .inl rfl | exact .inr (.inl rfl) | exact .inr (.inr rfl)))) da_nil))) da_nil)))) ds_nil)
    (ds_cons (ds_set (i := 5) rfl (by first | exact .inl rfl | exact .inr rfl) (de_cal (ms := [false]) c_spans_by_task.any mono_spans_by_task rfl (da_cons (de_var (i := 0) rfl (by first | exact .inl rfl | exact .inr (.inl rfl) | exact .inr (.inr rfl))) da_nil)))
    (ds_cons (ds_set (i := 6) rfl (by first | exact .inl rfl | exact .inr rfl) (de_lst da_nil))
    (ds_cons (ds_set (i := 7) rfl (by first | exact .inl rfl | exact .inr rfl) de_int)
    (ds_cons (ds_for (di_seq (de_var (i := 1) rfl (by first | exact .inl rfl | exact .inr (.inl rfl) | exact .inr (.inr rfl)))) (dg_name (i := 8) rfl (by first | exact .inl rfl | exact .inr rfl))
    (ds_cons (ds_set (i := 7) rfl (by first | exact .inl rfl | exact .inr rfl) (de_callB cs_max2 rfl m_max rfl (da_cons (de_var (i := 7) rfl (by first | exact .inl rfl | exact .inr (.inl rfl) | exact .inr (.inr rfl))) (da_cons (de_ix (de_ix (de_var (i := 5) rfl (by first | exact .inl rfl | exact .inr (.inl rfl) | exact .inr (.inr rfl))) (de_var (i := 8) rfl (by first | exact .inl rfl | exact .inr (.inl rfl) | exact .inr (.inr rfl)))) de_int) da_nil))))
    (ds_one (ds_expr (de_app (i := 6) rfl (by first | exact .inl rfl | exact .inr (.inl rfl) | exact .inr (.inr rfl)) (de_tup (da_cons (de_var (i := 8) rfl (by first | exact .inl rfl | exact .inr (.inl rfl) | exact .inr (.inr rfl))) (da_cons (de_var (i := 7) rfl (by first | exact .inl rfl | exact .inr (.inl rfl) | exact .inr (.inr rfl))) da_nil))))))))
    (ds_one (ds_ret (de_callT cs_tuple rfl m_tuple rfl (da_cons (de_var (i := 6) rfl (by first | exact .inl rfl | exact .inr (.inl rfl) | exact .inr (.inr rfl))) da_nil))))))))))) (by decide)
theorem bd_moments_by {K : PySem.W.Frag} {f : Addr} {fd : FuncData} (Fn : Fun K "moments_by" "moments_by" s_moments_by f fd) : Binds K fd ["spans", "line"] [] := Fn.binds (ps := ["spans", "line"]) fun _ _ _ _ _ _ us hl => match us, hl with | [_, _], _ => rfl
theorem cal_moments_by {g : Gx} {k : Nat} {C_spans_by_task C_first_misfit : FSpec} {A_NoOrder : Addr} {W : FSpec} (mono_spans_by_task : FMono C_spans_by_task) (c_spans_by_task : Cal g CX0 k "spans_by_task" ["spans"] C_spans_by_task) (mono_first_misfit : FMono C_first_misfit) (c_first_misfit : Cal g CX0 k "first_misfit" ["spans", "line"] C_first_misfit) (m_tuple : g.mg "tuple" = none) (m_max : g.mg "max" = none) (R_NoOrder : RfC1 g A_NoOrder "paper") (mg_NoOrder : g.mg "NoOrder" = some (.ref A_NoOrder)) (hk : 2 ≤ k) (h : Got g "moments_by" s_moments_by) (im : ∀ ss Ex P, W ss Ex P → fnW 2 9 (w_moments_by C_spans_by_task C_first_misfit A_NoOrder) ss Ex P) : Cal g g.ex (k + 1) "moments_by" ["spans", "line"] W := by
  obtain ⟨f, fd, m, F⟩ := h
  exact Cal.imp ⟨f, fd, df_moments_by mono_spans_by_task c_spans_by_task mono_first_misfit c_first_misfit   m_tuple m_max  R_NoOrder mg_NoOrder hk F, m, F.kp, bd_moments_by F⟩ im
theorem sc_source : FnScope ["_law_script"] ["_law_script"] (defScope s_source) := ⟨rfl, rfl, rfl, by decide +kernel, rfl, by decide +kernel, by decide +kernel⟩
@[irreducible] def t_source_1 : WS := (wRet (wDisp (((wC (.str "cells")), (wCB listF (wCons (wSl (wVar 0) wNoP (wPart (wC (.int 63)))) wNil))) :: (((wC (.str "at")), (wC (.int 0))) :: (((wC (.str "rest")), (wC (.int 0))) :: (((wC (.str "count")), (wC (.int 0))) :: []))))))
def w_source : WS := ((wRet (wDisp (((wC (.str "cells")), (wCB listF (wCons (wSl (wVar 0) wNoP (wPart (wC (.int 63)))) wNil))) :: (((wC (.str "at")), (wC (.int 0))) :: (((wC (.str "rest")), (wC (.int 0))) :: (((wC (.str "count")), (wC (.int 0))) :: [])))))))
theorem w_source_eq : w_source = (t_source_1) := by with_unfolding_all rfl
theorem df_source {g : Gx} {k : Nat} (m_list : g.mg "list" = none) {f : Addr} {fd : FuncData} (Fn : Fun g.K "_law_source" "_law_source" s_source f fd) : FnG g CX0 (k + 1) f fd ["_law_script"] (spOf g.K 1 (fnW 1 1 w_source)) :=
  fn_dl (N := ["_law_script"]) Fn sc_source (fun E => (ds_one (ds_ret (de_disp (dps_cons de_str (de_callT cs_list rfl m_list rfl (da_cons (de_sl (de_var (i := 0) rfl (by first | exact .inl rfl | exact .inr (.inl rfl) | exact .inr (.inr rfl))) do_none (do_some de_int)) da_nil)) (dps_cons de_str de_int (dps_cons de_str de_int (dps_cons de_str de_int dps_nil)))))))) (by decide)
theorem bd_source {K : PySem.W.Frag} {f : Addr} {fd : FuncData} (Fn : Fun K "_law_source" "_law_source" s_source f fd) : Binds K fd ["_law_script"] [] := Fn.binds (ps := ["_law_script"]) fun _ _ _ _ _ _ us hl => match us, hl with | [_], _ => rfl
theorem cal_source {g : Gx} {k : Nat} {W : FSpec} (m_list : g.mg "list" = none) (h : Got g "_law_source" s_source) (im : ∀ ss Ex P, W ss Ex P → fnW 1 1 w_source ss Ex P) : Cal g CX0 (k + 1) "_law_source" ["_law_script"] W := by
  obtain ⟨f, fd, m, F⟩ := h
  exact Cal.imp ⟨f, fd, df_source    m_list   F, m, F.kp, bd_source F⟩ im
theorem sc_pick : FnScope ["_law_source_here", "_law_many", "_law_found", "_law_cells", "_law_cell", "_law_mixed"] ["_law_source_here", "_law_many"] (defScope s_pick) := ⟨rfl, rfl, rfl, by decide +kernel, rfl, by decide +kernel, by decide +kernel⟩
@[irreducible] def t_pick_1 : WS := (wRet (wOp modF (wOp fdivF (wVar 5) (wC (.int 256))) (wVar 1)))
@[irreducible] def t_pick_2 : WS := wSeq (wSet 5 (wOp modF (wOp addF (wOp addF (wOp mulF (wVar 5) (wVar 5)) (wOp mulF (wC (.int 69069)) (wOp idxF (wVar 0) (wC (.str "count"))))) (wC (.int 1))) (wC (.int 2147483497))))
    (t_pick_1)
@[irreducible] def t_pick_3 : WS := wSeq (wSet 5 (wOp modF (wOp addF (wOp addF (wOp mulF (wVar 5) (wVar 5)) (wOp mulF (wC (.int 3)) (wOp idxF (wVar 0) (wC (.str "count"))))) (wC (.int 7))) (wC (.int 2147483543))))
    (t_pick_2)
@[irreducible] def t_pick_4 : WS := wSeq (wSet 5 (wOp addF (wOp modF (wVar 4) (wC (.int 1073741827))) (wOp mulF (wC (.int 611953)) (wOp idxF (wVar 0) (wC (.str "count"))))))
    (t_pick_3)
@[irreducible] def t_pick_5 : WS := (wRet (wOp modF (wVar 4) (wVar 1)))
@[irreducible] def t_pick_6 : WS := wSeq (wPut 0 (wC (.str "rest")) (wOp fdivF (wVar 4) (wVar 1)))
    (t_pick_5)
@[irreducible] def t_pick_7 : WS := wSeq (wIfS (wAnd (wB (wOp geF (wVar 4) (wOp powF (wC (.int 10)) (wC (.int 18))))) (wB (wOp leU (wOp idxF (wVar 0) (wC (.str "at"))) (wCB lenX (wCons (wVar 3) wNil)))))
    (t_pick_6) wNext)
    (t_pick_4)
@[irreducible] def t_pick_8 : WS := wSeq (wPut 0 (wC (.str "at")) (wOp addF (wOp idxF (wVar 0) (wC (.str "at"))) (wC (.int 1))))
    (t_pick_7)
@[irreducible] def x_pick_9 : WE := wIf (wB (wOp neF (wVar 3) (wLst wNil))) (wOp idxF (wVar 3) (wOp modF (wOp idxF (wVar 0) (wC (.str "at"))) (wCB lenX (wCons (wVar 3) wNil)))) (wC (.int 54))
@[irreducible] def t_pick_10 : WS := wSeq (wSet 4 (x_pick_9))
    (t_pick_8)
@[irreducible] def t_pick_11 : WS := wSeq (wSet 3 (wOp idxF (wVar 0) (wC (.str "cells"))))
    (t_pick_10)
@[irreducible] def t_pick_12 : WS := (wRet (wVar 2))
@[irreducible] def t_pick_13 : WS := wSeq (wPut 0 (wC (.str "rest")) (wOp fdivF (wOp idxF (wVar 0) (wC (.str "rest"))) (wVar 1)))
    (t_pick_12)
@[irreducible] def t_pick_14 : WS := wSeq (wSet 2 (wOp modF (wOp idxF (wVar 0) (wC (.str "rest"))) (wVar 1)))
    (t_pick_13)
@[irreducible] def t_pick_15 : WS := wSeq (wIfS (wB (wOp gtU (wOp idxF (wVar 0) (wC (.str "rest"))) (wC (.int 0))))
    (t_pick_14) wNext)
    (t_pick_11)
@[irreducible] def t_pick_16 : WS := wSeq (wPut 0 (wC (.str "count")) (wOp addF (wOp idxF (wVar 0) (wC (.str "count"))) (wC (.int 1))))
    (t_pick_15)
def w_pick : WS := (wSeq (wPut 0 (wC (.str "count")) (wOp addF (wOp idxF (wVar 0) (wC (.str "count"))) (wC (.int 1))))
    (wSeq (wIfS (wB (wOp gtU (wOp idxF (wVar 0) (wC (.str "rest"))) (wC (.int 0))))
    (wSeq (wSet 2 (wOp modF (wOp idxF (wVar 0) (wC (.str "rest"))) (wVar 1)))
    (wSeq (wPut 0 (wC (.str "rest")) (wOp fdivF (wOp idxF (wVar 0) (wC (.str "rest"))) (wVar 1)))
    ((wRet (wVar 2))))) wNext)
    (wSeq (wSet 3 (wOp idxF (wVar 0) (wC (.str "cells"))))
    (wSeq (wSet 4 (wIf (wB (wOp neF (wVar 3) (wLst wNil))) (wOp idxF (wVar 3) (wOp modF (wOp idxF (wVar 0) (wC (.str "at"))) (wCB lenX (wCons (wVar 3) wNil)))) (wC (.int 54))))
    (wSeq (wPut 0 (wC (.str "at")) (wOp addF (wOp idxF (wVar 0) (wC (.str "at"))) (wC (.int 1))))
    (wSeq (wIfS (wAnd (wB (wOp geF (wVar 4) (wOp powF (wC (.int 10)) (wC (.int 18))))) (wB (wOp leU (wOp idxF (wVar 0) (wC (.str "at"))) (wCB lenX (wCons (wVar 3) wNil)))))
    (wSeq (wPut 0 (wC (.str "rest")) (wOp fdivF (wVar 4) (wVar 1)))
    ((wRet (wOp modF (wVar 4) (wVar 1))))) wNext)
    (wSeq (wSet 5 (wOp addF (wOp modF (wVar 4) (wC (.int 1073741827))) (wOp mulF (wC (.int 611953)) (wOp idxF (wVar 0) (wC (.str "count"))))))
    (wSeq (wSet 5 (wOp modF (wOp addF (wOp addF (wOp mulF (wVar 5) (wVar 5)) (wOp mulF (wC (.int 3)) (wOp idxF (wVar 0) (wC (.str "count"))))) (wC (.int 7))) (wC (.int 2147483543))))
    (wSeq (wSet 5 (wOp modF (wOp addF (wOp addF (wOp mulF (wVar 5) (wVar 5)) (wOp mulF (wC (.int 69069)) (wOp idxF (wVar 0) (wC (.str "count"))))) (wC (.int 1))) (wC (.int 2147483497))))
    ((wRet (wOp modF (wOp fdivF (wVar 5) (wC (.int 256))) (wVar 1)))))))))))))
theorem w_pick_eq : w_pick = (t_pick_16) := by with_unfolding_all rfl
theorem df_pick {g : Gx} {k : Nat} (m_len : g.mg "len" = none) {f : Addr} {fd : FuncData} (Fn : Fun g.K "_law_pick" "_law_pick" s_pick f fd) : FnG g CX0 (k + 1) f fd ["_law_source_here", "_law_many"] (spOf g.K 2 (fnW 2 6 w_pick)) :=
  fn_dl (N := ["_law_source_here", "_law_many", "_law_found", "_law_cells", "_law_cell", "_law_mixed"]) Fn sc_pick (fun E => (ds_cons (ds_put (i := 0) rfl (by first | exact .inl rfl | exact .inr (.inl rfl) | exact .inr (.inr rfl)) de_str (de_op os_add (de_ix (de_var (i := 0) rfl (by first | exact .inl rfl | exact .inr (.inl rfl) | exact .inr (.inr rfl))) de_str) de_int))
    (ds_cons (ds_if (dt_cmp os_gtU (de_ix (de_var (i := 0) rfl (by first | exact .inl rfl | exact .inr (.inl rfl) | exact .inr (.inr rfl))) de_str) de_int rfl)
    (ds_cons (ds_set (i := 2) rfl (by first | exact .inl rfl | exact .inr rfl) (de_op os_mod (de_ix (de_var (i := 0) rfl (by first | exact .inl rfl | exact .inr (.inl rfl) | exact .inr (.inr rfl))) de_str) (de_var (i := 1) rfl (by first | exact .inl rfl | exact .inr (.inl rfl) | exact .inr (.inr rfl)))))
    (ds_cons (ds_put (i := 0) rfl (by first | exact .inl rfl | exact .inr (.inl rfl) | exact .inr (.inr rfl)) de_str (de_op os_fdiv (de_ix (de_var (i := 0) rfl (by first | exact .inl rfl | exact .inr (.inl rfl) | exact .inr (.inr rfl))) de_str) (de_var (i := 1) rfl (by first | exact .inl rfl | exact .inr (.inl rfl) | exact .inr (.inr rfl)))))
    (ds_one (ds_ret (de_var (i := 2) rfl (by first | exact .inl rfl | exact .inr (.inl rfl) | exact .inr (.inr rfl))))))) ds_nil)
    (ds_cons (ds_set (i := 3) rfl (by first | exact .inl rfl | exact .inr rfl) (de_ix (de_var (i := 0) rfl (by first | exact .inl rfl | exact .inr (.inl rfl) | exact .inr (.inr rfl))) de_str))
    (ds_cons (ds_set (i := 4) rfl (by first | exact .inl rfl | exact .inr rfl) (de_ifx (dt_cmp os_ne (de_var (i := 3) rfl (by first | exact .inl rfl | exact .inr (.inl rfl) | exact .inr (.inr rfl))) (de_lst da_nil) rfl) (de_ix (de_var (i := 3) rfl (by first | exact .inl rfl | exact .inr (.inl rfl) | exact .inr (.inr rfl))) (de_op os_mod (de_ix (de_var (i := 0) rfl (by first | exact .inl rfl | exact .inr (.inl rfl) | exact .inr (.inr rfl))) de_str) (de_callB cs_lenX rfl m_len rfl (da_cons (de_var (i := 3) rfl (by first | exact .inl rfl | exact .inr (.inl rfl) | exact .inr (.inr rfl))) da_nil)))) de_int))
    (ds_cons (ds_put (i := 0) rfl (by first | exact .inl rfl | exact .inr (.inl rfl) | exact .inr (.inr rfl)) de_str (de_op os_add (de_ix (de_var (i := 0) rfl (by first | exact .inl rfl | exact .inr (.inl rfl) | exact .inr (.inr rfl))) de_str) de_int))
    (ds_cons (ds_if (dt_w (dw_and (dt_cmp os_ge (de_var (i := 4) rfl (by first | exact .inl rfl | exact .inr (.inl rfl) | exact .inr (.inr rfl))) (de_op os_pow de_int de_int) rfl) (dw_and1 (dt_cmp os_leU (de_ix (de_var (i := 0) rfl (by first | exact .inl rfl | exact .inr (.inl rfl) | exact .inr (.inr rfl))) de_str) (de_callB cs_lenX rfl m_len rfl (da_cons (de_var (i := 3) rfl (by first | exact .inl rfl | exact .inr (.inl rfl) | exact .inr (.inr rfl))) da_nil)) rfl))))
    (ds_cons (ds_put (i := 0) rfl (by first | exact .inl rfl | exact .inr (.inl rfl) | exact .inr (.inr rfl)) de_str (de_op os_fdiv (de_var (i := 4) rfl (by first | exact .inl rfl | exact .inr (.inl rfl) | exact .inr (.inr rfl))) (de_var (i := 1) rfl (by first | exact .inl rfl | exact .inr (.inl rfl) | exact .inr (.inr rfl)))))
    (ds_one (ds_ret (de_op os_mod (de_var (i := 4) rfl (by first | exact .inl rfl | exact .inr (.inl rfl) | exact .inr (.inr rfl))) (de_var (i := 1) rfl (by first | exact .inl rfl | exact .inr (.inl rfl) | exact .inr (.inr rfl))))))) ds_nil)
    (ds_cons (ds_set (i := 5) rfl (by first | exact .inl rfl | exact .inr rfl) (de_op os_add (de_op os_mod (de_var (i := 4) rfl (by first | exact .inl rfl | exact .inr (.inl rfl) | exact .inr (.inr rfl))) de_int) (de_op os_mul de_int (de_ix (de_var (i := 0) rfl (by first | exact .inl rfl | exact .inr (.inl rfl) | exact .inr (.inr rfl))) de_str))))
    (ds_cons (ds_set (i := 5) rfl (by first | exact .inl rfl | exact .inr rfl) (de_op os_mod (de_op os_add (de_op os_add (de_op os_mul (de_var (i := 5) rfl (by first | exact .inl rfl | exact .inr (.inl rfl) | exact .inr (.inr rfl))) (de_var (i := 5) rfl (by first | exact .inl rfl | exact .inr (.inl rfl) | exact .inr (.inr rfl)))) (de_op os_mul de_int (de_ix (de_var (i := 0) rfl (by first | exact .inl rfl | exact .inr (.inl rfl) | exact .inr (.inr rfl))) de_str))) de_int) de_int))
    (ds_cons (ds_set (i := 5) rfl (by first | exact .inl rfl | exact .inr rfl) (de_op os_mod (de_op os_add (de_op os_add (de_op os_mul (de_var (i := 5) rfl (by first | exact .inl rfl | exact .inr (.inl rfl) | exact .inr (.inr rfl))) (de_var (i := 5) rfl (by first | exact .inl rfl | exact .inr (.inl rfl) | exact .inr (.inr rfl)))) (de_op os_mul de_int (de_ix (de_var (i := 0) rfl (by first | exact .inl rfl | exact .inr (.inl rfl) | exact .inr (.inr rfl))) de_str))) de_int) de_int))
    (ds_one (ds_ret (de_op os_mod (de_op os_fdiv (de_var (i := 5) rfl (by first | exact .inl rfl | exact .inr (.inl rfl) | exact .inr (.inr rfl))) de_int) (de_var (i := 1) rfl (by first | exact .inl rfl | exact .inr (.inl rfl) | exact .inr (.inr rfl)))))))))))))))) (by decide)
theorem bd_pick {K : PySem.W.Frag} {f : Addr} {fd : FuncData} (Fn : Fun K "_law_pick" "_law_pick" s_pick f fd) : Binds K fd ["_law_source_here", "_law_many"] [] := Fn.binds (ps := ["_law_source_here", "_law_many"]) fun _ _ _ _ _ _ us hl => match us, hl with | [_, _], _ => rfl
theorem cal_pick {g : Gx} {k : Nat} {W : FSpec} (m_len : g.mg "len" = none) (h : Got g "_law_pick" s_pick) (im : ∀ ss Ex P, W ss Ex P → fnW 2 6 w_pick ss Ex P) : Cal g CX0 (k + 1) "_law_pick" ["_law_source_here", "_law_many"] W := by
  obtain ⟨f, fd, m, F⟩ := h
  exact Cal.imp ⟨f, fd, df_pick    m_len   F, m, F.kp, bd_pick F⟩ im
theorem sc_tree : FnScope ["_law_source_here", "_law_top", "_law_rows", "_law_kinds", "_law_last", "_law_k", "_law_drawers", "_law_node", "_law_own", "_law_name", "_law_sheets", "_law_found"] ["_law_source_here", "_law_top"] (defScope s_tree) := ⟨rfl, rfl, rfl, by decide +kernel, rfl, by decide +kernel, by decide +kernel⟩
@[irreducible] def t_tree_1 (C_pick : FSpec) : WS := (wRet (wTup (wCons (wCB tupleF (wCons (wVar 11) wNil)) (wCons (wOp addF (wOp addF (wVar 4) (wC (.int 1))) (wCall 2 C_pick [true, false] (wCons (wVar 0) (wCons (wC (.int 2)) wNil)))) wNil))))
@[irreducible] def t_tree_2 (C_pick : FSpec) : WS := wSeq (wSet 11 (wLc (wIt (wCB sortT (wCons (wVar 2) wNil))) (gN 7) wYes (wTup (wCons (wVar 7) (wCons (wOp idxF (wVar 3) (wVar 7)) (wCons (wCB tupleF (wCons (wSortIt (wIxO (wVar 2) (wVar 7))) wNil)) wNil)))) [7]))
    (t_tree_1 C_pick)
@[irreducible] def t_tree_3 (C_pick : FSpec) : WS := (wAsgO (wTgS (wVar 8) (wC (.str "z"))) (wOp idxF (wVar 10) (wCall 2 C_pick [true, false] (wCons (wVar 0) (wCons (wCB lenX (wCons (wVar 10) wNil)) wNil)))))
@[irreducible] def t_tree_4 (C_pick : FSpec) : WS := wSeq (wSet 8 (wIxO (wVar 2) (wOp idxF (wVar 6) (wCall 2 C_pick [true, false] (wCons (wVar 0) (wCons (wCB lenX (wCons (wVar 6) wNil)) wNil))))))
    (t_tree_3 C_pick)
@[irreducible] def t_tree_5 (C_pick : FSpec) : WS := wSeq (wIfS (wAnd (wB (wOp neF (wVar 10) (wLst wNil))) (wB (wOp eqF (wCall 2 C_pick [true, false] (wCons (wVar 0) (wCons (wC (.int 2)) wNil))) (wC (.int 0)))))
    (t_tree_4 C_pick) wNext)
    (t_tree_2 C_pick)
@[irreducible] def t_tree_6 (C_pick : FSpec) : WS := wSeq (wSet 6 (wLc (wIt (wCB sortT (wCons (wVar 2) wNil))) (gN 7) (wB (wOp eqF (wOp idxF (wVar 3) (wVar 7)) (wC (.str "drawer")))) (wVar 7) [7]))
    (t_tree_5 C_pick)
@[irreducible] def t_tree_7 (C_pick : FSpec) : WS := wSeq (wSet 10 (wLc (wIt (wCB sortT (wCons (wVar 2) wNil))) (gN 7) (wB (wOp eqF (wOp idxF (wVar 3) (wVar 7)) (wC (.str "sheet")))) (wVar 7) [7]))
    (t_tree_6 C_pick)
@[irreducible] def t_tree_8 (C_pick : FSpec) : WS := (wAsgP ((wTgS (wVar 2) (wVar 4)) :: ((wTgS (wVar 3) (wVar 4)) :: [])) (wConsO (fun _ δ P => P (.n (.k [])) δ) (wConsO (wOp idxF (wLst (wCons (wC (.str "drawer")) (wCons (wC (.str "sheet")) (wCons (wC (.str "drawer")) wNil)))) (wCall 2 C_pick [true, false] (wCons (wVar 0) (wCons (wC (.int 3)) wNil)))) wNil)))
@[irreducible] def t_tree_9 (C_pick : FSpec) : WS := wSeq (wAsgO (wTgS (wVar 8) (wVar 9)) (wVar 4))
    (t_tree_8 C_pick)
@[irreducible] def t_tree_10 (C_pick : FSpec) : WS := wSeq (wSet 4 (wOp addF (wOp addF (wVar 4) (wC (.int 1))) (wCB intF (wCons (wOp eqF (wCall 2 C_pick [true, false] (wCons (wVar 0) (wCons (wC (.int 4)) wNil))) (wC (.int 0))) wNil))))
    (t_tree_9 C_pick)
@[irreducible] def t_tree_11 (C_pick : FSpec) : WS := (wIfS (wB (wOp (inT true) (wVar 9) (wVar 8)))
    (t_tree_10 C_pick) wNext)
@[irreducible] def t_tree_12 (C_pick : FSpec) : WS := wSeq (wSet 9 (wOp idxF (wLst (wCons (wC (.str "a")) (wCons (wC (.str "ab")) (wCons (wC (.str "b")) (wCons (wC (.str "c")) (wCons (wC (.str "x")) wNil)))))) (wCall 2 C_pick [true, false] (wCons (wVar 0) (wCons (wC (.int 5)) wNil)))))
    (t_tree_11 C_pick)
@[irreducible] def t_tree_13 (C_pick : FSpec) : WS := wSeq (wSet 8 (wIxO (wVar 2) (wOp idxF (wVar 6) (wCall 2 C_pick [true, false] (wCons (wVar 0) (wCons (wCB lenX (wCons (wVar 6) wNil)) wNil))))))
    (t_tree_12 C_pick)
@[irreducible] def t_tree_14 (C_pick : FSpec) : WS := wSeq (wSet 6 (wLc (wIt (wCB sortT (wCons (wVar 2) wNil))) (gN 7) (wB (wOp eqF (wOp idxF (wVar 3) (wVar 7)) (wC (.str "drawer")))) (wVar 7) [7]))
    (t_tree_13 C_pick)
@[irreducible] def t_tree_15 (C_pick : FSpec) : WS := wSeq (wFor (wRng (wCons (wCall 2 C_pick [true, false] (wCons (wVar 0) (wCons (wOp addF (wVar 1) (wC (.int 1))) wNil))) wNil) rng1) (gN 5)
    (t_tree_14 C_pick))
    (t_tree_7 C_pick)
@[irreducible] def t_tree_16 (C_pick : FSpec) : WS := wSeq (wParO [2, 3, 4] (wConsO (wDisp1 (wC (.int 0)) (fun _ δ P => P (.n (.k [])) δ)) (wConsO (wDisp (((wC (.int 0)), (wC (.str "drawer"))) :: [])) (wConsO (wC (.int 0)) wNil))))
    (t_tree_15 C_pick)
def w_tree (C_pick : FSpec) : WS := (wSeq (wParO [2, 3, 4] (wConsO (wDisp1 (wC (.int 0)) (fun _ δ P => P (.n (.k [])) δ)) (wConsO (wDisp (((wC (.int 0)), (wC (.str "drawer"))) :: [])) (wConsO (wC (.int 0)) wNil))))
    (wSeq (wFor (wRng (wCons (wCall 2 C_pick [true, false] (wCons (wVar 0) (wCons (wOp addF (wVar 1) (wC (.int 1))) wNil))) wNil) rng1) (gN 5)
    (wSeq (wSet 6 (wLc (wIt (wCB sortT (wCons (wVar 2) wNil))) (gN 7) (wB (wOp eqF (wOp idxF (wVar 3) (wVar 7)) (wC (.str "drawer")))) (wVar 7) [7]))
    (wSeq (wSet 8 (wIxO (wVar 2) (wOp idxF (wVar 6) (wCall 2 C_pick [true, false] (wCons (wVar 0) (wCons (wCB lenX (wCons (wVar 6) wNil)) wNil))))))
    (wSeq (wSet 9 (wOp idxF (wLst (wCons (wC (.str "a")) (wCons (wC (.str "ab")) (wCons (wC (.str "b")) (wCons (wC (.str "c")) (wCons (wC (.str "x")) wNil)))))) (wCall 2 C_pick [true, false] (wCons (wVar 0) (wCons (wC (.int 5)) wNil)))))
    ((wIfS (wB (wOp (inT true) (wVar 9) (wVar 8)))
    (wSeq (wSet 4 (wOp addF (wOp addF (wVar 4) (wC (.int 1))) (wCB intF (wCons (wOp eqF (wCall 2 C_pick [true, false] (wCons (wVar 0) (wCons (wC (.int 4)) wNil))) (wC (.int 0))) wNil))))
    (wSeq (wAsgO (wTgS (wVar 8) (wVar 9)) (wVar 4))
    ((wAsgP ((wTgS (wVar 2) (wVar 4)) :: ((wTgS (wVar 3) (wVar 4)) :: [])) (wConsO (fun _ δ P => P (.n (.k [])) δ) (wConsO (wOp idxF (wLst (wCons (wC (.str "drawer")) (wCons (wC (.str "sheet")) (wCons (wC (.str "drawer")) wNil)))) (wCall 2 C_pick [true, false] (wCons (wVar 0) (wCons (wC (.int 3)) wNil)))) wNil)))))) wNext))))))
    (wSeq (wSet 10 (wLc (wIt (wCB sortT (wCons (wVar 2) wNil))) (gN 7) (wB (wOp eqF (wOp idxF (wVar 3) (wVar 7)) (wC (.str "sheet")))) (wVar 7) [7]))
    (wSeq (wSet 6 (wLc (wIt (wCB sortT (wCons (wVar 2) wNil))) (gN 7) (wB (wOp eqF (wOp idxF (wVar 3) (wVar 7)) (wC (.str "drawer")))) (wVar 7) [7]))
    (wSeq (wIfS (wAnd (wB (wOp neF (wVar 10) (wLst wNil))) (wB (wOp eqF (wCall 2 C_pick [true, false] (wCons (wVar 0) (wCons (wC (.int 2)) wNil))) (wC (.int 0)))))
    (wSeq (wSet 8 (wIxO (wVar 2) (wOp idxF (wVar 6) (wCall 2 C_pick [true, false] (wCons (wVar 0) (wCons (wCB lenX (wCons (wVar 6) wNil)) wNil))))))
    ((wAsgO (wTgS (wVar 8) (wC (.str "z"))) (wOp idxF (wVar 10) (wCall 2 C_pick [true, false] (wCons (wVar 0) (wCons (wCB lenX (wCons (wVar 10) wNil)) wNil))))))) wNext)
    (wSeq (wSet 11 (wLc (wIt (wCB sortT (wCons (wVar 2) wNil))) (gN 7) wYes (wTup (wCons (wVar 7) (wCons (wOp idxF (wVar 3) (wVar 7)) (wCons (wCB tupleF (wCons (wSortIt (wIxO (wVar 2) (wVar 7))) wNil)) wNil)))) [7]))
    ((wRet (wTup (wCons (wCB tupleF (wCons (wVar 11) wNil)) (wCons (wOp addF (wOp addF (wVar 4) (wC (.int 1))) (wCall 2 C_pick [true, false] (wCons (wVar 0) (wCons (wC (.int 2)) wNil)))) wNil)))))))))))
theorem w_tree_eq (C_pick : FSpec) : w_tree C_pick = (t_tree_16 C_pick) := by with_unfolding_all rfl
theorem df_tree {g : Gx} {k : Nat} {C_pick : FSpec} (mono_pick : FMono C_pick) (c_pick : Cal g CX0 k "_law_pick" ["_law_source_here", "_law_many"] C_pick) (m_tuple : g.mg "tuple" = none) (m_sorted : g.mg "sorted" = none) (m_len : g.mg "len" = none) (m_range : g.mg "range" = none) (m_int : g.mg "int" = none) {f : Addr} {fd : FuncData} (Fn : Fun g.K "_law_tree" "_law_tree" s_tree f fd) : FnG g CX0 (k + 1) f fd ["_law_source_here", "_law_top"] (spOf g.K 2 (fnW 2 12 (w_tree C_pick))) :=
  fn_dl (N := ["_law_source_here", "_law_top", "_law_rows", "_law_kinds", "_law_last", "_law_k", "_law_drawers", "_law_node", "_law_own", "_law_name", "_law_sheets", "_law_found"]) Fn sc_tree (fun E => (ds_cons (ds_parU (dao_cons (de_disp1 de_int de_dnew) (dao_cons (de_disp (dps_cons de_int de_str dps_nil)) (dao_cons de_int dao_nil))) (dns_cons (i := 2) rfl (by first | exact .inl rfl | exact .inr rfl) (dns_cons (i := 3) rfl (by first | exact .inl rfl | exact .inr rfl) (dns_cons (i := 4) rfl (by first | exact .inl rfl | exact .inr rfl) dns_nil))) rfl (by decide))
    (ds_cons (ds_for (di_rng1 rfl m_range (da_cons (de_cal (ms := [true, false]) c_pick mono_pick rfl (da_cons (de_var (i := 0) rfl (by first | exact .inl rfl | exact .inr (.inl rfl) | exact .inr (.inr rfl))) (da_cons (de_op os_add (de_var (i := 1) rfl (by first | exact .inl rfl | exact .inr (.inl rfl) | exact .inr (.inr rfl))) de_int) da_nil))) da_nil)) (dg_name (i := 5) rfl (by first | exact .inl rfl | exact .inr rfl))
    (ds_cons (ds_setLc (own := [("_law_node", 7)]) (i := 6) cx0_ok rfl rfl rfl rfl rfl (di_seq (de_callB cs_sortT rfl m_sorted rfl (da_cons (de_var (i := 2) rfl (by first | exact .inl rfl | exact .inr (.inl rfl) | exact .inr (.inr rfl))) da_nil))) rfl (dg_name (i := 7) rfl (by first | exact .inl rfl | exact .inr rfl)) rfl (dts_one (dt_cmp os_eq (de_ix (de_var (i := 3) rfl (by first | exact .inl rfl | exact .inr (.inl rfl) | exact .inr (.inr rfl))) (de_var (i := 7) rfl (by first | exact .inl rfl | exact .inr (.inl rfl) | exact .inr (.inr rfl)))) de_str rfl)) (de_var (i := 7) rfl (by first | exact .inl rfl | exact .inr (.inl rfl) | exact .inr (.inr rfl))))
    (ds_cons (ds_set (i := 8) rfl (by first | exact .inl rfl | exact .inr rfl) (de_ixO (de_var (i := 2) rfl (by first | exact .inl rfl | exact .inr (.inl rfl) | exact .inr (.inr rfl))) (de_ix (de_var (i := 6) rfl (by first | exact .inl rfl | exact .inr (.inl rfl) | exact .inr (.inr rfl))) (de_cal (ms := [true, false]) c_pick mono_pick rfl (da_cons (de_var (i := 0) rfl (by first | exact .inl rfl | exact .inr (.inl rfl) | exact .inr (.inr rfl))) (da_cons (de_callB cs_lenX rfl m_len rfl (da_cons (de_var (i := 6) rfl (by first | exact .inl rfl | exact .inr (.inl rfl) | exact .inr (.inr rfl))) da_nil)) da_nil))))))
    (ds_cons (ds_set (i := 9) rfl (by first | exact .inl rfl | exact .inr rfl) (de_ix (de_lst (da_cons de_str (da_cons de_str (da_cons de_str (da_cons de_str (da_cons de_str da_nil)))))) (de_cal (ms := [true, false]) c_pick mono_pick rfl (da_cons (de_var (i := 0) rfl (by first | exact .inl rfl | exact .inr (.inl rfl) | exact .inr (.inr rfl))) (da_cons de_int da_nil)))))
    (ds_one (ds_if (dt_cmp os_notinT (de_var (i := 9) rfl (by first | exact .inl rfl | exact .inr (.inl rfl) | exact .inr (.inr rfl))) (de_var (i := 8) rfl (by first | exact .inl rfl | exact .inr (.inl rfl) | exact .inr (.inr rfl))) rfl)
    (ds_cons (ds_set (i := 4) rfl (by first | exact .inl rfl | exact .inr rfl) (de_op os_add (de_op os_add (de_var (i := 4) rfl (by first | exact .inl rfl | exact .inr (.inl rfl) | exact .inr (.inr rfl))) de_int) (de_callT cs_int rfl m_int rfl (da_cons (de_cmp os_eq (de_cal (ms := [true, false]) c_pick mono_pick rfl (da_cons (de_var (i := 0) rfl (by first | exact .inl rfl | exact .inr (.inl rfl) | exact .inr (.inr rfl))) (da_cons de_int da_nil))) de_int rfl) da_nil))))
    (ds_cons (ds_asgO (de_var (i := 4) rfl (by first | exact .inl rfl | exact .inr (.inl rfl) | exact .inr (.inr rfl))) (dtg_sub (de_var (i := 8) rfl (by first | exact .inl rfl | exact .inr (.inl rfl) | exact .inr (.inr rfl))) (de_var (i := 9) rfl (by first | exact .inl rfl | exact .inr (.inl rfl) | exact .inr (.inr rfl)))))
    (ds_one (ds_asgP (dao_cons de_dnew (dao_cons (de_ix (de_lst (da_cons de_str (da_cons de_str (da_cons de_str da_nil)))) (de_cal (ms := [true, false]) c_pick mono_pick rfl (da_cons (de_var (i := 0) rfl (by first | exact .inl rfl | exact .inr (.inl rfl) | exact .inr (.inr rfl))) (da_cons de_int da_nil)))) dao_nil)) (dtgs_cons (dtg_sub (de_var (i := 2) rfl (by first | exact .inl rfl | exact .inr (.inl rfl) | exact .inr (.inr rfl))) (de_var (i := 4) rfl (by first | exact .inl rfl | exact .inr (.inl rfl) | exact .inr (.inr rfl)))) (dtgs_cons (dtg_sub (de_var (i := 3) rfl (by first | exact .inl rfl | exact .inr (.inl rfl) | exact .inr (.inr rfl))) (de_var (i := 4) rfl (by first | exact .inl rfl | exact .inr (.inl rfl) | exact .inr (.inr rfl)))) dtgs_nil)) rfl)))) ds_nil))))))
    (ds_cons (ds_setLc (own := [("_law_node", 7)]) (i := 10) cx0_ok rfl rfl rfl rfl rfl (di_seq (de_callB cs_sortT rfl m_sorted rfl (da_cons (de_var (i := 2) rfl (by first | exact .inl rfl | exact .inr (.inl rfl) | exact .inr (.inr rfl))) da_nil))) rfl (dg_name (i := 7) rfl (by first | exact .inl rfl | exact .inr rfl)) rfl (dts_one (dt_cmp os_eq (de_ix (de_var (i := 3) rfl (by first | exact .inl rfl | exact .inr (.inl rfl) | exact .inr (.inr rfl))) (de_var (i := 7) rfl (by first | exact .inl rfl | exact .inr (.inl rfl) | exact .inr (.inr rfl)))) de_str rfl)) (de_var (i := 7) rfl (by first | exact .inl rfl | exact .inr (.inl rfl) | exact .inr (.inr rfl))))
    (ds_cons (ds_setLc (own := [("_law_node", 7)]) (i := 6) cx0_ok rfl rfl rfl rfl rfl (di_seq (de_callB cs_sortT rfl m_sorted rfl (da_cons (de_var (i := 2) rfl (by first | exact .inl rfl | exact .inr (.inl rfl) | exact .inr (.inr rfl))) da_nil))) rfl (dg_name (i := 7) rfl (by first | exact .inl rfl | exact .inr rfl)) rfl (dts_one (dt_cmp os_eq (de_ix (de_var (i := 3) rfl (by first | exact .inl rfl | exact .inr (.inl rfl) | exact .inr (.inr rfl))) (de_var (i := 7) rfl (by first | exact .inl rfl | exact .inr (.inl rfl) | exact .inr (.inr rfl)))) de_str rfl)) (de_var (i := 7) rfl (by first | exact .inl rfl | exact .inr (.inl rfl) | exact .inr (.inr rfl))))
    (ds_cons (ds_if (dt_w (dw_and (dt_cmp os_ne (de_var (i := 10) rfl (by first | exact .inl rfl | exact .inr (.inl rfl) | exact .inr (.inr rfl))) (de_lst da_nil) rfl) (dw_and1 (dt_cmp os_eq (de_cal (ms := [true, false]) c_pick mono_pick rfl (da_cons (de_var (i := 0) rfl (by first | exact .inl rfl | exact .inr (.inl rfl) | exact .inr (.inr rfl))) (da_cons de_int da_nil))) de_int rfl))))
    (ds_cons (ds_set (i := 8) rfl (by first | exact .inl rfl | exact .inr rfl) (de_ixO (de_var (i := 2) rfl (by first | exact .inl rfl | exact .inr (.inl rfl) | exact .inr (.inr rfl))) (de_ix (de_var (i := 6) rfl (by first | exact .inl rfl | exact .inr (.inl rfl) | exact .inr (.inr rfl))) (de_cal (ms := [true, false]) c_pick mono_pick rfl (da_cons (de_var (i := 0) rfl (by first | exact .inl rfl | exact .inr (.inl rfl) | exact .inr (.inr rfl))) (da_cons (de_callB cs_lenX rfl m_len rfl (da_cons (de_var (i := 6) rfl (by first | exact .inl rfl | exact .inr (.inl rfl) | exact .inr (.inr rfl))) da_nil)) da_nil))))))
    (ds_one (ds_asgO (de_ix (de_var (i := 10) rfl (by first | exact .inl rfl | exact .inr (.inl rfl) | exact .inr (.inr rfl))) (de_cal (ms := [true, false]) c_pick mono_pick rfl (da_cons (de_var (i := 0) rfl (by first | exact .inl rfl | exact .inr (.inl rfl) | exact .inr (.inr rfl))) (da_cons (de_callB cs_lenX rfl m_len rfl (da_cons (de_var (i := 10) rfl (by first | exact .inl rfl | exact .inr (.inl rfl) | exact .inr (.inr rfl))) da_nil)) da_nil)))) (dtg_sub (de_var (i := 8) rfl (by first | exact .inl rfl | exact .inr (.inl rfl) | exact .inr (.inr rfl))) de_str)))) ds_nil)
    (ds_cons (ds_setLc (own := [("_law_node", 7)]) (i := 11) cx0_ok rfl rfl rfl rfl rfl (di_seq (de_callB cs_sortT rfl m_sorted rfl (da_cons (de_var (i := 2) rfl (by first | exact .inl rfl | exact .inr (.inl rfl) | exact .inr (.inr rfl))) da_nil))) rfl (dg_name (i := 7) rfl (by first | exact .inl rfl | exact .inr rfl)) rfl dts_nil (de_tup (da_cons (de_var (i := 7) rfl (by first | exact .inl rfl | exact .inr (.inl rfl) | exact .inr (.inr rfl))) (da_cons (de_ix (de_var (i := 3) rfl (by first | exact .inl rfl | exact .inr (.inl rfl) | exact .inr (.inr rfl))) (de_var (i := 7) rfl (by first | exact .inl rfl | exact .inr (.inl rfl) | exact .inr (.inr rfl)))) (da_cons (de_callT cs_tuple rfl m_tuple rfl (da_cons (de_sortIt rfl m_sorted (de_ixO (de_var (i := 2) rfl (by first | exact .inl rfl | exact .inr (.inl rfl) | exact .inr (.inr rfl))) (de_var (i := 7) rfl (by first | exact .inl rfl | exact .inr (.inl rfl) | exact .inr (.inr rfl))))) da_nil)) da_nil)))))
    (ds_one (ds_ret (de_tup (da_cons (de_callT cs_tuple rfl m_tuple rfl (da_cons (de_var (i := 11) rfl (by first | exact .inl rfl | exact .inr (.inl rfl) | exact .inr (.inr rfl))) da_nil)) (da_cons (de_op os_add (de_op os_add (de_var (i := 4) rfl (by first | exact .inl rfl | exact .inr (.inl rfl) | exact .inr (.inr rfl))) de_int) (de_cal (ms := [true, false]) c_pick mono_pick rfl (da_cons (de_var (i := 0) rfl (by first | exact .inl rfl | exact .inr (.inl rfl) | exact .inr (.inr rfl))) (da_cons de_int da_nil)))) da_nil)))))))))))) (by decide)
theorem bd_tree {K : PySem.W.Frag} {f : Addr} {fd : FuncData} (Fn : Fun K "_law_tree" "_law_tree" s_tree f fd) : Binds K fd ["_law_source_here", "_law_top"] [] := Fn.binds (ps := ["_law_source_here", "_law_top"]) fun _ _ _ _ _ _ us hl => match us, hl with | [_, _], _ => rfl
theorem cal_tree {g : Gx} {k : Nat} {C_pick : FSpec} {W : FSpec} (mono_pick : FMono C_pick) (c_pick : Cal g CX0 k "_law_pick" ["_law_source_here", "_law_many"] C_pick) (m_tuple : g.mg "tuple" = none) (m_sorted : g.mg "sorted" = none) (m_len : g.mg "len" = none) (m_range : g.mg "range" = none) (m_int : g.mg "int" = none) (h : Got g "_law_tree" s_tree) (im : ∀ ss Ex P, W ss Ex P → fnW 2 12 (w_tree C_pick) ss Ex P) : Cal g CX0 (k + 1) "_law_tree" ["_law_source_here", "_law_top"] W := by
  obtain ⟨f, fd, m, F⟩ := h
  exact Cal.imp ⟨f, fd, df_tree mono_pick c_pick   m_tuple m_sorted m_len m_range m_int   F, m, F.kp, bd_tree F⟩ im
theorem sc_ways : FnScope ["_law_tree_here", "_law_entries", "_law_node", "_law_kind", "_law_row", "_law_found", "_law_front", "_law_longer", "_law_way_here", "_law_name", "_law_inner"] ["_law_tree_here"] (defScope s_ways) := ⟨rfl, rfl, rfl, by decide +kernel, rfl, by decide +kernel, by decide +kernel⟩
@[irreducible] def t_ways_1 : WS := (wRet (wVar 5))
@[irreducible] def t_ways_2 : WS := (wSet 6 (wVar 7))
@[irreducible] def t_ways_3 : WS := wSeq (wDrop (wExtT 5 (wLc (wIt (wVar 7)) (gT 2 (gsC (gN 8) (gsC (gN 2) gsN))) wYes (wVar 8) [8, 2])))
    (t_ways_2)
@[irreducible] def t_ways_4 : WS := (wDrop (wExtT 7 (wLc (wIt (wOp idxF (wVar 1) (wVar 2))) (gT 2 (gsC (gN 9) (gsC (gN 10) gsN))) (wB (wOp ltU (wCB lenX (wCons (wVar 8) wNil)) (wC (.int 4)))) (wTup (wCons (wOp addF (wVar 8) (wTup (wCons (wVar 9) wNil))) (wCons (wVar 10) wNil))) [9, 10])))
@[irreducible] def t_ways_5 : WS := wSeq (wFor (wIt (wVar 6)) (gT 2 (gsC (gN 8) (gsC (gN 2) gsN)))
    (t_ways_4))
    (t_ways_3)
@[irreducible] def t_ways_6 : WS := wSeq (wSet 7 (wLst wNil))
    (t_ways_5)
@[irreducible] def t_ways_7 : WS := wSeq (wWhile (wB (wOp neF (wVar 6) (wLst wNil)))
    (t_ways_6))
    (t_ways_1)
@[irreducible] def t_ways_8 : WS := wSeq (wParO [5, 6] (wConsO (wLst (wCons (wTup wNil) wNil)) (wConsO (wLst (wCons (wTup (wCons (wTup wNil) (wCons (wC (.int 0)) wNil))) wNil)) wNil)))
    (t_ways_7)
@[irreducible] def t_ways_9 : WS := wSeq (wSet 1 (wCB dictF (wCons (wLc (wIt (wOp idxF (wVar 0) (wC (.int 0)))) (gT 3 (gsC (gN 2) (gsC (gN 3) (gsC (gN 4) gsN)))) wYes (wTup (wCons (wVar 2) (wCons (wVar 4) wNil))) [2, 3, 4]) wNil)))
    (t_ways_8)
def w_ways : WS := (wSeq (wSet 1 (wCB dictF (wCons (wLc (wIt (wOp idxF (wVar 0) (wC (.int 0)))) (gT 3 (gsC (gN 2) (gsC (gN 3) (gsC (gN 4) gsN)))) wYes (wTup (wCons (wVar 2) (wCons (wVar 4) wNil))) [2, 3, 4]) wNil)))
    (wSeq (wParO [5, 6] (wConsO (wLst (wCons (wTup wNil) wNil)) (wConsO (wLst (wCons (wTup (wCons (wTup wNil) (wCons (wC (.int 0)) wNil))) wNil)) wNil)))
    (wSeq (wWhile (wB (wOp neF (wVar 6) (wLst wNil)))
    (wSeq (wSet 7 (wLst wNil))
    (wSeq (wFor (wIt (wVar 6)) (gT 2 (gsC (gN 8) (gsC (gN 2) gsN)))
    ((wDrop (wExtT 7 (wLc (wIt (wOp idxF (wVar 1) (wVar 2))) (gT 2 (gsC (gN 9) (gsC (gN 10) gsN))) (wB (wOp ltU (wCB lenX (wCons (wVar 8) wNil)) (wC (.int 4)))) (wTup (wCons (wOp addF (wVar 8) (wTup (wCons (wVar 9) wNil))) (wCons (wVar 10) wNil))) [9, 10])))))
    (wSeq (wDrop (wExtT 5 (wLc (wIt (wVar 7)) (gT 2 (gsC (gN 8) (gsC (gN 2) gsN))) wYes (wVar 8) [8, 2])))
    ((wSet 6 (wVar 7)))))))
    ((wRet (wVar 5))))))
theorem w_ways_eq : w_ways = (t_ways_9) := by with_unfolding_all rfl
theorem df_ways {g : Gx} {k : Nat} (m_len : g.mg "len" = none) (m_dict : g.mg "dict" = none) {f : Addr} {fd : FuncData} (Fn : Fun g.K "_law_ways" "_law_ways" s_ways f fd) : FnG g CX0 (k + 1) f fd ["_law_tree_here"] (spOf g.K 1 (fnW 1 11 w_ways)) :=
  fn_dl (N := ["_law_tree_here", "_law_entries", "_law_node", "_law_kind", "_law_row", "_law_found", "_law_front", "_law_longer", "_law_way_here", "_law_name", "_law_inner"]) Fn sc_ways (fun E => (ds_cons (ds_set (i := 1) rfl (by first | exact .inl rfl | exact .inr rfl) (de_callT cs_dict rfl m_dict rfl (da_cons (de_lc (own := [("_law_node", 2), ("_law_kind", 3), ("_law_row", 4)]) cx0_ok (di_seq (de_ix (de_var (i := 0) rfl (by first | exact .inl rfl | exact .inr (.inl rfl) | exact .inr (.inr rfl))) de_int)) rfl (dg_tup (dgs_cons (dg_name (i := 2) rfl (by first | exact .inl rfl | exact .inr rfl)) (dgs_cons (dg_name (i := 3) rfl (by first | exact .inl rfl | exact .inr rfl)) (dgs_cons (dg_name (i := 4) rfl (by first | exact .inl rfl | exact .inr rfl)) dgs_nil)))) rfl dts_nil (de_tup (da_cons (de_var (i := 2) rfl (by first | exact .inl rfl | exact .inr (.inl rfl) | exact .inr (.inr rfl))) (da_cons (de_var (i := 4) rfl (by first | exact .inl rfl | exact .inr (.inl rfl) | exact .inr (.inr rfl))) da_nil)))) da_nil)))
    (ds_cons (ds_parO2 (i := 5) (j := 6) rfl rfl (by decide) rfl rfl (dao_cons (de_lst (da_cons (de_tup da_nil) da_nil)) (dao_cons (de_lst (da_cons (de_tup (da_cons (de_tup da_nil) (da_cons de_int da_nil))) da_nil)) dao_nil)) (fun _ => by rfl))
    (ds_cons (ds_while (dt_cmp os_ne (de_var (i := 6) rfl (by first | exact .inl rfl | exact .inr (.inl rfl) | exact .inr (.inr rfl))) (de_lst da_nil) rfl)
    (ds_cons (ds_set (i := 7) rfl (by first | exact .inl rfl | exact .inr rfl) (de_lst da_nil))
    (ds_cons (ds_for (di_seq (de_var (i := 6) rfl (by first | exact .inl rfl | exact .inr (.inl rfl) | exact .inr (.inr rfl)))) (dg_tup (dgs_cons (dg_name (i := 8) rfl (by first | exact .inl rfl | exact .inr rfl)) (dgs_cons (dg_name (i := 2) rfl (by first | exact .inl rfl | exact .inr rfl)) dgs_nil)))
    (ds_one (ds_expr (de_extT (i := 7) rfl (by first | exact .inl rfl | exact .inr (.inl rfl) | exact .inr (.inr rfl)) (de_lc (own := [("_law_name", 9), ("_law_inner", 10)]) cx0_ok (di_seq (de_ix (de_var (i := 1) rfl (by first | exact .inl rfl | exact .inr (.inl rfl) | exact .inr (.inr rfl))) (de_var (i := 2) rfl (by first | exact .inl rfl | exact .inr (.inl rfl) | exact .inr (.inr rfl))))) rfl (dg_tup (dgs_cons (dg_name (i := 9) rfl (by first | exact .inl rfl | exact .inr rfl)) (dgs_cons (dg_name (i := 10) rfl (by first | exact .inl rfl | exact .inr rfl)) dgs_nil))) rfl (dts_one (dt_cmp os_ltU (de_callB cs_lenX rfl m_len rfl (da_cons (de_var (i := 8) rfl (by first | exact .inl rfl | exact .inr (.inl rfl) | exact .inr (.inr rfl))) da_nil)) de_int rfl)) (de_tup (da_cons (de_op os_add (de_var (i := 8) rfl (by first | exact .inl rfl | exact .inr (.inl rfl) | exact .inr (.inr rfl))) (de_tup (da_cons (de_var (i := 9) rfl (by first | exact .inl rfl | exact .inr (.inl rfl) | exact .inr (.inr rfl))) da_nil))) (da_cons (de_var (i := 10) rfl (by first | exact .inl rfl | exact .inr (.inl rfl) | exact .inr (.inr rfl))) da_nil))))))))
    (ds_cons (ds_expr (de_extT (i := 5) rfl (by first | exact .inl rfl | exact .inr (.inl rfl) | exact .inr (.inr rfl)) (de_lc (own := [("_law_way_here", 8), ("_law_node", 2)]) cx0_ok (di_seq (de_var (i := 7) rfl (by first | exact .inl rfl | exact .inr (.inl rfl) | exact .inr (.inr rfl)))) rfl (dg_tup (dgs_cons (dg_name (i := 8) rfl (by first | exact .inl rfl | exact .inr rfl)) (dgs_cons (dg_name (i := 2) rfl (by first | exact .inl rfl | exact .inr rfl)) dgs_nil))) rfl dts_nil (de_var (i := 8) rfl (by first | exact .inl rfl | exact .inr (.inl rfl) | exact .inr (.inr rfl))))))
    (ds_one (ds_set (i := 6) rfl (by first | exact .inl rfl | exact .inr rfl) (de_var (i := 7) rfl (by first | exact .inl rfl | exact .inr (.inl rfl) | exact .inr (.inr rfl)))))))))
    (ds_one (ds_ret (de_var (i := 5) rfl (by first | exact .inl rfl | exact .inr (.inl rfl) | exact .inr (.inr rfl))))))))) (by decide)
theorem bd_ways {K : PySem.W.Frag} {f : Addr} {fd : FuncData} (Fn : Fun K "_law_ways" "_law_ways" s_ways f fd) : Binds K fd ["_law_tree_here"] [] := Fn.binds (ps := ["_law_tree_here"]) fun _ _ _ _ _ _ us hl => match us, hl with | [_], _ => rfl
theorem cal_ways {g : Gx} {k : Nat} {W : FSpec} (m_len : g.mg "len" = none) (m_dict : g.mg "dict" = none) (h : Got g "_law_ways" s_ways) (im : ∀ ss Ex P, W ss Ex P → fnW 1 11 w_ways ss Ex P) : Cal g CX0 (k + 1) "_law_ways" ["_law_tree_here"] W := by
  obtain ⟨f, fd, m, F⟩ := h
  exact Cal.imp ⟨f, fd, df_ways    m_len m_dict   F, m, F.kp, bd_ways F⟩ im
theorem sc_way : FnScope ["_law_source_here", "_law_ways_here", "_law_is_named", "_law_way_here"] ["_law_source_here", "_law_ways_here", "_law_is_named"] (defScope s_way) := ⟨rfl, rfl, rfl, by decide +kernel, rfl, by decide +kernel, by decide +kernel⟩
@[irreducible] def t_way_1 (C_pick : FSpec) : WS := (wRet (wVar 3))
@[irreducible] def t_way_2 (C_pick : FSpec) : WS := (wSet 3 (wOp addF (wVar 3) (wTup (wCons (wOp idxF (wLst (wCons (wC (.str "a")) (wCons (wC (.str "ab")) (wCons (wC (.str "b")) (wCons (wC (.str "c")) (wCons (wC (.str "x")) (wCons (wC (.str "z")) wNil))))))) (wCall 2 C_pick [true, false] (wCons (wVar 0) (wCons (wC (.int 6)) wNil)))) wNil))))
@[irreducible] def t_way_3 (C_pick : FSpec) : WS := wSeq (wIfS (wOr (wAnd (wB (wOp eqF (wCall 2 C_pick [true, false] (wCons (wVar 0) (wCons (wC (.int 2)) wNil))) (wC (.int 0)))) (wB (wOp ltU (wCB lenX (wCons (wVar 3) wNil)) (wC (.int 4))))) (wAnd (wTru (wVar 2)) (wB (wOp eqF (wVar 3) (wTup wNil)))))
    (t_way_2 C_pick) wNext)
    (t_way_1 C_pick)
@[irreducible] def t_way_4 (C_pick : FSpec) : WS := wSeq (wSet 3 (wOp idxF (wVar 1) (wCall 2 C_pick [true, false] (wCons (wVar 0) (wCons (wCB lenX (wCons (wVar 1) wNil)) wNil)))))
    (t_way_3 C_pick)
def w_way (C_pick : FSpec) : WS := (wSeq (wSet 3 (wOp idxF (wVar 1) (wCall 2 C_pick [true, false] (wCons (wVar 0) (wCons (wCB lenX (wCons (wVar 1) wNil)) wNil)))))
    (wSeq (wIfS (wOr (wAnd (wB (wOp eqF (wCall 2 C_pick [true, false] (wCons (wVar 0) (wCons (wC (.int 2)) wNil))) (wC (.int 0)))) (wB (wOp ltU (wCB lenX (wCons (wVar 3) wNil)) (wC (.int 4))))) (wAnd (wTru (wVar 2)) (wB (wOp eqF (wVar 3) (wTup wNil)))))
    ((wSet 3 (wOp addF (wVar 3) (wTup (wCons (wOp idxF (wLst (wCons (wC (.str "a")) (wCons (wC (.str "ab")) (wCons (wC (.str "b")) (wCons (wC (.str "c")) (wCons (wC (.str "x")) (wCons (wC (.str "z")) wNil))))))) (wCall 2 C_pick [true, false] (wCons (wVar 0) (wCons (wC (.int 6)) wNil)))) wNil))))) wNext)
    ((wRet (wVar 3)))))
theorem w_way_eq (C_pick : FSpec) : w_way C_pick = (t_way_4 C_pick) := by with_unfolding_all rfl
theorem df_way {g : Gx} {k : Nat} {C_pick : FSpec} (mono_pick : FMono C_pick) (c_pick : Cal g CX0 k "_law_pick" ["_law_source_here", "_law_many"] C_pick) (m_len : g.mg "len" = none) {f : Addr} {fd : FuncData} (Fn : Fun g.K "_law_way" "_law_way" s_way f fd) : FnG g CX0 (k + 1) f fd ["_law_source_here", "_law_ways_here", "_law_is_named"] (spOf g.K 3 (fnW 3 4 (w_way C_pick))) :=
  fn_dl (N := ["_law_source_here", "_law_ways_here", "_law_is_named", "_law_way_here"]) Fn sc_way (fun E => (ds_cons (ds_set (i := 3) rfl (by first | exact .inl rfl | exact .inr rfl) (de_ix (de_var (i := 1) rfl (by first | exact .inl rfl | exact .inr (.inl rfl) | exact .inr (.inr rfl))) (de_cal (ms := [true, false]) c_pick mono_pick rfl (da_cons (de_var (i := 0) rfl (by first | exact .inl rfl | exact .inr (.inl rfl) | exact .inr (.inr rfl))) (da_cons (de_callB cs_lenX rfl m_len rfl (da_cons (de_var (i := 1) rfl (by first | exact .inl rfl | exact .inr (.inl rfl) | exact .inr (.inr rfl))) da_nil)) da_nil)))))
    (ds_cons (ds_if (dt_w (dw_or (dt_w (dw_and (dt_cmp os_eq (de_cal (ms := [true, false]) c_pick mono_pick rfl (da_cons (de_var (i := 0) rfl (by first | exact .inl rfl | exact .inr (.inl rfl) | exact .inr (.inr rfl))) (da_cons de_int da_nil))) de_int rfl) (dw_and1 (dt_cmp os_ltU (de_callB cs_lenX rfl m_len rfl (da_cons (de_var (i := 3) rfl (by first | exact .inl rfl | exact .inr (.inl rfl) | exact .inr (.inr rfl))) da_nil)) de_int rfl)))) (dw_or1 (dt_w (dw_and (dt_tru (de_var (i := 2) rfl (by first | exact .inl rfl | exact .inr (.inl rfl) | exact .inr (.inr rfl))) (fun _ _ => rfl)) (dw_and1 (dt_cmp os_eq (de_var (i := 3) rfl (by first | exact .inl rfl | exact .inr (.inl rfl) | exact .inr (.inr rfl))) (de_tup da_nil) rfl)))))))
    (ds_one (ds_set (i := 3) rfl (by first | exact .inl rfl | exact .inr rfl) (de_op os_add (de_var (i := 3) rfl (by first | exact .inl rfl | exact .inr (.inl rfl) | exact .inr (.inr rfl))) (de_tup (da_cons (de_ix (de_lst (da_cons de_str (da_cons de_str (da_cons de_str (da_cons de_str (da_cons de_str (da_cons de_str da_nil))))))) (de_cal (ms := [true, false]) c_pick mono_pick rfl (da_cons (de_var (i := 0) rfl (by first | exact .inl rfl | exact .inr (.inl rfl) | exact .inr (.inr rfl))) (da_cons de_int da_nil)))) da_nil))))) ds_nil)
    (ds_one (ds_ret (de_var (i := 3) rfl (by first | exact .inl rfl | exact .inr (.inl rfl) | exact .inr (.inr rfl)))))))) (by decide)
theorem bd_way {K : PySem.W.Frag} {f : Addr} {fd : FuncData} (Fn : Fun K "_law_way" "_law_way" s_way f fd) : Binds K fd ["_law_source_here", "_law_ways_here", "_law_is_named"] [] := Fn.binds (ps := ["_law_source_here", "_law_ways_here", "_law_is_named"]) fun _ _ _ _ _ _ us hl => match us, hl with | [_, _, _], _ => rfl
theorem cal_way {g : Gx} {k : Nat} {C_pick : FSpec} {W : FSpec} (mono_pick : FMono C_pick) (c_pick : Cal g CX0 k "_law_pick" ["_law_source_here", "_law_many"] C_pick) (m_len : g.mg "len" = none) (h : Got g "_law_way" s_way) (im : ∀ ss Ex P, W ss Ex P → fnW 3 4 (w_way C_pick) ss Ex P) : Cal g CX0 (k + 1) "_law_way" ["_law_source_here", "_law_ways_here", "_law_is_named"] W := by
  obtain ⟨f, fd, m, F⟩ := h
  exact Cal.imp ⟨f, fd, df_way mono_pick c_pick   m_len   F, m, F.kp, bd_way F⟩ im
theorem sc_deed : FnScope ["_law_source_here", "_law_ways_here", "_law_word", "_law_way_here"] ["_law_source_here", "_law_ways_here"] (defScope s_deed) := ⟨rfl, rfl, rfl, by decide +kernel, rfl, by decide +kernel, by decide +kernel⟩
@[irreducible] def t_deed_1 (C_way C_pick : FSpec) : WS := (wRet (wTup (wCons (wVar 2) (wCons (wVar 3) (wCons (wCall 3 C_way [true, false, false] (wCons (wVar 0) (wCons (wVar 1) (wCons (wC (.bool true)) wNil)))) wNil)))))
@[irreducible] def t_deed_2 (C_way C_pick : FSpec) : WS := (wRet (wTup (wCons (wVar 2) (wCons (wVar 3) (wCons (wOp idxF (wLst (wCons (wC (.str "drawer")) (wCons (wC (.str "sheet")) wNil))) (wCall 2 C_pick [true, false] (wCons (wVar 0) (wCons (wC (.int 2)) wNil)))) wNil)))))
@[irreducible] def t_deed_3 (C_way C_pick : FSpec) : WS := wSeq (wIfS (wB (wOp eqF (wVar 2) (wC (.str "make"))))
    (t_deed_2 C_way C_pick) wNext)
    (t_deed_1 C_way C_pick)
@[irreducible] def t_deed_4 (C_way C_pick : FSpec) : WS := (wRet (wTup (wCons (wVar 2) (wCons (wVar 3) wNil))))
@[irreducible] def t_deed_5 (C_way C_pick : FSpec) : WS := wSeq (wIfS (wB (wOp (inT false) (wVar 2) (wTup (wCons (wC (.str "look")) (wCons (wC (.str "list")) (wCons (wC (.str "drop")) wNil))))))
    (t_deed_4 C_way C_pick) wNext)
    (t_deed_3 C_way C_pick)
@[irreducible] def t_deed_6 (C_way C_pick : FSpec) : WS := wSeq (wSet 3 (wCall 3 C_way [true, false, false] (wCons (wVar 0) (wCons (wVar 1) (wCons (wOp (inT true) (wVar 2) (wTup (wCons (wC (.str "look")) (wCons (wC (.str "list")) wNil)))) wNil)))))
    (t_deed_5 C_way C_pick)
@[irreducible] def t_deed_7 (C_way C_pick : FSpec) : WS := wSeq (wSet 2 (wOp idxF (wLst (wCons (wC (.str "look")) (wCons (wC (.str "list")) (wCons (wC (.str "make")) (wCons (wC (.str "make")) (wCons (wC (.str "drop")) (wCons (wC (.str "drop")) (wCons (wC (.str "link")) (wCons (wC (.str "move")) (wCons (wC (.str "move")) (wCons (wC (.str "swap")) wNil))))))))))) (wCall 2 C_pick [true, false] (wCons (wVar 0) (wCons (wC (.int 10)) wNil)))))
    (t_deed_6 C_way C_pick)
def w_deed (C_way C_pick : FSpec) : WS := (wSeq (wSet 2 (wOp idxF (wLst (wCons (wC (.str "look")) (wCons (wC (.str "list")) (wCons (wC (.str "make")) (wCons (wC (.str "make")) (wCons (wC (.str "drop")) (wCons (wC (.str "drop")) (wCons (wC (.str "link")) (wCons (wC (.str "move")) (wCons (wC (.str "move")) (wCons (wC (.str "swap")) wNil))))))))))) (wCall 2 C_pick [true, false] (wCons (wVar 0) (wCons (wC (.int 10)) wNil)))))
    (wSeq (wSet 3 (wCall 3 C_way [true, false, false] (wCons (wVar 0) (wCons (wVar 1) (wCons (wOp (inT true) (wVar 2) (wTup (wCons (wC (.str "look")) (wCons (wC (.str "list")) wNil)))) wNil)))))
    (wSeq (wIfS (wB (wOp (inT false) (wVar 2) (wTup (wCons (wC (.str "look")) (wCons (wC (.str "list")) (wCons (wC (.str "drop")) wNil))))))
    ((wRet (wTup (wCons (wVar 2) (wCons (wVar 3) wNil))))) wNext)
    (wSeq (wIfS (wB (wOp eqF (wVar 2) (wC (.str "make"))))
    ((wRet (wTup (wCons (wVar 2) (wCons (wVar 3) (wCons (wOp idxF (wLst (wCons (wC (.str "drawer")) (wCons (wC (.str "sheet")) wNil))) (wCall 2 C_pick [true, false] (wCons (wVar 0) (wCons (wC (.int 2)) wNil)))) wNil)))))) wNext)
    ((wRet (wTup (wCons (wVar 2) (wCons (wVar 3) (wCons (wCall 3 C_way [true, false, false] (wCons (wVar 0) (wCons (wVar 1) (wCons (wC (.bool true)) wNil)))) wNil))))))))))
theorem w_deed_eq (C_way C_pick : FSpec) : w_deed C_way C_pick = (t_deed_7 C_way C_pick) := by with_unfolding_all rfl
theorem df_deed {g : Gx} {k : Nat} {C_way C_pick : FSpec} (mono_way : FMono C_way) (c_way : Cal g CX0 k "_law_way" ["_law_source_here", "_law_ways_here", "_law_is_named"] C_way) (mono_pick : FMono C_pick) (c_pick : Cal g CX0 k "_law_pick" ["_law_source_here", "_law_many"] C_pick) {f : Addr} {fd : FuncData} (Fn : Fun g.K "_law_deed" "_law_deed" s_deed f fd) : FnG g CX0 (k + 1) f fd ["_law_source_here", "_law_ways_here"] (spOf g.K 2 (fnW 2 4 (w_deed C_way C_pick))) :=
  fn_dl (N := ["_law_source_here", "_law_ways_here", "_law_word", "_law_way_here"]) Fn sc_deed (fun E => (ds_cons (ds_set (i := 2) rfl (by first | exact .inl rfl | exact .inr rfl) (de_ix (de_lst (da_cons de_str (da_cons de_str (da_cons de_str (da_cons de_str (da_cons de_str (da_cons de_str (da_cons de_str (da_cons de_str (da_cons de_str (da_cons de_str da_nil))))))))))) (de_cal (ms := [true, false]) c_pick mono_pick rfl (da_cons (de_var (i := 0) rfl (by first | exact .inl rfl | exact .inr (.inl rfl) | exact .inr (.inr rfl))) (da_cons de_int da_nil)))))
    (ds_cons (ds_set (i := 3) rfl (by first | exact .inl rfl | exact .inr rfl) (de_cal (ms := [true, false, false]) c_way mono_way rfl (da_cons (de_var (i := 0) rfl (by first | exact .inl rfl | exact .inr (.inl rfl) | exact .inr (.inr rfl))) (da_cons (de_var (i := 1) rfl (by first | exact .inl rfl | exact .inr (.inl rfl) | exact .inr (.inr rfl))) (da_cons (de_cmp os_notinT (de_var (i := 2) rfl (by first | exact .inl rfl | exact .inr (.inl rfl) | exact .inr (.inr rfl))) (de_tup (da_cons de_str (da_cons de_str da_nil))) rfl) da_nil)))))
    (ds_cons (ds_if (dt_cmp os_inT (de_var (i := 2) rfl (by first | exact .inl rfl | exact .inr (.inl rfl) | exact .inr (.inr rfl))) (de_tup (da_cons de_str (da_cons de_str (da_cons de_str da_nil)))) rfl)
    (ds_one (ds_ret (de_tup (da_cons (de_var (i := 2) rfl (by first | exact .inl rfl | exact .inr (.inl rfl) | exact .inr (.inr rfl))) (da_cons (de_var (i := 3) rfl (by first | exact .inl rfl | exact .inr (.inl rfl) | exact .inr (.inr rfl))) da_nil))))) ds_nil)
    (ds_cons (ds_if (dt_cmp os_eq (de_var (i := 2) rfl (by first | exact .inl rfl | exact .inr (.inl rfl) | exact .inr (.inr rfl))) de_str rfl)
    (ds_one (ds_ret (de_tup (da_cons (de_var (i := 2) rfl (by first | exact .inl rfl | exact .inr (.inl rfl) | exact .inr (.inr rfl))) (da_cons (de_var (i := 3) rfl (by first | exact .inl rfl | exact .inr (.inl rfl) | exact .inr (.inr rfl))) (da_cons (de_ix (de_lst (da_cons de_str (da_cons de_str da_nil))) (de_cal (ms := [true, false]) c_pick mono_pick rfl (da_cons (de_var (i := 0) rfl (by first | exact .inl rfl | exact .inr (.inl rfl) | exact .inr (.inr rfl))) (da_cons de_int da_nil)))) da_nil)))))) ds_nil)
    (ds_one (ds_ret (de_tup (da_cons (de_var (i := 2) rfl (by first | exact .inl rfl | exact .inr (.inl rfl) | exact .inr (.inr rfl))) (da_cons (de_var (i := 3) rfl (by first | exact .inl rfl | exact .inr (.inl rfl) | exact .inr (.inr rfl))) (da_cons (de_cal (ms := [true, false, false]) c_way mono_way rfl (da_cons (de_var (i := 0) rfl (by first | exact .inl rfl | exact .inr (.inl rfl) | exact .inr (.inr rfl))) (da_cons (de_var (i := 1) rfl (by first | exact .inl rfl | exact .inr (.inl rfl) | exact .inr (.inr rfl))) (da_cons de_bl da_nil)))) da_nil))))))))))) (by decide)
theorem bd_deed {K : PySem.W.Frag} {f : Addr} {fd : FuncData} (Fn : Fun K "_law_deed" "_law_deed" s_deed f fd) : Binds K fd ["_law_source_here", "_law_ways_here"] [] := Fn.binds (ps := ["_law_source_here", "_law_ways_here"]) fun _ _ _ _ _ _ us hl => match us, hl with | [_, _], _ => rfl
theorem cal_deed {g : Gx} {k : Nat} {C_way C_pick : FSpec} {W : FSpec} (mono_way : FMono C_way) (c_way : Cal g CX0 k "_law_way" ["_law_source_here", "_law_ways_here", "_law_is_named"] C_way) (mono_pick : FMono C_pick) (c_pick : Cal g CX0 k "_law_pick" ["_law_source_here", "_law_many"] C_pick) (h : Got g "_law_deed" s_deed) (im : ∀ ss Ex P, W ss Ex P → fnW 2 4 (w_deed C_way C_pick) ss Ex P) : Cal g CX0 (k + 1) "_law_deed" ["_law_source_here", "_law_ways_here"] W := by
  obtain ⟨f, fd, m, F⟩ := h
  exact Cal.imp ⟨f, fd, df_deed mono_way c_way mono_pick c_pick      F, m, F.kp, bd_deed F⟩ im
theorem sc_hands : FnScope ["_law_source_here", "_law_tree_here", "_law_hands_here", "_law_deeds", "_law_ways_here", "_law_found", "_law_hand", "_law_k", "_law_own"] ["_law_source_here", "_law_tree_here", "_law_hands_here", "_law_deeds"] (defScope s_hands) := ⟨rfl, rfl, rfl, by decide +kernel, rfl, by decide +kernel, by decide +kernel⟩
@[irreducible] def t_hands_1 (C_pick C_deed C_ways : FSpec) : WS := (wFrzS 5 (wRet (wCB tupleF (wCons (wLc (wIt (wVar 5)) (gN 8) wYes (wCB tupleF (wCons (wVar 8) wNil)) [8]) wNil))))
@[irreducible] def t_hands_2 (C_pick C_deed C_ways : FSpec) : WS := (wDrop (wAppO 8 (wCall 2 C_deed [true, false] (wCons (wVar 0) (wCons (wVar 4) wNil)))))
@[irreducible] def t_hands_3 (C_pick C_deed C_ways : FSpec) : WS := (wIfS (wB (wOp ltU (wCB lenX (wCons (wVar 8) wNil)) (wC (.int 3))))
    (t_hands_2 C_pick C_deed C_ways) wNext)
@[irreducible] def t_hands_4 (C_pick C_deed C_ways : FSpec) : WS := wSeq (wSet 8 (wIxO (wVar 5) (wCall 2 C_pick [true, false] (wCons (wVar 0) (wCons (wCB lenX (wCons (wVar 5) wNil)) wNil)))))
    (t_hands_3 C_pick C_deed C_ways)
@[irreducible] def t_hands_5 (C_pick C_deed C_ways : FSpec) : WS := wSeq (wFor (wRng (wCons (wCall 2 C_pick [true, false] (wCons (wVar 0) (wCons (wOp addF (wVar 3) (wC (.int 1))) wNil))) wNil) rng1) (gN 7)
    (t_hands_4 C_pick C_deed C_ways))
    (t_hands_1 C_pick C_deed C_ways)
@[irreducible] def t_hands_6 (C_pick C_deed C_ways : FSpec) : WS := wSeq (wSet 5 (wLcE (wRng (wCons (wOp addF (wC (.int 1)) (wCall 2 C_pick [true, false] (wCons (wVar 0) (wCons (wVar 2) wNil)))) wNil) rng1) (gN 6) [6]))
    (t_hands_5 C_pick C_deed C_ways)
@[irreducible] def t_hands_7 (C_pick C_deed C_ways : FSpec) : WS := wSeq (wSet 4 (wCall 1 C_ways [false] (wCons (wVar 1) wNil)))
    (t_hands_6 C_pick C_deed C_ways)
def w_hands (C_pick C_deed C_ways : FSpec) : WS := (wSeq (wSet 4 (wCall 1 C_ways [false] (wCons (wVar 1) wNil)))
    (wSeq (wSet 5 (wLcE (wRng (wCons (wOp addF (wC (.int 1)) (wCall 2 C_pick [true, false] (wCons (wVar 0) (wCons (wVar 2) wNil)))) wNil) rng1) (gN 6) [6]))
    (wSeq (wFor (wRng (wCons (wCall 2 C_pick [true, false] (wCons (wVar 0) (wCons (wOp addF (wVar 3) (wC (.int 1))) wNil))) wNil) rng1) (gN 7)
    (wSeq (wSet 8 (wIxO (wVar 5) (wCall 2 C_pick [true, false] (wCons (wVar 0) (wCons (wCB lenX (wCons (wVar 5) wNil)) wNil)))))
    ((wIfS (wB (wOp ltU (wCB lenX (wCons (wVar 8) wNil)) (wC (.int 3))))
    ((wDrop (wAppO 8 (wCall 2 C_deed [true, false] (wCons (wVar 0) (wCons (wVar 4) wNil)))))) wNext))))
    ((wFrzS 5 (wRet (wCB tupleF (wCons (wLc (wIt (wVar 5)) (gN 8) wYes (wCB tupleF (wCons (wVar 8) wNil)) [8]) wNil))))))))
theorem w_hands_eq (C_pick C_deed C_ways : FSpec) : w_hands C_pick C_deed C_ways = (t_hands_7 C_pick C_deed C_ways) := by with_unfolding_all rfl
theorem df_hands {g : Gx} {k : Nat} {C_pick C_deed C_ways : FSpec} (mono_pick : FMono C_pick) (c_pick : Cal g CX0 k "_law_pick" ["_law_source_here", "_law_many"] C_pick) (mono_deed : FMono C_deed) (c_deed : Cal g CX0 k "_law_deed" ["_law_source_here", "_law_ways_here"] C_deed) (mono_ways : FMono C_ways) (c_ways : Cal g CX0 k "_law_ways" ["_law_tree_here"] C_ways) (m_tuple : g.mg "tuple" = none) (m_range : g.mg "range" = none) (m_len : g.mg "len" = none) {f : Addr} {fd : FuncData} (Fn : Fun g.K "_law_hands" "_law_hands" s_hands f fd) : FnG g CX0 (k + 1) f fd ["_law_source_here", "_law_tree_here", "_law_hands_here", "_law_deeds"] (spOf g.K 4 (fnW 4 9 (w_hands C_pick C_deed C_ways))) :=
  fn_dl (N := ["_law_source_here", "_law_tree_here", "_law_hands_here", "_law_deeds", "_law_ways_here", "_law_found", "_law_hand", "_law_k", "_law_own"]) Fn sc_hands (fun E => (ds_cons (ds_set (i := 4) rfl (by first | exact .inl rfl | exact .inr rfl) (de_cal (ms := [false]) c_ways mono_ways rfl (da_cons (de_var (i := 1) rfl (by first | exact .inl rfl | exact .inr (.inl rfl) | exact .inr (.inr rfl))) da_nil)))
    (ds_cons (ds_setLcE (own := [("_law_hand", 6)]) (i := 5) cx0_ok rfl rfl rfl rfl rfl (di_rng1 rfl m_range (da_cons (de_op os_add de_int (de_cal (ms := [true, false]) c_pick mono_pick rfl (da_cons (de_var (i := 0) rfl (by first | exact .inl rfl | exact .inr (.inl rfl) | exact .inr (.inr rfl))) (da_cons (de_var (i := 2) rfl (by first | exact .inl rfl | exact .inr (.inl rfl) | exact .inr (.inr rfl))) da_nil)))) da_nil)) rfl (dg_name (i := 6) rfl (by first | exact .inl rfl | exact .inr rfl)) rfl)
    (ds_cons (ds_for (di_rng1 rfl m_range (da_cons (de_cal (ms := [true, false]) c_pick mono_pick rfl (da_cons (de_var (i := 0) rfl (by first | exact .inl rfl | exact .inr (.inl rfl) | exact .inr (.inr rfl))) (da_cons (de_op os_add (de_var (i := 3) rfl (by first | exact .inl rfl | exact .inr (.inl rfl) | exact .inr (.inr rfl))) de_int) da_nil))) da_nil)) (dg_name (i := 7) rfl (by first | exact .inl rfl | exact .inr rfl))
    (ds_cons (ds_set (i := 8) rfl (by first | exact .inl rfl | exact .inr rfl) (de_ixO (de_var (i := 5) rfl (by first | exact .inl rfl | exact .inr (.inl rfl) | exact .inr (.inr rfl))) (de_cal (ms := [true, false]) c_pick mono_pick rfl (da_cons (de_var (i := 0) rfl (by first | exact .inl rfl | exact .inr (.inl rfl) | exact .inr (.inr rfl))) (da_cons (de_callB cs_lenX rfl m_len rfl (da_cons (de_var (i := 5) rfl (by first | exact .inl rfl | exact .inr (.inl rfl) | exact .inr (.inr rfl))) da_nil)) da_nil)))))
    (ds_one (ds_if (dt_cmp os_ltU (de_callB cs_lenX rfl m_len rfl (da_cons (de_var (i := 8) rfl (by first | exact .inl rfl | exact .inr (.inl rfl) | exact .inr (.inr rfl))) da_nil)) de_int rfl)
    (ds_one (ds_expr (de_appO (i := 8) rfl (by first | exact .inl rfl | exact .inr (.inl rfl) | exact .inr (.inr rfl)) (de_cal (ms := [true, false]) c_deed mono_deed rfl (da_cons (de_var (i := 0) rfl (by first | exact .inl rfl | exact .inr (.inl rfl) | exact .inr (.inr rfl))) (da_cons (de_var (i := 4) rfl (by first | exact .inl rfl | exact .inr (.inl rfl) | exact .inr (.inr rfl))) da_nil)))))) ds_nil))))
    (ds_one (ds_frzS (i := 5) (ds_ret (de_callT cs_tuple rfl m_tuple rfl (da_cons (de_lc (own := [("_law_own", 8)]) cx0_ok (di_seq (de_var (i := 5) rfl (by first | exact .inl rfl | exact .inr (.inl rfl) | exact .inr (.inr rfl)))) rfl (dg_name (i := 8) rfl (by first | exact .inl rfl | exact .inr rfl)) rfl dts_nil (de_callT cs_tuple rfl m_tuple rfl (da_cons (de_var (i := 8) rfl (by first | exact .inl rfl | exact .inr (.inl rfl) | exact .inr (.inr rfl))) da_nil))) da_nil))))))))) (by decide)
theorem bd_hands {K : PySem.W.Frag} {f : Addr} {fd : FuncData} (Fn : Fun K "_law_hands" "_law_hands" s_hands f fd) : Binds K fd ["_law_source_here", "_law_tree_here", "_law_hands_here", "_law_deeds"] [] := Fn.binds (ps := ["_law_source_here", "_law_tree_here", "_law_hands_here", "_law_deeds"]) fun _ _ _ _ _ _ us hl => match us, hl with | [_, _, _, _], _ => rfl
theorem cal_hands {g : Gx} {k : Nat} {C_pick C_deed C_ways : FSpec} {W : FSpec} (mono_pick : FMono C_pick) (c_pick : Cal g CX0 k "_law_pick" ["_law_source_here", "_law_many"] C_pick) (mono_deed : FMono C_deed) (c_deed : Cal g CX0 k "_law_deed" ["_law_source_here", "_law_ways_here"] C_deed) (mono_ways : FMono C_ways) (c_ways : Cal g CX0 k "_law_ways" ["_law_tree_here"] C_ways) (m_tuple : g.mg "tuple" = none) (m_range : g.mg "range" = none) (m_len : g.mg "len" = none) (h : Got g "_law_hands" s_hands) (im : ∀ ss Ex P, W ss Ex P → fnW 4 9 (w_hands C_pick C_deed C_ways) ss Ex P) : Cal g CX0 (k + 1) "_law_hands" ["_law_source_here", "_law_tree_here", "_law_hands_here", "_law_deeds"] W := by
  obtain ⟨f, fd, m, F⟩ := h
  exact Cal.imp ⟨f, fd, df_hands mono_pick c_pick mono_deed c_deed mono_ways c_ways   m_tuple m_range m_len   F, m, F.kp, bd_hands F⟩ im
theorem sc_spans : FnScope ["_law_source_here", "_law_hands_here", "_law_found", "_law_hand", "_law_own", "_law_at", "_law_many", "_law_k", "_law_end"] ["_law_source_here", "_law_hands_here"] (defScope s_spans) := ⟨rfl, rfl, rfl, by decide +kernel, rfl, by decide +kernel, by decide +kernel⟩
@[irreducible] def t_spans_1 (C_pick : FSpec) : WS := (wRet (wCB tupleF (wCons (wVar 2) wNil)))
@[irreducible] def t_spans_2 (C_pick : FSpec) : WS := (wSet 5 (wOp addF (wOp addF (wVar 8) (wC (.int 1))) (wCall 2 C_pick [true, false] (wCons (wVar 0) (wCons (wC (.int 3)) wNil)))))
@[irreducible] def t_spans_3 (C_pick : FSpec) : WS := wSeq (wDrop (wApp 2 (wTup (wCons (wTup (wCons (wVar 3) (wCons (wVar 7) wNil))) (wCons (wVar 5) (wCons (wVar 8) wNil))))))
    (t_spans_2 C_pick)
@[irreducible] def t_spans_4 (C_pick : FSpec) : WS := wSeq (wSet 8 (wOp addF (wVar 5) (wOp idxF (wLst (wCons (wC (.int 0)) (wCons (wC (.int 2)) (wCons (wC (.int 5)) (wCons (wC (.int 9)) (wCons (wC (.int 120)) wNil)))))) (wCall 2 C_pick [true, false] (wCons (wVar 0) (wCons (wC (.int 5)) wNil))))))
    (t_spans_3 C_pick)
@[irreducible] def t_spans_5 (C_pick : FSpec) : WS := (wFor (wRng (wCons (wVar 6) wNil) rng1) (gN 7)
    (t_spans_4 C_pick))
@[irreducible] def x_spans_6 (C_pick : FSpec) : WE := wIf (wB (wOp gtU (wCall 2 C_pick [true, false] (wCons (wVar 0) (wCons (wC (.int 4)) wNil))) (wC (.int 0)))) (wCB lenX (wCons (wVar 4) wNil)) (wCall 2 C_pick [true, false] (wCons (wVar 0) (wCons (wOp addF (wCB lenX (wCons (wVar 4) wNil)) (wC (.int 1))) wNil)))
@[irreducible] def t_spans_7 (C_pick : FSpec) : WS := wSeq (wSet 6 (x_spans_6 C_pick))
    (t_spans_5 C_pick)
@[irreducible] def t_spans_8 (C_pick : FSpec) : WS := wSeq (wSet 5 (wCall 2 C_pick [true, false] (wCons (wVar 0) (wCons (wC (.int 5)) wNil))))
    (t_spans_7 C_pick)
@[irreducible] def t_spans_9 (C_pick : FSpec) : WS := wSeq (wFor (wEnumW (wCons (wVar 1) wNil)) (gT 2 (gsC (gN 3) (gsC (gN 4) gsN)))
    (t_spans_8 C_pick))
    (t_spans_1 C_pick)
@[irreducible] def t_spans_10 (C_pick : FSpec) : WS := wSeq (wSet 2 (wLst wNil))
    (t_spans_9 C_pick)
def w_spans (C_pick : FSpec) : WS := (wSeq (wSet 2 (wLst wNil))
    (wSeq (wFor (wEnumW (wCons (wVar 1) wNil)) (gT 2 (gsC (gN 3) (gsC (gN 4) gsN)))
    (wSeq (wSet 5 (wCall 2 C_pick [true, false] (wCons (wVar 0) (wCons (wC (.int 5)) wNil))))
    (wSeq (wSet 6 (wIf (wB (wOp gtU (wCall 2 C_pick [true, false] (wCons (wVar 0) (wCons (wC (.int 4)) wNil))) (wC (.int 0)))) (wCB lenX (wCons (wVar 4) wNil)) (wCall 2 C_pick [true, false] (wCons (wVar 0) (wCons (wOp addF (wCB lenX (wCons (wVar 4) wNil)) (wC (.int 1))) wNil)))))
    ((wFor (wRng (wCons (wVar 6) wNil) rng1) (gN 7)
    (wSeq (wSet 8 (wOp addF (wVar 5) (wOp idxF (wLst (wCons (wC (.int 0)) (wCons (wC (.int 2)) (wCons (wC (.int 5)) (wCons (wC (.int 9)) (wCons (wC (.int 120)) wNil)))))) (wCall 2 C_pick [true, false] (wCons (wVar 0) (wCons (wC (.int 5)) wNil))))))
    (wSeq (wDrop (wApp 2 (wTup (wCons (wTup (wCons (wVar 3) (wCons (wVar 7) wNil))) (wCons (wVar 5) (wCons (wVar 8) wNil))))))
    ((wSet 5 (wOp addF (wOp addF (wVar 8) (wC (.int 1))) (wCall 2 C_pick [true, false] (wCons (wVar 0) (wCons (wC (.int 3)) wNil)))))))))))))
    ((wRet (wCB tupleF (wCons (wVar 2) wNil))))))
theorem w_spans_eq (C_pick : FSpec) : w_spans C_pick = (t_spans_10 C_pick) := by with_unfolding_all rfl
theorem df_spans {g : Gx} {k : Nat} {C_pick : FSpec} (mono_pick : FMono C_pick) (c_pick : Cal g CX0 k "_law_pick" ["_law_source_here", "_law_many"] C_pick) (m_tuple : g.mg "tuple" = none) (m_enumerate : g.mg "enumerate" = none) (m_range : g.mg "range" = none) (m_len : g.mg "len" = none) {f : Addr} {fd : FuncData} (Fn : Fun g.K "_law_spans" "_law_spans" s_spans f fd) : FnG g CX0 (k + 1) f fd ["_law_source_here", "_law_hands_here"] (spOf g.K 2 (fnW 2 9 (w_spans C_pick))) :=
  fn_dl (N := ["_law_source_here", "_law_hands_here", "_law_found", "_law_hand", "_law_own", "_law_at", "_law_many", "_law_k", "_law_end"]) Fn sc_spans (fun E => (ds_cons (ds_set (i := 2) rfl (by first | exact .inl rfl | exact .inr rfl) (de_lst da_nil))
    (ds_cons (ds_for (di_enumW rfl m_enumerate (da_cons (de_var (i := 1) rfl (by first | exact .inl rfl | exact .inr (.inl rfl) | exact .inr (.inr rfl))) da_nil)) (dg_tup (dgs_cons (dg_name (i := 3) rfl (by first | exact .inl rfl | exact .inr rfl)) (dgs_cons (dg_name (i := 4) rfl (by first | exact .inl rfl | exact .inr rfl)) dgs_nil)))
    (ds_cons (ds_set (i := 5) rfl (by first | exact .inl rfl | exact .inr rfl) (de_cal (ms := [true, false]) c_pick mono_pick rfl (da_cons (de_var (i := 0) rfl (by first | exact .inl rfl | exact .inr (.inl rfl) | exact .inr (.inr rfl))) (da_cons de_int da_nil))))
    (ds_cons (ds_set (i := 6) rfl (by first | exact .inl rfl | exact .inr rfl) (de_ifx (dt_cmp os_gtU (de_cal (ms := [true, false]) c_pick mono_pick rfl (da_cons (de_var (i := 0) rfl (by first | exact .inl rfl | exact .inr (.inl rfl) | exact .inr (.inr rfl))) (da_cons de_int da_nil))) de_int rfl) (de_callB cs_lenX rfl m_len rfl (da_cons (de_var (i := 4) rfl (by first | exact .inl rfl | exact .inr (.inl rfl) | exact .inr (.inr rfl))) da_nil)) (de_cal (ms := [true, false]) c_pick mono_pick rfl (da_cons (de_var (i := 0) rfl (by first | exact .inl rfl | exact .inr (.inl rfl) | exact .inr (.inr rfl))) (da_cons (de_op os_add (de_callB cs_lenX rfl m_len rfl (da_cons (de_var (i := 4) rfl (by first | exact .inl rfl | exact .inr (.inl rfl) | exact .inr (.inr rfl))) da_nil)) de_int) da_nil)))))
    (ds_one (ds_for (di_rng1 rfl m_range (da_cons (de_var (i := 6) rfl (by first | exact .inl rfl | exact .inr (.inl rfl) | exact .inr (.inr rfl))) da_nil)) (dg_name (i := 7) rfl (by first | exact .inl rfl | exact .inr rfl))
    (ds_cons (ds_set (i := 8) rfl (by first | exact .inl rfl | exact .inr rfl) (de_op os_add (de_var (i := 5) rfl (by first | exact .inl rfl | exact .inr (.inl rfl) | exact .inr (.inr rfl))) (de_ix (de_lst (da_cons de_int (da_cons de_int (da_cons de_int (da_cons de_int (da_cons de_int da_nil)))))) (de_cal (ms := [true, false]) c_pick mono_pick rfl (da_cons (de_var (i := 0) rfl (by first | exact .inl rfl | exact .inr (.inl rfl) | exact .inr (.inr rfl))) (da_cons de_int da_nil))))))
    (ds_cons (ds_expr (de_app (i := 2) rfl (by first | exact .inl rfl | exact .inr (.inl rfl) | exact .inr (.inr rfl)) (de_tup (da_cons (de_tup (da_cons (de_var (i := 3) rfl (by first | exact .inl rfl | exact .inr (.inl rfl) | exact .inr (.inr rfl))) (da_cons (de_var (i := 7) rfl (by first | exact .inl rfl | exact .inr (.inl rfl) | exact .inr (.inr rfl))) da_nil))) (da_cons (de_var (i := 5) rfl (by first | exact .inl rfl | exact .inr (.inl rfl) | exact .inr (.inr rfl))) (da_cons (de_var (i := 8) rfl (by first | exact .inl rfl | exact .inr (.inl rfl) | exact .inr (.inr rfl))) da_nil))))))
    (ds_one (ds_set (i := 5) rfl (by first | exact .inl rfl | exact .inr rfl) (de_op os_add (de_op os_add (de_var (i := 8) rfl (by first | exact .inl rfl | exact .inr (.inl rfl) | exact .inr (.inr rfl))) de_int) (de_cal (ms := [true, false]) c_pick mono_pick rfl (da_cons (de_var (i := 0) rfl (by first | exact .inl rfl | exact .inr (.inl rfl) | exact .inr (.inr rfl))) (da_cons de_int da_nil)))))))))))))
    (ds_one (ds_ret (de_callT cs_tuple rfl m_tuple rfl (da_cons (de_var (i := 2) rfl (by first | exact .inl rfl | exact .inr (.inl rfl) | exact .inr (.inr rfl))) da_nil))))))) (by decide)
theorem bd_spans {K : PySem.W.Frag} {f : Addr} {fd : FuncData} (Fn : Fun K "_law_spans" "_law_spans" s_spans f fd) : Binds K fd ["_law_source_here", "_law_hands_here"] [] := Fn.binds (ps := ["_law_source_here", "_law_hands_here"]) fun _ _ _ _ _ _ us hl => match us, hl with | [_, _], _ => rfl
theorem cal_spans {g : Gx} {k : Nat} {C_pick : FSpec} {W : FSpec} (mono_pick : FMono C_pick) (c_pick : Cal g CX0 k "_law_pick" ["_law_source_here", "_law_many"] C_pick) (m_tuple : g.mg "tuple" = none) (m_enumerate : g.mg "enumerate" = none) (m_range : g.mg "range" = none) (m_len : g.mg "len" = none) (h : Got g "_law_spans" s_spans) (im : ∀ ss Ex P, W ss Ex P → fnW 2 9 (w_spans C_pick) ss Ex P) : Cal g CX0 (k + 1) "_law_spans" ["_law_source_here", "_law_hands_here"] W := by
  obtain ⟨f, fd, m, F⟩ := h
  exact Cal.imp ⟨f, fd, df_spans mono_pick c_pick   m_tuple m_enumerate m_range m_len   F, m, F.kp, bd_spans F⟩ im
theorem sc_scene : FnScope ["_law_source_here", "_law_is_great", "_law_tree_here", "_law_hands_here"] ["_law_source_here"] (defScope s_scene) := ⟨rfl, rfl, rfl, by decide +kernel, rfl, by decide +kernel, by decide +kernel⟩
@[irreducible] def t_scene_1 (C_spans C_hands C_tree C_pick : FSpec) : WS := (wRet (wTup (wCons (wVar 2) (wCons (wVar 3) (wCons (wCall 2 C_spans [true, false] (wCons (wVar 0) (wCons (wVar 3) wNil))) wNil)))))
@[irreducible] def x_scene_2 (C_spans C_hands C_tree C_pick : FSpec) : WE := wIf (wTru (wVar 1)) (wC (.int 10)) (wC (.int 4))
@[irreducible] def x_scene_3 (C_spans C_hands C_tree C_pick : FSpec) : WE := wIf (wTru (wVar 1)) (wC (.int 4)) (wC (.int 3))
@[irreducible] def t_scene_4 (C_spans C_hands C_tree C_pick : FSpec) : WS := wSeq (wSet 3 (wCall 4 C_hands [true, false, false, false] (wCons (wVar 0) (wCons (wVar 2) (wCons (x_scene_3 C_spans C_hands C_tree C_pick) (wCons (x_scene_2 C_spans C_hands C_tree C_pick) wNil))))))
    (t_scene_1 C_spans C_hands C_tree C_pick)
@[irreducible] def x_scene_5 (C_spans C_hands C_tree C_pick : FSpec) : WE := wIf (wTru (wVar 1)) (wC (.int 13)) (wC (.int 6))
@[irreducible] def t_scene_6 (C_spans C_hands C_tree C_pick : FSpec) : WS := wSeq (wSet 2 (wCall 2 C_tree [true, false] (wCons (wVar 0) (wCons (x_scene_5 C_spans C_hands C_tree C_pick) wNil))))
    (t_scene_4 C_spans C_hands C_tree C_pick)
@[irreducible] def t_scene_7 (C_spans C_hands C_tree C_pick : FSpec) : WS := wSeq (wSet 1 (wOp eqF (wCall 2 C_pick [true, false] (wCons (wVar 0) (wCons (wC (.int 8)) wNil))) (wC (.int 0))))
    (t_scene_6 C_spans C_hands C_tree C_pick)
def w_scene (C_spans C_hands C_tree C_pick : FSpec) : WS := (wSeq (wSet 1 (wOp eqF (wCall 2 C_pick [true, false] (wCons (wVar 0) (wCons (wC (.int 8)) wNil))) (wC (.int 0))))
    (wSeq (wSet 2 (wCall 2 C_tree [true, false] (wCons (wVar 0) (wCons (wIf (wTru (wVar 1)) (wC (.int 13)) (wC (.int 6))) wNil))))
    (wSeq (wSet 3 (wCall 4 C_hands [true, false, false, false] (wCons (wVar 0) (wCons (wVar 2) (wCons (wIf (wTru (wVar 1)) (wC (.int 4)) (wC (.int 3))) (wCons (wIf (wTru (wVar 1)) (wC (.int 10)) (wC (.int 4))) wNil))))))
    ((wRet (wTup (wCons (wVar 2) (wCons (wVar 3) (wCons (wCall 2 C_spans [true, false] (wCons (wVar 0) (wCons (wVar 3) wNil))) wNil)))))))))
theorem w_scene_eq (C_spans C_hands C_tree C_pick : FSpec) : w_scene C_spans C_hands C_tree C_pick = (t_scene_7 C_spans C_hands C_tree C_pick) := by with_unfolding_all rfl
theorem df_scene {g : Gx} {k : Nat} {C_spans C_hands C_tree C_pick : FSpec} (mono_spans : FMono C_spans) (c_spans : Cal g CX0 k "_law_spans" ["_law_source_here", "_law_hands_here"] C_spans) (mono_hands : FMono C_hands) (c_hands : Cal g CX0 k "_law_hands" ["_law_source_here", "_law_tree_here", "_law_hands_here", "_law_deeds"] C_hands) (mono_tree : FMono C_tree) (c_tree : Cal g CX0 k "_law_tree" ["_law_source_here", "_law_top"] C_tree) (mono_pick : FMono C_pick) (c_pick : Cal g CX0 k "_law_pick" ["_law_source_here", "_law_many"] C_pick) {f : Addr} {fd : FuncData} (Fn : Fun g.K "_law_scene" "_law_scene" s_scene f fd) : FnG g CX0 (k + 1) f fd ["_law_source_here"] (spOf g.K 1 (fnW 1 4 (w_scene C_spans C_hands C_tree C_pick))) :=
  fn_dl (N := ["_law_source_here", "_law_is_great", "_law_tree_here", "_law_hands_here"]) Fn sc_scene (fun E => (ds_cons (ds_set (i := 1) rfl (by first | exact .inl rfl | exact .inr rfl) (de_cmp os_eq (de_cal (ms := [true, false]) c_pick mono_pick rfl (da_cons (de_var (i := 0) rfl (by first | exact .inl rfl | exact .inr (.inl rfl) | exact .inr (.inr rfl))) (da_cons de_int da_nil))) de_int rfl))
    (ds_cons (ds_set (i := 2) rfl (by first | exact .inl rfl | exact .inr rfl) (de_cal (ms := [true, false]) c_tree mono_tree rfl (da_cons (de_var (i := 0) rfl (by first | exact .inl rfl | exact .inr (.inl rfl) | exact .inr (.inr rfl))) (da_cons (de_ifx (dt_tru (de_var (i := 1) rfl (by first | exact .inl rfl | exact .inr (.inl rfl) | exact .inr (.inr rfl))) (fun _ _ => rfl)) de_int de_int) da_nil))))
    (ds_cons (ds_set (i := 3) rfl (by first | exact .inl rfl | exact .inr rfl) (de_cal (ms := [true, false, false, false]) c_hands mono_hands rfl (da_cons (de_var (i := 0) rfl (by first | exact .inl rfl | exact .inr (.inl rfl) | exact .inr (.inr rfl))) (da_cons (de_var (i := 2) rfl (by first | exact .inl rfl | exact .inr (.inl rfl) | exact .inr (.inr rfl))) (da_cons (de_ifx (dt_tru (de_var (i := 1) rfl (by first | exact .inl rfl | exact .inr (.inl rfl) | exact .inr (.inr rfl))) (fun _ _ => rfl)) de_int de_int) (da_cons (de_ifx (dt_tru (de_var (i := 1) rfl (by first | exact .inl rfl | exact .inr (.inl rfl) | exact .inr (.inr rfl))) (fun _ _ => rfl)) de_int de_int) da_nil))))))
    (ds_one (ds_ret (de_tup (da_cons (de_var (i := 2) rfl (by first | exact .inl rfl | exact .inr (.inl rfl) | exact .inr (.inr rfl))) (da_cons (de_var (i := 3) rfl (by first | exact .inl rfl | exact .inr (.inl rfl) | exact .inr (.inr rfl))) (da_cons (de_cal (ms := [true, false]) c_spans mono_spans rfl (da_cons (de_var (i := 0) rfl (by first | exact .inl rfl | exact .inr (.inl rfl) | exact .inr (.inr rfl))) (da_cons (de_var (i := 3) rfl (by first | exact .inl rfl | exact .inr (.inl rfl) | exact .inr (.inr rfl))) da_nil))) da_nil)))))))))) (by decide)
theorem bd_scene {K : PySem.W.Frag} {f : Addr} {fd : FuncData} (Fn : Fun K "_law_scene" "_law_scene" s_scene f fd) : Binds K fd ["_law_source_here"] [] := Fn.binds (ps := ["_law_source_here"]) fun _ _ _ _ _ _ us hl => match us, hl with | [_], _ => rfl
theorem cal_scene {g : Gx} {k : Nat} {C_spans C_hands C_tree C_pick : FSpec} {W : FSpec} (mono_spans : FMono C_spans) (c_spans : Cal g CX0 k "_law_spans" ["_law_source_here", "_law_hands_here"] C_spans) (mono_hands : FMono C_hands) (c_hands : Cal g CX0 k "_law_hands" ["_law_source_here", "_law_tree_here", "_law_hands_here", "_law_deeds"] C_hands) (mono_tree : FMono C_tree) (c_tree : Cal g CX0 k "_law_tree" ["_law_source_here", "_law_top"] C_tree) (mono_pick : FMono C_pick) (c_pick : Cal g CX0 k "_law_pick" ["_law_source_here", "_law_many"] C_pick) (h : Got g "_law_scene" s_scene) (im : ∀ ss Ex P, W ss Ex P → fnW 1 4 (w_scene C_spans C_hands C_tree C_pick) ss Ex P) : Cal g CX0 (k + 1) "_law_scene" ["_law_source_here"] W := by
  obtain ⟨f, fd, m, F⟩ := h
  exact Cal.imp ⟨f, fd, df_scene mono_spans c_spans mono_hands c_hands mono_tree c_tree mono_pick c_pick      F, m, F.kp, bd_scene F⟩ im
theorem sc_lines : FnScope ["_law_tasks", "_law_found", "_law_k", "_law_longer", "_law_line", "_law_ready", "_law_task"] ["_law_tasks"] (defScope s_lines) := ⟨rfl, rfl, rfl, by decide +kernel, rfl, by decide +kernel, by decide +kernel⟩
@[irreducible] def t_lines_1 : WS := (wRet (wVar 1))
@[irreducible] def t_lines_2 : WS := (wSet 1 (wVar 3))
@[irreducible] def t_lines_3 : WS := (wDrop (wExtT 3 (wLc (wIt (wVar 5)) (gN 6) wYes (wOp addF (wVar 4) (wTup (wCons (wVar 6) wNil))) [6])))
@[irreducible] def t_lines_4 : WS := wSeq (wSet 5 (wLc (wIt (wVar 5)) (gN 6) (wOr (wB (wOp eqF (wOp idxF (wVar 6) (wC (.int 1))) (wC (.int 0)))) (wB (wOp (inT false) (wTup (wCons (wOp idxF (wVar 6) (wC (.int 0))) (wCons (wOp subF (wOp idxF (wVar 6) (wC (.int 1))) (wC (.int 1))) wNil))) (wVar 4)))) (wVar 6) [6]))
    (t_lines_3)
@[irreducible] def t_lines_5 : WS := wSeq (wSet 5 (wLc (wIt (wVar 0)) (gN 6) (wB (wOp (inT true) (wVar 6) (wVar 4))) (wVar 6) [6]))
    (t_lines_4)
@[irreducible] def t_lines_6 : WS := wSeq (wFor (wIt (wVar 1)) (gN 4)
    (t_lines_5))
    (t_lines_2)
@[irreducible] def t_lines_7 : WS := wSeq (wSet 3 (wLst wNil))
    (t_lines_6)
@[irreducible] def t_lines_8 : WS := wSeq (wFor (wRng (wCons (wCB lenX (wCons (wVar 0) wNil)) wNil) rng1) (gN 2)
    (t_lines_7))
    (t_lines_1)
@[irreducible] def t_lines_9 : WS := wSeq (wSet 1 (wLst (wCons (wTup wNil) wNil)))
    (t_lines_8)
def w_lines : WS := (wSeq (wSet 1 (wLst (wCons (wTup wNil) wNil)))
    (wSeq (wFor (wRng (wCons (wCB lenX (wCons (wVar 0) wNil)) wNil) rng1) (gN 2)
    (wSeq (wSet 3 (wLst wNil))
    (wSeq (wFor (wIt (wVar 1)) (gN 4)
    (wSeq (wSet 5 (wLc (wIt (wVar 0)) (gN 6) (wB (wOp (inT true) (wVar 6) (wVar 4))) (wVar 6) [6]))
    (wSeq (wSet 5 (wLc (wIt (wVar 5)) (gN 6) (wOr (wB (wOp eqF (wOp idxF (wVar 6) (wC (.int 1))) (wC (.int 0)))) (wB (wOp (inT false) (wTup (wCons (wOp idxF (wVar 6) (wC (.int 0))) (wCons (wOp subF (wOp idxF (wVar 6) (wC (.int 1))) (wC (.int 1))) wNil))) (wVar 4)))) (wVar 6) [6]))
    ((wDrop (wExtT 3 (wLc (wIt (wVar 5)) (gN 6) wYes (wOp addF (wVar 4) (wTup (wCons (wVar 6) wNil))) [6])))))))
    ((wSet 1 (wVar 3))))))
    ((wRet (wVar 1)))))
theorem w_lines_eq : w_lines = (t_lines_9) := by with_unfolding_all rfl
theorem df_lines {g : Gx} {k : Nat} (m_len : g.mg "len" = none) (m_range : g.mg "range" = none) {f : Addr} {fd : FuncData} (Fn : Fun g.K "_law_lines" "_law_lines" s_lines f fd) : FnG g CX0 (k + 1) f fd ["_law_tasks"] (spOf g.K 1 (fnW 1 7 w_lines)) :=
  fn_dl (N := ["_law_tasks", "_law_found", "_law_k", "_law_longer", "_law_line", "_law_ready", "_law_task"]) Fn sc_lines (fun E => (ds_cons (ds_set (i := 1) rfl (by first | exact .inl rfl | exact .inr rfl) (de_lst (da_cons (de_tup da_nil) da_nil)))
    (ds_cons (ds_for (di_rng1 rfl m_range (da_cons (de_callB cs_lenX rfl m_len rfl (da_cons (de_var (i := 0) rfl (by first | exact .inl rfl | exact .inr (.inl rfl) | exact .inr (.inr rfl))) da_nil)) da_nil)) (dg_name (i := 2) rfl (by first | exact .inl rfl | exact .inr rfl))
    (ds_cons (ds_set (i := 3) rfl (by first | exact .inl rfl | exact .inr rfl) (de_lst da_nil))
    (ds_cons (ds_for (di_seq (de_var (i := 1) rfl (by first | exact .inl rfl | exact .inr (.inl rfl) | exact .inr (.inr rfl)))) (dg_name (i := 4) rfl (by first | exact .inl rfl | exact .inr rfl))
    (ds_cons (ds_setLc (own := [("_law_task", 6)]) (i := 5) cx0_ok rfl rfl rfl rfl rfl (di_seq (de_var (i := 0) rfl (by first | exact .inl rfl | exact .inr (.inl rfl) | exact .inr (.inr rfl)))) rfl (dg_name (i := 6) rfl (by first | exact .inl rfl | exact .inr rfl)) rfl (dts_one (dt_cmp os_notinT (de_var (i := 6) rfl (by first | exact .inl rfl | exact .inr (.inl rfl) | exact .inr (.inr rfl))) (de_var (i := 4) rfl (by first | exact .inl rfl | exact .inr (.inl rfl) | exact .inr (.inr rfl))) rfl)) (de_var (i := 6) rfl (by first | exact .inl rfl | exact .inr (.inl rfl) | exact .inr (.inr rfl))))
    (ds_cons (ds_setLc (own := [("_law_task", 6)]) (i := 5) cx0_ok rfl rfl rfl rfl rfl (di_seq (de_var (i := 5) rfl (by first | exact .inl rfl | exact .inr (.inl rfl) | exact .inr (.inr rfl)))) rfl (dg_name (i := 6) rfl (by first | exact .inl rfl | exact .inr rfl)) rfl (dts_one (dt_w (dw_or (dt_cmp os_eq (de_ix (de_var (i := 6) rfl (by first | exact .inl rfl | exact .inr (.inl rfl) | exact .inr (.inr rfl))) de_int) de_int rfl) (dw_or1 (dt_cmp os_inT (de_tup (da_cons (de_ix (de_var (i := 6) rfl (by first | exact .inl rfl | exact .inr (.inl rfl) | exact .inr (.inr rfl))) de_int) (da_cons (de_op os_sub (de_ix (de_var (i := 6) rfl (by first | exact .inl rfl | exact .inr (.inl rfl) | exact .inr (.inr rfl))) de_int) de_int) da_nil))) (de_var (i := 4) rfl (by first | exact .inl rfl | exact .inr (.inl rfl) | exact .inr (.inr rfl))) rfl))))) (de_var (i := 6) rfl (by first | exact .inl rfl | exact .inr (.inl rfl) | exact .inr (.inr rfl))))
    (ds_one (ds_expr (de_extT (i := 3) rfl (by first | exact .inl rfl | exact .inr (.inl rfl) | exact .inr (.inr rfl)) (de_lc (own := [("_law_task", 6)]) cx0_ok (di_seq (de_var (i := 5) rfl (by first | exact .inl rfl | exact .inr (.inl rfl) | exact .inr (.inr rfl)))) rfl (dg_name (i := 6) rfl (by first | exact .inl rfl | exact .inr rfl)) rfl dts_nil (de_op os_add (de_var (i := 4) rfl (by first | exact .inl rfl | exact .inr (.inl rfl) | exact .inr (.inr rfl))) (de_tup (da_cons (de_var (i := 6) rfl (by first | exact .inl rfl | exact .inr (.inl rfl) | exact .inr (.inr rfl))) da_nil))))))))))
    (ds_one (ds_set (i := 1) rfl (by first | exact .inl rfl | exact .inr rfl) (de_var (i := 3) rfl (by first | exact .inl rfl | exact .inr (.inl rfl) | exact .inr (.inr rfl))))))))
    (ds_one (ds_ret (de_var (i := 1) rfl (by first | exact .inl rfl | exact .inr (.inl rfl) | exact .inr (.inr rfl)))))))) (by decide)
theorem bd_lines {K : PySem.W.Frag} {f : Addr} {fd : FuncData} (Fn : Fun K "_law_lines" "_law_lines" s_lines f fd) : Binds K fd ["_law_tasks"] [] := Fn.binds (ps := ["_law_tasks"]) fun _ _ _ _ _ _ us hl => match us, hl with | [_], _ => rfl
theorem cal_lines {g : Gx} {k : Nat} {W : FSpec} (m_len : g.mg "len" = none) (m_range : g.mg "range" = none) (h : Got g "_law_lines" s_lines) (im : ∀ ss Ex P, W ss Ex P → fnW 1 7 w_lines ss Ex P) : Cal g CX0 (k + 1) "_law_lines" ["_law_tasks"] W := by
  obtain ⟨f, fd, m, F⟩ := h
  exact Cal.imp ⟨f, fd, df_lines    m_len m_range   F, m, F.kp, bd_lines F⟩ im
theorem sc_fits : FnScope ["_law_spans_here", "_law_line", "_law_known", "_law_task", "_law_begin", "_law_end", "_law_i", "_law_j"] ["_law_spans_here", "_law_line"] (defScope s_fits) := ⟨rfl, rfl, rfl, by decide +kernel, rfl, by decide +kernel, by decide +kernel⟩
@[irreducible] def t_fits_1 : WS := (wRet (wC (.bool true)))
@[irreducible] def t_fits_2 : WS := (wRet (wC (.bool false)))
@[irreducible] def t_fits_3 : WS := (wIfS (wB (wOp ltU (wOp idxF (wOp idxF (wVar 2) (wOp idxF (wVar 1) (wVar 7))) (wC (.int 1))) (wOp idxF (wOp idxF (wVar 2) (wOp idxF (wVar 1) (wVar 6))) (wC (.int 0)))))
    (t_fits_2) wNext)
@[irreducible] def t_fits_4 : WS := (wFor (wRng (wCons (wOp addF (wVar 6) (wC (.int 1))) (wCons (wCB lenX (wCons (wVar 1) wNil)) wNil)) rng2) (gN 7)
    (t_fits_3))
@[irreducible] def t_fits_5 : WS := wSeq (wFor (wRng (wCons (wCB lenX (wCons (wVar 1) wNil)) wNil) rng1) (gN 6)
    (t_fits_4))
    (t_fits_1)
@[irreducible] def t_fits_6 : WS := wSeq (wSet 2 (wCB dictIF (wCons (wLc (wIt (wVar 0)) (gT 3 (gsC (gN 3) (gsC (gN 4) (gsC (gN 5) gsN)))) wYes (wTup (wCons (wVar 3) (wCons (wTup (wCons (wVar 4) (wCons (wVar 5) wNil))) wNil))) [3, 4, 5]) wNil)))
    (t_fits_5)
def w_fits : WS := (wSeq (wSet 2 (wCB dictIF (wCons (wLc (wIt (wVar 0)) (gT 3 (gsC (gN 3) (gsC (gN 4) (gsC (gN 5) gsN)))) wYes (wTup (wCons (wVar 3) (wCons (wTup (wCons (wVar 4) (wCons (wVar 5) wNil))) wNil))) [3, 4, 5]) wNil)))
    (wSeq (wFor (wRng (wCons (wCB lenX (wCons (wVar 1) wNil)) wNil) rng1) (gN 6)
    ((wFor (wRng (wCons (wOp addF (wVar 6) (wC (.int 1))) (wCons (wCB lenX (wCons (wVar 1) wNil)) wNil)) rng2) (gN 7)
    ((wIfS (wB (wOp ltU (wOp idxF (wOp idxF (wVar 2) (wOp idxF (wVar 1) (wVar 7))) (wC (.int 1))) (wOp idxF (wOp idxF (wVar 2) (wOp idxF (wVar 1) (wVar 6))) (wC (.int 0)))))
    ((wRet (wC (.bool false)))) wNext)))))
    ((wRet (wC (.bool true))))))
theorem w_fits_eq : w_fits = (t_fits_6) := by with_unfolding_all rfl
theorem df_fits {g : Gx} {k : Nat} (m_len : g.mg "len" = none) (m_range : g.mg "range" = none) (m_dict : g.mg "dict" = none) {f : Addr} {fd : FuncData} (Fn : Fun g.K "_law_fits" "_law_fits" s_fits f fd) : FnG g CX0 (k + 1) f fd ["_law_spans_here", "_law_line"] (spOf g.K 2 (fnW 2 8 w_fits)) :=
  fn_dl (N := ["_law_spans_here", "_law_line", "_law_known", "_law_task", "_law_begin", "_law_end", "_law_i", "_law_j"]) Fn sc_fits (fun E => (ds_cons (ds_set (i := 2) rfl (by first | exact .inl rfl | exact .inr rfl) (de_callT cs_dictI rfl m_dict rfl (da_cons (de_lc (own := [("_law_task", 3), ("_law_begin", 4), ("_law_end", 5)]) cx0_ok (di_seq (de_var (i := 0) rfl (by first | exact .inl rfl | exact .inr (.inl rfl) | exact .inr (.inr rfl)))) rfl (dg_tup (dgs_cons (dg_name (i := 3) rfl (by first | exact .inl rfl | exact .inr rfl)) (dgs_cons (dg_name (i := 4) rfl (by first | exact .inl rfl | exact .inr rfl)) (dgs_cons (dg_name (i := 5) rfl (by first | exact .inl rfl | exact .inr rfl)) dgs_nil)))) rfl dts_nil (de_tup (da_cons (de_var (i := 3) rfl (by first | exact .inl rfl | exact .inr (.inl rfl) | exact .inr (.inr rfl))) (da_cons (de_tup (da_cons (de_var (i := 4) rfl (by first | exact .inl rfl | exact .inr (.inl rfl) | exact .inr (.inr rfl))) (da_cons (de_var (i := 5) rfl (by first | exact .inl rfl | exact .inr (.inl rfl) | exact .inr (.inr rfl))) da_nil))) da_nil)))) da_nil)))
    (ds_cons (ds_for (di_rng1 rfl m_range (da_cons (de_callB cs_lenX rfl m_len rfl (da_cons (de_var (i := 1) rfl (by first | exact .inl rfl | exact .inr (.inl rfl) | exact .inr (.inr rfl))) da_nil)) da_nil)) (dg_name (i := 6) rfl (by first | exact .inl rfl | exact .inr rfl))
    (ds_one (ds_for (di_rng2 rfl m_range (da_cons (de_op os_add (de_var (i := 6) rfl (by first | exact .inl rfl | exact .inr (.inl rfl) | exact .inr (.inr rfl))) de_int) (da_cons (de_callB cs_lenX rfl m_len rfl (da_cons (de_var (i := 1) rfl (by first | exact .inl rfl | exact .inr (.inl rfl) | exact .inr (.inr rfl))) da_nil)) da_nil))) (dg_name (i := 7) rfl (by first | exact .inl rfl | exact .inr rfl))
    (ds_one (ds_if (dt_cmp os_ltU (de_ix (de_ix (de_var (i := 2) rfl (by first | exact .inl rfl | exact .inr (.inl rfl) | exact .inr (.inr rfl))) (de_ix (de_var (i := 1) rfl (by first | exact .inl rfl | exact .inr (.inl rfl) | exact .inr (.inr rfl))) (de_var (i := 7) rfl (by first | exact .inl rfl | exact .inr (.inl rfl) | exact .inr (.inr rfl))))) de_int) (de_ix (de_ix (de_var (i := 2) rfl (by first | exact .inl rfl | exact .inr (.inl rfl) | exact .inr (.inr rfl))) (de_ix (de_var (i := 1) rfl (by first | exact .inl rfl | exact .inr (.inl rfl) | exact .inr (.inr rfl))) (de_var (i := 6) rfl (by first | exact .inl rfl | exact .inr (.inl rfl) | exact .inr (.inr rfl))))) de_int) rfl)
    (ds_one (ds_ret de_bl)) ds_nil)))))
    (ds_one (ds_ret de_bl))))) (by decide)
theorem bd_fits {K : PySem.W.Frag} {f : Addr} {fd : FuncData} (Fn : Fun K "_law_fits" "_law_fits" s_fits f fd) : Binds K fd ["_law_spans_here", "_law_line"] [] := Fn.binds (ps := ["_law_spans_here", "_law_line"]) fun _ _ _ _ _ _ us hl => match us, hl with | [_, _], _ => rfl
theorem cal_fits {g : Gx} {k : Nat} {W : FSpec} (m_len : g.mg "len" = none) (m_range : g.mg "range" = none) (m_dict : g.mg "dict" = none) (h : Got g "_law_fits" s_fits) (im : ∀ ss Ex P, W ss Ex P → fnW 2 8 w_fits ss Ex P) : Cal g CX0 (k + 1) "_law_fits" ["_law_spans_here", "_law_line"] W := by
  obtain ⟨f, fd, m, F⟩ := h
  exact Cal.imp ⟨f, fd, df_fits    m_len m_range m_dict   F, m, F.kp, bd_fits F⟩ im
theorem sc_few : FnScope ["_law_spans_here"] ["_law_spans_here"] (defScope s_few) := ⟨rfl, rfl, rfl, by decide +kernel, rfl, by decide +kernel, by decide +kernel⟩
@[irreducible] def t_few_1 : WS := (wRet (wSl (wVar 0) wNoP (wPart (wC (.int 4)))))
def w_few : WS := ((wRet (wSl (wVar 0) wNoP (wPart (wC (.int 4))))))
theorem w_few_eq : w_few = (t_few_1) := by with_unfolding_all rfl
theorem df_few {g : Gx} {k : Nat} {f : Addr} {fd : FuncData} (Fn : Fun g.K "_law_few" "_law_few" s_few f fd) : FnG g CX0 (k + 1) f fd ["_law_spans_here"] (spOf g.K 1 (fnW 1 1 w_few)) :=
  fn_dl (N := ["_law_spans_here"]) Fn sc_few (fun E => (ds_one (ds_ret (de_sl (de_var (i := 0) rfl (by first | exact .inl rfl | exact .inr (.inl rfl) | exact .inr (.inr rfl))) do_none (do_some de_int))))) (by decide)
theorem bd_few {K : PySem.W.Frag} {f : Addr} {fd : FuncData} (Fn : Fun K "_law_few" "_law_few" s_few f fd) : Binds K fd ["_law_spans_here"] [] := Fn.binds (ps := ["_law_spans_here"]) fun _ _ _ _ _ _ us hl => match us, hl with | [_], _ => rfl
theorem cal_few {g : Gx} {k : Nat} {W : FSpec} (h : Got g "_law_few" s_few) (im : ∀ ss Ex P, W ss Ex P → fnW 1 1 w_few ss Ex P) : Cal g CX0 (k + 1) "_law_few" ["_law_spans_here"] W := by
  obtain ⟨f, fd, m, F⟩ := h
  exact Cal.imp ⟨f, fd, df_few       F, m, F.kp, bd_few F⟩ im
theorem sc_tried : FnScope ["_law_spans_here", "_law_line", "_law_known", "_law_row", "_law_found", "_law_task", "_law_longer", "_law_moment", "_law_one", "_law_is_in"] ["_law_spans_here", "_law_line"] (defScope s_tried) := ⟨rfl, rfl, rfl, by decide +kernel, rfl, by decide +kernel, by decide +kernel⟩
@[irreducible] def t_tried_1 : WS := (wRet (wVar 4))
@[irreducible] def t_tried_2 : WS := (wSet 4 (wVar 6))
@[irreducible] def t_tried_3 : WS := (wDrop (wApp 6 (wOp addF (wVar 3) (wTup (wCons (wVar 7) wNil)))))
@[irreducible] def t_tried_4 : WS := (wIfS (wAnd (wTru (wVar 9)) (wOr (wB (wOp eqF (wVar 3) (wTup wNil))) (wB (wOp leU (wOp idxF (wVar 3) (wNeg (wC (.int 1)))) (wVar 7)))))
    (t_tried_3) wNext)
@[irreducible] def t_tried_5 : WS := wSeq (wSet 9 (wChn leU leU (wOp idxF (wOp idxF (wVar 2) (wVar 5)) (wC (.int 1))) (wVar 7) (wOp idxF (wOp idxF (wVar 2) (wVar 5)) (wC (.int 2)))))
    (t_tried_4)
@[irreducible] def t_tried_6 : WS := (wFor (wIt (wCB ssetF (wCons (wLc (wIt (wVar 0)) (gN 8) wYes (wOp idxF (wVar 8) (wC (.int 1))) [8]) wNil))) (gN 7)
    (t_tried_5))
@[irreducible] def t_tried_7 : WS := wSeq (wFor (wIt (wVar 4)) (gN 3)
    (t_tried_6))
    (t_tried_2)
@[irreducible] def t_tried_8 : WS := wSeq (wSet 6 (wLst wNil))
    (t_tried_7)
@[irreducible] def t_tried_9 : WS := wSeq (wFor (wIt (wVar 1)) (gN 5)
    (t_tried_8))
    (t_tried_1)
@[irreducible] def t_tried_10 : WS := wSeq (wSet 4 (wLst (wCons (wTup wNil) wNil)))
    (t_tried_9)
@[irreducible] def t_tried_11 : WS := wSeq (wSet 2 (wCB dictIF (wCons (wLc (wIt (wVar 0)) (gN 3) wYes (wTup (wCons (wOp idxF (wVar 3) (wC (.int 0))) (wCons (wVar 3) wNil))) [3]) wNil)))
    (t_tried_10)
def w_tried : WS := (wSeq (wSet 2 (wCB dictIF (wCons (wLc (wIt (wVar 0)) (gN 3) wYes (wTup (wCons (wOp idxF (wVar 3) (wC (.int 0))) (wCons (wVar 3) wNil))) [3]) wNil)))
    (wSeq (wSet 4 (wLst (wCons (wTup wNil) wNil)))
    (wSeq (wFor (wIt (wVar 1)) (gN 5)
    (wSeq (wSet 6 (wLst wNil))
    (wSeq (wFor (wIt (wVar 4)) (gN 3)
    ((wFor (wIt (wCB ssetF (wCons (wLc (wIt (wVar 0)) (gN 8) wYes (wOp idxF (wVar 8) (wC (.int 1))) [8]) wNil))) (gN 7)
    (wSeq (wSet 9 (wChn leU leU (wOp idxF (wOp idxF (wVar 2) (wVar 5)) (wC (.int 1))) (wVar 7) (wOp idxF (wOp idxF (wVar 2) (wVar 5)) (wC (.int 2)))))
    ((wIfS (wAnd (wTru (wVar 9)) (wOr (wB (wOp eqF (wVar 3) (wTup wNil))) (wB (wOp leU (wOp idxF (wVar 3) (wNeg (wC (.int 1)))) (wVar 7)))))
    ((wDrop (wApp 6 (wOp addF (wVar 3) (wTup (wCons (wVar 7) wNil)))))) wNext))))))
    ((wSet 4 (wVar 6))))))
    ((wRet (wVar 4))))))
theorem w_tried_eq : w_tried = (t_tried_11) := by with_unfolding_all rfl
theorem df_tried {g : Gx} {k : Nat} (m_sorted : g.mg "sorted" = none) (m_set : g.mg "set" = none) (m_dict : g.mg "dict" = none) {f : Addr} {fd : FuncData} (Fn : Fun g.K "_law_tried" "_law_tried" s_tried f fd) : FnG g CX0 (k + 1) f fd ["_law_spans_here", "_law_line"] (spOf g.K 2 (fnW 2 10 w_tried)) :=
  fn_dl (N := ["_law_spans_here", "_law_line", "_law_known", "_law_row", "_law_found", "_law_task", "_law_longer", "_law_moment", "_law_one", "_law_is_in"]) Fn sc_tried (fun E => (ds_cons (ds_set (i := 2) rfl (by first | exact .inl rfl | exact .inr rfl) (de_callT cs_dictI rfl m_dict rfl (da_cons (de_lc (own := [("_law_row", 3)]) cx0_ok (di_seq (de_var (i := 0) rfl (by first | exact .inl rfl | exact .inr (.inl rfl) | exact .inr (.inr rfl)))) rfl (dg_name (i := 3) rfl (by first | exact .inl rfl | exact .inr rfl)) rfl dts_nil (de_tup (da_cons (de_ix (de_var (i := 3) rfl (by first | exact .inl rfl | exact .inr (.inl rfl) | exact .inr (.inr rfl))) de_int) (da_cons (de_var (i := 3) rfl (by first | exact .inl rfl | exact .inr (.inl rfl) | exact .inr (.inr rfl))) da_nil)))) da_nil)))
    (ds_cons (ds_set (i := 4) rfl (by first | exact .inl rfl | exact .inr rfl) (de_lst (da_cons (de_tup da_nil) da_nil)))
    (ds_cons (ds_for (di_seq (de_var (i := 1) rfl (by first | exact .inl rfl | exact .inr (.inl rfl) | exact .inr (.inr rfl)))) (dg_name (i := 5) rfl (by first | exact .inl rfl | exact .inr rfl))
    (ds_cons (ds_set (i := 6) rfl (by first | exact .inl rfl | exact .inr rfl) (de_lst da_nil))
    (ds_cons (ds_for (di_seq (de_var (i := 4) rfl (by first | exact .inl rfl | exact .inr (.inl rfl) | exact .inr (.inr rfl)))) (dg_name (i := 3) rfl (by first | exact .inl rfl | exact .inr rfl))
    (ds_one (ds_for (di_seq (de_sortedSet rfl m_sorted rfl m_set (de_lc (own := [("_law_one", 8)]) cx0_ok (di_seq (de_var (i := 0) rfl (by first | exact .inl rfl | exact .inr (.inl rfl) | exact .inr (.inr rfl)))) rfl (dg_name (i := 8) rfl (by first | exact .inl rfl | exact .inr rfl)) rfl dts_nil (de_ix (de_var (i := 8) rfl (by first | exact .inl rfl | exact .inr (.inl rfl) | exact .inr (.inr rfl))) de_int)))) (dg_name (i := 7) rfl (by first | exact .inl rfl | exact .inr rfl))
    (ds_cons (ds_set (i := 9) rfl (by first | exact .inl rfl | exact .inr rfl) (de_chn os_leU os_leU (de_ix (de_ix (de_var (i := 2) rfl (by first | exact .inl rfl | exact .inr (.inl rfl) | exact .inr (.inr rfl))) (de_var (i := 5) rfl (by first | exact .inl rfl | exact .inr (.inl rfl) | exact .inr (.inr rfl)))) de_int) (de_var (i := 7) rfl (by first | exact .inl rfl | exact .inr (.inl rfl) | exact .inr (.inr rfl))) (de_ix (de_ix (de_var (i := 2) rfl (by first | exact .inl rfl | exact .inr (.inl rfl) | exact .inr (.inr rfl))) (de_var (i := 5) rfl (by first | exact .inl rfl | exact .inr (.inl rfl) | exact .inr (.inr rfl)))) de_int)))
    (ds_one (ds_if (dt_w (dw_and (dt_tru (de_var (i := 9) rfl (by first | exact .inl rfl | exact .inr (.inl rfl) | exact .inr (.inr rfl))) (fun _ _ => rfl)) (dw_and1 (dt_w (dw_or (dt_cmp os_eq (de_var (i := 3) rfl (by first | exact .inl rfl | exact .inr (.inl rfl) | exact .inr (.inr rfl))) (de_tup da_nil) rfl) (dw_or1 (dt_cmp os_leU (de_ix (de_var (i := 3) rfl (by first | exact .inl rfl | exact .inr (.inl rfl) | exact .inr (.inr rfl))) (de_neg de_int)) (de_var (i := 7) rfl (by first | exact .inl rfl | exact .inr (.inl rfl) | exact .inr (.inr rfl))) rfl)))))))
    (ds_one (ds_expr (de_app (i := 6) rfl (by first | exact .inl rfl | exact .inr (.inl rfl) | exact .inr (.inr rfl)) (de_op os_add (de_var (i := 3) rfl (by first | exact .inl rfl | exact .inr (.inl rfl) | exact .inr (.inr rfl))) (de_tup (da_cons (de_var (i := 7) rfl (by first | exact .inl rfl | exact .inr (.inl rfl) | exact .inr (.inr rfl))) da_nil)))))) ds_nil))))))
    (ds_one (ds_set (i := 4) rfl (by first | exact .inl rfl | exact .inr rfl) (de_var (i := 6) rfl (by first | exact .inl rfl | exact .inr (.inl rfl) | exact .inr (.inr rfl))))))))
    (ds_one (ds_ret (de_var (i := 4) rfl (by first | exact .inl rfl | exact .inr (.inl rfl) | exact .inr (.inr rfl))))))))) (by decide)
theorem bd_tried {K : PySem.W.Frag} {f : Addr} {fd : FuncData} (Fn : Fun K "_law_tried" "_law_tried" s_tried f fd) : Binds K fd ["_law_spans_here", "_law_line"] [] := Fn.binds (ps := ["_law_spans_here", "_law_line"]) fun _ _ _ _ _ _ us hl => match us, hl with | [_, _], _ => rfl
theorem cal_tried {g : Gx} {k : Nat} {W : FSpec} (m_sorted : g.mg "sorted" = none) (m_set : g.mg "set" = none) (m_dict : g.mg "dict" = none) (h : Got g "_law_tried" s_tried) (im : ∀ ss Ex P, W ss Ex P → fnW 2 10 w_tried ss Ex P) : Cal g CX0 (k + 1) "_law_tried" ["_law_spans_here", "_law_line"] W := by
  obtain ⟨f, fd, m, F⟩ := h
  exact Cal.imp ⟨f, fd, df_tried    m_sorted m_set m_dict   F, m, F.kp, bd_tried F⟩ im
theorem sc_said : FnScope ["_law_spans_here", "_law_line", "_law_found"] ["_law_spans_here", "_law_line"] (defScope s_said) := ⟨rfl, rfl, rfl, by decide +kernel, rfl, by decide +kernel, by decide +kernel⟩
@[irreducible] def t_said_1 (C_moments_by : FSpec) (A_NoOrder : Addr) : WS := (wRet (wVar 2))
@[irreducible] def t_said_2 (C_moments_by : FSpec) (A_NoOrder : Addr) : WS := wSeq (wTryO A_NoOrder (wSet 2 (wCall 2 C_moments_by [false, false] (wNoX (wCons (wVar 0) (wCons (wVar 1) wNil))))) (wHC 2 (.none)))
    (t_said_1 C_moments_by A_NoOrder)
@[irreducible] def t_said_3 (C_moments_by : FSpec) (A_NoOrder : Addr) : WS := wSeq (wSet 2 (wC .none))
    (t_said_2 C_moments_by A_NoOrder)
def w_said (C_moments_by : FSpec) (A_NoOrder : Addr) : WS := (wSeq (wSet 2 (wC .none))
    (wSeq (wTryO A_NoOrder (wSet 2 (wCall 2 C_moments_by [false, false] (wNoX (wCons (wVar 0) (wCons (wVar 1) wNil))))) (wHC 2 (.none)))
    ((wRet (wVar 2)))))
theorem w_said_eq (C_moments_by : FSpec) (A_NoOrder : Addr) : w_said C_moments_by A_NoOrder = (t_said_3 C_moments_by A_NoOrder) := by with_unfolding_all rfl
theorem df_said {g : Gx} {k : Nat} {C_moments_by : FSpec} {A_NoOrder : Addr} {CC_NoOrder : Addr} (mono_moments_by : FMono C_moments_by) (c_moments_by : Cal g g.ex k "moments_by" ["spans", "line"] C_moments_by) (mg_NoOrder : g.mg "NoOrder" = some (.ref CC_NoOrder)) (em_NoOrder_NoOrder : PySem.W.exmOne g.K (.ref A_NoOrder) (.ref CC_NoOrder) = some true) {f : Addr} {fd : FuncData} (Fn : Fun g.K "_law_said" "_law_said" s_said f fd) : FnG g g.ex (k + 1) f fd ["_law_spans_here", "_law_line"] (spOf g.K 2 (fnW 2 3 (w_said C_moments_by A_NoOrder))) :=
  fn_dlx (N := ["_law_spans_here", "_law_line", "_law_found"]) Fn sc_said (fun E => (ds_cons (ds_set (i := 2) rfl (by first | exact .inl rfl | exact .inr rfl) de_non)
    (ds_cons (ds_tryOnly rfl mg_NoOrder rfl em_NoOrder_NoOrder (dbs_set (i := 2) rfl (by first | exact .inl rfl | exact .inr rfl) (des_cal (ms := [false, false]) rfl c_moments_by mono_moments_by rfl (da_cons (de_var (i := 0) rfl (by first | exact .inl rfl | exact .inr (.inl rfl) | exact .inr (.inr rfl))) (da_cons (de_var (i := 1) rfl (by first | exact .inl rfl | exact .inr (.inl rfl) | exact .inr (.inr rfl))) da_nil)))) (dh_cst (i := 2) (pe_non) (fun _ => .non) (fun _ _ => rfl) rfl rfl rfl))
    (ds_one (ds_ret (de_var (i := 2) rfl (by first | exact .inl rfl | exact .inr (.inl rfl) | exact .inr (.inr rfl)))))))) (by decide)
theorem bd_said {K : PySem.W.Frag} {f : Addr} {fd : FuncData} (Fn : Fun K "_law_said" "_law_said" s_said f fd) : Binds K fd ["_law_spans_here", "_law_line"] [] := Fn.binds (ps := ["_law_spans_here", "_law_line"]) fun _ _ _ _ _ _ us hl => match us, hl with | [_, _], _ => rfl
theorem cal_said {g : Gx} {k : Nat} {C_moments_by : FSpec} {A_NoOrder : Addr} {CC_NoOrder : Addr} {W : FSpec} (mono_moments_by : FMono C_moments_by) (c_moments_by : Cal g g.ex k "moments_by" ["spans", "line"] C_moments_by) (mg_NoOrder : g.mg "NoOrder" = some (.ref CC_NoOrder)) (em_NoOrder_NoOrder : PySem.W.exmOne g.K (.ref A_NoOrder) (.ref CC_NoOrder) = some true) (h : Got g "_law_said" s_said) (im : ∀ ss Ex P, W ss Ex P → fnW 2 3 (w_said C_moments_by A_NoOrder) ss Ex P) : Cal g g.ex (k + 1) "_law_said" ["_law_spans_here", "_law_line"] W := by
  obtain ⟨f, fd, m, F⟩ := h
  exact Cal.imp ⟨f, fd, df_said mono_moments_by c_moments_by      mg_NoOrder em_NoOrder_NoOrder F, m, F.kp, bd_said F⟩ im
theorem sc_law : FnScope ["_law_script", "_law_source_here", "_law_tree_here", "_law_hands_here", "_law_whole", "_law_spans_here", "_law_line", "_law_row", "_law_told", "_law_tried_here", "_law_least", "_law_k"] ["_law_script"] (defScope s_law) := ⟨rfl, rfl, rfl, by decide +kernel, rfl, by decide +kernel, by decide +kernel⟩
@[irreducible] def t_law_1 (C_lines C_fits C_tried C_said C_few C_scene C_source : FSpec) : WS := (wRet (wC (.bool true)))
@[irreducible] def t_law_2 (C_lines C_fits C_tried C_said C_few C_scene C_source : FSpec) : WS := (wRet (wC (.bool false)))
@[irreducible] def t_law_3 (C_lines C_fits C_tried C_said C_few C_scene C_source : FSpec) : WS := (wIfS (wB (wOp neF (wCB reprF (wCons (wVar 8) wNil)) (wCB reprF (wCons (wCB tupleF (wCons (wLstZip (wCons (wVar 6) (wCons (wVar 10) wNil))) wNil)) wNil))))
    (t_law_2 C_lines C_fits C_tried C_said C_few C_scene C_source) wNext)
@[irreducible] def t_law_4 (C_lines C_fits C_tried C_said C_few C_scene C_source : FSpec) : WS := (wDrop (wApp 10 (wCB minF2 (wCons (wLc (wIt (wVar 9)) (gN 7) wYes (wOp idxF (wVar 7) (wVar 11)) [7]) wNil))))
@[irreducible] def t_law_5 (C_lines C_fits C_tried C_said C_few C_scene C_source : FSpec) : WS := wSeq (wFor (wRng (wCons (wCB lenX (wCons (wVar 6) wNil)) wNil) rng1) (gN 11)
    (t_law_4 C_lines C_fits C_tried C_said C_few C_scene C_source))
    (t_law_3 C_lines C_fits C_tried C_said C_few C_scene C_source)
@[irreducible] def t_law_6 (C_lines C_fits C_tried C_said C_few C_scene C_source : FSpec) : WS := wSeq (wSet 10 (wLst wNil))
    (t_law_5 C_lines C_fits C_tried C_said C_few C_scene C_source)
@[irreducible] def t_law_7 (C_lines C_fits C_tried C_said C_few C_scene C_source : FSpec) : WS := (wIfS (wB (wOp isNotU (wVar 8) (wC .none)))
    (t_law_6 C_lines C_fits C_tried C_said C_few C_scene C_source) wNext)
@[irreducible] def t_law_8 (C_lines C_fits C_tried C_said C_few C_scene C_source : FSpec) : WS := (wRet (wC (.bool false)))
@[irreducible] def t_law_9 (C_lines C_fits C_tried C_said C_few C_scene C_source : FSpec) : WS := wSeq (wIfS (wOr (wB (wOp neF (wOp isU (wVar 8) (wC .none)) (wOp eqF (wVar 9) (wLst wNil)))) (wB (wOp neF (wOp neF (wVar 9) (wLst wNil)) (wCall 2 C_fits [false, false] (wCons (wVar 5) (wCons (wVar 6) wNil))))))
    (t_law_8 C_lines C_fits C_tried C_said C_few C_scene C_source) wNext)
    (t_law_7 C_lines C_fits C_tried C_said C_few C_scene C_source)
@[irreducible] def t_law_10 (C_lines C_fits C_tried C_said C_few C_scene C_source : FSpec) : WS := wSeq (wParO [8, 9] (wConsO (wCall 2 C_said [false, false] (wCons (wVar 5) (wCons (wVar 6) wNil))) (wConsO (wCall 2 C_tried [false, false] (wCons (wVar 5) (wCons (wVar 6) wNil))) wNil)))
    (t_law_9 C_lines C_fits C_tried C_said C_few C_scene C_source)
@[irreducible] def t_law_11 (C_lines C_fits C_tried C_said C_few C_scene C_source : FSpec) : WS := wSeq (wFor (wIt (wCall 1 C_lines [false] (wCons (wLc (wIt (wVar 5)) (gN 7) wYes (wOp idxF (wVar 7) (wC (.int 0))) [7]) wNil))) (gN 6)
    (t_law_10 C_lines C_fits C_tried C_said C_few C_scene C_source))
    (t_law_1 C_lines C_fits C_tried C_said C_few C_scene C_source)
@[irreducible] def t_law_12 (C_lines C_fits C_tried C_said C_few C_scene C_source : FSpec) : WS := wSeq (wSet 5 (wCall 1 C_few [false] (wCons (wVar 4) wNil)))
    (t_law_11 C_lines C_fits C_tried C_said C_few C_scene C_source)
@[irreducible] def t_law_13 (C_lines C_fits C_tried C_said C_few C_scene C_source : FSpec) : WS := wSeq (wUnp [2, 3, 4] (wCall 1 C_scene [true] (wCons (wVar 1) wNil)))
    (t_law_12 C_lines C_fits C_tried C_said C_few C_scene C_source)
@[irreducible] def t_law_14 (C_lines C_fits C_tried C_said C_few C_scene C_source : FSpec) : WS := wSeq (wSet 1 (wCall 1 C_source [false] (wCons (wVar 0) wNil)))
    (t_law_13 C_lines C_fits C_tried C_said C_few C_scene C_source)
def w_law (C_lines C_fits C_tried C_said C_few C_scene C_source : FSpec) : WS := (wSeq (wSet 1 (wCall 1 C_source [false] (wCons (wVar 0) wNil)))
    (wSeq (wUnp [2, 3, 4] (wCall 1 C_scene [true] (wCons (wVar 1) wNil)))
    (wSeq (wSet 5 (wCall 1 C_few [false] (wCons (wVar 4) wNil)))
    (wSeq (wFor (wIt (wCall 1 C_lines [false] (wCons (wLc (wIt (wVar 5)) (gN 7) wYes (wOp idxF (wVar 7) (wC (.int 0))) [7]) wNil))) (gN 6)
    (wSeq (wParO [8, 9] (wConsO (wCall 2 C_said [false, false] (wCons (wVar 5) (wCons (wVar 6) wNil))) (wConsO (wCall 2 C_tried [false, false] (wCons (wVar 5) (wCons (wVar 6) wNil))) wNil)))
    (wSeq (wIfS (wOr (wB (wOp neF (wOp isU (wVar 8) (wC .none)) (wOp eqF (wVar 9) (wLst wNil)))) (wB (wOp neF (wOp neF (wVar 9) (wLst wNil)) (wCall 2 C_fits [false, false] (wCons (wVar 5) (wCons (wVar 6) wNil))))))
    ((wRet (wC (.bool false)))) wNext)
    ((wIfS (wB (wOp isNotU (wVar 8) (wC .none)))
    (wSeq (wSet 10 (wLst wNil))
    (wSeq (wFor (wRng (wCons (wCB lenX (wCons (wVar 6) wNil)) wNil) rng1) (gN 11)
    ((wDrop (wApp 10 (wCB minF2 (wCons (wLc (wIt (wVar 9)) (gN 7) wYes (wOp idxF (wVar 7) (wVar 11)) [7]) wNil))))))
    ((wIfS (wB (wOp neF (wCB reprF (wCons (wVar 8) wNil)) (wCB reprF (wCons (wCB tupleF (wCons (wLstZip (wCons (wVar 6) (wCons (wVar 10) wNil))) wNil)) wNil))))
    ((wRet (wC (.bool false)))) wNext)))) wNext)))))
    ((wRet (wC (.bool true))))))))
theorem w_law_eq (C_lines C_fits C_tried C_said C_few C_scene C_source : FSpec) : w_law C_lines C_fits C_tried C_said C_few C_scene C_source = (t_law_14 C_lines C_fits C_tried C_said C_few C_scene C_source) := by with_unfolding_all rfl
theorem df_law {g : Gx} {k : Nat} {C_lines C_fits C_tried C_said C_few C_scene C_source : FSpec} (mono_lines : FMono C_lines) (c_lines : Cal g CX0 k "_law_lines" ["_law_tasks"] C_lines) (mono_fits : FMono C_fits) (c_fits : Cal g CX0 k "_law_fits" ["_law_spans_here", "_law_line"] C_fits) (mono_tried : FMono C_tried) (c_tried : Cal g CX0 k "_law_tried" ["_law_spans_here", "_law_line"] C_tried) (mono_said : FMono C_said) (c_said : Cal g CX0 k "_law_said" ["_law_spans_here", "_law_line"] C_said) (mono_few : FMono C_few) (c_few : Cal g CX0 k "_law_few" ["_law_spans_here"] C_few) (mono_scene : FMono C_scene) (c_scene : Cal g CX0 k "_law_scene" ["_law_source_here"] C_scene) (mono_source : FMono C_source) (c_source : Cal g CX0 k "_law_source" ["_law_script"] C_source) (m_repr : g.mg "repr" = none) (m_list : g.mg "list" = none) (m_zip : g.mg "zip" = none) (m_tuple : g.mg "tuple" = none) (m_len : g.mg "len" = none) (m_range : g.mg "range" = none) (m_min : g.mg "min" = none) {f : Addr} {fd : FuncData} (Fn : Fun g.K "law" "law" s_law f fd) : FnG g CX0 (k + 1) f fd ["_law_script"] (spOf g.K 1 (fnW 1 12 (w_law C_lines C_fits C_tried C_said C_few C_scene C_source))) :=
  fn_dl (N := ["_law_script", "_law_source_here", "_law_tree_here", "_law_hands_here", "_law_whole", "_law_spans_here", "_law_line", "_law_row", "_law_told", "_law_tried_here", "_law_least", "_law_k"]) Fn sc_law (fun E => (ds_cons (ds_set (i := 1) rfl (by first | exact .inl rfl | exact .inr rfl) (de_cal (ms := [false]) c_source mono_source rfl (da_cons (de_var (i := 0) rfl (by first | exact .inl rfl | exact .inr (.inl rfl) | exact .inr (.inr rfl))) da_nil)))
    (ds_cons (ds_unp (de_cal (ms := [true]) c_scene mono_scene rfl (da_cons (de_var (i := 1) rfl (by first | exact .inl rfl | exact .inr (.inl rfl) | exact .inr (.inr rfl))) da_nil)) (dns_cons (i := 2) rfl (by first | exact .inl rfl | exact .inr rfl) (dns_cons (i := 3) rfl (by first | exact .inl rfl | exact .inr rfl) (dns_cons (i := 4) rfl (by first | exact .inl rfl | exact .inr rfl) dns_nil))) rfl)
    (ds_cons (ds_set (i := 5) rfl (by first | exact .inl rfl | exact .inr rfl) (de_cal (ms := [false]) c_few mono_few rfl (da_cons (de_var (i := 4) rfl (by first | exact .inl rfl | exact .inr (.inl rfl) | exact .inr (.inr rfl))) da_nil)))
    (ds_cons (ds_for (di_seq (de_cal (ms := [false]) c_lines mono_lines rfl (da_cons (de_lc (own := [("_law_row", 7)]) cx0_ok (di_seq (de_var (i := 5) rfl (by first | exact .inl rfl | exact .inr (.inl rfl) | exact .inr (.inr rfl)))) rfl (dg_name (i := 7) rfl (by first | exact .inl rfl | exact .inr rfl)) rfl dts_nil (de_ix (de_var (i := 7) rfl (by first | exact .inl rfl | exact .inr (.inl rfl) | exact .inr (.inr rfl))) de_int)) da_nil))) (dg_name (i := 6) rfl (by first | exact .inl rfl | exact .inr rfl))
    (ds_cons (ds_parO2 (i := 8) (j := 9) rfl rfl (by decide) rfl rfl (dao_cons (de_cal (ms := [false, false]) c_said mono_said rfl (da_cons (de_var (i := 5) rfl (by first | exact .inl rfl | exact .inr (.inl rfl) | exact .inr (.inr rfl))) (da_cons (de_var (i := 6) rfl (by first | exact .inl rfl | exact .inr (.inl rfl) | exact .inr (.inr rfl))) da_nil))) (dao_cons (de_cal (ms := [false, false]) c_tried mono_tried rfl (da_cons (de_var (i := 5) rfl (by first | exact .inl rfl | exact .inr (.inl rfl) | exact .inr (.inr rfl))) (da_cons (de_var (i := 6) rfl (by first | exact .inl rfl | exact .inr (.inl rfl) | exact .inr (.inr rfl))) da_nil))) dao_nil)) (fun _ => by rfl))
    (ds_cons (ds_if (dt_w (dw_or (dt_cmp os_ne (de_cmp os_isU (de_var (i := 8) rfl (by first | exact .inl rfl | exact .inr (.inl rfl) | exact .inr (.inr rfl))) de_non rfl) (de_cmp os_eq (de_var (i := 9) rfl (by first | exact .inl rfl | exact .inr (.inl rfl) | exact .inr (.inr rfl))) (de_lst da_nil) rfl) rfl) (dw_or1 (dt_cmp os_ne (de_cmp os_ne (de_var (i := 9) rfl (by first | exact .inl rfl | exact .inr (.inl rfl) | exact .inr (.inr rfl))) (de_lst da_nil) rfl) (de_cal (ms := [false, false]) c_fits mono_fits rfl (da_cons (de_var (i := 5) rfl (by first | exact .inl rfl | exact .inr (.inl rfl) | exact .inr (.inr rfl))) (da_cons (de_var (i := 6) rfl (by first | exact .inl rfl | exact .inr (.inl rfl) | exact .inr (.inr rfl))) da_nil))) rfl))))
    (ds_one (ds_ret de_bl)) ds_nil)
    (ds_one (ds_if (dt_cmp os_isnotU (de_var (i := 8) rfl (by first | exact .inl rfl | exact .inr (.inl rfl) | exact .inr (.inr rfl))) de_non rfl)
    (ds_cons (ds_set (i := 10) rfl (by first | exact .inl rfl | exact .inr rfl) (de_lst da_nil))
    (ds_cons (ds_for (di_rng1 rfl m_range (da_cons (de_callB cs_lenX rfl m_len rfl (da_cons (de_var (i := 6) rfl (by first | exact .inl rfl | exact .inr (.inl rfl) | exact .inr (.inr rfl))) da_nil)) da_nil)) (dg_name (i := 11) rfl (by first | exact .inl rfl | exact .inr rfl))
    (ds_one (ds_expr (de_app (i := 10) rfl (by first | exact .inl rfl | exact .inr (.inl rfl) | exact .inr (.inr rfl)) (de_callB cs_min2 rfl m_min rfl (da_cons (de_lc (own := [("_law_row", 7)]) cx0_ok (di_seq (de_var (i := 9) rfl (by first | exact .inl rfl | exact .inr (.inl rfl) | exact .inr (.inr rfl)))) rfl (dg_name (i := 7) rfl (by first | exact .inl rfl | exact .inr rfl)) rfl dts_nil (de_ix (de_var (i := 7) rfl (by first | exact .inl rfl | exact .inr (.inl rfl) | exact .inr (.inr rfl))) (de_var (i := 11) rfl (by first | exact .inl rfl | exact .inr (.inl rfl) | exact .inr (.inr rfl))))) da_nil))))))
    (ds_one (ds_if (dt_cmp os_ne (de_callB cs_repr rfl m_repr rfl (da_cons (de_var (i := 8) rfl (by first | exact .inl rfl | exact .inr (.inl rfl) | exact .inr (.inr rfl))) da_nil)) (de_callB cs_repr rfl m_repr rfl (da_cons (de_callT cs_tuple rfl m_tuple rfl (da_cons (de_listZip rfl m_list rfl m_zip (da_cons (de_var (i := 6) rfl (by first | exact .inl rfl | exact .inr (.inl rfl) | exact .inr (.inr rfl))) (da_cons (de_var (i := 10) rfl (by first | exact .inl rfl | exact .inr (.inl rfl) | exact .inr (.inr rfl))) da_nil))) da_nil)) da_nil)) rfl)
    (ds_one (ds_ret de_bl)) ds_nil)))) ds_nil)))))
    (ds_one (ds_ret de_bl))))))) (by decide)
end V23
set_option Elab.async false
set_option linter.all false
set_option maxRecDepth 100000
set_option maxHeartbeats 1000000
set_option autoImplicit false
set_option exponentiation.threshold 20000
namespace V23
open PySem PySem.Spec PyProof.Rows L2 DL
local macro_rules | `(tactic| pv_short) => `(tactic| repeat first | refine Exists.intro _ (And.intro rfl ?_) | refine ifT rfl ?_ | refine ifF rfl ?_ | refine Exists.intro _ (And.intro (if_pos (by first | assumption | decide | exact ⟨by assumption, by decide⟩ | exact ⟨by assumption, by assumption⟩)) ?_) | refine And.intro (show List.length _ ≤ sizeLine from Nat.le_of_ble_eq_true rfl) ?_ | refine And.intro (Nat.le_of_ble_eq_true rfl) ?_)
abbrev srL (cs : List Int) (a l c : Int) : List (Key × PyData) := [(.inr "cells", .list (cs.map .int)), (.inr "at", .int a), (.inr "rest", .int l), (.inr "count", .int c)]
/-- the source behind c draws -/
def Tp (n : Nat) (ds : List (Key × PyData)) : Prop := ∃ (cs : List Int) (a l : Int), ds = srL cs a l (n : Int)
def C_pick : FSpec := Ct (fun ss => ∃ ds m n, ss = [.o true (.k ds), .d (.int m)] ∧ Tp n ds ∧ n + 1 ≤ 1000000 ∧ 0 < m ∧ m.natAbs.log2 < 9000)
  fun ss r ss' => ∃ ds ds' m n j, ss = [.o true (.k ds), .d (.int m)] ∧ Tp n ds ∧ ss' = [.o true (.k ds'), .d (.int m)] ∧ Tp (n + 1) ds' ∧ r = .d (.int j) ∧ 0 ≤ j ∧ j < m
theorem Tp.one {n m : Nat} {ds : List (Key × PyData)} (h : Tp n ds) (h2 : Tp m ds) : n = m := by
  obtain ⟨cs, a, l, rfl⟩ := h
  obtain ⟨cs', a', l', e⟩ := h2
  injection e with _ e; injection e with _ e; injection e with _ e; injection e with e _
  injection e with _ e; injection e with e
  omega
section
variable {cs : List Int} {a l m : Int} {c : Nat} {Ex : XP} {P : R → List Sl → Prop}
/-- what stands behind the call -/
abbrev dEnd (ss : List Sl) (Ex : XP) (P : R → List Sl → Prop) : DEnds :=
  let fin := fun r δ => ob (retR δ r) fun r' => ob (finals ss δ) fun ss' => P r' ss'
  ⟨fun δ => fin (.d .none) δ, fin, fun _ => False, fun _ => False, Ex⟩
abbrev pEnv (cs : List Int) (a l c m : Int) (x2 x3 x4 x5 : Option Sl) : SEnv := [some (.o true (.k (srL cs a l c))), some (.d (.int m)), x2, x3, x4, x5]
abbrev pSs (cs : List Int) (a l c m : Int) : List Sl := [.o true (.k (srL cs a l c)), .d (.int m)]
theorem pick_7 {a1 l1 cell : Int} {c1 : Nat} (h0 : 0 < m) (h1 : m.natAbs.log2 < 9000) (hc : c1 ≤ 1000000) (kk : ∀ (a' l' j : Int), 0 ≤ j → j < m → P (.d (.int j)) (pSs cs a' l' (c1 : Int) m)) :
    t_pick_8 (dEnd (pSs cs a l c m) Ex P) (pEnv cs a1 l1 (c1 : Int) m none (some (.d (.list (cs.map .int)))) (some (.d (.int cell))) none) := by
  unfold t_pick_8 t_pick_7 t_pick_6 t_pick_5
  have n : ∀ (k : Int), k ≤ 2147483648 → 0 < k → ∀ x : Int, smallI (x % k) = true := fun k h1 h2 x => small_of (mod_ge h2) (by have := mod_lt (a := x) h2; omega)
  have rest : ∀ a2 : Int, t_pick_4 (dEnd (pSs cs a l c m) Ex P) (pEnv cs a2 l1 (c1 : Int) m none (some (.d (.list (cs.map .int)))) (some (.d (.int cell))) none) := by
    intro a2
    unfold t_pick_4 t_pick_3 t_pick_2 t_pick_1
    pv_short
    have b0 := mod_ge (a := cell) (m := 1073741827) (by decide)
    have b1 := mod_lt (a := cell) (m := 1073741827) (by decide)
    have b2 : (cell % 1073741827 + 611953 * (c1 : Int)).natAbs < 2 ^ 60 := by omega
    refine Exists.intro _ (And.intro (mulB (Nat.lt_trans b2 (by decide)) (Nat.lt_trans b2 (by decide))) ?_)
    pv_short
    refine Exists.intro _ (And.intro (mulI (by rw [n _ (by decide) (by decide)]; rfl)) ?_)
    pv_short
    exact kk _ _ _ (mod_ge h0) (mod_lt h0)
  pv_short
  refine ite2 (fun e => ?_) (fun e => ?_)
  · pv_short
    refine ite2 (fun e => ?_) (fun e => ?_)
    · pv_short
      exact kk _ _ _ (mod_ge h0) (mod_lt h0)
    · exact rest _
  · exact rest _
theorem pick_ok (ss : List Sl) (Ex : XP) (P : R → List Sl → Prop) (h : C_pick ss Ex P) : fnW 2 6 w_pick ss Ex P := by
  obtain ⟨⟨ds, m, c, rfl, ⟨cs, a, l, rfl⟩, hc, h0, h1⟩, k⟩ := h
  have kk : ∀ (a' l' j : Int), 0 ≤ j → j < m → P (.d (.int j)) (pSs cs a' l' ((c + 1 : Nat) : Int) m) :=
    fun a' l' j z1 z2 => k _ _ ⟨_, _, m, c, j, rfl, ⟨cs, a, l, rfl⟩, rfl, ⟨cs, a', l', rfl⟩, rfl, z1, z2⟩
  clear k
  refine And.intro rfl ?_
  rw [w_pick_eq]
  unfold t_pick_16 t_pick_15 t_pick_14 t_pick_13 t_pick_12 t_pick_11 t_pick_10 x_pick_9
  pv_short
  refine ite2 (fun e => ?_) (fun e => ?_)
  · pv_short
    exact kk _ _ _ (mod_ge h0) (mod_lt h0)
  pv_short
  refine Exists.intro _ (And.intro (eq_shaped (neg := true) (d := .list (cs.map .int)) (e := .list []) (ints_shaped cs) (by rfl)) ?_)
  pv_short
  refine ite2 (fun e => ?_) (fun e => ?_)
  · have hc' : cs ≠ [] := fun z => by subst z; exact absurd e (by decide)
    have hl : (0 : Int) < ((cs.map PyData.int).length : Nat) := by
      rw [List.length_map]; have := List.length_pos_iff.mpr hc'; omega
    pv_short
    obtain ⟨x, ex, mx⟩ := atI_ok (xs := cs.map PyData.int) (mod_ge (a := a) hl) (mod_lt hl)
    obtain ⟨v, _, rfl⟩ := List.mem_map.mp mx
    refine Exists.intro _ (And.intro (show (atI _ _).map Rv.val = _ by rw [ex]; rfl) ?_)
    pv_short
    exact pick_7 h0 h1 hc kk
  · pv_short
    exact pick_7 h0 h1 hc kk
/-- a draw in a body: the tape's slot is lent -/
theorem pick_at {δ : SEnv} {i : Nat} {ds : List (Key × PyData)} {b : Bool} {m : Int} {n : Nat} {wa : WE} {Ex : XP} {P : R → SEnv → Prop} (hT : Tp n ds) (hn : n + 1 ≤ 1000000) (h0 : 0 < m) (h1 : m.natAbs.log2 < 9000) (e : δ[i]? = some (some (.o b (.k ds)))) (hm : ∀ Q : R → SEnv → Prop, Q (.d (.int m)) δ → wa Ex δ Q)
    (k : ∀ ds' j, Tp (n + 1) ds' → 0 ≤ j → j < m → P (.d (.int j)) (δ.set i (some (.o b (.k ds'))))) : wCall 2 C_pick [true, false] (wCons (wVar i) (wCons wa wNil)) Ex δ P := by
  unfold wCall
  refine ⟨_, e, _, rfl, ?_⟩
  refine ⟨.o i, rfl, ?_⟩
  refine hm _ ?_
  refine ⟨.d (.int m), rfl, ?_⟩
  refine ⟨([.o i, .d (.int m)], δ), rfl, rfl, ?_, ?_⟩
  · show ([i] : List Nat).Nodup
    exact List.nodup_cons.mpr ⟨by simp, List.nodup_nil⟩
  refine ⟨[.o true (.k ds), .d (.int m)], ?_, ⟨ds, m, n, rfl, hT, hn, h0, h1⟩, fun r ss' q _ => ?_⟩
  · simp only [slsOf, slOf, e]
    rfl
  · obtain ⟨ds1, ds', m', n', j, e1, t1, e2, e3, e4, e5, e6⟩ := q
    cases e1
    have := t1.one hT
    subst this e2 e4
    exact ⟨_, back_1 e rfl rfl, k ds' j e3 e5 e6⟩
end
end V23
set_option Elab.async false
set_option linter.all false
set_option maxRecDepth 100000
set_option maxHeartbeats 1000000
set_option autoImplicit false
set_option exponentiation.threshold 20000
namespace V23
open PySem PySem.Spec PyProof.Rows L2 DL
local macro_rules | `(tactic| pv_short) => `(tactic| repeat first | refine Exists.intro _ (And.intro rfl ?_) | refine ifT rfl ?_ | refine ifF rfl ?_ | refine Exists.intro _ (And.intro (if_pos (by first | assumption | decide | exact ⟨by assumption, by decide⟩ | exact ⟨by assumption, by assumption⟩)) ?_) | refine And.intro (show List.length _ ≤ sizeLine from Nat.le_of_ble_eq_true rfl) ?_ | refine And.intro (Nat.le_of_ble_eq_true rfl) ?_)
abbrev Pl : Type := Int × Int × Str
def atP (p : Int) (x : Str) (q : Pl) : Prop := q.2.1 = p ∧ q.2.2 = x
abbrev noX : Int → Prop := fun _ => False
structure Wm (I D : Int → Prop) (P : Pl → Prop) (X : Int → Prop) : Prop where
  dI : ∀ n, D n → I n
  root : D 0
  ent : ∀ q, P q → I q.1
  src : ∀ q, P q → D q.2.1
  no0 : ∀ q, P q → q.1 ≠ 0
  par : ∀ n, I n → n ≠ 0 → ¬ X n → ∃ q, P q ∧ q.1 = n
  uni : ∀ a b, P a → P b → a.1 = b.1 → D a.1 → a = b
  fn : ∀ a b, P a → P b → a.2 = b.2 → a = b
  rank : ∃ ρ : Int → Nat, ∀ q, P q → D q.1 → ρ q.2.1 < ρ q.1
section
variable {I D : Int → Prop} {P : Pl → Prop} {X : Int → Prop}
theorem Wm.at (w : Wm I D P X) {n p : Int} {x : Str} (h : P (n, p, x)) {a : Pl} (ha : P a) (e : atP p x a) : a = (n, p, x) :=
  w.fn a (n, p, x) ha h (by rw [show a.2 = (a.2.1, a.2.2) from rfl, e.1, e.2])
theorem Wm.congr {I' D' : Int → Prop} {P' : Pl → Prop} {X' : Int → Prop} (w : Wm I D P X) (hI : ∀ n, I n ↔ I' n) (hD : ∀ n, D n ↔ D' n) (hP : ∀ q, P q ↔ P' q) (hX : ∀ n, X n ↔ X' n) : Wm I' D' P' X' := by
  have e1 : I = I' := funext fun n => propext (hI n)
  have e2 : D = D' := funext fun n => propext (hD n)
  have e3 : P = P' := funext fun n => propext (hP n)
  have e4 : X = X' := funext fun n => propext (hX n)
  subst e1 e2 e3 e4
  exact w
theorem Wm.drop {n p : Int} {x : Str} (w : Wm I D P noX) (h : P (n, p, x)) : Wm I D (fun q => P q ∧ ¬ atP p x q) (fun m => m = n) where
  dI := w.dI
  root := w.root
  ent := fun q hq => w.ent q hq.1
  src := fun q hq => w.src q hq.1
  no0 := fun q hq => w.no0 q hq.1
  par := fun m hm hm0 hx => by
    obtain ⟨q, hq, e⟩ := w.par m hm hm0 fun z => z
    refine ⟨q, ⟨hq, fun z => hx ?_⟩, e⟩
    rw [← e, w.at h hq z]
  uni := fun a b ha hb => w.uni a b ha.1 hb.1
  fn := fun a b ha hb => w.fn a b ha.1 hb.1
  rank := w.rank.imp fun _ h q hq => h q hq.1
theorem Wm.link {s q : Int} {y : Str} (w : Wm I D P noX) (hq : D q) (hs : I s) (hns : ¬ D s) (hf : ∀ a, P a → ¬ atP q y a) : Wm I D (fun a => (P a ∧ ¬ atP q y a) ∨ a = (s, q, y)) noX where
  dI := w.dI
  root := w.root
  ent := fun a h => by
    rcases h with h | rfl
    · exact w.ent a h.1
    · exact hs
  src := fun a h => by
    rcases h with h | rfl
    · exact w.src a h.1
    · exact hq
  no0 := fun a h => by
    rcases h with h | rfl
    · exact w.no0 a h.1
    · exact fun z => hns (by rw [show s = 0 from z]; exact w.root)
  par := fun m hm hm0 _ => by
    obtain ⟨a, ha, e⟩ := w.par m hm hm0 fun z => z
    exact ⟨a, .inl ⟨ha, hf a ha⟩, e⟩
  uni := fun a b ha hb e hd => by
    rcases ha with ha | rfl
    · rcases hb with hb | rfl
      · exact w.uni a b ha.1 hb.1 e hd
      · exact absurd (by rw [e] at hd; exact hd) hns
    · exact absurd hd hns
  fn := fun a b ha hb e => by
    rcases ha with ha | rfl <;> rcases hb with hb | rfl
    · exact w.fn a b ha.1 hb.1 e
    · exact absurd (show atP q y a from ⟨by rw [e], by rw [e]⟩) ha.2
    · exact absurd (show atP q y b from ⟨by rw [← e], by rw [← e]⟩) hb.2
    · rfl
  rank := w.rank.imp fun _ h a ha hd => by
    rcases ha with ha | rfl
    · exact h a ha.1 hd
    · exact absurd hd hns
theorem Wm.make {m p : Int} {x : Str} {b : Prop} (w : Wm I D P noX) (hp : D p) (hm : ¬ I m) (hf : ∀ a, P a → ¬ atP p x a) : Wm (fun k => I k ∨ k = m) (fun k => D k ∨ (k = m ∧ b)) (fun a => (P a ∧ ¬ atP p x a) ∨ a = (m, p, x)) noX where
  dI := fun k h => by
    rcases h with h | h
    · exact .inl (w.dI k h)
    · exact .inr h.1
  root := .inl w.root
  ent := fun a h => by
    rcases h with h | rfl
    · exact .inl (w.ent a h.1)
    · exact .inr rfl
  src := fun a h => by
    rcases h with h | rfl
    · exact .inl (w.src a h.1)
    · exact .inl hp
  no0 := fun a h => by
    rcases h with h | rfl
    · exact w.no0 a h.1
    · exact fun z => hm (by rw [show m = 0 from z]; exact w.dI 0 w.root)
  par := fun k hk hk0 _ => by
    rcases hk with hk | rfl
    · obtain ⟨a, ha, e⟩ := w.par k hk hk0 fun z => z
      exact ⟨a, .inl ⟨ha, hf a ha⟩, e⟩
    · exact ⟨_, .inr rfl, rfl⟩
  uni := fun a c ha hc e hd => by
    rcases ha with ha | rfl
    · rcases hc with hc | rfl
      · rcases hd with hd | ⟨hd, _⟩
        · exact w.uni a c ha.1 hc.1 e hd
        · exact absurd (by rw [← hd]; exact w.ent a ha.1) hm
      · exact absurd (by rw [← show a.1 = m from e]; exact w.ent a ha.1) hm
    · rcases hc with hc | rfl
      · exact absurd (by rw [show m = c.1 from e]; exact w.ent c hc.1) hm
      · rfl
  fn := fun a c ha hc e => by
    rcases ha with ha | rfl <;> rcases hc with hc | rfl
    · exact w.fn a c ha.1 hc.1 e
    · exact absurd (show atP p x a from ⟨by rw [e], by rw [e]⟩) ha.2
    · exact absurd (show atP p x c from ⟨by rw [← e], by rw [← e]⟩) hc.2
    · rfl
  rank := by
    classical
    obtain ⟨ρ, h⟩ := w.rank
    refine ⟨fun k => if k = m then ρ p + 1 else ρ k, fun a ha hd => ?_⟩
    rcases ha with ha | rfl
    · have h1 : a.1 ≠ m := fun z => hm (by rw [← z]; exact w.ent a ha.1)
      have h2 : a.2.1 ≠ m := fun z => hm (by rw [← z]; exact w.dI _ (w.src a ha.1))
      simp only [h1, h2, if_false]
      refine h a ha.1 ?_
      rcases hd with hd | hd
      · exact hd
      · exact absurd hd.1 h1
    · have h2 : p ≠ m := fun z => hm (by rw [← z]; exact w.dI _ hp)
      simp only [h2, if_false, if_true]
      omega
end
end V23
set_option Elab.async false
set_option linter.all false
set_option maxRecDepth 100000
set_option maxHeartbeats 1000000
set_option autoImplicit false
set_option exponentiation.threshold 20000
namespace V23
open PySem PySem.Spec PyProof.Rows L2 DL
local macro_rules | `(tactic| pv_short) => `(tactic| repeat first | refine Exists.intro _ (And.intro rfl ?_) | refine ifT rfl ?_ | refine ifF rfl ?_ | refine Exists.intro _ (And.intro (if_pos (by first | assumption | decide | exact ⟨by assumption, by decide⟩ | exact ⟨by assumption, by assumption⟩)) ?_) | refine And.intro (show List.length _ ≤ sizeLine from Nat.le_of_ble_eq_true rfl) ?_ | refine And.intro (Nat.le_of_ble_eq_true rfl) ?_)
structure Tn where
  id : Int
  a : Addr
  sh : Bool
  es : List (Str × Int)
abbrev kE (e : Str × Int) : Key × PyData := (.inr e.1, .int e.2)
abbrev tE (e : Str × Int) : Key × OT := (.inr e.1, .d (.int e.2))
abbrev tU (r : Tn) : OT := .n r.a true (r.es.map tE)
abbrev tO (r : Tn) : Key × OT := (.inl r.id, tU r)
abbrev kS (b : Bool) : PyData := match b with | true => .str "sheet" | false => .str "drawer"
abbrev tK (r : Tn) : Key × PyData := (.inl r.id, kS r.sh)
abbrev tT (a0 : Addr) (R : List Tn) : OT := .n a0 true (R.map tO)
def nm5 : List Str := ["a", "ab", "b", "c", "x"]
def nm6 : List Str := ["a", "ab", "b", "c", "x", "z"]
theorem datas_es : ∀ es : List (Str × Int), datas (es.map tE) = some (es.map kE)
  | [] => rfl
  | e :: es => by
    rw [List.map_cons, List.map_cons]
    show (some (PyData.int e.2)).bind (fun d => (datas (es.map tE)).map fun ds => ((Sum.inr e.1 : Key), d) :: ds) = _
    rw [datas_es es]; rfl
theorem vw_U (r : Tn) : (tU r).vw = some (.k (r.es.map kE)) := by
  show (match datas (r.es.map tE) with | some kvs => some (Vw.k kvs) | none => _) = _
  rw [datas_es]
theorem vw_T {a0 : Addr} {R : List Tn} (h : R ≠ []) : (tT a0 R).vw = some (.xk (R.map fun r => (.inl r.id : Key))) := by
  cases R with
  | nil => exact absurd rfl h
  | cons r R =>
    show (match datas ((r :: R).map tO) with | some kvs => some (Vw.k kvs) | none => some (Vw.xk (((r :: R).map tO).map fun (q : Key × OT) => q.1))) = _
    rw [show datas ((r :: R).map tO) = none from rfl]
    show some (Vw.xk _) = _
    rw [List.map_map]; rfl
theorem numK_R : ∀ R : List Tn, numK (R.map fun r => (.inl r.id : Key)) = some (R.map (·.id))
  | [] => rfl
  | r :: R => by
    rw [List.map_cons]
    show (numK (R.map fun r => (.inl r.id : Key))).map (fun ns => r.id :: ns) = _
    rw [numK_R R]; rfl
theorem inl_ne {a b : Int} (h : a ≠ b) : ¬ (Sum.inl a : Key) = .inl b := fun e => h (by cases e; rfl)
theorem idx_at {R : List Tn} (nd : (R.map (·.id)).Nodup) {i : Nat} {r : Tn} (h : R[i]? = some r) : (R.map tO).findIdx? (fun q => decide (q.1 = (.inl r.id : Key))) = some i := by
  induction R generalizing i with
  | nil => simp at h
  | cons x R ih =>
    rw [List.map_cons, List.nodup_cons] at nd
    rw [List.map_cons, List.findIdx?_cons]
    cases i with
    | zero => simp at h; subst h; rw [if_pos (decide_eq_true rfl)]
    | succ i =>
      have h' : R[i]? = some r := by simpa using h
      have ne : x.id ≠ r.id := fun e => nd.1 (List.mem_map.mpr ⟨r, List.mem_of_getElem? h', e.symm⟩)
      rw [if_neg (by simpa using inl_ne ne), ih nd.2 h']; rfl
theorem look_K {R : List Tn} (nd : (R.map (·.id)).Nodup) {r : Tn} (h : r ∈ R) : lookD (R.map tK) (.inl r.id : Key) = some (kS r.sh) := by
  induction R with
  | nil => cases h
  | cons x R ih =>
    rw [List.map_cons, List.nodup_cons] at nd
    unfold lookD at *
    rw [List.map_cons]
    by_cases e : x.id = r.id
    · rw [List.find?_cons_of_pos (by simp [e])]
      rcases List.mem_cons.mp h with h | h
      · subst h; rfl
      · exact absurd (List.mem_map.mpr ⟨r, h, e.symm⟩) nd.1
    · rw [List.find?_cons_of_neg (by simpa using inl_ne e)]
      rcases List.mem_cons.mp h with h | h
      · subst h; exact absurd rfl e
      · exact ih nd.2 h
abbrev idT (R : List Tn) (n : Int) : Prop := n ∈ R.map (·.id)
def dwT (R : List Tn) (n : Int) : Prop := ∃ d ∈ R, d.id = n ∧ d.sh = false
def plT (R : List Tn) (q : Pl) : Prop := ∃ r ∈ R, ∃ e ∈ r.es, q = (e.2, r.id, e.1)
/-- names of a row differ, sheets are empty, who stands in whom -/
structure Gr (R : List Tn) : Prop where
  nm : ∀ r ∈ R, (r.es.map (·.1)).Nodup
  shd : ∀ r ∈ R, r.sh = true → r.es = []
  gr : Wm (idT R) (dwT R) (plT R) noX
structure Wf (N : List Str) (R : List Tn) (last : Int) (m : Nat) : Prop where
  root : ∃ a es R', R = ⟨0, a, false, es⟩ :: R'
  up : (R.map (·.id)).Pairwise (· < ·)
  le : ∀ r ∈ R, 0 ≤ r.id ∧ r.id ≤ last
  few : R.length ≤ m + 1
  big : last ≤ 2 * m
  ent : ∀ r ∈ R, r.es.length ≤ m ∧ ∀ e ∈ r.es, e.1 ∈ N ∧ e.2 ∈ R.map (·.id)
  g : Gr R
theorem Wf.ne {N : List Str} {R : List Tn} {last : Int} {m : Nat} (h : Wf N R last m) : R ≠ [] := by
  obtain ⟨a, es, R', rfl⟩ := h.root
  exact fun z => nomatch z
theorem Wf.nd {N : List Str} {R : List Tn} {last : Int} {m : Nat} (h : Wf N R last m) : (R.map (·.id)).Nodup := h.up.imp fun z e => by omega
theorem Wf.sorted {N : List Str} {R : List Tn} {last : Int} {m : Nat} (h : Wf N R last m) : sortI (R.map (·.id)) = R.map (·.id) := (sortI_one (List.Perm.refl _) (h.up.imp fun z => by omega)).symm
abbrev eT (ds : List (Key × PyData)) (top : Int) (a0 : Addr) (R : List Tn) (last : Int) (x5 x6 x8 x9 x10 : Option Sl) : SEnv := [some (.o true (.k ds)), some (.d (.int top)), some (.o false (.ot (tT a0 R))), some (.o false (.k (R.map tK))), some (.d (.int last)), x5, x6, none, x8, x9, x10, none]
/-- the rows' ids, in their order -/
theorem ids_it {N : List Str} {ds : List (Key × PyData)} {top last : Int} {a0 : Addr} {R : List Tn} {m : Nat} {x5 x6 x8 x9 x10 : Option Sl} {Ex : XP} {P : List PyData → SEnv → Prop} (w : Wf N R last m) (hm : m < 60) (k : P (R.map fun r => .int r.id) (eT ds top a0 R last x5 x6 x8 x9 x10)) :
    wIt (wCB sortT (wCons (wVar 2) wNil)) Ex (eT ds top a0 R last x5 x6 x8 x9 x10) P := by
  have few := w.few
  pv_short
  refine Exists.intro [Vw.xk (R.map fun r => (.inl r.id : Key))] (And.intro ?_ ?_)
  · show ((tT a0 R).vw.bind fun w => (some []).map fun ws => w :: ws) = _
    rw [vw_T w.ne]; rfl
  show ob ((numK (R.map fun r => (.inl r.id : Key))).bind fun ns => if ns.length < 64 then some (Rv.lst ((sortI ns).map .int)) else none) _
  rw [numK_R]
  refine Exists.intro _ (And.intro (if_pos (by rw [List.length_map]; omega)) ?_)
  rw [w.sorted, List.map_map]
  exact Exists.intro _ (And.intro rfl k)
theorem eq_str {neg : Bool} (x y : Str) : eqG neg (.d (.str x)) (.d (.str y)) = some (.val (.bool (if neg then !PyData.eqv (.str x) (.str y) else PyData.eqv (.str x) (.str y)))) := by
  show (if SeqAt.shaped (.str x) && SeqAt.shaped (.str y) || strs2 (.str x) (.str y) then _ else none) = _
  rw [if_pos (by rw [Bool.or_eq_true]; exact .inr rfl)]
theorem eq_kS {neg : Bool} (x b : Bool) : eqG neg (.d (kS x)) (.d (kS b)) = some (.val (.bool (if neg then !PyData.eqv (kS x) (kS b) else PyData.eqv (kS x) (kS b)))) := by
  cases x <;> cases b <;> exact eq_str _ _
theorem kS_eqv (x b : Bool) : PyData.eqv (kS x) (kS b) = (x == b) := by cases x <;> cases b <;> decide +kernel
abbrev dS (R : List Tn) (b : Bool) : List Tn := R.filter fun r => r.sh == b
theorem ids_lc {N : List Str} {ds : List (Key × PyData)} {top last : Int} {a0 : Addr} {R : List Tn} {m : Nat} {x5 x6 x8 x9 x10 : Option Sl} {Ex : XP} {P : DL.R → SEnv → Prop} (b : Bool) (s : Str) (hs : kS b = .str s) (w : Wf N R last m) (hm : m < 60)
    (k : P (.n (.l ((dS R b).map fun r => .int r.id))) (eT ds top a0 R last x5 x6 x8 x9 x10)) :
    wLc (wIt (wCB sortT (wCons (wVar 2) wNil))) (gN 7) (wB (wOp eqF (wOp idxF (wVar 3) (wVar 7)) (wC (.str s)))) (wVar 7) [7] Ex (eT ds top a0 R last x5 x6 x8 x9 x10) P := by
  refine ids_it w hm ?_
  have few := w.few
  refine lc_of (g := fun r : Tn => .int r.id) (δf := eT ds top a0 R last x5 x6 x8 x9 x10) (fun r => r.sh == b) (fun r => .int r.id) rfl (by rw [sizeLine_eq]; simp; omega) (fun r mr Q Q' h1 h2 => ?_) fun δ' h' => ?_
  · pv_short
    refine Exists.intro _ (And.intro (show ((some (lookD (R.map tK) (.inl r.id : Key))).bind id).map Rv.val = _ by rw [look_K w.nd mr]; rfl) ?_)
    pv_short
    rw [← hs]
    refine Exists.intro _ (And.intro (eq_kS (neg := false) r.sh b) ?_)
    refine Exists.intro (r.sh == b) (And.intro (by show isB (.d (.bool (PyData.eqv (kS r.sh) (kS b)))) = _; rw [kS_eqv]; rfl) ?_)
    show if (r.sh == b) = true then wVar 7 Ex0 _ Q else Q' _
    refine ite2 (fun e => ?_) (fun e => ?_)
    · exact Exists.intro _ (And.intro rfl (Exists.intro _ (And.intro rfl (h1 e _ rfl))))
    · exact h2 (by simpa using e) _ rfl
  · rw [List.nil_append, h']
    exact k
end V23
set_option Elab.async false
set_option linter.all false
set_option maxRecDepth 100000
set_option maxHeartbeats 1000000
set_option autoImplicit false
set_option exponentiation.threshold 20000
namespace V23
open PySem PySem.Spec PyProof.Rows L2 DL
local macro_rules | `(tactic| pv_short) => `(tactic| repeat first | refine Exists.intro _ (And.intro rfl ?_) | refine ifT rfl ?_ | refine ifF rfl ?_ | refine Exists.intro _ (And.intro (if_pos (by first | assumption | decide | exact ⟨by assumption, by decide⟩ | exact ⟨by assumption, by assumption⟩)) ?_) | refine And.intro (show List.length _ ≤ sizeLine from Nat.le_of_ble_eq_true rfl) ?_ | refine And.intro (Nat.le_of_ble_eq_true rfl) ?_)
theorem child_T {R : List Tn} {a0 : Addr} (nd : (R.map (·.id)).Nodup) {i : Nat} {r : Tn} (h : R[i]? = some r) : childR (tT a0 R) 2 [] (.inl r.id) = some (.n (.al r.a 2 [.inl r.id])) := by
  show (((R.map tO).findIdx? fun q => decide (q.1 = (.inl r.id : Key))).map fun i => ((.inl r.id : Key), i)).bind _ = _
  rw [idx_at nd h]
  show ((R.map tO)[i]?).map _ = _
  rw [List.getElem?_map, h]; rfl
theorem at_T {R : List Tn} {a0 : Addr} (nd : (R.map (·.id)).Nodup) {i : Nat} {r : Tn} (h : R[i]? = some r) : (tT a0 R).at [.inl r.id] = some (tU r) := by
  show (chN true (R.map tO) (.inl r.id)).bind _ = _
  rw [show chN true (R.map tO) (.inl r.id) = (R.map tO).findIdx? (fun q => decide (q.1 = (.inl r.id : Key))) from rfl, idx_at nd h]
  show ((R.map tO)[i]?).bind _ = _
  rw [List.getElem?_map, h]; rfl
theorem al_T {R : List Tn} {a0 : Addr} {b : Bool} {δ : SEnv} (nd : (R.map (·.id)).Nodup) {i : Nat} {r : Tn} (h : R[i]? = some r) (e : δ[2]? = some (some (.o b (.ot (tT a0 R))))) : alAt δ r.a 2 [.inl r.id] = some (tU r) := by
  unfold alAt
  rw [e]
  show ((tT a0 R).at [.inl r.id]).bind _ = _
  rw [at_T nd h]
  exact if_pos rfl
theorem idx_map {α : Type} {f : α → PyData} {xs : List α} {j : Int} (h0 : 0 ≤ j) (h1 : j < (xs.length : Nat)) : ∃ x ∈ xs, idxF (.d (.list (xs.map f))) (.d (.int j)) = some (.val (f x)) := by
  obtain ⟨n, rfl⟩ := Int.eq_ofNat_of_zero_le h0
  have hn : n < xs.length := by omega
  refine ⟨xs[n], List.getElem_mem hn, ?_⟩
  show (atI (xs.map f) (n : Int)).map Rv.val = _
  rw [atI_nat (v := f xs[n]) (by rw [List.getElem?_map, List.getElem?_eq_getElem hn]; rfl)]; rfl
theorem any_es {nm : Str} : ∀ es : List (Str × Int), ((es.map tE).any fun q => decide (q.1 = (.inr nm : Key))) = (lookD (es.map kE) (.inr nm : Key)).isSome
  | [] => rfl
  | e :: es => by
    have ih := any_es (nm := nm) es
    unfold lookD at *
    rw [List.map_cons, List.map_cons, List.any_cons]
    by_cases h : (Sum.inr e.1 : Key) = .inr nm
    · rw [List.find?_cons_of_pos (by simpa using h), decide_eq_true h]; rfl
    · rw [List.find?_cons_of_neg (by simpa using h), decide_eq_false h, Bool.false_or]; exact ih
theorem put_T {R : List Tn} {a0 : Addr} (nd : (R.map (·.id)).Nodup) {i : Nat} {r r' : Tn} (h : R[i]? = some r) (e : r'.id = r.id) : (tT a0 R).put [.inl r.id] (tU r') = tT a0 (R.set i r') := by
  rw [put_cons (i := i) (q := tO r) (show chN true (R.map tO) (.inl r.id) = _ from idx_at nd h) (by rw [List.getElem?_map, h]; rfl), put_nil]
  show OT.n a0 true _ = OT.n a0 true _
  rw [List.map_set]
  show OT.n a0 true ((R.map tO).set i (.inl r.id, tU r')) = OT.n a0 true ((R.map tO).set i (.inl r'.id, tU r'))
  rw [e]
theorem set_same {α β : Type} {f : α → β} {xs : List α} {i : Nat} {x y : α} (h : xs[i]? = some x) (e : f y = f x) : (xs.set i y).map f = xs.map f := by
  rw [List.map_set, e]
  refine List.ext_getElem? fun j => ?_
  by_cases hj : j = i
  · subst hj
    rw [List.getElem?_set_self (by rw [List.length_map]; exact (List.getElem?_eq_some_iff.mp h).1), List.getElem?_map, h]; rfl
  · rw [List.getElem?_set_ne (Ne.symm hj)]
theorem new_id {R : List Tn} {z : Int} (h : ∀ r ∈ R, r.id < z) : ((R.map tO).any fun q => decide (q.1 = (.inl z : Key))) = false := by
  rw [List.any_eq_false]
  intro q hq
  obtain ⟨r, mr, rfl⟩ := List.mem_map.mp hq
  have := h r mr
  simpa using inl_ne (a := r.id) (b := z) (by omega)
theorem new_kd {R : List Tn} {z : Int} {d : PyData} (h : ∀ r ∈ R, r.id < z) : putD (R.map tK) (.inl z : Key) d = R.map tK ++ [(.inl z, d)] := by
  unfold putD
  rw [if_neg]
  rw [Bool.not_eq_true, List.any_eq_false]
  intro q hq
  obtain ⟨r, mr, rfl⟩ := List.mem_map.mp hq
  have := h r mr
  simpa using inl_ne (a := r.id) (b := z) (by omega)
theorem in_set {α : Type} {R : List α} {i : Nat} {r r' r0 : α} (h : R[i]? = some r) (m : r0 ∈ R) : r0 = r ∨ r0 ∈ R.set i r' := by
  obtain ⟨j, hj⟩ := List.mem_iff_getElem?.mp m
  by_cases e : j = i
  · subst e; rw [h] at hj; cases hj; exact .inl rfl
  · exact .inr (List.mem_of_getElem? (by rw [List.getElem?_set_ne (fun z => e z.symm)]; exact hj))
theorem set_in {α : Type} {R : List α} {i : Nat} {r r' : α} (h : R[i]? = some r) : r' ∈ R.set i r' :=
  List.mem_of_getElem? (List.getElem?_set_self (List.getElem?_eq_some_iff.mp h).1)
theorem plT_set {R : List Tn} {i : Nat} {r : Tn} {nm : Str} {z : Int} (h : R[i]? = some r) {q : Pl} : plT (R.set i ⟨r.id, r.a, r.sh, r.es ++ [(nm, z)]⟩) q ↔ plT R q ∨ q = (z, r.id, nm) := by
  constructor
  · rintro ⟨r0, m, e, me, rfl⟩
    rcases List.mem_or_eq_of_mem_set m with m | rfl
    · exact .inl ⟨r0, m, e, me, rfl⟩
    · rcases List.mem_append.mp me with me | me
      · exact .inl ⟨r, List.mem_of_getElem? h, e, me, rfl⟩
      · rw [List.mem_singleton] at me; subst me; exact .inr rfl
  · rintro (⟨r0, m, e, me, rfl⟩ | rfl)
    · rcases in_set (r' := (⟨r.id, r.a, r.sh, r.es ++ [(nm, z)]⟩ : Tn)) h m with rfl | m
      · exact ⟨_, set_in h, e, List.mem_append_left _ me, rfl⟩
      · exact ⟨r0, m, e, me, rfl⟩
    · exact ⟨_, set_in h, (nm, z), List.mem_append_right _ (List.mem_singleton.mpr rfl), rfl⟩
theorem dwT_set {R : List Tn} {i : Nat} {r : Tn} {es : List (Str × Int)} (h : R[i]? = some r) {n : Int} : dwT (R.set i ⟨r.id, r.a, r.sh, es⟩) n ↔ dwT R n := by
  constructor
  · rintro ⟨r0, m, e1, e2⟩
    rcases List.mem_or_eq_of_mem_set m with m | rfl
    · exact ⟨r0, m, e1, e2⟩
    · exact ⟨r, List.mem_of_getElem? h, e1, e2⟩
  · rintro ⟨r0, m, e1, e2⟩
    rcases in_set (r' := (⟨r.id, r.a, r.sh, es⟩ : Tn)) h m with rfl | m
    · exact ⟨_, set_in h, e1, e2⟩
    · exact ⟨r0, m, e1, e2⟩
theorem row_one {R : List Tn} (nd : (R.map (·.id)).Nodup) {a b : Tn} (ha : a ∈ R) (hb : b ∈ R) (e : a.id = b.id) : a = b := by
  obtain ⟨i, hi⟩ := List.mem_iff_getElem?.mp ha
  obtain ⟨j, hj⟩ := List.mem_iff_getElem?.mp hb
  have h1 : (R.map (·.id))[i]? = some a.id := by rw [List.getElem?_map, hi]; rfl
  have h2 : (R.map (·.id))[j]? = some a.id := by rw [List.getElem?_map, hj, e]; rfl
  have := (List.getElem?_inj (List.getElem?_eq_some_iff.mp h1).1 nd).mp (h1.trans h2.symm)
  subst this
  rw [hi] at hj; cases hj; rfl
theorem no_at {R : List Tn} (nd : (R.map (·.id)).Nodup) {r : Tn} (m : r ∈ R) {nm : Str} (hn : nm ∉ r.es.map (·.1)) : ∀ a, plT R a → ¬ atP r.id nm a := by
  rintro _ ⟨r0, m0, e, me, rfl⟩ ⟨z1, z2⟩
  have := row_one nd m0 m z1
  subst this
  exact hn (List.mem_map.mpr ⟨e, me, z2⟩)
theorem nm_app {es : List (Str × Int)} {nm : Str} {z : Int} (h : (es.map (·.1)).Nodup) (hn : nm ∉ es.map (·.1)) : ((es ++ [(nm, z)]).map (·.1)).Nodup := by
  rw [List.map_append]
  refine List.nodup_append.mpr ⟨h, by simp, fun a ha b hb z => hn ?_⟩
  rw [List.map_singleton, List.mem_singleton] at hb
  subst hb z; exact ha
theorem Gr.more {R : List Tn} {i : Nat} {r : Tn} {nm : Str} {a : Addr} {x : Bool} {m : Int} (g : Gr R) (nd : (R.map (·.id)).Nodup) (h : R[i]? = some r) (hs : r.sh = false) (hn : nm ∉ r.es.map (·.1)) (hm : m ∉ R.map (·.id)) : Gr (R.set i ⟨r.id, r.a, r.sh, r.es ++ [(nm, m)]⟩ ++ [⟨m, a, x, []⟩]) := by
  have mr := List.mem_of_getElem? h
  refine ⟨fun q hq => ?_, fun q hq he => ?_, ?_⟩
  · rcases List.mem_append.mp hq with hq | hq
    · rcases List.mem_or_eq_of_mem_set hq with hq | rfl
      · exact g.nm q hq
      · exact nm_app (g.nm r mr) hn
    · rw [List.mem_singleton] at hq; subst hq; exact List.nodup_nil
  · rcases List.mem_append.mp hq with hq | hq
    · rcases List.mem_or_eq_of_mem_set hq with hq | rfl
      · exact g.shd q hq he
      · rw [hs] at he; cases he
    · rw [List.mem_singleton] at hq; subst hq; rfl
  · refine (g.gr.make (m := m) (p := r.id) (x := nm) (b := x = false) ⟨r, mr, rfl, hs⟩ hm (no_at nd mr hn)).congr (fun n => ?_) (fun n => ?_) (fun q => ?_) fun _ => Iff.rfl
    · show _ ↔ n ∈ List.map _ _
      rw [List.map_append, set_same (f := fun q : Tn => q.id) (y := ⟨r.id, r.a, r.sh, r.es ++ [(nm, m)]⟩) h rfl, List.mem_append]
      show _ ↔ _ ∨ n ∈ [m]
      rw [List.mem_singleton]
    · constructor
      · rintro (h1 | ⟨rfl, h1⟩)
        · obtain ⟨d, md, e1, e2⟩ := (dwT_set (es := r.es ++ [(nm, m)]) h).mpr h1
          exact ⟨d, List.mem_append_left _ md, e1, e2⟩
        · exact ⟨_, List.mem_append_right _ (List.mem_singleton.mpr rfl), rfl, h1⟩
      · rintro ⟨d, md, e1, e2⟩
        rcases List.mem_append.mp md with md | md
        · exact .inl ((dwT_set (es := r.es ++ [(nm, m)]) h).mp ⟨d, md, e1, e2⟩)
        · rw [List.mem_singleton] at md; subst md; exact .inr ⟨e1.symm, e2⟩
    · have hno := no_at nd mr hn
      constructor
      · rintro (h1 | h1)
        · obtain ⟨d, md, z⟩ := (plT_set (nm := nm) (z := m) h).mpr (.inl h1.1)
          exact ⟨d, List.mem_append_left _ md, z⟩
        · obtain ⟨d, md, z⟩ := (plT_set (nm := nm) (z := m) h).mpr (.inr h1)
          exact ⟨d, List.mem_append_left _ md, z⟩
      · rintro ⟨d, md, e, me, rfl⟩
        rcases List.mem_append.mp md with md | md
        · rcases (plT_set (nm := nm) (z := m) h).mp ⟨d, md, e, me, rfl⟩ with z | z
          · exact .inl ⟨z, hno _ z⟩
          · exact .inr z
        · rw [List.mem_singleton] at md; subst md; cases me
theorem Gr.link {R : List Tn} {i : Nat} {r s : Tn} {nm : Str} (g : Gr R) (nd : (R.map (·.id)).Nodup) (h : R[i]? = some r) (hs : r.sh = false) (hn : nm ∉ r.es.map (·.1)) (ms : s ∈ R) (hss : s.sh = true) : Gr (R.set i ⟨r.id, r.a, r.sh, r.es ++ [(nm, s.id)]⟩) := by
  have mr := List.mem_of_getElem? h
  refine ⟨fun q hq => ?_, fun q hq he => ?_, ?_⟩
  · rcases List.mem_or_eq_of_mem_set hq with hq | rfl
    · exact g.nm q hq
    · exact nm_app (g.nm r mr) hn
  · rcases List.mem_or_eq_of_mem_set hq with hq | rfl
    · exact g.shd q hq he
    · rw [hs] at he; cases he
  · have hno := no_at nd mr hn
    refine (g.gr.link (s := s.id) (q := r.id) (y := nm) ⟨r, mr, rfl, hs⟩ (List.mem_map.mpr ⟨s, ms, rfl⟩) ?_ hno).congr (fun n => ?_) (fun n => (dwT_set h).symm) (fun q => ?_) fun _ => Iff.rfl
    · rintro ⟨d, md, e1, e2⟩
      have := row_one nd md ms e1
      subst this
      rw [hss] at e2; cases e2
    · show _ ↔ n ∈ List.map _ _
      rw [set_same (f := fun q : Tn => q.id) (y := ⟨r.id, r.a, r.sh, r.es ++ [(nm, s.id)]⟩) h rfl]
    · rw [plT_set h]
      constructor
      · rintro (h1 | h1)
        · exact .inl h1.1
        · exact .inr h1
      · rintro (h1 | h1)
        · exact .inl ⟨h1, hno _ h1⟩
        · exact .inr h1
theorem look_no {es : List (Str × Int)} {nm : Str} (h : (!(lookD (es.map kE) (.inr nm : Key)).isSome) = true) : nm ∉ es.map (·.1) := by
  intro m
  obtain ⟨e, me, rfl⟩ := List.mem_map.mp m
  rw [← any_es] at h
  have : ((es.map tE).any fun q => decide (q.1 = (.inr e.1 : Key))) = true := List.any_eq_true.mpr ⟨tE e, List.mem_map.mpr ⟨e, me, rfl⟩, by simp⟩
  rw [this] at h; cases h
theorem Wf.more {N : List Str} {R : List Tn} {last last2 : Int} {m i : Nat} {r r' : Tn} {nm : Str} {a : Addr} {x : Bool} (w : Wf N R last m) (hr : R[i]? = some r) (er : r' = ⟨r.id, r.a, r.sh, r.es ++ [(nm, last2)]⟩) (hsh : r.sh = false) (hno : nm ∉ r.es.map (·.1)) (hn : nm ∈ N) (h1 : last < last2) (h2 : last2 ≤ last + 2) : Wf N (R.set i r' ++ [⟨last2, a, x, []⟩]) last2 (m + 1) := by
  have ids : (R.set i r').map (·.id) = R.map (·.id) := set_same hr (by rw [er])
  have ids2 : (R.set i r' ++ [(⟨last2, a, x, []⟩ : Tn)]).map (·.id) = R.map (·.id) ++ [last2] := by rw [List.map_append, ids]; rfl
  have hl2 : last2 ∉ R.map (·.id) := fun z => by
    obtain ⟨y, my, ey⟩ := List.mem_map.mp z
    have := w.le y my
    omega
  have gg : Gr (R.set i r' ++ [⟨last2, a, x, []⟩]) := by subst er; exact w.g.more w.nd hr hsh hno hl2
  refine ⟨?_, ?_, ?_, ?_, ?_, ?_, gg⟩
  · obtain ⟨a1, es, R', rfl⟩ := w.root
    cases i with
    | zero => simp at hr; subst hr er; exact ⟨_, _, R' ++ [⟨last2, a, x, []⟩], rfl⟩
    | succ i => exact ⟨a1, es, R'.set i r' ++ [⟨last2, a, x, []⟩], rfl⟩
  · rw [ids2, List.pairwise_append]
    refine ⟨w.up, by simp, fun y hy z hz => ?_⟩
    rw [List.mem_singleton] at hz; subst hz
    obtain ⟨q, mq, rfl⟩ := List.mem_map.mp hy
    have := w.le q mq
    omega
  · intro q hq
    have : q.id ∈ R.map (·.id) ++ [last2] := by rw [← ids2]; exact List.mem_map.mpr ⟨q, hq, rfl⟩
    rcases List.mem_append.mp this with z | z
    · obtain ⟨y, my, ey⟩ := List.mem_map.mp z
      have := w.le y my
      omega
    · rw [List.mem_singleton] at z
      obtain ⟨a1, es, R', e⟩ := w.root
      have := w.le ⟨0, a1, false, es⟩ (by rw [e]; exact List.mem_cons_self ..)
      have : 0 ≤ last := this.2
      omega
  · rw [List.length_append, List.length_set]
    have := w.few
    show R.length + 1 ≤ _
    omega
  · have := w.big
    omega
  · intro q hq
    rw [ids2]
    rcases List.mem_append.mp hq with hq | hq
    · rcases List.mem_or_eq_of_mem_set hq with hq | hq
      · obtain ⟨g1, g2⟩ := w.ent q hq
        exact ⟨by omega, fun e he => ⟨(g2 e he).1, List.mem_append_left _ (g2 e he).2⟩⟩
      · subst hq
        obtain ⟨g1, g2⟩ := w.ent r (List.mem_of_getElem? hr)
        subst er
        refine ⟨by rw [List.length_append]; show r.es.length + 1 ≤ _; omega, fun e he => ?_⟩
        rcases List.mem_append.mp he with he | he
        · exact ⟨(g2 e he).1, List.mem_append_left _ (g2 e he).2⟩
        · rw [List.mem_singleton] at he; subst he
          exact ⟨hn, List.mem_append_right _ (List.mem_singleton.mpr rfl)⟩
    · rw [List.mem_singleton] at hq; subst hq
      exact ⟨Nat.zero_le _, fun e he => by cases he⟩
theorem Wf.wider {N : List Str} {R : List Tn} {last : Int} {m : Nat} (w : Wf N R last m) : Wf N R last (m + 1) :=
  ⟨w.root, w.up, w.le, by have := w.few; omega, by have := w.big; omega, fun r mr => ⟨by have := (w.ent r mr).1; omega, (w.ent r mr).2⟩, w.g⟩
section
variable {top last : Int} {a0 : Addr} {R : List Tn} {m n : Nat} {ds : List (Key × PyData)} {x5 x6 x8 x9 x10 : Option Sl} {d : DEnds}
theorem turn_8 (hT : Tp n ds) (hb : n + 1 ≤ 1000000) (hlt : ∀ r ∈ R, r.id < last) (few : R.length ≤ 40)
    (k : ∀ ds' a x, Tp (n + 1) ds' → d.nx (eT ds' top a0 (R ++ [⟨last, a, x, []⟩]) last x5 x6 x8 x9 x10)) :
    t_tree_8 C_pick d (eT ds top a0 R last x5 x6 x8 x9 x10) := by
  unfold t_tree_8
  pv_short
  refine pick_at (m := 3) hT hb (by decide) (by decide +kernel) rfl (fun Q q => q) ?_
  intro ds2 j hT2 h0 h1
  pv_short
  obtain ⟨x, _, ex⟩ := idx_map (f := kS) (xs := [false, true, false]) h0 h1
  refine Exists.intro _ (And.intro ex ?_)
  pv_short
  refine And.intro ⟨rfl, Nat.le_of_ble_eq_true rfl⟩ ?_
  refine And.intro (fun r' hr' => by rw [List.mem_singleton] at hr'; subst hr'; exact ⟨_, rfl⟩) ?_
  pv_short
  refine .inr ?_
  pv_short
  intro a
  pv_short
  refine Exists.intro _ (And.intro (show putN (tT a0 R) (.inl last) (.n a true []) = some (.n a0 true (R.map tO ++ [(.inl last, .n a true [])])) from ?_) ?_)
  · show (if (R.map tO).length < sizeLine then (if _ then _ else _) else none) = _
    rw [if_pos (by rw [List.length_map, sizeLine_eq]; omega), if_neg (by rw [new_id hlt]; decide)]
  pv_short
  refine And.intro (fun _ h => by cases h) ?_
  pv_short
  refine .inl ?_
  pv_short
  refine Exists.intro _ (And.intro (show putF (.k (R.map tK)) (.int last) (kS x) = some (.k (R.map tK ++ [(.inl last, kS x)])) from ?_) ?_)
  · show (if (R.map tK).length < sizeLine then some (Cont.k (putD (R.map tK) (.inl last) (kS x))) else none) = _
    rw [if_pos (by rw [List.length_map, sizeLine_eq]; omega), new_kd hlt]
  have z := k ds2 a x hT2
  simp only [eT, tT, List.map_append] at z
  exact z
theorem turn_9 {last2 : Int} {i : Nat} {r : Tn} {nm : Str} (hr : R[i]? = some r) (hs : r.sh = false) (hn : nm ∈ nm5) (hf : (!(lookD (r.es.map kE) (.inr nm : Key)).isSome) = true) (w : Wf nm5 R last m) (hm : m < 30) (hT : Tp n ds) (hb : n + 1 ≤ 1000000) (h1 : last < last2) (h2 : last2 ≤ last + 2)
    (k : ∀ R' last' ds' n' x6 x8 x9, Wf nm5 R' last' (m + 1) → Tp n' ds' → n' ≤ n + 1 → d.nx (eT ds' top a0 R' last' x5 x6 x8 x9 x10)) :
    t_tree_9 C_pick d (eT ds top a0 R last2 x5 x6 (some (.o false (.al r.a 2 [.inl r.id]))) (some (.d (.str nm))) x10) := by
  unfold t_tree_9
  have few := w.few
  have hany : ((r.es.map tE).any fun q => decide (q.1 = (.inr nm : Key))) = false := by rw [any_es]; simpa using hf
  have hel := (w.ent r (List.mem_of_getElem? hr)).1
  pv_short
  refine .inr ?_
  pv_short
  refine Exists.intro (2, [.inl r.id], tU r) (And.intro ?_ ?_)
  · show (alAt _ r.a 2 [.inl r.id]).map _ = _
    rw [al_T (b := false) w.nd hr rfl]; rfl
  intro a1
  pv_short
  refine Exists.intro _ (And.intro (show putN (tU r) (.inr nm) (.d (.int last2)) = some (tU ⟨r.id, r.a, r.sh, r.es ++ [(nm, last2)]⟩) from ?_) ?_)
  · show (if (r.es.map tE).length < sizeLine then (if _ then _ else _) else none) = _
    rw [if_pos (by rw [List.length_map, sizeLine_eq]; omega), if_neg (by rw [hany]; decide)]
    show some (OT.n r.a true _) = some (OT.n r.a true _)
    rw [List.map_append]; rfl
  pv_short
  have hk : R.map tK = (R.set i ⟨r.id, r.a, r.sh, r.es ++ [(nm, last2)]⟩).map tK := (set_same (f := tK) (y := ⟨r.id, r.a, r.sh, r.es ++ [(nm, last2)]⟩) hr rfl).symm
  show t_tree_8 C_pick d [some (.o true (.k ds)), some (.d (.int top)), some (.o false (.ot ((tT a0 R).put [.inl r.id] (tU ⟨r.id, r.a, r.sh, r.es ++ [(nm, last2)]⟩)))), some (.o false (.k (R.map tK))), some (.d (.int last2)), x5, x6, none, some (.o false (.al r.a 2 [.inl r.id])), some (.d (.str nm)), x10, none]
  rw [put_T (r' := ⟨r.id, r.a, r.sh, r.es ++ [(nm, last2)]⟩) w.nd hr rfl, hk]
  refine turn_8 hT hb (fun q hq => ?_) (by rw [List.length_set]; omega) fun ds' a x hT' => k _ _ _ _ _ _ _ (w.more hr rfl hs (look_no hf) hn h1 h2) hT' (Nat.le_refl _)
  have : q.id ∈ (R.set i (⟨r.id, r.a, r.sh, r.es ++ [(nm, last2)]⟩ : Tn)).map (·.id) := List.mem_map.mpr ⟨q, hq, rfl⟩
  rw [set_same (f := fun q : Tn => q.id) (y := ⟨r.id, r.a, r.sh, r.es ++ [(nm, last2)]⟩) hr rfl] at this
  obtain ⟨y, my, ey⟩ := List.mem_map.mp this
  have := w.le y my
  omega
/-- a turn from the name on -/
theorem turn_11 {i : Nat} {r : Tn} {nm : Str} (hr : R[i]? = some r) (hs : r.sh = false) (hn : nm ∈ nm5) (w : Wf nm5 R last m) (hm : m < 30) (hT : Tp n ds) (hb : n + 2 ≤ 1000000)
    (k : ∀ R' last' ds' n' x6 x8 x9, Wf nm5 R' last' (m + 1) → Tp n' ds' → n' ≤ n + 2 → d.nx (eT ds' top a0 R' last' x5 x6 x8 x9 x10)) :
    t_tree_11 C_pick d (eT ds top a0 R last x5 x6 (some (.o false (.al r.a 2 [.inl r.id]))) (some (.d (.str nm))) x10) := by
  unfold t_tree_11
  pv_short
  refine Exists.intro (Vw.k (r.es.map kE)) (And.intro ?_ ?_)
  · show (alAt _ r.a 2 [.inl r.id]).bind OT.vw = _
    rw [al_T (b := false) w.nd hr rfl]
    exact vw_U r
  refine Exists.intro _ (And.intro (show inT true _ _ = some (.val (.bool (!(lookD (r.es.map kE) (.inr nm : Key)).isSome))) from rfl) ?_)
  pv_short
  refine ite2 (fun e => ?_) (fun e => ?_)
  · unfold t_tree_10
    pv_short
    refine pick_at (m := 4) hT (by omega) (by decide) (by decide +kernel) rfl (fun Q q => q) ?_
    intro ds2 j2 hT2 h02 h12
    pv_short
    refine turn_9 hr hs hn e w hm hT2 (by omega) (by split <;> omega) (by split <;> omega) fun R' last' ds' n' x6 x8 x9 w' t' l' => k R' last' ds' n' x6 x8 x9 w' t' (by omega)
  · exact k R last ds n _ _ _ w.wider hT (by omega)
theorem turn_14 (w : Wf nm5 R last m) (hm : m < 30) (hT : Tp n ds) (hb : n + 4 ≤ 1000000)
    (k : ∀ R' last' ds' n' x6 x8 x9, Wf nm5 R' last' (m + 1) → Tp n' ds' → n' ≤ n + 4 → d.nx (eT ds' top a0 R' last' x5 x6 x8 x9 x10)) :
    t_tree_14 C_pick d (eT ds top a0 R last x5 x6 x8 x9 x10) := by
  unfold t_tree_14 wSeq wSet
  refine ids_lc (Ex := d.ex) false "drawer" rfl w (by omega) ?_
  pv_short
  unfold t_tree_13
  have hl : 0 < (dS R false).length := by
    obtain ⟨a, es, R', rfl⟩ := w.root
    show 0 < (List.filter _ (_ :: _)).length
    exact Nat.succ_pos _
  have hl2 : (dS R false).length ≤ 31 := Nat.le_trans (List.length_filter_le _ _) (Nat.le_trans w.few (by omega))
  pv_short
  refine pick_at (m := (((dS R false).map fun r => PyData.int r.id).length : Nat)) hT (by omega) (by rw [List.length_map]; omega) ?_ rfl ?_ ?_
  · rw [List.length_map]; exact Nat.lt_of_le_of_lt (Nat.log2_le_self _) (by omega)
  · intro Q q
    pv_short
    exact q
  intro ds' j hT' h0 h1
  pv_short
  obtain ⟨r, mr, er⟩ := idx_map (f := fun r : Tn => PyData.int r.id) (xs := dS R false) h0 (by rw [List.length_map] at h1; exact h1)
  refine Exists.intro _ (And.intro er ?_)
  obtain ⟨mr, hsh⟩ := List.mem_filter.mp mr
  obtain ⟨i, hi⟩ := List.mem_iff_getElem?.mp mr
  pv_short
  refine Exists.intro _ (And.intro (child_T w.nd hi) ?_)
  pv_short
  unfold t_tree_12
  pv_short
  refine pick_at (m := 5) hT' (by omega) (by decide) (by decide +kernel) rfl (fun Q q => q) ?_
  intro ds2 j2 hT2 h02 h12
  pv_short
  obtain ⟨nm, mn, en⟩ := idx_map (f := fun s : Str => PyData.str s) (xs := nm5) h02 h12
  refine Exists.intro _ (And.intro en ?_)
  pv_short
  refine turn_11 hi (by simpa using hsh) mn w hm hT2 (by omega) fun R' last' ds' n' x6 x8 x9 w' t' l' => k R' last' ds' n' x6 x8 x9 w' t' (by omega)
end
end V23
set_option Elab.async false
set_option linter.all false
set_option maxRecDepth 100000
set_option maxHeartbeats 1000000
set_option autoImplicit false
set_option exponentiation.threshold 20000
namespace V23
open PySem PySem.Spec PyProof.Rows L2 DL
local macro_rules | `(tactic| pv_short) => `(tactic| repeat first | refine Exists.intro _ (And.intro rfl ?_) | refine ifT rfl ?_ | refine ifF rfl ?_ | refine Exists.intro _ (And.intro (if_pos (by first | assumption | decide | exact ⟨by assumption, by decide⟩ | exact ⟨by assumption, by assumption⟩)) ?_) | refine And.intro (show List.length _ ≤ sizeLine from Nat.le_of_ble_eq_true rfl) ?_ | refine And.intro (Nat.le_of_ble_eq_true rfl) ?_)
abbrev rD (r : Tn) : PyData := .tuple [.int r.id, kS r.sh, .tuple (sortIt (r.es.map kE))]
abbrev trD (R : List Tn) (nx : Int) : PyData := .tuple [.tuple (R.map rD), .int nx]
def C_tree : FSpec := Ct (fun ss => ∃ ds top n, ss = [.o true (.k ds), .d (.int top)] ∧ Tp n ds ∧ n + 60 ≤ 1000000 ∧ 0 ≤ top ∧ top ≤ 13)
  fun ss r ss' => ∃ ds ds' top n n' R last nx, ss = [.o true (.k ds), .d (.int top)] ∧ Tp n ds ∧ ss' = [.o true (.k ds'), .d (.int top)] ∧ Tp n' ds' ∧ n' ≤ n + 60 ∧ r = .d (trD R nx) ∧ Wf nm6 R last 14 ∧ last < nx ∧ nx ≤ 100
theorem nm56 {x : Str} (h : x ∈ nm5) : x ∈ nm6 := by
  unfold nm5 at h; unfold nm6
  simp only [List.mem_cons] at h ⊢
  rcases h with h | h | h | h | h | h
  · exact .inl h
  · exact .inr (.inl h)
  · exact .inr (.inr (.inl h))
  · exact .inr (.inr (.inr (.inl h)))
  · exact .inr (.inr (.inr (.inr (.inl h))))
  · cases h
theorem Wf.to6 {R : List Tn} {last : Int} {m : Nat} (w : Wf nm5 R last m) : Wf nm6 R last m :=
  ⟨w.root, w.up, w.le, w.few, w.big, fun r mr => ⟨(w.ent r mr).1, fun e he => ⟨nm56 ((w.ent r mr).2 e he).1, ((w.ent r mr).2 e he).2⟩⟩, w.g⟩
theorem al_pairs (es : List (Str × Int)) : PySem.W.AllAlike ((es.map kE).map DL.pairD) := by
  rw [List.map_map]
  exact PySem.W.AllAlike.of (enc := DL.pairD ∘ kE) fun e e' => by
    show PySem.W.alike (.tuple [.str e.1, .int e.2]) (.tuple [.str e'.1, .int e'.2]) = true
    simp [PySem.W.alike, PySem.W.alikeAll]
section
variable {top last : Int} {a0 : Addr} {R : List Tn} {m n : Nat} {ds : List (Key × PyData)} {x5 x6 x8 x9 x10 : Option Sl} {d : DEnds}
theorem tree_2 {N : List Str} (w : Wf N R last m) (hm : m < 60) (hT : Tp n ds) (hb : n + 1 ≤ 1000000)
    (k : ∀ ds' j x5 x6 x8 x9 x10 x11, Tp (n + 1) ds' → 0 ≤ j → j < 2 → d.rt (.d (trD R (last + 1 + j))) [some (.o true (.k ds')), some (.d (.int top)), some (.o false (.ot (tT a0 R))), some (.o false (.k (R.map tK))), some (.d (.int last)), x5, x6, none, x8, x9, x10, x11]) :
    t_tree_2 C_pick d (eT ds top a0 R last x5 x6 x8 x9 x10) := by
  unfold t_tree_2 wSeq wSet wLc
  have few := w.few
  refine ids_it w hm ?_
  refine lc_of (g := fun r : Tn => .int r.id) (δf := eT ds top a0 R last x5 x6 x8 x9 x10) (fun _ => true) rD rfl (by rw [sizeLine_eq]; simp; omega) (fun r mr Q Q' h1 h2 => ?_) fun δ' h' => ?_
  · obtain ⟨i, hi⟩ := List.mem_iff_getElem?.mp mr
    have ent := (w.ent r mr).1
    pv_short
    refine Exists.intro _ (And.intro (show ((some (lookD (R.map tK) (.inl r.id : Key))).bind id).map Rv.val = _ by rw [look_K w.nd mr]; rfl) ?_)
    pv_short
    refine Exists.intro _ (And.intro (child_T w.nd hi) ?_)
    refine Exists.intro (Vw.k (r.es.map kE)) (And.intro ?_ ?_)
    · show (alAt _ r.a 2 [.inl r.id]).bind OT.vw = _
      rw [al_T (b := false) w.nd hi rfl]
      exact vw_U r
    pv_short
    refine ⟨al_pairs r.es, fun q hq => ?_, by rw [List.length_map]; omega, ?_⟩
    · obtain ⟨e, _, rfl⟩ := List.mem_map.mp hq
      exact Nat.zero_le _
    pv_short
    exact h1 rfl _ rfl
  · rw [List.nil_append, h', show R.filter (fun _ => true) = R from List.filter_eq_self.mpr fun _ _ => rfl]
    pv_short
    unfold t_tree_1
    pv_short
    refine pick_at (m := 2) hT hb (by decide) (by decide +kernel) rfl (fun Q q => q) ?_
    intro ds' j hT' h0 h1
    pv_short
    exact k ds' j _ _ _ _ _ _ hT' h0 h1
theorem Wf.link {N N' : List Str} {R : List Tn} {last : Int} {m i : Nat} {r s : Tn} {nm : Str} (w : Wf N R last m) (hr : R[i]? = some r) (hsh : r.sh = false) (hno : nm ∉ r.es.map (·.1)) (hN : ∀ x ∈ N, x ∈ N') (hn : nm ∈ N') (ms : s ∈ R) (hss : s.sh = true) : Wf N' (R.set i ⟨r.id, r.a, r.sh, r.es ++ [(nm, s.id)]⟩) last (m + 1) := by
  have hz : s.id ∈ R.map (·.id) := List.mem_map.mpr ⟨s, ms, rfl⟩
  generalize hzz : s.id = z at hz ⊢
  have gg : Gr (R.set i ⟨r.id, r.a, r.sh, r.es ++ [(nm, z)]⟩) := by rw [← hzz]; exact w.g.link w.nd hr hsh hno ms hss
  have ids : (R.set i (⟨r.id, r.a, r.sh, r.es ++ [(nm, z)]⟩ : Tn)).map (·.id) = R.map (·.id) := set_same (f := fun q : Tn => q.id) (y := ⟨r.id, r.a, r.sh, r.es ++ [(nm, z)]⟩) hr rfl
  refine ⟨?_, by rw [ids]; exact w.up, fun q hq => ?_, by rw [List.length_set]; have := w.few; omega, by have := w.big; omega, fun q hq => ?_, gg⟩
  · obtain ⟨a1, es, R', rfl⟩ := w.root
    cases i with
    | zero => simp at hr; subst hr; exact ⟨_, _, R', rfl⟩
    | succ i => exact ⟨a1, es, R'.set i _, rfl⟩
  · have : q.id ∈ R.map (·.id) := by rw [← ids]; exact List.mem_map.mpr ⟨q, hq, rfl⟩
    obtain ⟨y, my, ey⟩ := List.mem_map.mp this
    have := w.le y my
    omega
  · rw [ids]
    rcases List.mem_or_eq_of_mem_set hq with hq | hq
    · obtain ⟨g1, g2⟩ := w.ent q hq
      exact ⟨by omega, fun e he => ⟨hN _ (g2 e he).1, (g2 e he).2⟩⟩
    · subst hq
      obtain ⟨g1, g2⟩ := w.ent r (List.mem_of_getElem? hr)
      refine ⟨by rw [List.length_append]; show r.es.length + 1 ≤ _; omega, fun e he => ?_⟩
      rcases List.mem_append.mp he with he | he
      · exact ⟨hN _ (g2 e he).1, (g2 e he).2⟩
      · rw [List.mem_singleton] at he; subst he
        exact ⟨hn, hz⟩
theorem any_z {es : List (Str × Int)} (h : ∀ e ∈ es, e.1 ∈ nm5) : ((es.map tE).any fun q => decide (q.1 = (.inr "z" : Key))) = false := by
  rw [List.any_eq_false]
  intro q hq
  obtain ⟨e, me, rfl⟩ := List.mem_map.mp hq
  have := h e me
  have ne : e.1 ≠ ("z" : Str) := fun z => by rw [z] at this; revert this; decide +kernel
  simp only [decide_eq_true_eq]
  exact fun z => ne (by injection z)
theorem ids_sh (xs : List Tn) : SeqAt.shaped (.list (xs.map fun r => .int r.id)) = true := by
  have := ints_shaped (xs.map (·.id))
  rw [List.map_map] at this
  exact this
abbrev xI (xs : List Tn) : Option Sl := some (.o false (.l (xs.map fun r => .int r.id)))
theorem log_small {n : Nat} (h : n ≤ 1000) : ((n : Int)).natAbs.log2 < 9000 := Nat.lt_of_le_of_lt (Nat.log2_le_self _) (by omega)
theorem root_in' {N : List Str} {R : List Tn} {last : Int} {m : Nat} (w : Wf N R last m) : 0 < (dS R false).length := by
  obtain ⟨a, es, R', rfl⟩ := w.root
  show 0 < (List.filter _ (_ :: _)).length
  exact Nat.succ_pos _
theorem tree_5 (w : Wf nm5 R last m) (hm : m < 30) (hT : Tp n ds) (hb : n + 4 ≤ 1000000)
    (k : ∀ R ds' n' j x5 x6 x8 x9 x10 x11, Wf nm6 R last (m + 1) → Tp n' ds' → n' ≤ n + 4 → 0 ≤ j → j < 2 → d.rt (.d (trD R (last + 1 + j))) [some (.o true (.k ds')), some (.d (.int top)), some (.o false (.ot (tT a0 R))), some (.o false (.k (R.map tK))), some (.d (.int last)), x5, x6, none, x8, x9, x10, x11]) :
    t_tree_5 C_pick d (eT ds top a0 R last x5 (xI (dS R false)) x8 x9 (xI (dS R true))) := by
  have few := w.few
  have rest : ∀ {ds2 : List (Key × PyData)} {n2 : Nat} {x8 : Option Sl}, Tp n2 ds2 → n2 ≤ n + 3 → t_tree_2 C_pick d (eT ds2 top a0 R last x5 (xI (dS R false)) x8 x9 (xI (dS R true))) := fun hT2 h2 =>
    tree_2 w (by omega) hT2 (by omega) fun ds' j x5 x6 x8 x9 x10 x11 t h0 h1 => k R ds' _ j x5 x6 x8 x9 x10 x11 w.to6.wider t (by omega) h0 h1
  have l1 := root_in' w
  have l2 : (dS R false).length ≤ 31 := Nat.le_trans (List.length_filter_le _ _) (by omega)
  have l3 : (dS R true).length ≤ 31 := Nat.le_trans (List.length_filter_le _ _) (by omega)
  unfold t_tree_5
  pv_short
  refine Exists.intro _ (And.intro (eq_shaped (neg := true) (d := .list ((dS R true).map fun (r : Tn) => .int r.id)) (e := .list []) (ids_sh (dS R true)) (by rfl)) ?_)
  pv_short
  refine ite2 (fun e => ?_) (fun e => ?_)
  · have ne : dS R true ≠ [] := fun z => by rw [z] at e; exact absurd e (by decide)
    have l4 := List.length_pos_iff.mpr ne
    pv_short
    refine pick_at (m := 2) hT (by omega) (by decide) (by decide +kernel) rfl (fun Q q => q) ?_
    intro ds1 j1 hT1 h01 h11
    pv_short
    refine ite2 (fun e => ?_) (fun e => ?_)
    · unfold t_tree_4
      pv_short
      refine pick_at (m := (((dS R false).map fun r => PyData.int r.id).length : Nat)) hT1 (by omega) (by rw [List.length_map]; omega) (by rw [List.length_map]; exact log_small (by omega)) rfl (fun Q q => by pv_short; exact q) ?_
      intro ds2 j2 hT2 h02 h12
      pv_short
      obtain ⟨r, mr, er⟩ := idx_map (f := fun r : Tn => PyData.int r.id) (xs := dS R false) h02 (by rw [List.length_map] at h12; exact h12)
      refine Exists.intro _ (And.intro er ?_)
      obtain ⟨mr, hsh⟩ := List.mem_filter.mp mr
      obtain ⟨i, hi⟩ := List.mem_iff_getElem?.mp mr
      pv_short
      refine Exists.intro _ (And.intro (child_T w.nd hi) ?_)
      pv_short
      unfold t_tree_3
      pv_short
      refine pick_at (m := (((dS R true).map fun r => PyData.int r.id).length : Nat)) hT2 (by omega) (by rw [List.length_map]; omega) (by rw [List.length_map]; exact log_small (by omega)) rfl (fun Q q => by pv_short; exact q) ?_
      intro ds3 j3 hT3 h03 h13
      pv_short
      obtain ⟨s, ms, es⟩ := idx_map (f := fun r : Tn => PyData.int r.id) (xs := dS R true) h03 (by rw [List.length_map] at h13; exact h13)
      refine Exists.intro _ (And.intro es ?_)
      obtain ⟨ms, hss⟩ := List.mem_filter.mp ms
      have hel := (w.ent r mr).1
      pv_short
      refine .inr ?_
      pv_short
      refine Exists.intro (2, [.inl r.id], tU r) (And.intro ?_ ?_)
      · show (alAt _ r.a 2 [.inl r.id]).map _ = _
        rw [al_T (b := false) w.nd hi rfl]; rfl
      intro a1
      pv_short
      refine Exists.intro _ (And.intro (show putN (tU r) (.inr "z") (.d (.int s.id)) = some (tU ⟨r.id, r.a, r.sh, r.es ++ [(("z" : Str), s.id)]⟩) from ?_) ?_)
      · show (if (r.es.map tE).length < sizeLine then (if _ then _ else _) else none) = _
        rw [if_pos (by rw [List.length_map, sizeLine_eq]; omega), if_neg (by rw [any_z fun e he => ((w.ent r mr).2 e he).1]; decide)]
        show some (OT.n r.a true _) = some (OT.n r.a true _)
        rw [List.map_append]; rfl
      pv_short
      have hk : R.map tK = (R.set i ⟨r.id, r.a, r.sh, r.es ++ [(("z" : Str), s.id)]⟩).map tK := (set_same (f := tK) (y := ⟨r.id, r.a, r.sh, r.es ++ [(("z" : Str), s.id)]⟩) hi rfl).symm
      show t_tree_2 C_pick d [some (.o true (.k ds3)), some (.d (.int top)), some (.o false (.ot ((tT a0 R).put [.inl r.id] (tU ⟨r.id, r.a, r.sh, r.es ++ [(("z" : Str), s.id)]⟩)))), some (.o false (.k (R.map tK))), some (.d (.int last)), x5, xI (dS R false), none, some (.o false (.al r.a 2 [.inl r.id])), x9, xI (dS R true), none]
      rw [put_T (r' := ⟨r.id, r.a, r.sh, r.es ++ [(("z" : Str), s.id)]⟩) w.nd hi rfl, hk]
      have hzn : ("z" : Str) ∉ r.es.map (·.1) := fun z => by
        obtain ⟨e, me, ee⟩ := List.mem_map.mp z
        have := ((w.ent r mr).2 e me).1
        rw [ee] at this; revert this; decide +kernel
      have w2 : Wf nm6 (R.set i ⟨r.id, r.a, r.sh, r.es ++ [(("z" : Str), s.id)]⟩) last (m + 1) := w.link hi (by simpa using hsh) hzn (fun _ => nm56) (by decide +kernel) ms (by simpa using hss)
      exact tree_2 w2 (by omega) hT3 (by omega) fun ds' j x5 x6 x8 x9 x10 x11 t h0 h1 => k _ ds' _ j x5 x6 x8 x9 x10 x11 w2 t (by omega) h0 h1
    · exact rest hT1 (by omega)
  · exact rest hT (by omega)
end
end V23
set_option Elab.async false
set_option linter.all false
set_option maxRecDepth 100000
set_option maxHeartbeats 1000000
set_option autoImplicit false
set_option exponentiation.threshold 20000
namespace V23
open PySem PySem.Spec PyProof.Rows L2 DL
local macro_rules | `(tactic| pv_short) => `(tactic| repeat first | refine Exists.intro _ (And.intro rfl ?_) | refine ifT rfl ?_ | refine ifF rfl ?_ | refine Exists.intro _ (And.intro (if_pos (by first | assumption | decide | exact ⟨by assumption, by decide⟩ | exact ⟨by assumption, by assumption⟩)) ?_) | refine And.intro (show List.length _ ≤ sizeLine from Nat.le_of_ble_eq_true rfl) ?_ | refine And.intro (Nat.le_of_ble_eq_true rfl) ?_)
theorem Wf.upto {N : List Str} {R : List Tn} {last : Int} {m m' : Nat} (w : Wf N R last m) (h : m ≤ m') : Wf N R last m' :=
  ⟨w.root, w.up, w.le, by have := w.few; omega, by have := w.big; omega, fun r mr => ⟨by have := (w.ent r mr).1; omega, (w.ent r mr).2⟩, w.g⟩
theorem gr0 (a : Addr) : Gr [⟨0, a, false, []⟩] := by
  have nop : ∀ q, ¬ plT [⟨0, a, false, []⟩] q := by
    rintro _ ⟨r, m, e, me, rfl⟩
    rw [List.mem_singleton] at m; subst m; cases me
  refine ⟨fun r m => ?_, fun r m _ => ?_, ⟨fun n h => ?_, ⟨_, List.mem_singleton.mpr rfl, rfl, rfl⟩, fun q h => (nop q h).elim, fun q h => (nop q h).elim, fun q h => (nop q h).elim, fun n h h0 => ?_, fun a b h => (nop a h).elim, fun a b h => (nop a h).elim, ⟨fun _ => 0, fun q h => (nop q h).elim⟩⟩⟩
  · rw [List.mem_singleton] at m; subst m; exact List.nodup_nil
  · rw [List.mem_singleton] at m; subst m; rfl
  · obtain ⟨d, m, e, _⟩ := h
    exact List.mem_map.mpr ⟨d, m, e⟩
  · obtain ⟨d, m, e⟩ := List.mem_map.mp h
    rw [List.mem_singleton] at m; subst m; exact absurd e.symm h0
theorem tree_ok (ss : List Sl) (Ex : XP) (P : DL.R → List Sl → Prop) (h : C_tree ss Ex P) : fnW 2 12 (w_tree C_pick) ss Ex P := by
  obtain ⟨⟨ds, top, n, rfl, hT, hb, t0, t1⟩, k⟩ := h
  have kk := fun ds' n' R last nx (q1 : Tp n' ds') (q2 : n' ≤ n + 60) q3 q4 q5 => k (.d (trD R nx)) [.o true (.k ds'), .d (.int top)] ⟨ds, ds', top, n, n', R, last, nx, rfl, hT, rfl, q1, q2, rfl, q3, q4, q5⟩
  clear k
  refine And.intro rfl ?_
  rw [w_tree_eq]
  unfold t_tree_16
  pv_short
  intro a b
  pv_short
  show t_tree_15 C_pick (dEnd [.o true (.k ds), .d (.int top)] Ex P) (eT ds top b [⟨0, a, false, []⟩] 0 none none none none none)
  unfold t_tree_15
  pv_short
  refine pick_at (m := top + 1) hT (by omega) (by omega) (Nat.lt_of_le_of_lt (Nat.log2_le_self _) (by omega)) rfl (fun Q q => by pv_short; exact q) ?_
  intro ds1 j hT1 h0 h1
  pv_short
  refine And.intro ⟨(by show -(2 ^ 62) ≤ (0 : Int); decide), (by show (0 : Int) < 2 ^ 62; decide), (by show -(2 ^ 62) ≤ j; omega), (by show j < 2 ^ 62; omega)⟩ ?_
  have hlr : (List.range (j - 0).toNat).length ≤ 13 := by rw [List.length_range]; omega
  refine for_of (g := fun i : Nat => .int (0 + (i : Int))) (xs := List.range (j - 0).toNat) (fun pre δ => ∃ R last ds' n' x5 x6 x8 x9, δ = eT ds' top b R last x5 x6 x8 x9 none ∧ Wf nm5 R last pre.length ∧ Tp n' ds' ∧ n' ≤ n + 1 + 4 * pre.length) ?_ ?_ ⟨[⟨0, a, false, []⟩], 0, ds1, n + 1, none, none, none, none, rfl, ?_, hT1, by simp⟩
  · rintro δ ⟨R, last, ds', n', x5, x6, x8, x9, rfl, w, hT', hn'⟩
    generalize hm : (List.range (j - 0).toNat).length = m at w hlr hn'
    show t_tree_7 C_pick _ _
    unfold t_tree_7 wSeq wSet
    refine ids_lc (Ex := _) true "sheet" rfl w (by omega) ?_
    pv_short
    show t_tree_6 C_pick _ (eT ds' top b R last x5 x6 x8 x9 (xI (dS R true)))
    unfold t_tree_6 wSeq wSet
    refine ids_lc (Ex := _) false "drawer" rfl w (by omega) ?_
    pv_short
    refine tree_5 w (by omega) hT' (by omega) fun R2 ds2 n2 j2 y5 y6 y8 y9 y10 y11 w2 hT2 hn2 h02 h12 => ?_
    pv_short
    have hbig := w2.big
    have hl0 : 0 ≤ last := by
      obtain ⟨a1, es, R', e⟩ := w2.root
      have := w2.le ⟨0, a1, false, es⟩ (by rw [e]; exact List.mem_cons_self ..)
      exact this.2
    exact kk ds2 n2 R2 last _ hT2 (by omega) (w2.upto (by omega)) (by omega) (by omega)
  · rintro pre i post δ Q e ⟨R, last, ds', n', x5, x6, x8, x9, rfl, w, hT', hn'⟩ hQ
    have hp : pre.length ≤ 12 := by
      have := congrArg List.length e
      rw [List.length_append, List.length_cons] at this
      omega
    pv_short
    refine turn_14 w (by omega) hT' (by omega) fun R' last' ds2 n2 y6 y8 y9 w2 hT2 hn2 => hQ _ ⟨R', last', ds2, n2, _, y6, y8, y9, rfl, ?_, hT2, ?_⟩
    · rw [List.length_append]; exact w2
    · rw [List.length_append, List.length_singleton]; omega
  · refine ⟨⟨a, [], [], rfl⟩, by simp, fun r hr => ?_, by simp, by simp, fun r hr => ?_, ?_⟩
    · rw [List.mem_singleton] at hr; subst hr; exact ⟨Int.le_refl _, Int.le_refl _⟩
    · rw [List.mem_singleton] at hr; subst hr; exact ⟨Nat.le_refl _, fun e he => by cases he⟩
    · exact gr0 a
end V23
set_option Elab.async false
set_option linter.all false
set_option maxRecDepth 100000
set_option maxHeartbeats 1000000
set_option autoImplicit false
set_option exponentiation.threshold 20000
namespace V23
open PySem PySem.Spec PyProof.Rows L2 DL
local macro_rules | `(tactic| pv_short) => `(tactic| repeat first | refine Exists.intro _ (And.intro rfl ?_) | refine ifT rfl ?_ | refine ifF rfl ?_ | refine Exists.intro _ (And.intro (if_pos (by first | assumption | decide | exact ⟨by assumption, by decide⟩ | exact ⟨by assumption, by assumption⟩)) ?_) | refine And.intro (show List.length _ ≤ sizeLine from Nat.le_of_ble_eq_true rfl) ?_ | refine And.intro (Nat.le_of_ble_eq_true rfl) ?_)
theorem mergeD_new : ∀ {kvs acc : List (Key × PyData)}, ((acc ++ kvs).map (·.1)).Nodup → mergeD acc kvs = acc ++ kvs
  | [], acc, _ => by rw [List.append_nil]; rfl
  | q :: kvs, acc, h => by
    have hq : putD acc q.1 q.2 = acc ++ [q] := by
      unfold putD
      rw [if_neg]
      intro z
      obtain ⟨kv, m, e⟩ := List.any_eq_true.mp z
      rw [List.map_append, List.nodup_append] at h
      exact h.2.2 _ (List.mem_map.mpr ⟨kv, m, rfl⟩) _ (List.mem_map.mpr ⟨q, List.mem_cons_self .., rfl⟩) (of_decide_eq_true e)
    show mergeD (putD acc q.1 q.2) kvs = _
    rw [hq, mergeD_new (kvs := kvs) (acc := acc ++ [q]) (by rw [List.append_assoc]; exact h), List.append_assoc]; rfl
abbrev pE (e : Str × Int) : PyData := .tuple [.str e.1, .int e.2]
def srt (es : List (Str × Int)) : List (Str × Int) := es.mergeSort fun a b => PySem.W.dataLe false id (pE a) (pE b)
theorem srt_perm (es : List (Str × Int)) : (srt es).Perm es := List.mergeSort_perm _ _
theorem sortIt_es (es : List (Str × Int)) : sortIt (es.map kE) = (srt es).map pE := by
  unfold sortIt srt
  rw [List.map_mergeSort (r := fun a b => PySem.W.dataLe false id (pE a) (pE b)) (s := PySem.W.dataLe false id) (f := pE) (l := es) (fun a _ b _ => rfl), List.map_map]
  rfl
abbrev kW (r : Tn) : Key × PyData := (.inl r.id, .tuple ((srt r.es).map pE))
theorem rD_eq (r : Tn) : rD r = .tuple [.int r.id, kS r.sh, .tuple ((srt r.es).map pE)] := by
  show PyData.tuple [.int r.id, kS r.sh, .tuple (sortIt (r.es.map kE))] = _
  rw [sortIt_es]
theorem pairs_W : ∀ R : List Tn, pairsD (R.map fun r => .tuple [.int r.id, .tuple ((srt r.es).map pE)]) = some (R.map kW)
  | [] => rfl
  | r :: R => by
    show (some (Sum.inl r.id : Key)).bind (fun kk => (pairsD (R.map fun r => .tuple [.int r.id, .tuple ((srt r.es).map pE)])).map fun q => (kk, PyData.tuple ((srt r.es).map pE)) :: q) = _
    rw [pairs_W R]; rfl
theorem look_W {R : List Tn} (nd : (R.map (·.id)).Nodup) {r : Tn} (h : r ∈ R) : lookD (R.map kW) (.inl r.id : Key) = some (.tuple ((srt r.es).map pE)) := by
  induction R with
  | nil => cases h
  | cons x R ih =>
    rw [List.map_cons, List.nodup_cons] at nd
    unfold lookD at *
    rw [List.map_cons]
    by_cases e : x.id = r.id
    · rw [List.find?_cons_of_pos (by simp [e])]
      rcases List.mem_cons.mp h with h | h
      · subst h; rfl
      · exact absurd (List.mem_map.mpr ⟨r, h, e.symm⟩) nd.1
    · rw [List.find?_cons_of_neg (by simpa using inl_ne e)]
      rcases List.mem_cons.mp h with h | h
      · subst h; exact absurd rfl e
      · exact ih nd.2 h
theorem kW_nd {R : List Tn} (nd : (R.map (·.id)).Nodup) : ((R.map kW).map (·.1)).Nodup := by
  have e : (R.map kW).map (·.1) = (R.map (·.id)).map fun i => (.inl i : Key) := by rw [List.map_map, List.map_map]; rfl
  rw [e]
  exact List.Pairwise.map _ (fun a b h => inl_ne h) nd
abbrev wD (w : List Str) : PyData := .tuple (w.map .str)
abbrev fD (p : List Str × Int) : PyData := .tuple [wD p.1, .int p.2]
structure WaysOk (W : List (List Str)) : Prop where
  ne : W ≠ []
  few : W.length ≤ 50000
  ok : ∀ w ∈ W, w.length ≤ 4 ∧ ∀ x ∈ w, x ∈ nm6
def C_ways : FSpec := Ct (fun ss => ∃ R last nx, ss = [.d (trD R nx)] ∧ Wf nm6 R last 14) fun ss r ss' => ss' = ss ∧ ∃ W, r = .n (.l (W.map wD)) ∧ WaysOk W
def cap : Nat → Nat
  | 0 => 1
  | k + 1 => 14 * cap k
def tot : Nat → Nat
  | 0 => 1
  | k + 1 => tot k + cap (k + 1)
structure Fr (R : List Tn) (k : Nat) (W : List (List Str)) (f : List (List Str × Int)) : Prop where
  ne : W ≠ []
  few : W.length ≤ tot (min k 4)
  ok : ∀ w ∈ W, w.length ≤ 4 ∧ ∀ x ∈ w, x ∈ nm6
  here : ∀ p ∈ f, p.1.length = k ∧ (∀ x ∈ p.1, x ∈ nm6) ∧ p.2 ∈ R.map (·.id)
  front : f.length ≤ cap k
  last : 4 < k → f = []
abbrev eV (R : List Tn) (nx : Int) (x2 : Option Sl) (W : List (List Str)) (x6 : Option Sl) (L : List (List Str × Int)) (x8 : Option Sl) : SEnv := [some (.d (trD R nx)), some (.o false (.k (R.map kW))), x2, none, none, some (.o false (.l (W.map wD))), x6, some (.o false (.l (L.map fD))), x8, none, none]
theorem add_tup {xs ys : List PyData} (h : xs.length + ys.length ≤ sizeLine) : addF (.d (.tuple xs)) (.d (.tuple ys)) = some (.tup (xs ++ ys)) := if_pos h
theorem nd_row {R : List Tn} {z : Int} (h : z ∈ R.map (·.id)) : ∃ r ∈ R, r.id = z := by
  obtain ⟨r, m, e⟩ := List.mem_map.mp h
  exact ⟨r, m, e⟩
theorem ways_4 {R : List Tn} {nx last : Int} {W : List (List Str)} {x6 : Option Sl} {L : List (List Str × Int)} {k : Nat} {p : List Str × Int} {d : DEnds} (w : Wf nm6 R last 14) (hp : p.1.length = k ∧ (∀ x ∈ p.1, x ∈ nm6) ∧ p.2 ∈ R.map (·.id)) (hL : L.length ≤ 600000)
    (kk : ∀ M : List (List Str × Int), M.length ≤ 14 → (∀ q ∈ M, q.1.length = k + 1 ∧ (∀ x ∈ q.1, x ∈ nm6) ∧ q.2 ∈ R.map (·.id)) → (4 ≤ k → M = []) → d.nx (eV R nx (some (.d (.int p.2))) W x6 (L ++ M) (some (.d (wD p.1))))) :
    t_ways_4 d (eV R nx (some (.d (.int p.2))) W x6 L (some (.d (wD p.1)))) := by
  obtain ⟨h1, h2, h3⟩ := hp
  obtain ⟨r, mr, er⟩ := nd_row h3
  have ent := w.ent r mr
  have lp := (srt_perm r.es).length_eq
  unfold t_ways_4
  pv_short
  refine Exists.intro _ (And.intro (show ((some (lookD (R.map kW) (.inl p.2 : Key))).bind id).map Rv.val = _ by rw [← er, look_W w.nd mr]; rfl) ?_)
  pv_short
  refine lc_of (g := pE) (xs := srt r.es) (δf := eV R nx (some (.d (.int p.2))) W x6 L (some (.d (wD p.1)))) (fun _ => decide (k < 4)) (fun e => fD (p.1 ++ [e.1], e.2)) rfl (by rw [sizeLine_eq]; simp only [List.length_nil]; omega) (fun e me Q Q' g1 g2 => ?_) fun δ' h' => ?_
  · pv_short
    show (if decide ((((p.1.map PyData.str).length : Nat) : Int) < 4) = true then _ else _)
    rw [List.length_map, h1]
    refine ite2 (fun z => ?_) (fun z => ?_)
    · have z' : k < 4 := by have := of_decide_eq_true z; omega
      pv_short
      refine Exists.intro _ (And.intro (add_tup (xs := p.1.map .str) (ys := [.str e.1]) (by rw [List.length_map, sizeLine_eq]; show _ + 1 ≤ _; omega)) ?_)
      pv_short
      have q := g1 (decide_eq_true z') (((eV R nx (some (.d (.int p.2))) W x6 L (some (.d (wD p.1)))).set 9 (some (.d (.str e.1)))).set 10 (some (.d (.int e.2)))) rfl
      rw [show fD (p.1 ++ [e.1], e.2) = .tuple [.tuple (p.1.map .str ++ [.str e.1]), .int e.2] by show PyData.tuple [.tuple ((p.1 ++ [e.1]).map .str), .int e.2] = _; rw [List.map_append]; rfl] at q
      exact q
    · have z' : ¬ k < 4 := fun y => z (decide_eq_true (by omega))
      exact g2 (decide_eq_false z') _ rfl
  · rw [List.nil_append, h']
    have eM : ((srt r.es).filter fun _ => decide (k < 4)).map (fun e => fD (p.1 ++ [e.1], e.2)) = ((((srt r.es).filter fun _ => decide (k < 4)).map fun e => (p.1 ++ [e.1], e.2)).map fD) := by rw [List.map_map]; rfl
    rw [eM]
    generalize hM : ((srt r.es).filter fun _ => decide (k < 4)).map (fun e => (p.1 ++ [e.1], e.2)) = M
    have lM : M.length ≤ 14 := by
      rw [← hM, List.length_map]
      exact Nat.le_trans (List.length_filter_le _ _) (by rw [lp]; exact ent.1)
    pv_short
    refine And.intro (by rw [sizeLine_eq, List.length_map, List.length_map]; omega) ?_
    have q := kk M lM (fun q hq => ?_) fun h4 => ?_
    · rw [eV, List.map_append] at q
      exact q
    · rw [← hM] at hq
      obtain ⟨e, me, rfl⟩ := List.mem_map.mp hq
      have me := (srt_perm r.es).mem_iff.mp (List.mem_filter.mp me).1
      have g := ent.2 e me
      refine ⟨by rw [List.length_append, h1]; rfl, fun x hx => ?_, g.2⟩
      rcases List.mem_append.mp hx with hx | hx
      · exact h2 x hx
      · rw [List.mem_singleton] at hx; subst hx; exact g.1
    · rw [← hM, show (fun (_ : Str × Int) => decide (k < 4)) = fun _ => false from funext fun _ => decide_eq_false (by omega), show (srt r.es).filter (fun _ => false) = [] from List.filter_eq_nil_iff.mpr fun _ _ z => by cases z]; rfl
end V23
set_option Elab.async false
set_option linter.all false
set_option maxRecDepth 100000
set_option maxHeartbeats 1000000
set_option autoImplicit false
set_option exponentiation.threshold 20000
namespace V23
open PySem PySem.Spec PyProof.Rows L2 DL
local macro_rules | `(tactic| pv_short) => `(tactic| repeat first | refine Exists.intro _ (And.intro rfl ?_) | refine ifT rfl ?_ | refine ifF rfl ?_ | refine Exists.intro _ (And.intro (if_pos (by first | assumption | decide | exact ⟨by assumption, by decide⟩ | exact ⟨by assumption, by assumption⟩)) ?_) | refine And.intro (show List.length _ ≤ sizeLine from Nat.le_of_ble_eq_true rfl) ?_ | refine And.intro (Nat.le_of_ble_eq_true rfl) ?_)
theorem ok6 {x : Str} (h : x ∈ nm6) : PyData.strOk x = true := by
  have : nm6.all PyData.strOk = true := by decide +kernel
  exact List.all_eq_true.mp this x h
theorem nd_wD {N : Nat} {w : List Str} (h : ∀ x ∈ w, x ∈ nm6) : Nd N 1 (wD w) := nd_tup fun y m => by
  obtain ⟨x, mx, rfl⟩ := List.mem_map.mp m
  exact nd_str (ok6 (h x mx))
theorem nd_fD {N : Nat} {p : List Str × Int} (h : ∀ x ∈ p.1, x ∈ nm6) (h2 : p.2.natAbs ≤ N) : Nd N 2 (fD p) :=
  nd_tup (nds_cons (nd_wD h) (nds_cons (nd_int h2) nds_nil))
theorem id_small {N : List Str} {R : List Tn} {last : Int} {m : Nat} (w : Wf N R last m) {z : Int} (h : z ∈ R.map (·.id)) : 0 ≤ z ∧ z ≤ 2 * m := by
  obtain ⟨r, mr, rfl⟩ := nd_row h
  have := w.le r mr
  have := w.big
  omega
theorem front_sh {R : List Tn} {last : Int} {f : List (List Str × Int)} (w : Wf nm6 R last 14) (h : ∀ p ∈ f, (∀ x ∈ p.1, x ∈ nm6) ∧ p.2 ∈ R.map (·.id)) : SeqAt.shaped (.list (f.map fD)) = true := by
  refine nd_shaped (N := 100) (D := 3) (nd_lst fun y m => ?_) (by decide)
  obtain ⟨p, mp, rfl⟩ := List.mem_map.mp m
  have := id_small w (h p mp).2
  exact nd_fD (h p mp).1 (by omega)
/-- nothing, or data -/
def Un (x : Option Sl) : Prop := x = none ∨ ∃ d, x = some (.d d)
theorem ways_3 {R : List Tn} {nx : Int} {W : List (List Str)} {x2 x6 x8 : Option Sl} {L : List (List Str × Int)} {d : DEnds} (u2 : Un x2) (u8 : Un x8) (hl : W.length + L.length ≤ 1000000)
    (kk : ∀ x2 x8, Un x2 → Un x8 → d.nx [some (.d (trD R nx)), some (.o false (.k (R.map kW))), x2, none, none, some (.o false (.l ((W ++ L.map (·.1)).map wD))), some (.d (.list (L.map fD))), some (.d (.list (L.map fD))), x8, none, none]) :
    t_ways_3 d (eV R nx x2 W x6 L x8) := by
  have run : ∀ x2 x8 : Option Sl, Un x2 → Un x8 → restore [some (.d (trD R nx)), some (.o false (.k (R.map kW))), x2, none, none, some (.o false (.l (W.map wD))), x6, some (.d (.list (L.map fD))), x8, none, none] [some (.d (trD R nx)), some (.o false (.k (R.map kW))), none, none, none, some (.o false (.l (W.map wD))), x6, some (.d (.list (L.map fD))), none, none, none] [8, 2] = [some (.d (trD R nx)), some (.o false (.k (R.map kW))), x2, none, none, some (.o false (.l (W.map wD))), x6, some (.d (.list (L.map fD))), x8, none, none] := by
    intro x2 x8 u2 u8
    rcases u2 with rfl | ⟨d2, rfl⟩ <;> rcases u8 with rfl | ⟨d8, rfl⟩ <;> rfl
  unfold t_ways_3 wSeq wDrop
  pv_short
  refine lc_of (g := fD) (xs := L) (δf := [some (.d (trD R nx)), some (.o false (.k (R.map kW))), none, none, none, some (.o false (.l (W.map wD))), x6, some (.d (.list (L.map fD))), none, none, none]) (fun _ => true) (fun q => wD q.1) rfl (by rw [sizeLine_eq]; simp only [List.length_nil]; omega) (fun q mq Q Q' g1 g2 => ?_) fun δ' h' => ?_
  · pv_short
    exact g1 rfl _ rfl
  · rw [List.nil_append, h', show L.filter (fun _ => true) = L from List.filter_eq_self.mpr fun _ _ => rfl]
    generalize hX : restore _ _ [8, 2] = X
    have eX := hX.symm.trans (run x2 x8 u2 u8)
    subst eX
    pv_short
    refine And.intro (by rw [sizeLine_eq, List.length_map, List.length_map]; omega) ?_
    unfold t_ways_2
    pv_short
    have q := kk x2 x8 u2 u8
    rw [List.map_append, List.map_map] at q
    exact q
abbrev eU (R : List Tn) (nx : Int) (x2 : Option Sl) (W : List (List Str)) (x6 x7 x8 : Option Sl) : SEnv := [some (.d (trD R nx)), some (.o false (.k (R.map kW))), x2, none, none, some (.o false (.l (W.map wD))), x6, x7, x8, none, none]
theorem ways_6 {R : List Tn} {nx last : Int} {W : List (List Str)} {f : List (List Str × Int)} {x2 x6 x7 x8 : Option Sl} {k : Nat} {d : DEnds} (w : Wf nm6 R last 14) (u2 : Un x2) (u8 : Un x8) (hk : k ≤ 4) (hf : Fr R k W f) (h6 : x6 = some (.o false (.l (f.map fD))) ∨ x6 = some (.d (.list (f.map fD))))
    (kk : ∀ W' f' x2 x8, Un x2 → Un x8 → Fr R (k + 1) W' f' → d.nx (eU R nx x2 W' (some (.d (.list (f'.map fD)))) (some (.d (.list (f'.map fD)))) x8)) :
    t_ways_6 d (eU R nx x2 W x6 x7 x8) := by
  have hcap : cap k ≤ 38416 := by
    have : ∀ k ≤ 4, cap k ≤ 38416 := by decide
    exact this k hk
  have htot : tot (min k 4) ≤ 50000 := by
    have : ∀ k ≤ 4, tot (min k 4) ≤ 50000 := by decide
    exact this k hk
  have hfl := hf.front
  have go : wForR (gT 2 (gsC (gN 8) (gsC (gN 2) gsN))) t_ways_4 (f.map fD) { nx := t_ways_3 d, rt := d.rt, bk := d.bk, ct := d.ct, ex := d.ex } (eV R nx x2 W (some (.d (.list (f.map fD)))) [] x8) := by
    refine for_of (g := fD) (xs := f) (fun pre δ => ∃ x2 x8 L, Un x2 ∧ Un x8 ∧ δ = eV R nx x2 W (some (.d (.list (f.map fD)))) L x8 ∧ L.length ≤ 14 * pre.length ∧ (∀ q ∈ L, q.1.length = k + 1 ∧ (∀ x ∈ q.1, x ∈ nm6) ∧ q.2 ∈ R.map (·.id)) ∧ (4 ≤ k → L = [])) ?_ ?_ ⟨x2, x8, [], u2, u8, rfl, Nat.zero_le _, fun q hq => (by cases hq), fun _ => rfl⟩
    · rintro δ ⟨x2, x8, L, u2, u8, rfl, l1, l2, l3⟩
      have hW := hf.few
      refine ways_3 u2 u8 (by omega) fun y2 y8 v2 v8 => kk (W ++ L.map (·.1)) L y2 y8 v2 v8 ⟨?_, ?_, ?_, l2, ?_, ?_⟩
      · exact fun z => hf.ne (List.append_eq_nil_iff.mp z).1
      · by_cases h4 : k = 4
        · subst h4
          rw [l3 (Nat.le_refl _), List.map_nil, List.append_nil]
          exact hW
        · rw [List.length_append, List.length_map, show min (k + 1) 4 = k + 1 by omega]
          rw [show min k 4 = k by omega] at hW
          show _ ≤ tot k + 14 * cap k
          omega
      · intro v hv
        rcases List.mem_append.mp hv with hv | hv
        · exact hf.ok v hv
        · obtain ⟨q, mq, rfl⟩ := List.mem_map.mp hv
          have g := l2 q mq
          refine ⟨?_, g.2.1⟩
          by_cases h4 : k = 4
          · rw [l3 (by omega)] at mq; cases mq
          · rw [g.1]; omega
      · show _ ≤ 14 * cap k
        omega
      · intro h; exact l3 (by omega)
    · rintro pre p post δ Q e ⟨x2, x8, L, u2, u8, rfl, l1, l2, l3⟩ hQ
      have hp := hf.here p (by rw [e]; exact List.mem_append_right _ (List.mem_cons_self ..))
      have lpre : pre.length ≤ 38416 := by
        have := congrArg List.length e
        rw [List.length_append, List.length_cons] at this
        omega
      pv_short
      refine ways_4 w hp (by omega) fun M m1 m2 m3 => hQ _ ⟨_, _, L ++ M, .inr ⟨_, rfl⟩, .inr ⟨_, rfl⟩, rfl, ?_, fun q hq => ?_, fun h => ?_⟩
      · rw [List.length_append, List.length_append, List.length_singleton]; omega
      · rcases List.mem_append.mp hq with hq | hq
        · exact l2 q hq
        · exact m2 q hq
      · rw [l3 h, m3 h]; rfl
  unfold t_ways_6 t_ways_5
  rcases h6 with rfl | rfl
  · pv_short
    exact go
  · pv_short
    exact go
theorem ways_loop {R : List Tn} {nx last : Int} {d : DEnds} (w : Wf nm6 R last 14) (kk : ∀ W x2 x6 x7 x8, WaysOk W → d.nx (eU R nx x2 W x6 x7 x8)) : ∀ (n k : Nat) {W : List (List Str)} {f : List (List Str × Int)} {x2 x6 x7 x8 : Option Sl}, k ≤ 5 → 5 ≤ k + n → Un x2 → Un x8 → Fr R k W f → (x6 = some (.o false (.l (f.map fD))) ∨ x6 = some (.d (.list (f.map fD)))) →
    wWh (wB (wOp neF (wVar 6) (wLst wNil))) t_ways_6 (n + 1) d (eU R nx x2 W x6 x7 x8) := by
  intro n
  induction n with
  | zero =>
    intro k W f x2 x6 x7 x8 h1 h2 u2 u8 hf h6
    have ef := hf.last (by omega)
    subst ef
    have hb : tot (min k 4) ≤ 50000 := by
      have : ∀ k ≤ 5, tot (min k 4) ≤ 50000 := by decide
      exact this k h1
    unfold wWh
    rcases h6 with rfl | rfl
    all_goals
      pv_short
      exact kk _ _ _ _ _ ⟨hf.ne, Nat.le_trans hf.few hb, hf.ok⟩
  | succ n ih =>
    intro k W f x2 x6 x7 x8 h1 h2 u2 u8 hf h6
    have hb : tot (min k 4) ≤ 50000 := by
      have : ∀ k ≤ 5, tot (min k 4) ≤ 50000 := by decide
      exact this k h1
    have sh := front_sh w (f := f) fun p hp => (hf.here p hp).2
    unfold wWh
    have stop : d.nx (eU R nx x2 W x6 x7 x8) := kk _ _ _ _ _ ⟨hf.ne, Nat.le_trans hf.few hb, hf.ok⟩
    by_cases h5 : k = 5
    · have ef := hf.last (by omega)
      subst ef
      rcases h6 with rfl | rfl
      all_goals
        pv_short
        exact stop
    · have body : ∀ b : Bool, (if b = true then t_ways_6 { nx := wWh (wB (wOp neF (wVar 6) (wLst wNil))) t_ways_6 (n + 1) d, rt := d.rt, bk := d.nx, ct := wWh (wB (wOp neF (wVar 6) (wLst wNil))) t_ways_6 (n + 1) d, ex := d.ex } (eU R nx x2 W x6 x7 x8) else d.nx (eU R nx x2 W x6 x7 x8)) := by
        intro b
        refine ite2 (fun _ => ?_) (fun _ => stop)
        refine ways_6 w u2 u8 (by omega) hf h6 fun W' f' y2 y8 v2 v8 hf' => ?_
        exact ih (k + 1) (by omega) (by omega) v2 v8 hf' (.inr rfl)
      rcases h6 with rfl | rfl
      all_goals
        pv_short
        refine Exists.intro _ (And.intro (eq_shaped (neg := true) (d := .list (f.map fD)) (e := .list []) sh (by rfl)) ?_)
        pv_short
        exact body _
theorem ways_ok (ss : List Sl) (Ex : XP) (P : DL.R → List Sl → Prop) (h : C_ways ss Ex P) : fnW 1 11 w_ways ss Ex P := by
  obtain ⟨⟨R, last, nx, rfl, w⟩, k⟩ := h
  have kk := fun W (q : WaysOk W) => k (.n (.l (W.map wD))) _ ⟨rfl, W, rfl, q⟩
  clear k
  refine And.intro rfl ?_
  rw [w_ways_eq]
  unfold t_ways_9
  have few := w.few
  pv_short
  rw [show R.map rD = R.map fun r => .tuple [.int r.id, kS r.sh, .tuple ((srt r.es).map pE)] from List.map_congr_left fun r _ => rD_eq r]
  refine lc_of (g := fun r : Tn => .tuple [.int r.id, kS r.sh, .tuple ((srt r.es).map pE)]) (xs := R) (δf := _) (fun _ => true) (fun r => .tuple [.int r.id, .tuple ((srt r.es).map pE)]) rfl (by rw [sizeLine_eq]; simp only [List.length_nil]; omega) (fun r mr Q Q' g1 g2 => ?_) fun δ' h' => ?_
  · pv_short
    exact g1 rfl _ rfl
  · rw [List.nil_append, h', show R.filter (fun _ => true) = R from List.filter_eq_self.mpr fun _ _ => rfl]
    pv_short
    refine Exists.intro _ (And.intro (show (pairsD (R.map fun r => .tuple [.int r.id, .tuple ((srt r.es).map pE)])).map (fun kvs => Rv.dk (mergeD [] kvs)) = some (.dk (R.map kW)) by rw [pairs_W]; show some (Rv.dk (mergeD [] (R.map kW))) = _; rw [mergeD_new (acc := []) (kW_nd w.nd)]; rfl) ?_)
    pv_short
    unfold t_ways_8
    pv_short
    unfold t_ways_7
    refine Exists.intro 6 ?_
    refine ways_loop (nx := nx) w (fun W x2 x6 x7 x8 ok => ?_) 5 0 (W := [[]]) (f := [([], 0)]) (x2 := none) (x8 := none) (by decide) (by decide) (.inl rfl) (.inl rfl) ⟨(fun z => nomatch z), Nat.le_refl _, (fun v hv => by rw [List.mem_singleton] at hv; subst hv; exact ⟨Nat.zero_le _, fun x hx => by cases hx⟩), (fun p hp => ?_), Nat.le_refl _, (fun h => absurd h (by decide))⟩ (.inl rfl)
    · show t_ways_1 _ _
      unfold t_ways_1
      pv_short
      exact kk W ok
    · rw [List.mem_singleton] at hp; subst hp
      obtain ⟨a, es, R', rfl⟩ := w.root
      exact ⟨rfl, (fun x hx => by cases hx), List.mem_cons_self ..⟩
end V23
set_option Elab.async false
set_option linter.all false
set_option maxRecDepth 100000
set_option maxHeartbeats 1000000
set_option autoImplicit false
set_option exponentiation.threshold 20000
namespace V23
open PySem PySem.Spec PyProof.Rows L2 DL
local macro_rules | `(tactic| pv_short) => `(tactic| repeat first | refine Exists.intro _ (And.intro rfl ?_) | refine ifT rfl ?_ | refine ifF rfl ?_ | refine Exists.intro _ (And.intro (if_pos (by first | assumption | decide | exact ⟨by assumption, by decide⟩ | exact ⟨by assumption, by assumption⟩)) ?_) | refine And.intro (show List.length _ ≤ sizeLine from Nat.le_of_ble_eq_true rfl) ?_ | refine And.intro (Nat.le_of_ble_eq_true rfl) ?_)
structure WayOk (w : List Str) : Prop where
  few : w.length ≤ 4
  ok : ∀ x ∈ w, x ∈ nm6
def C_way : FSpec := Ct (fun ss => ∃ ds b n, ∃ W : List (List Str), ss = [.o true (.k ds), .d (.list (W.map wD)), .d (.bool b)] ∧ Tp n ds ∧ n + 3 ≤ 1000000 ∧ WaysOk W)
  fun ss r ss' => ∃ ds ds' b n n' w, ∃ W : List (List Str), ss = [.o true (.k ds), .d (.list (W.map wD)), .d (.bool b)] ∧ Tp n ds ∧ ss' = [.o true (.k ds'), .d (.list (W.map wD)), .d (.bool b)] ∧ Tp n' ds' ∧ n' ≤ n + 3 ∧ r = .d (wD w) ∧ WayOk w ∧ (b = true → w ≠ [])
theorem way_ok (ss : List Sl) (Ex : XP) (P : DL.R → List Sl → Prop) (h : C_way ss Ex P) : fnW 3 4 (w_way C_pick) ss Ex P := by
  obtain ⟨⟨ds, b, n, W, rfl, hT, hb, ok⟩, k⟩ := h
  have kk := fun ds' n' w (q1 : Tp n' ds') (q2 : n' ≤ n + 3) (q3 : WayOk w) q4 => k (.d (wD w)) _ ⟨ds, ds', b, n, n', w, W, rfl, hT, rfl, q1, q2, rfl, q3, q4⟩
  clear k
  refine And.intro rfl ?_
  rw [w_way_eq]
  unfold t_way_4
  have lW := List.length_pos_iff.mpr ok.ne
  have lW2 := ok.few
  pv_short
  refine pick_at (m := ((W.map wD).length : Nat)) hT (by omega) (by rw [List.length_map]; omega) (by rw [List.length_map]; exact Nat.lt_of_lt_of_le ((Nat.log2_lt (by omega)).mpr (show _ < 2 ^ 17 by omega)) (by decide)) rfl (fun Q q => by pv_short; exact q) ?_
  intro ds1 j1 hT1 h01 h11
  pv_short
  obtain ⟨w, mw, ew⟩ := idx_map (f := wD) (xs := W) h01 (by rw [List.length_map] at h11; exact h11)
  refine Exists.intro _ (And.intro ew ?_)
  have okw := ok.ok w mw
  pv_short
  unfold t_way_3
  have more : ∀ {ds2 : List (Key × PyData)} {n2 : Nat} {d : DEnds}, w.length < 4 → Tp n2 ds2 → n2 ≤ n + 2 → (∀ ds' n' w, Tp n' ds' → n' ≤ n + 3 → WayOk w → w ≠ [] → d.nx [some (.o true (.k ds')), some (.d (.list (W.map wD))), some (.d (.bool b)), some (.d (wD w))]) → t_way_2 C_pick d [some (.o true (.k ds2)), some (.d (.list (W.map wD))), some (.d (.bool b)), some (.d (wD w))] := by
    intro ds2 n2 d h4 hT2 h2 kd
    unfold t_way_2
    pv_short
    refine pick_at (m := 6) hT2 (by omega) (by decide) (by decide +kernel) rfl (fun Q q => q) ?_
    intro ds3 j3 hT3 h03 h13
    pv_short
    obtain ⟨x, mx, ex⟩ := idx_map (f := PyData.str) (xs := nm6) h03 h13
    refine Exists.intro _ (And.intro ex ?_)
    pv_short
    refine Exists.intro _ (And.intro (add_tup (xs := w.map .str) (ys := [.str x]) (by rw [List.length_map, sizeLine_eq]; show _ + 1 ≤ _; omega)) ?_)
    pv_short
    have q := kd ds3 _ (w ++ [x]) hT3 (by omega) ⟨by rw [List.length_append]; show _ + 1 ≤ 4; omega, fun y hy => by
      rcases List.mem_append.mp hy with hy | hy
      · exact okw.2 y hy
      · rw [List.mem_singleton] at hy; subst hy; exact mx⟩ (fun z => nomatch (List.append_eq_nil_iff.mp z).2)
    rw [show wD (w ++ [x]) = .tuple (w.map .str ++ [.str x]) by show PyData.tuple ((w ++ [x]).map .str) = _; rw [List.map_append]; rfl] at q
    exact q
  have stop : ∀ {ds2 : List (Key × PyData)} {n2 : Nat}, Tp n2 ds2 → n2 ≤ n + 3 → ∀ w, WayOk w → (b = true → w ≠ []) → t_way_1 C_pick (dEnd [.o true (.k ds), .d (.list (W.map wD)), .d (.bool b)] Ex P) [some (.o true (.k ds2)), some (.d (.list (W.map wD))), some (.d (.bool b)), some (.d (wD w))] := by
    intro ds2 n2 hT2 h2 w okw hw
    unfold t_way_1
    pv_short
    exact kk ds2 n2 w hT2 h2 okw hw
  pv_short
  refine pick_at (m := 2) hT1 (by omega) (by decide) (by decide +kernel) rfl (fun Q q => q) ?_
  intro ds2 j2 hT2 h02 h12
  pv_short
  have okW : WayOk w := ⟨okw.1, okw.2⟩
  have sh : SeqAt.shaped (wD w) = true := nd_shaped (N := 1) (D := 1) (nd_wD okw.2) (by decide)
  let E := dEnd [.o true (.k ds), .d (.list (W.map wD)), .d (.bool b)] Ex P
  let D : DEnds := { nx := t_way_1 C_pick E, rt := E.rt, bk := E.bk, ct := E.ct, ex := E.ex }
  have goOn : w.length < 4 → t_way_2 C_pick D [some (.o true (.k ds2)), some (.d (.list (W.map wD))), some (.d (.bool b)), some (.d (wD w))] := fun h4 =>
    more (d := D) h4 hT2 (Nat.le_refl _) fun ds' n' w' t l ok' ne => stop t l w' ok' fun _ => ne
  have named : wAnd (wTru (wVar 2)) (wB (wOp eqF (wVar 3) (wTup wNil))) Ex [some (.o true (.k ds2)), some (.d (.list (W.map wD))), some (.d (.bool b)), some (.d (wD w))] (fun b δ1 => if b = true then t_way_2 C_pick D δ1 else wNext D δ1) := by
    cases b with
    | false =>
      pv_short
      exact stop hT2 (by omega) w okW (fun z => nomatch z)
    | true =>
      pv_short
      refine Exists.intro _ (And.intro (eq_shaped (neg := false) (d := wD w) (e := .tuple []) sh (by rfl)) ?_)
      pv_short
      refine ite2 (fun e => ?_) (fun e => ?_)
      · have ew : w = [] := by
          cases w with
          | nil => rfl
          | cons x w => exact absurd e (by show ¬ PyData.eqv (.tuple (.str x :: w.map .str)) (.tuple []) = true; simp [PyData.eqv, PyData.eqvAll])
        exact goOn (by rw [ew]; decide)
      · exact stop hT2 (by omega) w okW fun _ z => e (by rw [z]; decide)
  refine ite2 (fun e => ?_) (fun e => ?_)
  · pv_short
    show (if decide ((((w.map PyData.str).length : Nat) : Int) < 4) = true then _ else _)
    refine ite2 (fun e2 => ?_) (fun e2 => ?_)
    · have e3 := of_decide_eq_true e2
      rw [List.length_map] at e3
      exact goOn (by omega)
    · exact named
  · exact named
end V23
set_option Elab.async false
set_option linter.all false
set_option maxRecDepth 100000
set_option maxHeartbeats 1000000
set_option autoImplicit false
set_option exponentiation.threshold 20000
namespace V23
open PySem PySem.Spec PyProof.Rows L2 DL
local macro_rules | `(tactic| pv_short) => `(tactic| repeat first | refine Exists.intro _ (And.intro rfl ?_) | refine ifT rfl ?_ | refine ifF rfl ?_ | refine Exists.intro _ (And.intro (if_pos (by first | assumption | decide | exact ⟨by assumption, by decide⟩ | exact ⟨by assumption, by assumption⟩)) ?_) | refine And.intro (show List.length _ ≤ sizeLine from Nat.le_of_ble_eq_true rfl) ?_ | refine And.intro (Nat.le_of_ble_eq_true rfl) ?_)
inductive De where
  | one (w : Str) (p : List Str)
  | mk (p : List Str) (k : Bool)
  | two (w : Str) (p q : List Str)
abbrev De.D : De → PyData
  | .one w p => .tuple [.str w, wD p]
  | .mk p k => .tuple [.str "make", wD p, kS k]
  | .two w p q => .tuple [.str w, wD p, wD q]
def De.ok : De → Prop
  | .one w p => WayOk p ∧ (w = "look" ∨ w = "list" ∨ w = "drop" ∧ p ≠ [])
  | .mk p _ => WayOk p ∧ p ≠ []
  | .two w p q => WayOk p ∧ p ≠ [] ∧ WayOk q ∧ q ≠ [] ∧ (w = "link" ∨ w = "move" ∨ w = "swap")
def C_deed : FSpec := Ct (fun ss => ∃ ds n, ∃ W : List (List Str), ss = [.o true (.k ds), .d (.list (W.map wD))] ∧ Tp n ds ∧ n + 7 ≤ 1000000 ∧ WaysOk W)
  fun ss r ss' => ∃ ds ds' n n' x, ∃ W : List (List Str), ss = [.o true (.k ds), .d (.list (W.map wD))] ∧ Tp n ds ∧ ss' = [.o true (.k ds'), .d (.list (W.map wD))] ∧ Tp n' ds' ∧ n' ≤ n + 7 ∧ r = .d (De.D x) ∧ De.ok x
theorem back_3 {δ : SEnv} {i : Nat} {b : Bool} {c c' : Cont} {s s2 : Sl} {d e : PyData} (h : δ[i]? = some (some (.o b c))) (hs : c.simple = true) (hs' : c'.simple = true) : back δ (DL.clear δ [.o i, .d d, .d e]) [.o i, .d d, .d e] [.o true c', s, s2] = some (δ.set i (some (.o b c'))) := by
  simp only [back, DL.clear, h, hs, hs']
  simp
theorem way_at {δ : SEnv} {ds : List (Key × PyData)} {b0 bb : Bool} {W : List (List Str)} {n : Nat} {wb : WE} {Ex : XP} {P : R → SEnv → Prop} (hT : Tp n ds) (hn : n + 3 ≤ 1000000) (ok : WaysOk W) (e0 : δ[0]? = some (some (.o b0 (.k ds)))) (e1 : δ[1]? = some (some (.d (.list (W.map wD))))) (hm : ∀ Q : R → SEnv → Prop, Q (.d (.bool bb)) δ → wb Ex δ Q)
    (k : ∀ ds' n' w, Tp n' ds' → n' ≤ n + 3 → WayOk w → (bb = true → w ≠ []) → P (.d (wD w)) (δ.set 0 (some (.o b0 (.k ds'))))) : wCall 3 C_way [true, false, false] (wCons (wVar 0) (wCons (wVar 1) (wCons wb wNil))) Ex δ P := by
  unfold wCall
  refine ⟨_, e0, _, rfl, ?_⟩
  refine ⟨.o 0, rfl, ?_⟩
  refine ⟨_, e1, _, rfl, ?_⟩
  refine ⟨_, rfl, ?_⟩
  refine hm _ ?_
  refine ⟨.d (.bool bb), rfl, ?_⟩
  refine ⟨([.o 0, .d (.list (W.map wD)), .d (.bool bb)], δ), rfl, rfl, ?_, ?_⟩
  · show ([0] : List Nat).Nodup
    exact List.nodup_cons.mpr ⟨by simp, List.nodup_nil⟩
  refine ⟨[.o true (.k ds), .d (.list (W.map wD)), .d (.bool bb)], ?_, ⟨ds, bb, n, W, rfl, hT, hn, ok⟩, fun r ss' q _ => ?_⟩
  · simp only [slsOf, slOf, e0]
    rfl
  · obtain ⟨ds1, ds', b', n1, n', w, W', e3, t1, e4, t2, e5, e6, e7, e8⟩ := q
    have e9 := e3
    simp only [List.cons.injEq, Sl.o.injEq, Cont.k.injEq, Sl.d.injEq, PyData.bool.injEq, true_and, and_true] at e9
    obtain ⟨rfl, _, rfl⟩ := e9
    have := t1.one hT
    subst this e4 e6
    exact ⟨_, back_3 e0 rfl rfl, k ds' n' w t2 e5 e7 e8⟩
theorem inT_w {neg b : Bool} {x : Str} {ys : List PyData} (h1 : SeqAt.shaped (.str x) = true) (h2 : SeqAt.shaped (.tuple ys) = true) (h : (if neg then !(ys.any fun z => PyData.eqv z (.str x)) else ys.any fun z => PyData.eqv z (.str x)) = b) : inT neg (.d (.str x)) (.d (.tuple ys)) = some (.val (.bool b)) := by
  rw [← h]
  exact if_pos (by rw [h1, h2]; rfl)
def wd10 : List Str := ["look", "list", "make", "make", "drop", "drop", "link", "move", "move", "swap"]
theorem deed_ok (ss : List Sl) (Ex : XP) (P : DL.R → List Sl → Prop) (h : C_deed ss Ex P) : fnW 2 4 (w_deed C_way C_pick) ss Ex P := by
  obtain ⟨⟨ds, n, W, rfl, hT, hb, ok⟩, k⟩ := h
  have kk := fun ds' n' x (q1 : Tp n' ds') (q2 : n' ≤ n + 7) (q3 : De.ok x) => k (.d (De.D x)) _ ⟨ds, ds', n, n', x, W, rfl, hT, rfl, q1, q2, rfl, q3⟩
  clear k
  refine And.intro rfl ?_
  rw [w_deed_eq]
  unfold t_deed_7
  pv_short
  refine pick_at (m := 10) hT (by omega) (by decide) (by decide +kernel) rfl (fun Q q => q) ?_
  intro ds1 j1 hT1 h01 h11
  pv_short
  obtain ⟨x, mx, ex⟩ := idx_map (f := PyData.str) (xs := wd10) h01 h11
  refine Exists.intro _ (And.intro ex ?_)
  pv_short
  revert x
  suffices H : ∀ x ∈ wd10, t_deed_6 C_way C_pick (dEnd [.o true (.k ds), .d (.list (W.map wD))] Ex P) [some (.o true (.k ds1)), some (.d (.list (W.map wD))), some (.d (.str x)), none] from fun x mx _ => H x mx
  have six : ∀ (x : Str) (bb : Bool), inT true (.d (.str x)) (.d (.tuple [.str "look", .str "list"])) = some (.val (.bool bb)) →
      (∀ ds2 n2 p, Tp n2 ds2 → n2 ≤ n + 4 → WayOk p → (bb = true → p ≠ []) → t_deed_5 C_way C_pick (dEnd [.o true (.k ds), .d (.list (W.map wD))] Ex P) [some (.o true (.k ds2)), some (.d (.list (W.map wD))), some (.d (.str x)), some (.d (wD p))]) →
      t_deed_6 C_way C_pick (dEnd [.o true (.k ds), .d (.list (W.map wD))] Ex P) [some (.o true (.k ds1)), some (.d (.list (W.map wD))), some (.d (.str x)), none] := by
    intro x bb e K
    unfold t_deed_6 wSeq wSet
    refine way_at hT1 (by omega) ok rfl rfl (bb := bb) (fun Q q => ?_) fun ds2 n2 p t2 l2 okp hp => ?_
    · pv_short
      refine Exists.intro _ (And.intro e ?_)
      exact q
    · pv_short
      exact K ds2 n2 p t2 (by omega) okp hp
  have one : ∀ (x : Str) (bb : Bool), inT true (.d (.str x)) (.d (.tuple [.str "look", .str "list"])) = some (.val (.bool bb)) → inT false (.d (.str x)) (.d (.tuple [.str "look", .str "list", .str "drop"])) = some (.val (.bool true)) → (∀ p, WayOk p → (bb = true → p ≠ []) → De.ok (.one x p)) →
      t_deed_6 C_way C_pick (dEnd [.o true (.k ds), .d (.list (W.map wD))] Ex P) [some (.o true (.k ds1)), some (.d (.list (W.map wD))), some (.d (.str x)), none] := by
    intro x bb e e2 K
    refine six x bb e fun ds2 n2 p t2 l2 okp hp => ?_
    unfold t_deed_5
    pv_short
    refine Exists.intro _ (And.intro e2 ?_)
    pv_short
    unfold t_deed_4
    pv_short
    exact kk ds2 n2 (.one x p) t2 (by omega) (K p okp hp)
  have two : ∀ (x : Str), inT true (.d (.str x)) (.d (.tuple [.str "look", .str "list"])) = some (.val (.bool true)) → inT false (.d (.str x)) (.d (.tuple [.str "look", .str "list", .str "drop"])) = some (.val (.bool false)) → PyData.eqv (.str x) (.str "make") = false → (x = "link" ∨ x = "move" ∨ x = "swap") →
      t_deed_6 C_way C_pick (dEnd [.o true (.k ds), .d (.list (W.map wD))] Ex P) [some (.o true (.k ds1)), some (.d (.list (W.map wD))), some (.d (.str x)), none] := by
    intro x e e2 e3 K
    refine six x true e fun ds2 n2 p t2 l2 okp hp => ?_
    unfold t_deed_5
    pv_short
    refine Exists.intro _ (And.intro e2 ?_)
    pv_short
    unfold t_deed_3
    pv_short
    refine Exists.intro _ (And.intro (eq_str (neg := false) x "make") ?_)
    refine Exists.intro false (And.intro (by show isB (.d (.bool (PyData.eqv (.str x) (.str "make")))) = _; rw [e3]; rfl) ?_)
    pv_short
    unfold t_deed_1
    pv_short
    refine way_at t2 (by omega) ok rfl rfl (bb := true) (fun Q q => q) fun ds3 n3 p2 t3 l3 okp2 hp2 => ?_
    pv_short
    exact kk ds3 n3 (.two x p p2) t3 (by omega) ⟨okp, hp rfl, okp2, hp2 rfl, K⟩
  have mk : t_deed_6 C_way C_pick (dEnd [.o true (.k ds), .d (.list (W.map wD))] Ex P) [some (.o true (.k ds1)), some (.d (.list (W.map wD))), some (.d (.str "make")), none] := by
    refine six "make" true (inT_w (by decide +kernel) (by decide +kernel) (by decide +kernel)) fun ds2 n2 p t2 l2 okp hp => ?_
    unfold t_deed_5
    pv_short
    refine Exists.intro _ (And.intro (inT_w (b := false) (x := "make") (ys := [.str "look", .str "list", .str "drop"]) (by decide +kernel) (by decide +kernel) (by decide +kernel)) ?_)
    pv_short
    unfold t_deed_3
    pv_short
    refine Exists.intro _ (And.intro (eq_str (neg := false) "make" "make") ?_)
    refine Exists.intro true (And.intro (by show isB (.d (.bool (PyData.eqv (.str "make") (.str "make")))) = _; rw [show PyData.eqv (.str "make") (.str "make") = true by decide +kernel]; rfl) ?_)
    pv_short
    unfold t_deed_2
    pv_short
    refine pick_at (m := 2) t2 (by omega) (by decide) (by decide +kernel) rfl (fun Q q => q) ?_
    intro ds3 j3 hT3 h03 h13
    pv_short
    obtain ⟨b, _, eb⟩ := idx_map (f := kS) (xs := [false, true]) h03 h13
    refine Exists.intro _ (And.intro eb ?_)
    pv_short
    exact kk ds3 _ (.mk p b) hT3 (by omega) ⟨okp, hp rfl⟩
  intro x mx
  simp only [wd10, List.mem_cons, List.not_mem_nil, or_false] at mx
  rcases mx with rfl | rfl | rfl | rfl | rfl | rfl | rfl | rfl | rfl | rfl
  · exact one _ false (inT_w (by decide +kernel) (by decide +kernel) (by decide +kernel)) (inT_w (by decide +kernel) (by decide +kernel) (by decide +kernel)) fun p h _ => ⟨h, .inl rfl⟩
  · exact one _ false (inT_w (by decide +kernel) (by decide +kernel) (by decide +kernel)) (inT_w (by decide +kernel) (by decide +kernel) (by decide +kernel)) fun p h _ => ⟨h, .inr (.inl rfl)⟩
  · exact mk
  · exact mk
  · exact one _ true (inT_w (by decide +kernel) (by decide +kernel) (by decide +kernel)) (inT_w (by decide +kernel) (by decide +kernel) (by decide +kernel)) fun p h z => ⟨h, .inr (.inr ⟨rfl, z rfl⟩)⟩
  · exact one _ true (inT_w (by decide +kernel) (by decide +kernel) (by decide +kernel)) (inT_w (by decide +kernel) (by decide +kernel) (by decide +kernel)) fun p h z => ⟨h, .inr (.inr ⟨rfl, z rfl⟩)⟩
  · exact two _ (inT_w (by decide +kernel) (by decide +kernel) (by decide +kernel)) (inT_w (by decide +kernel) (by decide +kernel) (by decide +kernel)) (by decide +kernel) (.inl rfl)
  · exact two _ (inT_w (by decide +kernel) (by decide +kernel) (by decide +kernel)) (inT_w (by decide +kernel) (by decide +kernel) (by decide +kernel)) (by decide +kernel) (.inr (.inl rfl))
  · exact two _ (inT_w (by decide +kernel) (by decide +kernel) (by decide +kernel)) (inT_w (by decide +kernel) (by decide +kernel) (by decide +kernel)) (by decide +kernel) (.inr (.inl rfl))
  · exact two _ (inT_w (by decide +kernel) (by decide +kernel) (by decide +kernel)) (inT_w (by decide +kernel) (by decide +kernel) (by decide +kernel)) (by decide +kernel) (.inr (.inr rfl))
end V23
set_option Elab.async false
set_option linter.all false
set_option maxRecDepth 100000
set_option maxHeartbeats 1000000
set_option autoImplicit false
set_option exponentiation.threshold 20000
namespace V23
open PySem PySem.Spec PyProof.Rows L2 DL
local macro_rules | `(tactic| pv_short) => `(tactic| repeat first | refine Exists.intro _ (And.intro rfl ?_) | refine ifT rfl ?_ | refine ifF rfl ?_ | refine Exists.intro _ (And.intro (if_pos (by first | assumption | decide | exact ⟨by assumption, by decide⟩ | exact ⟨by assumption, by assumption⟩)) ?_) | refine And.intro (show List.length _ ≤ sizeLine from Nat.le_of_ble_eq_true rfl) ?_ | refine And.intro (Nat.le_of_ble_eq_true rfl) ?_)
structure Hn where
  a : Addr
  ds : List De
abbrev lE (x : De) : Key × OT := (.inl 0, .d x.D)
abbrev hU (h : Hn) : OT := .n h.a false (h.ds.map lE)
abbrev hO (h : Hn) : Key × OT := (.inl 0, hU h)
abbrev hTr (b : Addr) (Hs : List Hn) : OT := .n b false (Hs.map hO)
theorem datas_lE : ∀ xs : List De, datas (xs.map lE) = some (xs.map fun x => ((.inl 0 : Key), x.D))
  | [] => rfl
  | x :: xs => by
    rw [List.map_cons, List.map_cons]
    show (some x.D).bind (fun d => (datas (xs.map lE)).map fun ds => ((Sum.inl 0 : Key), d) :: ds) = _
    rw [datas_lE xs]; rfl
theorem vw_hU (h : Hn) : (hU h).vw = some (.d (.list (h.ds.map De.D))) := by
  show (match datas (h.ds.map lE) with | some kvs => some (Vw.d (.list (kvs.map fun (q : Key × PyData) => q.2))) | none => _) = _
  rw [datas_lE]
  show some (Vw.d (.list _)) = _
  rw [List.map_map]; rfl
theorem vw_hT {b : Addr} {Hs : List Hn} (h : Hs ≠ []) : (hTr b Hs).vw = some (.xl Hs.length) := by
  cases Hs with
  | nil => exact absurd rfl h
  | cons r R =>
    show (match datas ((r :: R).map hO) with | some kvs => some (Vw.d (.list (kvs.map fun (q : Key × PyData) => q.2))) | none => some (Vw.xl ((r :: R).map hO).length)) = _
    rw [show datas ((r :: R).map hO) = none from rfl]
    show some (Vw.xl _) = _
    rw [List.length_map]
theorem ixN_nat {n i : Nat} (h : i < n) : ixN n (i : Int) = some i := by
  unfold ixN
  rw [if_pos (by omega), if_pos (by omega)]
  simp
theorem child_H {b : Addr} {Hs : List Hn} {i : Nat} {h : Hn} (e : Hs[i]? = some h) : childR (hTr b Hs) 5 [] (.inl (i : Int)) = some (.n (.al h.a 5 [.inl (i : Int)])) := by
  have hi := (List.getElem?_eq_some_iff.mp e).1
  show ((ixN (Hs.map hO).length (i : Int)).map fun (j : Nat) => ((Sum.inl (Int.ofNat j) : Key), j)).bind _ = _
  rw [List.length_map, ixN_nat hi]
  show ((Hs.map hO)[i]?).map _ = _
  rw [List.getElem?_map, e]; rfl
theorem ch_H {Hs : List Hn} {i : Nat} (hi : i < Hs.length) : chN false (Hs.map hO) (.inl (i : Int)) = some i := by
  show (if (0 : Int) ≤ (i : Int) ∧ (i : Int) < ((Hs.map hO).length : Int) then some (i : Int).toNat else none) = _
  rw [if_pos ⟨by omega, by rw [List.length_map]; omega⟩]
  simp
theorem al_H {b : Addr} {Hs : List Hn} {δ : SEnv} {b2 : Bool} {i : Nat} {h : Hn} (e : Hs[i]? = some h) (eδ : δ[5]? = some (some (.o b2 (.ot (hTr b Hs))))) : alAt δ h.a 5 [.inl (i : Int)] = some (hU h) := by
  have hi := (List.getElem?_eq_some_iff.mp e).1
  unfold alAt
  rw [eδ]
  show ((chN false (Hs.map hO) (.inl (i : Int))).bind _).bind _ = _
  rw [ch_H hi]
  show (((Hs.map hO)[i]?).bind _).bind _ = _
  rw [List.getElem?_map, e]
  show (if (hU h).root = some h.a then some (hU h) else none) = _
  exact if_pos rfl
theorem put_H {b : Addr} {Hs : List Hn} {i : Nat} {h h' : Hn} (e : Hs[i]? = some h) : (hTr b Hs).put [.inl (i : Int)] (hU h') = hTr b (Hs.set i h') := by
  have hi := (List.getElem?_eq_some_iff.mp e).1
  rw [put_cons (i := i) (q := hO h) (ch_H hi) (by rw [List.getElem?_map, e]; rfl), put_nil]
  show OT.n b false _ = OT.n b false _
  rw [List.map_set]
theorem datas_hO : ∀ Hs : List Hn, OT.datas (Hs.map hO) = some (Hs.map fun h => .list (h.ds.map De.D))
  | [] => by rw [List.map_nil, List.map_nil, OT.datas]
  | h :: Hs => by
    have one : ∀ xs : List De, OT.datas (xs.map lE) = some (xs.map De.D) := by
      intro xs
      induction xs with
      | nil => rw [List.map_nil, List.map_nil, OT.datas]
      | cons x xs ih => rw [List.map_cons, List.map_cons, OT.datas, OT.data, ih]; rfl
    rw [List.map_cons, List.map_cons, OT.datas, OT.data, one, datas_hO Hs]; rfl
abbrev hD (xs : List De) : PyData := .tuple (xs.map De.D)
structure HandsOk (H : List (List De)) (m : Int) : Prop where
  ne : H ≠ []
  few : (H.length : Int) ≤ m
  ok : ∀ h ∈ H, h.length ≤ 3 ∧ ∀ x ∈ h, De.ok x
def C_hands : FSpec := Ct (fun ss => ∃ ds R last nx hn dn n, ss = [.o true (.k ds), .d (trD R nx), .d (.int hn), .d (.int dn)] ∧ Tp n ds ∧ n + 100 ≤ 1000000 ∧ Wf nm6 R last 14 ∧ 1 ≤ hn ∧ hn ≤ 4 ∧ 0 ≤ dn ∧ dn ≤ 10)
  fun ss r ss' => ∃ ds ds' a b c n n' H hn, ss = [.o true (.k ds), .d a, .d (.int hn), .d c] ∧ Tp n ds ∧ ss' = [.o true (.k ds'), .d a, .d b, .d c] ∧ b = .int hn ∧ Tp n' ds' ∧ n' ≤ n + 100 ∧ r = .d (.tuple (H.map hD)) ∧ HandsOk H hn
abbrev eH (ds : List (Key × PyData)) (R : List Tn) (nx hn dn : Int) (x4 : Option Sl) (b : Addr) (Hs : List Hn) (x7 x8 : Option Sl) : SEnv := [some (.o true (.k ds)), some (.d (trD R nx)), some (.d (.int hn)), some (.d (.int dn)), x4, some (.o false (.ot (hTr b Hs))), none, x7, x8]
structure Hk (Hs : List Hn) (m : Nat) : Prop where
  len : Hs.length = m
  ok : ∀ h ∈ Hs, h.ds.length ≤ 3 ∧ ∀ x ∈ h.ds, De.ok x
def IsW (W : List (List Str)) (x4 : Option Sl) : Prop := x4 = some (.o false (.l (W.map wD))) ∨ x4 = some (.d (.list (W.map wD)))
def IsA (x8 : Option Sl) : Prop := x8 = none ∨ ∃ a i p, x8 = some (.o false (.al a i p))
section
variable {ds : List (Key × PyData)} {R : List Tn} {nx hn dn : Int} {W : List (List Str)} {b : Addr} {Hs : List Hn} {x4 x7 x8 : Option Sl} {n m : Nat} {d : DEnds}
theorem deed_call {P : DL.R → SEnv → Prop} {Ex : XP} (ok : WaysOk W) (h4 : IsW W x4) (hT : Tp n ds) (hb : n + 7 ≤ 1000000)
    (k : ∀ ds' n' x, Tp n' ds' → n' ≤ n + 7 → De.ok x → P (.d x.D) (eH ds' R nx hn dn (some (.d (.list (W.map wD)))) b Hs x7 x8)) :
    wCall 2 C_deed [true, false] (wCons (wVar 0) (wCons (wVar 4) wNil)) Ex (eH ds R nx hn dn x4 b Hs x7 x8) P := by
  unfold wCall
  rcases h4 with rfl | rfl
  all_goals
    refine ⟨_, rfl, _, rfl, ?_⟩
    refine ⟨.o 0, rfl, ?_⟩
    refine ⟨_, rfl, _, rfl, ?_⟩
    refine ⟨_, rfl, ?_⟩
    refine ⟨([.o 0, .d (.list (W.map wD))], eH ds R nx hn dn (some (.d (.list (W.map wD)))) b Hs x7 x8), rfl, rfl, ?_, ?_⟩
    · show ([0] : List Nat).Nodup
      exact List.nodup_cons.mpr ⟨by simp, List.nodup_nil⟩
    refine ⟨[.o true (.k ds), .d (.list (W.map wD))], rfl, ⟨ds, n, W, rfl, hT, hb, ok⟩, fun r ss' q _ => ?_⟩
    obtain ⟨ds1, ds', n1, n', x, W', e3, t1, e4, t2, e5, e6, e7⟩ := q
    have e9 := e3
    simp only [List.cons.injEq, Sl.o.injEq, Cont.k.injEq, Sl.d.injEq, true_and, and_true] at e9
    obtain ⟨rfl, _⟩ := e9
    have := t1.one hT
    subst this e4 e6
    exact ⟨_, rfl, k ds' n' x t2 e5 e7⟩
theorem hands_4 (ok : WaysOk W) (h4 : IsW W x4) (hk : Hk Hs m) (hm : 0 < m ∧ m ≤ 4) (hT : Tp n ds) (hb : n + 8 ≤ 1000000)
    (k : ∀ ds' n' Hs' x4 x8, Tp n' ds' → n' ≤ n + 8 → IsW W x4 → IsA x8 → Hk Hs' m → d.nx (eH ds' R nx hn dn x4 b Hs' x7 x8)) :
    t_hands_4 C_pick C_deed C_ways d (eH ds R nx hn dn x4 b Hs x7 x8) := by
  have hl := hk.len
  have ne : Hs ≠ [] := fun z => by rw [z] at hl; simp at hl; omega
  unfold t_hands_4
  pv_short
  refine pick_at (m := (Hs.length : Nat)) hT (by omega) (by omega) (log_small (by omega)) rfl (fun Q q => ?_) ?_
  · pv_short
    refine Exists.intro [Vw.xl Hs.length] (And.intro ?_ ?_)
    · show ((hTr b Hs).vw.bind fun w => (some []).map fun ws => w :: ws) = _
      rw [vw_hT ne]; rfl
    · pv_short
      exact q
  intro ds1 j hT1 h0 h1
  obtain ⟨i, rfl⟩ := Int.eq_ofNat_of_zero_le h0
  have hi : i < Hs.length := by omega
  have ei : Hs[i]? = some Hs[i] := List.getElem?_eq_getElem hi
  generalize Hs[i] = h at ei
  have okh := hk.ok h (List.mem_of_getElem? ei)
  pv_short
  refine Exists.intro _ (And.intro (child_H ei) ?_)
  pv_short
  unfold t_hands_3
  pv_short
  refine Exists.intro [Vw.d (.list (h.ds.map De.D))] (And.intro ?_ ?_)
  · show ((alAt _ h.a 5 [.inl (i : Int)]).bind OT.vw).bind _ = _
    rw [al_H (b2 := false) ei rfl]
    show (hU h).vw.bind _ = _
    rw [vw_hU]; rfl
  pv_short
  show (if decide ((((h.ds.map De.D).length : Nat) : Int) < 3) = true then _ else _)
  rw [List.length_map]
  refine ite2 (fun e => ?_) (fun e => ?_)
  · have e3 : h.ds.length < 3 := by have := of_decide_eq_true e; omega
    unfold t_hands_2
    refine Exists.intro (5, [.inl (i : Int)], hU h) (And.intro ?_ ?_)
    · show (alAt _ h.a 5 [.inl (i : Int)]).map _ = _
      rw [al_H (b2 := false) ei rfl]; rfl
    pv_short
    refine deed_call (x8 := some (.o false (.al h.a 5 [.inl (i : Int)]))) ok h4 hT1 (by omega) fun ds2 n2 x t2 l2 okx => ?_
    pv_short
    refine Exists.intro (5, [.inl (i : Int)], hU h) (And.intro ?_ ?_)
    · show (alAt _ h.a 5 [.inl (i : Int)]).map _ = _
      rw [al_H (b2 := false) ei rfl]; rfl
    intro a1
    pv_short
    refine Exists.intro _ (And.intro (show appN (hU h) (.d x.D) = some (hU ⟨h.a, h.ds ++ [x]⟩) from ?_) ?_)
    · show (if (h.ds.map lE).length < sizeLine then some (OT.n h.a false (h.ds.map lE ++ [((.inl 0 : Key), OT.d x.D)])) else none) = _
      rw [if_pos (by rw [List.length_map, sizeLine_eq]; omega)]
      show some (OT.n h.a false _) = some (OT.n h.a false _)
      rw [List.map_append]; rfl
    pv_short
    show d.nx [some (.o true (.k ds2)), some (.d (trD R nx)), some (.d (.int hn)), some (.d (.int dn)), some (.d (.list (W.map wD))), some (.o false (.ot ((hTr b Hs).put [.inl (i : Int)] (hU ⟨h.a, h.ds ++ [x]⟩)))), none, x7, some (.o false (.al h.a 5 [.inl (i : Int)]))]
    rw [put_H (h' := ⟨h.a, h.ds ++ [x]⟩) ei]
    refine k ds2 n2 _ _ _ t2 (by omega) (.inr rfl) (.inr ⟨_, _, _, rfl⟩) ⟨by rw [List.length_set]; exact hl, fun y my => ?_⟩
    rcases List.mem_or_eq_of_mem_set my with my | my
    · exact hk.ok y my
    · subst my
      refine ⟨by show (h.ds ++ [x]).length ≤ 3; rw [List.length_append]; show h.ds.length + 1 ≤ 3; omega, fun z mz => ?_⟩
      rcases List.mem_append.mp mz with mz | mz
      · exact okh.2 z mz
      · rw [List.mem_singleton] at mz; subst mz; exact okx
  · exact k ds1 _ Hs x4 _ hT1 (by omega) h4 (.inr ⟨_, _, _, rfl⟩) hk
end
end V23
set_option Elab.async false
set_option linter.all false
set_option maxRecDepth 100000
set_option maxHeartbeats 1000000
set_option autoImplicit false
set_option exponentiation.threshold 20000
namespace V23
open PySem PySem.Spec PyProof.Rows L2 DL
local macro_rules | `(tactic| pv_short) => `(tactic| repeat first | refine Exists.intro _ (And.intro rfl ?_) | refine ifT rfl ?_ | refine ifF rfl ?_ | refine Exists.intro _ (And.intro (if_pos (by first | assumption | decide | exact ⟨by assumption, by decide⟩ | exact ⟨by assumption, by assumption⟩)) ?_) | refine And.intro (show List.length _ ≤ sizeLine from Nat.le_of_ble_eq_true rfl) ?_ | refine And.intro (Nat.le_of_ble_eq_true rfl) ?_)
theorem hands_ok (ss : List Sl) (Ex : XP) (P : DL.R → List Sl → Prop) (h : C_hands ss Ex P) : fnW 4 9 (w_hands C_pick C_deed C_ways) ss Ex P := by
  obtain ⟨⟨ds, R, last, nx, hn, dn, n, rfl, hT, hb, w, b1, b2, b3, b4⟩, k⟩ := h
  have kk := fun ds' n' H (q1 : Tp n' ds') (q2 : n' ≤ n + 100) (q3 : HandsOk H hn) => k (.d (.tuple (H.map hD))) [.o true (.k ds'), .d (trD R nx), .d (.int hn), .d (.int dn)] ⟨ds, ds', _, _, _, n, n', H, hn, rfl, hT, rfl, rfl, q1, q2, rfl, q3⟩
  clear k
  refine And.intro rfl ?_
  rw [w_hands_eq]
  unfold t_hands_7 wSeq wSet
  refine call_d (d := trD R nx) (fun Q q => by pv_short; exact q) ⟨R, last, nx, rfl, w⟩ fun r ss' ⟨e1, W, e2, ok⟩ => ⟨e1, ?_⟩
  subst e2
  pv_short
  unfold t_hands_6
  pv_short
  refine pick_at (m := hn) hT (by omega) (by omega) (Nat.lt_of_le_of_lt (Nat.log2_le_self _) (by omega)) rfl (fun Q q => by pv_short; exact q) ?_
  intro ds1 j1 hT1 h01 h11
  pv_short
  refine And.intro ⟨(by show -(2 ^ 62) ≤ (0 : Int); decide), (by show (0 : Int) < 2 ^ 62; decide), (by show -(2 ^ 62) ≤ 1 + j1; omega), (by show 1 + j1 < 2 ^ 62; omega)⟩ ?_
  refine ⟨fun d _ => rfl, by rw [List.length_map, List.length_range]; show (1 + j1 - 0).toNat ≤ _; omega, fun as b las => ?_⟩
  rw [List.length_map, List.length_range] at las
  have las : as.length = (1 + j1 - 0).toNat := las
  rw [show (as.map fun a => ((.inl 0 : Key), OT.n a false [])) = (as.map fun a => (⟨a, []⟩ : Hn)).map hO by rw [List.map_map]; rfl]
  have hk0 : Hk (as.map fun a => (⟨a, []⟩ : Hn)) as.length := ⟨List.length_map _, fun h mh => by
    obtain ⟨a, _, rfl⟩ := List.mem_map.mp mh
    exact ⟨Nat.zero_le _, fun x hx => by cases hx⟩⟩
  generalize as.map (fun a => (⟨a, []⟩ : Hn)) = Hs0 at hk0
  generalize hm : as.length = m at hk0 las
  pv_short
  show t_hands_5 C_pick C_deed C_ways _ (eH ds1 R nx hn dn (some (.o false (.l (W.map wD)))) b Hs0 none none)
  unfold t_hands_5
  pv_short
  refine pick_at (m := dn + 1) hT1 (by omega) (by omega) (Nat.lt_of_le_of_lt (Nat.log2_le_self _) (by omega)) rfl (fun Q q => by pv_short; exact q) ?_
  intro ds2 j2 hT2 h02 h12
  pv_short
  refine And.intro ⟨(by show -(2 ^ 62) ≤ (0 : Int); decide), (by show (0 : Int) < 2 ^ 62; decide), (by show -(2 ^ 62) ≤ j2; omega), (by show j2 < 2 ^ 62; omega)⟩ ?_
  have hlr : (List.range (j2 - 0).toNat).length ≤ 10 := by rw [List.length_range]; omega
  refine for_of (g := fun i : Nat => .int (0 + (i : Int))) (xs := List.range (j2 - 0).toNat) (fun pre δ => ∃ ds' n' Hs x4 x7 x8, δ = eH ds' R nx hn dn x4 b Hs x7 x8 ∧ Tp n' ds' ∧ n' ≤ n + 2 + 8 * pre.length ∧ IsW W x4 ∧ IsA x8 ∧ Hk Hs m) ?_ ?_ ⟨ds2, n + 1 + 1, Hs0, _, none, none, rfl, hT2, by simp, .inl rfl, .inl rfl, hk0⟩
  · rintro δ ⟨ds', n', Hs, x4, x7, x8, rfl, hT', hn', h4, h8, hk⟩
    show t_hands_1 C_pick C_deed C_ways _ _
    unfold t_hands_1
    have hl := hk.len
    refine Exists.intro [some (.o true (.k ds')), some (.d (trD R nx)), some (.d (.int hn)), some (.d (.int dn)), x4, some (.o false (.l (Hs.map fun h => .list (h.ds.map De.D)))), none, x7, x8] (And.intro ?_ ?_)
    · show (OT.datas (Hs.map hO)).map _ = _
      rw [datas_hO]; rfl
    pv_short
    refine lc_of (g := fun h : Hn => .list (h.ds.map De.D)) (xs := Hs) (δf := _) (fun _ => true) (fun h => hD h.ds) rfl (by rw [sizeLine_eq]; simp only [List.length_nil]; omega) (fun h mh Q Q' g1 g2 => ?_) fun δ' h' => ?_
    · pv_short
      exact g1 rfl _ rfl
    · rw [List.nil_append, h', show Hs.filter (fun _ => true) = Hs from List.filter_eq_self.mpr fun _ _ => rfl]
      have q := kk ds' n' (Hs.map fun h => h.ds) hT' (by omega) ⟨fun z => ?_, by rw [List.length_map]; omega, fun h mh => ?_⟩
      · rw [List.map_map] at q
        rcases h8 with rfl | ⟨a, i, p, rfl⟩
        · pv_short
          exact q
        · pv_short
          exact q
      · have := List.map_eq_nil_iff.mp z
        rw [this] at hl; simp at hl; omega
      · obtain ⟨h', mh', rfl⟩ := List.mem_map.mp mh
        exact hk.ok h' mh'
  · rintro pre i post δ Q e ⟨ds', n', Hs, x4, x7, x8, rfl, hT', hn', h4, h8, hk⟩ hQ
    have hp : pre.length ≤ 9 := by
      have := congrArg List.length e
      rw [List.length_append, List.length_cons] at this
      omega
    pv_short
    refine hands_4 ok h4 hk (by omega) hT' (by omega) fun ds3 n3 Hs3 y4 y8 t3 l3 v4 v8 hk3 => hQ _ ⟨ds3, n3, Hs3, y4, _, y8, rfl, t3, ?_, v4, v8, hk3⟩
    rw [List.length_append, List.length_singleton]; omega
end V23
set_option Elab.async false
set_option linter.all false
set_option maxRecDepth 100000
set_option maxHeartbeats 1000000
set_option autoImplicit false
set_option exponentiation.threshold 20000
namespace V23
open PySem PySem.Spec PyProof.Rows L2 DL
local macro_rules | `(tactic| pv_short) => `(tactic| repeat first | refine Exists.intro _ (And.intro rfl ?_) | refine ifT rfl ?_ | refine ifF rfl ?_ | refine Exists.intro _ (And.intro (if_pos (by first | assumption | decide | exact ⟨by assumption, by decide⟩ | exact ⟨by assumption, by assumption⟩)) ?_) | refine And.intro (show List.length _ ≤ sizeLine from Nat.le_of_ble_eq_true rfl) ?_ | refine And.intro (Nat.le_of_ble_eq_true rfl) ?_)
abbrev sD (i k : Nat) (p : Int × Int) : PyData := .tuple [.tuple [.int i, .int k], .int p.1, .int p.2]
def rowS (i : Nat) (r : List (Int × Int)) : List PyData := r.zipIdx.map fun q => sD i q.2 q.1
def spS (X : List (List (Int × Int))) : List PyData := X.zipIdx.flatMap fun q => rowS q.2 q.1
theorem rowS_snoc (i : Nat) (r : List (Int × Int)) (p : Int × Int) : rowS i (r ++ [p]) = rowS i r ++ [sD i r.length p] := by
  unfold rowS
  rw [List.zipIdx_append, List.map_append, Nat.zero_add]; rfl
theorem spS_snoc (X : List (List (Int × Int))) (r : List (Int × Int)) : spS (X ++ [r]) = spS X ++ rowS X.length r := by
  unfold spS
  rw [List.zipIdx_append, List.flatMap_append, Nat.zero_add]
  show _ ++ (rowS X.length r ++ []) = _
  rw [List.append_nil]
structure RowOk (r : List (Int × Int)) (m : Nat) : Prop where
  few : r.length ≤ m
  ok : ∀ p ∈ r, 0 ≤ p.1 ∧ p.1 ≤ p.2 ∧ p.2 ≤ 1000
  up : r.Pairwise fun p q => p.2 < q.1
structure RowsOk (X : List (List (Int × Int))) (H : List (List De)) : Prop where
  len : X.length = H.length
  ok : ∀ (i : Nat) (r : List (Int × Int)) (h : List De), X[i]? = some r → H[i]? = some h → RowOk r h.length
def C_spans : FSpec := Ct (fun ss => ∃ ds n, ∃ H : List (List De), ss = [.o true (.k ds), .d (.tuple (H.map hD))] ∧ Tp n ds ∧ n + 60 ≤ 1000000 ∧ HandsOk H 4)
  fun ss r ss' => ∃ ds ds' n n' X, ∃ H : List (List De), ss = [.o true (.k ds), .d (.tuple (H.map hD))] ∧ Tp n ds ∧ ss' = [.o true (.k ds'), .d (.tuple (H.map hD))] ∧ Tp n' ds' ∧ n' ≤ n + 60 ∧ r = .d (.tuple (spS X)) ∧ RowsOk X H
abbrev eS (ds : List (Key × PyData)) (H : List (List De)) (F : List PyData) (x3 x4 x5 x6 x7 x8 : Option Sl) : SEnv := [some (.o true (.k ds)), some (.d (.tuple (H.map hD))), some (.o false (.l F)), x3, x4, x5, x6, x7, x8]
abbrev ds5 : List Int := [0, 2, 5, 9, 120]
theorem spans_4 {ds : List (Key × PyData)} {H : List (List De)} {F : List PyData} {x4 x6 x8 : Option Sl} {n i j : Nat} {at' : Int} {d : DEnds} (hT : Tp n ds) (hb : n + 2 ≤ 1000000) (hF : F.length ≤ 1000)
    (k : ∀ ds' a e x8, Tp (n + 2) ds' → at' ≤ e → e ≤ at' + 120 → e < a → a ≤ e + 3 → d.nx (eS ds' H (F ++ [sD i j (at', e)]) (some (.d (.int i))) x4 (some (.d (.int a))) x6 (some (.d (.int (0 + (j : Int))))) x8)) :
    t_spans_4 C_pick d (eS ds H F (some (.d (.int i))) x4 (some (.d (.int at'))) x6 (some (.d (.int (0 + (j : Int))))) x8) := by
  unfold t_spans_4
  pv_short
  refine pick_at (m := 5) hT (by omega) (by decide) (by decide +kernel) rfl (fun Q q => q) ?_
  intro ds1 j1 hT1 h01 h11
  pv_short
  obtain ⟨z, mz, ez⟩ := idx_map (f := PyData.int) (xs := ds5) h01 h11
  refine Exists.intro _ (And.intro ez ?_)
  have hz : 0 ≤ z ∧ z ≤ 120 := by
    simp only [ds5, List.mem_cons, List.not_mem_nil, or_false] at mz
    omega
  pv_short
  unfold t_spans_3
  pv_short
  refine And.intro (by rw [sizeLine_eq]; show F.length < _; omega) ?_
  unfold t_spans_2
  pv_short
  refine pick_at (m := 3) hT1 (by omega) (by decide) (by decide +kernel) rfl (fun Q q => q) ?_
  intro ds2 j2 hT2 h02 h12
  pv_short
  have q := k ds2 (at' + z + 1 + j2) (at' + z) (some (.d (.int (at' + z)))) hT2 (by omega) (by omega) (by omega) (by omega)
  rw [show sD i j (at', at' + z) = .tuple [.tuple [.int i, .int (0 + (j : Int))], .int at', .int (at' + z)] by rw [Int.zero_add]] at q
  exact q
theorem enum_H (H : List (List De)) : enumD (H.map hD) = H.zipIdx.map fun q => .tuple [.int ((q.2 : Nat) : Int), hD q.1] := by
  unfold enumD
  refine List.ext_getElem? fun i => ?_
  rw [List.getElem?_mapIdx, List.getElem?_map, List.getElem?_map, List.getElem?_zipIdx]
  cases H[i]? with
  | none => rfl
  | some h => simp
theorem RowOk.snoc {r : List (Int × Int)} {m : Nat} {p : Int × Int} (h : RowOk r m) (hm : r.length + 1 ≤ m) (hp : 0 ≤ p.1 ∧ p.1 ≤ p.2 ∧ p.2 ≤ 1000) (hu : ∀ q ∈ r, q.2 < p.1) : RowOk (r ++ [p]) m := by
  refine ⟨by rw [List.length_append]; exact hm, fun q mq => ?_, ?_⟩
  · rcases List.mem_append.mp mq with mq | mq
    · exact h.ok q mq
    · rw [List.mem_singleton] at mq; subst mq; exact hp
  · rw [List.pairwise_append]
    exact ⟨h.up, by simp, fun a ma b mb => by rw [List.mem_singleton] at mb; subst mb; exact hu a ma⟩
theorem spans_8 {ds : List (Key × PyData)} {H : List (List De)} {F : List PyData} {x5 x6 x7 x8 : Option Sl} {n i : Nat} {h : List De} {d : DEnds} (hT : Tp n ds) (hb : n + 14 ≤ 1000000) (hF : F.length ≤ 900) (hh : h.length ≤ 3)
    (k : ∀ ds' n' r x5 x6 x7 x8, Tp n' ds' → n' ≤ n + 14 → RowOk r h.length → d.nx (eS ds' H (F ++ rowS i r) (some (.d (.int i))) (some (.d (hD h))) x5 x6 x7 x8)) :
    t_spans_8 C_pick d (eS ds H F (some (.d (.int i))) (some (.d (hD h))) x5 x6 x7 x8) := by
  unfold t_spans_8
  pv_short
  refine pick_at (m := 5) hT (by omega) (by decide) (by decide +kernel) rfl (fun Q q => q) ?_
  intro ds1 a1 hT1 h01 h11
  pv_short
  have five : ∀ {ds2 : List (Key × PyData)} {n2 : Nat} {many : Int}, Tp n2 ds2 → n2 ≤ n + 3 → 0 ≤ many → many ≤ h.length → t_spans_5 C_pick d (eS ds2 H F (some (.d (.int i))) (some (.d (hD h))) (some (.d (.int a1))) (some (.d (.int many))) x7 x8) := by
    intro ds2 n2 many hT2 l2 m0 m1
    unfold t_spans_5
    pv_short
    refine And.intro ⟨(by show -(2 ^ 62) ≤ (0 : Int); decide), (by show (0 : Int) < 2 ^ 62; decide), (by show -(2 ^ 62) ≤ many; omega), (by show many < 2 ^ 62; omega)⟩ ?_
    have hlr : (List.range (many - 0).toNat).length ≤ h.length := by rw [List.length_range]; omega
    refine for_of (g := fun i : Nat => .int (0 + (i : Int))) (xs := List.range (many - 0).toNat) (fun pre δ => ∃ ds' n' r a x7 x8, δ = eS ds' H (F ++ rowS i r) (some (.d (.int i))) (some (.d (hD h))) (some (.d (.int a))) (some (.d (.int many))) x7 x8 ∧ Tp n' ds' ∧ n' ≤ n + 3 + 2 * pre.length ∧ r.length = pre.length ∧ RowOk r h.length ∧ 0 ≤ a ∧ a ≤ 10 + 130 * pre.length ∧ ∀ q ∈ r, q.2 < a) ?_ ?_ ⟨ds2, n2, [], a1, x7, x8, by rw [show rowS i [] = [] from rfl, List.append_nil], hT2, by simp; omega, rfl, ⟨Nat.zero_le _, (fun q mq => by cases mq), List.Pairwise.nil⟩, h01, (by simp; omega), (fun q mq => by cases mq)⟩
    · rintro δ ⟨ds', n', r, a, y7, y8, rfl, t', l', lr, okr, _⟩
      exact k ds' n' r _ _ y7 y8 t' (by omega) okr
    · rintro pre j post δ Q e ⟨ds', n', r, a, y7, y8, rfl, t', l', lr, okr, a0, al, au⟩ hQ
      have hp : pre.length + 1 ≤ h.length := by
        have := congrArg List.length e
        rw [List.length_append, List.length_cons] at this
        omega
      have ej : j = pre.length := by
        have : (List.range (many - 0).toNat)[pre.length]? = some j := by rw [e, List.getElem?_append_right (Nat.le_refl _)]; simp
        rw [List.getElem?_range (by rw [List.length_range] at hlr; have := congrArg List.length e; rw [List.length_range, List.length_append, List.length_cons] at this; omega)] at this
        exact (Option.some.inj this).symm
      pv_short
      have lS : (F ++ rowS i r).length ≤ 1000 := by
        rw [List.length_append]; unfold rowS; rw [List.length_map, List.length_zipIdx]; omega
      refine spans_4 (i := i) (j := j) t' (by omega) lS fun ds3 a3 e3 y9 t3 g1 g2 g3 g4 => hQ _ ⟨ds3, _, r ++ [(a, e3)], a3, some (.d (.int (0 + (j : Int)))), y9, ?_, t3, ?_, ?_, okr.snoc (by omega) ⟨a0, g1, by omega⟩ au, by omega, ?_, fun q mq => ?_⟩
      · rw [rowS_snoc, List.append_assoc, lr, ej]
      · rw [List.length_append, List.length_singleton]; omega
      · rw [List.length_append, List.length_append, lr]; rfl
      · rw [List.length_append, List.length_singleton]; omega
      · rcases List.mem_append.mp mq with mq | mq
        · have := au q mq; omega
        · rw [List.mem_singleton] at mq; subst mq; exact g3
  unfold t_spans_7 x_spans_6
  pv_short
  refine pick_at (m := 4) hT1 (by omega) (by decide) (by decide +kernel) rfl (fun Q q => q) ?_
  intro ds2 j2 hT2 h02 h12
  pv_short
  refine ite2 (fun e => ?_) (fun e => ?_)
  · pv_short
    rw [List.length_map]
    exact five hT2 (by omega) (by omega) (by omega)
  · refine pick_at (m := (((h.map De.D).length : Nat) : Int) + 1) hT2 (by omega) (by omega) (by rw [List.length_map]; exact Nat.lt_of_le_of_lt (Nat.log2_le_self _) (by omega)) rfl (fun Q q => by pv_short; exact q) ?_
    intro ds3 j3 hT3 h03 h13
    rw [List.length_map] at h13
    pv_short
    exact five hT3 (by omega) h03 (by omega)
theorem spans_ok (ss : List Sl) (Ex : XP) (P : DL.R → List Sl → Prop) (h : C_spans ss Ex P) : fnW 2 9 (w_spans C_pick) ss Ex P := by
  obtain ⟨⟨ds, n, H, rfl, hT, hb, ok⟩, k⟩ := h
  have kk := fun ds' n' X (q1 : Tp n' ds') (q2 : n' ≤ n + 60) (q3 : RowsOk X H) => k (.d (.tuple (spS X))) [.o true (.k ds'), .d (.tuple (H.map hD))] ⟨ds, ds', n, n', X, H, rfl, hT, rfl, q1, q2, rfl, q3⟩
  clear k
  have hl : H.length ≤ 4 := by have := ok.few; omega
  refine And.intro rfl ?_
  rw [w_spans_eq]
  unfold t_spans_10
  pv_short
  unfold t_spans_9
  pv_short
  show wForR (gT 2 (gsC (gN 3) (gsC (gN 4) gsN))) (t_spans_8 C_pick) (enumD (H.map hD)) _ (eS ds H [] none none none none none none)
  rw [enum_H]
  refine for_of (g := fun q : List De × Nat => .tuple [.int ((q.2 : Nat) : Int), hD q.1]) (xs := H.zipIdx) (fun pre δ => ∃ ds' n' X x3 x4 x5 x6 x7 x8, δ = eS ds' H (spS X) x3 x4 x5 x6 x7 x8 ∧ Tp n' ds' ∧ n' ≤ n + 14 * pre.length ∧ X.length = pre.length ∧ (∀ (i : Nat) (r : List (Int × Int)) (h : List De), X[i]? = some r → H[i]? = some h → RowOk r h.length) ∧ (spS X).length ≤ 3 * pre.length) ?_ ?_ ⟨ds, n, [], none, none, none, none, none, none, rfl, hT, by simp, rfl, (fun i r h e => by simp at e), Nat.zero_le _⟩
  · rintro δ ⟨ds', n', X, x3, x4, x5, x6, x7, x8, rfl, t', l', lX, okX, _⟩
    rw [List.length_zipIdx] at l' lX
    show t_spans_1 C_pick _ _
    unfold t_spans_1
    pv_short
    exact kk ds' n' X t' (by omega) ⟨lX, okX⟩
  · rintro pre ⟨h, i⟩ post δ Q e ⟨ds', n', X, x3, x4, x5, x6, x7, x8, rfl, t', l', lX, okX, lS⟩ hQ
    have hp : pre.length + 1 ≤ H.length := by
      have := congrArg List.length e
      rw [List.length_zipIdx, List.length_append, List.length_cons] at this
      omega
    have ei : H[pre.length]? = some h ∧ i = pre.length := by
      have : H.zipIdx[pre.length]? = some (h, i) := by rw [e, List.getElem?_append_right (Nat.le_refl _)]; simp
      rw [List.getElem?_zipIdx] at this
      obtain ⟨h', e1, e2⟩ := Option.map_eq_some_iff.mp this
      cases e2
      exact ⟨e1, by omega⟩
    obtain ⟨eh, rfl⟩ := ei
    have okh := ok.ok h (List.mem_of_getElem? eh)
    pv_short
    refine spans_8 (i := pre.length) (h := h) t' (by omega) (by omega) okh.1 fun ds3 n3 r y5 y6 y7 y8 t3 l3 okr => hQ _ ⟨ds3, n3, X ++ [r], some (.d (.int ((pre.length : Nat) : Int))), some (.d (hD h)), y5, y6, y7, y8, ?_, t3, ?_, ?_, ?_, ?_⟩
    · rw [spS_snoc, lX]
    · rw [List.length_append, List.length_singleton]; omega
    · rw [List.length_append, List.length_append, lX]; rfl
    · intro i' r' h' e1 e2
      by_cases hi : i' < X.length
      · rw [List.getElem?_append_left hi] at e1
        exact okX i' r' h' e1 e2
      · rw [List.getElem?_append_right (by omega)] at e1
        have : i' = X.length := by
          have := (List.getElem?_eq_some_iff.mp e1).1
          simp at this
          omega
        subst this
        simp at e1
        subst e1
        rw [lX, eh] at e2
        cases e2
        exact okr
    · rw [spS_snoc, List.length_append, List.length_append, List.length_singleton]
      have : (rowS X.length r).length ≤ 3 := by unfold rowS; rw [List.length_map, List.length_zipIdx]; have := okr.few; omega
      omega
end V23
set_option Elab.async false
set_option linter.all false
set_option maxRecDepth 100000
set_option maxHeartbeats 1000000
set_option autoImplicit false
set_option exponentiation.threshold 20000
namespace V23
open PySem PySem.Spec PyProof.Rows L2 DL
local macro_rules | `(tactic| pv_short) => `(tactic| repeat first | refine Exists.intro _ (And.intro rfl ?_) | refine ifT rfl ?_ | refine ifF rfl ?_ | refine Exists.intro _ (And.intro (if_pos (by first | assumption | decide | exact ⟨by assumption, by decide⟩ | exact ⟨by assumption, by assumption⟩)) ?_) | refine And.intro (show List.length _ ≤ sizeLine from Nat.le_of_ble_eq_true rfl) ?_ | refine And.intro (Nat.le_of_ble_eq_true rfl) ?_)
structure Sc where
  R : List Tn
  last : Int
  nx : Int
  H : List (List De)
  X : List (List (Int × Int))
structure Sc.ok (s : Sc) : Prop where
  tree : Wf nm6 s.R s.last 14
  nx : s.last < s.nx ∧ s.nx ≤ 100
  hands : HandsOk s.H 4
  rows : RowsOk s.X s.H
abbrev haD (H : List (List De)) : PyData := .tuple (H.map hD)
abbrev scD (s : Sc) : PyData := .tuple [trD s.R s.nx, haD s.H, .tuple (spS s.X)]
def C_scene : FSpec := Ct (fun ss => ∃ ds n, ss = [.o true (.k ds)] ∧ Tp n ds ∧ n + 230 ≤ 1000000)
  fun ss r ss' => ∃ ds ds' n n' s, ss = [.o true (.k ds)] ∧ Tp n ds ∧ ss' = [.o true (.k ds')] ∧ Tp n' ds' ∧ n' ≤ n + 230 ∧ r = .d (scD s) ∧ Sc.ok s
theorem HandsOk.to4 {H : List (List De)} {m : Int} (h : HandsOk H m) (hm : m ≤ 4) : HandsOk H 4 := ⟨h.ne, by have := h.few; omega, h.ok⟩
theorem RowsOk.cong {X : List (List (Int × Int))} {H H' : List (List De)} (e : H.map hD = H'.map hD) (h : RowsOk X H') : RowsOk X H := by
  have hl : H.length = H'.length := by have := congrArg List.length e; rwa [List.length_map, List.length_map] at this
  refine ⟨by rw [h.len, hl], fun i r x e1 e2 => ?_⟩
  have hi : i < H'.length := by rw [← hl]; exact (List.getElem?_eq_some_iff.mp e2).1
  have e3 : H'[i]? = some H'[i] := List.getElem?_eq_getElem hi
  have e4 := congrArg (fun l => l[i]?) e
  simp only [List.getElem?_map, e2, e3, Option.map_some, Option.some.injEq] at e4
  have e5 : x.map De.D = H'[i].map De.D := by injection e4
  have e6 : x.length = H'[i].length := by have := congrArg List.length e5; rwa [List.length_map, List.length_map] at this
  rw [e6]
  exact h.ok i r _ e1 e3
theorem scene_ok (ss : List Sl) (Ex : XP) (P : DL.R → List Sl → Prop) (h : C_scene ss Ex P) : fnW 1 4 (w_scene C_spans C_hands C_tree C_pick) ss Ex P := by
  obtain ⟨⟨ds, n, rfl, hT, hb⟩, k⟩ := h
  have kk := fun ds' n' s (q1 : Tp n' ds') (q2 : n' ≤ n + 230) (q3 : Sc.ok s) => k (.d (scD s)) [.o true (.k ds')] ⟨ds, ds', n, n', s, rfl, hT, rfl, q1, q2, rfl, q3⟩
  clear k
  refine And.intro rfl ?_
  rw [w_scene_eq]
  unfold t_scene_7
  pv_short
  refine pick_at (m := 8) hT (by omega) (by decide) (by decide +kernel) rfl (fun Q q => q) ?_
  intro ds1 j1 hT1 h01 h11
  pv_short
  generalize PyData.eqv (.int j1) (.int 0) = b
  show t_scene_6 C_spans C_hands C_tree C_pick _ [some (.o true (.k ds1)), some (.d (.bool b)), none, none]
  unfold t_scene_6 wSeq wSet
  refine call_od (i := 0) (b := true) (c := .k ds1) (d := .int (if b then 13 else 6)) rfl rfl (fun Q q => ?_) ⟨ds1, _, _, rfl, hT1, by omega, by split <;> omega, by split <;> omega⟩ fun r ss' q => ?_
  · unfold x_scene_5
    cases b <;> (pv_short; exact q)
  obtain ⟨da, ds2, top, n1, n2, R, last, nx, e3, t1, e4, t2, l2, e5, w, x0, x1⟩ := q
  have e9 := e3
  simp only [List.cons.injEq, Sl.o.injEq, Cont.k.injEq, Sl.d.injEq, PyData.int.injEq, true_and, and_true] at e9
  obtain ⟨rfl, rfl⟩ := e9
  have := t1.one hT1
  subst this e4 e5
  refine ⟨.k ds2, rfl, rfl, ?_⟩
  pv_short
  unfold t_scene_4 wSeq wSet
  have hn : ∃ hn dn : Int, 1 ≤ hn ∧ hn ≤ 4 ∧ 0 ≤ dn ∧ dn ≤ 10 ∧ ∀ {Ex : XP} (Q : DL.R → SEnv → Prop), Q (.d (.int hn)) [some (.o true (.k ds2)), some (.d (.bool b)), some (.d (trD R nx)), none] → x_scene_3 C_spans C_hands C_tree C_pick Ex [some (.o true (.k ds2)), some (.d (.bool b)), some (.d (trD R nx)), none] Q := by
    cases b with
    | true => exact ⟨4, 10, by decide, by decide, by decide, by decide, fun Q q => by unfold x_scene_3; pv_short; exact q⟩
    | false => exact ⟨3, 4, by decide, by decide, by decide, by decide, fun Q q => by unfold x_scene_3; pv_short; exact q⟩
  have hd : ∃ dn : Int, 0 ≤ dn ∧ dn ≤ 10 ∧ ∀ {Ex : XP} (Q : DL.R → SEnv → Prop), Q (.d (.int dn)) [some (.o true (.k ds2)), some (.d (.bool b)), some (.d (trD R nx)), none] → x_scene_2 C_spans C_hands C_tree C_pick Ex [some (.o true (.k ds2)), some (.d (.bool b)), some (.d (trD R nx)), none] Q := by
    cases b with
    | true => exact ⟨10, by decide, by decide, fun Q q => by unfold x_scene_2; pv_short; exact q⟩
    | false => exact ⟨4, by decide, by decide, fun Q q => by unfold x_scene_2; pv_short; exact q⟩
  obtain ⟨hn, _, a1, a2, _, _, ha⟩ := hn
  obtain ⟨dn, b3, b4, hdn⟩ := hd
  unfold wCall
  refine ⟨_, rfl, _, rfl, ?_⟩
  refine ⟨.o 0, rfl, ?_⟩
  refine ⟨_, rfl, _, rfl, ?_⟩
  refine ⟨_, rfl, ?_⟩
  refine ha _ ?_
  refine ⟨_, rfl, ?_⟩
  refine hdn _ ?_
  refine ⟨_, rfl, ?_⟩
  refine ⟨([.o 0, .d (trD R nx), .d (.int hn), .d (.int dn)], [some (.o true (.k ds2)), some (.d (.bool b)), some (.d (trD R nx)), none]), rfl, rfl, (show ([0] : List Nat).Nodup from List.nodup_cons.mpr ⟨by simp, List.nodup_nil⟩), ?_⟩
  refine ⟨[.o true (.k ds2), .d (trD R nx), .d (.int hn), .d (.int dn)], rfl, ⟨ds2, R, last, nx, hn, dn, n2, rfl, t2, by omega, w, a1, a2, b3, b4⟩, fun r ss' q _ => ?_⟩
  obtain ⟨da, ds3, a, b', c, n3, n4, H, hn', e3, t3, e4, e5, t4, l4, e6, okH⟩ := q
  have e9 := e3
  simp only [List.cons.injEq, Sl.o.injEq, Cont.k.injEq, Sl.d.injEq, PyData.int.injEq, true_and, and_true] at e9
  obtain ⟨rfl, rfl, rfl, rfl⟩ := e9
  have := t3.one t2
  subst this e5 e4 e6
  refine ⟨_, rfl, ?_⟩
  pv_short
  show t_scene_1 C_spans C_hands C_tree C_pick _ [some (.o true (.k ds3)), some (.d (.bool b)), some (.d (trD R nx)), some (.d (haD H))]
  unfold t_scene_1
  pv_short
  have ok4 := okH.to4 a2
  refine call_od (i := 0) (b := true) (c := .k ds3) (d := haD H) rfl rfl (fun Q q => by pv_short; exact q) ⟨ds3, n4, H, rfl, t4, by omega, ok4⟩ fun r ss' q => ?_
  obtain ⟨da, ds4, n5, n6, X, H', e3, t5, e4, t6, l6, e5, okX⟩ := q
  have e9 := e3
  simp only [List.cons.injEq, Sl.o.injEq, Cont.k.injEq, Sl.d.injEq, true_and, and_true] at e9
  obtain ⟨rfl, e10⟩ := e9
  have := t5.one t4
  subst this e4 e5
  have e11 : H.map hD = H'.map hD := by injection e10
  refine ⟨.k ds4, ?_, rfl, ?_⟩
  · show [Sl.o true (.k ds4), .d (.tuple (H'.map hD))] = [Sl.o true (.k ds4), .d (.tuple (H.map hD))]
    rw [e11]
  pv_short
  exact kk ds4 n6 ⟨R, last, nx, H, X⟩ t6 (by omega) ⟨w, ⟨x0, x1⟩, ok4, okX.cong e11⟩
end V23
set_option Elab.async false
set_option linter.all false
set_option maxRecDepth 100000
set_option maxHeartbeats 1000000
set_option autoImplicit false
set_option exponentiation.threshold 20000
namespace V23
open PySem PySem.Spec PyProof.Rows L2 DL
local macro_rules | `(tactic| pv_short) => `(tactic| repeat first | refine Exists.intro _ (And.intro rfl ?_) | refine ifT rfl ?_ | refine ifF rfl ?_ | refine Exists.intro _ (And.intro (if_pos (by first | assumption | decide | exact ⟨by assumption, by decide⟩ | exact ⟨by assumption, by assumption⟩)) ?_) | refine And.intro (show List.length _ ≤ sizeLine from Nat.le_of_ble_eq_true rfl) ?_ | refine And.intro (Nat.le_of_ble_eq_true rfl) ?_)
def C_source : FSpec := Ct (fun ss => ∃ s ns, ss = [s] ∧ Scr ns s) fun ss r ss' => ss' = ss ∧ ∃ ds, r = .n (.k ds) ∧ Tp 0 ds
theorem source_ok (ss : List Sl) (Ex : XP) (P : DL.R → List Sl → Prop) (h : C_source ss Ex P) : fnW 1 1 w_source ss Ex P := by
  obtain ⟨⟨s, ns, rfl, hs⟩, k⟩ := h
  have kk := fun ds q => k (.n (.k ds)) _ ⟨rfl, ds, rfl, q⟩
  clear k
  refine And.intro rfl ?_
  rw [w_source_eq]
  unfold t_source_1
  rcases hs with rfl | rfl
  · pv_short
    refine kk _ ⟨cutL ns none (some 63), 0, 0, ?_⟩
    show [((.inr "cells" : Key), PyData.list (cutL (ns.map .int) none (some 63))), (.inr "at", .int 0), (.inr "rest", .int 0), (.inr "count", .int 0)] = _
    rw [cut_map]; rfl
  · pv_short
    refine Exists.intro _ (And.intro (if_pos (scal_ints ns)) ?_)
    pv_short
    refine kk _ ⟨cutL ns none (some 63), 0, 0, ?_⟩
    show [((.inr "cells" : Key), PyData.list (cutL (ns.map .int) none (some 63))), (.inr "at", .int 0), (.inr "rest", .int 0), (.inr "count", .int 0)] = _
    rw [cut_map]; rfl
end V23
set_option Elab.async false
set_option linter.all false
set_option maxRecDepth 100000
set_option maxHeartbeats 1000000
set_option autoImplicit false
set_option exponentiation.threshold 20000
namespace V23
open PySem PySem.Spec PyProof.Rows L2 DL
local macro_rules | `(tactic| pv_short) => `(tactic| repeat first | refine Exists.intro _ (And.intro rfl ?_) | refine ifT rfl ?_ | refine ifF rfl ?_ | refine Exists.intro _ (And.intro (if_pos (by first | assumption | decide | exact ⟨by assumption, by decide⟩ | exact ⟨by assumption, by assumption⟩)) ?_) | refine And.intro (show List.length _ ≤ sizeLine from Nat.le_of_ble_eq_true rfl) ?_ | refine And.intro (Nat.le_of_ble_eq_true rfl) ?_)
theorem map_inj {α β : Type} {f : α → β} (h : ∀ a b, f a = f b → a = b) : ∀ {xs ys : List α}, xs.map f = ys.map f → xs = ys
  | [], [], _ => rfl
  | [], _ :: _, e => by cases e
  | _ :: _, [], e => by cases e
  | x :: xs, y :: ys, e => by
    rw [List.map_cons, List.map_cons, List.cons.injEq] at e
    rw [h x y e.1, map_inj h e.2]
theorem eqv_int (a b : Int) : PyData.eqv (.int a) (.int b) = decide (a = b) := by
  simp [PyData.eqv]; rfl
theorem bulk_le {c : Nat} : ∀ {xs : List PyData} {n : Nat}, xs.length ≤ n → (∀ x ∈ xs, x.bulk ≤ c) → PyData.bulkAll xs ≤ (c + 1) * n
  | [], n, _, _ => Nat.zero_le _
  | x :: xs, 0, h, _ => by cases h
  | x :: xs, n + 1, h, hc => by
    have ih := bulk_le (xs := xs) (n := n) (Nat.le_of_succ_le_succ h) (fun y m => hc y (List.mem_cons_of_mem _ m))
    have := hc x (List.mem_cons_self ..)
    simp only [PyData.bulkAll]
    rw [Nat.mul_succ]; omega
abbrev Tk : Type := Int × Int
abbrev lnD (L : List Tk) : PyData := .tuple (L.map pI)
theorem pI_inj (p q : Tk) (e : pI p = pI q) : p = q := by
  obtain ⟨a, b⟩ := p
  obtain ⟨c, d⟩ := q
  cases e; rfl
theorem lnD_inj {S S' : List Tk} (e : lnD S = lnD S') : S = S' := map_inj pI_inj (by injection e)
theorem eqv_pI (p q : Tk) : PyData.eqv (pI p) (pI q) = decide (p = q) := by
  obtain ⟨a, b⟩ := p
  obtain ⟨c, d⟩ := q
  show (PyData.eqv (.int a) (.int c) && (PyData.eqv (.int b) (.int d) && true)) = _
  rw [eqv_int, eqv_int]
  by_cases h1 : a = c <;> by_cases h2 : b = d <;> simp [h1, h2]
theorem at_tup {α : Type} {g : α → PyData} {xs : List α} {i : Int} {x : α} (h0 : 0 ≤ i) (e : xs[i.toNat]? = some x) : idxF (.d (.tuple (xs.map g))) (.d (.int i)) = some (.val (g x)) := by
  obtain ⟨n, rfl⟩ := Int.eq_ofNat_of_zero_le h0
  show (atI (xs.map g) (n : Int)).map Rv.val = _
  have e : xs[n]? = some x := e
  rw [atI_nat (v := g x) (by rw [List.getElem?_map, e]; rfl)]; rfl
theorem repr_ok {d : PyData} (h : showOk d = true) : reprF [.d d] = some (.val (.str d.shown)) := by
  unfold reprF
  show (if showOk d = true then some (Rv.val (.str d.shown)) else none) = _
  rw [if_pos h]
abbrev kT (t : Tk) : List Int := [t.1, t.2]
theorem kT_inj (p q : Tk) (e : kT p = kT q) : p = q := by
  obtain ⟨a, b⟩ := p
  obtain ⟨c, d⟩ := q
  cases e; rfl
theorem put_newI {kvs : List (List Int × PyData)} {k : List Int} {d : PyData} (h : ∀ kv ∈ kvs, kv.1 ≠ k) : putD kvs k d = kvs ++ [(k, d)] := by
  unfold putD
  rw [if_neg]
  rw [List.any_eq_true]
  rintro ⟨kv, m, e⟩
  exact h kv m (of_decide_eq_true e)
def dAt (H : List (List De)) (t : Tk) : De := ((H[t.1.toNat]?.getD [])[t.2.toNat]?).getD (.one "look" [])
def TkOk (H : List (List De)) (t : Tk) : Prop := 0 ≤ t.1 ∧ 0 ≤ t.2 ∧ ∃ h d, H[t.1.toNat]? = some h ∧ h[t.2.toNat]? = some d
theorem TkOk.at {H : List (List De)} {t : Tk} (h : TkOk H t) : ∃ hd, H[t.1.toNat]? = some hd ∧ hd[t.2.toNat]? = some (dAt H t) := by
  obtain ⟨_, _, hd, d, e1, e2⟩ := h
  refine ⟨hd, e1, ?_⟩
  unfold dAt
  rw [e1, Option.getD_some, e2, Option.getD_some]
end V23
set_option Elab.async false
set_option linter.all false
set_option maxRecDepth 100000
set_option maxHeartbeats 1000000
set_option autoImplicit false
set_option exponentiation.threshold 20000
namespace V23
open PySem PySem.Spec PyProof.Rows L2 DL
local macro_rules | `(tactic| pv_short) => `(tactic| repeat first | refine Exists.intro _ (And.intro rfl ?_) | refine ifT rfl ?_ | refine ifF rfl ?_ | refine Exists.intro _ (And.intro (if_pos (by first | assumption | decide | exact ⟨by assumption, by decide⟩ | exact ⟨by assumption, by assumption⟩)) ?_) | refine And.intro (show List.length _ ≤ sizeLine from Nat.le_of_ble_eq_true rfl) ?_ | refine And.intro (Nat.le_of_ble_eq_true rfl) ?_)
abbrev Sp : Type := (Int × Int) × Int × Int
abbrev qD (s : Sp) : PyData := .tuple [pI s.1, .int s.2.1, .int s.2.2]
abbrev sps (S : List Sp) : PyData := .tuple (S.map qD)
def IsSps (d : PyData) (S : List Sp) : Prop := d = .tuple (S.map qD) ∨ d = .list (S.map qD)
theorem qD_inj (p q : Sp) (e : qD p = qD q) : p = q := by
  obtain ⟨⟨a, b⟩, c, d⟩ := p
  obtain ⟨⟨a', b'⟩, c', d'⟩ := q
  cases e; rfl
theorem sps_inj {S S' : List Sp} (e : sps S = sps S') : S = S' := map_inj qD_inj (by injection e)
theorem IsSps.one {d : PyData} {S S' : List Sp} (h : IsSps d S) (h' : IsSps d S') : S = S' := by
  rcases h with rfl | rfl <;> rcases h' with e | e
  · exact map_inj qD_inj (PyData.tuple.inj e)
  · cases e
  · cases e
  · exact map_inj qD_inj (PyData.list.inj e)
theorem nodup_map {α β : Type} {f : α → β} (h : ∀ a b, f a = f b → a = b) : ∀ {xs : List α}, xs.Nodup → (xs.map f).Nodup
  | [], _ => List.nodup_nil
  | x :: xs, nd => by
    rw [List.nodup_cons] at nd
    rw [List.map_cons, List.nodup_cons]
    refine ⟨fun m => ?_, nodup_map h nd.2⟩
    obtain ⟨y, my, e⟩ := List.mem_map.mp m
    exact nd.1 (h _ _ e ▸ my)
structure SpW (S : List Sp) : Prop where
  nd : (S.map (·.1)).Nodup
  few : S.length ≤ 12
  pos : ∀ s ∈ S, 0 ≤ s.1.1 ∧ s.1.1 ≤ 100 ∧ 0 ≤ s.1.2 ∧ s.1.2 ≤ 100 ∧ 0 ≤ s.2.1 ∧ s.2.1 ≤ s.2.2 ∧ s.2.2 ≤ 1000
  pre : ∀ s ∈ S, s.1.2 ≠ 0 → (s.1.1, s.1.2 - 1) ∈ S.map (·.1)
theorem any_pI (found : List Tk) (p : Tk) : ((found.map pI).any fun z => PyData.eqv z (pI p)) = decide (p ∈ found) := by
  rw [List.any_map, Bool.eq_iff_iff, List.any_eq_true, decide_eq_true_iff]
  constructor
  · rintro ⟨x, m, e⟩
    have e : PyData.eqv (pI x) (pI p) = true := e
    rw [eqv_pI, decide_eq_true_iff] at e
    exact e ▸ m
  · intro m
    exact ⟨p, m, by show PyData.eqv (pI p) (pI p) = true; rw [eqv_pI]; simp⟩
end V23
set_option Elab.async false
set_option linter.all false
set_option maxRecDepth 100000
set_option maxHeartbeats 1000000
set_option autoImplicit false
set_option exponentiation.threshold 20000
namespace V23
open PySem PySem.Spec PyProof.Rows L2 DL
local macro_rules | `(tactic| pv_short) => `(tactic| repeat first | refine Exists.intro _ (And.intro rfl ?_) | refine ifT rfl ?_ | refine ifF rfl ?_ | refine Exists.intro _ (And.intro (if_pos (by first | assumption | decide | exact ⟨by assumption, by decide⟩ | exact ⟨by assumption, by assumption⟩)) ?_) | refine And.intro (show List.length _ ≤ sizeLine from Nat.le_of_ble_eq_true rfl) ?_ | refine And.intro (Nat.le_of_ble_eq_true rfl) ?_)
def spL (X : List (List (Int × Int))) : List Sp := X.zipIdx.flatMap fun q => q.1.zipIdx.map fun p => ((((q.2 : Nat) : Int), ((p.2 : Nat) : Int)), p.1.1, p.1.2)
theorem spL_D (X : List (List (Int × Int))) : spS X = (spL X).map qD := by
  unfold spS spL
  rw [List.map_flatMap]
  refine congrArg (fun f => List.flatMap f X.zipIdx) (funext fun q => ?_)
  unfold rowS
  rw [List.map_map]; rfl
theorem spL_mem {X : List (List (Int × Int))} {s : Sp} : s ∈ spL X ↔ ∃ (i k : Nat) (r : List (Int × Int)) (p : Int × Int), X[i]? = some r ∧ r[k]? = some p ∧ s = (((i : Int), (k : Int)), p.1, p.2) := by
  constructor
  · intro m
    obtain ⟨⟨r, i⟩, mr, ms⟩ := List.mem_flatMap.mp m
    obtain ⟨⟨p, k⟩, mp, rfl⟩ := List.mem_map.mp ms
    exact ⟨i, k, r, p, List.mem_zipIdx_iff_getElem?.mp mr, List.mem_zipIdx_iff_getElem?.mp mp, rfl⟩
  · rintro ⟨i, k, r, p, e1, e2, rfl⟩
    exact List.mem_flatMap.mpr ⟨(r, i), List.mem_zipIdx_iff_getElem?.mpr e1, List.mem_map.mpr ⟨(p, k), List.mem_zipIdx_iff_getElem?.mpr e2, rfl⟩⟩
theorem row_nd (i : Nat) (r : List (Int × Int)) : ((r.zipIdx.map fun p => ((((i : Nat) : Int), ((p.2 : Nat) : Int)), p.1.1, p.1.2)).map fun s : Sp => s.1).Nodup := by
  rw [List.map_map]
  rw [show (fun s : Sp => s.1) ∘ (fun p : (Int × Int) × Nat => ((((i : Nat) : Int), ((p.2 : Nat) : Int)), p.1.1, p.1.2)) = (fun k : Nat => (((i : Nat) : Int), ((k : Nat) : Int))) ∘ Prod.snd from rfl, ← List.map_map, List.zipIdx_map_snd]
  refine nodup_map (fun a b e => ?_) (List.nodup_range' ..)
  exact Int.ofNat.inj (congrArg Prod.snd e)
theorem spL_nd : ∀ (X : List (List (Int × Int))) (i : Nat), (((X.zipIdx i).flatMap fun q => q.1.zipIdx.map fun p => ((((q.2 : Nat) : Int), ((p.2 : Nat) : Int)), p.1.1, p.1.2)).map fun s : Sp => s.1).Nodup ∧ ∀ t ∈ ((X.zipIdx i).flatMap fun q => q.1.zipIdx.map fun p => ((((q.2 : Nat) : Int), ((p.2 : Nat) : Int)), p.1.1, p.1.2)).map fun s : Sp => s.1, (i : Int) ≤ t.1
  | [], _ => ⟨List.nodup_nil, fun _ m => by cases m⟩
  | r :: X, i => by
    obtain ⟨h1, h2⟩ := spL_nd X (i + 1)
    rw [List.zipIdx_cons, List.flatMap_cons, List.map_append]
    have hr : ∀ t ∈ (r.zipIdx.map fun p => ((((i : Nat) : Int), ((p.2 : Nat) : Int)), p.1.1, p.1.2)).map fun s : Sp => s.1, t.1 = (i : Int) := fun t m => by
      obtain ⟨s, ms, rfl⟩ := List.mem_map.mp m
      obtain ⟨p, _, rfl⟩ := List.mem_map.mp ms
      rfl
    refine ⟨List.nodup_append.mpr ⟨row_nd i r, h1, fun a ma b mb e => ?_⟩, fun t m => ?_⟩
    · subst e
      have := hr a ma
      have := h2 a mb
      omega
    · rcases List.mem_append.mp m with m | m
      · exact Int.le_of_eq (hr t m).symm
      · have := h2 t m; omega
theorem sum_le : ∀ {X : List (List (Int × Int))} {H : List (List De)}, X.length = H.length → (∀ (i : Nat) (r : List (Int × Int)) (h : List De), X[i]? = some r → H[i]? = some h → r.length ≤ 3) → ∀ i, ((X.zipIdx i).flatMap fun q => rowS q.2 q.1).length ≤ 3 * X.length
  | [], _, _, _, _ => Nat.zero_le _
  | r :: X, [], e, _, _ => by cases e
  | r :: X, h :: H, e, hr, i => by
    have ih := sum_le (X := X) (H := H) (Nat.succ.inj e) (fun j r h e1 e2 => hr (j + 1) r h (by simpa using e1) (by simpa using e2)) (i + 1)
    have h0 := hr 0 r h rfl rfl
    rw [List.zipIdx_cons, List.flatMap_cons, List.length_append, List.length_cons]
    have : (rowS i r).length = r.length := by unfold rowS; rw [List.length_map, List.length_zipIdx]
    show (rowS i r).length + _ ≤ _
    omega
structure RowsW (X : List (List (Int × Int))) (H : List (List De)) : Prop where
  len : X.length = H.length
  ok : ∀ (i : Nat) (r : List (Int × Int)) (h : List De), X[i]? = some r → H[i]? = some h → r.length ≤ h.length ∧ ∀ p ∈ r, 0 ≤ p.1 ∧ p.1 ≤ p.2 ∧ p.2 ≤ 1000
theorem RowsOk.w {X : List (List (Int × Int))} {H : List (List De)} (h : RowsOk X H) : RowsW X H := ⟨h.len, fun i r hd e1 e2 => ⟨(h.ok i r hd e1 e2).few, (h.ok i r hd e1 e2).ok⟩⟩
theorem sp_w {X : List (List (Int × Int))} {H : List (List De)} (hX : RowsW X H) (hH : HandsOk H 4) : SpW (spL X) := by
  have hl : X.length ≤ 4 := by rw [hX.len]; have := hH.few; omega
  have hr : ∀ (i : Nat) (r : List (Int × Int)) (h : List De), X[i]? = some r → H[i]? = some h → r.length ≤ 3 := fun i r h e1 e2 => Nat.le_trans (hX.ok i r h e1 e2).1 (hH.ok h (List.mem_of_getElem? e2)).1
  have hn : (spS X).length ≤ 12 := Nat.le_trans (sum_le hX.len hr 0) (by omega)
  refine ⟨(spL_nd X 0).1, by rw [spL_D, List.length_map] at hn; exact hn, fun s m => ?_, fun s m h0 => ?_⟩
  · obtain ⟨i, k, r, p, ei, ek, rfl⟩ := spL_mem.mp m
    have hi : i < X.length := (List.getElem?_eq_some_iff.mp ei).1
    have hi2 : i < H.length := by rw [← hX.len]; exact hi
    have eh : H[i]? = some H[i] := List.getElem?_eq_getElem hi2
    have ok := hX.ok i r _ ei eh
    have hk : k < r.length := (List.getElem?_eq_some_iff.mp ek).1
    have h3 := hr i r _ ei eh
    have hp := ok.2 p (List.mem_of_getElem? ek)
    exact ⟨by show (0 : Int) ≤ i; omega, by show (i : Int) ≤ 100; omega, by show (0 : Int) ≤ k; omega, by show (k : Int) ≤ 100; omega, hp.1, hp.2.1, hp.2.2⟩
  · obtain ⟨i, k, r, p, ei, ek, rfl⟩ := spL_mem.mp m
    have h0 : (k : Int) ≠ 0 := h0
    have hk : k < r.length := (List.getElem?_eq_some_iff.mp ek).1
    have ek' : r[k - 1]? = some r[k - 1] := List.getElem?_eq_getElem (by omega)
    refine List.mem_map.mpr ⟨_, spL_mem.mpr ⟨i, k - 1, r, _, ei, ek', rfl⟩, ?_⟩
    show (((i : Int), ((k - 1 : Nat) : Int)) : Tk) = ((i : Int), (k : Int) - 1)
    rw [show ((k - 1 : Nat) : Int) = (k : Int) - 1 by omega]
end V23
set_option Elab.async false
set_option linter.all false
set_option maxRecDepth 100000
set_option maxHeartbeats 1000000
set_option autoImplicit false
set_option exponentiation.threshold 20000
namespace V23
open PySem PySem.Spec PyProof.Rows L2 DL
local macro_rules | `(tactic| pv_short) => `(tactic| repeat first | refine Exists.intro _ (And.intro rfl ?_) | refine ifT rfl ?_ | refine ifF rfl ?_ | refine Exists.intro _ (And.intro (if_pos (by first | assumption | decide | exact ⟨by assumption, by decide⟩ | exact ⟨by assumption, by assumption⟩)) ?_) | refine And.intro (show List.length _ ≤ sizeLine from Nat.le_of_ble_eq_true rfl) ?_ | refine And.intro (Nat.le_of_ble_eq_true rfl) ?_)
theorem str_beq2 (x : Str) : PyData.eqv (.str x) (.str x) = true := by simp [PyData.eqv]
theorem ne_text (x : Str) : neF (.d (.str x)) (.d (.str x)) = some (.val (.bool false)) := by
  show (if SeqAt.shaped (.str x) && SeqAt.shaped (.str x) || strs2 (.str x) (.str x) then some (Rv.val (.bool (if true = true then !PyData.eqv (.str x) (.str x) else PyData.eqv (.str x) (.str x)))) else none) = _
  rw [if_pos (by rw [show strs2 (.str x) (.str x) = true from rfl, Bool.or_true]), str_beq2]
  rfl
theorem source_at {δ : SEnv} {ns : List Int} {s : Sl} {Ex : XP} {P : R → SEnv → Prop} (hi : δ[0]? = some (some s)) (hs : Scr ns s) (k : ∀ ds, Tp 0 ds → P (.n (.k ds)) δ) : wCall 1 C_source [false] (wCons (wVar 0) wNil) Ex δ P := by
  rcases hs with rfl | rfl
  · unfold wCall
    refine ⟨_, hi, _, rfl, _, rfl, ([.d _], δ), rfl, rfl, List.nodup_nil, ?_⟩
    refine ⟨[.d (.list (ns.map .int))], rfl, ⟨_, ns, rfl, .inl rfl⟩, fun r ss' ⟨e1, ds, e2, hf⟩ _ => ?_⟩
    subst e1 e2
    exact ⟨_, rfl, k ds hf⟩
  · unfold wCall
    refine ⟨_, hi, _, rfl, _, rfl, ([.w _], δ), rfl, rfl, List.nodup_nil, ?_⟩
    refine ⟨[.w (.list (ns.map .int))], rfl, ⟨_, ns, rfl, .inr rfl⟩, fun r ss' ⟨e1, ds, e2, hf⟩ _ => ?_⟩
    subst e1 e2
    exact ⟨_, rfl, k ds hf⟩
theorem back_1o {δ : SEnv} {i : Nat} {b : Bool} {c c' : Cont} (h : δ[i]? = some (some (.o b c))) (hs : c.simple = true) (hs' : c'.simple = true) : back δ (DL.clear δ [.o i]) [.o i] [.o true c'] = some (δ.set i (some (.o b c'))) := by
  simp only [back, DL.clear, h, hs, hs']
  simp
theorem scene_at {δ : SEnv} {i n : Nat} {b : Bool} {ds : List (Key × PyData)} {Ex : XP} {P : R → SEnv → Prop} (hi : δ[i]? = some (some (.o b (.k ds)))) (hT : Tp n ds) (hn : n + 230 ≤ 1000000)
    (k : ∀ ds' n' s, Tp n' ds' → n' ≤ n + 230 → Sc.ok s → P (.d (scD s)) (δ.set i (some (.o b (.k ds'))))) : wCall 1 C_scene [true] (wCons (wVar i) wNil) Ex δ P := by
  unfold wCall
  refine ⟨_, hi, _, rfl, _, rfl, ([.o i], δ), rfl, rfl, ?_, ?_⟩
  · show ([i] : List Nat).Nodup
    exact List.nodup_cons.mpr ⟨by simp, List.nodup_nil⟩
  refine ⟨[.o true (.k ds)], ?_, ⟨ds, n, rfl, hT, hn⟩, fun r ss' q _ => ?_⟩
  · simp only [slsOf, slOf, hi]
    rfl
  · obtain ⟨ds1, ds', n1, n', s, e1, t1, e2, hf', hc', e3, h3⟩ := q
    cases e1
    have := t1.one hT
    subst this e2 e3
    exact ⟨_, back_1o hi rfl rfl, k ds' n' s hf' hc' h3⟩
end V23
set_option Elab.async false
set_option linter.all false
set_option maxRecDepth 100000
set_option maxHeartbeats 1000000
set_option autoImplicit false
set_option exponentiation.threshold 20000
namespace V23
open PySem PySem.Spec PyProof.Rows L2 DL
local macro_rules | `(tactic| pv_short) => `(tactic| repeat first | refine Exists.intro _ (And.intro rfl ?_) | refine ifT rfl ?_ | refine ifF rfl ?_ | refine Exists.intro _ (And.intro (if_pos (by first | assumption | decide | exact ⟨by assumption, by decide⟩ | exact ⟨by assumption, by assumption⟩)) ?_) | refine And.intro (show List.length _ ≤ sizeLine from Nat.le_of_ble_eq_true rfl) ?_ | refine And.intro (Nat.le_of_ble_eq_true rfl) ?_)
def CtX (pre : List Sl → Prop) (post : List Sl → R → List Sl → Prop) (exc : List Sl → Exc → Prop) : FSpec := fun ss Ex P => pre ss ∧ (∀ r ss', post ss r ss' → P r ss') ∧ ∀ x, exc ss x → Ex x
theorem ctx_mono {pre : List Sl → Prop} {post : List Sl → R → List Sl → Prop} {exc : List Sl → Exc → Prop} : FMono (CtX pre post exc) := fun ss Ex Ex' P P' he hp ⟨h1, h2, h3⟩ => ⟨h1, fun r ss' q => hp _ _ (h2 r ss' q), fun x q => he _ (h3 x q)⟩
theorem cut_take {α : Type} {L : List α} {p : Int} (h0 : 0 ≤ p) (h : p ≤ L.length) : cutL L none (some p) = L.take p.toNat := by
  unfold cutL
  have e0 : HT.sIx L.length 0 none = 0 := rfl
  have e1 : HT.sIx L.length L.length (some p) = p.toNat := by
    unfold HT.sIx
    simp only
    split <;> omega
  rw [e0, e1, List.drop_zero, Nat.sub_zero]
end V23
set_option Elab.async false
set_option linter.all false
set_option maxRecDepth 100000
set_option maxHeartbeats 1000000
set_option autoImplicit false
set_option exponentiation.threshold 20000
namespace V23
open PySem PySem.Spec PyProof.Rows L2 DL
local macro_rules | `(tactic| pv_short) => `(tactic| repeat first | refine Exists.intro _ (And.intro rfl ?_) | refine ifT rfl ?_ | refine ifF rfl ?_ | refine Exists.intro _ (And.intro (if_pos (by first | assumption | decide | exact ⟨by assumption, by decide⟩ | exact ⟨by assumption, by assumption⟩)) ?_) | refine And.intro (show List.length _ ≤ sizeLine from Nat.le_of_ble_eq_true rfl) ?_ | refine And.intro (Nat.le_of_ble_eq_true rfl) ?_)
/-- begin and end of a task -/
def be (S : List Sp) (t : Tk) : Int × Int := ((S.find? fun s => decide (s.1 = t)).map (·.2)).getD (0, 0)
theorem be_of {S : List Sp} (nd : (S.map (·.1)).Nodup) {s : Sp} (m : s ∈ S) : be S s.1 = s.2 := by
  have go : ∀ {S : List Sp}, (S.map (·.1)).Nodup → s ∈ S → S.find? (fun x => decide (x.1 = s.1)) = some s := by
    intro S
    induction S with
    | nil => intro _ m; cases m
    | cons x S ih =>
      intro nd m
      rw [List.map_cons, List.nodup_cons] at nd
      by_cases e : x.1 = s.1
      · rw [List.find?_cons_of_pos (by simpa using e)]
        rcases List.mem_cons.mp m with rfl | m
        · rfl
        · exact absurd (List.mem_map.mpr ⟨s, m, e.symm⟩) nd.1
      · rw [List.find?_cons_of_neg (by simpa using e)]
        rcases List.mem_cons.mp m with rfl | m
        · exact absurd rfl e
        · exact ih nd.2 m
  unfold be
  rw [go nd m]; rfl
abbrev kv (s : Sp) : List Int × PyData := (kT s.1, .tuple [.int s.2.1, .int s.2.2])
theorem look_kv {S : List Sp} (nd : (S.map (·.1)).Nodup) {s : Sp} (m : s ∈ S) : lookD (S.map kv) (kT s.1) = some (.tuple [.int s.2.1, .int s.2.2]) := by
  induction S with
  | nil => cases m
  | cons x S ih =>
    rw [List.map_cons, List.nodup_cons] at nd
    unfold lookD
    rw [List.map_cons]
    by_cases e : x.1 = s.1
    · rw [List.find?_cons_of_pos (by show decide (kT x.1 = kT s.1) = true; rw [e]; simp)]
      rcases List.mem_cons.mp m with rfl | m
      · rfl
      · exact absurd (List.mem_map.mpr ⟨s, m, e.symm⟩) nd.1
    · rw [List.find?_cons_of_neg (by show ¬ decide (kT x.1 = kT s.1) = true; rw [decide_eq_true_iff]; exact fun z => e (kT_inj _ _ z))]
      rcases List.mem_cons.mp m with rfl | m
      · exact absurd rfl e
      · exact ih nd.2 m
/-- {k(x): v(x) for x in xs}, the keys new -/
theorem dcI_of {α : Type} {g : α → PyData} {G : WG} {wk wv : WE} {own : List Nat} {P : List (List Int × PyData) → SEnv → Prop} {δf : SEnv} (f : α → List Int × PyData) : ∀ {xs : List α} {acc : List (List Int × PyData)} {δ : SEnv}, forgetAll δ own = δf → acc.length + xs.length ≤ 1000 →
    (∀ x ∈ xs, ∀ kv ∈ acc, kv.1 ≠ (f x).1) → (xs.map fun x => (f x).1).Nodup →
    (∀ x ∈ xs, ∀ (acc : List (List Int × PyData)) (Q : List (List Int × PyData) → SEnv → Prop), acc.length < 1000 → (∀ δ1, forgetAll δ1 own = δf → Q (putD acc (f x).1 (f x).2) δ1) → ob (G (g x) δf) fun δ1 => wKVI wk wv acc δ1 Q) →
    (∀ δ', forgetAll δ' own = δf → P (acc ++ xs.map f) δ') → wDcIR G wYes wk wv own (xs.map g) acc δ P
  | [], acc, δ, h0, _, _, _, _, k => by have := k δ h0; rwa [List.map_nil, List.append_nil] at this
  | x :: xs, acc, δ, h0, hl, hn, nd, step, k => by
    rw [List.map_cons]
    unfold wDcIR
    rw [h0]
    rw [List.length_cons] at hl
    rw [List.map_cons, List.nodup_cons] at nd
    refine step x (List.mem_cons_self ..) acc (fun acc' δ3 => wDcIR G wYes wk wv own (xs.map g) acc' δ3 P) (by omega) fun δ1 h1 => ?_
    rw [put_newI (hn x (List.mem_cons_self ..))]
    refine dcI_of f h1 (by rw [List.length_append, List.length_singleton]; omega) (fun y m kv mk => ?_) nd.2 (fun y m => step y (List.mem_cons_of_mem _ m)) fun δ' h' => ?_
    · rcases List.mem_append.mp mk with mk | mk
      · exact hn y (List.mem_cons_of_mem _ m) kv mk
      · rw [List.mem_singleton] at mk
        subst mk
        intro e
        exact nd.1 (List.mem_map.mpr ⟨y, m, e.symm⟩)
    · have := k δ' h'
      rw [List.append_assoc]; exact this
def C_sbt : FSpec := Ct (fun ss => ∃ S : List Sp, ss = [.d (sps S)] ∧ (S.map (·.1)).Nodup ∧ S.length ≤ 1000) fun ss r ss' => ss' = ss ∧ ∃ S : List Sp, ss = [.d (sps S)] ∧ r = .n (.t (S.map kv))
theorem sbt_ok (ss : List Sl) (Ex : XP) (P : DL.R → List Sl → Prop) (h : C_sbt ss Ex P) : fnW 1 4 w_spans_by_task ss Ex P := by
  obtain ⟨⟨S, rfl, nd, hl⟩, kk⟩ := h
  have kk := kk _ _ ⟨rfl, S, rfl, rfl⟩
  refine And.intro rfl ?_
  rw [w_spans_by_task_eq]
  unfold t_spans_by_task_1
  pv_short
  show wDcIR (gT 3 (gsC (gN 1) (gsC (gN 2) (gsC (gN 3) gsN)))) wYes (wVar 1) (wTup (wCons (wVar 2) (wCons (wVar 3) wNil))) [1, 2, 3] (S.map qD) [] [some (.d (sps S)), none, none, none] _
  refine dcI_of (δf := [some (.d (sps S)), none, none, none]) kv rfl (by simpa using hl) (fun _ _ _ m => by cases m) (by rw [show (S.map fun s : Sp => (kv s).1) = (S.map (·.1)).map kT by rw [List.map_map]; rfl]; exact nodup_map kT_inj nd) (fun s ms acc Q hlt g1 => ?_) fun δ' h' => ?_
  · pv_short
    refine And.intro (show acc.length < sizeLine by rw [sizeLine_eq]; omega) ?_
    exact g1 _ rfl
  · rw [List.nil_append, h']
    pv_short
    exact kk
end V23
set_option Elab.async false
set_option linter.all false
set_option maxRecDepth 100000
set_option maxHeartbeats 1000000
set_option autoImplicit false
set_option exponentiation.threshold 20000
namespace V23
open PySem PySem.Spec PyProof.Rows L2 DL
local macro_rules | `(tactic| pv_short) => `(tactic| repeat first | refine Exists.intro _ (And.intro rfl ?_) | refine ifT rfl ?_ | refine ifF rfl ?_ | refine Exists.intro _ (And.intro (if_pos (by first | assumption | decide | exact ⟨by assumption, by decide⟩ | exact ⟨by assumption, by assumption⟩)) ?_) | refine And.intro (show List.length _ ≤ sizeLine from Nat.le_of_ble_eq_true rfl) ?_ | refine And.intro (Nat.le_of_ble_eq_true rfl) ?_)
theorem ix_kv {S : List Sp} (nd : (S.map (·.1)).Nodup) {s : Sp} (m : s ∈ S) : idxF (.t (S.map kv)) (.d (pI s.1)) = some (.val (.tuple [.int s.2.1, .int s.2.2])) := by
  show ((((keyT (pI s.1)).map fun k => lookD (S.map kv) k).bind id).map Rv.val) = _
  show (((some (lookD (S.map kv) (kT s.1))).bind id).map Rv.val) = _
  rw [look_kv nd m]; rfl
/-- where a line doesn't fit: the first task that is behind one ahead of it, and the first such one -/
def mf (S : List Sp) : List Tk → List Tk → Option (Nat × Nat)
  | _, [] => none
  | pre, t :: r => match pre.findIdx? fun o => decide ((be S t).2 < (be S o).1) with
    | some i => some (i, pre.length)
    | none => mf S (pre ++ [t]) r
def mfD : Option (Nat × Nat) → PyData
  | none => .none
  | some p => .tuple [.int p.1, .int p.2]
theorem ix_t {S : List Sp} (nd : (S.map (·.1)).Nodup) {t : Tk} (m : t ∈ S.map (·.1)) : idxF (.t (S.map kv)) (.d (pI t)) = some (.val (.tuple [.int (be S t).1, .int (be S t).2])) := by
  obtain ⟨s, ms, rfl⟩ := List.mem_map.mp m
  rw [be_of nd ms]
  exact ix_kv nd ms
def C_fm : FSpec := Ct (fun ss => ∃ S : List Sp, ∃ L : List Tk, ss = [.d (sps S), .d (lnD L)] ∧ (S.map (·.1)).Nodup ∧ S.length ≤ 1000 ∧ L.length ≤ 1000 ∧ ∀ t ∈ L, t ∈ S.map (·.1)) fun ss r ss' => ss' = ss ∧ ∃ S : List Sp, ∃ L : List Tk, ss = [.d (sps S), .d (lnD L)] ∧ r = .d (mfD (mf S [] L))
theorem enum_ln (L : List Tk) : enumD (L.map pI) = L.zipIdx.map fun q => .tuple [.int ((q.2 : Nat) : Int), pI q.1] := by
  unfold enumD
  refine List.ext_getElem? fun i => ?_
  simp only [List.getElem?_map, List.getElem?_mapIdx, List.getElem?_zipIdx]
  cases L[i]? <;> simp
abbrev fE (S : List Sp) (L : List Tk) (x3 x4 x5 x6 : Option Sl) : SEnv := [some (.d (sps S)), some (.d (lnD L)), some (.o false (.t (S.map kv))), x3, x4, x5, x6]
theorem fm_inner {S : List Sp} {L pre : List Tk} {t : Tk} {j : Nat} {x5 x6 : Option Sl} {E : DEnds} (nd : (S.map (·.1)).Nodup) (hj : j < L.length) (ep : pre = L.take j) (hl : L.length ≤ 1000) (ms : ∀ t ∈ L, t ∈ S.map (·.1)) (mt : t ∈ S.map (·.1))
    (hit : ∀ i x5 x6, pre.findIdx? (fun o => decide ((be S t).2 < (be S o).1)) = some i → E.rt (.d (.tuple [.int (i : Nat), .int (j : Nat)])) (fE S L (some (.d (.int (j : Nat)))) (some (.d (pI t))) x5 x6))
    (miss : pre.findIdx? (fun o => decide ((be S t).2 < (be S o).1)) = none → ∀ x5 x6, E.nx (fE S L (some (.d (.int (j : Nat)))) (some (.d (pI t))) x5 x6)) : t_first_misfit_4 C_sbt E (fE S L (some (.d (.int (j : Nat)))) (some (.d (pI t))) x5 x6) := by
  unfold t_first_misfit_4
  pv_short
  show wForR (gT 2 (gsC (gN 5) (gsC (gN 6) gsN))) (t_first_misfit_3 C_sbt) (enumD (cutL (L.map pI) none (some (j : Int)))) _ _
  rw [show cutL (L.map pI) none (some (j : Int)) = pre.map pI by
    unfold cutL
    rw [HT.sIx_none, HT.sIx_nat, List.drop_zero, Nat.sub_zero, ep, List.length_map, Nat.min_eq_left (Nat.le_of_lt hj), List.map_take], enum_ln]
  have hpl : pre.length ≤ 1000 := by rw [ep, List.length_take]; omega
  refine for_of (g := fun q : Tk × Nat => .tuple [.int ((q.2 : Nat) : Int), pI q.1]) (I := fun done δ => ∃ x5 x6, δ = fE S L (some (.d (.int (j : Nat)))) (some (.d (pI t))) x5 x6 ∧ ∀ q ∈ done, ¬ (be S t).2 < (be S q.1).1) (fun δ hI => ?_) (fun done q post δ Q eS hI hQ => ?_) ⟨x5, x6, rfl, fun _ m => by cases m⟩
  · obtain ⟨x5, x6, rfl, hn⟩ := hI
    refine miss (List.findIdx?_eq_none_iff.mpr fun o mo => ?_) x5 x6
    obtain ⟨i, hi, rfl⟩ := List.getElem_of_mem mo
    have := hn (pre[i], i) (List.mem_zipIdx_iff_getElem?.mpr (List.getElem?_eq_getElem hi))
    simpa using this
  · obtain ⟨x5, x6, rfl, hn⟩ := hI
    obtain ⟨o, i⟩ := q
    have ei : pre[i]? = some o := List.mem_zipIdx_iff_getElem?.mp (show (o, i) ∈ pre.zipIdx by rw [eS]; simp)
    have mo : o ∈ S.map (·.1) := by
      have := List.mem_of_getElem? ei
      rw [ep] at this
      exact ms o (List.mem_of_mem_take this)
    have ed : ∀ i' < i, ∃ o', (o', i') ∈ done ∧ pre[i']? = some o' := by
      intro i' lt
      have l0 : done.length = i := by
        have e1 : pre.zipIdx[done.length]? = some (o, i) := by rw [eS, List.getElem?_append_right (Nat.le_refl _), Nat.sub_self]; rfl
        rw [List.getElem?_zipIdx] at e1
        cases h : pre[done.length]? with
        | none => rw [h] at e1; cases e1
        | some z => rw [h] at e1; simp at e1; exact e1.2
      have hi' : i' < pre.length := Nat.lt_trans lt (List.getElem?_eq_some_iff.mp ei).1
      refine ⟨pre[i'], ?_, List.getElem?_eq_getElem hi'⟩
      have e1 : pre.zipIdx[i']? = some (pre[i'], i') := by rw [List.getElem?_zipIdx, List.getElem?_eq_getElem hi']; simp
      rw [eS, List.getElem?_append_left (by omega)] at e1
      exact List.mem_of_getElem? e1
    pv_short
    show t_first_misfit_3 C_sbt _ (fE S L (some (.d (.int (j : Nat)))) (some (.d (pI t))) (some (.d (.int (i : Nat)))) (some (.d (pI o))))
    unfold t_first_misfit_3
    pv_short
    refine Exists.intro _ (And.intro (ix_t nd mt) ?_)
    pv_short
    refine Exists.intro _ (And.intro (ix_t nd mo) ?_)
    pv_short
    show (if decide ((be S t).2 < (be S o).1) = true then _ else _)
    refine ite2 (fun z => ?_) (fun z => ?_)
    · unfold t_first_misfit_2
      pv_short
      refine hit i _ _ (List.findIdx?_eq_some_iff_getElem.mpr ⟨(List.getElem?_eq_some_iff.mp ei).1, ?_, fun i' lt => ?_⟩)
      · rw [(List.getElem?_eq_some_iff.mp ei).2]; exact z
      · obtain ⟨o', mo', eo'⟩ := ed i' lt
        have := hn _ mo'
        rw [(List.getElem?_eq_some_iff.mp eo').2]
        simpa using this
    · refine hQ _ ⟨_, _, rfl, fun q mq => ?_⟩
      rcases List.mem_append.mp mq with mq | mq
      · exact hn q mq
      · rw [List.mem_singleton] at mq; subst mq; simpa using z
theorem mf_snoc {S : List Sp} : ∀ {pre a b : List Tk}, mf S pre a = none → mf S pre (a ++ b) = mf S (pre ++ a) b
  | pre, [], b, _ => by simp
  | pre, t :: a, b, h => by
    have st : ∀ r : List Tk, mf S pre (t :: r) = match pre.findIdx? fun o => decide ((be S t).2 < (be S o).1) with
      | some i => some (i, pre.length)
      | none => mf S (pre ++ [t]) r := fun _ => rfl
    rw [List.cons_append, st]
    rw [st] at h
    split at h
    · cases h
    · rename_i e
      rw [mf_snoc h, List.append_assoc]; rfl
theorem fm_ok (ss : List Sl) (Ex : XP) (P : DL.R → List Sl → Prop) (h : C_fm ss Ex P) : fnW 2 7 (w_first_misfit C_sbt) ss Ex P := by
  obtain ⟨⟨S, L, rfl, nd, hl, hl2, ms⟩, kk⟩ := h
  have kk := kk _ _ ⟨rfl, S, L, rfl, rfl⟩
  refine And.intro rfl ?_
  rw [w_first_misfit_eq]
  unfold t_first_misfit_6
  refine call_d (d := sps S) (δ1 := [some (.d (sps S)), some (.d (lnD L)), none, none, none, none, none]) (fun Q h => by pv_short; exact h) ⟨S, rfl, nd, hl⟩ fun r ss' ⟨e1, S', e2, e3⟩ => ⟨e1, ?_⟩
  simp only [List.cons.injEq, Sl.d.injEq, and_true] at e2
  have := sps_inj e2
  subst this e3
  pv_short
  show t_first_misfit_5 C_sbt _ (fE S L none none none none)
  unfold t_first_misfit_5
  pv_short
  show wForR (gT 2 (gsC (gN 3) (gsC (gN 4) gsN))) (t_first_misfit_4 C_sbt) (enumD (L.map pI)) _ _
  rw [enum_ln]
  refine for_of (g := fun q : Tk × Nat => .tuple [.int ((q.2 : Nat) : Int), pI q.1]) (I := fun done δ => ∃ x3 x4 x5 x6, δ = fE S L x3 x4 x5 x6 ∧ mf S [] (done.map (·.1)) = none) (fun δ hI => ?_) (fun done q post δ Q eS hI hQ => ?_) ⟨none, none, none, none, rfl, rfl⟩
  · obtain ⟨x3, x4, x5, x6, rfl, hn⟩ := hI
    rw [List.zipIdx_map_fst] at hn
    rw [hn] at kk
    unfold t_first_misfit_1
    pv_short
    exact kk
  · obtain ⟨x3, x4, x5, x6, rfl, hn⟩ := hI
    obtain ⟨t, j⟩ := q
    have e0 : L.zipIdx[done.length]? = some (t, j) := by rw [eS, List.getElem?_append_right (Nat.le_refl _), Nat.sub_self]; rfl
    have e1 : L[done.length]? = some t ∧ done.length = j := by
      rw [List.getElem?_zipIdx] at e0
      cases h : L[done.length]? with
      | none => rw [h] at e0; cases e0
      | some z => rw [h] at e0; simp at e0; exact ⟨by rw [e0.1], e0.2⟩
    obtain ⟨et, ej⟩ := e1
    subst ej
    have hj : done.length < L.length := (List.getElem?_eq_some_iff.mp et).1
    have eL : L = done.map (·.1) ++ t :: post.map (·.1) := by
      have := congrArg (List.map (·.1)) eS
      rw [List.zipIdx_map_fst, List.map_append, List.map_cons] at this
      exact this
    have ep : done.map (·.1) = L.take done.length := by rw [eL, List.take_left' (by rw [List.length_map])]
    have er : mf S [] L = (match (done.map (·.1)).findIdx? fun o => decide ((be S t).2 < (be S o).1) with
        | some i => some (i, (done.map (·.1)).length)
        | none => mf S (done.map (·.1) ++ [t]) (post.map (·.1))) := by
      rw [eL, mf_snoc hn, List.nil_append]; rfl
    have mt : t ∈ S.map (·.1) := ms t (List.mem_of_getElem? et)
    pv_short
    refine fm_inner (pre := done.map (·.1)) (t := t) (j := done.length) nd hj ep hl2 ms mt (fun i x5 x6 z => ?_) (fun z x5 x6 => ?_)
    · rw [er, z] at kk
      rw [List.length_map] at kk
      pv_short
      exact kk
    · refine hQ _ ⟨_, _, _, _, rfl, ?_⟩
      rw [List.map_append, mf_snoc hn, List.nil_append]
      show (match (done.map (·.1)).findIdx? fun o => decide ((be S t).2 < (be S o).1) with
        | some i => some (i, (done.map (·.1)).length)
        | none => mf S (done.map (·.1) ++ [t]) []) = none
      rw [z]; rfl
end V23
set_option Elab.async false
set_option linter.all false
set_option maxRecDepth 100000
set_option maxHeartbeats 1000000
set_option autoImplicit false
set_option exponentiation.threshold 20000
namespace V23
open PySem PySem.Spec PyProof.Rows L2 DL
local macro_rules | `(tactic| pv_short) => `(tactic| repeat first | refine Exists.intro _ (And.intro rfl ?_) | refine ifT rfl ?_ | refine ifF rfl ?_ | refine Exists.intro _ (And.intro (if_pos (by first | assumption | decide | exact ⟨by assumption, by decide⟩ | exact ⟨by assumption, by assumption⟩)) ?_) | refine And.intro (show List.length _ ≤ sizeLine from Nat.le_of_ble_eq_true rfl) ?_ | refine And.intro (Nat.le_of_ble_eq_true rfl) ?_)
theorem cut_pre {α : Type} {L : List α} {p : Int} (h0 : 0 ≤ p) : cutL L none (some p) = L.take p.toNat := by
  by_cases h : p ≤ L.length
  · exact cut_take h0 h
  · unfold cutL
    have e0 : HT.sIx L.length 0 none = 0 := rfl
    have e1 : HT.sIx L.length L.length (some p) = L.length := by
      unfold HT.sIx
      simp only
      split <;> omega
    rw [e0, e1, List.drop_zero, Nat.sub_zero, List.take_of_length_le (Nat.le_refl _), List.take_of_length_le (by omega)]
def PrevOk (S : List Sp) : Prop := ∀ (i : Nat) (s : Sp), S[i]? = some s → s.1.2 ≠ 0 → ∃ (j : Nat) (p : Sp), j < i ∧ S[j]? = some p ∧ p.1 = (s.1.1, s.1.2 - 1) ∧ p.2.2 < s.2.1
theorem PrevOk.app {A B : List Sp} (ha : PrevOk A) (hb : PrevOk B) : PrevOk (A ++ B) := fun i s e z => by
  by_cases hi : i < A.length
  · rw [List.getElem?_append_left hi] at e
    obtain ⟨j, p, h1, h2, h3⟩ := ha i s e z
    exact ⟨j, p, h1, by rw [List.getElem?_append_left (by omega)]; exact h2, h3⟩
  · rw [List.getElem?_append_right (by omega)] at e
    obtain ⟨j, p, h1, h2, h3⟩ := hb _ s e z
    exact ⟨A.length + j, p, by omega, by rw [List.getElem?_append_right (by omega), show A.length + j - A.length = j by omega]; exact h2, h3⟩
theorem PrevOk.take {S : List Sp} (h : PrevOk S) (n : Nat) : PrevOk (S.take n) := fun i s e z => by
  rw [List.getElem?_take] at e
  split at e
  · obtain ⟨j, p, h1, h2, h3⟩ := h i s e z
    exact ⟨j, p, h1, by rw [List.getElem?_take, if_pos (by omega)]; exact h2, h3⟩
  · cases e
theorem row_prev {i : Nat} {r : List (Int × Int)} (up : r.Pairwise fun p q => p.2 < q.1) : PrevOk (r.zipIdx.map fun p => ((((i : Nat) : Int), ((p.2 : Nat) : Int)), p.1.1, p.1.2)) := fun k s e z => by
  rw [List.getElem?_map, List.getElem?_zipIdx] at e
  obtain ⟨p, e1, rfl⟩ := Option.map_eq_some_iff.mp e
  obtain ⟨q, e2, rfl⟩ := Option.map_eq_some_iff.mp e1
  have hk : k < r.length := (List.getElem?_eq_some_iff.mp e2).1
  have z : k ≠ 0 := fun h => z (by show (((0 + k : Nat) : Int)) = 0; omega)
  obtain ⟨m, rfl⟩ : ∃ m, k = m + 1 := ⟨k - 1, by omega⟩
  refine ⟨m, ((((i : Nat) : Int), ((m : Nat) : Int)), (r[m]).1, (r[m]).2), by omega, ?_, ?_, ?_⟩
  · rw [List.getElem?_map, List.getElem?_zipIdx, List.getElem?_eq_getElem (by omega)]
    show some _ = some _
    rw [Nat.zero_add]
  · show _ = (((i : Nat) : Int), (((0 + (m + 1) : Nat) : Int)) - 1)
    rw [show (((0 + (m + 1) : Nat) : Int)) - 1 = ((m : Nat) : Int) by omega]
  · have := List.pairwise_iff_getElem.mp up m (m + 1) (by omega) hk (by omega)
    rw [List.getElem?_eq_getElem hk] at e2
    rw [← Option.some.inj e2]
    exact this
theorem spL_prev0 : ∀ {X : List (List (Int × Int))} {i : Nat}, (∀ r ∈ X, r.Pairwise fun p q => p.2 < q.1) → PrevOk ((X.zipIdx i).flatMap fun q => q.1.zipIdx.map fun p => ((((q.2 : Nat) : Int), ((p.2 : Nat) : Int)), p.1.1, p.1.2))
  | [], _, _ => fun k s e => by simp at e
  | r :: X, i, h => by
    rw [List.zipIdx_cons, List.flatMap_cons]
    exact PrevOk.app (row_prev (h r (List.mem_cons_self ..))) (spL_prev0 fun x m => h x (List.mem_cons_of_mem _ m))
theorem spL_prev {X : List (List (Int × Int))} {H : List (List De)} (h : RowsOk X H) : PrevOk (spL X) := spL_prev0 fun r m => by
  obtain ⟨i, hi, e⟩ := List.mem_iff_getElem.mp m
  have hl := h.len
  have e1 : X[i]? = some r := by rw [List.getElem?_eq_getElem hi, e]
  exact (h.ok i r _ e1 (List.getElem?_eq_getElem (by omega))).up
theorem SpW.take {S : List Sp} (w : SpW S) (h : PrevOk S) (n : Nat) : SpW (S.take n) := by
  have sub := List.take_sublist n S
  refine ⟨w.nd.sublist (sub.map _), by have := w.few; rw [List.length_take]; omega, fun s m => w.pos s (sub.subset m), fun s m z => ?_⟩
  obtain ⟨p, mp, e⟩ : ∃ p, p ∈ S.take n ∧ p.1 = (s.1.1, s.1.2 - 1) := by
    obtain ⟨i, e⟩ := List.mem_iff_getElem?.mp m
    obtain ⟨j, p, _, h2, h3⟩ := h.take n i s e z
    exact ⟨p, List.mem_of_getElem? h2, h3.1⟩
  exact List.mem_map.mpr ⟨p, mp, e⟩
end V23
set_option Elab.async false
set_option linter.all false
set_option maxRecDepth 100000
set_option maxHeartbeats 1000000
set_option autoImplicit false
set_option exponentiation.threshold 20000
namespace V23
open PySem PySem.Spec PyProof.Rows L2 DL
local macro_rules | `(tactic| pv_short) => `(tactic| repeat first | refine Exists.intro _ (And.intro rfl ?_) | refine ifT rfl ?_ | refine ifF rfl ?_ | refine Exists.intro _ (And.intro (if_pos (by first | assumption | decide | exact ⟨by assumption, by decide⟩ | exact ⟨by assumption, by assumption⟩)) ?_) | refine And.intro (show List.length _ ≤ sizeLine from Nat.le_of_ble_eq_true rfl) ?_ | refine And.intro (Nat.le_of_ble_eq_true rfl) ?_)
def TkB (t : Tk) : Prop := 0 ≤ t.1 ∧ t.1 ≤ 100 ∧ 0 ≤ t.2 ∧ t.2 ≤ 100
theorem tkb_nd {t : Tk} (h : TkB t) : Nd 2000 1 (pI t) := nd_tup (nds_cons (nd_int (by have := h; unfold TkB at this; omega)) (nds_cons (nd_int (by have := h; unfold TkB at this; omega)) nds_nil))
theorem tkb_sh {t : Tk} (h : TkB t) : SeqAt.shaped (pI t) = true := nd_shaped (tkb_nd h) (by decide)
theorem lnb_nd {L : List Tk} (h : ∀ t ∈ L, TkB t) : Nd 2000 2 (lnD L) := nd_tup fun x m => by
  obtain ⟨t, mt, rfl⟩ := List.mem_map.mp m
  exact tkb_nd (h t mt)
theorem lnb_sh {L : List Tk} (h : ∀ t ∈ L, TkB t) : SeqAt.shaped (lnD L) = true := nd_shaped (lnb_nd h) (by decide)
theorem in_lnT {L : List Tk} {t : Tk} (h1 : TkB t) (h : ∀ t ∈ L, TkB t) : inT true (.d (pI t)) (.d (lnD L)) = some (.val (.bool (!decide (t ∈ L)))) := by
  show (if SeqAt.shaped (pI t) && SeqAt.shaped (lnD L) then some (Rv.val (.bool (if true then !((L.map pI).any fun z => PyData.eqv z (pI t)) else _))) else _) = _
  rw [if_pos (by rw [tkb_sh h1, lnb_sh h]; rfl), if_pos rfl, any_pI]
theorem in_lnF {L : List Tk} {t : Tk} (h1 : TkB t) (h : ∀ t ∈ L, TkB t) : inT false (.d (pI t)) (.d (lnD L)) = some (.val (.bool (decide (t ∈ L)))) := by
  show (if SeqAt.shaped (pI t) && SeqAt.shaped (lnD L) then some (Rv.val (.bool (if false then _ else (L.map pI).any fun z => PyData.eqv z (pI t)))) else _) = _
  rw [if_pos (by rw [tkb_sh h1, lnb_sh h]; rfl), if_neg (by decide), any_pI]
def rdyB (L : List Tk) (t : Tk) : Bool := decide (t.2 = 0) || decide ((t.1, t.2 - 1) ∈ L)
def extL (L0 L : List Tk) : List (List Tk) := ((L0.filter fun t => decide (t ∉ L)).filter (rdyB L)).map fun t => L ++ [t]
theorem ext_mem {L0 L : List Tk} {x : List Tk} (m : x ∈ extL L0 L) : ∃ t ∈ L0, t ∉ L ∧ x = L ++ [t] := by
  obtain ⟨t, mt, rfl⟩ := List.mem_map.mp m
  have m1 := (List.mem_filter.mp mt).1
  have m2 := List.mem_filter.mp m1
  exact ⟨t, m2.1, of_decide_eq_true m2.2, rfl⟩
theorem ext_len {L0 L : List Tk} : (extL L0 L).length ≤ L0.length := by
  unfold extL
  rw [List.length_map]
  exact Nat.le_trans (List.length_filter_le _ _) (List.length_filter_le _ _)
abbrev liE (L0 : List Tk) (x1 x2 x3 x4 x5 : Option Sl) : SEnv := [some (.d (.list (L0.map pI))), x1, x2, x3, x4, x5, none]
theorem lines_4 {e : DEnds} {L0 L R : List Tk} {Lg : List (List Tk)} {x1 x2 : Option Sl} (h0 : ∀ t ∈ R, TkB t) (l0 : R.length ≤ 4) (hL : ∀ t ∈ L, TkB t) (lL : L.length ≤ 100) (hg : Lg.length ≤ 10000) (k : ∀ x5, e.nx (liE L0 x1 x2 (some (.o false (.l ((Lg ++ (R.filter (rdyB L)).map fun t => L ++ [t]).map lnD)))) (some (.d (lnD L))) x5)) :
    t_lines_4 e (liE L0 x1 x2 (some (.o false (.l (Lg.map lnD)))) (some (.d (lnD L))) (some (.o false (.l (R.map pI))))) := by
  unfold t_lines_4
  pv_short
  show wLcR (gN 6) _ _ [6] (R.map pI) [] (liE L0 x1 x2 (some (.o false (.l (Lg.map lnD)))) (some (.d (lnD L))) (some (.d (.list (R.map pI))))) _
  refine lc_of (g := pI) (xs := R) (δf := liE L0 x1 x2 (some (.o false (.l (Lg.map lnD)))) (some (.d (lnD L))) (some (.d (.list (R.map pI))))) (rdyB L) (fun t => pI t) rfl (by rw [sizeLine_eq, List.length_nil]; omega) (fun t m Q Q' g1 g2 => ?_) fun δ' h' => ?_
  · have ht := h0 t m
    have ht' := ht
    unfold TkB at ht'
    unfold rdyB at g1 g2
    pv_short
    show (if PyData.eqv (.int t.2) (.int 0) = true then _ else _)
    rw [eqv_int]
    by_cases hz : t.2 = 0
    · rw [decide_eq_true hz] at g1 ⊢
      pv_short
      exact g1 rfl _ rfl
    · rw [decide_eq_false hz] at g1 g2 ⊢
      pv_short
      refine Exists.intro _ (And.intro (in_lnF (t := (t.1, t.2 - 1)) (by unfold TkB; simp only; omega) hL) ?_)
      by_cases hm : (t.1, t.2 - 1) ∈ L
      · rw [decide_eq_true hm] at g1 ⊢
        pv_short
        exact g1 rfl _ rfl
      · rw [decide_eq_false hm] at g2 ⊢
        pv_short
        exact g2 rfl _ rfl
  · rw [List.nil_append, h']
    have lR : (R.filter (rdyB L)).length ≤ 4 := Nat.le_trans (List.length_filter_le _ _) l0
    generalize R.filter (rdyB L) = R2 at *
    pv_short
    show t_lines_3 e (liE L0 x1 x2 (some (.o false (.l (Lg.map lnD)))) (some (.d (lnD L))) (some (.o false (.l (R2.map pI)))))
    unfold t_lines_3
    pv_short
    show wLcR (gN 6) _ _ [6] (R2.map pI) [] (liE L0 x1 x2 (some (.o false (.l (Lg.map lnD)))) (some (.d (lnD L))) (some (.d (.list (R2.map pI))))) _
    refine lc_of (g := pI) (xs := R2) (δf := liE L0 x1 x2 (some (.o false (.l (Lg.map lnD)))) (some (.d (lnD L))) (some (.d (.list (R2.map pI))))) (fun _ => true) (fun t => lnD (L ++ [t])) rfl (by rw [sizeLine_eq, List.length_nil]; omega) (fun t m Q Q' g1 g2 => ?_) fun δ' h' => ?_
    · pv_short
      refine Exists.intro _ (And.intro (if_pos (by rw [List.length_map, sizeLine_eq]; show _ + 1 ≤ _; omega)) ?_)
      have g1 := g1 rfl
      rw [show lnD (L ++ [t]) = .tuple (L.map pI ++ [pI t]) by show PyData.tuple _ = _; rw [List.map_append]; rfl] at g1
      pv_short
      exact g1 _ rfl
    · rw [List.nil_append, h', show R2.filter (fun _ => true) = R2 from List.filter_eq_self.mpr fun _ _ => rfl]
      pv_short
      refine And.intro (by rw [List.length_map, List.length_map, sizeLine_eq]; omega) ?_
      have kk := k (some (.d (.list (R2.map pI))))
      rw [List.map_append, List.map_map] at kk
      exact kk
theorem lines_5 {e : DEnds} {L0 L : List Tk} {Lg : List (List Tk)} {x1 x2 x5 : Option Sl} (h0 : ∀ t ∈ L0, TkB t) (l0 : L0.length ≤ 4) (hL : ∀ t ∈ L, TkB t) (lL : L.length ≤ 100) (hg : Lg.length ≤ 10000) (k : ∀ x5, e.nx (liE L0 x1 x2 (some (.o false (.l ((Lg ++ extL L0 L).map lnD)))) (some (.d (lnD L))) x5)) :
    t_lines_5 e (liE L0 x1 x2 (some (.o false (.l (Lg.map lnD)))) (some (.d (lnD L))) x5) := by
  unfold t_lines_5
  pv_short
  show wLcR (gN 6) _ _ [6] (L0.map pI) [] (liE L0 x1 x2 (some (.o false (.l (Lg.map lnD)))) (some (.d (lnD L))) x5) _
  refine lc_of (g := pI) (xs := L0) (δf := liE L0 x1 x2 (some (.o false (.l (Lg.map lnD)))) (some (.d (lnD L))) x5) (fun t => decide (t ∉ L)) (fun t => pI t) rfl (by rw [sizeLine_eq, List.length_nil]; omega) (fun t m Q Q' g1 g2 => ?_) fun δ' h' => ?_
  · pv_short
    refine Exists.intro _ (And.intro (in_lnT (h0 t m) hL) ?_)
    by_cases hm : t ∈ L
    · have g2 := g2 (by simp [hm])
      rw [decide_eq_true hm]
      pv_short
      exact g2 _ rfl
    · have g1 := g1 (by simp [hm])
      rw [decide_eq_false hm]
      pv_short
      exact g1 _ rfl
  · rw [List.nil_append, h']
    pv_short
    show t_lines_4 e (liE L0 x1 x2 (some (.o false (.l (Lg.map lnD)))) (some (.d (lnD L))) (some (.o false (.l ((L0.filter fun t => decide (t ∉ L)).map pI)))))
    exact lines_4 (fun t m => h0 t (List.mem_filter.mp m).1) (Nat.le_trans (List.length_filter_le _ _) l0) hL lL hg k
theorem lines_7 {e : DEnds} {L0 : List Tk} {Ls : List (List Tk)} {x1 x2 x3 x4 x5 : Option Sl} (hx : x1 = some (.o false (.l (Ls.map lnD))) ∨ x1 = some (.d (.list (Ls.map lnD)))) (h0 : ∀ t ∈ L0, TkB t) (l0 : L0.length ≤ 4) (hL : ∀ L ∈ Ls, (∀ t ∈ L, TkB t) ∧ L.length ≤ 100) (hl : Ls.length ≤ 256)
    (k : ∀ (Lg : List (List Tk)) (x3 x4 x5 : Option Sl), Lg.length ≤ 4 * Ls.length → (∀ x ∈ Lg, ∃ L ∈ Ls, ∃ t ∈ L0, t ∉ L ∧ x = L ++ [t]) → ∀ x1 : Option Sl, (x1 = some (.o false (.l (Lg.map lnD))) ∨ x1 = some (.d (.list (Lg.map lnD)))) → e.nx (liE L0 x1 x2 x3 x4 x5)) :
    t_lines_7 e (liE L0 x1 x2 x3 x4 x5) := by
  have main : t_lines_6 e (liE L0 x1 x2 (some (.o false (.l []))) x4 x5) := by
    have go : wForR (gN 4) t_lines_5 (Ls.map lnD) { e with nx := fun δ => t_lines_2 e δ } (liE L0 (some (.d (.list (Ls.map lnD)))) x2 (some (.o false (.l []))) x4 x5) := by
      refine for_of (g := lnD) (xs := Ls) (I := fun pre δ => ∃ Lg x4 x5, δ = liE L0 (some (.d (.list (Ls.map lnD)))) x2 (some (.o false (.l (Lg.map lnD)))) x4 x5 ∧ Lg.length ≤ 4 * pre.length ∧ ∀ x ∈ Lg, ∃ L ∈ Ls, ∃ t ∈ L0, t ∉ L ∧ x = L ++ [t]) (fun δ hI => ?_) (fun pre L post δ Q eS hI hQ => ?_) ⟨[], _, _, rfl, Nat.zero_le _, fun _ m => by cases m⟩
      · obtain ⟨Lg, x4, x5, rfl, h1, h2⟩ := hI
        show t_lines_2 e _
        unfold t_lines_2
        pv_short
        first
          | exact k Lg _ _ _ h1 h2 _ (.inr rfl)
          | exact k Lg _ _ _ h1 h2 _ (.inl rfl)
      · obtain ⟨Lg, x4, x5, rfl, h1, h2⟩ := hI
        have mL : L ∈ Ls := by rw [eS]; simp
        have lp : pre.length ≤ Ls.length := by rw [eS, List.length_append]; omega
        refine Exists.intro _ (And.intro rfl ?_)
        show t_lines_5 _ (liE L0 (some (.d (.list (Ls.map lnD)))) x2 (some (.o false (.l (Lg.map lnD)))) (some (.d (lnD L))) x5)
        refine lines_5 h0 l0 (hL L mL).1 (hL L mL).2 (by omega) fun x5 => hQ _ ⟨Lg ++ extL L0 L, _, _, rfl, ?_, fun x m => ?_⟩
        · have := ext_len (L0 := L0) (L := L)
          rw [List.length_append, List.length_append, List.length_singleton]; omega
        · rcases List.mem_append.mp m with m | m
          · exact h2 x m
          · obtain ⟨t, mt, nt, rfl⟩ := ext_mem m
            exact ⟨L, mL, t, mt, nt, rfl⟩
    rcases hx with rfl | rfl
    · unfold t_lines_6
      pv_short
      exact go
    · unfold t_lines_6
      pv_short
      exact go
  unfold t_lines_7
  pv_short
  exact main
def C_lines : FSpec := Ct (fun ss => ∃ L0 : List Tk, ss = [.d (.list (L0.map pI))] ∧ L0.length ≤ 4 ∧ ∀ t ∈ L0, TkB t)
  fun ss r ss' => ss' = ss ∧ ∃ (L0 : List Tk) (Ls : List (List Tk)), ss = [.d (.list (L0.map pI))] ∧ (r = .d (.list (Ls.map lnD)) ∨ r = .n (.l (Ls.map lnD))) ∧ (∀ L ∈ Ls, L.Perm L0) ∧ Ls.length ≤ 256
theorem lines_ok (ss : List Sl) (Ex : XP) (P : DL.R → List Sl → Prop) (h : C_lines ss Ex P) : fnW 1 7 w_lines ss Ex P := by
  obtain ⟨⟨L0, rfl, l0, h0⟩, kk⟩ := h
  have kk := fun r Ls h1 h2 h3 => kk r _ ⟨rfl, L0, Ls, rfl, h1, h2, h3⟩
  refine And.intro rfl ?_
  rw [w_lines_eq]
  unfold t_lines_9
  pv_short
  show t_lines_8 _ (liE L0 (some (.o false (.l (([[]] : List (List Tk)).map lnD)))) none none none none)
  unfold t_lines_8
  pv_short
  have hb : ((L0.map pI).length : Int) = (L0.length : Int) := by rw [List.length_map]
  refine And.intro ⟨(by show -(2 ^ 62) ≤ (0 : Int); decide), (by show (0 : Int) < 2 ^ 62; decide), (by show -(2 ^ 62) ≤ ((L0.map pI).length : Int); omega), (by show ((L0.map pI).length : Int) < 2 ^ 62; omega)⟩ ?_
  show wForR (gN 2) t_lines_7 ((List.range (((L0.map pI).length : Int) - 0).toNat).map fun (i : Nat) => .int (0 + (i : Int))) _ _
  rw [hb, show ((L0.length : Int) - 0).toNat = L0.length by omega]
  refine for_of (g := fun i : Nat => .int (0 + (i : Int))) (xs := List.range L0.length) (I := fun pre δ => ∃ Ls x1 x2 x3 x4 x5, δ = liE L0 x1 x2 x3 x4 x5 ∧ (x1 = some (.o false (.l (Ls.map lnD))) ∨ x1 = some (.d (.list (Ls.map lnD)))) ∧ Ls.length ≤ 4 ^ pre.length ∧ ∀ L ∈ Ls, L.length = pre.length ∧ ∃ R, (L ++ R).Perm L0) (fun δ hI => ?_) (fun pre i post δ Q eS hI hQ => ?_) ⟨[[]], _, _, _, _, _, rfl, .inl rfl, by decide, fun L m => by rw [List.mem_singleton] at m; subst m; exact ⟨rfl, L0, List.Perm.refl _⟩⟩
  · obtain ⟨Ls, x1, x2, x3, x4, x5, rfl, hx, lL, hL⟩ := hI
    rw [List.length_range] at lL hL
    have l4 : 4 ^ L0.length ≤ 256 := Nat.le_trans (Nat.pow_le_pow_right (by decide) l0) (by decide)
    have hp : ∀ L ∈ Ls, L.Perm L0 := fun L m => by
      obtain ⟨e1, R, p⟩ := hL L m
      have e2 := p.length_eq
      rw [List.length_append, e1] at e2
      have : R = [] := List.length_eq_zero_iff.mp (by omega)
      rw [this, List.append_nil] at p
      exact p
    have k1 := kk (.d (.list (Ls.map lnD))) Ls (.inl rfl) hp (by omega)
    have k2 := kk (.n (.l (Ls.map lnD))) Ls (.inr rfl) hp (by omega)
    rcases hx with rfl | rfl
    · unfold t_lines_1
      pv_short
      exact k2
    · unfold t_lines_1
      pv_short
      exact k1
  · obtain ⟨Ls, x1, x2, x3, x4, x5, rfl, hx, lL, hL⟩ := hI
    have lp : pre.length + 1 ≤ L0.length := by
      have := congrArg List.length eS
      rw [List.length_range, List.length_append, List.length_cons] at this
      omega
    have l5 : 4 ^ pre.length ≤ 64 := Nat.le_trans (Nat.pow_le_pow_right (by decide) (show pre.length ≤ 3 by omega)) (by decide)
    refine Exists.intro _ (And.intro rfl ?_)
    show t_lines_7 _ (liE L0 x1 (some (.d (.int (0 + (i : Int))))) x3 x4 x5)
    refine lines_7 hx h0 l0 (fun L m => ?_) (by omega) fun Lg x3 x4 x5 g1 g2 x1 hx1 => hQ _ ⟨Lg, _, _, _, _, _, rfl, hx1, ?_, fun x m => ?_⟩
    · obtain ⟨e1, R, p⟩ := hL L m
      exact ⟨fun t mt => h0 t (p.mem_iff.mp (List.mem_append_left _ mt)), by omega⟩
    · rw [List.length_append, List.length_singleton, Nat.pow_succ]; omega
    · obtain ⟨L, mL, t, mt, nt, rfl⟩ := g2 x m
      obtain ⟨e1, R, p⟩ := hL L mL
      refine ⟨by rw [List.length_append, List.length_append, List.length_singleton, List.length_singleton, e1], R.erase t, ?_⟩
      have mR : t ∈ R := by
        rcases List.mem_append.mp (p.mem_iff.mpr mt) with z | z
        · exact absurd z nt
        · exact z
      rw [List.append_assoc]
      exact ((List.perm_cons_erase mR).symm.append_left L).trans p
theorem lines_at {δ δ1 : SEnv} {L0 : List Tk} {wa : WE} {Ex : XP} {P : R → SEnv → Prop} {ra : R} (hm : ∀ Q : R → SEnv → Prop, Q ra δ1 → wa Ex δ Q) (hs : settle ra = some (.d (.list (L0.map pI)))) (l0 : L0.length ≤ 4) (h0 : ∀ t ∈ L0, TkB t)
    (k : ∀ (Ls : List (List Tk)) (r : R), (r = .d (.list (Ls.map lnD)) ∨ r = .n (.l (Ls.map lnD))) → (∀ L ∈ Ls, L.Perm L0) → Ls.length ≤ 256 → P r δ1) : wCall 1 C_lines [false] (wCons wa wNil) Ex δ P := by
  unfold wCall
  refine hm _ ?_
  refine ⟨_, hs, ?_⟩
  refine ⟨([.d (.list (L0.map pI))], δ1), rfl, rfl, List.nodup_nil, ?_⟩
  refine ⟨[.d (.list (L0.map pI))], rfl, ⟨L0, rfl, l0, h0⟩, fun r ss' ⟨e1, L0', Ls, e2, hr, hp, hl⟩ _ => ?_⟩
  have e2 := PyData.list.inj (Sl.d.inj (List.cons.inj e2).1)
  have := map_inj pI_inj e2
  subst this e1
  exact ⟨_, rfl, k Ls r hr hp hl⟩
end V23
set_option Elab.async false
set_option linter.all false
set_option maxRecDepth 100000
set_option maxHeartbeats 1000000
set_option autoImplicit false
set_option exponentiation.threshold 20000
namespace V23
open PySem PySem.Spec PyProof.Rows L2 DL
local macro_rules | `(tactic| pv_short) => `(tactic| repeat first | refine Exists.intro _ (And.intro rfl ?_) | refine ifT rfl ?_ | refine ifF rfl ?_ | refine Exists.intro _ (And.intro (if_pos (by first | assumption | decide | exact ⟨by assumption, by decide⟩ | exact ⟨by assumption, by assumption⟩)) ?_) | refine And.intro (show List.length _ ≤ sizeLine from Nat.le_of_ble_eq_true rfl) ?_ | refine And.intro (Nat.le_of_ble_eq_true rfl) ?_)
theorem mf_none {S : List Sp} : ∀ {L pre : List Tk}, mf S pre L = none ↔ (∀ o ∈ pre, ∀ t ∈ L, ¬ (be S t).2 < (be S o).1) ∧ L.Pairwise fun a b => ¬ (be S b).2 < (be S a).1
  | [], pre => ⟨fun _ => ⟨fun _ _ _ m => absurd m List.not_mem_nil, List.Pairwise.nil⟩, fun _ => rfl⟩
  | t :: r, pre => by
    have st : mf S pre (t :: r) = match pre.findIdx? fun o => decide ((be S t).2 < (be S o).1) with
      | some i => some (i, pre.length)
      | none => mf S (pre ++ [t]) r := rfl
    rw [st]
    cases hf : pre.findIdx? fun o => decide ((be S t).2 < (be S o).1) with
    | some i =>
      obtain ⟨hi, hd, _⟩ := List.findIdx?_eq_some_iff_getElem.mp hf
      refine ⟨fun h => absurd h (by simp), fun h => ?_⟩
      exact absurd (of_decide_eq_true hd) (h.1 _ (List.getElem_mem hi) t (List.mem_cons_self ..))
    | none =>
      have hn := List.findIdx?_eq_none_iff.mp hf
      show mf S (pre ++ [t]) r = none ↔ _
      rw [mf_none, List.pairwise_cons]
      constructor
      · rintro ⟨h1, h2⟩
        refine ⟨fun o mo x mx => ?_, fun x mx => h1 t (by simp) x mx, h2⟩
        rcases List.mem_cons.mp mx with rfl | mx
        · have := hn o mo; simpa using this
        · exact h1 o (List.mem_append_left _ mo) x mx
      · rintro ⟨h1, h2, h3⟩
        refine ⟨fun o mo x mx => ?_, h3⟩
        rcases List.mem_append.mp mo with mo | mo
        · exact h1 o mo x (List.mem_cons_of_mem _ mx)
        · rw [List.mem_singleton] at mo; subst mo; exact h2 x mx
theorem pairs_kv : ∀ S : List Sp, pairsTD (S.map fun s => .tuple [pI s.1, .tuple [.int s.2.1, .int s.2.2]]) = some (S.map kv)
  | [] => rfl
  | s :: S => by
    show ((keyT (pI s.1)).bind fun ks => (pairsTD (S.map fun s => .tuple [pI s.1, .tuple [.int s.2.1, .int s.2.2]])).map fun kvs => (ks, PyData.tuple [.int s.2.1, .int s.2.2]) :: kvs) = _
    rw [pairs_kv S]; rfl
theorem merge_kv {S : List Sp} (nd : (S.map (·.1)).Nodup) : ∀ {acc : List (List Int × PyData)}, (∀ s ∈ S, ∀ x ∈ acc, x.1 ≠ kT s.1) → mergeT acc (S.map kv) = acc ++ S.map kv := by
  induction S with
  | nil => intro acc _; simp [mergeT]
  | cons s S ih =>
    intro acc h
    rw [List.map_cons, List.nodup_cons] at nd
    show mergeT (putD acc (kT s.1) (.tuple [.int s.2.1, .int s.2.2])) (S.map kv) = _
    rw [put_newI (h s (List.mem_cons_self ..)), ih nd.2 fun x m y mk => ?_, List.append_assoc]; rfl
    rcases List.mem_append.mp mk with mk | mk
    · exact h x (List.mem_cons_of_mem _ m) y mk
    · rw [List.mem_singleton] at mk
      subst mk
      intro e
      exact nd.1 (List.mem_map.mpr ⟨x, m, (kT_inj _ _ e).symm⟩)
def C_fits : FSpec := Ct (fun ss => ∃ S : List Sp, ∃ L : List Tk, ss = [.d (sps S), .d (lnD L)] ∧ (S.map (·.1)).Nodup ∧ S.length ≤ 1000 ∧ L.length ≤ 1000 ∧ ∀ t ∈ L, t ∈ S.map (·.1)) fun ss r ss' => ss' = ss ∧ ∃ S : List Sp, ∃ L : List Tk, ss = [.d (sps S), .d (lnD L)] ∧ r = .d (.bool (mf S [] L).isNone)
abbrev ffE (S : List Sp) (L : List Tk) (x6 x7 : Option Sl) : SEnv := [some (.d (sps S)), some (.d (lnD L)), some (.o false (.t (S.map kv))), none, none, none, x6, x7]
theorem fits_3 {e : DEnds} {S : List Sp} {L : List Tk} {i j : Nat} {a b : Tk} (nd : (S.map (·.1)).Nodup) (ms : ∀ t ∈ L, t ∈ S.map (·.1)) (ea : L[i]? = some a) (eb : L[j]? = some b) {I J : Int} (hI : I = (i : Int)) (hJ : J = (j : Int))
    (k1 : (be S b).2 < (be S a).1 → e.rt (.d (.bool false)) (ffE S L (some (.d (.int I))) (some (.d (.int J))))) (k2 : ¬ (be S b).2 < (be S a).1 → e.nx (ffE S L (some (.d (.int I))) (some (.d (.int J))))) :
    t_fits_3 e (ffE S L (some (.d (.int I))) (some (.d (.int J)))) := by
  unfold t_fits_3
  pv_short
  refine Exists.intro _ (And.intro (at_tup (g := pI) (xs := L) (i := J) (x := b) (by omega) (by rw [hJ, Int.toNat_natCast]; exact eb)) ?_)
  pv_short
  refine Exists.intro _ (And.intro (ix_t nd (ms b (List.mem_of_getElem? eb))) ?_)
  pv_short
  refine Exists.intro _ (And.intro (at_tup (g := pI) (xs := L) (i := I) (x := a) (by omega) (by rw [hI, Int.toNat_natCast]; exact ea)) ?_)
  pv_short
  refine Exists.intro _ (And.intro (ix_t nd (ms a (List.mem_of_getElem? ea))) ?_)
  pv_short
  show (if decide ((be S b).2 < (be S a).1) = true then _ else _)
  refine ite2 (fun z => ?_) (fun z => ?_)
  · have k1 := k1 (of_decide_eq_true z)
    unfold t_fits_2
    pv_short
    exact k1
  · have k2 := k2 (fun h => z (decide_eq_true h))
    pv_short
    exact k2
theorem fits_4 {e : DEnds} {S : List Sp} {L : List Tk} {i : Nat} {a : Tk} {x7 : Option Sl} (nd : (S.map (·.1)).Nodup) (hl : L.length ≤ 1000) (ms : ∀ t ∈ L, t ∈ S.map (·.1)) (ea : L[i]? = some a) {I : Int} (hI : I = (i : Int))
    (k1 : (∃ j b, i < j ∧ L[j]? = some b ∧ (be S b).2 < (be S a).1) → ∀ x6 x7, e.rt (.d (.bool false)) (ffE S L x6 x7)) (k2 : (∀ j b, i < j → L[j]? = some b → ¬ (be S b).2 < (be S a).1) → ∀ x7, e.nx (ffE S L (some (.d (.int I))) x7)) :
    t_fits_4 e (ffE S L (some (.d (.int I))) x7) := by
  have hi := (List.getElem?_eq_some_iff.mp ea).1
  have hm : ((L.map pI).length : Int) = (L.length : Int) := by rw [List.length_map]
  unfold t_fits_4
  pv_short
  refine And.intro ⟨(by show -(2 ^ 62) ≤ I + 1; omega), (by show I + 1 < 2 ^ 62; omega), (by show -(2 ^ 62) ≤ ((L.map pI).length : Int); omega), (by show ((L.map pI).length : Int) < 2 ^ 62; omega)⟩ ?_
  show wForR (gN 7) t_fits_3 ((List.range (((L.map pI).length : Int) - (I + 1)).toNat).map fun (k : Nat) => .int (I + 1 + (k : Int))) _ (ffE S L (some (.d (.int I))) x7)
  rw [hm, show ((L.length : Int) - (I + 1)).toNat = L.length - (i + 1) by omega]
  refine for_of (g := fun k : Nat => .int (I + 1 + (k : Int))) (xs := List.range (L.length - (i + 1))) (I := fun pre δ => ∃ x7, δ = ffE S L (some (.d (.int I))) x7 ∧ ∀ j b, i < j → j < i + 1 + pre.length → L[j]? = some b → ¬ (be S b).2 < (be S a).1) (fun δ hI => ?_) (fun pre k post δ Q eS hI' hQ => ?_) ⟨_, rfl, fun j b h1 h2 => by rw [List.length_nil] at h2; omega⟩
  · obtain ⟨x7, rfl, h⟩ := hI
    rw [List.length_range] at h
    exact k2 (fun j b h1 h2 => h j b h1 (by have := (List.getElem?_eq_some_iff.mp h2).1; omega) h2) x7
  · obtain ⟨x7, rfl, h⟩ := hI'
    have lp : pre.length + 1 ≤ L.length - (i + 1) := by
      have := congrArg List.length eS
      rw [List.length_range, List.length_append, List.length_cons] at this
      omega
    have ek : k = pre.length := by
      have : (List.range (L.length - (i + 1)))[pre.length]? = some k := by rw [eS, List.getElem?_append_right (Nat.le_refl _)]; simp
      rw [List.getElem?_range (by omega)] at this
      exact (Option.some.inj this).symm
    subst ek
    obtain ⟨b, eb⟩ : ∃ b, L[i + 1 + pre.length]? = some b := ⟨_, List.getElem?_eq_getElem (by omega)⟩
    refine Exists.intro _ (And.intro rfl ?_)
    show t_fits_3 _ (ffE S L (some (.d (.int I))) (some (.d (.int (I + 1 + ((pre.length : Nat) : Int))))))
    refine fits_3 (i := i) (j := i + 1 + pre.length) nd ms ea eb hI (by omega) (fun z => k1 ⟨_, b, by omega, eb, z⟩ _ _) fun z => hQ _ ⟨_, rfl, fun j b' h1 h2 h3 => ?_⟩
    rw [List.length_append, List.length_singleton] at h2
    by_cases hj : j < i + 1 + pre.length
    · exact h j b' h1 hj h3
    · have : j = i + 1 + pre.length := by omega
      subst this
      rw [eb] at h3
      cases h3
      exact z
theorem fits_ok (ss : List Sl) (Ex : XP) (P : DL.R → List Sl → Prop) (h : C_fits ss Ex P) : fnW 2 8 w_fits ss Ex P := by
  obtain ⟨⟨S, L, rfl, nd, hS, hl, ms⟩, kk⟩ := h
  have kk := kk _ _ ⟨rfl, S, L, rfl, rfl⟩
  have hm : ((L.map pI).length : Int) = (L.length : Int) := by rw [List.length_map]
  refine And.intro rfl ?_
  rw [w_fits_eq]
  unfold t_fits_6
  pv_short
  show wLcR (gT 3 (gsC (gN 3) (gsC (gN 4) (gsC (gN 5) gsN)))) wYes _ [3, 4, 5] (S.map qD) [] [some (.d (sps S)), some (.d (lnD L)), none, none, none, none, none, none] _
  refine lc_of (g := qD) (xs := S) (δf := [some (.d (sps S)), some (.d (lnD L)), none, none, none, none, none, none]) (fun _ => true) (fun s : Sp => .tuple [pI s.1, .tuple [.int s.2.1, .int s.2.2]]) rfl (by rw [sizeLine_eq]; simp only [List.length_nil]; omega) (fun s m Q Q' g1 g2 => ?_) fun δ' h' => ?_
  · pv_short
    exact g1 rfl _ rfl
  rw [List.nil_append, h', show S.filter (fun _ => true) = S from List.filter_eq_self.mpr fun _ _ => rfl]
  pv_short
  refine Exists.intro _ (And.intro (show (pairsTD _).map (fun kvs => Rv.dt (mergeT [] kvs)) = some (Rv.dt (S.map kv)) by rw [pairs_kv]; show some (Rv.dt (mergeT [] (S.map kv))) = _; rw [merge_kv nd (fun _ _ _ m => by cases m), List.nil_append]) ?_)
  pv_short
  show t_fits_5 _ (ffE S L none none)
  unfold t_fits_5
  pv_short
  refine And.intro ⟨(by show -(2 ^ 62) ≤ (0 : Int); decide), (by show (0 : Int) < 2 ^ 62; decide), (by show -(2 ^ 62) ≤ ((L.map pI).length : Int); omega), (by show ((L.map pI).length : Int) < 2 ^ 62; omega)⟩ ?_
  show wForR (gN 6) t_fits_4 ((List.range (((L.map pI).length : Int) - 0).toNat).map fun (i : Nat) => .int (0 + (i : Int))) _ _
  rw [hm, show ((L.length : Int) - 0).toNat = L.length by omega]
  refine for_of (g := fun i : Nat => .int (0 + (i : Int))) (xs := List.range L.length) (I := fun pre δ => ∃ x6 x7, δ = ffE S L x6 x7 ∧ ∀ i a, i < pre.length → L[i]? = some a → ∀ j b, i < j → L[j]? = some b → ¬ (be S b).2 < (be S a).1) (fun δ hI => ?_) (fun pre i post δ Q eS hI hQ => ?_) ⟨_, _, rfl, fun i a h => by cases h⟩
  · obtain ⟨x6, x7, rfl, h⟩ := hI
    rw [List.length_range] at h
    have : mf S [] L = none := mf_none.mpr ⟨fun _ m => absurd m List.not_mem_nil, List.pairwise_iff_getElem.mpr fun i j hi hj lt => h i _ hi (List.getElem?_eq_getElem hi) j _ lt (List.getElem?_eq_getElem hj)⟩
    rw [this] at kk
    unfold t_fits_1
    pv_short
    exact kk
  · obtain ⟨x6, x7, rfl, h⟩ := hI
    have lp : pre.length + 1 ≤ L.length := by
      have := congrArg List.length eS
      rw [List.length_range, List.length_append, List.length_cons] at this
      omega
    have ek : i = pre.length := by
      have : (List.range L.length)[pre.length]? = some i := by rw [eS, List.getElem?_append_right (Nat.le_refl _)]; simp
      rw [List.getElem?_range (by omega)] at this
      exact (Option.some.inj this).symm
    subst ek
    obtain ⟨a, ea⟩ : ∃ a, L[pre.length]? = some a := ⟨_, List.getElem?_eq_getElem (by omega)⟩
    refine Exists.intro _ (And.intro rfl ?_)
    show t_fits_4 _ (ffE S L (some (.d (.int (0 + ((pre.length : Nat) : Int))))) x7)
    refine fits_4 (i := pre.length) nd hl ms ea (by omega) (fun ⟨j, b, lt, eb, z⟩ x6 x7 => ?_) fun z x7 => hQ _ ⟨_, _, rfl, fun i' a' hi' ea' j b lt eb => ?_⟩
    · have : (mf S [] L).isNone = false := by
        cases hz : mf S [] L with
        | some _ => rfl
        | none =>
          obtain ⟨lj, e2⟩ := List.getElem?_eq_some_iff.mp eb
          obtain ⟨li, e1⟩ := List.getElem?_eq_some_iff.mp ea
          have := List.pairwise_iff_getElem.mp (mf_none.mp hz).2 _ _ li lj lt
          rw [e1, e2] at this
          exact absurd z this
      rw [this] at kk
      pv_short
      exact kk
    · rw [List.length_append, List.length_singleton] at hi'
      by_cases hh : i' < pre.length
      · exact h i' a' hh ea' j b lt eb
      · have : i' = pre.length := by omega
        subst this
        rw [ea] at ea'
        cases ea'
        exact z j b lt eb
theorem fits_at {δ : SEnv} {S : List Sp} {L : List Tk} {wa wb : WE} {Ex : XP} {P : R → SEnv → Prop} (hm : ∀ Q : R → SEnv → Prop, Q (.d (sps S)) δ → wa Ex δ Q) (hm2 : ∀ Q : R → SEnv → Prop, Q (.d (lnD L)) δ → wb Ex δ Q) (nd : (S.map (·.1)).Nodup) (hS : S.length ≤ 1000) (hl : L.length ≤ 1000) (ms : ∀ t ∈ L, t ∈ S.map (·.1))
    (k : P (.d (.bool (mf S [] L).isNone)) δ) : wCall 2 C_fits [false, false] (wCons wa (wCons wb wNil)) Ex δ P := by
  refine call_dd hm hm2 ⟨S, L, rfl, nd, hS, hl, ms⟩ fun r ss' ⟨e1, S', L', e2, e4⟩ => ⟨e1, ?_⟩
  have e3 := sps_inj (Sl.d.inj (List.cons.inj e2).1)
  have e5 := lnD_inj (Sl.d.inj (List.cons.inj (List.cons.inj e2).2).1)
  subst e3 e5 e4
  exact k
end V23
set_option Elab.async false
set_option linter.all false
set_option maxRecDepth 100000
set_option maxHeartbeats 1000000
set_option autoImplicit false
set_option exponentiation.threshold 20000
namespace V23
open PySem PySem.Spec PyProof.Rows L2 DL
local macro_rules | `(tactic| pv_short) => `(tactic| repeat first | refine Exists.intro _ (And.intro rfl ?_) | refine ifT rfl ?_ | refine ifF rfl ?_ | refine Exists.intro _ (And.intro (if_pos (by first | assumption | decide | exact ⟨by assumption, by decide⟩ | exact ⟨by assumption, by assumption⟩)) ?_) | refine And.intro (show List.length _ ≤ sizeLine from Nat.le_of_ble_eq_true rfl) ?_ | refine And.intro (Nat.le_of_ble_eq_true rfl) ?_)
theorem call_ddX {pre : List Sl → Prop} {post : List Sl → R → List Sl → Prop} {exc : List Sl → Exc → Prop} {wa wb : WE} {δ δ1 δ2 : SEnv} {d e : PyData} {Ex : XP} {P : R → SEnv → Prop} (hm : ∀ (Ex : XP) (Q : R → SEnv → Prop), Q (.d d) δ1 → wa Ex δ Q) (hm2 : ∀ (Ex : XP) (Q : R → SEnv → Prop), Q (.d e) δ2 → wb Ex δ1 Q) (hp : pre [.d d, .d e])
    (k : ∀ r ss', post [.d d, .d e] r ss' → ss' = [.d d, .d e] ∧ P r δ2) (kx : ∀ x, exc [.d d, .d e] x → Ex x) : wCall 2 (CtX pre post exc) [false, false] (wNoX (wCons wa (wCons wb wNil))) Ex δ P := by
  unfold wCall wNoX
  refine hm _ _ ?_
  refine ⟨_, rfl, ?_⟩
  refine hm2 _ _ ?_
  refine ⟨_, rfl, ?_⟩
  refine ⟨([.d d, .d e], δ2), rfl, rfl, List.nodup_nil, ?_⟩
  refine ⟨[.d d, .d e], rfl, hp, fun r ss' q _ => ?_, kx⟩
  obtain ⟨rfl, z⟩ := k r ss' q
  exact ⟨_, rfl, z⟩
def mx (a b : Int) : Int := if b > a then b else a
def mo (S : List Sp) : Int → List Tk → List (Tk × Int)
  | _, [] => []
  | m, t :: r => (t, mx m (be S t).1) :: mo S (mx m (be S t).1) r
def ml (S : List Sp) (m : Int) (L : List Tk) : Int := L.foldl (fun m t => mx m (be S t).1) m
theorem mo_snoc {S : List Sp} {t : Tk} : ∀ {L : List Tk} {m : Int}, mo S m (L ++ [t]) = mo S m L ++ [(t, mx (ml S m L) (be S t).1)]
  | [], _ => rfl
  | x :: L, m => by rw [List.cons_append]; show _ :: mo S _ (L ++ [t]) = _; rw [mo_snoc]; rfl
theorem ml_snoc {S : List Sp} {t : Tk} {L : List Tk} {m : Int} : ml S m (L ++ [t]) = mx (ml S m L) (be S t).1 := by unfold ml; rw [List.foldl_append]; rfl
abbrev mD (q : Tk × Int) : PyData := .tuple [pI q.1, .int q.2]
abbrev moD (S : List Sp) (L : List Tk) : PyData := .tuple ((mo S 0 L).map mD)
theorem mo_len {S : List Sp} : ∀ {L : List Tk} {m : Int}, (mo S m L).length = L.length
  | [], _ => rfl
  | x :: L, m => by show (mo S _ L).length + 1 = _; rw [mo_len]; rfl
theorem mf_lt {S : List Sp} : ∀ {r pre : List Tk} {i j : Nat}, mf S pre r = some (i, j) → i < j ∧ j < pre.length + r.length
  | [], _, _, _, e => by cases e
  | t :: r, pre, i, j, e => by
    have st : mf S pre (t :: r) = match pre.findIdx? fun o => decide ((be S t).2 < (be S o).1) with
      | some i => some (i, pre.length)
      | none => mf S (pre ++ [t]) r := rfl
    rw [st] at e
    split at e
    · rename_i k hk
      cases e
      obtain ⟨h, _⟩ := List.findIdx?_eq_some_iff_getElem.mp hk
      exact ⟨h, by rw [List.length_cons]; omega⟩
    · obtain ⟨h1, h2⟩ := mf_lt e
      rw [List.length_append, List.length_singleton] at h2
      exact ⟨h1, by rw [List.length_cons]; omega⟩
def isLn (S : List Sp) (L : List Tk) : Prop := (S.map (·.1)).Nodup ∧ S.length ≤ 1000 ∧ L.length ≤ 1000 ∧ ∀ t ∈ L, t ∈ S.map (·.1)
def C_mom (A : Addr) : FSpec := CtX (fun ss => ∃ S : List Sp, ∃ L : List Tk, ss = [.d (sps S), .d (lnD L)] ∧ isLn S L)
  (fun ss r ss' => ss' = ss ∧ ∃ S : List Sp, ∃ L : List Tk, ss = [.d (sps S), .d (lnD L)] ∧ mf S [] L = none ∧ r = .d (moD S L))
  (fun ss x => ∃ S : List Sp, ∃ L : List Tk, ss = [.d (sps S), .d (lnD L)] ∧ ∃ i j a b, mf S [] L = some (i, j) ∧ L[i]? = some a ∧ L[j]? = some b ∧ x = ⟨.ref A, [("paper", .tuple [pI a, pI b])]⟩)
abbrev mE (S : List Sp) (L : List Tk) (x2 x3 x4 x5 x6 x7 x8 : Option Sl) : SEnv := [some (.d (sps S)), some (.d (lnD L)), x2, x3, x4, x5, x6, x7, x8]
theorem moments_ok (A : Addr) (ss : List Sl) (Ex : XP) (P : DL.R → List Sl → Prop) (h : C_mom A ss Ex P) : fnW 2 9 (w_moments_by C_sbt C_fm A) ss Ex P := by
  obtain ⟨⟨S, L, rfl, nd, hl, hl2, ms⟩, kk, kx⟩ := h
  refine And.intro rfl ?_
  rw [w_moments_by_eq]
  unfold t_moments_by_11
  refine call_dd (d := sps S) (e := lnD L) (δ1 := mE S L none none none none none none none) (δ2 := mE S L none none none none none none none) (fun Q h => by pv_short; exact h) (fun Q h => by pv_short; exact h) ⟨S, L, rfl, nd, hl, hl2, ms⟩ fun r ss' ⟨e1, S', L', e2, e3⟩ => ⟨e1, ?_⟩
  simp only [List.cons.injEq, Sl.d.injEq, and_true] at e2
  obtain ⟨e4, e5⟩ := e2
  obtain rfl := sps_inj e4
  obtain rfl := lnD_inj e5
  subst e3
  cases hm : mf S [] L with
  | some q =>
    obtain ⟨i, j⟩ := q
    obtain ⟨h1, h2⟩ := mf_lt hm
    rw [List.length_nil, Nat.zero_add] at h2
    have ei : L[i]? = some L[i] := List.getElem?_eq_getElem (by omega)
    have ej : L[j]? = some L[j] := List.getElem?_eq_getElem h2
    have kx := kx _ ⟨S, L, rfl, i, j, _, _, hm, ei, ej, rfl⟩
    pv_short
    show t_moments_by_10 C_sbt C_fm A _ (mE S L (some (.d (.tuple [.int (i : Nat), .int (j : Nat)]))) none none none none none none)
    unfold t_moments_by_10
    pv_short
    unfold t_moments_by_9
    pv_short
    show t_moments_by_8 C_sbt C_fm A _ (mE S L (some (.d (.tuple [.int (i : Nat), .int (j : Nat)]))) (some (.d (.int (i : Nat)))) (some (.d (.int (j : Nat)))) none none none none)
    unfold t_moments_by_8
    pv_short
    refine Exists.intro _ (And.intro (show (atI (L.map pI) (i : Int)).map Rv.val = some (.val (pI L[i])) by rw [atI_nat (v := pI L[i]) (by rw [List.getElem?_map, ei]; rfl)]; rfl) ?_)
    pv_short
    refine Exists.intro _ (And.intro (show (atI (L.map pI) (j : Int)).map Rv.val = some (.val (pI L[j])) by rw [atI_nat (v := pI L[j]) (by rw [List.getElem?_map, ej]; rfl)]; rfl) ?_)
    pv_short
    exact kx
  | none =>
    have kk := kk _ _ ⟨rfl, S, L, rfl, hm, rfl⟩
    pv_short
    show t_moments_by_10 C_sbt C_fm A _ (mE S L (some (.d .none)) none none none none none none)
    unfold t_moments_by_10
    pv_short
    show t_moments_by_7 C_sbt C_fm A _ (mE S L (some (.d .none)) none none none none none none)
    unfold t_moments_by_7
    refine call_d (d := sps S) (δ1 := mE S L (some (.d .none)) none none none none none none) (fun Q h => by pv_short; exact h) ⟨S, rfl, nd, hl⟩ fun r ss' ⟨e1, S', e2, e3⟩ => ⟨e1, ?_⟩
    simp only [List.cons.injEq, Sl.d.injEq, and_true] at e2
    have := sps_inj e2
    subst this e3
    pv_short
    show t_moments_by_6 C_sbt C_fm A _ (mE S L (some (.d .none)) none none (some (.o false (.t (S.map kv)))) none none none)
    unfold t_moments_by_6
    pv_short
    show t_moments_by_5 C_sbt C_fm A _ (mE S L (some (.d .none)) none none (some (.o false (.t (S.map kv)))) (some (.o false (.l []))) none none)
    unfold t_moments_by_5
    pv_short
    show t_moments_by_4 C_sbt C_fm A _ (mE S L (some (.d .none)) none none (some (.o false (.t (S.map kv)))) (some (.o false (.l []))) (some (.d (.int 0))) none)
    unfold t_moments_by_4
    pv_short
    show wForR (gN 8) (t_moments_by_3 C_sbt C_fm A) (L.map pI) _ _
    refine for_of (g := pI) (I := fun done δ => ∃ x8, δ = mE S L (some (.d .none)) none none (some (.o false (.t (S.map kv)))) (some (.o false (.l ((mo S 0 done).map mD)))) (some (.d (.int (ml S 0 done)))) x8) (fun δ hI => ?_) (fun done t post δ Q eS hI hQ => ?_) ⟨none, rfl⟩
    · obtain ⟨x8, rfl⟩ := hI
      unfold t_moments_by_1
      pv_short
      exact kk
    · obtain ⟨x8, rfl⟩ := hI
      have mt : t ∈ S.map (·.1) := ms t (by rw [eS]; simp)
      have hd : done.length < 1000 := by have := congrArg List.length eS; rw [List.length_append, List.length_cons] at this; omega
      pv_short
      show t_moments_by_3 C_sbt C_fm A _ (mE S L (some (.d .none)) none none (some (.o false (.t (S.map kv)))) (some (.o false (.l ((mo S 0 done).map mD)))) (some (.d (.int (ml S 0 done)))) (some (.d (pI t))))
      unfold t_moments_by_3
      pv_short
      refine Exists.intro _ (And.intro (ix_t nd mt) ?_)
      pv_short
      show t_moments_by_2 C_sbt C_fm A _ (mE S L (some (.d .none)) none none (some (.o false (.t (S.map kv)))) (some (.o false (.l ((mo S 0 done).map mD)))) (some (.d (.int (mx (ml S 0 done) (be S t).1)))) (some (.d (pI t))))
      unfold t_moments_by_2
      pv_short
      refine And.intro (by rw [List.length_map, mo_len, sizeLine_eq]; omega) ?_
      refine hQ _ ⟨some (.d (pI t)), ?_⟩
      rw [mo_snoc, ml_snoc, List.map_append]; rfl
def sayD (S : List Sp) (L : List Tk) : PyData := if (mf S [] L).isNone then moD S L else .none
def C_say : FSpec := Ct (fun ss => ∃ S : List Sp, ∃ L : List Tk, ss = [.d (sps S), .d (lnD L)] ∧ isLn S L) (fun ss r ss' => ss' = ss ∧ ∃ S : List Sp, ∃ L : List Tk, ss = [.d (sps S), .d (lnD L)] ∧ r = .d (sayD S L))
theorem said_ok (A : Addr) (ss : List Sl) (Ex : XP) (P : DL.R → List Sl → Prop) (h : C_say ss Ex P) : fnW 2 3 (w_said (C_mom A) A) ss Ex P := by
  obtain ⟨⟨S, L, rfl, hL⟩, kk⟩ := h
  have kk := kk _ _ ⟨rfl, S, L, rfl, rfl⟩
  refine And.intro rfl ?_
  rw [w_said_eq]
  unfold t_said_3
  pv_short
  show t_said_2 (C_mom A) A _ [some (.d (sps S)), some (.d (lnD L)), some (.d .none)]
  unfold t_said_2
  refine call_ddX (d := sps S) (e := lnD L) (δ1 := [some (.d (sps S)), some (.d (lnD L)), some (.d .none)]) (δ2 := [some (.d (sps S)), some (.d (lnD L)), some (.d .none)]) (fun Ex Q h => by pv_short; exact h) (fun Ex Q h => by pv_short; exact h) ⟨S, L, rfl, hL⟩ (fun r ss' ⟨e1, S', L', e2, e3, e4⟩ => ⟨e1, ?_⟩) (fun x ⟨S', L', e2, i, j, a, b, e3, ei, ej, e4⟩ => ?_)
  · simp only [List.cons.injEq, Sl.d.injEq, and_true] at e2
    obtain ⟨e5, e6⟩ := e2
    obtain rfl := sps_inj e5
    obtain rfl := lnD_inj e6
    subst e4
    rw [show sayD S L = moD S L by unfold sayD; rw [e3]; rfl] at kk
    pv_short
    unfold t_said_1
    pv_short
    exact kk
  · simp only [List.cons.injEq, Sl.d.injEq, and_true] at e2
    obtain ⟨e5, e6⟩ := e2
    obtain rfl := sps_inj e5
    obtain rfl := lnD_inj e6
    subst e4
    rw [show sayD S L = .none by unfold sayD; rw [e3]; rfl] at kk
    refine And.intro rfl ?_
    show t_said_1 (C_mom A) A _ [some (.d (sps S)), some (.d (lnD L)), some (.d .none)]
    unfold t_said_1
    pv_short
    exact kk
end V23
set_option Elab.async false
set_option linter.all false
set_option maxRecDepth 100000
set_option maxHeartbeats 1000000
set_option autoImplicit false
set_option exponentiation.threshold 20000
namespace V23
open PySem PySem.Spec PyProof.Rows L2 DL
local macro_rules | `(tactic| pv_short) => `(tactic| repeat first | refine Exists.intro _ (And.intro rfl ?_) | refine ifT rfl ?_ | refine ifF rfl ?_ | refine Exists.intro _ (And.intro (if_pos (by first | assumption | decide | exact ⟨by assumption, by decide⟩ | exact ⟨by assumption, by assumption⟩)) ?_) | refine And.intro (show List.length _ ≤ sizeLine from Nat.le_of_ble_eq_true rfl) ?_ | refine And.intro (Nat.le_of_ble_eq_true rfl) ?_)
abbrev kw (s : Sp) : List Int × PyData := (kT s.1, qD s)
theorem look_kw {S : List Sp} (nd : (S.map (·.1)).Nodup) {s : Sp} (m : s ∈ S) : lookD (S.map kw) (kT s.1) = some (qD s) := by
  induction S with
  | nil => cases m
  | cons x S ih =>
    rw [List.map_cons, List.nodup_cons] at nd
    unfold lookD
    rw [List.map_cons]
    by_cases e : x.1 = s.1
    · rw [List.find?_cons_of_pos (by show decide (kT x.1 = kT s.1) = true; rw [e]; simp)]
      rcases List.mem_cons.mp m with rfl | m
      · rfl
      · exact absurd (List.mem_map.mpr ⟨s, m, e.symm⟩) nd.1
    · rw [List.find?_cons_of_neg (by show ¬ decide (kT x.1 = kT s.1) = true; rw [decide_eq_true_iff]; exact fun z => e (kT_inj _ _ z))]
      rcases List.mem_cons.mp m with rfl | m
      · exact absurd rfl e
      · exact ih nd.2 m
theorem ix_w {S : List Sp} (nd : (S.map (·.1)).Nodup) {t : Tk} (m : t ∈ S.map (·.1)) : idxF (.t (S.map kw)) (.d (pI t)) = some (.val (.tuple [pI t, .int (be S t).1, .int (be S t).2])) := by
  obtain ⟨s, ms, rfl⟩ := List.mem_map.mp m
  rw [be_of nd ms]
  show (((some (lookD (S.map kw) (kT s.1))).bind id).map Rv.val) = _
  rw [look_kw nd ms]; rfl
theorem pairs_kw : ∀ S : List Sp, pairsTD (S.map fun s => .tuple [pI s.1, qD s]) = some (S.map kw)
  | [] => rfl
  | s :: S => by
    show ((keyT (pI s.1)).bind fun ks => (pairsTD (S.map fun s => .tuple [pI s.1, qD s])).map fun kvs => (ks, qD s) :: kvs) = _
    rw [pairs_kw S]; rfl
theorem merge_kw {S : List Sp} (nd : (S.map (·.1)).Nodup) : ∀ {acc : List (List Int × PyData)}, (∀ s ∈ S, ∀ kv ∈ acc, kv.1 ≠ kT s.1) → mergeT acc (S.map kw) = acc ++ S.map kw := by
  induction S with
  | nil => intro acc _; simp [mergeT]
  | cons s S ih =>
    intro acc h
    rw [List.map_cons, List.nodup_cons] at nd
    show mergeT (putD acc (kT s.1) (qD s)) (S.map kw) = _
    rw [put_newI (h s (List.mem_cons_self ..)), ih nd.2 fun x m kv mk => ?_, List.append_assoc]; rfl
    rcases List.mem_append.mp mk with mk | mk
    · exact h x (List.mem_cons_of_mem _ m) kv mk
    · rw [List.mem_singleton] at mk
      subst mk
      intro e
      exact nd.1 (List.mem_map.mpr ⟨x, m, (kT_inj _ _ e).symm⟩)
abbrev mlD (r : List Int) : PyData := .tuple (r.map .int)
def okM (S : List Sp) (t : Tk) (r : List Int) (m : Int) : Bool := decide ((be S t).1 ≤ m) && decide (m ≤ (be S t).2) && (decide (r = []) || decide (r.getLastD 0 ≤ m))
def extM (S : List Sp) (U : List Int) (t : Tk) (r : List Int) : List (List Int) := (U.filter (okM S t r)).map fun m => r ++ [m]
def trM (S : List Sp) (U : List Int) (L : List Tk) : List (List Int) := L.foldl (fun Ts t => Ts.flatMap (extM S U t)) [[]]
theorem trM_snoc {S : List Sp} {U : List Int} {L : List Tk} {t : Tk} : trM S U (L ++ [t]) = (trM S U L).flatMap (extM S U t) := by unfold trM; rw [List.foldl_append]; rfl
theorem extM_len {S : List Sp} {U : List Int} {t : Tk} {r : List Int} : (extM S U t r).length ≤ U.length := by unfold extM; rw [List.length_map]; exact List.length_filter_le _ _
theorem flat_len {α β : Type} {f : α → List β} {n : Nat} : ∀ {xs : List α}, (∀ x ∈ xs, (f x).length ≤ n) → (xs.flatMap f).length ≤ n * xs.length
  | [], _ => Nat.zero_le _
  | x :: xs, h => by
    rw [List.flatMap_cons, List.length_append, List.length_cons, Nat.mul_succ]
    have := h x List.mem_cons_self
    have := flat_len (xs := xs) fun y m => h y (List.mem_cons_of_mem _ m)
    omega
theorem trM_mem {S : List Sp} {U : List Int} {L : List Tk} {t : Tk} {x : List Int} : x ∈ trM S U (L ++ [t]) ↔ ∃ r m, r ∈ trM S U L ∧ m ∈ U ∧ okM S t r m = true ∧ x = r ++ [m] := by
  rw [trM_snoc, List.mem_flatMap]
  constructor
  · rintro ⟨r, hr, hx⟩
    obtain ⟨m, hm, rfl⟩ := List.mem_map.mp hx
    obtain ⟨h1, h2⟩ := List.mem_filter.mp hm
    exact ⟨r, m, hr, h1, h2, rfl⟩
  · rintro ⟨r, m, hr, h1, h2, rfl⟩
    exact ⟨r, hr, List.mem_map.mpr ⟨m, List.mem_filter.mpr ⟨h1, h2⟩, rfl⟩⟩
theorem last_le {r : List Int} {m : Int} (p : r.Pairwise (· ≤ ·)) (h : r = [] ∨ r.getLastD 0 ≤ m) : ∀ x ∈ r, x ≤ m := by
  intro x hx
  rcases h with h | h
  · subst h; cases hx
  · have hn : r ≠ [] := fun z => by subst z; cases hx
    obtain ⟨i, hi, rfl⟩ := List.mem_iff_getElem.mp hx
    have e : r.getLastD 0 = r[r.length - 1] := by rw [List.getLastD_eq_getLast?, List.getLast?_eq_getElem?, List.getElem?_eq_getElem (by omega)]; rfl
    by_cases hl : i = r.length - 1
    · subst hl; rw [e] at h; exact h
    · have := List.pairwise_iff_getElem.mp p i (r.length - 1) hi (by omega) (by omega)
      rw [e] at h
      omega
structure RowM (S : List Sp) (U : List Int) (L : List Tk) (r : List Int) : Prop where
  len : r.length = L.length
  up : r.Pairwise (· ≤ ·)
  at_ : ∀ (i : Nat) (t : Tk) (m : Int), L[i]? = some t → r[i]? = some m → m ∈ U ∧ (be S t).1 ≤ m ∧ m ≤ (be S t).2
theorem rowM_snoc {S : List Sp} {U : List Int} {L : List Tk} {t : Tk} {r : List Int} {m : Int} : RowM S U (L ++ [t]) (r ++ [m]) ↔ RowM S U L r ∧ m ∈ U ∧ okM S t r m = true := by
  unfold okM
  simp only [Bool.and_eq_true, Bool.or_eq_true, decide_eq_true_eq]
  constructor
  · intro h
    have hl : r.length = L.length := by have := h.len; rw [List.length_append, List.length_append, List.length_singleton, List.length_singleton] at this; omega
    have hp := List.pairwise_append.mp h.up
    have hm := h.at_ L.length t m (by simp) (by rw [← hl]; simp)
    refine ⟨⟨hl, hp.1, fun i u x e1 e2 => h.at_ i u x (by rw [List.getElem?_append_left (List.getElem?_eq_some_iff.mp e1).1]; exact e1) (by rw [List.getElem?_append_left (List.getElem?_eq_some_iff.mp e2).1]; exact e2)⟩, hm.1, ⟨hm.2.1, hm.2.2⟩, ?_⟩
    by_cases hn : r = []
    · exact .inl hn
    · refine .inr (hp.2.2 _ ?_ m (List.mem_singleton.mpr rfl))
      rw [List.getLastD_eq_getLast?, List.getLast?_eq_some_getLast hn]
      exact List.getLast_mem hn
  · rintro ⟨h, hU, ⟨h1, h2⟩, h3⟩
    refine ⟨by rw [List.length_append, List.length_append, h.len]; rfl, List.pairwise_append.mpr ⟨h.up, List.pairwise_singleton _ _, fun x hx y hy => ?_⟩, fun i u x e1 e2 => ?_⟩
    · rw [List.mem_singleton.mp hy]; exact last_le h.up h3 x hx
    · by_cases hi : i < L.length
      · rw [List.getElem?_append_left hi] at e1
        rw [List.getElem?_append_left (by rw [h.len]; exact hi)] at e2
        exact h.at_ i u x e1 e2
      · have hi2 := (List.getElem?_eq_some_iff.mp e1).1
        rw [List.length_append, List.length_singleton] at hi2
        have : i = L.length := by omega
        subst this
        rw [List.getElem?_append_right (Nat.le_refl _), Nat.sub_self] at e1
        rw [List.getElem?_append_right (by rw [h.len]; exact Nat.le_refl _), h.len, Nat.sub_self] at e2
        cases e1; cases e2
        exact ⟨hU, h1, h2⟩
theorem snoc_ind {α : Type} {P : List α → Prop} (h0 : P []) (h1 : ∀ l a, P l → P (l ++ [a])) (l : List α) : P l := by
  have : ∀ r : List α, P r.reverse := fun r => by
    induction r with
    | nil => exact h0
    | cons a r ih => rw [List.reverse_cons]; exact h1 _ _ ih
  have := this l.reverse
  rwa [List.reverse_reverse] at this
theorem trM_iff {S : List Sp} {U : List Int} {L : List Tk} : ∀ r, r ∈ trM S U L ↔ RowM S U L r := by
  refine snoc_ind (P := fun L => ∀ r, r ∈ trM S U L ↔ RowM S U L r) (fun r => ?_) (fun L t ih r => ?_) L
  · show r ∈ [[]] ↔ _
    rw [List.mem_singleton]
    constructor
    · rintro rfl; exact ⟨rfl, List.Pairwise.nil, fun i t m e => by simp at e⟩
    · intro h; exact List.length_eq_zero_iff.mp h.len
  · rw [trM_mem]
    constructor
    · rintro ⟨q, m, h1, h2, h3, rfl⟩
      exact rowM_snoc.mpr ⟨(ih q).mp h1, h2, h3⟩
    · intro h
      have hn : r ≠ [] := fun z => by have := h.len; rw [z, List.length_append] at this; simp at this
      obtain ⟨q, m, rfl⟩ : ∃ q m, r = q ++ [m] := ⟨r.dropLast, r.getLast hn, (List.dropLast_concat_getLast hn).symm⟩
      obtain ⟨h1, h2, h3⟩ := rowM_snoc.mp h
      exact ⟨q, m, (ih q).mpr h1, h2, h3, rfl⟩
theorem trM_len {S : List Sp} {U : List Int} (hU : U.length ≤ 4) : ∀ L : List Tk, (trM S U L).length ≤ 4 ^ L.length := fun L => by
  refine snoc_ind (P := fun L => (trM S U L).length ≤ 4 ^ L.length) (by show 1 ≤ 4 ^ 0; decide) (fun L t ih => ?_) L
  rw [trM_snoc, List.length_append, List.length_singleton, Nat.pow_succ]
  have := flat_len (f := extM S U t) (n := 4) (xs := trM S U L) fun r _ => Nat.le_trans extM_len hU
  omega
end V23
set_option Elab.async false
set_option linter.all false
set_option maxRecDepth 100000
set_option maxHeartbeats 1000000
set_option autoImplicit false
set_option exponentiation.threshold 20000
namespace V23
open PySem PySem.Spec PyProof.Rows L2 DL
local macro_rules | `(tactic| pv_short) => `(tactic| repeat first | refine Exists.intro _ (And.intro rfl ?_) | refine ifT rfl ?_ | refine ifF rfl ?_ | refine Exists.intro _ (And.intro (if_pos (by first | assumption | decide | exact ⟨by assumption, by decide⟩ | exact ⟨by assumption, by assumption⟩)) ?_) | refine And.intro (show List.length _ ≤ sizeLine from Nat.le_of_ble_eq_true rfl) ?_ | refine And.intro (Nat.le_of_ble_eq_true rfl) ?_)
theorem nums_ints (l : List Int) : numsD (l.map .int) = some l := by
  induction l with
  | nil => rfl
  | cons x l ih => show (numsD (l.map PyData.int)).map _ = _; rw [ih]; rfl
theorem sset_of (l : List Int) (h : l.length < 64) : ssetF [.d (.list (l.map .int))] = some (.lst ((upI l).map .int)) := by
  show (numsD (l.map PyData.int)).bind _ = _
  rw [nums_ints]
  exact if_pos h
theorem at_lastM {r : List Int} (h : r ≠ []) : idxF (.d (mlD r)) (.d (.int (-1))) = some (.val (.int (r.getLastD 0))) := by
  obtain ⟨q, m, rfl⟩ : ∃ q m, r = q ++ [m] := ⟨r.dropLast, r.getLast h, (List.dropLast_concat_getLast h).symm⟩
  show (atI ((q ++ [m]).map PyData.int) (-1)).map Rv.val = _
  rw [List.map_append, List.map_cons, List.map_nil, atI_last]
  show some (Rv.val (.int m)) = _
  rw [List.getLastD_eq_getLast?, List.getLast?_append]; rfl
theorem eqv_mlD0 (r : List Int) : PyData.eqv (mlD r) (.tuple []) = decide (r = []) := by cases r <;> rfl
def MlB (r : List Int) : Prop := ∀ m ∈ r, m.natAbs ≤ 1000
theorem mlB_sh {r : List Int} (h : MlB r) : SeqAt.shaped (mlD r) = true := nd_shaped (show Nd 1000 1 (mlD r) from nd_tup fun x m => by
  obtain ⟨t, mt, rfl⟩ := List.mem_map.mp m
  exact nd_int (h t mt)) (by decide)
abbrev trE (S : List Sp) (L : List Tk) (x3 x4 x5 x6 x7 x9 : Option Sl) : SEnv := [some (.d (sps S)), some (.d (lnD L)), some (.o false (.t (S.map kw))), x3, x4, x5, x6, x7, none, x9]
theorem tried_5 {e : DEnds} {S : List Sp} {L : List Tk} {t : Tk} {r : List Int} {m : Int} {G : List (List Int)} {x4 x9 : Option Sl} (nd : (S.map (·.1)).Nodup) (mt : t ∈ S.map (·.1)) (hr : MlB r) (lr : r.length ≤ 100) (hG : G.length ≤ 10000)
    (k : ∀ x9, e.nx (trE S L (some (.d (mlD r))) x4 (some (.d (pI t))) (some (.o false (.l ((G ++ if okM S t r m then [r ++ [m]] else []).map mlD)))) (some (.d (.int m))) x9)) :
    t_tried_5 e (trE S L (some (.d (mlD r))) x4 (some (.d (pI t))) (some (.o false (.l (G.map mlD)))) (some (.d (.int m))) x9) := by
  unfold t_tried_5
  refine Exists.intro _ (And.intro rfl ?_)
  pv_short
  refine Exists.intro _ (And.intro (ix_w nd mt) ?_)
  pv_short
  have post : ∀ b : Bool, b = (decide ((be S t).1 ≤ m) && decide (m ≤ (be S t).2)) → t_tried_4 e (trE S L (some (.d (mlD r))) x4 (some (.d (pI t))) (some (.o false (.l (G.map mlD)))) (some (.d (.int m))) (some (.d (.bool b)))) := fun b hb => by
    unfold okM at k
    rw [← hb] at k
    have k := k (some (.d (.bool b)))
    have go : (e.nx (trE S L (some (.d (mlD r))) x4 (some (.d (pI t))) (some (.o false (.l ((G ++ [r ++ [m]]).map mlD)))) (some (.d (.int m))) (some (.d (.bool b))))) → t_tried_3 e (trE S L (some (.d (mlD r))) x4 (some (.d (pI t))) (some (.o false (.l (G.map mlD)))) (some (.d (.int m))) (some (.d (.bool b)))) := fun k => by
      unfold t_tried_3
      pv_short
      refine Exists.intro _ (And.intro (add_tup (xs := r.map .int) (ys := [.int m]) (by rw [List.length_map, sizeLine_eq]; show _ + 1 ≤ _; omega)) ?_)
      pv_short
      refine And.intro (by rw [List.length_map, sizeLine_eq]; omega) ?_
      rw [List.map_append, List.map_cons, List.map_nil, show mlD (r ++ [m]) = .tuple (r.map .int ++ [.int m]) by show PyData.tuple _ = _; rw [List.map_append]; rfl] at k
      exact k
    unfold t_tried_4
    pv_short
    cases b with
    | false =>
      pv_short
      rw [Bool.false_and, if_neg Bool.false_ne_true, List.append_nil] at k
      exact k
    | true =>
      pv_short
      refine Exists.intro _ (And.intro (eq_shaped (neg := false) (e := .tuple []) (mlB_sh hr) (by decide +kernel)) ?_)
      rw [if_neg Bool.false_ne_true, eqv_mlD0]
      rw [Bool.true_and] at k
      by_cases h0 : r = []
      · rw [decide_eq_true h0] at k ⊢
        rw [Bool.true_or, if_pos rfl] at k
        pv_short
        exact go k
      · rw [decide_eq_false h0] at k ⊢
        rw [Bool.false_or] at k
        pv_short
        refine Exists.intro _ (And.intro (at_lastM h0) ?_)
        pv_short
        show (if decide (r.getLastD 0 ≤ m) = true then _ else _)
        by_cases h1 : r.getLastD 0 ≤ m
        · rw [if_pos (decide_eq_true h1)] at k
          rw [if_pos (decide_eq_true h1)]
          exact go k
        · rw [if_neg (fun z => h1 (of_decide_eq_true z)), List.append_nil] at k
          rw [if_neg (fun z => h1 (of_decide_eq_true z))]
          exact k
  show (if decide ((be S t).1 ≤ m) = true then _ else _)
  by_cases h1 : (be S t).1 ≤ m
  · rw [if_pos (decide_eq_true h1)]
    pv_short
    refine Exists.intro _ (And.intro (ix_w nd mt) ?_)
    pv_short
    exact post _ (by rw [decide_eq_true h1, Bool.true_and])
  · rw [if_neg (fun z => h1 (of_decide_eq_true z))]
    pv_short
    exact post false (by rw [decide_eq_false h1]; rfl)
/-- the begins, each once -/
def begs (S : List Sp) : List Int := upI (S.map fun s => s.2.1)
theorem begs_mem {S : List Sp} {m : Int} : m ∈ begs S ↔ ∃ s ∈ S, s.2.1 = m := by unfold begs; rw [mem_upI, List.mem_map]
theorem begs_len {S : List Sp} : (begs S).length ≤ S.length := by have := len_upI (ns := S.map fun s => s.2.1); rw [List.length_map] at this; exact this
theorem filt_snoc {α β : Type} {p : α → Bool} {f : α → β} {xs : List α} {x : α} : ((xs ++ [x]).filter p).map f = (xs.filter p).map f ++ if p x then [f x] else [] := by
  rw [List.filter_append, List.map_append]
  cases h : p x <;> simp [h]
theorem tried_6 {e : DEnds} {S : List Sp} {L : List Tk} {t : Tk} {r : List Int} {G : List (List Int)} {x4 x7 x9 : Option Sl} (nd : (S.map (·.1)).Nodup) (lS : S.length ≤ 4) (mt : t ∈ S.map (·.1)) (hr : MlB r) (lr : r.length ≤ 100) (hG : G.length ≤ 5000)
    (k : ∀ x7 x9, e.nx (trE S L (some (.d (mlD r))) x4 (some (.d (pI t))) (some (.o false (.l ((G ++ extM S (begs S) t r).map mlD)))) x7 x9)) :
    t_tried_6 e (trE S L (some (.d (mlD r))) x4 (some (.d (pI t))) (some (.o false (.l (G.map mlD)))) x7 x9) := by
  unfold t_tried_6
  pv_short
  show wLcR (gN 8) wYes _ [8] (S.map qD) [] (trE S L (some (.d (mlD r))) x4 (some (.d (pI t))) (some (.o false (.l (G.map mlD)))) x7 x9) _
  refine lc_of (g := qD) (xs := S) (δf := trE S L (some (.d (mlD r))) x4 (some (.d (pI t))) (some (.o false (.l (G.map mlD)))) x7 x9) (fun _ => true) (fun s : Sp => .int s.2.1) rfl (by rw [sizeLine_eq]; simp only [List.length_nil]; omega) (fun s m Q Q' g1 g2 => ?_) fun δ' h' => ?_
  · pv_short
    exact g1 rfl _ rfl
  · rw [List.nil_append, h', show S.filter (fun _ => true) = S from List.filter_eq_self.mpr fun _ _ => rfl, show (S.map fun s : Sp => PyData.int s.2.1) = (S.map fun s => s.2.1).map .int by rw [List.map_map]; rfl]
    pv_short
    refine Exists.intro _ (And.intro (sset_of (S.map fun s => s.2.1) (by rw [List.length_map]; omega)) ?_)
    pv_short
    show wForR (gN 7) t_tried_5 ((begs S).map .int) e (trE S L (some (.d (mlD r))) x4 (some (.d (pI t))) (some (.o false (.l (G.map mlD)))) x7 x9)
    have lU := begs_len (S := S)
    refine for_of (g := PyData.int) (xs := begs S) (I := fun pre δ => ∃ x7 x9, δ = trE S L (some (.d (mlD r))) x4 (some (.d (pI t))) (some (.o false (.l ((G ++ (pre.filter (okM S t r)).map fun m => r ++ [m]).map mlD)))) x7 x9) (fun δ hI => ?_) (fun pre m post δ Q eS hI hQ => ?_) ⟨x7, x9, by simp⟩
    · obtain ⟨x7, x9, rfl⟩ := hI
      exact k x7 x9
    · obtain ⟨x7, x9, rfl⟩ := hI
      have lp : pre.length ≤ 4 := by have := congrArg List.length eS; rw [List.length_append, List.length_cons] at this; omega
      have lf := List.length_filter_le (okM S t r) pre
      refine Exists.intro _ (And.intro rfl ?_)
      show t_tried_5 _ (trE S L (some (.d (mlD r))) x4 (some (.d (pI t))) (some (.o false (.l ((G ++ (pre.filter (okM S t r)).map fun m => r ++ [m]).map mlD)))) (some (.d (.int m))) x9)
      refine tried_5 nd mt hr lr (by rw [List.length_append, List.length_map]; omega) fun x9 => hQ _ ⟨some (.d (.int m)), x9, ?_⟩
      rw [filt_snoc, List.append_assoc]
theorem tried_8 {e : DEnds} {S : List Sp} {L : List Tk} {t : Tk} {Ts : List (List Int)} {x3 x4 x6 x7 x9 : Option Sl} (nd : (S.map (·.1)).Nodup) (lS : S.length ≤ 4) (mt : t ∈ S.map (·.1)) (hr : ∀ r ∈ Ts, MlB r ∧ r.length ≤ 100) (lT : Ts.length ≤ 256) (hx : x4 = some (.o false (.l (Ts.map mlD))) ∨ x4 = some (.d (.list (Ts.map mlD))))
    (k : ∀ x3 x4 x6 x7 x9, (x4 = some (.o false (.l ((Ts.flatMap (extM S (begs S) t)).map mlD))) ∨ x4 = some (.d (.list ((Ts.flatMap (extM S (begs S) t)).map mlD)))) → e.nx (trE S L x3 x4 (some (.d (pI t))) x6 x7 x9)) :
    t_tried_8 e (trE S L x3 x4 (some (.d (pI t))) x6 x7 x9) := by
  have main : t_tried_7 e (trE S L x3 x4 (some (.d (pI t))) (some (.o false (.l []))) x7 x9) := by
    have go : wForR (gN 3) t_tried_6 (Ts.map mlD) { e with nx := fun δ => t_tried_2 e δ } (trE S L x3 (some (.d (.list (Ts.map mlD)))) (some (.d (pI t))) (some (.o false (.l []))) x7 x9) := by
      refine for_of (g := mlD) (xs := Ts) (I := fun pre δ => ∃ x3 x7 x9, δ = trE S L x3 (some (.d (.list (Ts.map mlD)))) (some (.d (pI t))) (some (.o false (.l ((pre.flatMap (extM S (begs S) t)).map mlD)))) x7 x9) (fun δ hI => ?_) (fun pre r post δ Q eS hI hQ => ?_) ⟨x3, x7, x9, rfl⟩
      · obtain ⟨x3, x7, x9, rfl⟩ := hI
        show t_tried_2 e _
        unfold t_tried_2
        pv_short
        first
          | exact k _ _ _ _ _ (.inr rfl)
          | exact k _ _ _ _ _ (.inl rfl)
      · obtain ⟨x3, x7, x9, rfl⟩ := hI
        have mr : r ∈ Ts := by rw [eS]; simp
        have lp : pre.length ≤ 256 := by have := congrArg List.length eS; rw [List.length_append, List.length_cons] at this; omega
        have lf := flat_len (f := extM S (begs S) t) (n := 4) (xs := pre) fun r _ => Nat.le_trans extM_len (Nat.le_trans begs_len lS)
        refine Exists.intro _ (And.intro rfl ?_)
        show t_tried_6 _ (trE S L (some (.d (mlD r))) (some (.d (.list (Ts.map mlD)))) (some (.d (pI t))) (some (.o false (.l ((pre.flatMap (extM S (begs S) t)).map mlD)))) x7 x9)
        refine tried_6 nd lS mt (hr r mr).1 (hr r mr).2 (by omega) fun x7 x9 => hQ _ ⟨some (.d (mlD r)), x7, x9, ?_⟩
        rw [List.flatMap_append, List.flatMap_cons, List.flatMap_nil, List.append_nil]
    rcases hx with rfl | rfl
    · unfold t_tried_7
      pv_short
      exact go
    · unfold t_tried_7
      pv_short
      exact go
  unfold t_tried_8
  pv_short
  exact main
def C_tried : FSpec := Ct (fun ss => ∃ S : List Sp, ∃ L : List Tk, ss = [.d (sps S), .d (lnD L)] ∧ SpW S ∧ S.length ≤ 4 ∧ L.length ≤ 4 ∧ ∀ t ∈ L, t ∈ S.map (·.1)) fun ss r ss' => ss' = ss ∧ ∃ S : List Sp, ∃ L : List Tk, ss = [.d (sps S), .d (lnD L)] ∧ (r = .d (.list ((trM S (begs S) L).map mlD)) ∨ r = .n (.l ((trM S (begs S) L).map mlD)))
theorem trM_b {S : List Sp} (w : SpW S) {L : List Tk} {r : List Int} (h : r ∈ trM S (begs S) L) : MlB r ∧ r.length = L.length := by
  have z := trM_iff r |>.mp h
  refine ⟨fun m hm => ?_, z.len⟩
  obtain ⟨i, hi, rfl⟩ := List.mem_iff_getElem.mp hm
  have hl : i < L.length := by rw [← z.len]; exact hi
  obtain ⟨mU, _⟩ := z.at_ i L[i] r[i] (List.getElem?_eq_getElem hl) (List.getElem?_eq_getElem hi)
  obtain ⟨s, ms, es⟩ := begs_mem.mp mU
  have := w.pos s ms
  omega
theorem tried_ok (ss : List Sl) (Ex : XP) (P : DL.R → List Sl → Prop) (h : C_tried ss Ex P) : fnW 2 10 w_tried ss Ex P := by
  obtain ⟨⟨S, L, rfl, w, lS, lL, ms⟩, kk⟩ := h
  have nd := w.nd
  have k1 := kk (.d (.list ((trM S (begs S) L).map mlD))) _ ⟨rfl, S, L, rfl, .inl rfl⟩
  have k2 := kk (.n (.l ((trM S (begs S) L).map mlD))) _ ⟨rfl, S, L, rfl, .inr rfl⟩
  refine And.intro rfl ?_
  rw [w_tried_eq]
  unfold t_tried_11
  pv_short
  show wLcR (gN 3) wYes _ [3] (S.map qD) [] [some (.d (sps S)), some (.d (lnD L)), none, none, none, none, none, none, none, none] _
  refine lc_of (g := qD) (xs := S) (δf := [some (.d (sps S)), some (.d (lnD L)), none, none, none, none, none, none, none, none]) (fun _ => true) (fun s : Sp => .tuple [pI s.1, qD s]) rfl (by rw [sizeLine_eq]; simp only [List.length_nil]; omega) (fun s m Q Q' g1 g2 => ?_) fun δ' h' => ?_
  · pv_short
    exact g1 rfl _ rfl
  rw [List.nil_append, h', show S.filter (fun _ => true) = S from List.filter_eq_self.mpr fun _ _ => rfl]
  pv_short
  refine Exists.intro _ (And.intro (show (pairsTD _).map (fun kvs => Rv.dt (mergeT [] kvs)) = some (Rv.dt (S.map kw)) by rw [pairs_kw]; show some (Rv.dt (mergeT [] (S.map kw))) = _; rw [merge_kw nd (fun _ _ _ m => by cases m), List.nil_append]) ?_)
  pv_short
  show t_tried_10 _ (trE S L none none none none none none)
  unfold t_tried_10
  pv_short
  show t_tried_9 _ (trE S L none (some (.o false (.l (([[]] : List (List Int)).map mlD)))) none none none none)
  unfold t_tried_9
  pv_short
  show wForR (gN 5) t_tried_8 (L.map pI) _ _
  refine for_of (g := pI) (xs := L) (I := fun pre δ => ∃ x3 x4 x5 x6 x7 x9, δ = trE S L x3 x4 x5 x6 x7 x9 ∧ (x4 = some (.o false (.l ((trM S (begs S) pre).map mlD))) ∨ x4 = some (.d (.list ((trM S (begs S) pre).map mlD))))) (fun δ hI => ?_) (fun pre t post δ Q eS hI hQ => ?_) ⟨_, _, _, _, _, _, rfl, .inl rfl⟩
  · obtain ⟨x3, x4, x5, x6, x7, x9, rfl, hx⟩ := hI
    rcases hx with rfl | rfl
    · unfold t_tried_1
      pv_short
      exact k2
    · unfold t_tried_1
      pv_short
      exact k1
  · obtain ⟨x3, x4, x5, x6, x7, x9, rfl, hx⟩ := hI
    have mt : t ∈ L := by rw [eS]; simp
    have lp : pre.length + 1 ≤ L.length := by have := congrArg List.length eS; rw [List.length_append, List.length_cons] at this; omega
    have lt := trM_len (S := S) (U := begs S) (Nat.le_trans begs_len lS) pre
    have l4 : 4 ^ pre.length ≤ 64 := Nat.le_trans (Nat.pow_le_pow_right (by decide) (show pre.length ≤ 3 by omega)) (by decide)
    refine Exists.intro _ (And.intro rfl ?_)
    show t_tried_8 _ (trE S L x3 x4 (some (.d (pI t))) x6 x7 x9)
    refine tried_8 nd lS (ms t mt) (fun r m => ⟨(trM_b w m).1, by rw [(trM_b w m).2]; omega⟩) (by omega) hx fun x3 x4 x6 x7 x9 hx => hQ _ ⟨_, _, _, _, _, _, rfl, ?_⟩
    rw [trM_snoc]
    exact hx
end V23
set_option Elab.async false
set_option linter.all false
set_option maxRecDepth 100000
set_option maxHeartbeats 1000000
set_option autoImplicit false
set_option exponentiation.threshold 20000
namespace V23
open PySem PySem.Spec PyProof.Rows L2 DL
local macro_rules | `(tactic| pv_short) => `(tactic| repeat first | refine Exists.intro _ (And.intro rfl ?_) | refine ifT rfl ?_ | refine ifF rfl ?_ | refine Exists.intro _ (And.intro (if_pos (by first | assumption | decide | exact ⟨by assumption, by decide⟩ | exact ⟨by assumption, by assumption⟩)) ?_) | refine And.intro (show List.length _ ≤ sizeLine from Nat.le_of_ble_eq_true rfl) ?_ | refine And.intro (Nat.le_of_ble_eq_true rfl) ?_)
abbrev moR (S : List Sp) (L : List Tk) : List Int := (mo S 0 L).map Prod.snd
theorem moR_snoc {S : List Sp} {L : List Tk} {t : Tk} : moR S (L ++ [t]) = moR S L ++ [mx (ml S 0 L) (be S t).1] := by unfold moR; rw [mo_snoc, List.map_append]; rfl
theorem moR_len {S : List Sp} {L : List Tk} : (moR S L).length = L.length := by unfold moR; rw [List.length_map, mo_len]
theorem mx_eq (a b : Int) : mx a b = max a b := by unfold mx; split <;> omega
theorem be_in {S : List Sp} (w : SpW S) {t : Tk} (m : t ∈ S.map (·.1)) : (be S t).1 ∈ begs S ∧ 0 ≤ (be S t).1 ∧ (be S t).1 ≤ (be S t).2 ∧ (be S t).2 ≤ 1000 := by
  obtain ⟨s, ms, rfl⟩ := List.mem_map.mp m
  rw [be_of w.nd ms]
  have := w.pos s ms
  exact ⟨begs_mem.mpr ⟨s, ms, rfl⟩, by omega, by omega, by omega⟩
structure MoOk (S : List Sp) (L : List Tk) : Prop where
  row : RowM S (begs S) L (moR S L)
  last : L ≠ [] → (moR S L).getLastD 0 = ml S 0 L
  src : ml S 0 L = 0 ∨ ∃ o ∈ L, ml S 0 L = (be S o).1
  nn : 0 ≤ ml S 0 L
  low : ∀ r, RowM S (begs S) L r → ∀ (i : Nat) (x y : Int), r[i]? = some x → (moR S L)[i]? = some y → y ≤ x
theorem mo_ok {S : List Sp} (w : SpW S) : ∀ {L : List Tk}, (∀ t ∈ L, t ∈ S.map (·.1)) → mf S [] L = none → MoOk S L := by
  intro L
  refine snoc_ind (P := fun L => (∀ t ∈ L, t ∈ S.map (·.1)) → mf S [] L = none → MoOk S L) (fun _ _ => ?_) (fun L t ih ms hm => ?_) L
  · exact ⟨⟨rfl, List.Pairwise.nil, fun i t m e => by simp at e⟩, fun z => absurd rfl z, .inl rfl, Int.le_refl _, fun r _ i x y _ e => by simp [moR, mo] at e⟩
  · obtain ⟨_, hp⟩ := mf_none.mp hm
    obtain ⟨hp1, _, hp3⟩ := List.pairwise_append.mp hp
    have ih := ih (fun u m => ms u (List.mem_append_left _ m)) (mf_none.mpr ⟨fun _ m => absurd m List.not_mem_nil, hp1⟩)
    have mt : t ∈ S.map (·.1) := ms t (by simp)
    obtain ⟨b1, b2, b3, b4⟩ := be_in w mt
    have hM : ml S 0 (L ++ [t]) = mx (ml S 0 L) (be S t).1 := ml_snoc
    have hfit : ∀ o ∈ L, (be S o).1 ≤ (be S t).2 := fun o mo => by have := hp3 o mo t (List.mem_singleton.mpr rfl); omega
    have hle : ml S 0 L ≤ (be S t).2 := by
      rcases ih.src with z | ⟨o, mo, z⟩
      · omega
      · have := hfit o mo; omega
    have nn := ih.nn
    have hU : mx (ml S 0 L) (be S t).1 ∈ begs S := by
      unfold mx
      split
      · exact b1
      · rename_i hn
        rcases ih.src with z | ⟨o, mo, z⟩
        · rw [show ml S 0 L = (be S t).1 by omega]; exact b1
        · rw [z]; exact (be_in w (ms o (List.mem_append_left _ mo))).1
    have hmx := mx_eq (ml S 0 L) (be S t).1
    refine ⟨?_, fun _ => ?_, ?_, by rw [hM, hmx]; omega, fun r hr i x y e1 e2 => ?_⟩
    · rw [moR_snoc]
      refine rowM_snoc.mpr ⟨ih.row, hU, ?_⟩
      unfold okM
      simp only [Bool.and_eq_true, Bool.or_eq_true, decide_eq_true_eq]
      refine ⟨⟨by rw [hmx]; omega, by rw [hmx]; omega⟩, ?_⟩
      by_cases h0 : L = []
      · left; subst h0; rfl
      · right; rw [ih.last h0, hmx]; omega
    · rw [moR_snoc, hM, List.getLastD_eq_getLast?, List.getLast?_append]; rfl
    · rw [hM]; unfold mx
      split
      · exact .inr ⟨t, by simp, rfl⟩
      · rcases ih.src with z | ⟨o, mo, z⟩
        · exact .inl z
        · exact .inr ⟨o, List.mem_append_left _ mo, z⟩
    · have hn : r ≠ [] := fun z => by have := hr.len; rw [z, List.length_append] at this; simp at this
      obtain ⟨q, m, rfl⟩ : ∃ q m, r = q ++ [m] := ⟨r.dropLast, r.getLast hn, (List.dropLast_concat_getLast hn).symm⟩
      obtain ⟨h1, h2, h3⟩ := rowM_snoc.mp hr
      unfold okM at h3
      simp only [Bool.and_eq_true, Bool.or_eq_true, decide_eq_true_eq] at h3
      rw [moR_snoc] at e2
      by_cases hi : i < L.length
      · rw [List.getElem?_append_left (by rw [h1.len]; exact hi)] at e1
        rw [List.getElem?_append_left (by rw [moR_len]; exact hi)] at e2
        exact ih.low q h1 i x y e1 e2
      · have hi2 := (List.getElem?_eq_some_iff.mp e2).1
        rw [List.length_append, moR_len, List.length_singleton] at hi2
        have : i = L.length := by omega
        subst this
        rw [List.getElem?_append_right (by rw [h1.len]; exact Nat.le_refl _), h1.len, Nat.sub_self] at e1
        rw [List.getElem?_append_right (by rw [moR_len]; exact Nat.le_refl _), moR_len, Nat.sub_self] at e2
        obtain rfl := Option.some.inj e1
        obtain rfl := Option.some.inj e2
        have all := last_le h1.up h3.2
        have : ml S 0 L ≤ m := by
          rcases ih.src with z | ⟨o, mo, z⟩
          · omega
          · obtain ⟨j, hj, rfl⟩ := List.mem_iff_getElem.mp mo
            have hq : j < q.length := by rw [h1.len]; exact hj
            have a1 := (h1.at_ j L[j] q[j] (List.getElem?_eq_getElem hj) (List.getElem?_eq_getElem hq)).2.1
            have a2 := all q[j] (List.getElem_mem hq)
            omega
        rw [hmx]; omega
theorem tr_mf {S : List Sp} (w : SpW S) {L : List Tk} (ms : ∀ t ∈ L, t ∈ S.map (·.1)) : trM S (begs S) L ≠ [] ↔ mf S [] L = none := by
  constructor
  · intro h
    obtain ⟨r, hr⟩ := List.exists_mem_of_ne_nil _ h
    have z := (trM_iff r).mp hr
    refine mf_none.mpr ⟨fun _ m => absurd m List.not_mem_nil, List.pairwise_iff_getElem.mpr fun i j hi hj lt => ?_⟩
    have ri : i < r.length := by rw [z.len]; exact hi
    have rj : j < r.length := by rw [z.len]; exact hj
    have a1 := (z.at_ i L[i] r[i] (List.getElem?_eq_getElem hi) (List.getElem?_eq_getElem ri)).2.1
    have a2 := (z.at_ j L[j] r[j] (List.getElem?_eq_getElem hj) (List.getElem?_eq_getElem rj)).2.2
    have a3 := List.pairwise_iff_getElem.mp z.up i j ri rj lt
    omega
  · intro h e
    have := (trM_iff _).mpr (mo_ok w ms h).row
    rw [e] at this
    cases this
theorem tr_least {S : List Sp} (w : SpW S) {L : List Tk} (ms : ∀ t ∈ L, t ∈ S.map (·.1)) (h : mf S [] L = none) {k : Nat} {y : Int} (e : (moR S L)[k]? = some y) : minL ((trM S (begs S) L).map fun r => r.getD k 0) = y := by
  have ok := mo_ok w ms h
  refine (minL_one (List.mem_map.mpr ⟨moR S L, (trM_iff _).mpr ok.row, by rw [List.getD_eq_getElem?_getD, e]; rfl⟩) fun x hx => ?_).symm
  obtain ⟨r, hr, rfl⟩ := List.mem_map.mp hx
  have z := (trM_iff r).mp hr
  have hk := (List.getElem?_eq_some_iff.mp e).1
  rw [moR_len] at hk
  have hk2 : k < r.length := by rw [z.len]; exact hk
  have er : r[k]? = some r[k] := List.getElem?_eq_getElem hk2
  rw [List.getD_eq_getElem?_getD, er]
  exact ok.low r z k _ y er e
theorem zip_mo {S : List Sp} : ∀ {L : List Tk} {m : Int}, zipD (L.map pI) (((mo S m L).map Prod.snd).map .int) = (mo S m L).map mD
  | [], _ => rfl
  | t :: r, m => by
    show PyData.tuple [pI t, .int (mx m (be S t).1)] :: zipD (r.map pI) (((mo S _ r).map Prod.snd).map .int) = _
    rw [zip_mo]; rfl
theorem moR_b {S : List Sp} (w : SpW S) {L : List Tk} (ms : ∀ t ∈ L, t ∈ S.map (·.1)) (h : mf S [] L = none) : MlB (moR S L) := (trM_b w ((trM_iff _).mpr (mo_ok w ms h).row)).1
theorem mo_fst {S : List Sp} : ∀ {L : List Tk} {m : Int}, (mo S m L).map Prod.fst = L
  | [], _ => rfl
  | t :: r, m => by show t :: (mo S _ r).map Prod.fst = _; rw [mo_fst]
theorem mo_show {S : List Sp} (w : SpW S) {L : List Tk} (ms : ∀ t ∈ L, t ∈ S.map (·.1)) (hb : ∀ t ∈ L, TkB t) (l4 : L.length ≤ 4) (h : mf S [] L = none) : showOk (moD S L) = true := by
  have hm : ∀ q ∈ mo S 0 L, TkB q.1 ∧ q.2.natAbs ≤ 1000 := fun q m => ⟨hb _ (by have := List.mem_map_of_mem (f := Prod.fst) m; rw [mo_fst] at this; exact this), moR_b w ms h _ (List.mem_map_of_mem m)⟩
  have nd : Nd 2000 3 (moD S L) := nd_tup fun x m => by
    obtain ⟨q, mq, rfl⟩ := List.mem_map.mp m
    obtain ⟨h1, h2⟩ := hm q mq
    exact nd_tup (nds_cons (tkb_nd h1) (nds_cons (nd_int (by omega)) nds_nil))
  have bk : PyData.bulkAll ((mo S 0 L).map mD) ≤ (20 + 1) * 4 := bulk_le (by rw [List.length_map, mo_len]; exact l4) fun x m => by
    obtain ⟨q, mq, rfl⟩ := List.mem_map.mp m
    exact Nat.le_of_ble_eq_true rfl
  exact nd_show nd (by decide) (by decide) (show (moD S L).bulk ≤ 100 by simp only [PyData.bulk]; omega) (by decide)
end V23
set_option Elab.async false
set_option linter.all false
set_option maxRecDepth 100000
set_option maxHeartbeats 1000000
set_option autoImplicit false
set_option exponentiation.threshold 20000
namespace V23
open PySem PySem.Spec PyProof.Rows L2 DL
local macro_rules | `(tactic| pv_short) => `(tactic| repeat first | refine Exists.intro _ (And.intro rfl ?_) | refine ifT rfl ?_ | refine ifF rfl ?_ | refine Exists.intro _ (And.intro (if_pos (by first | assumption | decide | exact ⟨by assumption, by decide⟩ | exact ⟨by assumption, by assumption⟩)) ?_) | refine And.intro (show List.length _ ≤ sizeLine from Nat.le_of_ble_eq_true rfl) ?_ | refine And.intro (Nat.le_of_ble_eq_true rfl) ?_)
def C_few : FSpec := Ct (fun ss => ∃ S : List Sp, ss = [.d (sps S)]) fun ss r ss' => ss' = ss ∧ ∃ S : List Sp, ss = [.d (sps S)] ∧ r = .d (sps (S.take 4))
theorem few_ok (ss : List Sl) (Ex : XP) (P : DL.R → List Sl → Prop) (h : C_few ss Ex P) : fnW 1 1 w_few ss Ex P := by
  obtain ⟨⟨S, rfl⟩, kk⟩ := h
  have kk := kk _ _ ⟨rfl, S, rfl, rfl⟩
  refine And.intro rfl ?_
  rw [w_few_eq]
  unfold t_few_1
  pv_short
  rw [show cutL (S.map qD) none (some 4) = (S.take 4).map qD by rw [cut_pre (by decide), List.map_take]; rfl]
  exact kk
theorem few_at {δ δ1 : SEnv} {S : List Sp} {wa : WE} {Ex : XP} {P : R → SEnv → Prop} (hm : ∀ Q : R → SEnv → Prop, Q (.d (sps S)) δ1 → wa Ex δ Q) (k : P (.d (sps (S.take 4))) δ1) : wCall 1 C_few [false] (wCons wa wNil) Ex δ P := by
  refine call_d hm ⟨S, rfl⟩ fun r ss' ⟨e1, S', e2, e4⟩ => ⟨e1, ?_⟩
  have := sps_inj (Sl.d.inj (List.cons.inj e2).1)
  subst this e4
  exact k
end V23
set_option Elab.async false
set_option linter.all false
set_option maxRecDepth 100000
set_option maxHeartbeats 1000000
set_option autoImplicit false
set_option exponentiation.threshold 20000
namespace V23
open PySem PySem.Spec PyProof.Rows L2 DL
local macro_rules | `(tactic| pv_short) => `(tactic| repeat first | refine Exists.intro _ (And.intro rfl ?_) | refine ifT rfl ?_ | refine ifF rfl ?_ | refine Exists.intro _ (And.intro (if_pos (by first | assumption | decide | exact ⟨by assumption, by decide⟩ | exact ⟨by assumption, by assumption⟩)) ?_) | refine And.intro (show List.length _ ≤ sizeLine from Nat.le_of_ble_eq_true rfl) ?_ | refine And.intro (Nat.le_of_ble_eq_true rfl) ?_)
abbrev lwE (s0 : Sl) (ds : List (Key × PyData)) (Y2 Y3 Y4 : PyData) (S : List Sp) (x6 x8 x9 x10 x11 : Option Sl) : SEnv := [some s0, some (.o false (.k ds)), some (.d Y2), some (.d Y3), some (.d Y4), some (.d (sps S)), x6, none, x8, x9, x10, x11]
abbrev cT (f : FSpec → FSpec → FSpec → FSpec → FSpec → FSpec → FSpec → WS) : WS := f C_lines C_fits C_tried C_say C_few C_scene C_source
theorem at_getD {r : List Int} {k : Nat} (h : k < r.length) : idxF (.d (mlD r)) (.d (.int (k : Int))) = some (.val (.int (r.getD k 0))) := by
  show (atI (r.map PyData.int) (k : Int)).map Rv.val = _
  rw [atI_nat (v := .int (r[k])) (by rw [List.getElem?_map, List.getElem?_eq_getElem h]; rfl), List.getD_eq_getElem?_getD, List.getElem?_eq_getElem h]; rfl
theorem min_of (l : List Int) (h : 0 < l.length) : minF2 [.d (.list (l.map .int))] = some (.val (.int (minL l))) := by
  show (numsD (l.map PyData.int)).bind _ = _
  rw [nums_ints]
  exact if_pos h
theorem tr_sh {S : List Sp} (w : SpW S) (L : List Tk) : SeqAt.shaped (.list ((trM S (begs S) L).map mlD)) = true := nd_shaped (show Nd 1000 2 (.list ((trM S (begs S) L).map mlD)) from nd_lst fun x m => by
  obtain ⟨r, mr, rfl⟩ := List.mem_map.mp m
  refine nd_tup fun y my => ?_
  obtain ⟨z, mz, rfl⟩ := List.mem_map.mp my
  exact nd_int ((trM_b w mr).1 z mz)) (by decide)
theorem eqv_tr0 (Ts : List (List Int)) : PyData.eqv (.list (Ts.map mlD)) (.list []) = decide (Ts = []) := by cases Ts <;> rfl
section
variable {e : DEnds} {s0 : Sl} {ds : List (Key × PyData)} {Y2 Y3 Y4 : PyData} {S : List Sp} {L : List Tk} {x6 x8 x9 x10 x11 : Option Sl}
theorem law_4 {p : List Int} {y : Int} {rest : List Int} {n : Int} (hn : n = (p.length : Int)) (w : SpW S) (ms : ∀ t ∈ L, t ∈ S.map (·.1)) (lS : S.length ≤ 4) (l4 : L.length ≤ 4) (h : mf S [] L = none) (e0 : moR S L = p ++ y :: rest) (hx : x9 = some (.o false (.l ((trM S (begs S) L).map mlD))) ∨ x9 = some (.d (.list ((trM S (begs S) L).map mlD))))
    (k : ∀ x9, (x9 = some (.o false (.l ((trM S (begs S) L).map mlD))) ∨ x9 = some (.d (.list ((trM S (begs S) L).map mlD)))) → e.nx (lwE s0 ds Y2 Y3 Y4 S x6 x8 x9 (some (.o false (.l ((p ++ [y]).map .int)))) (some (.d (.int n))))) :
    cT t_law_4 e (lwE s0 ds Y2 Y3 Y4 S x6 x8 x9 (some (.o false (.l (p.map .int)))) (some (.d (.int n)))) := by
  subst hn
  have ek : (moR S L)[p.length]? = some y := by rw [e0, List.getElem?_append_right (Nat.le_refl _), Nat.sub_self]; rfl
  have hk : p.length < L.length := by have := (List.getElem?_eq_some_iff.mp ek).1; rwa [moR_len] at this
  have lst := tr_least w ms h ek
  have lT := trM_len (S := S) (U := begs S)
  have ne : trM S (begs S) L ≠ [] := (tr_mf w ms).mpr h
  have lp : 0 < ((trM S (begs S) L).map fun r => r.getD p.length 0).length := by rw [List.length_map]; exact List.length_pos_iff.mpr ne
  have hz : (trM S (begs S) L).length ≤ 1000000 := by
    have := lT (Nat.le_trans begs_len lS) L
    have := Nat.le_trans (Nat.pow_le_pow_right (show 0 < 4 by decide) l4) (show 4 ^ 4 ≤ 256 by decide)
    omega
  have comp : ∀ (P : List PyData → SEnv → Prop), (∀ δ', forgetAll δ' [7] = lwE s0 ds Y2 Y3 Y4 S x6 x8 (some (.d (.list ((trM S (begs S) L).map mlD)))) (some (.o false (.l (p.map .int)))) (some (.d (.int (p.length : Int)))) → P (((trM S (begs S) L).map fun r => r.getD p.length 0).map .int) δ') →
      wLcR (gN 7) wYes (wOp idxF (wVar 7) (wVar 11)) [7] ((trM S (begs S) L).map mlD) [] (lwE s0 ds Y2 Y3 Y4 S x6 x8 (some (.d (.list ((trM S (begs S) L).map mlD)))) (some (.o false (.l (p.map .int)))) (some (.d (.int (p.length : Int))))) P := fun P hP => by
    refine lc_of (g := mlD) (xs := trM S (begs S) L) (δf := lwE s0 ds Y2 Y3 Y4 S x6 x8 (some (.d (.list ((trM S (begs S) L).map mlD)))) (some (.o false (.l (p.map .int)))) (some (.d (.int (p.length : Int))))) (fun _ => true) (fun r => .int (r.getD p.length 0)) rfl (by rw [sizeLine_eq, List.length_nil]; omega) (fun r m Q Q' g1 g2 => ?_) fun δ' h' => ?_
    · pv_short
      refine Exists.intro _ (And.intro (at_getD (by rw [(trM_b w m).2]; exact hk)) ?_)
      pv_short
      exact g1 rfl _ rfl
    · rw [List.nil_append, show (trM S (begs S) L).filter (fun _ => true) = trM S (begs S) L from List.filter_eq_self.mpr fun _ _ => rfl]
      have := hP δ' h'
      rwa [List.map_map] at this
  have fin : ∀ δ', forgetAll δ' [7] = lwE s0 ds Y2 Y3 Y4 S x6 x8 (some (.d (.list ((trM S (begs S) L).map mlD)))) (some (.o false (.l (p.map .int)))) (some (.d (.int (p.length : Int)))) → True := fun _ _ => trivial
  have kk := k _ (.inr rfl)
  rw [List.map_append] at kk
  unfold t_law_4
  rcases hx with rfl | rfl
  · pv_short
    refine comp _ fun δ' h' => ?_
    rw [h']
    pv_short
    refine Exists.intro _ (And.intro (min_of _ lp) ?_)
    rw [lst]
    pv_short
    refine And.intro (by rw [List.length_map, sizeLine_eq]; omega) ?_
    exact kk
  · pv_short
    refine comp _ fun δ' h' => ?_
    rw [h']
    pv_short
    refine Exists.intro _ (And.intro (min_of _ lp) ?_)
    rw [lst]
    pv_short
    refine And.intro (by rw [List.length_map, sizeLine_eq]; omega) ?_
    exact kk
theorem law_5 (w : SpW S) (ms : ∀ t ∈ L, t ∈ S.map (·.1)) (hb : ∀ t ∈ L, TkB t) (lS : S.length ≤ 4) (l4 : L.length ≤ 4) (h : mf S [] L = none) (hx : x9 = some (.o false (.l ((trM S (begs S) L).map mlD))) ∨ x9 = some (.d (.list ((trM S (begs S) L).map mlD))))
    (k : ∀ x9 x10 x11, e.nx (lwE s0 ds Y2 Y3 Y4 S (some (.d (lnD L))) (some (.d (moD S L))) x9 x10 x11)) :
    cT t_law_5 e (lwE s0 ds Y2 Y3 Y4 S (some (.d (lnD L))) (some (.d (moD S L))) x9 (some (.o false (.l []))) x11) := by
  have hm : ((L.map pI).length : Int) = (L.length : Int) := by rw [List.length_map]
  have rT := repr_ok (mo_show w ms hb l4 h)
  have zl : (zipD (L.map pI) ((moR S L).map .int)).length ≤ sizeLine := by
    rw [zip_mo, List.length_map, mo_len, sizeLine_eq]; omega
  unfold t_law_5
  pv_short
  refine And.intro ⟨(by show -(2 ^ 62) ≤ (0 : Int); decide), (by show (0 : Int) < 2 ^ 62; decide), (by show -(2 ^ 62) ≤ ((L.map pI).length : Int); omega), (by show ((L.map pI).length : Int) < 2 ^ 62; omega)⟩ ?_
  show wForR (gN 11) (cT t_law_4) ((List.range (((L.map pI).length : Int) - 0).toNat).map fun (i : Nat) => .int (0 + (i : Int))) _ _
  rw [hm, show ((L.length : Int) - 0).toNat = L.length by omega]
  refine for_of (g := fun i : Nat => .int (0 + (i : Int))) (xs := List.range L.length) (I := fun pre δ => ∃ x9 x11 rest, δ = lwE s0 ds Y2 Y3 Y4 S (some (.d (lnD L))) (some (.d (moD S L))) x9 (some (.o false (.l (((moR S L).take pre.length).map .int)))) x11 ∧ (x9 = some (.o false (.l ((trM S (begs S) L).map mlD))) ∨ x9 = some (.d (.list ((trM S (begs S) L).map mlD)))) ∧ moR S L = (moR S L).take pre.length ++ rest) (fun δ hI => ?_) (fun pre i post δ Q eS hI hQ => ?_) ⟨x9, x11, _, rfl, hx, rfl⟩
  · obtain ⟨x9, x11, rest, rfl, hx, _⟩ := hI
    have e1 : (moR S L).take (List.range L.length).length = moR S L := List.take_of_length_le (by rw [List.length_range, moR_len]; exact Nat.le_refl _)
    rw [e1]
    show cT t_law_3 e _
    unfold t_law_3
    pv_short
    refine Exists.intro _ (And.intro rT ?_)
    pv_short
    refine And.intro zl ?_
    rw [zip_mo]
    pv_short
    refine Exists.intro _ (And.intro rT ?_)
    pv_short
    refine Exists.intro _ (And.intro (ne_text _) ?_)
    pv_short
    exact k _ _ _
  · obtain ⟨x9, x11, rest, rfl, hx, e0⟩ := hI
    have lp : pre.length + 1 ≤ L.length := by
      have := congrArg List.length eS
      rw [List.length_range, List.length_append, List.length_cons] at this
      omega
    have ek : i = pre.length := by
      have : (List.range L.length)[pre.length]? = some i := by rw [eS, List.getElem?_append_right (Nat.le_refl _)]; simp
      rw [List.getElem?_range (by omega)] at this
      exact (Option.some.inj this).symm
    subst ek
    have lt : pre.length < (moR S L).length := by rw [moR_len]; omega
    have lk : ((moR S L).take pre.length).length = pre.length := by rw [List.length_take]; omega
    have e1 : moR S L = (moR S L).take pre.length ++ (moR S L)[pre.length] :: (moR S L).drop (pre.length + 1) := by
      conv => lhs; rw [← List.take_append_drop pre.length (moR S L)]
      rw [List.drop_eq_getElem_cons lt]
    have e2 : (moR S L).take (pre.length + 1) = (moR S L).take pre.length ++ [(moR S L)[pre.length]] := by rw [List.take_add_one, List.getElem?_eq_getElem lt]; rfl
    refine Exists.intro _ (And.intro rfl ?_)
    show cT t_law_4 _ (lwE s0 ds Y2 Y3 Y4 S (some (.d (lnD L))) (some (.d (moD S L))) x9 (some (.o false (.l (((moR S L).take pre.length).map .int)))) (some (.d (.int (0 + ((pre.length : Nat) : Int))))))
    refine law_4 (p := (moR S L).take pre.length) (by rw [lk]; omega) w ms lS l4 h e1 hx fun x9 hx => hQ _ ⟨x9, some (.d (.int (0 + ((pre.length : Nat) : Int)))), (moR S L).drop (pre.length + 1), by rw [List.length_append, List.length_singleton, e2], hx, by rw [List.length_append, List.length_singleton, List.take_append_drop]⟩
theorem law_9 (w : SpW S) (ms : ∀ t ∈ L, t ∈ S.map (·.1)) (hb : ∀ t ∈ L, TkB t) (lS : S.length ≤ 4) (l4 : L.length ≤ 4) (hx : x9 = some (.o false (.l ((trM S (begs S) L).map mlD))) ∨ x9 = some (.d (.list ((trM S (begs S) L).map mlD))))
    (k : ∀ x8 x9 x10 x11, e.nx (lwE s0 ds Y2 Y3 Y4 S (some (.d (lnD L))) x8 x9 x10 x11)) :
    cT t_law_9 e (lwE s0 ds Y2 Y3 Y4 S (some (.d (lnD L))) (some (.d (sayD S L))) x9 x10 x11) := by
  have eq1 : eqF (.d (.list ((trM S (begs S) L).map mlD))) (.d (.list [])) = some (.val (.bool (decide (trM S (begs S) L = [])))) := by
    rw [show eqF = eqG false from rfl, eq_shaped (neg := false) (tr_sh w L) (by decide +kernel), if_neg Bool.false_ne_true, eqv_tr0]
  have ne1 : neF (.d (.list ((trM S (begs S) L).map mlD))) (.d (.list [])) = some (.val (.bool (!decide (trM S (begs S) L = [])))) := by
    rw [show neF = eqG true from rfl, eq_shaped (neg := true) (tr_sh w L) (by decide +kernel), if_pos rfl, eqv_tr0]
  have tm := tr_mf w ms
  have tail : cT t_law_7 e (lwE s0 ds Y2 Y3 Y4 S (some (.d (lnD L))) (some (.d (sayD S L))) x9 x10 x11) := by
    unfold t_law_7
    cases hm : mf S [] L with
    | none =>
      rw [show sayD S L = moD S L by unfold sayD; rw [hm]; rfl]
      pv_short
      show cT t_law_6 e _
      unfold t_law_6
      pv_short
      exact law_5 w ms hb lS l4 hm hx fun x9 x10 x11 => k _ x9 x10 x11
    | some q =>
      rw [show sayD S L = .none by unfold sayD; rw [hm]; rfl]
      pv_short
      exact k _ _ _ _
  have body : ∀ b : Bool, decide (trM S (begs S) L = []) = b → (mf S [] L).isNone = !b → isNon (.d (sayD S L)) = b → cT t_law_9 e (lwE s0 ds Y2 Y3 Y4 S (some (.d (lnD L))) (some (.d (sayD S L))) x9 x10 x11) := fun b h1 h2 h3 => by
    rw [h1] at eq1 ne1
    have n1 : (!PyData.eqv (.bool b) (.bool b)) = false := by cases b <;> rfl
    have n2 : (!PyData.eqv (.bool (!b)) (.bool (!b))) = false := by cases b <;> rfl
    unfold t_law_9
    rcases hx with rfl | rfl
    · pv_short
      refine Exists.intro _ (And.intro eq1 ?_)
      pv_short
      show (if (!PyData.eqv (.bool (DL.isNon (.d (sayD S L)))) (.bool b)) = true then _ else _)
      rw [h3, n1, if_neg Bool.false_ne_true]
      pv_short
      refine Exists.intro _ (And.intro ne1 ?_)
      pv_short
      refine fits_at (S := S) (L := L) (fun Q h => by pv_short; exact h) (fun Q h => by pv_short; exact h) w.nd (by omega) (by omega) ms ?_
      rw [h2]
      pv_short
      show (if (!PyData.eqv (.bool (!b)) (.bool (!b))) = true then _ else _)
      rw [n2, if_neg Bool.false_ne_true]
      pv_short
      exact tail
    · pv_short
      refine Exists.intro _ (And.intro eq1 ?_)
      pv_short
      show (if (!PyData.eqv (.bool (DL.isNon (.d (sayD S L)))) (.bool b)) = true then _ else _)
      rw [h3, n1, if_neg Bool.false_ne_true]
      pv_short
      refine Exists.intro _ (And.intro ne1 ?_)
      pv_short
      refine fits_at (S := S) (L := L) (fun Q h => by pv_short; exact h) (fun Q h => by pv_short; exact h) w.nd (by omega) (by omega) ms ?_
      rw [h2]
      pv_short
      show (if (!PyData.eqv (.bool (!b)) (.bool (!b))) = true then _ else _)
      rw [n2, if_neg Bool.false_ne_true]
      pv_short
      exact tail
  cases hm : mf S [] L with
  | none =>
    refine body false (decide_eq_false (tm.mpr hm)) (by rw [hm]; rfl) ?_
    rw [show sayD S L = moD S L by unfold sayD; rw [hm]; rfl]
    rfl
  | some q =>
    refine body true (decide_eq_true (Classical.byContradiction fun z => by have := tm.mp z; rw [hm] at this; cases this)) (by rw [hm]; rfl) ?_
    rw [show sayD S L = .none by unfold sayD; rw [hm]; rfl]
    rfl
theorem law_10 (w : SpW S) (ms : ∀ t ∈ L, t ∈ S.map (·.1)) (hb : ∀ t ∈ L, TkB t) (lS : S.length ≤ 4) (l4 : L.length ≤ 4)
    (k : ∀ x8 x9 x10 x11, e.nx (lwE s0 ds Y2 Y3 Y4 S (some (.d (lnD L))) x8 x9 x10 x11)) :
    cT t_law_10 e (lwE s0 ds Y2 Y3 Y4 S (some (.d (lnD L))) x8 x9 x10 x11) := by
  unfold t_law_10
  show wCall 2 C_say [false, false] (wCons (wVar 5) (wCons (wVar 6) wNil)) _ _ _
  refine call_dd (d := sps S) (e := lnD L) (δ1 := lwE s0 ds Y2 Y3 Y4 S (some (.d (lnD L))) x8 x9 x10 x11) (δ2 := lwE s0 ds Y2 Y3 Y4 S (some (.d (lnD L))) x8 x9 x10 x11) (fun Q h => by pv_short; exact h) (fun Q h => by pv_short; exact h) ⟨S, L, rfl, w.nd, by omega, by omega, ms⟩ fun r ss' ⟨e1, S', L', e2, e4⟩ => ⟨e1, ?_⟩
  have e3 := sps_inj (Sl.d.inj (List.cons.inj e2).1)
  have e5 := lnD_inj (Sl.d.inj (List.cons.inj (List.cons.inj e2).2).1)
  subst e3 e5 e4
  refine Exists.intro _ (And.intro (show frzN _ (R.d (sayD S L)) = some (R.d (sayD S L), lwE s0 ds Y2 Y3 Y4 S (some (.d (lnD L))) x8 x9 x10 x11) from rfl) ?_)
  show wCall 2 C_tried [false, false] (wCons (wVar 5) (wCons (wVar 6) wNil)) _ (lwE s0 ds Y2 Y3 Y4 S (some (.d (lnD L))) x8 x9 x10 x11) _
  refine call_dd (d := sps S) (e := lnD L) (δ1 := lwE s0 ds Y2 Y3 Y4 S (some (.d (lnD L))) x8 x9 x10 x11) (δ2 := lwE s0 ds Y2 Y3 Y4 S (some (.d (lnD L))) x8 x9 x10 x11) (fun Q h => by pv_short; exact h) (fun Q h => by pv_short; exact h) ⟨S, L, rfl, w, lS, l4, ms⟩ fun r ss' ⟨e1, S', L', e2, e4⟩ => ⟨e1, ?_⟩
  have e3 := sps_inj (Sl.d.inj (List.cons.inj e2).1)
  have e5 := lnD_inj (Sl.d.inj (List.cons.inj (List.cons.inj e2).2).1)
  subst e3 e5
  rcases e4 with rfl | rfl
  · pv_short
    exact law_9 w ms hb lS l4 (.inr rfl) k
  · pv_short
    exact law_9 w ms hb lS l4 (.inl rfl) k
theorem law_11 (w : SpW S) (lS : S.length ≤ 4) (k : ∀ δ, δ[0]? = some (some s0) → e.rt (.d (.bool true)) δ) :
    cT t_law_11 e (lwE s0 ds Y2 Y3 Y4 S none none none none none) := by
  have hb : ∀ t ∈ S.map (·.1), TkB t := fun t m => by
    obtain ⟨s, ms, rfl⟩ := List.mem_map.mp m
    have := w.pos s ms
    unfold TkB; omega
  have go : ∀ Ls : List (List Tk), (∀ L ∈ Ls, L.Perm (S.map (·.1))) → wForR (gN 6) (cT t_law_10) (Ls.map lnD) { e with nx := fun δ => cT t_law_1 e δ } (lwE s0 ds Y2 Y3 Y4 S none none none none none) := fun Ls hp => by
    refine for_of (g := lnD) (xs := Ls) (I := fun pre δ => ∃ x6 x8 x9 x10 x11, δ = lwE s0 ds Y2 Y3 Y4 S x6 x8 x9 x10 x11) (fun δ hI => ?_) (fun pre L post δ Q eS hI hQ => ?_) ⟨_, _, _, _, _, rfl⟩
    · obtain ⟨x6, x8, x9, x10, x11, rfl⟩ := hI
      show cT t_law_1 e _
      unfold t_law_1
      pv_short
      exact k _ rfl
    · obtain ⟨x6, x8, x9, x10, x11, rfl⟩ := hI
      have mL : L ∈ Ls := by rw [eS]; simp
      have p := hp L mL
      refine Exists.intro _ (And.intro rfl ?_)
      show cT t_law_10 _ (lwE s0 ds Y2 Y3 Y4 S (some (.d (lnD L))) x8 x9 x10 x11)
      exact law_10 w (fun t m => p.mem_iff.mp m) (fun t m => hb t (p.mem_iff.mp m)) lS (by rw [p.length_eq, List.length_map]; exact lS) fun x8 x9 x10 x11 => hQ _ ⟨_, _, _, _, _, rfl⟩
  unfold t_law_11
  refine lines_at (L0 := S.map (·.1)) (ra := .n (.l ((S.map (·.1)).map pI))) (δ1 := lwE s0 ds Y2 Y3 Y4 S none none none none none) (fun Q h => ?_) rfl (by rw [List.length_map]; exact lS) hb fun Ls r hr hp hl => ?_
  · pv_short
    show wLcR (gN 7) wYes _ [7] (S.map qD) [] (lwE s0 ds Y2 Y3 Y4 S none none none none none) _
    refine lc_of (g := qD) (xs := S) (δf := lwE s0 ds Y2 Y3 Y4 S none none none none none) (fun _ => true) (fun s : Sp => pI s.1) rfl (by rw [sizeLine_eq, List.length_nil]; omega) (fun s m Q Q' g1 g2 => ?_) fun δ' h' => ?_
    · pv_short
      exact g1 rfl _ rfl
    · rw [List.nil_append, h', show S.filter (fun _ => true) = S from List.filter_eq_self.mpr fun _ _ => rfl]
      rw [List.map_map] at h
      exact h
  · rcases hr with rfl | rfl
    · pv_short
      exact go Ls hp
    · pv_short
      exact go Ls hp
theorem law_14 {ns : List Int} (hs : Scr ns s0) (k : ∀ δ, δ[0]? = some (some s0) → e.rt (.d (.bool true)) δ) :
    cT t_law_14 e [some s0, none, none, none, none, none, none, none, none, none, none, none] := by
  unfold t_law_14
  refine source_at rfl hs fun ds hT => ?_
  pv_short
  show cT t_law_13 e [some s0, some (.o false (.k ds)), none, none, none, none, none, none, none, none, none, none]
  unfold t_law_13
  refine scene_at (ds := ds) rfl hT (by decide) fun ds1 n1 s hT1 hn1 hs1 => ?_
  have hp := spL_prev hs1.rows
  have w := (sp_w hs1.rows.w hs1.hands).take hp 4
  obtain ⟨Y2, Y3, ey⟩ : ∃ Y2 Y3, scD s = .tuple [Y2, Y3, sps (spL s.X)] := ⟨_, _, by show PyData.tuple [_, _, .tuple (spS s.X)] = .tuple [_, _, .tuple ((spL s.X).map qD)]; rw [← spL_D]⟩
  rw [ey]
  pv_short
  show cT t_law_12 e [some s0, some (.o false (.k ds1)), some (.d Y2), some (.d Y3), some (.d (sps (spL s.X))), none, none, none, none, none, none, none]
  unfold t_law_12
  refine few_at (S := spL s.X) (δ1 := [some s0, some (.o false (.k ds1)), some (.d Y2), some (.d Y3), some (.d (sps (spL s.X))), none, none, none, none, none, none, none]) (fun Q h => by pv_short; exact h) ?_
  pv_short
  exact law_11 w (by rw [List.length_take]; omega) k
end
theorem law_ok (ns : List Int) (s : Sl) (hs : Scr ns s) : fnW 1 12 (cT w_law) [s] (fun _ => False) fun r _ => r = .d (.bool true) := by
  refine And.intro rfl ?_
  show cT w_law _ _
  rw [show cT w_law = cT t_law_14 from w_law_eq ..]
  refine law_14 hs fun δ h0 => ?_
  refine ⟨_, rfl, ?_⟩
  cases δ with
  | nil => cases h0
  | cons a δ =>
    cases h0
    rcases hs with rfl | rfl
    · exact ⟨_, rfl, rfl⟩
    · exact ⟨_, rfl, rfl⟩
end V23
set_option Elab.async false
set_option linter.all false
set_option maxRecDepth 100000
set_option maxHeartbeats 4000000
set_option autoImplicit false
namespace V23
open PySem PySem.Spec PyProof.Rows L2 DL
theorem law_df {g : Gx} {A_NoOrder : Addr} (g1 : Got g "spans_by_task" s_spans_by_task) (g2 : Got g "first_misfit" s_first_misfit) (g3 : Got g "moments_by" s_moments_by) (g4 : Got g "_law_source" s_source) (g5 : Got g "_law_pick" s_pick) (g6 : Got g "_law_tree" s_tree) (g7 : Got g "_law_ways" s_ways) (g8 : Got g "_law_way" s_way) (g9 : Got g "_law_deed" s_deed) (g10 : Got g "_law_hands" s_hands) (g11 : Got g "_law_spans" s_spans) (g12 : Got g "_law_scene" s_scene) (g13 : Got g "_law_lines" s_lines) (g14 : Got g "_law_fits" s_fits) (g15 : Got g "_law_few" s_few) (g16 : Got g "_law_tried" s_tried) (g17 : Got g "_law_said" s_said)
    (m_enumerate : g.mg "enumerate" = none) (m_tuple : g.mg "tuple" = none) (m_max : g.mg "max" = none) (m_list : g.mg "list" = none) (m_len : g.mg "len" = none) (m_sorted : g.mg "sorted" = none) (m_range : g.mg "range" = none) (m_int : g.mg "int" = none) (m_dict : g.mg "dict" = none) (m_set : g.mg "set" = none) (m_repr : g.mg "repr" = none) (m_zip : g.mg "zip" = none) (m_min : g.mg "min" = none)
    (R_NoOrder : RfC1 g A_NoOrder "paper") (mg_NoOrder : g.mg "NoOrder" = some (.ref A_NoOrder)) (em_NoOrder_NoOrder : PySem.W.exmOne g.K (.ref A_NoOrder) (.ref A_NoOrder) = some true) {f : Addr} {fd : FuncData} (F : Fun g.K "law" "law" s_law f fd) :
    FnG g CX0 14 f fd ["_law_script"] (DL.spOf g.K 1 (fnW 1 12 (cT w_law))) := by
  have h_spans_by_task := cal_spans_by_task (k := 0)   (W := C_sbt)  g1 sbt_ok
  have h_first_misfit := cal_first_misfit (k := 1)   (W := C_fm) ct_mono (h_spans_by_task.mono (by first | decide | omega)) m_enumerate g2 fm_ok
  have h_moments_by := cal_moments_by (k := 2)  (A_NoOrder := A_NoOrder) (W := (C_mom A_NoOrder)) ct_mono (h_spans_by_task.mono (by first | decide | omega)) ct_mono (h_first_misfit.mono (by first | decide | omega)) m_tuple m_max R_NoOrder mg_NoOrder (by decide) g3 (moments_ok A_NoOrder)
  have h_source := cal_source (k := 0)   (W := C_source) m_list g4 source_ok
  have h_pick := cal_pick (k := 0)   (W := C_pick) m_len g5 pick_ok
  have h_tree := cal_tree (k := 1)   (W := C_tree) ct_mono (h_pick.mono (by first | decide | omega)) m_tuple m_sorted m_len m_range m_int g6 tree_ok
  have h_ways := cal_ways (k := 0)   (W := C_ways) m_len m_dict g7 ways_ok
  have h_way := cal_way (k := 1)   (W := C_way) ct_mono (h_pick.mono (by first | decide | omega)) m_len g8 way_ok
  have h_deed := cal_deed (k := 2)   (W := C_deed) ct_mono (h_way.mono (by first | decide | omega)) ct_mono (h_pick.mono (by first | decide | omega)) g9 deed_ok
  have h_hands := cal_hands (k := 3)   (W := C_hands) ct_mono (h_pick.mono (by first | decide | omega)) ct_mono (h_deed.mono (by first | decide | omega)) ct_mono (h_ways.mono (by first | decide | omega)) m_tuple m_range m_len g10 hands_ok
  have h_spans := cal_spans (k := 1)   (W := C_spans) ct_mono (h_pick.mono (by first | decide | omega)) m_tuple m_enumerate m_range m_len g11 spans_ok
  have h_scene := cal_scene (k := 4)   (W := C_scene) ct_mono (h_spans.mono (by first | decide | omega)) ct_mono (h_hands.mono (by first | decide | omega)) ct_mono (h_tree.mono (by first | decide | omega)) ct_mono (h_pick.mono (by first | decide | omega)) g12 scene_ok
  have h_lines := cal_lines (k := 0)   (W := C_lines) m_len m_range g13 lines_ok
  have h_fits := cal_fits (k := 0)   (W := C_fits) m_len m_range m_dict g14 fits_ok
  have h_few := cal_few (k := 0)   (W := C_few)  g15 few_ok
  have h_tried := cal_tried (k := 0)   (W := C_tried) m_sorted m_set m_dict g16 tried_ok
  have h_said := cal_said (k := 3)  (A_NoOrder := A_NoOrder) (CC_NoOrder := A_NoOrder) (W := C_say) ctx_mono (h_moments_by.mono (by first | decide | omega)) mg_NoOrder em_NoOrder_NoOrder g17 (said_ok A_NoOrder)
  exact df_law (k := 13) ct_mono (h_lines.mono (by first | decide | omega)) ct_mono (h_fits.mono (by first | decide | omega)) ct_mono (h_tried.mono (by first | decide | omega)) ct_mono (h_said.calm.mono (by first | decide | omega)) ct_mono (h_few.mono (by first | decide | omega)) ct_mono (h_scene.mono (by first | decide | omega)) ct_mono (h_source.mono (by first | decide | omega)) m_repr m_list m_zip m_tuple m_len m_range m_min F
end V23
set_option Elab.async false
set_option linter.all false
set_option maxRecDepth 100000
set_option maxHeartbeats 4000000
set_option autoImplicit false
namespace V23
open PySem PySem.Spec PyProof.Rows L2 DL
abbrev s_initNoOrder : Stmt := match top 3 with | .ClassDef _ _ _ b _ _ _ _ _ _ _ => b.getD 0 (.Pass ⟨0, 0, 0, 0⟩) | s => s
theorem all_mk {l : PySem.W.OpenLaw} {w : World} {K : PySem.W.Frag} {h : Heap} {mg : Str → Option Value} {fa : Addr} (X : K.In h) (G : h.Ns mainGlobals mg) (hfa : mg "law" = some (.ref fa))
    {f1 : Addr} {od1 an1 : Option Addr} {sl1 : Array (Option Value)} {oc1 kV1 dc1 pm1 cd1 ct1 : Value} (a1 : PySem.W.nsIn K mainGlobals "spans_by_task" = some (some (.ref f1)))
    (l1 : K.lookup f1 = some ⟨oc1, od1, .func (PySem.W.fnOf "spans_by_task" "spans_by_task" (defArgs s_spans_by_task) (defBody s_spans_by_task) (defScope s_spans_by_task) .none kV1 dc1 pm1 an1 cd1 ct1), sl1⟩) (c1 : PySem.W.codeIn K cd1 "spans_by_task" = true) (k1 : PySem.W.keepIn K (.ref f1) = true)
    {f2 : Addr} {od2 an2 : Option Addr} {sl2 : Array (Option Value)} {oc2 kV2 dc2 pm2 cd2 ct2 : Value} (a2 : PySem.W.nsIn K mainGlobals "first_misfit" = some (some (.ref f2)))
    (l2 : K.lookup f2 = some ⟨oc2, od2, .func (PySem.W.fnOf "first_misfit" "first_misfit" (defArgs s_first_misfit) (defBody s_first_misfit) (defScope s_first_misfit) .none kV2 dc2 pm2 an2 cd2 ct2), sl2⟩) (c2 : PySem.W.codeIn K cd2 "first_misfit" = true) (k2 : PySem.W.keepIn K (.ref f2) = true)
    {f3 : Addr} {od3 an3 : Option Addr} {sl3 : Array (Option Value)} {oc3 kV3 dc3 pm3 cd3 ct3 : Value} (a3 : PySem.W.nsIn K mainGlobals "moments_by" = some (some (.ref f3)))
    (l3 : K.lookup f3 = some ⟨oc3, od3, .func (PySem.W.fnOf "moments_by" "moments_by" (defArgs s_moments_by) (defBody s_moments_by) (defScope s_moments_by) .none kV3 dc3 pm3 an3 cd3 ct3), sl3⟩) (c3 : PySem.W.codeIn K cd3 "moments_by" = true) (k3 : PySem.W.keepIn K (.ref f3) = true)
    {f4 : Addr} {od4 an4 : Option Addr} {sl4 : Array (Option Value)} {oc4 kV4 dc4 pm4 cd4 ct4 : Value} (a4 : PySem.W.nsIn K mainGlobals "_law_source" = some (some (.ref f4)))
    (l4 : K.lookup f4 = some ⟨oc4, od4, .func (PySem.W.fnOf "_law_source" "_law_source" (defArgs s_source) (defBody s_source) (defScope s_source) .none kV4 dc4 pm4 an4 cd4 ct4), sl4⟩) (c4 : PySem.W.codeIn K cd4 "_law_source" = true) (k4 : PySem.W.keepIn K (.ref f4) = true)
    {f5 : Addr} {od5 an5 : Option Addr} {sl5 : Array (Option Value)} {oc5 kV5 dc5 pm5 cd5 ct5 : Value} (a5 : PySem.W.nsIn K mainGlobals "_law_pick" = some (some (.ref f5)))
    (l5 : K.lookup f5 = some ⟨oc5, od5, .func (PySem.W.fnOf "_law_pick" "_law_pick" (defArgs s_pick) (defBody s_pick) (defScope s_pick) .none kV5 dc5 pm5 an5 cd5 ct5), sl5⟩) (c5 : PySem.W.codeIn K cd5 "_law_pick" = true) (k5 : PySem.W.keepIn K (.ref f5) = true)
    {f6 : Addr} {od6 an6 : Option Addr} {sl6 : Array (Option Value)} {oc6 kV6 dc6 pm6 cd6 ct6 : Value} (a6 : PySem.W.nsIn K mainGlobals "_law_tree" = some (some (.ref f6)))
    (l6 : K.lookup f6 = some ⟨oc6, od6, .func (PySem.W.fnOf "_law_tree" "_law_tree" (defArgs s_tree) (defBody s_tree) (defScope s_tree) .none kV6 dc6 pm6 an6 cd6 ct6), sl6⟩) (c6 : PySem.W.codeIn K cd6 "_law_tree" = true) (k6 : PySem.W.keepIn K (.ref f6) = true)
    {f7 : Addr} {od7 an7 : Option Addr} {sl7 : Array (Option Value)} {oc7 kV7 dc7 pm7 cd7 ct7 : Value} (a7 : PySem.W.nsIn K mainGlobals "_law_ways" = some (some (.ref f7)))
    (l7 : K.lookup f7 = some ⟨oc7, od7, .func (PySem.W.fnOf "_law_ways" "_law_ways" (defArgs s_ways) (defBody s_ways) (defScope s_ways) .none kV7 dc7 pm7 an7 cd7 ct7), sl7⟩) (c7 : PySem.W.codeIn K cd7 "_law_ways" = true) (k7 : PySem.W.keepIn K (.ref f7) = true)
    {f8 : Addr} {od8 an8 : Option Addr} {sl8 : Array (Option Value)} {oc8 kV8 dc8 pm8 cd8 ct8 : Value} (a8 : PySem.W.nsIn K mainGlobals "_law_way" = some (some (.ref f8)))
    (l8 : K.lookup f8 = some ⟨oc8, od8, .func (PySem.W.fnOf "_law_way" "_law_way" (defArgs s_way) (defBody s_way) (defScope s_way) .none kV8 dc8 pm8 an8 cd8 ct8), sl8⟩) (c8 : PySem.W.codeIn K cd8 "_law_way" = true) (k8 : PySem.W.keepIn K (.ref f8) = true)
    {f9 : Addr} {od9 an9 : Option Addr} {sl9 : Array (Option Value)} {oc9 kV9 dc9 pm9 cd9 ct9 : Value} (a9 : PySem.W.nsIn K mainGlobals "_law_deed" = some (some (.ref f9)))
    (l9 : K.lookup f9 = some ⟨oc9, od9, .func (PySem.W.fnOf "_law_deed" "_law_deed" (defArgs s_deed) (defBody s_deed) (defScope s_deed) .none kV9 dc9 pm9 an9 cd9 ct9), sl9⟩) (c9 : PySem.W.codeIn K cd9 "_law_deed" = true) (k9 : PySem.W.keepIn K (.ref f9) = true)
    {f10 : Addr} {od10 an10 : Option Addr} {sl10 : Array (Option Value)} {oc10 kV10 dc10 pm10 cd10 ct10 : Value} (a10 : PySem.W.nsIn K mainGlobals "_law_hands" = some (some (.ref f10)))
    (l10 : K.lookup f10 = some ⟨oc10, od10, .func (PySem.W.fnOf "_law_hands" "_law_hands" (defArgs s_hands) (defBody s_hands) (defScope s_hands) .none kV10 dc10 pm10 an10 cd10 ct10), sl10⟩) (c10 : PySem.W.codeIn K cd10 "_law_hands" = true) (k10 : PySem.W.keepIn K (.ref f10) = true)
    {f11 : Addr} {od11 an11 : Option Addr} {sl11 : Array (Option Value)} {oc11 kV11 dc11 pm11 cd11 ct11 : Value} (a11 : PySem.W.nsIn K mainGlobals "_law_spans" = some (some (.ref f11)))
    (l11 : K.lookup f11 = some ⟨oc11, od11, .func (PySem.W.fnOf "_law_spans" "_law_spans" (defArgs s_spans) (defBody s_spans) (defScope s_spans) .none kV11 dc11 pm11 an11 cd11 ct11), sl11⟩) (c11 : PySem.W.codeIn K cd11 "_law_spans" = true) (k11 : PySem.W.keepIn K (.ref f11) = true)
    {f12 : Addr} {od12 an12 : Option Addr} {sl12 : Array (Option Value)} {oc12 kV12 dc12 pm12 cd12 ct12 : Value} (a12 : PySem.W.nsIn K mainGlobals "_law_scene" = some (some (.ref f12)))
    (l12 : K.lookup f12 = some ⟨oc12, od12, .func (PySem.W.fnOf "_law_scene" "_law_scene" (defArgs s_scene) (defBody s_scene) (defScope s_scene) .none kV12 dc12 pm12 an12 cd12 ct12), sl12⟩) (c12 : PySem.W.codeIn K cd12 "_law_scene" = true) (k12 : PySem.W.keepIn K (.ref f12) = true)
    {f13 : Addr} {od13 an13 : Option Addr} {sl13 : Array (Option Value)} {oc13 kV13 dc13 pm13 cd13 ct13 : Value} (a13 : PySem.W.nsIn K mainGlobals "_law_lines" = some (some (.ref f13)))
    (l13 : K.lookup f13 = some ⟨oc13, od13, .func (PySem.W.fnOf "_law_lines" "_law_lines" (defArgs s_lines) (defBody s_lines) (defScope s_lines) .none kV13 dc13 pm13 an13 cd13 ct13), sl13⟩) (c13 : PySem.W.codeIn K cd13 "_law_lines" = true) (k13 : PySem.W.keepIn K (.ref f13) = true)
    {f14 : Addr} {od14 an14 : Option Addr} {sl14 : Array (Option Value)} {oc14 kV14 dc14 pm14 cd14 ct14 : Value} (a14 : PySem.W.nsIn K mainGlobals "_law_fits" = some (some (.ref f14)))
    (l14 : K.lookup f14 = some ⟨oc14, od14, .func (PySem.W.fnOf "_law_fits" "_law_fits" (defArgs s_fits) (defBody s_fits) (defScope s_fits) .none kV14 dc14 pm14 an14 cd14 ct14), sl14⟩) (c14 : PySem.W.codeIn K cd14 "_law_fits" = true) (k14 : PySem.W.keepIn K (.ref f14) = true)
    {f15 : Addr} {od15 an15 : Option Addr} {sl15 : Array (Option Value)} {oc15 kV15 dc15 pm15 cd15 ct15 : Value} (a15 : PySem.W.nsIn K mainGlobals "_law_few" = some (some (.ref f15)))
    (l15 : K.lookup f15 = some ⟨oc15, od15, .func (PySem.W.fnOf "_law_few" "_law_few" (defArgs s_few) (defBody s_few) (defScope s_few) .none kV15 dc15 pm15 an15 cd15 ct15), sl15⟩) (c15 : PySem.W.codeIn K cd15 "_law_few" = true) (k15 : PySem.W.keepIn K (.ref f15) = true)
    {f16 : Addr} {od16 an16 : Option Addr} {sl16 : Array (Option Value)} {oc16 kV16 dc16 pm16 cd16 ct16 : Value} (a16 : PySem.W.nsIn K mainGlobals "_law_tried" = some (some (.ref f16)))
    (l16 : K.lookup f16 = some ⟨oc16, od16, .func (PySem.W.fnOf "_law_tried" "_law_tried" (defArgs s_tried) (defBody s_tried) (defScope s_tried) .none kV16 dc16 pm16 an16 cd16 ct16), sl16⟩) (c16 : PySem.W.codeIn K cd16 "_law_tried" = true) (k16 : PySem.W.keepIn K (.ref f16) = true)
    {f17 : Addr} {od17 an17 : Option Addr} {sl17 : Array (Option Value)} {oc17 kV17 dc17 pm17 cd17 ct17 : Value} (a17 : PySem.W.nsIn K mainGlobals "_law_said" = some (some (.ref f17)))
    (l17 : K.lookup f17 = some ⟨oc17, od17, .func (PySem.W.fnOf "_law_said" "_law_said" (defArgs s_said) (defBody s_said) (defScope s_said) .none kV17 dc17 pm17 an17 cd17 ct17), sl17⟩) (c17 : PySem.W.codeIn K cd17 "_law_said" = true) (k17 : PySem.W.keepIn K (.ref f17) = true)
    {f18 : Addr} {od18 an18 : Option Addr} {sl18 : Array (Option Value)} {oc18 kV18 dc18 pm18 cd18 ct18 : Value} (a18 : PySem.W.nsIn K mainGlobals "law" = some (some (.ref f18)))
    (l18 : K.lookup f18 = some ⟨oc18, od18, .func (PySem.W.fnOf "law" "law" (defArgs s_law) (defBody s_law) (defScope s_law) .none kV18 dc18 pm18 an18 cd18 ct18), sl18⟩) (c18 : PySem.W.codeIn K cd18 "law" = true) (k18 : PySem.W.keepIn K (.ref f18) = true)
    (z1 : PySem.W.nsIn K mainGlobals "enumerate" = some none) (z2 : PySem.W.nsIn K mainGlobals "tuple" = some none) (z3 : PySem.W.nsIn K mainGlobals "max" = some none) (z4 : PySem.W.nsIn K mainGlobals "list" = some none) (z5 : PySem.W.nsIn K mainGlobals "len" = some none) (z6 : PySem.W.nsIn K mainGlobals "sorted" = some none) (z7 : PySem.W.nsIn K mainGlobals "range" = some none) (z8 : PySem.W.nsIn K mainGlobals "int" = some none) (z9 : PySem.W.nsIn K mainGlobals "dict" = some none) (z10 : PySem.W.nsIn K mainGlobals "set" = some none) (z11 : PySem.W.nsIn K mainGlobals "repr" = some none) (z12 : PySem.W.nsIn K mainGlobals "zip" = some none) (z13 : PySem.W.nsIn K mainGlobals "min" = some none)
    {CNoOrder : Addr}
    (aNoOrder : PySem.W.nsIn K mainGlobals "NoOrder" = some (some (.ref CNoOrder))) (iNoOrder : PySem.W.isClsIn K CNoOrder = true) (tNoOrder : PySem.W.typeIn K (.ref CNoOrder) = some (.type "type"))
    (sNoOrder_NoOrder : PySem.W.subIn K (.ref CNoOrder) (.ref CNoOrder) = some true)
    (bNoOrder : PySem.W.subIn K (.ref CNoOrder) (.type "BaseException") = some true)
    (gaNoOrder : PySem.W.findIn K (.ref CNoOrder) "__getattribute__" = some (some (.builtin "BaseException.__getattribute__"))) (ggNoOrder : PySem.W.findIn K (.ref CNoOrder) "__getattr__" = some none) (saNoOrder : PySem.W.findIn K (.ref CNoOrder) "__setattr__" = some (some (.builtin "object.__setattr__")))
    (eNoOrder : PySem.W.subIn K (.ref CNoOrder) (.type "BaseException") = some true) (hNoOrder : PySem.W.hasDictIn K CNoOrder = true) (kCNoOrder : PySem.W.keepIn K (.ref CNoOrder) = true)
    (cNoOrder : PySem.W.findIn K (.ref CNoOrder) "__class__" = some (some (.builtin "object.__class__"))) (mNoOrder : PySem.W.mroIn K CNoOrder (.type "object") = some true)
    (nNoOrder_paper : PySem.W.findIn K (.ref CNoOrder) "paper" = some none)
    {nmNoOrder qNoOrder : Str} {NNoOrder : Addr} {bsNoOrder bmNoOrder : List Value} {snNoOrder : List Str} {subNoOrder : List Value} {abNoOrder : Bool} {colNoOrder : Option Bool} {ddNoOrder : Option Addr} {m0NoOrder m1NoOrder m2NoOrder m3NoOrder m5NoOrder : Option Value}
    (xNoOrder : K.lookup CNoOrder = some (excClassObj nmNoOrder qNoOrder CNoOrder NNoOrder bsNoOrder bmNoOrder true snNoOrder subNoOrder abNoOrder colNoOrder ddNoOrder m0NoOrder m1NoOrder m2NoOrder m3NoOrder m5NoOrder "ValueError.__new__")) (rVNoOrder : PySem.HandSPX.refsVE bmNoOrder = true)
    {fINoOrder : Addr} {odINoOrder anINoOrder : Option Addr} {slINoOrder : Array (Option Value)} {ocINoOrder kVINoOrder dcINoOrder pmINoOrder cdINoOrder ctINoOrder : Value} (aINoOrder : PySem.W.findIn K (.ref CNoOrder) "__init__" = some (some (.ref fINoOrder))) (tINoOrder : PySem.W.typeIn K (.ref fINoOrder) = some (.type "function"))
    (lINoOrder : K.lookup fINoOrder = some ⟨ocINoOrder, odINoOrder, .func (PySem.W.fnOf "__init__" "NoOrder.__init__" (defArgs s_initNoOrder) (defBody s_initNoOrder) (defScope s_initNoOrder) .none kVINoOrder dcINoOrder pmINoOrder anINoOrder cdINoOrder ctINoOrder), slINoOrder⟩) (cINoOrder : PySem.W.codeIn K cdINoOrder "NoOrder.__init__" = true) (kINoOrder : PySem.W.keepIn K (.ref fINoOrder) = true)
    (pN : PySem.W.specialIn K (.builtin "object.__class__") "__get__" = some (some (.builtin "getset_descriptor.__get__"))) (kN : PySem.W.takesIn K (.builtin "object.__class__") = some true) :
    ∃ fd : FuncData, (∀ (s : Shared) (u : Value), BindsTo s fd ⟨[u], []⟩ [("_law_script", u)]) ∧ ∀ base : Heap, K.In base → base.Ns mainGlobals mg → FnG ⟨l.prog, w, K, mg, base⟩ CX0 14 fa fd ["_law_script"] (DL.spOf K 1 (fnW 1 12 (cT w_law))) := by
  have e := hfa.symm.trans (PySem.W.mg_of X G a18)
  cases e
  have F := fun_mk (st := s_law) l18 c18 k18
  have FINoOrder := fun_mk (st := s_initNoOrder) lINoOrder cINoOrder kINoOrder
  have oxNoOrder : OexC K CNoOrder := ⟨⟨nmNoOrder, qNoOrder, NNoOrder, bsNoOrder, bmNoOrder, snNoOrder, subNoOrder, abNoOrder, colNoOrder, ddNoOrder, m0NoOrder, m1NoOrder, m2NoOrder, m3NoOrder, m5NoOrder, xNoOrder, rVNoOrder⟩, saNoOrder, eNoOrder, tNoOrder, kCNoOrder⟩
  refine ⟨_, fun s v => .of_eq rfl, fun base _ _ => law_df (got_mk X G a1 l1 c1 k1) (got_mk X G a2 l2 c2 k2) (got_mk X G a3 l3 c3 k3) (got_mk X G a4 l4 c4 k4) (got_mk X G a5 l5 c5 k5) (got_mk X G a6 l6 c6 k6) (got_mk X G a7 l7 c7 k7) (got_mk X G a8 l8 c8 k8) (got_mk X G a9 l9 c9 k9) (got_mk X G a10 l10 c10 k10) (got_mk X G a11 l11 c11 k11) (got_mk X G a12 l12 c12 k12) (got_mk X G a13 l13 c13 k13) (got_mk X G a14 l14 c14 k14) (got_mk X G a15 l15 c15 k15) (got_mk X G a16 l16 c16 k16) (got_mk X G a17 l17 c17 k17) (PySem.W.mg_none_of X G z1) (PySem.W.mg_none_of X G z2) (PySem.W.mg_none_of X G z3) (PySem.W.mg_none_of X G z4) (PySem.W.mg_none_of X G z5) (PySem.W.mg_none_of X G z6) (PySem.W.mg_none_of X G z7) (PySem.W.mg_none_of X G z8) (PySem.W.mg_none_of X G z9) (PySem.W.mg_none_of X G z10) (PySem.W.mg_none_of X G z11) (PySem.W.mg_none_of X G z12) (PySem.W.mg_none_of X G z13) (rfC1_mk (p1 := "paper") oxNoOrder nNoOrder_paper aINoOrder tINoOrder FINoOrder ⟨rfl, rfl, rfl, by decide +kernel, rfl, by decide +kernel, by decide +kernel⟩ rfl (FINoOrder.binds (ps := ["self", "paper"]) fun _ _ _ _ _ _ us hl => match us, hl with | [_, _], _ => rfl) (by decide) (by decide)) (PySem.W.mg_of X G aNoOrder) (exmOne_of bNoOrder iNoOrder tNoOrder sNoOrder_NoOrder) F⟩
theorem walk {l : PySem.W.OpenLaw} {q : Program} {loose : List Str} {XP : (Str → Option Value) → Heap → Prop} {YP : World → Heap → Prop} {d : DefRec} {K : Params → PySem.W.Frag} (hn : l.most = some 63) (hdf : d.params.defaults = [])
    (hY : ∀ (w : World) (h : Heap), YP w h → (K w.params).In h)
    (F : ∀ (w : World) (mg : Str → Option Value) (fa : Addr) (h : Heap), (K w.params).In h → h.Ns mainGlobals mg → mg d.name = some (.ref fa) →
      ∃ fd : FuncData, (∀ (s : Shared) (u : Value), BindsTo s fd ⟨[u], []⟩ [("_law_script", u)]) ∧ ∀ base : Heap, (K w.params).In base → base.Ns mainGlobals mg → FnG ⟨l.prog, w, K w.params, mg, base⟩ CX0 14 fa fd ["_law_script"] (DL.spOf (K w.params) 1 (fnW 1 12 (cT w_law)))) :
    PySem.W.WalkO q loose XP YP l.row.toRowW d [] (fun f vs => PySem.call f vs) :=
  law_walk (n := 63) (k := 14) (x := "_law_script") (CX := CX0) hn (by decide) hdf ⟨rfl, by decide, by decide⟩ cx0_ok hY F fun ns s _ hs => law_ok ns s hs
end V23
open PySem PySem.W PyProof.Rows
set_option maxRecDepth 100000 in
set_option maxHeartbeats 0 in
theorem PySem.Challenge.cw_drawerways_k23_whole_moments_or_none_holds : PySem.Challenge.rw_drawerways_k23_whole_moments_or_none.Holds := by
  w_on; o_law; k_head; (case hw => w_witness2)
  k_fill
  refine V23.walk (l := PySem.Challenge.rw_drawerways_k23_whole_moments_or_none) rfl rfl (fun w h Y => PySem.W.kIn_of Y) ?F
  case F =>
    intro w mg fa h KX G hmg
    refine' V23.all_mk KX G hmg ?a1 ?l1 ?c1 ?k1 ?a2 ?l2 ?c2 ?k2 ?a3 ?l3 ?c3 ?k3 ?a4 ?l4 ?c4 ?k4 ?a5 ?l5 ?c5 ?k5 ?a6 ?l6 ?c6 ?k6 ?a7 ?l7 ?c7 ?k7 ?a8 ?l8 ?c8 ?k8 ?a9 ?l9 ?c9 ?k9 ?a10 ?l10 ?c10 ?k10 ?a11 ?l11 ?c11 ?k11 ?a12 ?l12 ?c12 ?k12 ?a13 ?l13 ?c13 ?k13 ?a14 ?l14 ?c14 ?k14 ?a15 ?l15 ?c15 ?k15 ?a16 ?l16 ?c16 ?k16 ?a17 ?l17 ?c17 ?k17 ?a18 ?l18 ?c18 ?k18 ?z1 ?z2 ?z3 ?z4 ?z5 ?z6 ?z7 ?z8 ?z9 ?z10 ?z11 ?z12 ?z13 ?aNoOrder ?iNoOrder ?tNoOrder ?sNoOrder_NoOrder ?bNoOrder ?gaNoOrder ?ggNoOrder ?saNoOrder ?eNoOrder ?hNoOrder ?kCNoOrder ?cNoOrder ?mNoOrder ?nNoOrder_paper ?xNoOrder ?rVNoOrder ?aINoOrder ?tINoOrder ?lINoOrder ?cINoOrder ?kINoOrder ?pN ?kN
    (case a1 => k_is); (case l1 => k_is); (case c1 => k_is); (case k1 => k_is)
    (case a2 => k_is); (case l2 => k_is); (case c2 => k_is); (case k2 => k_is)
    (case a3 => k_is); (case l3 => k_is); (case c3 => k_is); (case k3 => k_is)
    (case a4 => k_is); (case l4 => k_is); (case c4 => k_is); (case k4 => k_is)
    (case a5 => k_is); (case l5 => k_is); (case c5 => k_is); (case k5 => k_is)
    (case a6 => k_is); (case l6 => k_is); (case c6 => k_is); (case k6 => k_is)
    (case a7 => k_is); (case l7 => k_is); (case c7 => k_is); (case k7 => k_is)
    (case a8 => k_is); (case l8 => k_is); (case c8 => k_is); (case k8 => k_is)
    (case a9 => k_is); (case l9 => k_is); (case c9 => k_is); (case k9 => k_is)
    (case a10 => k_is); (case l10 => k_is); (case c10 => k_is); (case k10 => k_is)
    (case a11 => k_is); (case l11 => k_is); (case c11 => k_is); (case k11 => k_is)
    (case a12 => k_is); (case l12 => k_is); (case c12 => k_is); (case k12 => k_is)
    (case a13 => k_is); (case l13 => k_is); (case c13 => k_is); (case k13 => k_is)
    (case a14 => k_is); (case l14 => k_is); (case c14 => k_is); (case k14 => k_is)
    (case a15 => k_is); (case l15 => k_is); (case c15 => k_is); (case k15 => k_is)
    (case a16 => k_is); (case l16 => k_is); (case c16 => k_is); (case k16 => k_is)
    (case a17 => k_is); (case l17 => k_is); (case c17 => k_is); (case k17 => k_is)
    (case a18 => k_is); (case l18 => k_is); (case c18 => k_is); (case k18 => k_is)
    (case z1 => k_is)
    (case z2 => k_is)
    (case z3 => k_is)
    (case z4 => k_is)
    (case z5 => k_is)
    (case z6 => k_is)
    (case z7 => k_is)
    (case z8 => k_is)
    (case z9 => k_is)
    (case z10 => k_is)
    (case z11 => k_is)
    (case z12 => k_is)
    (case z13 => k_is)
    (case aNoOrder => k_is)
    (case iNoOrder => k_is)
    (case tNoOrder => k_is)
    (case sNoOrder_NoOrder => first | rfl | k_is)
    (case bNoOrder => k_is)
    (case gaNoOrder => k_is)
    (case ggNoOrder => k_is)
    (case saNoOrder => k_is)
    (case eNoOrder => k_is)
    (case hNoOrder => k_is)
    (case kCNoOrder => k_is)
    (case cNoOrder => k_is)
    (case mNoOrder => k_is)
    (case nNoOrder_paper => k_is)
    (case xNoOrder => k_is)
    (case rVNoOrder => decide +kernel)
    (case aINoOrder => k_is)
    (case tINoOrder => k_is)
    (case lINoOrder => k_is)
    (case cINoOrder => k_is)
    (case kINoOrder => k_is)
    (case pN => k_is)
    (case kN => k_is)
#print axioms PySem.Challenge.cw_drawerways_k23_whole_moments_or_none_holds
