import PyProof.Rows.All
import HandS.ForMost
import HandS.ForExc
import HandS.TupAny
import HandS.IsInst
import HandS.Wide
import PyProof.ReprReads
import PyProof.ReprRoads
import PyProof.Rows.IntBool
import HandS.TupMul
import HandS.Text
import HandS.RaiseMore
import HandS.Codes
import HandS.Small
import HandS.Deep
import HandS.Style
import KE.KRevSl
import HandS.More
import HandS.Iter
import HandS.StrMore
import HandS.DictComp
import HandS.SetFor
import HandS.Strs
import HandS.Sort
import KE.KDictList
import HandS.Conv
import HandS.NoneIn
import HandS.TupSets
import KE.KDictPairs
import KE.DataCmp
import KE.DataMinMax
import PyProof.Rows.CallKwBuiltin
import HandS.SortInts
import HandS.Defaults
import HandS.ExcInit
import HandS.Lambda
import HandS.ExcField
import KE.KExcIs
import HandS.EndTab
import KE.GoesEnum
import HandS.DictTup
import KE.SortData
import KE.KEqSeq
import HandS.ExcOwn
import HandS.TryOnly
import KE.DataFind
import HandS.SetKeys
import KE.KDictSum
import KE.KDictWalk
import KE.SortKeyed
import PyProof.Rows.ReprOcc
import PyProof.ReprText
import KE.SortCalls
import PyProof.DictMoreH
import HandS.TupLen
import HandS.WordsDict
import PySem.Challenge.RW_drawerways_k05_deeds_by_kind
set_option Elab.async false
set_option linter.all false
set_option maxRecDepth 100000
set_option maxHeartbeats 4000000
set_option autoImplicit false
namespace DL
open PySem PySem.Spec PyProof.Rows L2
/-- a plain tuple: its object has no __dict__ -/
def PlT (B : Hp) (a : Addr) (xs : List V) : Prop := ∃ o : Obj, B a = some (.frz o (.tup xs)) ∧ o.cls = .type "tuple" ∧ o.dict = none
mutual
inductive DD (B : Hp) : V → PyData → Prop
  | non : DD B .non .none
  | bl (b : Bool) : DD B (.bl b) (.bool b)
  | int (i : Int) : DD B (.int i) (.int i)
  | str (x : Str) : DD B (.str x) (.str x)
  | lst {a : Addr} {xs : List V} {ds : List PyData} : Rd B a (.lst xs) → DDs B xs ds → DD B (.ref a) (.list ds)
  | tup {a : Addr} {xs : List V} {ds : List PyData} : PlT B a xs → DDs B xs ds → DD B (.ref a) (.tuple ds)
inductive DDs (B : Hp) : List V → List PyData → Prop
  | nil : DDs B [] []
  | cons {v : V} {vs : List V} {d : PyData} {ds : List PyData} : DD B v d → DDs B vs ds → DDs B (v :: vs) (d :: ds)
end
theorem same_rd {B B' : Hp} (h : Same B B') {a : Addr} {u : HO} (r : Rd B a u) : Rd B' a u := by
  rcases r with r | ⟨o, r⟩
  · exact .inl (h _ _ r)
  · exact .inr ⟨o, h _ _ r⟩
theorem PlT.mono {B B' : Hp} (h : Same B B') {a : Addr} {xs : List V} (r : PlT B a xs) : PlT B' a xs := by
  obtain ⟨o, e, r⟩ := r
  exact ⟨o, h _ _ e, r⟩
theorem PlT.rd {B : Hp} {a : Addr} {xs : List V} (r : PlT B a xs) : Rd B a (.tup xs) := by
  obtain ⟨o, e, _⟩ := r
  exact .inr ⟨o, e⟩
mutual
theorem DD.mono {B B' : Hp} (h : Same B B') : ∀ {v : V} {d : PyData}, DD B v d → DD B' v d
  | _, _, .non => .non
  | _, _, .bl b => .bl b
  | _, _, .int i => .int i
  | _, _, .str x => .str x
  | _, _, .lst r q => .lst (same_rd h r) (DDs.mono h q)
  | _, _, .tup r q => .tup (r.mono h) (DDs.mono h q)
theorem DDs.mono {B B' : Hp} (h : Same B B') : ∀ {vs : List V} {ds : List PyData}, DDs B vs ds → DDs B' vs ds
  | _, _, .nil => .nil
  | _, _, .cons q r => .cons (DD.mono h q) (DDs.mono h r)
end
theorem DDs.length {B : Hp} : ∀ {vs : List V} {ds : List PyData}, DDs B vs ds → vs.length = ds.length
  | _, _, .nil => rfl
  | _, _, .cons _ r => congrArg (· + 1) (DDs.length r)
theorem DDs.get {B : Hp} : ∀ {vs : List V} {ds : List PyData} {i : Nat} {d : PyData}, DDs B vs ds → ds[i]? = some d → ∃ v, vs[i]? = some v ∧ DD B v d
  | _, _, _, _, .nil, e => by simp at e
  | _, _, 0, _, .cons q _, e => by simp at e; subst e; exact ⟨_, rfl, q⟩
  | _, _, i + 1, _, .cons _ r, e => by
    obtain ⟨v, e1, q⟩ := DDs.get (i := i) r (by simpa using e)
    exact ⟨v, by simpa using e1, q⟩
theorem DDs.append {B : Hp} : ∀ {vs ws : List V} {ds es : List PyData}, DDs B vs ds → DDs B ws es → DDs B (vs ++ ws) (ds ++ es)
  | _, _, _, _, .nil, s => s
  | _, _, _, _, .cons q r, s => .cons q (DDs.append r s)
theorem DDs.take {B : Hp} : ∀ {vs : List V} {ds : List PyData} (n : Nat), DDs B vs ds → DDs B (vs.take n) (ds.take n)
  | _, _, 0, _ => .nil
  | _, _, _ + 1, .nil => .nil
  | _, _, n + 1, .cons q r => .cons q (DDs.take n r)
theorem DDs.drop {B : Hp} : ∀ {vs : List V} {ds : List PyData} (n : Nat), DDs B vs ds → DDs B (vs.drop n) (ds.drop n)
  | _, _, 0, r => r
  | _, _, _ + 1, .nil => .nil
  | _, _, n + 1, .cons _ r => DDs.drop n r
theorem DDs.snoc {B : Hp} {vs : List V} {ds : List PyData} {v : V} {d : PyData} (h : DDs B vs ds) (q : DD B v d) : DDs B (vs ++ [v]) (ds ++ [d]) := h.append (.cons q .nil)
theorem DDs.reverse {B : Hp} : ∀ {vs : List V} {ds : List PyData}, DDs B vs ds → DDs B vs.reverse ds.reverse
  | _, _, .nil => .nil
  | _, _, .cons q r => by rw [List.reverse_cons, List.reverse_cons]; exact (DDs.reverse r).snoc q
theorem DDs.set {B : Hp} {v : V} {d : PyData} (q : DD B v d) : ∀ {vs : List V} {ds : List PyData} (i : Nat), DDs B vs ds → DDs B (vs.set i v) (ds.set i d)
  | _, _, _, .nil => .nil
  | _, _, 0, .cons _ r => .cons q r
  | _, _, i + 1, .cons p r => .cons p (DDs.set q i r)
theorem DDs.dropLast {B : Hp} {vs : List V} {ds : List PyData} (h : DDs B vs ds) : DDs B vs.dropLast ds.dropLast := by
  rw [List.dropLast_eq_take, List.dropLast_eq_take, h.length]; exact h.take _
theorem DDs.nil_iff {B : Hp} {vs : List V} {ds : List PyData} (h : DDs B vs ds) : vs = [] ↔ ds = [] := by
  cases h <;> simp
theorem DDs.of_ints {B : Hp} : ∀ (ns : List Int), DDs B (ns.map V.int) (ns.map .int)
  | [] => .nil
  | n :: ns => .cons (.int n) (DDs.of_ints ns)
/-- written data (constants of the module) -/
def DW (K : PySem.W.Frag) (v : V) (d : PyData) : Prop := Dp K (fun _ => none) v d
mutual
theorem dp_mono {K : PySem.W.Frag} {H H' : Hp} (h : Same H H') : ∀ {v : V} {d : PyData}, Dp K H v d → Dp K H' v d
  | _, _, .non => .non
  | _, _, .bl b => .bl b
  | _, _, .int i => .int i
  | _, _, .str x => .str x
  | _, _, .lst r q => .lst (h.seq r) (dps_mono h q)
  | _, _, .tup r q => .tup (by
      rcases r with r | r
      · exact .inl (same_rd h r)
      · exact .inr r) (dps_mono h q)
theorem dps_mono {K : PySem.W.Frag} {H H' : Hp} (h : Same H H') : ∀ {v : List V} {d : List PyData}, DpAll K H v d → DpAll K H' v d
  | _, _, .nil => .nil
  | _, _, .cons q r => .cons (dp_mono h q) (dps_mono h r)
end
mutual
theorem DD.dp {K : PySem.W.Frag} {B : Hp} : ∀ {v : V} {d : PyData}, DD B v d → Dp K B v d
  | _, _, .non => .non
  | _, _, .bl b => .bl b
  | _, _, .int i => .int i
  | _, _, .str x => .str x
  | _, _, .lst r q => .lst (.inl r) (DDs.dp q)
  | _, _, .tup r q => .tup (.inl r.rd) (DDs.dp q)
theorem DDs.dp {K : PySem.W.Frag} {B : Hp} : ∀ {vs : List V} {ds : List PyData}, DDs B vs ds → DpAll K B vs ds
  | _, _, .nil => .nil
  | _, _, .cons q r => .cons (DD.dp q) (DDs.dp r)
end
inductive OT where
  | d (d : PyData)
  | n (a : Addr) (b : Bool) (ts : List (Key × OT))
mutual
def OT.fp : OT → List Addr
  | .d _ => []
  | .n a _ ts => a :: OT.fps ts
def OT.fps : List (Key × OT) → List Addr
  | [] => []
  | (_, t) :: r => t.fp ++ OT.fps r
end
def nd : Bool → List (Key × V) → HO
  | true, ys => .dK ys
  | false, ys => .lst (ys.map (·.2))
mutual
inductive OTk (B H : Hp) : V → OT → Prop
  | d {v : V} {d : PyData} : DD B v d → OTk B H v (.d d)
  | n {a : Addr} {b : Bool} {ys : List (Key × V)} {ts : List (Key × OT)} : H a = some (nd b ys) → OTks B H ys ts → OTk B H (.ref a) (.n a b ts)
inductive OTks (B H : Hp) : List (Key × V) → List (Key × OT) → Prop
  | nil : OTks B H [] []
  | cons {k : Key} {v : V} {t : OT} {ys : List (Key × V)} {ts : List (Key × OT)} : OTk B H v t → OTks B H ys ts → OTks B H ((k, v) :: ys) ((k, t) :: ts)
end
def OT.root : OT → Option Addr
  | .d _ => none
  | .n a _ _ => some a
mutual
theorem OTk.mono {B B' H H' : Hp} (s : Same B B') : ∀ {v : V} {t : OT}, (∀ p, p ∈ t.fp → H' p = H p) → OTk B H v t → OTk B' H' v t
  | _, _, _, .d q => .d (q.mono s)
  | _, _, e, .n h q => .n (by rw [e _ (by unfold OT.fp; exact List.mem_cons_self ..)]; exact h) (OTks.mono s (fun p f => e p (by unfold OT.fp; exact List.mem_cons_of_mem _ f)) q)
theorem OTks.mono {B B' H H' : Hp} (s : Same B B') : ∀ {ys : List (Key × V)} {ts : List (Key × OT)}, (∀ p, p ∈ OT.fps ts → H' p = H p) → OTks B H ys ts → OTks B' H' ys ts
  | _, _, _, .nil => .nil
  | _, _, e, .cons q r => .cons (OTk.mono s (fun p f => e p (by unfold OT.fps; exact List.mem_append_left _ f)) q) (OTks.mono s (fun p f => e p (by unfold OT.fps; exact List.mem_append_right _ f)) r)
end
mutual
theorem OTk.thereN {B H : Hp} {p : Addr} : ∀ {v : V} {t : OT}, OTk B H v t → p ∈ t.fp → ∃ b ys, H p = some (nd b ys)
  | _, _, .d _, f => by unfold OT.fp at f; cases f
  | _, _, .n h q, f => by
    unfold OT.fp at f
    rcases List.mem_cons.mp f with rfl | f
    · exact ⟨_, _, h⟩
    · exact OTks.thereN q f
theorem OTks.thereN {B H : Hp} {p : Addr} : ∀ {ys : List (Key × V)} {ts : List (Key × OT)}, OTks B H ys ts → p ∈ OT.fps ts → ∃ b ys, H p = some (nd b ys)
  | _, _, .nil, f => by unfold OT.fps at f; cases f
  | _, _, .cons q r, f => by
    unfold OT.fps at f
    rcases List.mem_append.mp f with f | f
    · exact OTk.thereN q f
    · exact OTks.thereN r f
end
theorem OTk.there {B H : Hp} {p : Addr} {v : V} {t : OT} (q : OTk B H v t) (f : p ∈ t.fp) : ∃ o, H p = some o := by
  obtain ⟨_, _, e⟩ := q.thereN f
  exact ⟨_, e⟩
theorem OTk.root {B H : Hp} {v : V} {t : OT} {a : Addr} (h : OTk B H v t) (e : t.root = some a) : v = .ref a := by
  cases h with
  | d _ => cases e
  | n _ _ => cases e; rfl
/-- a part of a tuple that is told: data, or an own list or dict -/
inductive Pt where
  | d (d : PyData)
  | l (ds : List PyData)
  | k (kvs : List (Key × PyData))
  | p (ds : List PyData)
inductive Cont where
  | l (ds : List PyData)
  | k (kvs : List (Key × PyData))
  | t (kvs : List (List Int × PyData))
  | ot (t : OT)
  | al (a : Addr) (i : Nat) (p : List Key)
  | tp (ps : List Pt)
  | pt (ds : List PyData)
  | fk (d : Addr) (kvs : List (Key × PyData))
def Cont.simple : Cont → Bool
  | .l _ => true
  | .k _ => true
  | .t _ => true
  | _ => false
def Pt.own : Pt → Bool
  | .d _ => false
  | .p _ => false
  | _ => true
def KDs {κ : Type} (B : Hp) : List (κ × V) → List (κ × PyData) → Prop := Paired fun (p : κ × V) (q : κ × PyData) => p.1 = q.1 ∧ DD B p.2 q.2
/-- a dict whose keys are tuples of numbers: its object, by its entries -/
def entI (x : List Int × Addr × Value) : DictEntry := ⟨reduceHash (Builtin.Tuple.tupleHashOf (x.1.map hashInt)), .ref x.2.1, x.2.2⟩
def dictI (a : Addr) (xs : List (List Int × Addr × Value)) : HO := .ext fun h => ∃ (o : Obj) (es : Array DictEntry) (ep : Nat), h.get? a = some o ∧ o.ExactDict ∧ o.data = .dict es ep ∧ es.toList = xs.map entI
def TIs (B : Hp) : List (List Int × Addr × Value) → List (List Int × PyData) → Prop := Paired fun p q => p.1 = q.1 ∧ PlT B p.2.1 (p.1.map V.int) ∧ ∃ v : V, RelV v p.2.2 ∧ DD B v q.2
structure TDi (B H : Hp) (a : Addr) (xs : List (List Int × Addr × Value)) (kvs : List (List Int × PyData)) : Prop where
  here : H a = some (dictI a xs)
  big : (a == sysModules) = false
  few : xs.length ≤ sizeLine
  nd : (xs.map (·.1)).Nodup
  are : TIs B xs kvs
/-- the objects that belong to one -/
def Foot (H : Hp) (a : Addr) : Cont → Addr → Prop
  | .l _, p => p = a
  | .k _, p => p = a
  | .t _, p => p = a
  | .ot t, p => p = a ∨ p ∈ t.fp
  | .pt _, _ => False
  | .al _ _ _, _ => False
  | .fk _ _, _ => False
  | .tp ps, p => p = a ∨ ∃ xs, H a = some (.tup xs) ∧ ∃ (i : Nat) (q : Pt), ps[i]? = some q ∧ q.own = true ∧ xs[i]? = some (V.ref p)
def InK (B H : Hp) (a : Addr) (v : V) (kvs : List (Key × PyData)) : Prop := ∃ b zs, v = .ref b ∧ b ≠ a ∧ H b = some (.dK zs) ∧ KDs B zs kvs
def InL (B H : Hp) (a : Addr) (v : V) (ds : List PyData) : Prop := ∃ b zs, v = .ref b ∧ b ≠ a ∧ H b = some (.lst zs) ∧ DDs B zs ds
def InP (B : Hp) (v : V) (ds : List PyData) : Prop := ∃ b o zs, v = .ref b ∧ B b = some (.frz o (.tup zs)) ∧ o.cls = .type "tuple" ∧ o.dict = none ∧ DDs B zs ds
def PtOk (B H : Hp) (a : Addr) (v : V) : Pt → Prop
  | .d d => DD B v d
  | .l ds => InL B H a v ds
  | .k kvs => InK B H a v kvs
  | .p ds => InP B v ds
def ContOk (B H : Hp) (a : Addr) : Cont → Prop
  | .l ds => ∃ xs, H a = some (.lst xs) ∧ DDs B xs ds
  | .k kvs => ∃ ys, H a = some (.dK ys) ∧ KDs B ys kvs
  | .t kvs => ∃ xs, TDi B H a xs kvs
  | .ot t => OTk B H (.ref a) t ∧ t.fp.Nodup ∧ t.root = some a
  | .al b _ _ => a = b
  | .pt ds => ∃ o xs, B a = some (.frz o (.tup xs)) ∧ o.cls = .type "tuple" ∧ o.dict = none ∧ DDs B xs ds
  | .fk d kvs => a = d ∧ ∃ o ys, B a = some (.frz o (.dK ys)) ∧ KDs B ys kvs
  | .tp ps => ∃ xs, H a = some (.tup xs) ∧ Paired (PtOk B H a) xs ps ∧ ∀ (i j : Nat) (b : Addr) (p q : Pt), ps[i]? = some p → ps[j]? = some q → p.own = true → q.own = true → xs[i]? = some (.ref b) → xs[j]? = some (.ref b) → i = j
def Cont.real : Cont → Bool
  | .fk _ _ => false
  | .pt _ => false
  | .al _ _ _ => false
  | _ => true
theorem real_of {c : Cont} (h : c.simple = true) : c.real = true := by cases c <;> first | rfl | cases h
theorem foot_self {H : Hp} {a : Addr} {c : Cont} (r : c.real = true := by rfl) : Foot H a c a := by
  cases c with
  | fk _ _ => cases r
  | l _ => rfl
  | k _ => rfl
  | t _ => rfl
  | pt _ => cases r
  | ot _ => exact .inl rfl
  | al _ _ _ => cases r
  | tp _ => exact .inl rfl
theorem foot_one {H : Hp} {a p : Addr} {c : Cont} (s : c.simple = true) (h : Foot H a c p) : p = a := by
  cases c with
  | l _ => exact h
  | k _ => exact h
  | t _ => exact h
  | pt _ => cases s
  | ot _ => cases s
  | al _ _ _ => cases s
  | tp _ => cases s
  | fk _ _ => cases s
theorem foot_eq0 {H H' : Hp} {a p : Addr} {c : Cont} (e : H' a = H a) : Foot H' a c p ↔ Foot H a c p := by
  cases c <;> (unfold Foot; first | exact Iff.rfl | rw [e])
theorem foot_eq {H H' : Hp} {a : Addr} {c : Cont} (e : ∀ p, Foot H a c p → H' p = H p) {p : Addr} : Foot H' a c p ↔ Foot H a c p := by
  by_cases r : c.real = true
  · exact foot_eq0 (e a (foot_self r))
  · cases c with
    | fk _ _ => exact Iff.rfl
    | pt _ => exact Iff.rfl
    | al _ _ _ => exact Iff.rfl
    | _ => exact absurd rfl r
theorem KDs.mono {κ : Type} {B B' : Hp} (h : Same B B') {ys : List (κ × V)} {kvs : List (κ × PyData)} (q : KDs B ys kvs) : KDs B' ys kvs :=
  Paired.mapP q fun _ _ z => ⟨z.1, z.2.mono h⟩
theorem TIs.mono {B B' : Hp} (h : Same B B') {xs : List (List Int × Addr × Value)} {kvs : List (List Int × PyData)} (q : TIs B xs kvs) : TIs B' xs kvs :=
  Paired.mapP q fun _ _ z => ⟨z.1, z.2.1.mono h, z.2.2.imp fun _ y => ⟨y.1, y.2.mono h⟩⟩
theorem TDi.mono {B B' H H' : Hp} {a : Addr} {xs : List (List Int × Addr × Value)} {kvs : List (List Int × PyData)} (h : Same B B') (e : H' a = H a) (q : TDi B H a xs kvs) : TDi B' H' a xs kvs := ⟨by rw [e]; exact q.here, q.big, q.few, q.nd, q.are.mono h⟩
theorem paired_at {α β : Type} {G : α → β → Prop} {xs : List α} {ys : List β} (h : Paired G xs ys) : ∀ {i : Nat} {x : α}, xs[i]? = some x → ∃ y, ys[i]? = some y ∧ G x y := by
  induction h with
  | nil => intro i x e; simp at e
  | cons q r ih =>
    intro i x e
    cases i with
    | zero => simp at e; subst e; exact ⟨_, rfl, q⟩
    | succ i => obtain ⟨y, e1, q1⟩ := ih (i := i) (by simpa using e); exact ⟨y, by simpa using e1, q1⟩
theorem paired_mono {α β : Type} {G G' : α → β → Prop} {xs : List α} {ys : List β} (h : Paired G xs ys) : (∀ (i : Nat) (x : α) (y : β), xs[i]? = some x → ys[i]? = some y → G x y → G' x y) → Paired G' xs ys := by
  induction h with
  | nil => intro _; exact .nil
  | cons q r ih => intro f; exact .cons (f 0 _ _ rfl rfl q) (ih fun i x y e1 e2 => f (i + 1) x y (by simpa using e1) (by simpa using e2))
theorem InK.mono {B B' H H' : Hp} {a : Addr} {v : V} {kvs : List (Key × PyData)} (s : Same B B') (e : ∀ b, v = .ref b → H' b = H b) (h : InK B H a v kvs) : InK B' H' a v kvs := by
  obtain ⟨b, zs, rfl, n, q, r⟩ := h
  exact ⟨b, zs, rfl, n, by rw [e b rfl]; exact q, r.mono s⟩
theorem InL.mono {B B' H H' : Hp} {a : Addr} {v : V} {ds : List PyData} (s : Same B B') (e : ∀ b, v = .ref b → H' b = H b) (h : InL B H a v ds) : InL B' H' a v ds := by
  obtain ⟨b, zs, rfl, n, q, r⟩ := h
  exact ⟨b, zs, rfl, n, by rw [e b rfl]; exact q, r.mono s⟩
theorem InP.mono {B B' : Hp} {v : V} {ds : List PyData} (s : Same B B') (h : InP B v ds) : InP B' v ds := by
  obtain ⟨b, o, zs, rfl, q, ec, ed, r⟩ := h
  exact ⟨b, o, zs, rfl, s _ _ q, ec, ed, r.mono s⟩
theorem ContOk.mono {B B' H H' : Hp} {a : Addr} {c : Cont} (hB : Same B B') (hH : ∀ p, Foot H a c p → H' p = H p) (q : ContOk B H a c) : ContOk B' H' a c := by
  have h0 : c.real = true → H' a = H a := fun r => hH a (foot_self r)
  cases c with
  | fk d kvs => obtain ⟨ed, o, xs, e, r⟩ := q; exact ⟨ed, o, xs, hB _ _ e, r.mono hB⟩
  | l ds => obtain ⟨xs, e, r⟩ := q; exact ⟨xs, by rw [h0 rfl]; exact e, r.mono hB⟩
  | k kvs => obtain ⟨xs, e, r⟩ := q; exact ⟨xs, by rw [h0 rfl]; exact e, r.mono hB⟩
  | t kvs => obtain ⟨xs, r⟩ := q; exact ⟨xs, r.mono hB (h0 rfl)⟩
  | pt ds => obtain ⟨o, xs, e, ec, ed, r⟩ := q; exact ⟨o, xs, hB _ _ e, ec, ed, r.mono hB⟩
  | ot t => exact ⟨q.1.mono hB fun p f => hH p (.inr f), q.2⟩
  | al _ _ _ => exact q
  | tp ps =>
    obtain ⟨xs, e, r, d⟩ := q
    refine ⟨xs, by rw [h0 rfl]; exact e, paired_mono r fun i x y e1 e2 z => ?_, d⟩
    cases y with
    | d _ => exact DD.mono hB z
    | l _ => exact InL.mono hB (fun b eb => hH b (.inr ⟨xs, e, i, _, e2, rfl, by rw [e1, ← eb]⟩)) z
    | k _ => exact InK.mono hB (fun b eb => hH b (.inr ⟨xs, e, i, _, e2, rfl, by rw [e1, ← eb]⟩)) z
    | p _ => exact InP.mono hB z
theorem ContOk.there {B H : Hp} {a p : Addr} {c : Cont} (q : ContOk B H a c) (f : Foot H a c p) : ∃ o, H p = some o := by
  cases c with
  | fk _ _ => exact f.elim
  | l ds => cases f; obtain ⟨xs, e, _⟩ := q; exact ⟨_, e⟩
  | k kvs => cases f; obtain ⟨xs, e, _⟩ := q; exact ⟨_, e⟩
  | t kvs => cases f; obtain ⟨xs, q⟩ := q; exact ⟨_, q.here⟩
  | pt ds => exact f.elim
  | ot t =>
    rcases f with rfl | f
    · obtain ⟨q, _, e⟩ := q
      cases t with
      | d _ => cases e
      | n a b ts => cases e; exact q.there (by unfold OT.fp; exact List.mem_cons_self ..)
    · exact q.1.there f
  | al _ _ _ => exact f.elim
  | tp ps =>
    obtain ⟨xs, e, r, _⟩ := q
    rcases f with rfl | ⟨xs', e', i, y, e1, eo, f⟩
    · exact ⟨_, e⟩
    · rw [e] at e'; cases e'
      obtain ⟨y', e2, q⟩ := paired_at r f
      rw [e1] at e2; cases e2
      cases y with
      | d _ => cases eo
      | l _ => obtain ⟨b, zs, eb, _, q, _⟩ := q; cases eb; exact ⟨_, q⟩
      | k _ => obtain ⟨b, zs, eb, _, q, _⟩ := q; cases eb; exact ⟨_, q⟩
      | p _ => cases eo
inductive Sl where
  | d (d : PyData)
  | w (d : PyData)
  | o (b : Bool) (c : Cont)
abbrev SEnv := List (Option Sl)
inductive R where
  | d (d : PyData)
  | w (d : PyData)
  | o (i : Nat)
  | n (c : Cont)
def SlOk (K : PySem.W.Frag) (F B H : Hp) (v : V) : Sl → Prop
  | .d d => DD B v d
  | .w d => DW K v d
  | .o _ c => ∃ a, v = .ref a ∧ (∀ p, Foot H a c p → B p = none ∧ F p = none) ∧ ContOk B H a c
structure Rep (K : PySem.W.Frag) (F B H : Hp) (vs : List V) (σ : L2.St) (δ : SEnv) : Prop where
  sb : Same B H
  sf : Same F H
  dj : ∀ a o, F a = some o → B a = none
  len : σ.length = δ.length
  ok : ∀ (i : Nat) (s : Sl), δ[i]? = some (some s) → ∃ v, σ[i]? = some (some v) ∧ SlOk K F B H v s
  apart : ∀ (i j : Nat) (a a' p : Addr) (b : Bool) (c : Cont) (b' : Bool) (c' : Cont), δ[i]? = some (some (.o b c)) → δ[j]? = some (some (.o b' c')) → σ[i]? = some (some (.ref a)) → σ[j]? = some (some (.ref a')) → Foot H a c p → Foot H a' c' p → i = j
  bor : ∀ (i : Nat) (c : Cont), δ[i]? = some (some (.o true c)) → ∃ v, σ[i]? = some (some v) ∧ vs[i]? = some v
  nt : ∀ (a : Addr) (ps : Array Value), B a ≠ some (.tbl ps)
/-- the slots' own objects are none of these -/
def Off (H : Hp) (σ : L2.St) (δ : SEnv) (f : Addr → Prop) : Prop := ∀ (i : Nat) (b : Bool) (c : Cont) (a p : Addr), δ[i]? = some (some (.o b c)) → σ[i]? = some (some (.ref a)) → Foot H a c p → ¬ f p
def RepR (K : PySem.W.Frag) (F B H : Hp) (σ : L2.St) (δ : SEnv) (v : V) : R → Prop
  | .d d => DD B v d
  | .w d => DW K v d
  | .o i => σ[i]? = some (some v)
  | .n c => ∃ a, v = .ref a ∧ (∀ p, Foot H a c p → B p = none ∧ F p = none) ∧ ContOk B H a c ∧ Off H σ δ (Foot H a c)
section
variable {K : PySem.W.Frag} {F B H B' H' : Hp} {vs : List V} {σ : L2.St} {δ : SEnv} {v : V}
theorem same_new {H : Hp} {p : Addr} (h : H p = none) (o : HO) : Same H (upd H p o) := fun b u q => by rw [upd_ne (ne_of_none q h)]; exact q
theorem nof {B H : Hp} (e : Same B H) {p : Addr} (h : H p = none) : B p = none := L2.Same.free e h
theorem nt_upd {B : Hp} {p : Addr} {o : HO} (h : ∀ (a : Addr) (ps : Array Value), B a ≠ some (.tbl ps)) (ho : ∀ ps, o ≠ .tbl ps) (a : Addr) (ps : Array Value) : upd B p o a ≠ some (.tbl ps) := fun e => by
  by_cases ha : a = p
  · subst ha; rw [upd_same] at e; cases e; exact ho _ rfl
  · rw [upd_ne ha] at e; exact h _ _ e
/-- elsewhere changed -/
theorem Rep.own_up (h : Rep K F B H vs σ δ) {i : Nat} {b : Bool} {c : Cont} {a : Addr} (e : δ[i]? = some (some (.o b c))) (ea : σ[i]? = some (some (.ref a))) : (∀ p, Foot H a c p → B p = none ∧ F p = none) ∧ ContOk B H a c := by
  obtain ⟨v, e1, a', e2, q1, q2⟩ := h.ok i _ e
  rw [ea] at e1; cases e1; cases e2
  exact ⟨q1, q2⟩
theorem foot_new {B H : Hp} {a p q : Addr} {c : Cont} {o : HO} (h : ContOk B H a c) (hp : H p = none) (f : Foot H a c q) : q ≠ p := by
  obtain ⟨u, hu⟩ := h.there f
  exact ne_of_none hu hp
theorem foot_upd {B H : Hp} {a p q : Addr} {c : Cont} {o : HO} (h : ContOk B H a c) (hp : H p = none) : Foot (upd H p o) a c q ↔ Foot H a c q := foot_eq fun r f => upd_ne (foot_new (o := o) h hp f)
theorem Rep.apart_new (h : Rep K F B H vs σ δ) {p : Addr} (hp : H p = none) (o : HO) : ∀ (i j : Nat) (a a' q : Addr) (b : Bool) (c : Cont) (b' : Bool) (c' : Cont), δ[i]? = some (some (.o b c)) → δ[j]? = some (some (.o b' c')) → σ[i]? = some (some (.ref a)) → σ[j]? = some (some (.ref a')) → Foot (upd H p o) a c q → Foot (upd H p o) a' c' q → i = j :=
  fun i j a a' q b c b' c' e1 e2 e3 e4 f1 f2 => h.apart i j a a' q b c b' c' e1 e2 e3 e4 ((foot_upd (h.own_up e1 e3).2 hp).mp f1) ((foot_upd (h.own_up e2 e4).2 hp).mp f2)
/-- a new object, taken as data -/
theorem Rep.new (h : Rep K F B H vs σ δ) {p : Addr} (hp : H p = none) (o : HO) (ho : ∀ ps, o ≠ .tbl ps := by intro _ z; cases z) : Rep K F (upd B p o) (upd H p o) vs σ δ := by
  have hB := nof h.sb hp
  have hF := nof h.sf hp
  refine ⟨fun a u e => ?_, h.sf.trans (same_new hp o), fun a u e => ?_, h.len, fun i s e => ?_, h.apart_new hp o, h.bor, nt_upd h.nt ho⟩
  · by_cases ha : a = p
    · subst ha; rw [upd_same] at e ⊢; exact e
    · rw [upd_ne ha] at e ⊢; exact h.sb a u e
  · have ha : a ≠ p := ne_of_none e hF
    rw [upd_ne ha]; exact h.dj a u e
  · obtain ⟨v, e1, q⟩ := h.ok i s e
    refine ⟨v, e1, ?_⟩
    cases s with
    | d d => exact DD.mono (same_new hB o) q
    | w d => exact q
    | o b c =>
      obtain ⟨a, e2, e3, q⟩ := q
      refine ⟨a, e2, fun r f => ?_, q.mono (same_new hB o) fun r f => upd_ne (foot_new (o := o) q hp f)⟩
      have f' := (foot_upd q hp).mp f
      rw [upd_ne (foot_new (o := o) q hp f')]
      exact e3 r f'
/-- a new object of its own -/
theorem Rep.newO (h : Rep K F B H vs σ δ) {p : Addr} (hp : H p = none) (o : HO) : Rep K F B (upd H p o) vs σ δ := by
  refine ⟨h.sb.trans (same_new hp o), h.sf.trans (same_new hp o), h.dj, h.len, fun i s e => ?_, h.apart_new hp o, h.bor, h.nt⟩
  obtain ⟨v, e1, q⟩ := h.ok i s e
  refine ⟨v, e1, ?_⟩
  cases s with
  | d d => exact q
  | w d => exact q
  | o b c =>
    obtain ⟨a, e2, e3, q⟩ := q
    exact ⟨a, e2, fun r f => e3 r ((foot_upd q hp).mp f), q.mono (Same.refl _) fun r f => upd_ne (foot_new (o := o) q hp f)⟩
/-- a new object stands apart from the slots -/
theorem Rep.fresh (h : Rep K F B H vs σ δ) {p : Addr} (hp : H p = none) (o : HO) : Off (upd H p o) σ δ fun q => q = p := fun i b c a q e1 e2 f z => by
  have k := (h.own_up e1 e2).2
  exact foot_new (o := o) k hp ((foot_upd k hp).mp f) z
/-- a list of one's own is taken as data from now on -/
theorem Rep.freeze (h : Rep K F B H vs σ δ) {a : Addr} {xs : HO} (ha : H a = some xs) (hB : B a = none) (hF : F a = none) (hn : Off H σ δ fun q => q = a) (hx : ∀ ps, xs ≠ .tbl ps := by intro _ z; cases z) :
    Rep K F (upd B a xs) H vs σ δ := by
  refine ⟨fun b u e => ?_, h.sf, fun b u e => ?_, h.len, fun i s e => ?_, h.apart, h.bor, nt_upd h.nt hx⟩
  · by_cases hb : b = a
    · subst hb; rw [upd_same] at e; rw [← e]; exact ha
    · rw [upd_ne hb] at e; exact h.sb b u e
  · have hb : b ≠ a := ne_of_none e hF
    rw [upd_ne hb]; exact h.dj b u e
  · obtain ⟨v, e1, q⟩ := h.ok i s e
    refine ⟨v, e1, ?_⟩
    cases s with
    | d d => exact DD.mono (same_new hB _) q
    | w d => exact q
    | o b c =>
      obtain ⟨p, e2, e3, q⟩ := q
      subst e2
      refine ⟨p, rfl, fun r f => ?_, q.mono (same_new hB _) fun _ _ => rfl⟩
      rw [upd_ne (fun z : r = a => hn i b c p r e e1 f z)]
      exact e3 r f
end
end DL
set_option Elab.async false
set_option linter.all false
set_option maxRecDepth 100000
set_option maxHeartbeats 4000000
set_option autoImplicit false
namespace DL
open PySem PySem.Spec PyProof.Rows L2
structure Gx where
  P : Program
  w : World
  K : PySem.W.Frag
  mg : Str → Option Value
  base : Heap
structure Cl where
  A : Around
  N : List Str
  s_0 : Shared
  H_0 : Hp
  env : Env
  outer : List Env
  stack : List Env
  ex : List Addr
  fn : Str → Bool
  calm : Bool
  pn : List (Addr × Obj)
  xe : Value → Shared → Prop
abbrev Gx.cx (g : Gx) (c : Cl) : Cx := ⟨g.P, g.w, g.K, g.mg, g.base, c.A, c.N, c.s_0, c.H_0, c.env, c.outer, c.stack, c.ex, c.fn, c.calm, c.pn, c.xe⟩
structure Sg where
  g : Gx
  CX : CXT
  N : List Str
  sc : Scope
  k : Nat
  E : XK
  top : Bool
  thr : Bool
structure Sg.ok (S : Sg) (c : Cl) : Prop where
  hN : c.N = S.N
  nd : S.N.Nodup
  hs : c.env.scope = S.sc
  calm : c.calm = true
  room : Room S.k c.A
  ps : Passes S.CX (S.g.cx c) S.E
  po : PassesOwn (model S.g.P S.g.w) c.A c.env c.xe
  fn : S.top = true → ∀ x, c.fn x = true
  gd : c.A.guards = some []
  tk : S.thr = true → Takes (S.g.cx c) fun cls d _ H => S.E cls d H
  fr : S.top = true → c.stack = c.env :: c.outer ∧ c.env.frame = some c.env.locals
structure Exc where
  cls : Value
  flds : List (Str × PyData)
def FldsOk (B : Hp) : List (Str × V) → List (Str × PyData) → Prop := Paired fun (p : Str × V) (q : Str × PyData) => p.1 = q.1 ∧ DD B p.2 q.2
def XOk (F B : Hp) (E : XK) (Ex : Exc → Prop) : Prop := ∀ (cls : Value) (da : Addr) (B' H' : Hp) (fs : List (Str × V)) (fds : List (Str × PyData)), (Same B B' ∧ ∀ (a : Addr) (ps : Array Value), B' a ≠ some (.tbl ps)) → Same B' H' → Same F H' → (∀ a o, F a = some o → B' a = none) →
  B' da = some (.xd fs) → FldsOk B' fs fds → Ex ⟨cls, fds⟩ → E cls (some da) H'
theorem XOk.up {F B B1 : Hp} {E : XK} {Ex : Exc → Prop} (h : XOk F B E Ex) (s : Same B B1) : XOk F B1 E Ex := fun cls da B' H' fs fds s1 s2 s3 s4 e f x => h cls da B' H' fs fds ⟨s.trans s1.1, s1.2⟩ s2 s3 s4 e f x
abbrev XP := Exc → Prop
abbrev WE := XP → SEnv → (R → SEnv → Prop) → Prop
abbrev WT := XP → SEnv → (Bool → SEnv → Prop) → Prop
abbrev WA := XP → SEnv → (List R → SEnv → Prop) → Prop
structure DEnds where
  nx : SEnv → Prop
  rt : R → SEnv → Prop
  bk : SEnv → Prop
  ct : SEnv → Prop
  ex : XP
abbrev WS := DEnds → SEnv → Prop
structure DEnds.le (d d' : DEnds) : Prop where
  nx : ∀ δ, d.nx δ → d'.nx δ
  rt : ∀ r δ, d.rt r δ → d'.rt r δ
  bk : ∀ δ, d.bk δ → d'.bk δ
  ct : ∀ δ, d.ct δ → d'.ct δ
  ex : ∀ e, d.ex e → d'.ex e
structure ESim (K : PySem.W.Frag) (E : XK) (t : TE) (W : WE) : Prop where
  mono : ∀ (Ex Ex' : XP) (δ : SEnv) (P P' : R → SEnv → Prop), (∀ e, Ex e → Ex' e) → (∀ r δ', P r δ' → P' r δ') → W Ex δ P → W Ex' δ P'
  run : ∀ (Ex : XP) (F B H : Hp) (vs : List V) (σ : L2.St) (δ : SEnv) (P : R → SEnv → Prop) (Q : VK), XOk F B E Ex → Rep K F B H vs σ δ → W Ex δ P →
    (∀ B' H' v r δ', Same B B' → Rep K F B' H' vs σ δ' → RepR K F B' H' σ δ' v r → P r δ' → Q v H') → t σ H Q
structure TSim (K : PySem.W.Frag) (E : XK) (t : TT) (W : WT) : Prop where
  mono : ∀ (Ex Ex' : XP) (δ : SEnv) (P P' : Bool → SEnv → Prop), (∀ e, Ex e → Ex' e) → (∀ r δ', P r δ' → P' r δ') → W Ex δ P → W Ex' δ P'
  run : ∀ (Ex : XP) (F B H : Hp) (vs : List V) (σ : L2.St) (δ : SEnv) (P : Bool → SEnv → Prop) (Q : Bool → Hp → Prop), XOk F B E Ex → Rep K F B H vs σ δ → W Ex δ P →
    (∀ B' H' b δ', Same B B' → Rep K F B' H' vs σ δ' → P b δ' → Q b H') → t σ H Q
def RepRs (K : PySem.W.Frag) (F B H : Hp) (σ : L2.St) (δ : SEnv) : List V → List R → Prop := Paired fun v r => RepR K F B H σ δ v r ∧ ∀ c, r ≠ .n c
structure ASim (K : PySem.W.Frag) (E : XK) (t : TA) (W : WA) : Prop where
  mono : ∀ (Ex Ex' : XP) (δ : SEnv) (P P' : List R → SEnv → Prop), (∀ e, Ex e → Ex' e) → (∀ r δ', P r δ' → P' r δ') → W Ex δ P → W Ex' δ P'
  run : ∀ (Ex : XP) (F B H : Hp) (vs : List V) (σ : L2.St) (δ : SEnv) (P : List R → SEnv → Prop) (Q : List V → Hp → Prop), XOk F B E Ex → Rep K F B H vs σ δ → W Ex δ P →
    (∀ B' H' ws rs δ', Same B B' → Rep K F B' H' vs σ δ' → RepRs K F B' H' σ δ' ws rs → P rs δ' → Q ws H') → t σ H Q
structure EndsOk (K : PySem.W.Frag) (F B : Hp) (vs : List V) (D : Ends) (d : DEnds) : Prop where
  nx : ∀ B' σ' H' δ', Same B B' → Rep K F B' H' vs σ' δ' → d.nx δ' → D.nx σ' H'
  rt : ∀ B' σ' H' δ' v r, Same B B' → Rep K F B' H' vs σ' δ' → RepR K F B' H' σ' δ' v r → d.rt r δ' → D.rt v H'
  bk : ∀ B' σ' H' δ', Same B B' → Rep K F B' H' vs σ' δ' → d.bk δ' → D.bk σ' H'
  ct : ∀ B' σ' H' δ', Same B B' → Rep K F B' H' vs σ' δ' → d.ct δ' → D.ct σ' H'
theorem EndsOk.up {K : PySem.W.Frag} {F B B1 : Hp} {vs : List V} {D : Ends} {d : DEnds} (h : EndsOk K F B vs D d) (s : Same B B1) : EndsOk K F B1 vs D d :=
  ⟨fun B' σ' H' δ' s1 => h.nx B' σ' H' δ' (s.trans s1), fun B' σ' H' δ' v r s1 => h.rt B' σ' H' δ' v r (s.trans s1), fun B' σ' H' δ' s1 => h.bk B' σ' H' δ' (s.trans s1), fun B' σ' H' δ' s1 => h.ct B' σ' H' δ' (s.trans s1)⟩
structure SSim (K : PySem.W.Frag) (E : XK) (t : TS) (W : WS) : Prop where
  mono : ∀ (d d' : DEnds) (δ : SEnv), d.le d' → W d δ → W d' δ
  run : ∀ (F B H : Hp) (vs : List V) (σ : L2.St) (δ : SEnv) (D : Ends) (d : DEnds), XOk F B E d.ex → Rep K F B H vs σ δ → EndsOk K F B vs D d → W d δ → t D σ H
def DE (S : Sg) (e : Expr) (W : WE) : Prop := ∃ t, (∀ c, S.ok c → PE (S.g.cx c) e t) ∧ ESim S.g.K S.E t W
def DT (S : Sg) (e : Expr) (W : WT) : Prop := ∃ t, (∀ c, S.ok c → PT (S.g.cx c) e t) ∧ TSim S.g.K S.E t W
def DW' (S : Sg) (e : Expr) (W : WT) : Prop := ∃ t, (∀ c, S.ok c → PW (S.g.cx c) e t) ∧ TSim S.g.K S.E t W
def DA (S : Sg) (es : List Expr) (W : WA) : Prop := ∃ t, (∀ c, S.ok c → PA (S.g.cx c) es t) ∧ ASim S.g.K S.E t W
def DS (S : Sg) (st : Stmt) (W : WS) : Prop := ∃ t, (∀ c, S.ok c → PS (S.g.cx c) st t) ∧ SSim S.g.K S.E t W
def DSs (S : Sg) (st : List Stmt) (W : WS) : Prop := ∃ t, (∀ c, S.ok c → PSs (S.g.cx c) st t) ∧ SSim S.g.K S.E t W
def settle : R → Option R
  | .n (.l ds) => some (.d (.list ds))
  | .n _ => none
  | r => some r
def scalar : PyData → Bool
  | .none => true
  | .bool _ => true
  | .int _ => true
  | .str _ => true
  | _ => false
def frz (δ : SEnv) : R → Option (PyData × SEnv)
  | .d d => some (d, δ)
  | .w d => if scalar d then some (d, δ) else none
  | .n (.l ds) => some (.list ds, δ)
  | .n _ => none
  | .o i => match δ[i]? with
    | some (some (.o false (.l ds))) => some (.list ds, δ.set i (some (.d (.list ds))))
    | some (some (.d d)) => some (d, δ)
    | some (some (.w d)) => if scalar d then some (d, δ) else none
    | _ => none
inductive Vw where
  | d (d : PyData)
  | w (d : PyData)
  | k (kvs : List (Key × PyData))
  | t (kvs : List (List Int × PyData))
  | xk (ks : List Key)
  | xl (n : Nat)
  | rk (kvs : List (Key × PyData))
  | xt (ds : List PyData)
/-- a slot that is known to hold a plain tuple -/
def plainAt (δ : SEnv) (i : Nat) : Option (List PyData) := match δ[i]? with
  | some (some (.o _ (.pt ds))) => some ds
  | _ => none
def OT.dat : OT → Option PyData
  | .d x => some x
  | .n _ _ _ => none
def datas : List (Key × OT) → Option (List (Key × PyData))
  | [] => some []
  | (k, t) :: r => t.dat.bind fun d => (datas r).map fun ds => (k, d) :: ds
def OT.vw : OT → Option Vw
  | .d _ => none
  | .n _ true ts => match datas ts with
    | some kvs => some (.k kvs)
    | none => some (.xk (ts.map (·.1)))
  | .n _ false ts => match datas ts with
    | some kvs => some (.d (.list (kvs.map (·.2))))
    | none => some (.xl ts.length)
def chN (b : Bool) (ts : List (Key × OT)) (k : Key) : Option Nat := if b = true then ts.findIdx? (fun q => decide (q.1 = k)) else match k with
  | .inl i => if 0 ≤ i ∧ i < (ts.length : Int) then some i.toNat else none
  | .inr _ => none
/-- what lies at the end of a way -/
def OT.at : OT → List Key → Option OT
  | t, [] => some t
  | .d _, _ :: _ => none
  | .n _ b ts, k :: p => (chN b ts k).bind fun i => ts[i]?.bind fun q => q.2.at p
/-- the thing that a borrowed name tells, where it still lies there -/
def alAt (δ : SEnv) (a : Addr) (i : Nat) (p : List Key) : Option OT := match δ[i]? with
  | some (some (.o _ (.ot t))) => (t.at p).bind fun u => if u.root = some a then some u else none
  | _ => none
def Cont.vw (δ : SEnv) : Cont → Option Vw
  | .l ds => some (.d (.list ds))
  | .k kvs => some (.k kvs)
  | .t kvs => some (.t kvs)
  | .ot u => u.vw
  | .al a i p => (alAt δ a i p).bind OT.vw
  | .tp _ => none
  | .pt ds => some (.xt ds)
  | .fk _ kvs => some (.rk kvs)
def wv (d : PyData) : Vw := if scalar d then .d d else .w d
def view (δ : SEnv) : R → Option Vw
  | .d d => some (.d d)
  | .w d => some (wv d)
  | .n c => c.vw δ
  | .o i => match δ[i]? with
    | some (some (.d d)) => some (.d d)
    | some (some (.w d)) => some (wv d)
    | some (some (.o _ c)) => c.vw δ
    | _ => none
def OV (K : PySem.W.Frag) (B H : Hp) (v : V) : Vw → Prop
  | .d d => DD B v d ∨ ∃ a xs ds, v = .ref a ∧ d = .list ds ∧ H a = some (.lst xs) ∧ DDs B xs ds
  | .w d => DW K v d
  | .k kvs => ∃ a ys, v = .ref a ∧ H a = some (.dK ys) ∧ KDs B ys kvs
  | .t kvs => ∃ a xs, v = .ref a ∧ TDi B H a xs kvs
  | .xk ks => ∃ a ys, v = .ref a ∧ H a = some (.dK ys) ∧ ys.map (·.1) = ks
  | .xl n => ∃ a xs, v = .ref a ∧ H a = some (.lst xs) ∧ xs.length = n
  | .rk kvs => ∃ a ys, v = .ref a ∧ Rd H a (.dK ys) ∧ KDs B ys kvs
  | .xt ds => InP B v ds
section
variable {K : PySem.W.Frag} {F B H B' H' : Hp} {vs : List V} {σ : L2.St} {δ : SEnv} {v : V}
theorem DW.scal {d : PyData} (h : DW K v d) (e : scalar d = true) : DD B v d := by
  unfold DW at h
  cases h with
  | non => exact .non
  | bl b => exact .bl b
  | int i => exact .int i
  | str x => exact .str x
  | lst _ _ => cases e
  | tup _ _ => cases e
theorem wv_ov {d : PyData} (h : DW K v d) : OV K B H v (wv d) := by
  unfold wv
  split
  · exact .inl (h.scal (by assumption))
  · exact h
theorem OTks.at {B H : Hp} : ∀ {ys : List (Key × V)} {ts : List (Key × OT)}, OTks B H ys ts → ∀ {i : Nat} {q : Key × OT}, ts[i]? = some q → ∃ v, ys[i]? = some (q.1, v) ∧ OTk B H v q.2
  | _, _, .nil, i, q, e => by simp at e
  | _, _, .cons q r, 0, _, e => by simp at e; subst e; exact ⟨_, rfl, q⟩
  | _, _, .cons q r, i + 1, _, e => by
    obtain ⟨v, e1, q1⟩ := OTks.at r (i := i) (by simpa using e)
    exact ⟨v, by simpa using e1, q1⟩
theorem OTks.len {B H : Hp} : ∀ {ys : List (Key × V)} {ts : List (Key × OT)}, OTks B H ys ts → ys.length = ts.length
  | _, _, .nil => rfl
  | _, _, .cons _ r => congrArg (· + 1) (OTks.len r)
theorem OTks.keys {B H : Hp} : ∀ {ys : List (Key × V)} {ts : List (Key × OT)}, OTks B H ys ts → ys.map (·.1) = ts.map (·.1)
  | _, _, .nil => rfl
  | _, _, .cons _ r => by rw [List.map_cons, List.map_cons, OTks.keys r]
theorem at_ok {B H : Hp} : ∀ {p : List Key} {v : V} {t u : OT}, OTk B H v t → t.at p = some u → ∃ v', OTk B H v' u
  | [], v, t, u, q, e => by cases t <;> (cases e; exact ⟨_, q⟩)
  | k :: p, v, .d _, u, q, e => by cases e
  | k :: p, _, .n a b ts, u, .n h q, e => by
    simp only [OT.at] at e
    obtain ⟨i, _, e⟩ := Option.bind_eq_some_iff.mp e
    obtain ⟨x, e1, e⟩ := Option.bind_eq_some_iff.mp e
    obtain ⟨v', _, q'⟩ := q.at e1
    exact at_ok q' e
theorem datas_ok {B H : Hp} : ∀ {ys : List (Key × V)} {ts : List (Key × OT)} {kvs : List (Key × PyData)}, OTks B H ys ts → datas ts = some kvs → KDs B ys kvs
  | _, _, _, .nil, e => by cases e; exact .nil
  | _, _, _, .cons (t := t) q r, e => by
    simp only [datas] at e
    obtain ⟨d, e1, e⟩ := Option.bind_eq_some_iff.mp e
    obtain ⟨ds, e2, e⟩ := Option.map_eq_some_iff.mp e
    cases e
    cases t with
    | d d' => cases e1; cases q with | d q => exact .cons ⟨rfl, q⟩ (datas_ok r e2)
    | n _ _ _ => cases e1
theorem kds_valsO {B : Hp} {ys : List (Key × V)} {kvs : List (Key × PyData)} (h : KDs B ys kvs) : DDs B (ys.map (·.2)) (kvs.map (·.2)) := by
  induction h with
  | nil => exact .nil
  | cons q _ ih => exact .cons q.2 ih
theorem otvw_ok {K : PySem.W.Frag} {B H : Hp} {v : V} {t : OT} {w : Vw} (q : OTk B H v t) (e : t.vw = some w) : OV K B H v w := by
  cases q with
  | d _ => cases e
  | @n a b ys ts h q =>
    cases b with
    | true =>
      simp only [OT.vw] at e
      split at e
      · cases e; rename_i kvs e1; exact ⟨a, ys, rfl, h, datas_ok q e1⟩
      · cases e; exact ⟨a, ys, rfl, h, q.keys⟩
    | false =>
      simp only [OT.vw] at e
      split at e
      · cases e; rename_i kvs e1; exact .inr ⟨a, _, _, rfl, rfl, h, kds_valsO (datas_ok q e1)⟩
      · cases e; exact ⟨a, _, rfl, h, by rw [List.length_map]; exact q.len⟩
theorem alAt_some {δ : SEnv} {a : Addr} {i : Nat} {p : List Key} {u : OT} (e : alAt δ a i p = some u) : ∃ b t, δ[i]? = some (some (.o b (.ot t))) ∧ t.at p = some u ∧ u.root = some a := by
  unfold alAt at e
  split at e
  · rename_i b t e1
    obtain ⟨u', e2, e⟩ := Option.bind_eq_some_iff.mp e
    split at e
    · cases e; exact ⟨b, t, e1, e2, by assumption⟩
    · cases e
  · cases e
theorem alAt_ok {K : PySem.W.Frag} {F B H : Hp} {vs : List V} {σ : L2.St} {δ : SEnv} {a : Addr} {i : Nat} {p : List Key} {u : OT} (h : Rep K F B H vs σ δ) (e : alAt δ a i p = some u) : OTk B H (.ref a) u := by
  obtain ⟨b, t, e1, e2, e3⟩ := alAt_some e
  obtain ⟨v, _, a0, rfl, _, q, _⟩ := h.ok i _ e1
  obtain ⟨v', q'⟩ := at_ok q e2
  have := q'.root e3
  subst this
  exact q'
theorem cont_ov {a : Addr} {c : Cont} {w : Vw} (hr : Rep K F B H vs σ δ) (h : ContOk B H a c) (e : c.vw δ = some w) : OV K B H (.ref a) w := by
  cases c with
  | l ds => cases e; obtain ⟨xs, e, q⟩ := h; exact .inr ⟨a, xs, ds, rfl, rfl, e, q⟩
  | k kvs => cases e; obtain ⟨xs, e, q⟩ := h; exact ⟨a, xs, rfl, e, q⟩
  | t kvs => cases e; obtain ⟨xs, q⟩ := h; exact ⟨a, xs, rfl, q⟩
  | ot t => exact otvw_ok h.1 e
  | al a' i p =>
    cases (show a = a' from h)
    obtain ⟨u, e1, e⟩ := Option.bind_eq_some_iff.mp e
    exact otvw_ok (alAt_ok hr e1) e
  | tp ps => cases e
  | pt ds => cases e; obtain ⟨o, xs, e, ec, ed, q⟩ := h; exact ⟨a, o, xs, rfl, e, ec, ed, q⟩
  | fk d kvs => cases e; obtain ⟨_, o, ys, e, q⟩ := h; exact ⟨a, ys, rfl, .inr ⟨o, hr.sb _ _ e⟩, q⟩
theorem view_ok {r : R} {w : Vw} (h : Rep K F B H vs σ δ) (hr : RepR K F B H σ δ v r) (e : view δ r = some w) : OV K B H v w := by
  cases r with
  | d d => cases e; exact .inl hr
  | w d => cases e; exact wv_ov hr
  | n c =>
    obtain ⟨a, rfl, _, q, _⟩ := hr
    exact cont_ov h q e
  | o i =>
    have e1 : σ[i]? = some (some v) := hr
    obtain ⟨s, e2⟩ : ∃ s, δ[i]? = some (some s) := by
      simp only [view] at e
      split at e
      · exact ⟨_, by assumption⟩
      · exact ⟨_, by assumption⟩
      · exact ⟨_, by assumption⟩
      · cases e
    obtain ⟨v', e3, q⟩ := h.ok i s e2
    have ev : v = v' := by
      have z := e1.symm.trans e3
      exact Option.some.inj (Option.some.inj z)
    subst ev
    cases s with
    | d d => simp only [view, e2, Option.some.injEq] at e; subst e; exact .inl q
    | w d => simp only [view, e2, Option.some.injEq] at e; subst e; exact wv_ov q
    | o b c =>
      simp only [view, e2] at e
      obtain ⟨a, rfl, _, q⟩ := q
      exact cont_ov h q e
theorem plain_ok {i : Nat} {ds : List PyData} (h : Rep K F B H vs σ δ) (q : RepR K F B H σ δ v (.o i)) (e : plainAt δ i = some ds) : InP B v ds := by
  unfold plainAt at e
  split at e
  · rename_i b ds' hd
    cases e
    obtain ⟨v', e5, a, ev, _, o, xs, e6, e7, e8, e9⟩ := h.ok i _ hd
    have q1' : σ[i]? = some (some _) := q
    rw [q1'] at e5; cases e5
    exact ⟨a, o, xs, ev, e6, e7, e8, e9⟩
  · cases e
theorem DW.dp {d : PyData} (h : DW K v d) : Dp K H v d := dp_mono (fun _ _ z => by cases z) h
theorem OV.dp {d : PyData} (s : Same B H) (h : OV K B H v (.d d)) : Dp K H v d := by
  rcases h with h | ⟨a, xs, ds, rfl, rfl, e, q⟩
  · exact (h.mono s).dp
  · exact .lst (SqL.of e) (q.mono s).dp
/-- a slot's knowledge is given up -/
theorem set_get {α : Type} {l : List α} {i j : Nat} {x y : α} (h : (l.set i x)[j]? = some y) : (j = i ∧ y = x) ∨ (j ≠ i ∧ l[j]? = some y) := by
  by_cases e : j = i
  · subst e
    have hl : j < (l.set j x).length := (List.getElem?_eq_some_iff.mp h).1
    rw [List.length_set] at hl
    rw [List.getElem?_set_self hl] at h
    exact .inl ⟨rfl, (Option.some.inj h).symm⟩
  · rw [List.getElem?_set_ne (Ne.symm e)] at h
    exact .inr ⟨e, h⟩
theorem Rep.forget (h : Rep K F B H vs σ δ) (i : Nat) : Rep K F B H vs σ (δ.set i none) := by
  refine ⟨h.sb, h.sf, h.dj, by rw [List.length_set]; exact h.len, fun j s e => ?_, fun j k a a' p b c b' c' e1 e2 => ?_, fun j c e => ?_, h.nt⟩
  · rcases set_get e with ⟨_, z⟩ | ⟨_, z⟩
    · cases z
    · exact h.ok j s z
  · rcases set_get e1 with ⟨_, z⟩ | ⟨_, z⟩
    · cases z
    · rcases set_get e2 with ⟨_, z2⟩ | ⟨_, z2⟩
      · cases z2
      · exact h.apart j k a a' p b c b' c' z z2
  · rcases set_get e with ⟨_, z⟩ | ⟨_, z⟩
    · cases z
    · exact h.bor j c z
/-- a slot is known to hold data (its value as it is) -/
theorem Rep.know (h : Rep K F B H vs σ δ) {i : Nat} {d : PyData} (e : σ[i]? = some (some v)) (q : DD B v d) : Rep K F B H vs σ (δ.set i (some (.d d))) := by
  refine ⟨h.sb, h.sf, h.dj, by rw [List.length_set]; exact h.len, fun j s e => ?_, fun j k a a' p b c b' c' e1 e2 => ?_, fun j c e => ?_, h.nt⟩
  · rcases set_get e with ⟨rfl, z⟩ | ⟨_, z⟩
    · cases z; exact ⟨v, by assumption, q⟩
    · exact h.ok j s z
  · rcases set_get e1 with ⟨_, z⟩ | ⟨_, z⟩
    · cases z
    · rcases set_get e2 with ⟨_, z2⟩ | ⟨_, z2⟩
      · cases z2
      · exact h.apart j k a a' p b c b' c' z z2
  · rcases set_get e with ⟨_, z⟩ | ⟨_, z⟩
    · cases z
    · exact h.bor j c z
theorem set_set' {α : Type} (l : List α) (i : Nat) (x y : α) : (l.set i x).set i y = l.set i y := by rw [List.set_set]
theorem frz_ok {r : R} {d : PyData} {δ' : SEnv} (h : Rep K F B H vs σ δ) (hr : RepR K F B H σ δ v r) (e : frz δ r = some (d, δ')) : ∃ B', Same B B' ∧ Rep K F B' H vs σ δ' ∧ DD B' v d := by
  cases r with
  | d d => cases e; exact ⟨B, Same.refl _, h, hr⟩
  | w d =>
    simp only [frz] at e
    split at e
    · cases e; exact ⟨B, Same.refl _, h, DW.scal hr (by assumption)⟩
    · cases e
  | n c =>
    cases c with
    | l ds =>
      cases e
      obtain ⟨a, rfl, hBF, ⟨xs, e1, q⟩, hn⟩ := hr
      have hB := (hBF a foot_self).1
      exact ⟨_, same_new hB _, h.freeze e1 hB (hBF a foot_self).2 hn, .lst (.inl upd_same) (q.mono (same_new hB _))⟩
    | k _ => cases e
    | t _ => cases e
    | ot _ => cases e
    | al _ _ _ => cases e
    | tp _ => cases e
    | pt _ => cases e
    | fk _ _ => cases e
  | o i =>
    have e1 : σ[i]? = some (some v) := hr
    obtain ⟨s, e2⟩ : ∃ s, δ[i]? = some (some s) := by
      simp only [frz] at e
      split at e
      · exact ⟨_, by assumption⟩
      · exact ⟨_, by assumption⟩
      · exact ⟨_, by assumption⟩
      · cases e
    obtain ⟨v', e3, q⟩ := h.ok i s e2
    have ev : v = v' := by
      have z := e1.symm.trans e3
      exact Option.some.inj (Option.some.inj z)
    subst ev
    simp only [frz, e2] at e
    cases s with
    | d d => cases e; exact ⟨B, Same.refl _, h, q⟩
    | w d =>
      simp only at e
      split at e
      · cases e; exact ⟨B, Same.refl _, h, DW.scal q (by assumption)⟩
      · cases e
    | o b c =>
      cases b with
      | true => cases e
      | false =>
        cases c with
        | k _ => cases e
        | t _ => cases e
        | ot _ => cases e
        | al _ _ _ => cases e
        | tp _ => cases e
        | pt _ => cases e
        | fk _ _ => cases e
        | l ds =>
          cases e
          obtain ⟨a, rfl, hBF, ⟨xs, e4, q⟩⟩ := q
          have hB := (hBF a foot_self).1
          have h1 := (h.forget i).freeze e4 hB (hBF a foot_self).2 (fun j b' c' a' p e5 e6 f ep => by
            rcases set_get e5 with ⟨_, z⟩ | ⟨n, z⟩
            · cases z
            · subst ep
              exact n (h.apart j i a' p p b' c' false _ z e2 e6 e1 f foot_self))
          have h2 := h1.know (i := i) e1 (DD.lst (.inl upd_same) (q.mono (same_new hB _)))
          rw [set_set'] at h2
          exact ⟨_, same_new hB _, h2, .lst (.inl upd_same) (q.mono (same_new hB _))⟩
theorem RepR.up {r : R} (s : Same B B') (h : RepR K F B H σ δ v r) (hn : ∀ c, r ≠ .n c) {δ' : SEnv} : RepR K F B' H' σ δ' v r := by
  cases r with
  | d d => exact DD.mono s h
  | w d => exact h
  | o i => exact h
  | n c => exact absurd rfl (hn c)
theorem settle_ok {r r' : R} (h : Rep K F B H vs σ δ) (hr : RepR K F B H σ δ v r) (e : settle r = some r') : ∃ B', Same B B' ∧ Rep K F B' H vs σ δ ∧ RepR K F B' H σ δ v r' ∧ ∀ c, r' ≠ .n c := by
  cases r with
  | d d => cases e; exact ⟨B, Same.refl _, h, hr, fun _ z => nomatch z⟩
  | w d => cases e; exact ⟨B, Same.refl _, h, hr, fun _ z => nomatch z⟩
  | o i => cases e; exact ⟨B, Same.refl _, h, hr, fun _ z => nomatch z⟩
  | n c =>
    cases c with
    | l ds =>
      cases e
      obtain ⟨B', s, h', q⟩ := frz_ok (δ' := δ) h hr rfl
      exact ⟨B', s, h', q, fun _ z => nomatch z⟩
    | k _ => cases e
    | t _ => cases e
    | ot _ => cases e
    | al _ _ _ => cases e
    | tp _ => cases e
    | pt _ => cases e
    | fk _ _ => cases e
end
end DL
set_option Elab.async false
set_option linter.all false
set_option maxRecDepth 100000
set_option maxHeartbeats 4000000
set_option autoImplicit false
namespace DL
open PySem PySem.Spec PyProof.Rows L2
def ob {α : Type} (o : Option α) (p : α → Prop) : Prop := ∃ a, o = some a ∧ p a
theorem ob.imp {α : Type} {o : Option α} {p q : α → Prop} (h : ob o p) (f : ∀ a, p a → q a) : ob o q := let ⟨a, e, x⟩ := h; ⟨a, e, f a x⟩
inductive Rv where
  | val (d : PyData)
  | tup (ds : List PyData)
  | lst (ds : List PyData)
  | dk (kvs : List (Key × PyData))
  | dt (kvs : List (List Int × PyData))
def Rv.r : Rv → R
  | .val d => .d d
  | .tup ds => .d (.tuple ds)
  | .lst ds => .n (.l ds)
  | .dk kvs => .n (.k kvs)
  | .dt kvs => .n (.t kvs)
def RvK (B H : Hp) (Q : VK) : Rv → Prop
  | .val d => ∀ z, DD B z d → Q z H
  | .tup ds => (∀ z, DD B z (.tuple ds) → Q z H) ∧ ∀ (p : Addr) (o : Obj) (xs : List V), H p = none → o.cls = .type "tuple" → o.dict = none → DDs B xs ds → Q (.ref p) (upd H p (.frz o (.tup xs)))
  | .lst ds => ∀ p xs, H p = none → DDs B xs ds → Q (.ref p) (upd H p (.lst xs))
  | .dk kvs => ∀ p ys, H p = none → KDs B ys kvs → Q (.ref p) (upd H p (.dK ys))
  | .dt kvs => ∀ p xs, H p = none → TDi B (upd H p (dictI p xs)) p xs kvs → Q (.ref p) (upd H p (dictI p xs))
theorem foot_bf {F B H : Hp} {p : Addr} {c : Cont} (s : c.simple = true) (hB : B p = none) (hF : F p = none) : ∀ r, Foot H p c r → B r = none ∧ F r = none := fun r f => by cases foot_one s f; exact ⟨hB, hF⟩
section
variable {K : PySem.W.Frag} {F B H : Hp} {vs : List V} {σ : L2.St} {δ : SEnv}
theorem rvk_ok {rv : Rv} {P : R → SEnv → Prop} {Q : VK} {B0 : Hp} (s : Same B0 B) (h : Rep K F B H vs σ δ) (hP : P rv.r δ)
    (k : ∀ B' H' v r δ', Same B0 B' → Rep K F B' H' vs σ δ' → RepR K F B' H' σ δ' v r → P r δ' → Q v H') : RvK B H Q rv := by
  cases rv with
  | val d => exact fun z q => k B H z (.d d) δ s h q hP
  | tup ds =>
    refine ⟨fun z q => k B H z (.d (.tuple ds)) δ s h q hP, fun p o xs hp ec ed q => ?_⟩
    exact k _ _ (.ref p) (.d (.tuple ds)) δ (s.trans (same_new (nof h.sb hp) _)) (h.new hp _) (DD.tup ⟨o, upd_same, ec, ed⟩ (q.mono (same_new (nof h.sb hp) _))) hP
  | lst ds => exact fun p xs hp q => k _ _ (.ref p) (.n (.l ds)) δ s (h.newO hp _) ⟨p, rfl, foot_bf rfl (nof h.sb hp) (nof h.sf hp), ⟨xs, upd_same, q⟩, h.fresh hp _⟩ hP
  | dk kvs => exact fun p xs hp q => k _ _ (.ref p) (.n (.k kvs)) δ s (h.newO hp _) ⟨p, rfl, foot_bf rfl (nof h.sb hp) (nof h.sf hp), ⟨xs, upd_same, q⟩, h.fresh hp _⟩ hP
  | dt kvs => exact fun p xs hp q => k _ _ (.ref p) (.n (.t kvs)) δ s (h.newO hp _) ⟨p, rfl, foot_bf rfl (nof h.sb hp) (nof h.sf hp), ⟨xs, q⟩, h.fresh hp _⟩ hP
end
def wVar (i : Nat) : WE := fun _ δ P => ob (δ[i]?) fun o => ob o fun s => match s with
  | .d d => P (.d d) δ
  | .w d => P (.w d) δ
  | .o _ _ => P (.o i) δ
def wC (d : PyData) : WE := fun _ δ P => P (.d d) δ
section
variable {S : Sg}
theorem de_var {i : Nat} {x : Str} {pos : Pos} (hN : S.N[i]? = some x) (hv : Vis S.sc x) (hd : (x == ("__debug__" : Str)) = false := by decide) (hcd : (x == ("__classdict__" : Str)) = false := by decide) : DE S (.Name x pos) (wVar i) := by
  refine ⟨tVar i, fun c hc => pe_var (X := S.g.cx c) (by show c.N[i]? = _; rw [hc.hN]; exact hN) (by show Vis c.env.scope x; rw [hc.hs]; exact hv) hd hcd, ⟨fun Ex Ex' δ P P' _ h w => ?_, fun Ex F B H vs σ δ P Q hx h w k => ?_⟩⟩
  · obtain ⟨o, e, s, e2, w⟩ := w
    refine ⟨o, e, s, e2, ?_⟩
    cases s <;> exact h _ _ w
  · obtain ⟨o, e, s, e2, w⟩ := w
    subst e2
    obtain ⟨v, e3, q⟩ := h.ok i s e
    refine ⟨v, e3, ?_⟩
    cases s with
    | d d => exact k B H v (.d d) δ (Same.refl _) h q w
    | w d => exact k B H v (.w d) δ (Same.refl _) h q w
    | o b c => exact k B H v (.o i) δ (Same.refl _) h e3 w
theorem de_const {e : Expr} {v : V} {d : PyData} (h : ∀ c, S.ok c → PE (S.g.cx c) e (tC v)) (q : ∀ B, DD B v d) : DE S e (wC d) :=
  ⟨tC v, h, ⟨fun _ _ δ P P' _ h w => h _ _ w, fun Ex F B H vs σ δ P Q hx h w k => k B H v (.d d) δ (Same.refl _) h (q B) w⟩⟩
theorem de_int {i : Int} {j : Nat} {pos : Pos} : DE S (.Constant (.int i) j pos) (wC (.int i)) := de_const (v := .int i) (fun _ _ => pe_int) fun _ => .int i
theorem de_bl {b : Bool} {j : Nat} {pos : Pos} : DE S (.Constant (.bool b) j pos) (wC (.bool b)) := de_const (v := .bl b) (fun _ _ => pe_bl) fun _ => .bl b
theorem de_non {j : Nat} {pos : Pos} : DE S (.Constant .none j pos) (wC .none) := de_const (v := .non) (fun _ _ => pe_non) fun _ => .non
theorem de_str {x : Str} {j : Nat} {pos : Pos} : DE S (.Constant (.str x) j pos) (wC (.str x)) := de_const (v := .str x) (fun _ _ => pe_str) fun _ => .str x
def rF (K : PySem.W.Frag) (f : Vw → Vw → Option Rv) : R2 := fun x y H Q => ∃ B a b rv, Same B H ∧ OV K B H x a ∧ OV K B H y b ∧ f a b = some rv ∧ RvK B H Q rv
def OpS (S : Sg) (op : Value → Value → Sem Value) (f : Vw → Vw → Option Rv) : Prop := ∀ c, S.ok c → OpR (S.g.cx c) op (rF S.g.K f)
def wOp (f : Vw → Vw → Option Rv) (wa wb : WE) : WE := fun Ex δ P => wa Ex δ fun ra δ1 => ob (settle ra) fun ra' => wb Ex δ1 fun rb δ2 => ob (view δ2 ra') fun a => ob (view δ2 rb) fun b => ob (f a b) fun rv => P rv.r δ2
theorem sim_op {K : PySem.W.Frag} {E : XK} {ta tb : TE} {wa wb : WE} {f : Vw → Vw → Option Rv} (ha : ESim K E ta wa) (hb : ESim K E tb wb) : ESim K E (tOp (rF K f) ta tb) (wOp f wa wb) := by
  refine ⟨fun Ex Ex' δ P P' hx h w => ?_, fun Ex F B H vs σ δ P Q hx h w k => ?_⟩
  · refine ha.mono _ _ _ _ _ hx (fun r δ1 w => w.imp fun r' w => ?_) w
    exact hb.mono _ _ _ _ _ hx (fun r δ2 w => w.imp fun a w => w.imp fun b w => w.imp fun rv w => h _ _ w) w
  · refine ha.run _ _ _ _ _ _ _ _ _ hx h w fun B1 H1 x ra δ1 s1 h1 q1 w1 => ?_
    obtain ⟨ra', e1, w1⟩ := w1
    obtain ⟨B2, s2, h2, q2, n2⟩ := settle_ok h1 q1 e1
    refine hb.run _ _ _ _ _ _ _ _ _ (hx.up (s1.trans s2)) h2 w1 fun B3 H3 y rb δ2 s3 h3 q3 w3 => ?_
    obtain ⟨a, e2, b, e3, rv, e4, w3⟩ := w3
    have q4 := RepR.up (H' := H3) s3 q2 n2 (δ' := δ2)
    exact ⟨B3, a, b, rv, h3.sb, view_ok h3 q4 e2, view_ok h3 q3 e3, e4, rvk_ok ((s1.trans s2).trans s3) h3 w3 k⟩
theorem de_op {a b : Expr} {wa wb : WE} {pos : Pos} {op : Operator} {f : Vw → Vw → Option Rv} (ho : OpS S (binaryOp op) f) (ha : DE S a wa) (hb : DE S b wb) : DE S (.BinOp a op b pos) (wOp f wa wb) := by
  obtain ⟨ta, pa, sa⟩ := ha
  obtain ⟨tb, pb, sb⟩ := hb
  exact ⟨_, fun c hc => pe_op (ho c hc) (pa c hc) (pb c hc), sim_op sa sb⟩
theorem de_cmp {a b : Expr} {wa wb : WE} {pos : Pos} {op : CmpOp} {f : Vw → Vw → Option Rv} (ho : OpS S (compareOp op) f) (ha : DE S a wa) (hb : DE S b wb) (hm : behindInMarks op b = false) : DE S (.Compare a [op] [b] pos) (wOp f wa wb) := by
  obtain ⟨ta, pa, sa⟩ := ha
  obtain ⟨tb, pb, sb⟩ := hb
  exact ⟨_, fun c hc => pe_cmpR (ho c hc) (pa c hc) (pb c hc) hm, sim_op sa sb⟩
def isB : R → Option Bool
  | .d (.bool b) => some b
  | _ => none
def wB (wa : WE) : WT := fun Ex δ P => wa Ex δ fun r δ1 => ob (isB r) fun b => P b δ1
theorem isB_ok {K : PySem.W.Frag} {F B H : Hp} {σ : L2.St} {δ : SEnv} {v : V} {r : R} {b : Bool} (h : RepR K F B H σ δ v r) (e : isB r = some b) : v = .bl b := by
  unfold isB at e
  split at e
  · cases e; cases (show DD B v (.bool b) from h); rfl
  · cases e
theorem sim_test {K : PySem.W.Frag} {E : XK} {ta : TE} {wa : WE} (ha : ESim K E ta wa) : TSim K E (tTest ta) (wB wa) := by
  refine ⟨fun Ex Ex' δ P P' hx h w => ha.mono _ _ _ _ _ hx (fun r δ1 w => w.imp fun b w => h _ _ w) w, fun Ex F B H vs σ δ P Q hx h w k => ?_⟩
  refine ha.run _ _ _ _ _ _ _ _ _ hx h w fun B1 H1 x ra δ1 s1 h1 q1 w1 => ?_
  obtain ⟨b, e, w1⟩ := w1
  exact ⟨b, isB_ok q1 e, k B1 H1 b δ1 s1 h1 w1⟩
theorem dt_cmp {a b : Expr} {wa wb : WE} {pos : Pos} {op : CmpOp} {f : Vw → Vw → Option Rv} (ho : OpS S (compareOp op) f) (ha : DE S a wa) (hb : DE S b wb) (hm : behindInMarks op b = false) : DT S (.Compare a [op] [b] pos) (wB (wOp f wa wb)) := by
  obtain ⟨ta, pa, sa⟩ := ha
  obtain ⟨tb, pb, sb⟩ := hb
  exact ⟨_, fun c hc => pt_cmpR (ho c hc) (pa c hc) (pb c hc) hm, sim_test (sim_op sa sb)⟩
/-- a value's truth -/
def truD : PyData → Option Bool
  | .none => some false
  | .bool b => some b
  | .int i => some (i != 0)
  | .str y => if y.length ≤ sizeLine then some ((y.length : Int) != 0) else none
  | .list ds => some (!ds.isEmpty)
  | .tuple ds => some (!ds.isEmpty)
  | _ => none
def truF : Vw → Option Bool
  | .d d => truD d
  | .w d => truD d
  | .k kvs => some (!kvs.isEmpty)
  | _ => none
def wTru (wa : WE) : WT := fun Ex δ P => wa Ex δ fun r δ1 => ob (view δ1 r) fun w => ob (truF w) fun b => P b δ1
theorem DDs.isEmpty {B : Hp} {vs : List V} {ds : List PyData} (h : DDs B vs ds) : vs.isEmpty = ds.isEmpty := by cases h <;> rfl
theorem dps_isEmpty {K : PySem.W.Frag} {B : Hp} {vs : List V} {ds : List PyData} (h : DpAll K B vs ds) : vs.isEmpty = ds.isEmpty := by cases h <;> rfl
theorem kds_isEmpty {κ : Type} {B : Hp} {vs : List (κ × V)} {ds : List (κ × PyData)} (h : KDs B vs ds) : vs.isEmpty = ds.isEmpty := by cases h <;> rfl
theorem tru_dp {K : PySem.W.Frag} {H : Hp} {v : V} {d : PyData} {b : Bool} (h : Dp K H v d) (e : truD d = some b) : TruV K v H b := by
  cases h with
  | non => cases e; rfl
  | bl b => cases e; rfl
  | int i => cases e; rfl
  | str x =>
    simp only [truD] at e
    split at e
    · cases e; exact ⟨by assumption, rfl⟩
    · cases e
  | lst r q => cases e; exact .inl ⟨_, r, by rw [dps_isEmpty q]⟩
  | tup r q => cases e; exact .inr (.inl ⟨_, r, by rw [dps_isEmpty q]⟩)
theorem tru_ov {K : PySem.W.Frag} {B H : Hp} {v : V} {w : Vw} {b : Bool} (s : Same B H) (h : OV K B H v w) (e : truF w = some b) : TruV K v H b := by
  cases w with
  | d d => exact tru_dp (OV.dp s h) e
  | w d => exact tru_dp (DW.dp h) e
  | k kvs => cases e; obtain ⟨a, ys, rfl, e1, q⟩ := h; exact .inr (.inr ⟨ys, e1, by rw [kds_isEmpty q]⟩)
  | t kvs => cases e
  | xk _ => cases e
  | xl _ => cases e
  | rk _ => cases e
  | xt _ => cases e
theorem dt_tru {a : Expr} {wa : WE} (ha : DE S a wa) (he : ∀ (env : Env) whole, isTrue a env whole = (do let v ← whole; standAt a.pos; holding [v] (truthy v))) : DT S a (wTru wa) := by
  obtain ⟨ta, pa, sa⟩ := ha
  refine ⟨fun σ H Q => ta σ H fun x H' => ∃ k, TruV S.g.K x H' k ∧ Q k H', fun c hc => pt_truth (X := S.g.cx c) (pa c hc) (he _), ⟨fun Ex Ex' δ P P' hx h w => sa.mono _ _ _ _ _ hx (fun r δ1 w => w.imp fun a w => w.imp fun b w => h _ _ w) w, fun Ex F B H vs σ δ P Q hx h w k => ?_⟩⟩
  refine sa.run _ _ _ _ _ _ _ _ _ hx h w fun B1 H1 x ra δ1 s1 h1 q1 w1 => ?_
  obtain ⟨vw, e1, b, e2, w1⟩ := w1
  exact ⟨b, tru_ov h1.sb (view_ok h1 q1 e1) e2, k B1 H1 b δ1 s1 h1 w1⟩
def wAnd (wa wb : WT) : WT := fun Ex δ P => wa Ex δ fun b δ1 => if b = true then wb Ex δ1 P else P false δ1
def wOr (wa wb : WT) : WT := fun Ex δ P => wa Ex δ fun b δ1 => if b = true then P true δ1 else wb Ex δ1 P
def wNot (wa : WT) : WT := fun Ex δ P => wa Ex δ fun b δ1 => P (!b) δ1
theorem dw_and1 {a : Expr} {wa : WT} {pos : Pos} (ha : DT S a wa) : DW' S (.BoolOp .And [a] pos) wa := by
  obtain ⟨t, p, s⟩ := ha
  exact ⟨t, fun c hc => pw_and1 (p c hc), s⟩
theorem dw_or1 {a : Expr} {wa : WT} {pos : Pos} (ha : DT S a wa) : DW' S (.BoolOp .Or [a] pos) wa := by
  obtain ⟨t, p, s⟩ := ha
  exact ⟨t, fun c hc => pw_or1 (p c hc), s⟩
theorem sim_and {K : PySem.W.Frag} {E : XK} {ta tb : TT} {wa wb : WT} (ha : TSim K E ta wa) (hb : TSim K E tb wb) : TSim K E (tAnd ta tb) (wAnd wa wb) := by
  refine ⟨fun Ex Ex' δ P P' hx h w => ha.mono _ _ _ _ _ hx (fun b δ1 w => ?_) w, fun Ex F B H vs σ δ P Q hx h w k => ?_⟩
  · cases b with
    | true => exact hb.mono _ _ _ _ _ hx h w
    | false => exact h _ _ w
  · refine ha.run _ _ _ _ _ _ _ _ _ hx h w fun B1 H1 bb δ1 s1 h1 w1 => ?_
    cases bb with
    | true => exact hb.run _ _ _ _ _ _ _ _ _ (hx.up s1) h1 w1 fun B2 H2 b δ2 s2 h2 w2 => k B2 H2 b δ2 (s1.trans s2) h2 w2
    | false => exact k B1 H1 false δ1 s1 h1 w1
theorem sim_or {K : PySem.W.Frag} {E : XK} {ta tb : TT} {wa wb : WT} (ha : TSim K E ta wa) (hb : TSim K E tb wb) : TSim K E (tOr ta tb) (wOr wa wb) := by
  refine ⟨fun Ex Ex' δ P P' hx h w => ha.mono _ _ _ _ _ hx (fun b δ1 w => ?_) w, fun Ex F B H vs σ δ P Q hx h w k => ?_⟩
  · cases b with
    | true => exact h _ _ w
    | false => exact hb.mono _ _ _ _ _ hx h w
  · refine ha.run _ _ _ _ _ _ _ _ _ hx h w fun B1 H1 bb δ1 s1 h1 w1 => ?_
    cases bb with
    | true => exact k B1 H1 true δ1 s1 h1 w1
    | false => exact hb.run _ _ _ _ _ _ _ _ _ (hx.up s1) h1 w1 fun B2 H2 b δ2 s2 h2 w2 => k B2 H2 b δ2 (s1.trans s2) h2 w2
theorem dw_and {a b : Expr} {rest : List Expr} {wa wb : WT} {pos : Pos} (ha : DT S a wa) (hb : DW' S (.BoolOp .And (b :: rest) pos) wb) : DW' S (.BoolOp .And (a :: b :: rest) pos) (wAnd wa wb) := by
  obtain ⟨ta, pa, sa⟩ := ha
  obtain ⟨tb, pb, sb⟩ := hb
  exact ⟨_, fun c hc => pw_and (pa c hc) (pb c hc), sim_and sa sb⟩
theorem dw_or {a b : Expr} {rest : List Expr} {wa wb : WT} {pos : Pos} (ha : DT S a wa) (hb : DW' S (.BoolOp .Or (b :: rest) pos) wb) : DW' S (.BoolOp .Or (a :: b :: rest) pos) (wOr wa wb) := by
  obtain ⟨ta, pa, sa⟩ := ha
  obtain ⟨tb, pb, sb⟩ := hb
  exact ⟨_, fun c hc => pw_or (pa c hc) (pb c hc), sim_or sa sb⟩
theorem dt_w {e : Expr} {w : WT} (h : DW' S e w) : DT S e w := by
  obtain ⟨t, p, s⟩ := h
  exact ⟨t, fun c hc => (p c hc).pt, s⟩
theorem dt_not {a : Expr} {wa : WT} {pos : Pos} (ha : DT S a wa) : DT S (.UnaryOp .Not a pos) (wNot wa) := by
  obtain ⟨t, p, s⟩ := ha
  refine ⟨_, fun c hc => pt_not (p c hc), ⟨fun Ex Ex' δ P P' hx h w => s.mono _ _ _ _ _ hx (fun b δ1 w => h _ _ w) w, fun Ex F B H vs σ δ P Q hx h w k => ?_⟩⟩
  exact s.run _ _ _ _ _ _ _ _ _ hx h w fun B1 H1 b δ1 s1 h1 w1 => k B1 H1 (!b) δ1 s1 h1 w1
def wAndV (wa wb : WE) : WE := fun Ex δ P => wa Ex δ fun r δ1 => ob (isB r) fun b => if b = true then wb Ex δ1 P else P (.d (.bool false)) δ1
def wOrV (wa wb : WE) : WE := fun Ex δ P => wa Ex δ fun r δ1 => ob (isB r) fun b => if b = true then P (.d (.bool true)) δ1 else wb Ex δ1 P
theorem de_one {a : Expr} {wa : WE} {op : BoolOp} {pos : Pos} (ha : DE S a wa) : DE S (.BoolOp op [a] pos) wa := by
  obtain ⟨t, p, s⟩ := ha
  exact ⟨t, fun c hc => pe_one (p c hc), s⟩
theorem de_and {a b : Expr} {rest : List Expr} {wa wb : WE} {pos : Pos} (ha : DE S a wa) (hb : DE S (.BoolOp .And (b :: rest) pos) wb) : DE S (.BoolOp .And (a :: b :: rest) pos) (wAndV wa wb) := by
  obtain ⟨ta, pa, sa⟩ := ha
  obtain ⟨tb, pb, sb⟩ := hb
  refine ⟨_, fun c hc => pe_and (pa c hc) (pb c hc), ⟨fun Ex Ex' δ P P' hx h w => ?_, fun Ex F B H vs σ δ P Q hx h w k => ?_⟩⟩
  · refine sa.mono _ _ _ _ _ hx (fun r δ1 w => w.imp fun bb w => ?_) w
    cases bb with
    | true => exact sb.mono _ _ _ _ _ hx h w
    | false => exact h _ _ w
  · refine sa.run _ _ _ _ _ _ _ _ _ hx h w fun B1 H1 x r δ1 s1 h1 q1 w1 => ?_
    obtain ⟨bb, e, w1⟩ := w1
    refine ⟨bb, isB_ok q1 e, ?_⟩
    cases bb with
    | true => exact sb.run _ _ _ _ _ _ _ _ _ (hx.up s1) h1 w1 fun B2 H2 v r δ2 s2 h2 q2 w2 => k B2 H2 v r δ2 (s1.trans s2) h2 q2 w2
    | false => exact k B1 H1 _ (.d (.bool false)) δ1 s1 h1 (DD.bl false) w1
theorem de_or {a b : Expr} {rest : List Expr} {wa wb : WE} {pos : Pos} (ha : DE S a wa) (hb : DE S (.BoolOp .Or (b :: rest) pos) wb) : DE S (.BoolOp .Or (a :: b :: rest) pos) (wOrV wa wb) := by
  obtain ⟨ta, pa, sa⟩ := ha
  obtain ⟨tb, pb, sb⟩ := hb
  refine ⟨_, fun c hc => pe_or (pa c hc) (pb c hc), ⟨fun Ex Ex' δ P P' hx h w => ?_, fun Ex F B H vs σ δ P Q hx h w k => ?_⟩⟩
  · refine sa.mono _ _ _ _ _ hx (fun r δ1 w => w.imp fun bb w => ?_) w
    cases bb with
    | true => exact h _ _ w
    | false => exact sb.mono _ _ _ _ _ hx h w
  · refine sa.run _ _ _ _ _ _ _ _ _ hx h w fun B1 H1 x r δ1 s1 h1 q1 w1 => ?_
    obtain ⟨bb, e, w1⟩ := w1
    refine ⟨bb, isB_ok q1 e, ?_⟩
    cases bb with
    | true => exact k B1 H1 _ (.d (.bool true)) δ1 s1 h1 (DD.bl true) w1
    | false => exact sb.run _ _ _ _ _ _ _ _ _ (hx.up s1) h1 w1 fun B2 H2 v r δ2 s2 h2 q2 w2 => k B2 H2 v r δ2 (s1.trans s2) h2 q2 w2
def wIf (wt : WT) (wa wb : WE) : WE := fun Ex δ P => wt Ex δ fun b δ1 => if b = true then wa Ex δ1 P else wb Ex δ1 P
theorem de_ifx {c a b : Expr} {wt : WT} {wa wb : WE} {pos : Pos} (hc : DT S c wt) (ha : DE S a wa) (hb : DE S b wb) : DE S (.IfExp c a b pos) (wIf wt wa wb) := by
  obtain ⟨tt, pt, st⟩ := hc
  obtain ⟨ta, pa, sa⟩ := ha
  obtain ⟨tb, pb, sb⟩ := hb
  refine ⟨_, fun c hc => pe_ifExp (pt c hc) (pa c hc) (pb c hc), ⟨fun Ex Ex' δ P P' hx h w => st.mono _ _ _ _ _ hx (fun bb δ1 w => ?_) w, fun Ex F B H vs σ δ P Q hx h w k => ?_⟩⟩
  · cases bb with
    | true => exact sa.mono _ _ _ _ _ hx h w
    | false => exact sb.mono _ _ _ _ _ hx h w
  · refine st.run _ _ _ _ _ _ _ _ _ hx h w fun B1 H1 bb δ1 s1 h1 w1 => ?_
    cases bb with
    | true => exact sa.run _ _ _ _ _ _ _ _ _ (hx.up s1) h1 w1 fun B2 H2 v r δ2 s2 h2 q2 w2 => k B2 H2 v r δ2 (s1.trans s2) h2 q2 w2
    | false => exact sb.run _ _ _ _ _ _ _ _ _ (hx.up s1) h1 w1 fun B2 H2 v r δ2 s2 h2 q2 w2 => k B2 H2 v r δ2 (s1.trans s2) h2 q2 w2
end
end DL
set_option Elab.async false
set_option linter.all false
set_option maxRecDepth 100000
set_option maxHeartbeats 4000000
set_option autoImplicit false
namespace DL
open PySem PySem.Spec PyProof.Rows L2
def wNil : WA := fun _ δ P => P [] δ
def wCons (wa : WE) (wr : WA) : WA := fun Ex δ P => wa Ex δ fun r δ1 => ob (settle r) fun r' => wr Ex δ1 fun rs δ2 => P (r' :: rs) δ2
section
variable {S : Sg}
theorem da_nil : DA S [] wNil := ⟨tNil, fun _ _ => pa_nil, ⟨fun _ _ δ P P' _ h w => h _ _ w, fun Ex F B H vs σ δ P Q hx h w k => k B H [] [] δ (Same.refl _) h .nil w⟩⟩
theorem da_cons {e : Expr} {es : List Expr} {wa : WE} {wr : WA} (ha : DE S e wa) (hr : DA S es wr) (hs : ∀ env, starEach (e :: es) env = (false, eval e env) :: starEach es env := by intro _; rfl) : DA S (e :: es) (wCons wa wr) := by
  obtain ⟨ta, pa, sa⟩ := ha
  obtain ⟨tr, pr, sr⟩ := hr
  refine ⟨_, fun c hc => pa_cons (pa c hc) (pr c hc) (hs _), ⟨fun Ex Ex' δ P P' hx h w => ?_, fun Ex F B H vs σ δ P Q hx h w k => ?_⟩⟩
  · refine sa.mono _ _ _ _ _ hx (fun r δ1 w => w.imp fun r' w => ?_) w
    exact sr.mono _ _ _ _ _ hx (fun rs δ2 w => h _ _ w) w
  · refine sa.run _ _ _ _ _ _ _ _ _ hx h w fun B1 H1 x r δ1 s1 h1 q1 w1 => ?_
    obtain ⟨r', e1, w1⟩ := w1
    obtain ⟨B2, s2, h2, q2, n2⟩ := settle_ok h1 q1 e1
    refine sr.run _ _ _ _ _ _ _ _ _ (hx.up (s1.trans s2)) h2 w1 fun B3 H3 ws rs δ2 s3 h3 q3 w3 => ?_
    exact k B3 H3 (x :: ws) (r' :: rs) δ2 ((s1.trans s2).trans s3) h3 (.cons ⟨RepR.up s3 q2 n2, n2⟩ q3) w3
def frzs : SEnv → List R → Option (List PyData × SEnv)
  | δ, [] => some ([], δ)
  | δ, r :: rs => (frz δ r).bind fun p => (frzs p.2 rs).map fun q => (p.1 :: q.1, q.2)
theorem frzs_ok {K : PySem.W.Frag} {F H : Hp} {vs : List V} {σ : L2.St} : ∀ {rs : List R} {ws : List V} {B : Hp} {δ δ' : SEnv} {ds : List PyData}, Rep K F B H vs σ δ → RepRs K F B H σ δ ws rs → frzs δ rs = some (ds, δ') →
    ∃ B', Same B B' ∧ Rep K F B' H vs σ δ' ∧ DDs B' ws ds
  | [], _, B, δ, _, _, h, q, e => by
    cases q; cases e
    exact ⟨B, Same.refl _, h, .nil⟩
  | r :: rs, _, B, δ, _, _, h, q, e => by
    cases q with
    | cons q1 q2 =>
      simp only [frzs] at e
      obtain ⟨⟨d, δ1⟩, e1, e⟩ := Option.bind_eq_some_iff.mp e
      obtain ⟨⟨ds, δ2⟩, e2, e⟩ := Option.map_eq_some_iff.mp e
      cases e
      obtain ⟨B1, s1, h1, d1⟩ := frz_ok h q1.1 e1
      have q2' := Paired.mapP q2 (G := fun v r => RepR K F B1 H σ δ1 v r ∧ ∀ c, r ≠ .n c) fun v r z => ⟨RepR.up s1 z.1 z.2, z.2⟩
      obtain ⟨B2, s2, h2, d2⟩ := frzs_ok h1 q2' e2
      exact ⟨B2, s1.trans s2, h2, .cons (d1.mono s2) d2⟩
def wTup (wr : WA) : WE := fun Ex δ P => wr Ex δ fun rs δ1 => ob (frzs δ1 rs) fun p => p.1.length ≤ sizeLine ∧ P (.d (.tuple p.1)) p.2
def wLst (wr : WA) : WE := fun Ex δ P => wr Ex δ fun rs δ1 => ob (frzs δ1 rs) fun p => p.1.length ≤ sizeLine ∧ P (.n (.l p.1)) p.2
def tTupF (t : TA) : TE := fun σ H Q => t σ H fun xs H1 => xs.length ≤ sizeLine ∧ ∀ (p : Addr) (o : Obj), H1 p = none → o.cls = .type "tuple" → o.dict = none → Q (.ref p) (upd H1 p (.frz o (.tup xs)))
theorem pe_tupF {X : Cx} {es : List Expr} {t : TA} {x1 : Nat} {pos : Pos} (h : PA X es t) : PE X (.Tuple es x1 pos) (tTupF t) := by
  refine ⟨fun pins s σ H Q I hq => ?_⟩
  refine wpAny_Tuple_spliced (thn (h.run pos pins s σ H _ I hq) fun us s1 ⟨xs, H1, I1, r, z, q⟩ => ⟨by rw [← r.length]; exact z, ?_⟩)
  have hf : H1 s1.heap.objs.size = none := I1.hok.fresh (Nat.le_refl _)
  refine ⟨.ref s1.heap.objs.size, upd H1 s1.heap.objs.size (.frz _ (.tup xs)), I1.laid (t' := s1.toks) (fun b u e => Heap.get?_push_of_some _ e) (Nat.le_refl _) ⟨Heap.get?_push_size _ rfl, (show ObjOk X.prog X.w _ _ _ (.tup xs) from ?_)⟩, rfl, q _ _ hf rfl rfl⟩
  exact ⟨z, us, r, ⟨_, Heap.get?_push_size _ rfl, rfl, _, rfl⟩⟩
theorem de_tup {es : List Expr} {wr : WA} {x1 : Nat} {pos : Pos} (h : DA S es wr) : DE S (.Tuple es x1 pos) (wTup wr) := by
  obtain ⟨t, p, s⟩ := h
  refine ⟨_, fun c hc => pe_tupF (p c hc), ⟨fun Ex Ex' δ P P' hx h w => s.mono _ _ _ _ _ hx (fun r δ1 w => w.imp fun z w => ⟨w.1, h _ _ w.2⟩) w, fun Ex F B H vs σ δ P Q hx h w k => ?_⟩⟩
  refine s.run _ _ _ _ _ _ _ _ _ hx h w fun B1 H1 ws rs δ1 s1 h1 q1 w1 => ?_
  obtain ⟨⟨ds, δ2⟩, e, hl, w1⟩ := w1
  obtain ⟨B2, s2, h2, d2⟩ := frzs_ok h1 q1 e
  refine ⟨by rw [d2.length]; exact hl, fun p o hp ec ed => ?_⟩
  exact k _ _ (.ref p) (.d (.tuple ds)) δ2 ((s1.trans s2).trans (same_new (nof h2.sb hp) _)) (h2.new hp _) (DD.tup ⟨o, upd_same, ec, ed⟩ (d2.mono (same_new (nof h2.sb hp) _))) w1
theorem de_lst {es : List Expr} {wr : WA} {pos : Pos} (h : DA S es wr) : DE S (.List es pos) (wLst wr) := by
  obtain ⟨t, p, s⟩ := h
  refine ⟨_, fun c hc => pe_lst (p c hc), ⟨fun Ex Ex' δ P P' hx h w => s.mono _ _ _ _ _ hx (fun r δ1 w => w.imp fun z w => ⟨w.1, h _ _ w.2⟩) w, fun Ex F B H vs σ δ P Q hx h w k => ?_⟩⟩
  refine s.run _ _ _ _ _ _ _ _ _ hx h w fun B1 H1 ws rs δ1 s1 h1 q1 w1 => ?_
  obtain ⟨⟨ds, δ2⟩, e, hl, w1⟩ := w1
  obtain ⟨B2, s2, h2, d2⟩ := frzs_ok h1 q1 e
  refine ⟨by rw [d2.length]; exact hl, fun p hp => ?_⟩
  exact k _ _ (.ref p) (.n (.l ds)) δ2 (s1.trans s2) (h2.newO hp _) ⟨p, rfl, foot_bf rfl (nof h2.sb hp) (nof h2.sf hp), ⟨ws, upd_same, d2⟩, h2.fresh hp _⟩ w1
def OVs (K : PySem.W.Frag) (B H : Hp) : List V → List Vw → Prop := Paired fun v w => OV K B H v w
def rC (K : PySem.W.Frag) (f : List Vw → Option Rv) : List V → Hp → VK → Prop := fun xs H Q => ∃ B as rv, Same B H ∧ OVs K B H xs as ∧ f as = some rv ∧ RvK B H Q rv
def CallS (S : Sg) (fv : Value) (f : List Vw → Option Rv) : Prop := ∀ c, S.ok c → CallR (S.g.cx c) fv (rC S.g.K f)
def views (δ : SEnv) : List R → Option (List Vw)
  | [] => some []
  | r :: rs => (view δ r).bind fun w => (views δ rs).map fun ws => w :: ws
theorem views_ok {K : PySem.W.Frag} {F B H : Hp} {vs : List V} {σ : L2.St} {δ : SEnv} (h : Rep K F B H vs σ δ) : ∀ {rs : List R} {ws : List V} {as : List Vw}, RepRs K F B H σ δ ws rs → views δ rs = some as → OVs K B H ws as
  | [], _, _, q, e => by cases q; cases e; exact .nil
  | r :: rs, _, _, q, e => by
    cases q with
    | cons q1 q2 =>
      simp only [views] at e
      obtain ⟨w, e1, e⟩ := Option.bind_eq_some_iff.mp e
      obtain ⟨ws, e2, e⟩ := Option.map_eq_some_iff.mp e
      cases e
      exact .cons (view_ok h q1.1 e1) (views_ok h q2 e2)
def wCB (f : List Vw → Option Rv) (wr : WA) : WE := fun Ex δ P => wr Ex δ fun rs δ1 => ob (views δ1 rs) fun as => ob (f as) fun rv => P rv.r δ1
theorem sim_cb {K : PySem.W.Frag} {E : XK} {t : TA} {wr : WA} {f : List Vw → Option Rv} (s : ASim K E t wr) : ESim K E (tCB (rC K f) t) (wCB f wr) := by
  refine ⟨fun Ex Ex' δ P P' hx h w => s.mono _ _ _ _ _ hx (fun r δ1 w => w.imp fun as w => w.imp fun rv w => h _ _ w) w, fun Ex F B H vs σ δ P Q hx h w k => ?_⟩
  refine s.run _ _ _ _ _ _ _ _ _ hx h w fun B1 H1 ws rs δ1 s1 h1 q1 w1 => ?_
  obtain ⟨as, e1, rv, e2, w1⟩ := w1
  exact ⟨B1, as, rv, h1.sb, views_ok h1 q1 e1, e2, rvk_ok s1 h1 w1 k⟩
def GlS (sc : Scope) (x : Str) : Prop := sc.names.lookup x = some .globalImplicit
theorem gl_of {c : Cl} (hc : S.ok c) {x : Str} (h : GlS S.sc x) : Gl (S.g.cx c) x := by
  show c.env.scope.names.lookup x = some .globalImplicit
  rw [hc.hs]; exact h
theorem de_callB {e : Expr} {es : List Expr} {wr : WA} {x : Str} {id : String} {p pos : Pos} {f : List Vw → Option Rv} (hf : CallS S (.builtin id) f) (hg : GlS S.sc x) (hm : S.g.mg x = none) (hv : bootBuiltins x = some (.builtin id)) (ha : DA S (e :: es) wr)
    (hs : ∀ env, starEach (e :: es) env = (false, eval e env) :: starEach es env := by intro _; rfl) (hpl : ∀ env, (backTo pos (starEach es env)).any (·.1) = false := by intro _; rfl)
    (hn : x ≠ "__name__" := by decide) (hdb : (x == ("__debug__" : Str)) = false := by decide) : DE S (.Call (.Name x p) (e :: es) [] pos) (wCB f wr) := by
  obtain ⟨t, pa, s⟩ := ha
  exact ⟨_, fun c hc => pe_callB (hf c hc) (gl_of hc hg) hm hv (pa c hc) hn hdb (hs _) (hpl _), sim_cb s⟩
theorem de_callT {e : Expr} {es : List Expr} {wr : WA} {x : Str} {T : String} {p pos : Pos} {f : List Vw → Option Rv} (hf : CallS S (.type T) f) (hg : GlS S.sc x) (hm : S.g.mg x = none) (hv : bootBuiltins x = some (.type T)) (ha : DA S (e :: es) wr)
    (hs : ∀ env, starEach (e :: es) env = (false, eval e env) :: starEach es env := by intro _; rfl) (hpl : ∀ env, (backTo pos (starEach es env)).any (·.1) = false := by intro _; rfl)
    (hn : x ≠ "__name__" := by decide) (hdb : (x == ("__debug__" : Str)) = false := by decide) : DE S (.Call (.Name x p) (e :: es) [] pos) (wCB f wr) := by
  obtain ⟨t, pa, s⟩ := ha
  exact ⟨_, fun c hc => pe_callTy (hf c hc) (gl_of hc hg) hm hv (pa c hc) hn hdb (hs _) (hpl _), sim_cb s⟩
end
end DL
set_option Elab.async false
set_option linter.all false
set_option maxRecDepth 100000
set_option maxHeartbeats 4000000
set_option autoImplicit false
namespace DL
open PySem PySem.Spec PyProof.Rows L2
abbrev FSpec := List Sl → XP → (R → List Sl → Prop) → Prop
def spOf (K : PySem.W.Frag) (np : Nat) (W : FSpec) : Sp := fun vs H Q E => vs.length = np ∧ ∃ (F B : Hp) (ss : List Sl) (Ex : XP) (P : R → List Sl → Prop), Rep K F B H vs (vs.map some) (ss.map some) ∧ XOk F B E Ex ∧ W ss Ex P ∧
  ∀ B' H' v r ss', Same B B' → Rep K F B' H' vs (vs.map some) (ss'.map some) → RepR K F B' H' (vs.map some) (ss'.map some) v r → (∀ i, r ≠ .o i) → P r ss' → Q v H'
inductive CA where
  | d (d : PyData)
  | w (d : PyData)
  | p (ds : List PyData)
  | o (i : Nat)
def CA.ix : CA → Option Nat
  | .o i => some i
  | _ => none
/-- the arguments, frozen or lent -/
def lend : SEnv → List Bool → List R → Option (List CA × SEnv)
  | δ, _, [] => some ([], δ)
  | δ, true :: ms, .o i :: rs => (lend δ ms rs).map fun q => (.o i :: q.1, q.2)
  | δ, false :: ms, .w d :: rs => if scalar d then (lend δ ms rs).map fun q => (.d d :: q.1, q.2) else (lend δ ms rs).map fun q => (.w d :: q.1, q.2)
  | δ, false :: ms, .o i :: rs => match plainAt δ i with
    | some ds => (lend δ ms rs).map fun q => (.p ds :: q.1, q.2)
    | none => (frz δ (.o i)).bind fun p => (lend p.2 ms rs).map fun q => (.d p.1 :: q.1, q.2)
  | δ, false :: ms, r :: rs => (frz δ r).bind fun p => (lend p.2 ms rs).map fun q => (.d p.1 :: q.1, q.2)
  | _, _, _ => none
def slOf (δ : SEnv) : CA → Option Sl
  | .d d => some (.d d)
  | .w d => some (.w d)
  | .p ds => some (.o true (.pt ds))
  | .o i => match δ[i]? with
    | some (some (.o _ c)) => if c.simple then some (.o true c) else none
    | _ => none
def slsOf (δ : SEnv) : List CA → Option (List Sl)
  | [] => some []
  | a :: as => (slOf δ a).bind fun s => (slsOf δ as).map fun ss => s :: ss
def clear : SEnv → List CA → SEnv
  | δ, [] => δ
  | δ, .o i :: as => clear (δ.set i none) as
  | δ, _ :: as => clear δ as
/-- δ: as it was ahead (whose each lent slot is) -/
def back (δ : SEnv) : SEnv → List CA → List Sl → Option SEnv
  | δ', [], [] => some δ'
  | δ', .o i :: as, .o _ c :: ss => match δ[i]? with
    | some (some (.o b _)) => if c.simple then back δ (δ'.set i (some (.o b c))) as ss else none
    | _ => none
  | δ', .d _ :: as, _ :: ss => back δ δ' as ss
  | δ', .w _ :: as, _ :: ss => back δ δ' as ss
  | δ', .p _ :: as, _ :: ss => back δ δ' as ss
  | _, _, _ => none
def noO : R → Bool
  | .o _ => false
  | _ => true
@[irreducible] def wCall (np : Nat) (W : FSpec) (ms : List Bool) (wr : WA) : WE := fun Ex δ P => wr Ex δ fun rs δ1 => ob (lend δ1 ms rs) fun p => p.1.length = np ∧ (p.1.filterMap CA.ix).Nodup ∧ ob (slsOf p.2 p.1) fun ss =>
  W ss Ex fun r ss' => noO r = true → ob (back p.2 (clear p.2 p.1) p.1 ss') fun δ2 => P r δ2
def FMono (W : FSpec) : Prop := ∀ (ss : List Sl) (Ex Ex' : XP) (P P' : R → List Sl → Prop), (∀ e, Ex e → Ex' e) → (∀ r ss', P r ss' → P' r ss') → W ss Ex P → W ss Ex' P'
section
variable {K : PySem.W.Frag} {F H : Hp} {vs : List V} {σ : L2.St}
def CaOk (K : PySem.W.Frag) (B : Hp) (σ : L2.St) (v : V) : CA → Prop
  | .d d => DD B v d
  | .w d => DW K v d
  | .p ds => InP B v ds
  | .o i => σ[i]? = some (some v)
theorem CaOk.up {B B' : Hp} (s : Same B B') {v : V} {a : CA} (h : CaOk K B σ v a) : CaOk K B' σ v a := by
  cases a with
  | d d => exact DD.mono s h
  | w d => exact h
  | p ds => exact InP.mono s h
  | o i => exact h
theorem lend_ok : ∀ {rs : List R} {ms : List Bool} {ws : List V} {B : Hp} {δ δ' : SEnv} {as : List CA}, Rep K F B H vs σ δ → RepRs K F B H σ δ ws rs → lend δ ms rs = some (as, δ') →
    ∃ B', Same B B' ∧ Rep K F B' H vs σ δ' ∧ Paired (CaOk K B' σ) ws as
  | [], _, _, B, δ, _, _, h, q, e => by
    cases q
    simp only [lend] at e
    cases e
    exact ⟨B, Same.refl _, h, .nil⟩
  | r :: rs, ms, _, B, δ, δ', as, h, q, e => by
    cases q with
    | cons q1 q2 =>
      have fz : ∀ {m : List Bool} {v : V}, RepR K F B H σ δ v r → (∃ p, frz δ r = some p ∧ ∃ q, lend p.2 m rs = some q ∧ as = .d p.1 :: q.1 ∧ δ' = q.2) →
          ∀ {ws : List V}, RepRs K F B H σ δ ws rs → ∃ B', Same B B' ∧ Rep K F B' H vs σ δ' ∧ Paired (CaOk K B' σ) (v :: ws) as := by
        intro m v q1 ⟨⟨d, δ1⟩, e1, ⟨as1, δ2⟩, e2, e3, e4⟩ ws q2
        subst e3 e4
        obtain ⟨B1, s1, h1, d1⟩ := frz_ok h q1 e1
        have q2' := Paired.mapP q2 (G := fun v r => RepR K F B1 H σ δ1 v r ∧ ∀ c, r ≠ .n c) fun v r z => ⟨RepR.up s1 z.1 z.2, z.2⟩
        obtain ⟨B2, s2, h2, d2⟩ := lend_ok h1 q2' e2
        exact ⟨B2, s1.trans s2, h2, .cons (show CaOk K B2 σ v (.d d) from d1.mono s2) d2⟩
      cases ms with
      | nil => cases r <;> exact nomatch e
      | cons m ms =>
        cases m with
        | true =>
          cases r with
          | o i =>
            simp only [lend] at e
            obtain ⟨⟨as1, δ2⟩, e2, e⟩ := Option.map_eq_some_iff.mp e
            cases e
            obtain ⟨B2, s2, h2, d2⟩ := lend_ok h q2 e2
            exact ⟨B2, s2, h2, .cons (show CaOk K B2 σ _ (.o i) from q1.1) d2⟩
          | d d => exact nomatch e
          | w d => exact nomatch e
          | n c => exact nomatch e
        | false =>
          cases r with
          | w d =>
            simp only [lend] at e
            split at e
            · rename_i hs
              obtain ⟨⟨as1, δ2⟩, e2, e⟩ := Option.map_eq_some_iff.mp e
              cases e
              obtain ⟨B2, s2, h2, d2⟩ := lend_ok h q2 e2
              exact ⟨B2, s2, h2, .cons (show CaOk K B2 σ _ (.d d) from (DW.scal q1.1 hs : DD B2 _ d)) d2⟩
            · obtain ⟨⟨as1, δ2⟩, e2, e⟩ := Option.map_eq_some_iff.mp e
              cases e
              obtain ⟨B2, s2, h2, d2⟩ := lend_ok h q2 e2
              exact ⟨B2, s2, h2, .cons (show CaOk K B2 σ _ (.w d) from q1.1) d2⟩
          | d d =>
            simp only [lend] at e
            obtain ⟨p, e1, e⟩ := Option.bind_eq_some_iff.mp e
            obtain ⟨q, e2, e⟩ := Option.map_eq_some_iff.mp e
            cases e
            exact fz q1.1 ⟨p, e1, q, e2, rfl, rfl⟩ q2
          | o i =>
            simp only [lend] at e
            split at e
            · rename_i ds hpl
              obtain ⟨⟨as1, δ2⟩, e2, e⟩ := Option.map_eq_some_iff.mp e
              cases e
              obtain ⟨B2, s2, h2, d2⟩ := lend_ok h q2 e2
              exact ⟨B2, s2, h2, .cons (InP.mono s2 (plain_ok h q1.1 hpl)) d2⟩
            · obtain ⟨p, e1, e⟩ := Option.bind_eq_some_iff.mp e
              obtain ⟨q, e2, e⟩ := Option.map_eq_some_iff.mp e
              cases e
              exact fz q1.1 ⟨p, e1, q, e2, rfl, rfl⟩ q2
          | n c => exact absurd rfl (q1.2 c)
/-- a slot takes an object of its own (its value as it is) -/
theorem Rep.own {B : Hp} {δ : SEnv} (h : Rep K F B H vs σ δ) {i : Nat} {a : Addr} {b : Bool} {c : Cont} (e : σ[i]? = some (some (.ref a))) (hBF : ∀ p, Foot H a c p → B p = none ∧ F p = none) (q : ContOk B H a c)
    (hn : ∀ (j : Nat) (b' : Bool) (c' : Cont) (a' p : Addr), j ≠ i → δ[j]? = some (some (.o b' c')) → σ[j]? = some (some (.ref a')) → Foot H a' c' p → ¬ Foot H a c p) (hb : b = true → vs[i]? = some (.ref a)) : Rep K F B H vs σ (δ.set i (some (.o b c))) := by
  refine ⟨h.sb, h.sf, h.dj, by rw [List.length_set]; exact h.len, fun j s e1 => ?_, fun j k a1 a2 p b1 c1 b2 c2 e1 e2 e3 e4 f1 f2 => ?_, fun j c' e1 => ?_, h.nt⟩
  · rcases set_get e1 with ⟨rfl, z⟩ | ⟨_, z⟩
    · cases z; exact ⟨_, e, a, rfl, hBF, q⟩
    · exact h.ok j s z
  · rcases set_get e1 with ⟨ej, z⟩ | ⟨nj, z⟩
    · rcases set_get e2 with ⟨ek, z2⟩ | ⟨nk, z2⟩
      · rw [ej, ek]
      · subst ej
        rw [e] at e3; cases e3; cases z
        exact absurd f1 (hn k b2 c2 a2 p nk z2 e4 f2)
    · rcases set_get e2 with ⟨ek, z2⟩ | ⟨nk, z2⟩
      · subst ek
        rw [e] at e4; cases e4; cases z2
        exact absurd f2 (hn j b1 c1 a1 p nj z e3 f1)
      · exact h.apart j k a1 a2 p b1 c1 b2 c2 z z2 e3 e4 f1 f2
  · rcases set_get e1 with ⟨rfl, z⟩ | ⟨_, z⟩
    · cases z; exact ⟨_, e, hb rfl⟩
    · exact h.bor j c' z
theorem Rep.clear {B : Hp} : ∀ {as : List CA} {δ : SEnv}, Rep K F B H vs σ δ → Rep K F B H vs σ (clear δ as)
  | [], _, h => h
  | .o i :: as, _, h => Rep.clear (as := as) (h.forget i)
  | .d _ :: as, _, h => Rep.clear (as := as) h
  | .w _ :: as, _, h => Rep.clear (as := as) h
  | .p _ :: as, _, h => Rep.clear (as := as) h
theorem clear_get : ∀ {as : List CA} {δ : SEnv} {j : Nat} {s : Sl}, (DL.clear δ as)[j]? = some (some s) → δ[j]? = some (some s) ∧ j ∉ as.filterMap CA.ix
  | [], _, _, _, e => ⟨e, by simp⟩
  | .o i :: as, δ, j, s, e => by
    obtain ⟨e1, e2⟩ := clear_get (as := as) (δ := δ.set i none) e
    rcases set_get e1 with ⟨_, z⟩ | ⟨n, z⟩
    · cases z
    · refine ⟨z, ?_⟩
      intro hm
      have hm : j ∈ i :: as.filterMap CA.ix := hm
      rcases List.mem_cons.mp hm with hm | hm
      · exact n hm
      · exact e2 hm
  | .d _ :: as, δ, j, s, e => by
    obtain ⟨e1, e2⟩ := clear_get (as := as) (δ := δ) e
    exact ⟨e1, e2⟩
  | .w _ :: as, δ, j, s, e => by
    obtain ⟨e1, e2⟩ := clear_get (as := as) (δ := δ) e
    exact ⟨e1, e2⟩
  | .p _ :: as, δ, j, s, e => by
    obtain ⟨e1, e2⟩ := clear_get (as := as) (δ := δ) e
    exact ⟨e1, e2⟩
theorem paired_get {α β : Type} {G : α → β → Prop} : ∀ {xs : List α} {ys : List β} {j : Nat} {y : β}, Paired G xs ys → ys[j]? = some y → ∃ x, xs[j]? = some x ∧ G x y
  | _, _, _, _, .nil, e => by simp at e
  | _, _, 0, _, .cons q _, e => by simp at e; subst e; exact ⟨_, rfl, q⟩
  | _, _, j + 1, _, .cons _ r, e => by
    obtain ⟨x, e1, q⟩ := paired_get (j := j) r (by simpa using e)
    exact ⟨x, by simpa using e1, q⟩
theorem sls_get {δ : SEnv} : ∀ {as : List CA} {ss : List Sl} {j : Nat} {s : Sl}, slsOf δ as = some ss → ss[j]? = some s → ∃ a, as[j]? = some a ∧ slOf δ a = some s
  | [], _, _, _, e, e2 => by cases e; simp at e2
  | a :: as, _, j, s, e, e2 => by
    simp only [slsOf] at e
    obtain ⟨s0, e3, e⟩ := Option.bind_eq_some_iff.mp e
    obtain ⟨ss0, e4, e⟩ := Option.map_eq_some_iff.mp e
    cases e
    cases j with
    | zero => simp at e2; subst e2; exact ⟨a, rfl, e3⟩
    | succ j =>
      obtain ⟨a', e5, e6⟩ := sls_get (j := j) e4 (by simpa using e2)
      exact ⟨a', by simpa using e5, e6⟩
theorem sls_len {δ : SEnv} : ∀ {as : List CA} {ss : List Sl}, slsOf δ as = some ss → ss.length = as.length
  | [], _, e => by cases e; rfl
  | a :: as, _, e => by
    simp only [slsOf] at e
    obtain ⟨s0, e3, e⟩ := Option.bind_eq_some_iff.mp e
    obtain ⟨ss0, e4, e⟩ := Option.map_eq_some_iff.mp e
    cases e
    rw [List.length_cons, List.length_cons, sls_len e4]
theorem sls_own {δ : SEnv} {i : Nat} : ∀ {as : List CA} {ss : List Sl}, slsOf δ as = some ss → i ∈ as.filterMap CA.ix → ∃ b c, δ[i]? = some (some (.o b c)) ∧ c.simple = true
  | [], _, _, h => by simp at h
  | a :: as, _, e, h => by
    simp only [slsOf] at e
    obtain ⟨s0, e3, e⟩ := Option.bind_eq_some_iff.mp e
    obtain ⟨ss0, e4, e⟩ := Option.map_eq_some_iff.mp e
    cases e
    cases a with
    | o k =>
      have h : i ∈ k :: as.filterMap CA.ix := h
      rcases List.mem_cons.mp h with rfl | h
      · simp only [slOf] at e3
        split at e3
        · split at e3
          · exact ⟨_, _, by assumption, by assumption⟩
          · cases e3
        · cases e3
      · exact sls_own e4 h
    | d d => exact sls_own e4 h
    | w d => exact sls_own e4 h
    | p ds => exact sls_own e4 h
theorem ix_mem : ∀ {as : List CA} {j i : Nat}, as[j]? = some (.o i) → i ∈ as.filterMap CA.ix := fun {as j i} h =>
  List.mem_filterMap.mpr ⟨.o i, List.mem_of_getElem? h, rfl⟩
theorem ix_inj : ∀ {as : List CA} {j k i : Nat}, (as.filterMap CA.ix).Nodup → as[j]? = some (.o i) → as[k]? = some (.o i) → j = k
  | [], j, k, i, _, e, _ => by simp at e
  | a :: as, j, k, i, h, e1, e2 => by
    have hr : (as.filterMap CA.ix).Nodup := by
      cases a with
      | o m => exact (List.nodup_cons.mp (show (m :: as.filterMap CA.ix).Nodup from h)).2
      | d d => exact h
      | w d => exact h
      | p d => exact h
    cases j with
    | zero =>
      cases k with
      | zero => rfl
      | succ k =>
        simp at e1; subst e1
        have e2 : as[k]? = some (.o i) := by simpa using e2
        exact absurd (ix_mem e2) (List.nodup_cons.mp (show (i :: as.filterMap CA.ix).Nodup from h)).1
    | succ j =>
      cases k with
      | zero =>
        simp at e2; subst e2
        have e1 : as[j]? = some (.o i) := by simpa using e1
        exact absurd (ix_mem e1) (List.nodup_cons.mp (show (i :: as.filterMap CA.ix).Nodup from h)).1
      | succ k => rw [ix_inj (j := j) (k := k) hr (by simpa using e1) (by simpa using e2)]
theorem back_ok {Fc B H H1 B1 : Hp} {δ : SEnv} (h0 : Rep K F B1 H1 vs σ δ) : ∀ {as : List CA} {ws : List V} {ss : List Sl} {δ1 δ2 : SEnv}, Rep K F B H vs σ δ1 → (∀ (j : Nat) (b : Bool) (c : Cont) (a p : Addr), δ1[j]? = some (some (.o b c)) → σ[j]? = some (some (.ref a)) → Foot H a c p → ∃ b' c', δ[j]? = some (some (.o b' c')) ∧ Foot H1 a c' p) →
    Paired (CaOk K B σ) ws as → (∀ (j : Nat) (v : V) (s : Sl), ws[j]? = some v → ss[j]? = some s → SlOk K Fc B H v s) → (∀ (j i : Nat) (a : Addr), as[j]? = some (.o i) → σ[i]? = some (some (.ref a)) → F a = none) → (∀ (i : Nat) (c : Cont) (b : Bool), δ[i]? = some (some (.o b c)) → ∀ (j : Nat), as[j]? = some (.o i) → c.real = true) → back δ δ1 as ss = some δ2 →
    Rep K F B H vs σ δ2 ∧ (∀ (j i : Nat), as[j]? = some (.o i) → ∃ b c, c.simple = true ∧ ss[j]? = some (.o b c)) ∧
      ∀ (j : Nat) (b : Bool) (c : Cont), δ2[j]? = some (some (.o b c)) → δ1[j]? = some (some (.o b c)) ∨ (c.simple = true ∧ j ∈ as.filterMap CA.ix) := by
  intro as
  induction as with
  | nil =>
    intro ws ss δ1 δ2 h hi _ _ _ _ e
    cases ss with
    | nil => cases e; exact ⟨h, fun j i e => by simp at e, fun j b c e => .inl e⟩
    | cons _ _ => exact nomatch e
  | cons a as ih =>
    intro ws ss δ1 δ2 h hi hp hs hF hcc e
    cases hp with
    | cons q1 q2 =>
      cases ss with
      | nil => cases a <;> exact nomatch e
      | cons s ss =>
        have hs' : ∀ (j : Nat) (v : V) (s : Sl), _ → _ → SlOk K Fc B H v s := fun j v s e1 e2 => hs (j + 1) v s (by simpa using e1) (by simpa using e2)
        have hF' : ∀ (j i : Nat) (a : Addr), as[j]? = some (.o i) → σ[i]? = some (some (.ref a)) → F a = none := fun j i a e1 e2 => hF (j + 1) i a (by simpa using e1) e2
        have hcc' : ∀ (i : Nat) (c : Cont) (b : Bool), δ[i]? = some (some (.o b c)) → ∀ (j : Nat), as[j]? = some (.o i) → c.real = true := fun i c b e1 j e2 => hcc i c b e1 (j + 1) (by simpa using e2)
        have dat : back δ δ1 as ss = some δ2 → (∀ i, a ≠ .o i) → _ := fun e na => by
          obtain ⟨r1, r3, r4⟩ := ih h hi q2 hs' hF' hcc' e
          refine (⟨r1, fun j i e => ?_, fun j b c e => ?_⟩ : Rep K F B H vs σ δ2 ∧ (∀ (j i : Nat), (a :: as)[j]? = some (.o i) → ∃ b c, c.simple = true ∧ (s :: ss)[j]? = some (.o b c)) ∧
            ∀ (j : Nat) (b : Bool) (c : Cont), δ2[j]? = some (some (.o b c)) → δ1[j]? = some (some (.o b c)) ∨ (c.simple = true ∧ j ∈ (a :: as).filterMap CA.ix))
          · cases j with
            | zero => simp at e; exact absurd e (na i)
            | succ j => simpa using r3 j i (by simpa using e)
          · rcases r4 j b c e with z | ⟨z1, z⟩
            · exact .inl z
            · refine .inr ⟨z1, ?_⟩
              cases a with
              | o i => exact absurd rfl (na i)
              | d d => exact z
              | w d => exact z
              | p d => exact z
        cases a with
        | d d => exact dat (by cases s <;> exact e) (fun _ z => nomatch z)
        | w d => exact dat (by cases s <;> exact e) (fun _ z => nomatch z)
        | p d => exact dat (by cases s <;> exact e) (fun _ z => nomatch z)
        | o i =>
          cases s with
          | d d => exact nomatch e
          | w d => exact nomatch e
          | o b0 c0 =>
            simp only [back] at e
            split at e
            · rename_i bb cc hδ
              split at e
              · rename_i hsim
                obtain ⟨a, ea, hBF, qc⟩ := hs 0 _ (.o b0 c0) rfl rfl
                have es : σ[i]? = some (some (.ref a)) := by rw [← ea]; exact q1
                have h2 := h.own (b := bb) es (fun p f => ⟨(hBF p f).1, by cases foot_one hsim f; exact hF 0 i _ rfl es⟩) qc (fun j b' c' a' p nj e4 e5 f5 f6 => by
                  obtain ⟨b2, c2, e6, f7⟩ := hi j b' c' a' p e4 e5 f5
                  cases foot_one hsim f6
                  exact nj (h0.apart j i a' _ _ b2 c2 bb cc e6 hδ e5 es f7 (foot_self (hcc i cc bb hδ 0 rfl)))) (fun eb => by
                  subst eb
                  obtain ⟨v2, e7, e8⟩ := h0.bor i cc hδ
                  rw [es] at e7; cases e7
                  exact e8)
                obtain ⟨r1, r3, r4⟩ := ih h2 (fun j b c a' p e4 e5 f5 => by
                  rcases set_get e4 with ⟨rfl, z⟩ | ⟨_, z⟩
                  · cases z
                    rw [es] at e5; cases e5
                    cases foot_one hsim f5
                    exact ⟨_, _, hδ, foot_self (hcc _ cc bb hδ 0 rfl)⟩
                  · exact hi j b c a' p z e5 f5) q2 hs' hF' hcc' e
                refine ⟨r1, fun j k e4 => ?_, fun j b c e4 => ?_⟩
                · cases j with
                  | zero => exact ⟨b0, c0, hsim, rfl⟩
                  | succ j => simpa using r3 j k (by simpa using e4)
                · have hm : ∀ {z : Nat}, z ∈ as.filterMap CA.ix → z ∈ (CA.o i :: as).filterMap CA.ix := fun hz => List.mem_cons_of_mem i hz
                  rcases r4 j b c e4 with z | ⟨z1, z⟩
                  · rcases set_get z with ⟨rfl, z2⟩ | ⟨_, z⟩
                    · cases z2
                      exact .inr ⟨hsim, List.mem_cons_self (a := j) (l := as.filterMap CA.ix)⟩
                    · exact .inl z
                  · exact .inr ⟨z1, hm z⟩
              · cases e
            · cases e
end
end DL
set_option Elab.async false
set_option linter.all false
set_option maxRecDepth 100000
set_option maxHeartbeats 4000000
set_option autoImplicit false
namespace DL
open PySem PySem.Spec PyProof.Rows L2
open Classical in
/-- what a callee may not touch: all that is not data and not lent to it -/
noncomputable def frame (B H : Hp) (σ : L2.St) (ix : List Nat) : Hp := fun a => if (∃ o, B a = some o) ∨ ∃ i, i ∈ ix ∧ σ[i]? = some (some (.ref a)) then none else H a
theorem frame_some {B H : Hp} {σ : L2.St} {ix : List Nat} {a : Addr} {o : HO} (e : frame B H σ ix a = some o) : B a = none ∧ (∀ i, i ∈ ix → σ[i]? ≠ some (some (.ref a))) ∧ H a = some o := by
  unfold frame at e
  split at e
  · cases e
  · rename_i h
    refine ⟨?_, fun i hi z => h (.inr ⟨i, hi, z⟩), e⟩
    cases q : B a with
    | none => rfl
    | some u => exact absurd (.inl ⟨u, q⟩) h
theorem frame_eq {B H : Hp} {σ : L2.St} {ix : List Nat} {a : Addr} (h1 : B a = none) (h2 : ∀ i, i ∈ ix → σ[i]? ≠ some (some (.ref a))) : frame B H σ ix a = H a := by
  unfold frame
  rw [if_neg]
  rintro (⟨o, z⟩ | ⟨i, hi, z⟩)
  · rw [h1] at z; cases z
  · exact h2 i hi z
theorem frame_none {B H : Hp} {σ : L2.St} {ix : List Nat} {a : Addr} {i : Nat} (hi : i ∈ ix) (e : σ[i]? = some (some (.ref a))) : frame B H σ ix a = none := by
  unfold frame
  rw [if_pos (.inr ⟨i, hi, e⟩)]
section
variable {S : Sg} {CX : CXT}
theorem call_run {K : PySem.W.Frag} {E : XK} {np : Nat} {W : FSpec} {Ex : XP} {F B0 B1 H1 : Hp} {vs : List V} {σ : L2.St} {δ1 δ2 : SEnv} {ws : List V} {rs : List R} {ms : List Bool} {as : List CA} {ss : List Sl} {P : R → SEnv → Prop} {Q : VK}
    (hx : XOk F B1 E Ex) (s0 : Same B0 B1) (h1 : Rep K F B1 H1 vs σ δ1) (q1 : RepRs K F B1 H1 σ δ1 ws rs) (e1 : lend δ1 ms rs = some (as, δ2)) (hl : as.length = np) (nd : (as.filterMap CA.ix).Nodup) (e2 : slsOf δ2 as = some ss)
    (w1 : W ss Ex fun r ss' => noO r = true → ob (back δ2 (clear δ2 as) as ss') fun δ3 => P r δ3)
    (k : ∀ B' H' v r δ', Same B0 B' → Rep K F B' H' vs σ δ' → RepR K F B' H' σ δ' v r → P r δ' → Q v H') : spOf K np W ws H1 Q E := by
  obtain ⟨B2, s2, h2, d2⟩ := lend_ok h1 q1 e1
  have hwl : ws.length = as.length := Paired.length d2
  -- the lent slots
  have lent : ∀ {j i : Nat}, as[j]? = some (.o i) → ∃ a b c, ws[j]? = some (.ref a) ∧ σ[i]? = some (some (.ref a)) ∧ δ2[i]? = some (some (.o b c)) ∧ c.simple = true ∧ B2 a = none ∧ F a = none ∧ ContOk B2 H1 a c := by
    intro j i e
    obtain ⟨v, e3, q3⟩ := paired_get d2 e
    obtain ⟨b, c, e4, hs⟩ := sls_own e2 (ix_mem e)
    obtain ⟨v', e5, a, ea, hBF, qc⟩ := h2.ok i _ e4
    have q3 : σ[i]? = some (some v) := q3
    rw [q3] at e5; cases e5
    subst ea
    exact ⟨a, b, c, e3, q3, e4, hs, (hBF a (foot_self (real_of hs))).1, (hBF a (foot_self (real_of hs))).2, qc⟩
  have hFF : ∀ a o, F a = some o → frame B2 H1 σ (as.filterMap CA.ix) a = some o := fun a o e => by
    rw [frame_eq (h2.dj a o e) (fun i hi z => ?_)]
    · exact h2.sf a o e
    · obtain ⟨b, c, e4, hs⟩ := sls_own e2 hi
      obtain ⟨v', e5, a', ea, hBF, _⟩ := h2.ok i _ e4
      rw [z] at e5; cases e5; cases ea
      have hF := (hBF a (foot_self (real_of hs))).2
      rw [e] at hF; cases hF
  -- what belongs to the caller's other slots stands in the frame
  have keep : ∀ {i : Nat} {b : Bool} {c : Cont} {a p : Addr}, δ2[i]? = some (some (.o b c)) → i ∉ as.filterMap CA.ix → σ[i]? = some (some (.ref a)) → Foot H1 a c p → ∃ u, H1 p = some u ∧ frame B2 H1 σ (as.filterMap CA.ix) p = some u ∧ F p = none := by
    intro i b c a p e ni ea f
    obtain ⟨hBF, qc⟩ := h2.own_up e ea
    obtain ⟨u, hu⟩ := qc.there f
    refine ⟨u, hu, ?_, (hBF p f).2⟩
    rw [frame_eq (hBF p f).1 (fun i' hi' z => ?_)]
    · exact hu
    · obtain ⟨b', c', e6, hs⟩ := sls_own e2 hi'
      have := h2.apart i i' a p p b c b' c' e e6 ea z f (foot_self (real_of hs))
      subst this
      exact ni hi'
  refine ⟨by rw [hwl, hl], frame B2 H1 σ (as.filterMap CA.ix), B2, ss, Ex, _, ⟨h2.sb, fun a o e => (frame_some e).2.2, fun a o e => (frame_some e).1, ?_, ?_, ?_, ?_, h2.nt⟩, ?_, w1, ?_⟩
  · rw [List.length_map, List.length_map, hwl, sls_len e2]
  · intro j s e
    rw [List.getElem?_map] at e
    obtain ⟨s0, e3, e4⟩ := Option.map_eq_some_iff.mp e
    cases e4
    obtain ⟨a, e5, e6⟩ := sls_get e2 e3
    obtain ⟨v, e7, q7⟩ := paired_get d2 e5
    refine ⟨v, by rw [List.getElem?_map, e7]; rfl, ?_⟩
    cases a with
    | d d => cases e6; exact q7
    | w d => cases e6; exact q7
    | p ds =>
      cases e6
      obtain ⟨a, o, xs, g1, g2, g3, g4, g5⟩ := q7
      exact ⟨a, g1, fun p f => f.elim, o, xs, g2, g3, g4, g5⟩
    | o i =>
      obtain ⟨p, b, c, e8, e9, e10, hsim, hB, hF, qc⟩ := lent e5
      rw [e7] at e8; cases e8
      simp only [slOf, e10, hsim] at e6
      cases e6
      exact ⟨p, rfl, foot_bf hsim hB (frame_none (ix_mem e5) e9), qc⟩
  · intro j m a a' q b c b' c' e3 e4 e5 e6 f1 f2
    rw [List.getElem?_map] at e3 e4 e5 e6
    obtain ⟨s1, e3, z⟩ := Option.map_eq_some_iff.mp e3; cases z
    obtain ⟨s2', e4, z⟩ := Option.map_eq_some_iff.mp e4; cases z
    obtain ⟨v1, e5, z⟩ := Option.map_eq_some_iff.mp e5; cases z
    obtain ⟨v2, e6, z⟩ := Option.map_eq_some_iff.mp e6; cases z
    obtain ⟨a1, e7, e8⟩ := sls_get e2 e3
    obtain ⟨a2, e9, e10⟩ := sls_get e2 e4
    cases a1 with
    | d d => cases e8
    | w d => cases e8
    | p d => cases e8; exact f1.elim
    | o i1 =>
      cases a2 with
      | d d => cases e10
      | w d => cases e10
      | p d => cases e10; exact f2.elim
      | o i2 =>
        obtain ⟨p1, b1, c1, g1, g2, g3, g4, _⟩ := lent e7
        obtain ⟨p2, b2, c2, k1, k2, k3, k4, _⟩ := lent e9
        rw [e5] at g1; cases g1
        rw [e6] at k1; cases k1
        simp only [slOf, g3, g4] at e8; cases e8
        simp only [slOf, k3, k4] at e10; cases e10
        have ei := h2.apart i1 i2 a a' q b1 c b2 c' g3 k3 g2 k2 f1 f2
        subst ei
        exact ix_inj nd e7 e9
  · intro j c e
    rw [List.getElem?_map] at e
    obtain ⟨s0, e3, e4⟩ := Option.map_eq_some_iff.mp e
    cases e4
    obtain ⟨a, e5, e6⟩ := sls_get e2 e3
    obtain ⟨v, e7, q7⟩ := paired_get d2 e5
    exact ⟨v, by rw [List.getElem?_map, e7]; rfl, e7⟩
  · intro cls da B' H' fs fds t1 t2 t3 t4 t5 t6 t7
    refine hx cls da B' H' fs fds ⟨s2.trans t1.1, t1.2⟩ t2 (fun a o e => t3 a o (hFF a o e)) (fun a o e => t4 a o (hFF a o e)) t5 t6 t7
  · intro B' H' v r ss' s3 h3 q3 nO w3
    have nO' : noO r = true := by
      cases r with
      | o i => exact absurd rfl (nO i)
      | d d => rfl
      | w d => rfl
      | n c => rfl
    obtain ⟨δ3, e3, w3⟩ := w3 nO'
    -- the caller's slots behind the call, but for the lent ones
    have stay : ∀ {i : Nat} {b : Bool} {c : Cont} {a : Addr}, (clear δ2 as)[i]? = some (some (.o b c)) → σ[i]? = some (some (.ref a)) → ∀ p, Foot H1 a c p → H' p = H1 p ∧ B' p = none ∧ F p = none := by
      intro i b c a e ea p f
      obtain ⟨e4, ni⟩ := clear_get e
      obtain ⟨u, hu, hfr, hF⟩ := keep e4 ni ea f
      exact ⟨by rw [hu]; exact h3.sf p u hfr, h3.dj p u hfr, hF⟩
    have same : ∀ {i : Nat} {b : Bool} {c : Cont} {a p : Addr}, (clear δ2 as)[i]? = some (some (.o b c)) → σ[i]? = some (some (.ref a)) → (Foot H' a c p ↔ Foot H1 a c p) := fun e ea => foot_eq fun p f => (stay e ea p f).1
    have hc : Rep K F B' H' vs σ (clear δ2 as) := by
      refine ⟨h3.sb, fun a o e => h3.sf a o (hFF a o e), fun a o e => h3.dj a o (hFF a o e), (h2.clear (as := as)).len, fun i s e => ?_, fun i j a a' p b c b' c' e1 e2 e3 e4 f1 f2 => (h2.clear (as := as)).apart i j a a' p b c b' c' e1 e2 e3 e4 ((same e1 e3).mp f1) ((same e2 e4).mp f2), (h2.clear (as := as)).bor, h3.nt⟩
      obtain ⟨e4, ni⟩ := clear_get e
      obtain ⟨v', e5, q5⟩ := h2.ok i s e4
      refine ⟨v', e5, ?_⟩
      cases s with
      | d d => exact DD.mono s3 q5
      | w d => exact q5
      | o b c =>
        obtain ⟨a, ea, hBF, qc⟩ := q5
        subst ea
        exact ⟨a, rfl, fun p f => (stay e e5 p ((same e e5).mp f)).2, qc.mono s3 fun p f => (stay e e5 p f).1⟩
    obtain ⟨r1, r3, r4⟩ := back_ok (Fc := frame B2 H1 σ (as.filterMap CA.ix)) h2 (as := as) (ws := ws) (ss := ss') hc (fun j b c a p e e2 f => ⟨b, c, (clear_get e).1, (same e e2).mp f⟩) (Paired.mapP d2 fun v a z => z.up s3) (fun j v s e4 e5 => by
      obtain ⟨v', e6, q6⟩ := h3.ok j s (by rw [List.getElem?_map, e5]; rfl)
      rw [List.getElem?_map, e4] at e6
      cases e6
      exact q6) (fun j i a e4 e5 => by
      obtain ⟨a', _, _, _, g2, _, _, _, hF, _⟩ := lent e4
      rw [e5] at g2; cases g2
      exact hF) (fun i c b e4 j e5 => by
      obtain ⟨_, _, _, _, _, g3, g4, _⟩ := lent e5
      rw [e4] at g3; cases g3
      exact real_of g4) e3
    refine k B' H' v r δ3 (s0.trans (s2.trans s3)) r1 ?_ w3
    cases r with
    | d d => exact q3
    | w d => exact q3
    | o i => exact absurd rfl (nO i)
    | n c =>
      obtain ⟨a, ea, hBF, qc, hn⟩ := q3
      refine ⟨a, ea, fun p f => ⟨(hBF p f).1, ?_⟩, qc, fun i b c' a' p e4 e5 f f' => ?_⟩
      · have hF := (hBF p f).2
        cases hf : F p with
        | none => rfl
        | some o => rw [hFF p o hf] at hF; cases hF
      · rcases r4 i b c' e4 with z | ⟨hsim, hi⟩
        · obtain ⟨z1, ni⟩ := clear_get z
          obtain ⟨u, _, hfr, _⟩ := keep z1 ni e5 ((same z e5).mp f)
          have hF := (hBF p f').2
          rw [hfr] at hF; cases hF
        · obtain ⟨a0, ha0, ha1⟩ := List.mem_filterMap.mp hi
          obtain ⟨j, hj, hj2⟩ := List.getElem_of_mem ha0
          have ej : as[j]? = some a0 := by rw [List.getElem?_eq_getElem hj, hj2]
          cases a0 with
          | d d => cases ha1
          | w d => cases ha1
          | p d => cases ha1
          | o i0 =>
            cases ha1
            obtain ⟨p2, b2, c2, g1, g2, _⟩ := lent ej
            obtain ⟨b3, c3, g4, g3⟩ := r3 j i ej
            rw [e5] at g2; cases g2
            cases foot_one hsim f
            exact hn j b3 c3 a' a' (by rw [List.getElem?_map, g3]; rfl) (by rw [List.getElem?_map, g1]; rfl) (foot_self (real_of g4)) f'
theorem sim_call {K : PySem.W.Frag} {E : XK} {np : Nat} {W : FSpec} {ms : List Bool} {t : TA} {wr : WA} (hW : FMono W) (s : ASim K E t wr) : ESim K E (tCall (spOf K np W) [] E t) (wCall np W ms wr) := by
  refine ⟨fun Ex Ex' δ P P' hx h w => ?_, fun Ex F B H vs σ δ P Q hx h w k => ?_⟩
  · unfold wCall at w ⊢
    refine s.mono _ _ _ _ _ hx (fun rs δ1 w => w.imp fun p w => ⟨w.1, w.2.1, w.2.2.imp fun ss w => ?_⟩) w
    exact hW _ _ _ _ _ hx (fun r ss' w n => (w n).imp fun δ2 w => h _ _ w) w
  · unfold wCall at w
    refine s.run _ _ _ _ _ _ _ _ _ hx h w fun B1 H1 ws rs δ1 s1 h1 q1 w1 => ?_
    obtain ⟨⟨as, δ2⟩, e1, hl, nd, ss, e2, w1⟩ := w1
    show spOf K np W (ws ++ []) H1 Q E
    rw [List.append_nil]
    exact call_run (hx.up s1) s1 h1 q1 e1 hl nd e2 w1 k
structure FnG (g : Gx) (CX : CXT) (k : Nat) (f : Addr) (fd : FuncData) (ps : List Str) (sp : Sp) : Prop where
  len : ∀ vs H Q E, sp vs H Q E → vs.length = ps.length
  run : ∀ (A : Around) (outer : List Env) (sh : Shared) (H : Hp) (args : Args) (us : List Value) (vs : List V) (Q : VK) (E : XK), A.guards = some [] → Room k A → Env0 g.P g.w g.K g.mg g.base A outer sh H →
    BindsTo sh fd args (ps.zip us) → Vals vs us → sp vs H Q E → codeAny (model g.P g.w) A (.call (.ref f) args) (CR CX outer g.P g.w H sh Q E) sh
theorem FnG.imp {g : Gx} {CX : CXT} {k : Nat} {f : Addr} {fd : FuncData} {ps : List Str} {sp sp' : Sp} (Fk : FnG g CX k f fd ps sp) (h : ∀ vs H Q E, sp' vs H Q E → sp vs H Q E) : FnG g CX k f fd ps sp' :=
  ⟨fun vs H Q E q => Fk.len vs H Q E (h _ _ _ _ q), fun A outer sh H args us vs Q E hg hr he hb hv hs => Fk.run A outer sh H args us vs Q E hg hr he hb hv (h _ _ _ _ hs)⟩
theorem FnG.mono {g : Gx} {CX : CXT} {j k : Nat} {f : Addr} {fd : FuncData} {ps : List Str} {sp : Sp} (Fk : FnG g CX j f fd ps sp) (h : j ≤ k) : FnG g CX k f fd ps sp :=
  ⟨Fk.len, fun A outer sh H args us vs Q E hg hr => Fk.run A outer sh H args us vs Q E hg (hr.mono h)⟩
theorem runG {g : Gx} {c : Cl} {k : Nat} {f : Addr} {fd : FuncData} {ps : List Str} {sp : Sp} {E : XK} {pins : List (Addr × Obj)} {σ : L2.St} {H : Hp} {sh : Shared} {Q : VK} {us : List Value} {vs : List V} (Fk : FnG g CX k f fd ps sp) (hgd : c.A.guards = some [])
    (hr : Room k c.A) (hb : Binds g.K fd ps []) (hx : Passes CX (g.cx c) E) (I : Inv (g.cx c) pins σ H sh) (rv : Vals vs us) (h : sp vs H Q E) : wpAny (model g.P g.w) c.A (call (.ref f) us) (EP (g.cx c) pins σ Q) c.xe sh := by
  have hl : us.length = ps.length := rv.length.symm.trans (Fk.len _ _ _ _ h)
  have hbd := hb sh us I.kIn (by rw [List.append_nil]; exact hl)
  rw [List.append_nil] at hbd
  refine wpAny_call (codeAny_mono (Fk.run c.A c.stack sh H _ us vs Q E hgd hr I.env0 hbd rv h) fun res sh' hq => ?_)
  cases res with
  | error e => exact hx _ _ _ _ _ _ I hq
  | ok fl => cases fl with
    | ret u => exact I.after hq
    | _ => exact hq.elim
theorem de_call {np k : Nat} {W : FSpec} {ms : List Bool} {wr : WA} {x : Str} {f : Addr} {fd : FuncData} {ps : List Str} {p pos : Pos} {e : Expr} {es : List Expr} (hW : FMono W) (Fk : FnG S.g S.CX k f fd ps (spOf S.g.K np W)) (hk : k ≤ S.k)
    (hg : GlS S.sc x) (hm : S.g.mg x = some (.ref f)) (hkp : PySem.W.keepIn S.g.K (.ref f) = true) (hb : Binds S.g.K fd ps []) (ha : DA S (e :: es) wr)
    (hs : ∀ env, starEach (e :: es) env = (false, eval e env) :: starEach es env := by intro _; rfl) (hpl : ∀ env, (backTo pos (starEach es env)).any (·.1) = false := by intro _; rfl) (hdb : (x == ("__debug__" : Str)) = false := by decide) :
    DE S (.Call (.Name x p) (e :: es) [] pos) (wCall np W ms wr) := by
  obtain ⟨t, pa, s⟩ := ha
  refine ⟨_, fun c hc => ⟨fun pins sh σ H Q I h => ?_⟩, sim_call hW s⟩
  have hgl : Gl (S.g.cx c) x := gl_of hc hg
  refine wpAny_Call_Name_kw (ld_glob I hgl hm ?_ hdb)
  refine PySem.W.callWith_K (h₀ := S.g.base) I.ok.mod.kin hkp ?_ (hs _) (hpl _)
  refine thn ((pa c hc).run pos pins sh σ H _ I h) fun us sh1 ⟨vs, H1, I1, rv, q⟩ => ⟨I1.kIn, ?_⟩
  have q : spOf S.g.K np W (vs ++ []) H1 Q S.E := q
  rw [List.append_nil] at q
  exact runG Fk hc.gd (hc.room.mono hk) hb hc.ps I1 rv q
end
end DL
set_option Elab.async false
set_option linter.all false
set_option maxRecDepth 100000
set_option maxHeartbeats 4000000
set_option autoImplicit false
namespace DL
open PySem PySem.Spec PyProof.Rows L2
section
variable {K : PySem.W.Frag} {F B H : Hp} {vs : List V} {σ : L2.St} {δ : SEnv} {v : V}
theorem set_look {α : Type} {l : List α} {i : Nat} {x y : α} (h : (l.set i x)[i]? = some y) : y = x := by
  rcases set_get h with ⟨_, z⟩ | ⟨n, _⟩
  · exact z
  · exact absurd rfl n
theorem len_lt {i : Nat} {s : Option Sl} (h : Rep K F B H vs σ δ) (e : (δ.set i s)[i]? = some s) : i < σ.length := by
  have := (List.getElem?_eq_some_iff.mp e).1
  rw [List.length_set] at this
  rw [h.len]; exact this
/-- a slot is stored anew -/
theorem Rep.store (h : Rep K F B H vs σ δ) (i : Nat) (v : V) (s : Sl) (q : SlOk K F B H v s) (hb : ∀ c, s ≠ .o true c) (hn : ∀ a, v = .ref a → ∀ c, s = .o false c → Off H σ δ (Foot H a c)) :
    Rep K F B H vs (σ.set i (some v)) (δ.set i (some s)) := by
  refine ⟨h.sb, h.sf, h.dj, by rw [List.length_set, List.length_set]; exact h.len, fun j s' e => ?_, fun j k a a' p b c b' c' e1 e2 e3 e4 f1 f2 => ?_, fun j c e => ?_, h.nt⟩
  · by_cases hj : j = i
    · subst hj
      have := set_look e
      cases this
      exact ⟨v, by rw [List.getElem?_set_self (len_lt h e)], q⟩
    · rw [List.getElem?_set_ne (Ne.symm hj)] at e ⊢
      exact h.ok j s' e
  · by_cases hj : j = i
    · subst hj
      have z := set_look e1
      cases z
      rw [List.getElem?_set_self (len_lt h e1)] at e3
      cases e3
      by_cases hk : k = j
      · exact hk.symm
      · rw [List.getElem?_set_ne (Ne.symm hk)] at e2 e4
        cases b with
        | true => exact absurd rfl (hb c)
        | false => exact absurd f1 (hn a rfl c rfl k b' c' a' p e2 e4 f2)
    · rw [List.getElem?_set_ne (Ne.symm hj)] at e1 e3
      by_cases hk : k = i
      · subst hk
        have z := set_look e2
        cases z
        rw [List.getElem?_set_self (len_lt h e2)] at e4
        cases e4
        cases b' with
        | true => exact absurd rfl (hb c')
        | false => exact absurd f2 (hn a' rfl c' rfl j b c a p e1 e3 f1)
      · rw [List.getElem?_set_ne (Ne.symm hk)] at e2 e4
        exact h.apart j k a a' p b c b' c' e1 e2 e3 e4 f1 f2
  · by_cases hj : j = i
    · subst hj
      have z := set_look e
      cases z
      exact absurd rfl (hb c)
    · rw [List.getElem?_set_ne (Ne.symm hj)] at e ⊢
      exact h.bor j c e
/-- what is stored under a name -/
def asgn (δ : SEnv) (i : Nat) : R → Option SEnv
  | .d d => some (δ.set i (some (.d d)))
  | .w d => some (δ.set i (some (.w d)))
  | .n c => some (δ.set i (some (.o false c)))
  | .o j => (frz δ (.o j)).map fun p => p.2.set i (some (.d p.1))
theorem asgn_ok {i : Nat} {r : R} {δ' : SEnv} (h : Rep K F B H vs σ δ) (q : RepR K F B H σ δ v r) (e : asgn δ i r = some δ') : ∃ B', Same B B' ∧ Rep K F B' H vs (σ.set i (some v)) δ' := by
  cases r with
  | d d => cases e; exact ⟨B, Same.refl _, h.store i v (.d d) q (fun _ z => nomatch z) (fun a _ c z => nomatch z)⟩
  | w d => cases e; exact ⟨B, Same.refl _, h.store i v (.w d) q (fun _ z => nomatch z) (fun a _ c z => nomatch z)⟩
  | n c =>
    cases e
    obtain ⟨a, ea, hBF, qc, hn⟩ := q
    refine ⟨B, Same.refl _, h.store i v (.o false c) ⟨a, ea, hBF, qc⟩ (fun _ z => nomatch z) (fun a' ea' c' ec => ?_)⟩
    rw [ea] at ea'; cases ea'; cases ec
    exact hn
  | o j =>
    simp only [asgn] at e
    obtain ⟨⟨d, δ1⟩, e1, e⟩ := Option.map_eq_some_iff.mp e
    cases e
    obtain ⟨B1, s1, h1, d1⟩ := frz_ok h q e1
    exact ⟨B1, s1, h1.store i v (.d d) d1 (fun _ z => nomatch z) (fun a _ c z => nomatch z)⟩
end
def wSeq (w u : WS) : WS := fun d δ => w { d with nx := u d } δ
def wNext : WS := fun d δ => d.nx δ
def wSet (i : Nat) (wa : WE) : WS := fun d δ => wa d.ex δ fun r δ1 => ob (asgn δ1 i r) fun δ2 => d.nx δ2
def wDrop (wa : WE) : WS := fun d δ => wa d.ex δ fun _ δ1 => d.nx δ1
def wRet (wa : WE) : WS := fun d δ => wa d.ex δ d.rt
def wIfS (wt : WT) (w u : WS) : WS := fun d δ => wt d.ex δ fun b δ1 => if b = true then w d δ1 else u d δ1
def wBreak : WS := fun d δ => d.bk δ
section
variable {S : Sg}
theorem DEnds.le.refl (d : DEnds) : d.le d := ⟨fun _ h => h, fun _ _ h => h, fun _ h => h, fun _ h => h, fun _ h => h⟩
theorem ds_nil : DSs S [] wNext := ⟨tNext, fun _ _ => pss_nil, ⟨fun d d' δ h w => h.nx _ w, fun F B H vs σ δ D d hx h k w => k.nx B σ H δ (Same.refl _) h w⟩⟩
theorem sim_seq {K : PySem.W.Frag} {E : XK} {t u : TS} {w1 w2 : WS} (s1 : SSim K E t w1) (s2 : SSim K E u w2) : SSim K E (tSeq t u) (wSeq w1 w2) := by
  refine ⟨fun d d' δ h w => ?_, fun F B H vs σ δ D d hx h k w => ?_⟩
  · exact s1.mono { d with nx := w2 d } { d' with nx := w2 d' } δ ⟨fun δ w => s2.mono d d' δ h w, h.rt, h.bk, h.ct, h.ex⟩ w
  · exact s1.run F B H vs σ δ { D with nx := u D } { d with nx := w2 d } hx h ⟨fun B' σ' H' δ' s h' w' => s2.run F B' H' vs σ' δ' D d (hx.up s) h' (k.up s) w', k.rt, k.bk, k.ct⟩ w
theorem ds_cons {st : Stmt} {rest : List Stmt} {w u : WS} (h : DS S st w) (hr : DSs S rest u) : DSs S (st :: rest) (wSeq w u) := by
  obtain ⟨t, p, s⟩ := h
  obtain ⟨tr, pr, sr⟩ := hr
  exact ⟨_, fun c hc => pss_cons (p c hc) (pr c hc), sim_seq s sr⟩
theorem ds_one {st : Stmt} {w : WS} (h : DS S st w) : DSs S [st] w := by
  obtain ⟨t, p, s⟩ := h
  exact ⟨t, fun c hc => pss_one (p c hc), s⟩
theorem ds_break {pos : Pos} : DS S (.Break pos) wBreak := ⟨tBreak, fun _ _ => ps_break, ⟨fun d d' δ h w => h.bk _ w, fun F B H vs σ δ D d hx h k w => k.bk B σ H δ (Same.refl _) h w⟩⟩
theorem ds_expr {e : Expr} {wa : WE} {pos : Pos} (h : DE S e wa) (hs : ∀ env, swapsWith e none pos.line env = pure false := by intro _; rfl) : DS S (.Expr e pos) (wDrop wa) := by
  obtain ⟨t, p, s⟩ := h
  refine ⟨_, fun c hc => ps_expr (p c hc) (hs _), ⟨fun d d' δ h w => s.mono _ _ _ _ _ h.ex (fun r δ1 w => h.nx _ w) w, fun F B H vs σ δ D d hx h k w => ?_⟩⟩
  exact s.run _ _ _ _ _ _ _ _ _ hx h w fun B1 H1 v r δ1 s1 h1 q1 w1 => k.nx B1 σ H1 δ1 s1 h1 w1
theorem ds_ret {e : Expr} {wa : WE} {pos : Pos} (h : DE S e wa) : DS S (.Return (some e) pos) (wRet wa) := by
  obtain ⟨t, p, s⟩ := h
  refine ⟨_, fun c hc => ps_ret (p c hc), ⟨fun d d' δ h w => s.mono _ _ _ _ _ h.ex h.rt w, fun F B H vs σ δ D d hx h k w => ?_⟩⟩
  exact s.run _ _ _ _ _ _ _ _ _ hx h w fun B1 H1 v r δ1 s1 h1 q1 w1 => k.rt B1 σ H1 δ1 v r s1 h1 q1 w1
theorem ds_if {c : Expr} {a b : List Stmt} {wt : WT} {w u : WS} {pos : Pos} (hc : DT S c wt) (ha : DSs S a w) (hb : DSs S b u) : DS S (.If c a b pos) (wIfS wt w u) := by
  obtain ⟨tt, pt, st⟩ := hc
  obtain ⟨ta, pa, sa⟩ := ha
  obtain ⟨tb, pb, sb⟩ := hb
  refine ⟨_, fun c hc => ps_if (pt c hc) (pa c hc) (pb c hc), ⟨fun d d' δ h w => ?_, fun F B H vs σ δ D d hx h k w => ?_⟩⟩
  · refine st.mono _ _ _ _ _ h.ex (fun bb δ1 w => ?_) w
    cases bb with
    | true => exact sa.mono _ _ _ h w
    | false => exact sb.mono _ _ _ h w
  · refine st.run _ _ _ _ _ _ _ _ _ hx h w fun B1 H1 bb δ1 s1 h1 w1 => ?_
    cases bb with
    | true => exact sa.run _ _ _ _ _ _ _ _ (hx.up s1) h1 (k.up s1) w1
    | false => exact sb.run _ _ _ _ _ _ _ _ (hx.up s1) h1 (k.up s1) w1
theorem fn_ok {c : Cl} (hc : S.ok c) {x : Str} (ht : S.top = true ∨ S.sc.names.lookup x = some .local) : c.fn x = true ∨ c.env.scope.names.lookup x = some .local := by
  rcases ht with h | h
  · exact .inl (hc.fn h x)
  · exact .inr (by rw [hc.hs]; exact h)
theorem ds_set {i : Nat} {x : Str} {e : Expr} {wa : WE} {pos pos' : Pos} (hi : S.N[i]? = some x) (hx : Loc S.sc x) (h : DE S e wa) (hs : ∀ env, swapsWith e (some (.Name x pos')) pos.line env = pure false := by intro _; rfl) (ht : S.top = true ∨ S.sc.names.lookup x = some .local := by exact .inl rfl) :
    DS S (.Assign [.Name x pos'] e pos) (wSet i wa) := by
  obtain ⟨t, p, s⟩ := h
  refine ⟨_, fun c hc => ps_set (X := S.g.cx c) (i := i) (by show c.N.Nodup; rw [hc.hN]; exact hc.nd) (by show c.N[i]? = _; rw [hc.hN]; exact hi) (by show Loc c.env.scope x; rw [hc.hs]; exact hx) (p c hc) (hs _) (fn_ok hc ht), ⟨fun d d' δ h w => ?_, fun F B H vs σ δ D d hx h k w => ?_⟩⟩
  · exact s.mono _ _ _ _ _ h.ex (fun r δ1 w => w.imp fun δ2 w => h.nx _ w) w
  · refine s.run _ _ _ _ _ _ _ _ _ hx h w fun B1 H1 v r δ1 s1 h1 q1 w1 => ?_
    obtain ⟨δ2, e1, w1⟩ := w1
    obtain ⟨B2, s2, h2⟩ := asgn_ok h1 q1 e1
    exact k.nx B2 _ H1 δ2 (s1.trans s2) h2 w1
end
def retR (δ : SEnv) : R → Option R
  | .d d => some (.d d)
  | .w d => some (.w d)
  | .n c => some (.n c)
  | .o i => match δ[i]? with
    | some (some (.d d)) => some (.d d)
    | some (some (.w d)) => some (.w d)
    | some (some (.o false c)) => some (.n c)
    | _ => none
def finals : List Sl → SEnv → Option (List Sl)
  | [], _ => some []
  | .o _ _ :: ss, some (.o true c) :: δ => (finals ss δ).map fun q => .o true c :: q
  | .d d :: ss, _ :: δ => (finals ss δ).map fun q => .d d :: q
  | .w d :: ss, _ :: δ => (finals ss δ).map fun q => .w d :: q
  | _, _ => none
def fnW (np n : Nat) (w : WS) : FSpec := fun ss Ex P => ss.length = np ∧ (let fin := fun r δ => ob (retR δ r) fun r' => ob (finals ss δ) fun ss' => P r' ss'
  w ⟨fun δ => fin (.d .none) δ, fin, fun _ => False, fun _ => False, Ex⟩ (ss.map some ++ List.replicate (n - np) none))
theorem finals_get : ∀ {ss : List Sl} {δ : SEnv} {ss' : List Sl}, finals ss δ = some ss' → ss'.length = ss.length ∧ ∀ (j : Nat) (s' : Sl), ss'[j]? = some s' → ∃ s, ss[j]? = some s ∧ ((∃ b c c', s = .o b c ∧ s' = .o true c' ∧ δ[j]? = some (some (.o true c'))) ∨ (s' = s ∧ ∀ b c, s ≠ .o b c))
  | [], δ, _, e => by cases e; exact ⟨rfl, fun j s' e => by simp at e⟩
  | .o b c :: ss, [], _, e => by exact nomatch e
  | .d _ :: ss, [], _, e => by exact nomatch e
  | .w _ :: ss, [], _, e => by exact nomatch e
  | .d d :: ss, o :: δ, ss', e => by
    simp only [finals] at e
    obtain ⟨q, e1, e⟩ := Option.map_eq_some_iff.mp e
    cases e
    obtain ⟨h1, h2⟩ := finals_get e1
    refine ⟨by simp [h1], fun j s' e => ?_⟩
    cases j with
    | zero => simp at e; subst e; exact ⟨_, rfl, .inr ⟨rfl, fun _ _ z => nomatch z⟩⟩
    | succ j => simpa using h2 j s' (by simpa using e)
  | .w d :: ss, o :: δ, ss', e => by
    simp only [finals] at e
    obtain ⟨q, e1, e⟩ := Option.map_eq_some_iff.mp e
    cases e
    obtain ⟨h1, h2⟩ := finals_get e1
    refine ⟨by simp [h1], fun j s' e => ?_⟩
    cases j with
    | zero => simp at e; subst e; exact ⟨_, rfl, .inr ⟨rfl, fun _ _ z => nomatch z⟩⟩
    | succ j => simpa using h2 j s' (by simpa using e)
  | .o b c :: ss, none :: δ, ss', e => by exact nomatch e
  | .o b c :: ss, some (.d _) :: δ, ss', e => by exact nomatch e
  | .o b c :: ss, some (.w _) :: δ, ss', e => by exact nomatch e
  | .o b c :: ss, some (.o false _) :: δ, ss', e => by exact nomatch e
  | .o b c :: ss, some (.o true c0) :: δ, ss', e => by
    simp only [finals] at e
    obtain ⟨q, e1, e⟩ := Option.map_eq_some_iff.mp e
    cases e
    obtain ⟨h1, h2⟩ := finals_get e1
    refine ⟨by simp [h1], fun j s' e => ?_⟩
    cases j with
    | zero => simp at e; subst e; exact ⟨_, rfl, .inl ⟨b, c, c0, rfl, rfl, rfl⟩⟩
    | succ j => simpa using h2 j s' (by simpa using e)
/-- from a body's words to the promise -/
theorem body_run {K : PySem.W.Frag} {E : XK} {np : Nat} {N : List Str} {t : TS} {w : WS} (hN : np ≤ N.length) (s : SSim K E t w) {vs : List V} {H : Hp} {Q : VK} (h : spOf K np (fnW np N.length w) vs H Q E) :
    t { nx := fun _ H' => Q .non H', rt := Q } (start N vs) H := by
  obtain ⟨hl, F, B, ss, Ex, P, h1, hx, ⟨hs, h2⟩, k⟩ := h
  have hvl : vs.length = ss.length := by have := h1.len; simpa using this
  have fin : ∀ {B' : Hp} {σ' : L2.St} {H' : Hp} {δ' : SEnv} {v : V} {r : R}, Same B B' → Rep K F B' H' vs σ' δ' → RepR K F B' H' σ' δ' v r → (ob (retR δ' r) fun r' => ob (finals ss δ') fun ss' => P r' ss') → Q v H' := by
    intro B' σ' H' δ' v r s1 h3 q3 w3
    obtain ⟨r', e1, ss', e2, w3⟩ := w3
    obtain ⟨fl, fg⟩ := finals_get e2
    -- a lent slot stands as it was handed in
    have lent : ∀ {j : Nat} {c' : Cont}, ss'[j]? = some (.o true c') → ∃ a, vs[j]? = some (.ref a) ∧ δ'[j]? = some (some (.o true c')) ∧ σ'[j]? = some (some (.ref a)) ∧ (∀ p, Foot H' a c' p → B' p = none ∧ F p = none) ∧ ContOk B' H' a c' := by
      intro j c' e
      obtain ⟨s0, e3, z⟩ := fg j _ e
      rcases z with ⟨b, c, c'', e4, e5, e6⟩ | ⟨e4, n⟩
      · cases e5
        obtain ⟨v1, e7, e8⟩ := h3.bor j _ e6
        obtain ⟨v2, e9, a, ea, hBF, qc⟩ := h3.ok j _ e6
        rw [e7] at e9; cases e9
        subst ea
        exact ⟨a, e8, e6, e7, hBF, qc⟩
      · subst e4; exact absurd rfl (n _ _)
    have own : ∀ {j : Nat} {b : Bool} {c' : Cont}, ss'[j]? = some (.o b c') → b = true := by
      intro j b c' e
      obtain ⟨s0, e3, z⟩ := fg j _ e
      rcases z with ⟨b, c, c'', e4, e5, e6⟩ | ⟨e4, n⟩
      · cases e5; rfl
      · subst e4; exact absurd rfl (n _ _)
    have h4 : Rep K F B' H' vs (vs.map some) (ss'.map some) := by
      refine ⟨h3.sb, h3.sf, h3.dj, by rw [List.length_map, List.length_map, fl, hvl], fun j s' e => ?_, fun j m a1 a2 p b c b' c' e3 e4 e5 e6 p1 p2 => ?_, fun j c e => ?_, h3.nt⟩
      · rw [List.getElem?_map] at e
        obtain ⟨s0, e3, e4⟩ := Option.map_eq_some_iff.mp e
        cases e4
        obtain ⟨s1', e5, z⟩ := fg j _ e3
        rcases z with ⟨b, c, c'', e6, e7, e8⟩ | ⟨e6, n⟩
        · subst e7
          obtain ⟨a, f1, _, _, hBF, qc⟩ := lent e3
          exact ⟨.ref a, by rw [List.getElem?_map, f1]; rfl, a, rfl, hBF, qc⟩
        · subst e6
          obtain ⟨v0, e7, q7⟩ := h1.ok j s' (by rw [List.getElem?_map, e5]; rfl)
          refine ⟨v0, e7, ?_⟩
          cases s' with
          | d d => exact DD.mono s1 q7
          | w d => exact q7
          | o b c => exact absurd rfl (n b c)
      · rw [List.getElem?_map] at e3 e4 e5 e6
        obtain ⟨z1, e3, z⟩ := Option.map_eq_some_iff.mp e3; cases z
        obtain ⟨z2, e4, z⟩ := Option.map_eq_some_iff.mp e4; cases z
        obtain ⟨v1, e5, z⟩ := Option.map_eq_some_iff.mp e5; cases z
        obtain ⟨v2, e6, z⟩ := Option.map_eq_some_iff.mp e6; cases z
        cases own e3
        cases own e4
        obtain ⟨b1, f1, f2, f3, _⟩ := lent e3
        obtain ⟨b2, g1, g2, g3, _⟩ := lent e4
        rw [e5] at f1; cases f1
        rw [e6] at g1; cases g1
        exact h3.apart j m a1 a2 p true c true c' f2 g2 f3 g3 p1 p2
      · rw [List.getElem?_map] at e
        obtain ⟨z1, e3, z⟩ := Option.map_eq_some_iff.mp e; cases z
        obtain ⟨a1, f1, _⟩ := lent e3
        exact ⟨.ref a1, by rw [List.getElem?_map, f1]; rfl, f1⟩
    have notO : ∀ i, r' ≠ .o i := by
      intro i z
      subst z
      cases r with
      | d d => cases e1
      | w d => cases e1
      | n c => cases e1
      | o j => simp only [retR] at e1; split at e1 <;> cases e1
    have hr : RepR K F B' H' (vs.map some) (ss'.map some) v r' := by
      have apn : ∀ {f : Addr → Prop}, (∀ (j : Nat) (c' : Cont) (a p : Addr), δ'[j]? = some (some (.o true c')) → σ'[j]? = some (some (.ref a)) → Foot H' a c' p → ¬ f p) → Off H' (vs.map some) (ss'.map some) f := by
        intro f hn i b c' a p e5 e6 fp
        rw [List.getElem?_map] at e5 e6
        obtain ⟨z1, e5, z⟩ := Option.map_eq_some_iff.mp e5; cases z
        obtain ⟨v1, e6, z⟩ := Option.map_eq_some_iff.mp e6; cases z
        cases own e5
        obtain ⟨a1, f1, f2, f3, _⟩ := lent e5
        rw [e6] at f1; cases f1
        exact hn i c' a p f2 f3 fp
      cases r with
      | d d => cases e1; exact q3
      | w d => cases e1; exact q3
      | n c =>
        cases e1
        obtain ⟨a, ea, hBF, qc, hn⟩ := q3
        exact ⟨a, ea, hBF, qc, apn fun j c' a p e5 e6 f => hn j true c' a p e5 e6 f⟩
      | o i =>
        have q3 : σ'[i]? = some (some v) := q3
        simp only [retR] at e1
        split at e1
        · rename_i d hd
          cases e1
          obtain ⟨v', e5, q5⟩ := h3.ok i _ hd
          rw [q3] at e5; cases e5
          exact q5
        · rename_i d hd
          cases e1
          obtain ⟨v', e5, q5⟩ := h3.ok i _ hd
          rw [q3] at e5; cases e5
          exact q5
        · rename_i c hd
          cases e1
          obtain ⟨v', e5, a, ea, hBF, qc⟩ := h3.ok i _ hd
          rw [q3] at e5; cases e5
          subst ea
          refine ⟨a, rfl, hBF, qc, apn fun j c' a' p e5 e6 f f' => ?_⟩
          have := h3.apart j i a' a p true c' false c e5 hd e6 q3 f f'
          subst this
          rw [hd] at e5; cases e5
        · cases e1
    exact k B' H' v r' ss' s1 h4 hr notO w3
  have h0 : Rep K F B H vs (start N vs) (ss.map some ++ List.replicate (N.length - np) none) := by
    have hlen : (ss.map some ++ List.replicate (N.length - np) (none : Option Sl)).length = (start N vs).length := by
      unfold L2.start
      rw [List.length_append, List.length_append, List.length_map, List.length_map, List.length_replicate, List.length_replicate]
      omega
    have low : ∀ {j : Nat} {s : Sl}, (ss.map some ++ List.replicate (N.length - np) (none : Option Sl))[j]? = some (some s) → (ss.map some)[j]? = some (some s) ∧ (start N vs)[j]? = (vs.map some)[j]? := by
      intro j s e
      by_cases hj : j < ss.length
      · rw [List.getElem?_append_left (by rw [List.length_map]; exact hj)] at e
        refine ⟨e, ?_⟩
        unfold L2.start
        rw [List.getElem?_append_left (by rw [List.length_map]; omega)]
      · rw [List.getElem?_append_right (by rw [List.length_map]; omega), List.getElem?_replicate] at e
        split at e <;> cases e
    refine ⟨h1.sb, h1.sf, h1.dj, hlen.symm, fun j s' e => ?_, fun j m a1 a2 p b c b' c' e3 e4 e5 e6 p1 p2 => ?_, fun j c e => ?_, h1.nt⟩
    · obtain ⟨e1, e2⟩ := low e
      rw [e2]; exact h1.ok j s' e1
    · obtain ⟨f1, f2⟩ := low e3
      obtain ⟨g1, g2⟩ := low e4
      rw [f2] at e5; rw [g2] at e6
      exact h1.apart j m a1 a2 p b c b' c' f1 g1 e5 e6 p1 p2
    · obtain ⟨e1, e2⟩ := low e
      rw [e2]; exact h1.bor j c e1
  refine s.run F B H vs _ _ _ _ hx h0 ⟨fun B' σ' H' δ' s1 h3 w3 => ?_, fun B' σ' H' δ' v r s1 h3 q3 w3 => fin s1 h3 q3 w3, fun _ _ _ _ _ _ w => False.elim w, fun _ _ _ _ _ _ w => False.elim w⟩ h2
  exact fin (v := .non) (r := .d .none) s1 h3 DD.non w3
/-- a def that lets nothing out -/
theorem fn_dl {g : Gx} {x qual : Str} {st : Stmt} {f : Addr} {fd : FuncData} {N ps : List Str} {k : Nat} {w : WS} (Fn : Fun g.K x qual st f fd) (Sc : FnScope N ps (defScope st)) (hb : ∀ E, DSs ⟨g, CX0, N, defScope st, k, E, true, false⟩ (defBody st) w) (hp : ps.length ≤ N.length) :
    FnG g CX0 (k + 1) f fd ps (spOf g.K ps.length (fnW ps.length N.length w)) := by
  obtain ⟨oc, od, kV, doc, pm, an, cdv, ct, osl, rfl, lk, hcd⟩ := Fn.ex
  refine ⟨fun vs H Q E h => h.1, fun A outer sh H args us vs Q E hgd hr e0 hbd rv hsp => ?_⟩
  have KX : g.K.In sh.heap := e0.mod.kin.keeps fun b o e => (e0.bs b o e).1
  have cell_or : ∀ y ∈ ps.zip us, (defScope st).names.lookup y.1 = some .local ∨ ((defScope st).names.lookup y.1 = some .cell ∧ ((cellsFrom (sh.heap.objs.size + 1) (defScope st).names []).lookup y.1).isSome = true) := by
    rintro ⟨nm, v⟩ hy
    have hz := Sc.par nm (List.of_mem_zip hy).1
    exact hz.imp id fun q => ⟨q, PySem.W.cellsFrom_some _ _ _ (.inl q)⟩
  refine codeAny_call_function hr.depth (KX _ _ lk) rfl Sc.co Sc.gen rfl (PySem.W.codeRec_of KX hcd) (hbd _ _ _ _ ?_)
  refine wpAny_newFunctionEnv_cells Sc.kind cell_or fun env he sh1 inC => ?_
  subst he
  refine ⟨(e0.mod.nolimit.keeps fun b o e => (e0.bs b o e).1).keeps inC.toInCall.keep, codeAny_func ?_⟩
  let X := cxOf CX0 g.P g.w g.K g.mg g.base N qual (defScope st) f cdv A outer sh H E
  have I : Inv X [] (L2.start N vs) H sh1 := inv_start Sc hr.hd e0 hsp.1 rv inC
  obtain ⟨t, p, sm⟩ := hb E
  let Y := X.nox
  let c : Cl := ⟨Y.A, Y.N, Y.s_0, Y.H_0, Y.env, Y.outer, Y.stack, Y.ex, Y.fn, Y.calm, Y.pn, Y.xe⟩
  have hc : Sg.ok ⟨g, CX0, N, defScope st, k, E, true, false⟩ c := ⟨rfl, Sc.nd, rfl, rfl, hr.deeper _, fun _ _ _ _ _ _ _ h => h.elim, PassesOwn.never, fun _ _ => rfl, hgd, (fun z => nomatch z), fun _ => ⟨rfl, rfl⟩⟩
  refine wpAny_mono (((p c hc : PSs Y (defBody st) t).nox).run [] sh1 _ H _ I (body_run hp sm hsp)) (fun fl sh' hs => ?_) fun e sh' hs => hs
  have ends : ∀ {σ' : L2.St} {H' : Hp} {v : V} {u : Value}, Inv X [] σ' H' sh' → RelV v u → Q v H' → CE outer g.P g.w H sh Q u sh' := fun J r q => ⟨_, _, J.os, J.bare, J.base, J.hok, r, q⟩
  cases fl with
  | ret u => obtain ⟨v, σ', H', J, r, q⟩ := hs; exact ends J r q
  | next => obtain ⟨σ', H', J, q⟩ := hs; exact ends (v := .non) (u := Value.none) J rfl q
  | brk => obtain ⟨_, _, _, q⟩ := hs; exact q.elim
  | cont => obtain ⟨_, _, _, q⟩ := hs; exact q.elim
/-- a weaker word -/
theorem spOf_imp {g : Gx} {CX : CXT} {k np : Nat} {f : Addr} {fd : FuncData} {ps : List Str} {W W' : FSpec} (Fk : FnG g CX k f fd ps (spOf g.K np W)) (h : ∀ ss Ex P, W' ss Ex P → W ss Ex P) : FnG g CX k f fd ps (spOf g.K np W') :=
  Fk.imp fun vs H Q E ⟨h1, F, B, ss, Ex, P, h2, h3, h4, h5⟩ => ⟨h1, F, B, ss, Ex, P, h2, h3, h _ _ _ h4, h5⟩
end DL
set_option Elab.async false
set_option linter.all false
set_option maxRecDepth 100000
set_option maxHeartbeats 4000000
set_option autoImplicit false
namespace DL
open PySem PySem.Spec PyProof.Rows L2
abbrev WI := XP → SEnv → (List PyData → SEnv → Prop) → Prop
/-- the turns yield these things -/
structure ItOk (B : Hp) (J : It) (ds : List PyData) : Prop where
  stop : ∀ (i : Nat) (H : Hp), Same B H → ds.length ≤ i → J.stop i H
  go : ∀ (i : Nat) (H : Hp), Same B H → i < ds.length → J.go i H
  yld : ∀ (i : Nat) (H B2 : Hp) (x : V) (H' : Hp) (d : PyData), Same B B2 → Same B2 H → J.yld i H x H' → ds[i]? = some d → ∃ B3, Same B2 B3 ∧ (∀ (K : PySem.W.Frag) (F : Hp) (vs : List V) (σ : L2.St) (δ : SEnv), Rep K F B2 H vs σ δ → Rep K F B3 H' vs σ δ) ∧ DD B3 x d
theorem ItOk.up {B B' : Hp} {J : It} {ds : List PyData} (h : ItOk B J ds) (s : Same B B') : ItOk B' J ds :=
  ⟨fun i H s1 => h.stop i H (s.trans s1), fun i H s1 => h.go i H (s.trans s1), fun i H B2 x H' d s1 s2 y e => h.yld i H B2 x H' d (s.trans s1) s2 y e⟩
theorem yl_same {B B2 H H' : Hp} {x : V} {d : PyData} (e : H' = H) (q : DD B x d) (s : Same B B2) : ∃ B3, Same B2 B3 ∧ (∀ (K : PySem.W.Frag) (F : Hp) (vs : List V) (σ : L2.St) (δ : SEnv), Rep K F B2 H vs σ δ → Rep K F B3 H' vs σ δ) ∧ DD B3 x d :=
  ⟨B2, Same.refl _, fun _ _ _ _ _ h => by subst e; exact h, q.mono s⟩
theorem yl_tup {B B2 H H' : Hp} {x : V} {p : Addr} {o : Obj} {xs : List V} {dd : List PyData} (s : Same B B2) (s2 : Same B2 H) (ex : x = .ref p) (hp : H p = none) (e : H' = upd H p (.frz o (.tup xs))) (ec : o.cls = .type "tuple") (ed : o.dict = none) (q : DDs B xs dd) : ∃ B3, Same B2 B3 ∧ (∀ (K : PySem.W.Frag) (F : Hp) (vs : List V) (σ : L2.St) (δ : SEnv), Rep K F B2 H vs σ δ → Rep K F B3 H' vs σ δ) ∧ DD B3 x (.tuple dd) := by
  subst ex e
  exact ⟨_, same_new (nof s2 hp) _, fun _ _ _ _ _ h => h.new hp _, DD.tup ⟨o, upd_same, ec, ed⟩ (q.mono (s.trans (same_new (nof s2 hp) _)))⟩
structure ISim (K : PySem.W.Frag) (E : XK) (wi : TI) (W : WI) : Prop where
  mono : ∀ (Ex Ex' : XP) (δ : SEnv) (P P' : List PyData → SEnv → Prop), (∀ e, Ex e → Ex' e) → (∀ r δ', P r δ' → P' r δ') → W Ex δ P → W Ex' δ P'
  run : ∀ (Ex : XP) (F B H : Hp) (vs : List V) (σ : L2.St) (δ : SEnv) (P : List PyData → SEnv → Prop) (R' : It → Hp → Prop), XOk F B E Ex → Rep K F B H vs σ δ → W Ex δ P →
    (∀ B' H' J ds δ', Same B B' → Rep K F B' H' vs σ δ' → ItOk B' J ds → P ds δ' → R' J H') → wi σ H R'
def DI (S : Sg) (tg iter : Expr) (W : WI) : Prop := ∃ t, (∀ c, S.ok c → PI (S.g.cx c) tg iter t) ∧ ISim S.g.K S.E t W
def signs (x : Str) : List PyData := x.cps.toList.map fun c => .str ⟨#[c]⟩
def itemsOf : PyData → Option (List PyData)
  | .list ds => some ds
  | .tuple ds => some ds
  | .str x => some (signs x)
  | _ => none
def walked (δ : SEnv) : R → Option (List PyData × SEnv)
  | .n (.pt ds) => some (ds, δ)
  | .o i => match plainAt δ i with
    | some ds => some (ds, δ)
    | none => (frz δ (.o i)).bind fun p => (itemsOf p.1).map fun ds => (ds, p.2)
  | .w d => (itemsOf d).bind fun ds => if ds.all scalar then some (ds, δ) else none
  | r => (frz δ r).bind fun p => (itemsOf p.1).map fun ds => (ds, p.2)
def iSeq (K : PySem.W.Frag) (te : TE) : TI := fun σ H R => te σ H fun x H1 => (∃ a xs, x = .ref a ∧ SqL K H1 a xs ∧ R (Itl K a) H1) ∨ (∃ a xs, x = .ref a ∧ SqT K H1 a xs ∧ R (Itt K a) H1) ∨ ∃ y, x = .str y ∧ R (Its y) H1
theorem pi_seq {X : Cx} {tg l : Expr} {tl : TE} (hl : PE X l tl) : PI X tg l (iSeq X.K tl) := by
  refine ⟨fun pins s σ H R I h => ?_⟩
  refine thn (hl.run pins s σ H _ I h) fun v s1 ⟨x, H1, I1, r1, q1⟩ => ?_
  rcases q1 with ⟨a, xs, e, hq, q⟩ | ⟨a, xs, e, hq, q⟩ | ⟨y, e, q⟩
  · subst e
    cases r1
    obtain ⟨its, rv, p, hz⟩ := I1.list hq
    refine wpAny_pyIter_list p.isList ?_
    refine ⟨s1.heap.objs.size, [s1.heap.objs.size], _, _, H1, rfl, I1.kept (t' := s1.toks) fun b o e => Heap.get?_push_of_some _ e, turn_list a _, ⟨_, Heap.get?_push_size _ rfl, rfl, rfl⟩, fun b hb => ?_, q⟩
    have e : b = s1.heap.objs.size := by simpa using hb
    subst e
    exact I1.fpOk (Nat.le_refl _) (I1.hok.fresh (Nat.le_refl _))
  · subst e
    cases r1
    obtain ⟨its, rv, p, hz⟩ := I1.tuple hq
    refine wpAny_pyIter_tuple (show s1.heap.IsTuple a its.toArray from p) ?_
    refine ⟨s1.heap.objs.size, [s1.heap.objs.size], _, _, H1, rfl, I1.kept (t' := s1.toks) fun b o e => Heap.get?_push_of_some _ e, turn_tuple a _, ⟨_, Heap.get?_push_size _ rfl, rfl, rfl⟩, fun b hb => ?_, q⟩
    have e : b = s1.heap.objs.size := by simpa using hb
    subst e
    exact I1.fpOk (Nat.le_refl _) (I1.hok.fresh (Nat.le_refl _))
  · subst e
    obtain ⟨t, rfl⟩ := r1
    cases ha : y.cps.all (· < 128)
    · exact wpAny_pyIter_wide ha (pi_one (tk := s1.toks) I1 _ (turn_str _ y t "str_iterator" (.inr rfl)) ⟨_, Heap.get?_push_size _ rfl, rfl, rfl⟩ q)
    · exact wpAny_pyIter_ascii ha (pi_one (tk := s1.toks) I1 _ (turn_str _ y t "str_ascii_iterator" (.inl rfl)) ⟨_, Heap.get?_push_size _ rfl, rfl, rfl⟩ q)
section
variable {K : PySem.W.Frag} {F B H : Hp}
theorem dp_items {vs : List V} {ds : List PyData} : DpAll K (fun _ => none) vs ds → ds.all scalar = true → ∀ B, DDs B vs ds
  | .nil, _, _ => .nil
  | .cons q r, h, B => by
    rw [List.all_cons, Bool.and_eq_true] at h
    exact .cons (DW.scal q h.1) (dp_items r h.2 B)
theorem it_list {a : Addr} {xs : List V} {ds : List PyData} (h : ∀ H, Same B H → SqL K H a xs) (q : DDs B xs ds) (inj : ∀ H, Same B H → ∀ ys, SqL K H a ys → True) : ItOk B (Itl K a) ds :=
  ⟨fun i H s hi => ⟨xs, h H s, by rw [q.length]; exact hi⟩, fun i H s hi => by
    have hx : i < xs.length := by rw [q.length]; exact hi
    exact ⟨xs, xs[i], h H s, by simp [hx]⟩, fun i H B2 x H' d s s2 y e => by
    obtain ⟨e1, y⟩ := y
    obtain ⟨v, e2, q2⟩ := q.get e
    have := y xs (h H (s.trans s2))
    rw [e2] at this; cases this
    exact yl_same e1 q2 s⟩
theorem it_tup {a : Addr} {xs : List V} {ds : List PyData} (h : ∀ H, Same B H → SqT K H a xs) (q : DDs B xs ds) : ItOk B (Itt K a) ds :=
  ⟨fun i H s hi => ⟨xs, h H s, by rw [q.length]; exact hi⟩, fun i H s hi => by
    have hx : i < xs.length := by rw [q.length]; exact hi
    exact ⟨xs, xs[i], h H s, by simp [hx]⟩, fun i H B2 x H' d s s2 y e => by
    obtain ⟨e1, y⟩ := y
    obtain ⟨v, e2, q2⟩ := q.get e
    have := y xs (h H (s.trans s2))
    rw [e2] at this; cases this
    exact yl_same e1 q2 s⟩
theorem it_str {y : Str} : ItOk B (Its y) (signs y) :=
  ⟨fun i H s hi => (by simpa [signs] using hi : y.cps.size ≤ i), fun i H s hi => (by simpa [signs] using hi : i < y.cps.size), fun i H B2 x H' d s s2 z e => by
    obtain ⟨e1, c, e2, e3⟩ := z
    refine yl_same e1 ?_ s
    subst e3
    unfold signs at e
    rw [List.getElem?_map, Array.getElem?_toList, e2] at e
    cases e
    exact .str _⟩
theorem it_range {lo : Int} {n : Nat} : ItOk B (Itr lo n) ((List.range n).map fun (i : Nat) => .int (lo + (i : Int))) :=
  ⟨fun i H s hi => (by simpa using hi : n ≤ i), fun i H s hi => (by simpa using hi : i < n), fun i H B2 x H' d s s2 z e => by
    obtain ⟨e1, e2⟩ := z
    refine yl_same e1 ?_ s
    subst e2
    rw [List.getElem?_map] at e
    obtain ⟨j, e3, e4⟩ := Option.map_eq_some_iff.mp e
    obtain ⟨_, e5⟩ := List.getElem?_eq_some_iff.mp e3
    rw [List.getElem_range] at e5
    subst e5; subst e4
    exact .int _⟩
end
def wIt (wa : WE) : WI := fun Ex δ P => wa Ex δ fun r δ1 => ob (walked δ1 r) fun p => P p.1 p.2
def wRng (wr : WA) (f : List Vw → Option (Int × Int)) : WI := fun Ex δ P => wr Ex δ fun rs δ1 => ob (views δ1 rs) fun as => ob (f as) fun p =>
  (-(2 ^ 62) ≤ p.1 ∧ p.1 < 2 ^ 62 ∧ -(2 ^ 62) ≤ p.2 ∧ p.2 < 2 ^ 62) ∧ P ((List.range (p.2 - p.1).toNat).map fun (i : Nat) => .int (p.1 + (i : Int))) δ1
def rng1 : List Vw → Option (Int × Int)
  | [.d (.int j)] => some (0, j)
  | _ => none
theorem ov_int {K : PySem.W.Frag} {B H : Hp} {v : V} {i : Int} (h : OV K B H v (.d (.int i))) : v = .int i := by
  rcases h with h | ⟨_, _, _, _, e, _⟩
  · cases h; rfl
  · cases e
section
variable {S : Sg}
theorem di_seq {tg e : Expr} {wa : WE} (h : DE S e wa) : DI S tg e (wIt wa) := by
  obtain ⟨t, p, s⟩ := h
  refine ⟨iSeq S.g.K t, fun c hc => pi_seq (X := S.g.cx c) (p c hc), ⟨fun Ex Ex' δ P P' hx h w => s.mono _ _ _ _ _ hx (fun r δ1 w => w.imp fun z w => h _ _ w) w, fun Ex F B H vs σ δ P R' hx h w k => ?_⟩⟩
  refine s.run _ _ _ _ _ _ _ _ _ hx h w fun B1 H1 v r δ1 s1 h1 q1 w1 => ?_
  obtain ⟨⟨ds, δ2⟩, e, w1⟩ := w1
  have frzn : (∃ p, frz δ1 r = some p ∧ itemsOf p.1 = some ds ∧ p.2 = δ2) → ((∃ a xs, v = .ref a ∧ SqL S.g.K H1 a xs ∧ R' (Itl S.g.K a) H1) ∨ (∃ a xs, v = .ref a ∧ SqT S.g.K H1 a xs ∧ R' (Itt S.g.K a) H1) ∨ ∃ y, v = .str y ∧ R' (Its y) H1) := by
    rintro ⟨⟨d, δ'⟩, e1, e2, e3⟩
    subst e3
    obtain ⟨B2, s2, h2, d2⟩ := frz_ok h1 q1 e1
    cases d2 with
    | non => cases e2
    | bl b => cases e2
    | int i => cases e2
    | str x =>
      cases e2
      exact .inr (.inr ⟨x, rfl, k B2 H1 _ _ _ (s1.trans s2) h2 it_str w1⟩)
    | lst r3 q3 =>
      cases e2
      have f : ∀ H, Same B2 H → SqL S.g.K H _ _ := fun H s => .inl (same_rd s r3)
      exact .inl ⟨_, _, rfl, f H1 h2.sb, k B2 H1 _ _ _ (s1.trans s2) h2 (it_list f q3 fun _ _ _ _ => trivial) w1⟩
    | tup r3 q3 =>
      cases e2
      have f : ∀ H, Same B2 H → SqT S.g.K H _ _ := fun H s => .inl (r3.mono s).rd
      exact .inr (.inl ⟨_, _, rfl, f H1 h2.sb, k B2 H1 _ _ _ (s1.trans s2) h2 (it_tup f q3) w1⟩)
  have plain : InP B1 v ds → P ds δ1 → ((∃ a xs, v = .ref a ∧ SqL S.g.K H1 a xs ∧ R' (Itl S.g.K a) H1) ∨ (∃ a xs, v = .ref a ∧ SqT S.g.K H1 a xs ∧ R' (Itt S.g.K a) H1) ∨ ∃ y, v = .str y ∧ R' (Its y) H1) := by
    rintro ⟨a, o, xs, rfl, r3, _, _, q3⟩ w1
    have f : ∀ H, Same B1 H → SqT S.g.K H a xs := fun H s => .inl (.inr ⟨o, s _ _ r3⟩)
    exact .inr (.inl ⟨_, _, rfl, f H1 h1.sb, k B1 H1 _ _ _ s1 h1 (it_tup f q3) w1⟩)
  cases r with
  | w d =>
    simp only [walked] at e
    obtain ⟨ds', e1, e⟩ := Option.bind_eq_some_iff.mp e
    split at e
    · rename_i hs
      cases e
      have q1 : Dp S.g.K (fun _ => none) v d := q1
      cases q1 with
      | non => cases e1
      | bl b => cases e1
      | int i => cases e1
      | str x => cases e1; exact .inr (.inr ⟨x, rfl, k B1 H1 _ _ _ s1 h1 it_str w1⟩)
      | lst r3 q3 =>
        cases e1
        have f : ∀ H, Same B1 H → SqL S.g.K H _ _ := fun H s => L2.Same.seq (fun _ _ z => by cases z) r3
        exact .inl ⟨_, _, rfl, f H1 h1.sb, k B1 H1 _ _ _ s1 h1 (it_list f (dp_items q3 hs B1) fun _ _ _ _ => trivial) w1⟩
      | tup r3 q3 =>
        cases e1
        have f : ∀ H, Same B1 H → SqT S.g.K H _ _ := fun H s => by
          rcases r3 with r3 | r3
          · exact .inl (same_rd (B := fun _ => none) (fun _ _ z => by cases z) r3)
          · exact .inr r3
        exact .inr (.inl ⟨_, _, rfl, f H1 h1.sb, k B1 H1 _ _ _ s1 h1 (it_tup f (dp_items q3 hs B1)) w1⟩)
    · cases e
  | d d =>
    simp only [walked] at e
    obtain ⟨p, e1, e⟩ := Option.bind_eq_some_iff.mp e
    obtain ⟨ds', e2, e⟩ := Option.map_eq_some_iff.mp e
    cases e
    exact frzn ⟨p, e1, e2, rfl⟩
  | o i =>
    simp only [walked] at e
    split at e
    · rename_i ds' hp
      cases e
      exact plain (plain_ok h1 q1 hp) w1
    · obtain ⟨p, e1, e⟩ := Option.bind_eq_some_iff.mp e
      obtain ⟨ds', e2, e⟩ := Option.map_eq_some_iff.mp e
      cases e
      exact frzn ⟨p, e1, e2, rfl⟩
  | n c =>
    have gen : ((frz δ1 (.n c)).bind fun p => (itemsOf p.1).map fun ds => (ds, p.2)) = some (ds, δ2) → ((∃ a xs, v = .ref a ∧ SqL S.g.K H1 a xs ∧ R' (Itl S.g.K a) H1) ∨ (∃ a xs, v = .ref a ∧ SqT S.g.K H1 a xs ∧ R' (Itt S.g.K a) H1) ∨ ∃ y, v = .str y ∧ R' (Its y) H1) := fun e => by
      obtain ⟨p, e1, e⟩ := Option.bind_eq_some_iff.mp e
      obtain ⟨ds', e2, e⟩ := Option.map_eq_some_iff.mp e
      cases e
      exact frzn ⟨p, e1, e2, rfl⟩
    cases c with
    | pt xs =>
      cases e
      obtain ⟨a, rfl, _, ⟨o, ys, e1, e2, e3, q⟩, _⟩ := q1
      exact plain ⟨a, o, ys, rfl, e1, e2, e3, q⟩ w1
    | _ => exact gen e
theorem di_rng1 {tg a : Expr} {wr : WA} {p pos : Pos} (hg : GlS S.sc "range") (hm : S.g.mg "range" = none) (ha : DA S [a] wr) (hs : ∀ env, starEach [a] env = [(false, eval a env)] := by intro _; rfl) : DI S tg (.Call (.Name "range" p) [a] [] pos) (wRng wr rng1) := by
  obtain ⟨t, pa, s⟩ := ha
  refine ⟨_, fun c hc => pi_range1 (gl_of hc hg) hm (pa c hc) (hs _), ⟨fun Ex Ex' δ P P' hx h w => s.mono _ _ _ _ _ hx (fun r δ1 w => w.imp fun as w => w.imp fun p w => ⟨w.1, h _ _ w.2⟩) w, fun Ex F B H vs σ δ P R' hx h w k => ?_⟩⟩
  refine s.run _ _ _ _ _ _ _ _ _ hx h w fun B1 H1 ws rs δ1 s1 h1 q1 w1 => ?_
  obtain ⟨as, e1, ⟨lo, hi⟩, e2, hb, w1⟩ := w1
  have ov := views_ok h1 q1 e1
  unfold rng1 at e2
  split at e2
  · cases e2
    cases ov with
    | cons o1 o2 =>
      cases o2
      have := ov_int o1
      subst this
      refine ⟨hi, rfl, hb.2.2.1, hb.2.2.2, k B1 H1 _ _ δ1 s1 h1 it_range (by simpa using w1)⟩
  · cases e2
end
theorem wipe_at {σ : L2.St} {j : Nat} : ∀ (js : List Nat), (wipe σ js)[j]? = if j ∈ js then (σ[j]?).map (fun _ => none) else σ[j]?
  | [] => by simp [wipe]
  | k :: js => by
    show ((wipe σ js).set k none)[j]? = _
    rw [List.getElem?_set]
    by_cases hk : k = j
    · subst hk
      rw [if_pos rfl, if_pos List.mem_cons_self, wipe_length]
      by_cases hl : k < σ.length
      · rw [if_pos hl, List.getElem?_eq_getElem hl]; rfl
      · rw [if_neg hl, List.getElem?_eq_none (by omega)]; rfl
    · rw [if_neg hk, wipe_at js]
      by_cases hj : j ∈ js
      · rw [if_pos hj, if_pos (List.mem_cons_of_mem _ hj)]
      · rw [if_neg hj, if_neg (by intro z; rcases List.mem_cons.mp z with z | z; exact hk z.symm; exact hj z)]
theorem wipe_wipe (σ : L2.St) (js : List Nat) : wipe (wipe σ js) js = wipe σ js := by
  refine List.ext_getElem? fun j => ?_
  rw [wipe_at, wipe_at]
  split
  · cases σ[j]? <;> rfl
  · rfl
theorem wipe_set {σ : L2.St} {i : Nat} {v : Option V} {js : List Nat} (h : i ∈ js) : wipe (σ.set i v) js = wipe σ js := by
  refine List.ext_getElem? fun j => ?_
  rw [wipe_at, wipe_at, List.getElem?_set]
  by_cases hj : j ∈ js
  · rw [if_pos hj, if_pos hj]
    by_cases hi : i = j
    · subst hi
      rw [if_pos rfl]
      by_cases hl : i < σ.length
      · rw [if_pos hl, List.getElem?_eq_getElem hl]; rfl
      · rw [if_neg hl, List.getElem?_eq_none (by omega)]
    · rw [if_neg hi]
  · rw [if_neg hj, if_neg hj, if_neg (fun z : i = j => hj (by rw [← z]; exact h))]
/-- σ' is σ but for the slots ts -/
def ButFor (ts : List Nat) (σ σ' : L2.St) : Prop := σ'.length = σ.length ∧ ∀ js : List Nat, (∀ i ∈ ts, i ∈ js) → wipe σ' js = wipe σ js
abbrev WG := PyData → SEnv → Option SEnv
structure GSim (K : PySem.W.Frag) (g : TG) (G : WG) (ts : List Nat) : Prop where
  run : ∀ (F B H : Hp) (vs : List V) (σ : L2.St) (δ δ' : SEnv) (v : V) (d : PyData) (Q : L2.St → Hp → Prop), Rep K F B H vs σ δ → DD B v d → G d δ = some δ' → (∀ σ', Rep K F B H vs σ' δ' → ButFor ts σ σ' → Q σ' H) → g v σ H Q
def DG (S : Sg) (tg : Expr) (G : WG) (ts : List Nat) : Prop := ∃ t, (∀ c, S.ok c → PG (S.g.cx c) tg t) ∧ GSim S.g.K t G ts
abbrev WGs := List PyData → SEnv → Option SEnv
structure GsSim (K : PySem.W.Frag) (g : TGs) (G : WGs) (ts : List Nat) : Prop where
  run : ∀ (F B H : Hp) (vs : List V) (σ : L2.St) (δ δ' : SEnv) (ws : List V) (ds : List PyData) (Q : L2.St → Hp → Prop), Rep K F B H vs σ δ → DDs B ws ds → G ds δ = some δ' → (∀ σ', Rep K F B H vs σ' δ' → ButFor ts σ σ' → Q σ' H) → g ws σ H Q
def DGs (S : Sg) (tgs : List Expr) (G : WGs) (ts : List Nat) : Prop := ∃ t, (∀ c, S.ok c → PGs (S.g.cx c) tgs t) ∧ GsSim S.g.K t G ts
def gN (i : Nat) : WG := fun d δ => some (δ.set i (some (.d d)))
def gsN : WGs := fun ds δ => match ds with
  | [] => some δ
  | _ => none
def gsC (G : WG) (Gs : WGs) : WGs := fun ds δ => match ds with
  | d :: ds => (G d δ).bind (Gs ds)
  | _ => none
def gT (n : Nat) (Gs : WGs) : WG := fun d δ => match d with
  | .tuple ds => if ds.length = n then Gs ds δ else none
  | _ => none
section
variable {S : Sg}
theorem dg_name {i : Nat} {x : Str} {pos : Pos} (hi : S.N[i]? = some x) (hx : Loc S.sc x) (ht : S.top = true ∨ S.sc.names.lookup x = some .local := by first | exact .inl rfl | exact .inr rfl) : DG S (.Name x pos) (gN i) [i] := by
  refine ⟨gName i, fun c hc => pg_name (X := S.g.cx c) (by show c.N.Nodup; rw [hc.hN]; exact hc.nd) (by show c.N[i]? = _; rw [hc.hN]; exact hi) (by show Loc c.env.scope x; rw [hc.hs]; exact hx) (fn_ok hc ht), ⟨fun F B H vs σ δ δ' v d Q h q e k => ?_⟩⟩
  cases e
  exact k _ (h.store i v (.d d) q (fun _ z => nomatch z) (fun a _ c z => nomatch z)) ⟨List.length_set, fun js hj => wipe_set (hj i List.mem_cons_self)⟩
theorem dgs_nil : DGs S [] gsN [] := ⟨gNil, fun _ _ => pgs_nil, ⟨fun F B H vs σ δ δ' ws ds Q h q e k => by
  cases q with
  | nil => cases e; exact ⟨rfl, k σ h ⟨rfl, fun _ _ => rfl⟩⟩
  | cons _ _ => cases e⟩⟩
theorem dgs_cons {e : Expr} {es : List Expr} {G : WG} {Gs : WGs} {ts us : List Nat} (h1 : DG S e G ts) (h2 : DGs S es Gs us) (hs : ∀ env, (assignEach (e :: es) env).map (·.2) = assign e env :: (assignEach es env).map (·.2) := by intro _; rfl) : DGs S (e :: es) (gsC G Gs) (ts ++ us) := by
  obtain ⟨t, p, s⟩ := h1
  obtain ⟨t2, p2, s2⟩ := h2
  refine ⟨_, fun c hc => pgs_cons (p c hc) (p2 c hc) (hs _), ⟨fun F B H vs σ δ δ' ws ds Q h q e k => ?_⟩⟩
  cases q with
  | nil => cases e
  | cons q1 q2 =>
    obtain ⟨δ1, e1, e⟩ := Option.bind_eq_some_iff.mp e
    refine ⟨_, _, rfl, s.run F B H vs σ δ δ1 _ _ _ h q1 e1 fun σ1 h1 b1 => ?_⟩
    refine s2.run F B H vs σ1 δ1 δ' _ _ _ h1 q2 e fun σ2 h2 b2 => k σ2 h2 ⟨b2.1.trans b1.1, fun js hj => ?_⟩
    rw [b2.2 js fun i hi => hj i (List.mem_append_right _ hi), b1.2 js fun i hi => hj i (List.mem_append_left _ hi)]
theorem dg_tup {es : List Expr} {k n : Nat} {Gs : WGs} {pos : Pos} {ts : List Nat} (h : DGs S es Gs ts) (hn : ∀ env, (assignEach es env).length = n := by intro _; rfl) (hst : ∀ env, (assignEach es env).findIdx? (·.1) = none := by intro _; rfl) : DG S (.Tuple es k pos) (gT n Gs) ts := by
  obtain ⟨t, p, s⟩ := h
  refine ⟨gTup S.g.K n t, fun c hc => pg_tup (X := S.g.cx c) hc.calm (p c hc) (hn _) (hst _), ⟨fun F B H vs σ δ δ' v d Q h q e k => ?_⟩⟩
  cases q with
  | tup r q =>
    simp only [gT] at e
    split at e
    · rename_i hl
      exact ⟨_, _, rfl, .inl (r.mono h.sb).rd, by rw [q.length]; exact hl, s.run F B H vs σ δ δ' _ _ _ h q e k⟩
    · cases e
  | _ => cases e
end
end DL
set_option Elab.async false
set_option linter.all false
set_option maxRecDepth 100000
set_option maxHeartbeats 4000000
set_option autoImplicit false
namespace DL
open PySem PySem.Spec PyProof.Rows L2
def wForR (G : WG) (body : WS) : List PyData → WS
  | [], d, δ => d.nx δ
  | x :: xs, d, δ => ob (G x δ) fun δ1 => body { nx := wForR G body xs d, rt := d.rt, bk := d.nx, ct := wForR G body xs d, ex := d.ex } δ1
def wFor (wi : WI) (G : WG) (body : WS) : WS := fun d δ => wi d.ex δ fun ds δ1 => wForR G body ds d δ1
section
variable {S : Sg}
theorem wForR_mono {G : WG} {body : WS} (hb : ∀ (d d' : DEnds) (δ : SEnv), d.le d' → body d δ → body d' δ) : ∀ (xs : List PyData) (d d' : DEnds) (δ : SEnv), d.le d' → wForR G body xs d δ → wForR G body xs d' δ
  | [], d, d', δ, h, w => h.nx _ w
  | x :: xs, d, d', δ, h, w => w.imp fun δ1 w => hb { nx := wForR G body xs d, rt := d.rt, bk := d.nx, ct := wForR G body xs d, ex := d.ex } { nx := wForR G body xs d', rt := d'.rt, bk := d'.nx, ct := wForR G body xs d', ex := d'.ex } δ1
      ⟨fun δ w => wForR_mono hb xs d d' δ h w, h.rt, h.nx, fun δ w => wForR_mono hb xs d d' δ h w, h.ex⟩ w
theorem ds_for {tg iter : Expr} {body : List Stmt} {wi : WI} {G : WG} {wb : WS} {pos : Pos} {ts : List Nat} (hi : DI S tg iter wi) (hg : DG S tg G ts) (hb : DSs S body wb) (hf : ∀ env x, foldedSetIterable iter env x = pure x := by intro _ _; rfl) : DS S (.For tg iter body [] pos) (wFor wi G wb) := by
  obtain ⟨ti, pi, si⟩ := hi
  obtain ⟨tg', pg, sg⟩ := hg
  obtain ⟨tb, pb, sb⟩ := hb
  refine ⟨tFor ti tg' tb, fun c hc => ps_for hc.po hc.calm (pi c hc) (pg c hc) (pb c hc) (hf _), ⟨fun d d' δ h w => ?_, fun F B H vs σ δ D d hx h k w => ?_⟩⟩
  · exact si.mono _ _ _ _ _ h.ex (fun ds δ1 w => wForR_mono sb.mono ds d d' δ1 h w) w
  · refine si.run _ _ _ _ _ _ _ _ _ hx h w fun B1 H1 J ds δ1 s1 h1 q1 w1 => ?_
    refine ⟨fun i m σ H => m = ds.length - i ∧ i ≤ ds.length ∧ ∃ B' δ', Same B1 B' ∧ Rep S.g.K F B' H vs σ δ' ∧ wForR G wb (ds.drop i) d δ', ⟨ds.length, by simp, Nat.zero_le _, B1, δ1, Same.refl _, h1, w1⟩, ?_⟩
    rintro i m σ2 H2 ⟨rfl, hi, B2, δ2, s2, h2, w2⟩
    by_cases hlt : i < ds.length
    · refine .inr ⟨q1.go i H2 (s2.trans h2.sb) hlt, fun σ' H' => ∃ B' δ', Same B1 B' ∧ Rep S.g.K F B' H' vs σ' δ' ∧ wForR G wb (ds.drop (i + 1)) d δ', fun σ' H' ⟨B', δ', t1, t2, t3⟩ => ⟨ds.length - (i + 1), by omega, rfl, hlt, B', δ', t1, t2, t3⟩, fun x H' y => ?_⟩
      have ed : ds.drop i = ds[i] :: ds.drop (i + 1) := List.drop_eq_getElem_cons hlt
      rw [ed] at w2
      obtain ⟨δ3, e3, w3⟩ := w2
      have fin : ∀ (B3 H3 : Hp) (x : V), Same B2 B3 → Rep S.g.K F B3 H3 vs σ2 δ2 → DD B3 x ds[i] → tg' x σ2 H3 fun σ2' H2' => tb { D with nx := fun σ' H' => ∃ B' δ', Same B1 B' ∧ Rep S.g.K F B' H' vs σ' δ' ∧ wForR G wb (ds.drop (i + 1)) d δ', ct := fun σ' H' => ∃ B' δ', Same B1 B' ∧ Rep S.g.K F B' H' vs σ' δ' ∧ wForR G wb (ds.drop (i + 1)) d δ', bk := D.nx } σ2' H2' := by
        intro B3 H3 x s3 h3 q3
        refine sg.run F B3 H3 vs σ2 δ2 δ3 x _ _ h3 q3 e3 fun σ3 h4 _ => ?_
        have s4 : Same B B3 := s1.trans (s2.trans s3)
        refine sb.run F B3 H3 vs σ3 δ3 _ { nx := wForR G wb (ds.drop (i + 1)) d, rt := d.rt, bk := d.nx, ct := wForR G wb (ds.drop (i + 1)) d, ex := d.ex } (hx.up s4) h4 ⟨fun B' σ' H' δ' t1 t2 t3 => ⟨B', δ', (s2.trans s3).trans t1, t2, t3⟩, (k.up s4).rt, (k.up s4).nx, fun B' σ' H' δ' t1 t2 t3 => ⟨B', δ', (s2.trans s3).trans t1, t2, t3⟩⟩ w3
      obtain ⟨B3', s3', g3', q3'⟩ := q1.yld i H2 B2 x H' ds[i] s2 h2.sb y (by simp [hlt])
      exact fin B3' H' x s3' (g3' _ _ _ _ _ h2) q3'
    · have e : i = ds.length := by omega
      subst e
      rw [List.drop_length] at w2
      exact .inl ⟨q1.stop _ H2 (s2.trans h2.sb) (Nat.le_refl _), k.nx B2 σ2 H2 δ2 (s1.trans s2) h2 w2⟩
end
def forgetAll : SEnv → List Nat → SEnv
  | δ, [] => δ
  | δ, i :: is => (forgetAll δ is).set i none
/-- behind the block: its own names as they were, where they were data -/
def restore (δ0 : SEnv) : SEnv → List Nat → SEnv
  | δ, [] => δ
  | δ, i :: is => match δ0[i]? with
    | some (some (.d d)) => (restore δ0 δ is).set i (some (.d d))
    | _ => (restore δ0 δ is).set i none
abbrev Ex0 : XP := fun _ => False
def wLcR (G : WG) (wt : WT) (we : WE) (own : List Nat) : List PyData → List PyData → SEnv → (List PyData → SEnv → Prop) → Prop
  | [], acc, δ, P => P acc δ
  | x :: xs, acc, δ, P => ob (G x (forgetAll δ own)) fun δ1 => wt Ex0 δ1 fun b δ2 => if b = true then we Ex0 δ2 fun r δ3 => ob (frz δ3 r) fun p => acc.length < sizeLine ∧ wLcR G wt we own xs (acc ++ [p.1]) p.2 P else wLcR G wt we own xs acc δ2 P
def wLc (wi : WI) (G : WG) (wt : WT) (we : WE) (own : List Nat) : WE := fun Ex δ P => wi Ex δ fun ds δ1 => wLcR G wt we own ds [] δ1 fun acc δ2 => P (.n (.l acc)) (restore δ1 (forgetAll δ2 own) own)
def wYes : WT := fun _ δ P => P true δ
section
variable {K : PySem.W.Frag} {F B H : Hp} {vs : List V} {σ : L2.St} {δ : SEnv}
/-- slots may be unknown -/
theorem Rep.dim (h : Rep K F B H vs σ δ) {σ' : L2.St} {δ' : SEnv} (hl : σ'.length = δ'.length) (hs : ∀ (i : Nat) (s : Sl), δ'[i]? = some (some s) → δ[i]? = some (some s) ∧ σ'[i]? = σ[i]?) : Rep K F B H vs σ' δ' := by
  refine ⟨h.sb, h.sf, h.dj, hl, fun i s e => ?_, fun i j a a' p b c b' c' e1 e2 e3 e4 f5 f6 => ?_, fun i c e => ?_, h.nt⟩
  · obtain ⟨e1, e2⟩ := hs i s e
    rw [e2]; exact h.ok i s e1
  · obtain ⟨f1, f2⟩ := hs i _ e1
    obtain ⟨g1, g2⟩ := hs j _ e2
    rw [f2] at e3; rw [g2] at e4
    exact h.apart i j a a' p b c b' c' f1 g1 e3 e4 f5 f6
  · obtain ⟨e1, e2⟩ := hs i _ e
    rw [e2]; exact h.bor i c e1
theorem forgetAll_length (δ : SEnv) : ∀ is : List Nat, (forgetAll δ is).length = δ.length
  | [] => rfl
  | i :: is => by unfold forgetAll; rw [List.length_set, forgetAll_length δ is]
theorem forgetAll_get {δ : SEnv} {j : Nat} {s : Sl} : ∀ {is : List Nat}, (forgetAll δ is)[j]? = some (some s) → δ[j]? = some (some s) ∧ j ∉ is
  | [], e => ⟨e, by simp⟩
  | i :: is, e => by
    rcases set_get e with ⟨_, z⟩ | ⟨n, z⟩
    · cases z
    · obtain ⟨e1, e2⟩ := forgetAll_get (is := is) z
      exact ⟨e1, by intro hm; rcases List.mem_cons.mp hm with hm | hm; exact n hm; exact e2 hm⟩
theorem forgetAll_at {δ : SEnv} {j : Nat} : ∀ (js : List Nat), (forgetAll δ js)[j]? = if j ∈ js then (δ[j]?).map (fun _ => none) else δ[j]?
  | [] => by simp [forgetAll]
  | k :: js => by
    show ((forgetAll δ js).set k none)[j]? = _
    rw [List.getElem?_set]
    by_cases hk : k = j
    · subst hk
      rw [if_pos rfl, if_pos List.mem_cons_self, forgetAll_length]
      by_cases hl : k < δ.length
      · rw [if_pos hl, List.getElem?_eq_getElem hl]; rfl
      · rw [if_neg hl, List.getElem?_eq_none (by omega)]; rfl
    · rw [if_neg hk, forgetAll_at js]
      by_cases hj : j ∈ js
      · rw [if_pos hj, if_pos (List.mem_cons_of_mem _ hj)]
      · rw [if_neg hj, if_neg (by intro z; rcases List.mem_cons.mp z with z | z; exact hk z.symm; exact hj z)]
theorem forgetAll_twice (δ : SEnv) (js : List Nat) : forgetAll (forgetAll δ js) js = forgetAll δ js := by
  refine List.ext_getElem? fun j => ?_
  rw [forgetAll_at, forgetAll_at]
  split
  · cases δ[j]? <;> rfl
  · rfl
theorem wipe_get {j : Nat} : ∀ {is : List Nat}, j ∉ is → (wipe σ is)[j]? = σ[j]?
  | [], _ => rfl
  | i :: is, h => by
    unfold wipe
    rw [List.getElem?_set_ne (fun z => h (by rw [z]; exact List.mem_cons_self))]
    exact wipe_get fun z => h (List.mem_cons_of_mem _ z)
theorem Rep.wiped (h : Rep K F B H vs σ δ) (is : List Nat) : Rep K F B H vs (wipe σ is) (forgetAll δ is) :=
  h.dim (by rw [wipe_length, forgetAll_length]; exact h.len) fun i s e => by
    obtain ⟨e1, e2⟩ := forgetAll_get e
    exact ⟨e1, wipe_get e2⟩
theorem Rep.unwiped {σ2 : L2.St} {is : List Nat} (h : Rep K F B H vs σ2 δ) (hw : wipe σ2 is = wipe σ is) (hl : σ2.length = σ.length) : Rep K F B H vs σ (forgetAll δ is) :=
  h.dim (by rw [forgetAll_length, ← h.len, hl]) fun i s e => by
    obtain ⟨e1, e2⟩ := forgetAll_get e
    refine ⟨e1, ?_⟩
    rw [← wipe_get (σ := σ) e2, ← hw, wipe_get e2]
theorem Rep.restored {B0 : Hp} {H0 : Hp} {δ0 : SEnv} (h0 : Rep K F B0 H0 vs σ δ0) (s : Same B0 B) : ∀ {is : List Nat}, Rep K F B H vs σ δ → Rep K F B H vs σ (restore δ0 δ is)
  | [], h => h
  | i :: is, h => by
    have h' := Rep.restored h0 s (is := is) h
    unfold restore
    split
    · rename_i d e
      obtain ⟨v, e1, q⟩ := h0.ok i _ e
      exact h'.know e1 (DD.mono s q)
    · exact h'.forget i
/-- the list under way belongs to the frame -/
theorem Rep.lay (h : Rep K F B H vs σ δ) {D : Addr} (hD : H D = none) (o : HO) : Rep K (upd F D o) B (upd H D o) vs σ δ := by
  have h1 := h.newO hD o
  refine ⟨h1.sb, fun a u e => ?_, fun a u e => ?_, h1.len, fun i s e => ?_, h1.apart, h1.bor, h1.nt⟩
  · by_cases ha : a = D
    · subst ha; rw [upd_same] at e ⊢; exact e
    · rw [upd_ne ha] at e; exact h1.sf a u e
  · by_cases ha : a = D
    · subst ha; exact nof h.sb hD
    · rw [upd_ne ha] at e; exact h1.dj a u e
  · obtain ⟨v, e1, q⟩ := h1.ok i s e
    refine ⟨v, e1, ?_⟩
    cases s with
    | d d => exact q
    | w d => exact q
    | o b c =>
      obtain ⟨a, e2, e3, q2⟩ := q
      obtain ⟨v', e1', a', e2', _, q2'⟩ := h.ok i _ e
      rw [e1] at e1'; cases e1'
      subst e2; cases e2'
      refine ⟨a, rfl, fun p f => ?_, q2⟩
      have hp : p ≠ D := foot_new (o := o) q2' hD ((foot_upd q2' hD).mp f)
      rw [upd_ne hp]; exact e3 p f
theorem Rep.relay {D : Addr} {o o' : HO} (h : Rep K (upd F D o) B H vs σ δ) : Rep K (upd F D o') B (upd H D o') vs σ δ := by
  have hB : B D = none := h.dj D o upd_same
  have nd : ∀ {i : Nat} {b : Bool} {c : Cont} {a p : Addr}, δ[i]? = some (some (.o b c)) → σ[i]? = some (some (.ref a)) → Foot H a c p → p ≠ D := fun e ea f z => by
    have := ((h.own_up e ea).1 _ f).2
    subst z; rw [upd_same] at this; cases this
  have sm : ∀ {i : Nat} {b : Bool} {c : Cont} {a p : Addr}, δ[i]? = some (some (.o b c)) → σ[i]? = some (some (.ref a)) → (Foot (upd H D o') a c p ↔ Foot H a c p) := fun e ea => foot_eq fun p f => upd_ne (nd e ea f)
  refine ⟨fun a u e => ?_, fun a u e => ?_, fun a u e => ?_, h.len, fun i s e => ?_, fun i j a a' p b c b' c' e1 e2 e3 e4 f1 f2 => h.apart i j a a' p b c b' c' e1 e2 e3 e4 ((sm e1 e3).mp f1) ((sm e2 e4).mp f2), h.bor, h.nt⟩
  · rw [upd_ne (ne_of_none e hB)]; exact h.sb a u e
  · by_cases ha : a = D
    · subst ha; rw [upd_same] at e ⊢; exact e
    · rw [upd_ne ha] at e ⊢; exact h.sf a u (by rw [upd_ne ha]; exact e)
  · by_cases ha : a = D
    · subst ha; exact hB
    · rw [upd_ne ha] at e; exact h.dj a u (by rw [upd_ne ha]; exact e)
  · obtain ⟨v, e1, q⟩ := h.ok i s e
    refine ⟨v, e1, ?_⟩
    cases s with
    | d d => exact q
    | w d => exact q
    | o b c =>
      obtain ⟨a, e2, e3, q2⟩ := q
      subst e2
      refine ⟨a, rfl, fun p f => ?_, q2.mono (Same.refl _) fun p f => upd_ne (nd e e1 f)⟩
      have f' := (sm e e1).mp f
      have := e3 p f'
      rw [upd_ne (nd e e1 f')] at this ⊢
      exact this
theorem Rep.unlay {D : Addr} {o : HO} (h : Rep K (upd F D o) B H vs σ δ) (hF : F D = none) : Rep K F B H vs σ δ := by
  refine ⟨h.sb, fun a u e => h.sf a u (by rw [upd_ne (ne_of_none e hF)]; exact e), fun a u e => h.dj a u (by rw [upd_ne (ne_of_none e hF)]; exact e), h.len, fun i s e => ?_, h.apart, h.bor, h.nt⟩
  obtain ⟨v, e1, q⟩ := h.ok i s e
  refine ⟨v, e1, ?_⟩
  cases s with
  | d d => exact q
  | w d => exact q
  | o b c =>
    obtain ⟨a, e2, e3, q2⟩ := q
    refine ⟨a, e2, fun p f => ⟨(e3 p f).1, ?_⟩, q2⟩
    have z := (e3 p f).2
    have hp : p ≠ D := fun w => by subst w; rw [upd_same] at z; cases z
    rwa [upd_ne hp] at z
/-- what belongs to the frame stands apart from the slots -/
theorem Rep.off {D : Addr} {o : HO} (h : Rep K (upd F D o) B H vs σ δ) : Off H σ δ fun q => q = D := fun i b c a p e ea f z => by
  have := ((h.own_up e ea).1 _ f).2
  subst z; rw [upd_same] at this; cases this
theorem off_restore {H : Hp} {σ : L2.St} {δ1 δ' : SEnv} {f : Addr → Prop} {us : List Nat} (h : Off H σ (forgetAll δ' us) f) : ∀ (is : List Nat), Off H σ (restore δ1 (forgetAll δ' us) is) f := by
  have own_of : ∀ (is : List Nat) (i : Nat) (b : Bool) (c : Cont), (restore δ1 (forgetAll δ' us) is)[i]? = some (some (.o b c)) → (forgetAll δ' us)[i]? = some (some (.o b c)) := by
    intro is
    induction is with
    | nil => intro i b c e; exact e
    | cons j is ih =>
      intro i b c e
      unfold restore at e
      split at e <;> (rcases set_get e with ⟨_, z⟩ | ⟨_, z⟩ <;> first | (cases z; done) | exact ih i b c z)
  exact fun is i b c a p e ea fp => h i b c a p (own_of is i b c e) ea fp
end
/-- the block's own contexts -/
def Sg.blk (S : Sg) (scope : Scope) : Sg := ⟨S.g, S.CX, S.N, relS scope S.sc, S.k, fun _ _ _ => False, false, false⟩
def CXok (CX : CXT) : Prop := ∀ (outer : List Env) (H : Hp) (s : Shared) (e : Value) (s' : Shared), CX outer H s (fun _ _ _ => False) e s' → False
theorem cx0_ok : CXok CX0 := fun _ _ _ _ _ h => h
def DTs (S : Sg) (ifs : List Expr) (W : WT) : Prop := ∃ t, (∀ c, S.ok c → PTs (S.g.cx c) ifs t) ∧ TSim S.g.K S.E t W
theorem dts_nil {S : Sg} : DTs S [] wYes := ⟨tYes, fun _ _ => pts_nil, ⟨fun _ _ _ _ _ _ h w => h _ _ w, fun Ex F B H vs σ δ P Q hx h w k => k B H true δ (Same.refl _) h w⟩⟩
theorem dts_one {S : Sg} {c : Expr} {w : WT} (h : DT S c w) : DTs S [c] w := by
  obtain ⟨t, p, s⟩ := h
  exact ⟨t, fun c hc => pts_one (p c hc), s⟩
section
variable {S : Sg}
theorem blk_ok {scope : Scope} (hCX : CXok S.CX) {c : Cl} (hc : S.ok c) (s : Shared) (H : Hp) (C : Addr) (cl : List (Str × Addr)) (fp : List Addr) :
    (S.blk scope).ok ⟨c.A, c.N, s, H, compEnvC scope cl C c.env, c.stack, c.stack, fp, fun x => scope.names.lookup x == some .cell, c.calm, [], fun _ _ => False⟩ :=
  ⟨hc.hN, hc.nd, by show relS scope c.env.scope = relS scope S.sc; rw [hc.hs], hc.calm, hc.room, fun _ _ _ _ _ _ _ h => hCX _ _ _ _ _ h, PassesOwn.never, (fun z => by cases z), hc.gd, (fun z => by cases z), (fun z => by cases z)⟩
/-- the block of a comprehension, with its list at D -/
theorem lc_run {K : PySem.W.Frag} {tg' : TG} {tt : TT} {te : TE} {G : WG} {wt : WT} {we : WE} {own ts : List Nat} {F B1 H1 : Hp} {vs : List V} {σ : L2.St} {δ1 : SEnv} {J : It} {ds : List PyData} {E0' : XK} (sg : GSim K tg' G ts) (hts : ∀ i ∈ ts, i ∈ own) (st : TSim K E0' tt wt) (se : ESim K E0' te we)
    (h1 : Rep K F B1 H1 vs σ δ1) (q1 : ItOk B1 J ds) {D : Addr} (hD : H1 D = none) {P : List PyData → SEnv → Prop} (w1 : wLcR G wt we own ds [] δ1 P) {Qd : Hp → Prop}
    (k : ∀ B' H' acc xs δ', Same B1 B' → Rep K (upd F D (.lst xs)) B' H' vs σ (forgetAll δ' own) → DDs B' xs acc → P acc δ' → Qd H') :
    ∃ W : Nat → Nat → Hp → Prop, (∃ m, W 0 m (upd H1 D (.lst []))) ∧ ∀ i m H, W i m H →
      (J.stop i H ∧ Qd H) ∨ (J.go i H ∧ ∃ Nx : Hp → Prop, (∀ H', Nx H' → ∃ m', m' < m ∧ W (i + 1) m' H') ∧ ∀ x H', J.yld i H x H' → tg' x (wipe σ own) H' fun σ2 H2 => wipe σ2 own = wipe σ own ∧ tt σ2 H2 fun b H3 =>
        if b = true then te σ2 H3 fun y H4 => ∃ acc, H4 D = some (.lst acc) ∧ acc.length < sizeLine ∧ Nx (upd H4 D (.lst (acc ++ [y]))) else Nx H3) := by
  have hF : F D = none := nof h1.sf hD
  refine ⟨fun i m H => m = ds.length - i ∧ i ≤ ds.length ∧ ∃ B' δ' acc xs, Same B1 B' ∧ Rep K (upd F D (.lst xs)) B' H vs σ (forgetAll δ' own) ∧ DDs B' xs acc ∧ wLcR G wt we own (ds.drop i) acc δ' P, ⟨ds.length, by simp, Nat.zero_le _, B1, δ1, [], [], Same.refl _, ?_, .nil, w1⟩, ?_⟩
  · exact (h1.lay hD _).dim (by rw [forgetAll_length]; exact h1.len) fun i s e => ⟨(forgetAll_get e).1, rfl⟩
  rintro i m H2 ⟨rfl, hi, B2, δ2, acc, xs, s2, h2, qa, w2⟩
  by_cases hlt : i < ds.length
  · refine .inr ⟨q1.go i H2 (s2.trans h2.sb) hlt, fun H' => ∃ B' δ' acc xs, Same B1 B' ∧ Rep K (upd F D (.lst xs)) B' H' vs σ (forgetAll δ' own) ∧ DDs B' xs acc ∧ wLcR G wt we own (ds.drop (i + 1)) acc δ' P, fun H' ⟨B', δ', a', x', t1, t2, t3, t4⟩ => ⟨ds.length - (i + 1), by omega, rfl, hlt, B', δ', a', x', t1, t2, t3, t4⟩, fun x H' y => ?_⟩
    have ed : ds.drop i = ds[i] :: ds.drop (i + 1) := List.drop_eq_getElem_cons hlt
    rw [ed] at w2
    obtain ⟨δ3, e3, w3⟩ := w2
    have hw : Rep K (upd F D (.lst xs)) B2 H2 vs (wipe σ own) (forgetAll δ2 own) := by
      have := h2.wiped own
      rw [forgetAll_twice] at this; exact this
    -- behind an element or a test the slots of the def are as they were
    have away : ∀ {B5 H5 : Hp} {σ2 : L2.St} {δ5 : SEnv} {xs' : List V}, ButFor ts (wipe σ own) σ2 → Rep K (upd F D (.lst xs')) B5 H5 vs σ2 δ5 → Rep K (upd F D (.lst xs')) B5 H5 vs σ (forgetAll δ5 own) := by
      intro B5 H5 σ2 δ5 xs' b h5
      refine h5.unwiped ?_ (by rw [b.1, wipe_length])
      rw [b.2 own hts, wipe_wipe]
    have fin : ∀ (B3 H3 : Hp) (x : V), Same B2 B3 → Rep K (upd F D (.lst xs)) B3 H3 vs (wipe σ own) (forgetAll δ2 own) → DD B3 x ds[i] → tg' x (wipe σ own) H3 fun σ2 H2' => wipe σ2 own = wipe σ own ∧ tt σ2 H2' fun b H3' =>
        if b = true then te σ2 H3' fun y H4 => ∃ acc, H4 D = some (.lst acc) ∧ acc.length < sizeLine ∧ (∃ B' δ' acc' xs', Same B1 B' ∧ Rep K (upd F D (.lst xs')) B' (upd H4 D (.lst (acc ++ [y]))) vs σ (forgetAll δ' own) ∧ DDs B' xs' acc' ∧ wLcR G wt we own (ds.drop (i + 1)) acc' δ' P)
        else ∃ B' δ' acc' xs', Same B1 B' ∧ Rep K (upd F D (.lst xs')) B' H3' vs σ (forgetAll δ' own) ∧ DDs B' xs' acc' ∧ wLcR G wt we own (ds.drop (i + 1)) acc' δ' P := by
      intro B3 H3 x s3 h3 q3
      refine sg.run _ B3 H3 vs (wipe σ own) _ δ3 x _ _ h3 q3 e3 fun σ2 h4 b2 => ⟨by rw [b2.2 own hts, wipe_wipe], ?_⟩
      refine st.run Ex0 _ B3 H3 vs σ2 δ3 _ _ (fun _ _ _ _ _ _ _ _ _ _ _ _ z => z.elim) h4 w3 fun B4 H4 b δ4 s4 h5 w4 => ?_
      cases b with
      | false => exact ⟨B4, δ4, acc, xs, s2.trans (s3.trans s4), away b2 h5, qa.mono (s3.trans s4), w4⟩
      | true =>
        refine se.run Ex0 _ B4 H4 vs σ2 δ4 _ _ (fun _ _ _ _ _ _ _ _ _ _ _ _ z => z.elim) h5 w4 fun B5 H5 v r δ5 s5 h6 q6 w5 => ?_
        obtain ⟨⟨d, δ6⟩, e6, hl, w6⟩ := w5
        obtain ⟨B6, s6, h7, d7⟩ := frz_ok h6 q6 e6
        refine ⟨xs, h7.sf D _ upd_same, by rw [qa.length]; exact hl, B6, δ6, acc ++ [d], xs ++ [v], s2.trans (s3.trans (s4.trans (s5.trans s6))), ?_, ((qa.mono (s3.trans (s4.trans (s5.trans s6)))).snoc d7), w6⟩
        have := (away b2 h7).relay (o' := .lst (xs ++ [v]))
        exact this
    obtain ⟨B3', s3', g3', q3'⟩ := q1.yld i H2 B2 x H' ds[i] s2 h2.sb y (by simp [hlt])
    exact fin B3' H' x s3' (g3' _ _ _ _ _ hw) q3'
  · have e : i = ds.length := by omega
    subst e
    rw [List.drop_length] at w2
    exact .inl ⟨q1.stop _ H2 (s2.trans h2.sb) (Nat.le_refl _), k B2 H2 acc xs δ2 s2 h2 qa w2⟩
theorem wLcR_mono {K : PySem.W.Frag} {G : WG} {wt : WT} {we : WE} {own : List Nat} {tt : TT} {te : TE} {E0' : XK} (st : TSim K E0' tt wt) (se : ESim K E0' te we) : ∀ (xs acc : List PyData) (δ : SEnv) (P P' : List PyData → SEnv → Prop), (∀ a δ, P a δ → P' a δ) → wLcR G wt we own xs acc δ P → wLcR G wt we own xs acc δ P'
  | [], acc, δ, P, P', h, w => h _ _ w
  | x :: xs, acc, δ, P, P', h, w => w.imp fun δ1 w => by
    refine st.mono _ _ _ _ _ (fun _ z => z) (fun b δ2 w => ?_) w
    cases b with
    | false => exact wLcR_mono st se xs acc δ2 P P' h w
    | true =>
      refine se.mono _ _ _ _ _ (fun _ z => z) (fun r δ3 w => w.imp fun p w => ⟨w.1, ?_⟩) w
      exact wLcR_mono st se xs _ _ P P' h w.2
theorem sim_lc {K : PySem.W.Frag} {E E0' : XK} {ti : TI} {tg' : TG} {tt : TT} {te : TE} {wi : WI} {G : WG} {wt : WT} {we : WE} {own ts : List Nat} (si : ISim K E ti wi) (sg : GSim K tg' G ts) (hts : ∀ i ∈ ts, i ∈ own) (st : TSim K E0' tt wt) (se : ESim K E0' te we) : ESim K E (tLc ti tg' tt te own) (wLc wi G wt we own) := by
  refine ⟨fun Ex Ex' δ P P' hx h w => ?_, fun Ex F B H vs σ δ P Q hx h w k => ?_⟩
  · exact si.mono _ _ _ _ _ hx (fun ds δ1 w => wLcR_mono st se ds [] δ1 _ _ (fun acc δ2 w => h _ _ w) w) w
  · refine si.run _ _ _ _ _ _ _ _ _ hx h w fun B1 H1 J ds δ1 s1 h1 q1 w1 => ?_
    intro D hD
    refine lc_run sg hts st se h1 q1 hD w1 fun B' H' acc xs δ' s2 h2 qa w2 => ?_
    have hF : F D = none := nof h1.sf hD
    have h3 : Rep K F B' H' vs σ (restore δ1 (forgetAll δ' own) own) := Rep.restored h1 s2 (h2.unlay hF)
    exact k B' H' (.ref D) (.n (.l acc)) _ (s1.trans s2) h3 ⟨D, rfl, foot_bf rfl (h2.dj D _ upd_same) hF, ⟨xs, h2.sf D _ upd_same, qa⟩, off_restore h2.off own⟩ w2
theorem de_lc {elt tg iter : Expr} {ifs : List Expr} {scope : Scope} {own : List (Str × Nat)} {pos : Pos} {wi : WI} {G : WG} {wt : WT} {we : WE} {ts : List Nat} (hCX : CXok S.CX) (hi : DI S tg iter wi) (hblk : blkC S.N S.sc scope own = true) (hg : DG (S.blk scope) tg G ts) (hts : ts.all (fun i => (own.map (·.2)).contains i) = true)
    (ht : DTs (S.blk scope) ifs wt) (he : DE (S.blk scope) elt we) (hs : ∀ env x, foldedSetIterable iter env x = pure x := by intro _ _; rfl) : DE S (.ListComp elt [⟨tg, iter, ifs, 0⟩] scope pos) (wLc wi G wt we (own.map (·.2))) := by
  obtain ⟨ti, pi, si⟩ := hi
  obtain ⟨tg', pg, sg⟩ := hg
  obtain ⟨tt, pt, st⟩ := ht
  obtain ⟨te, pe, se⟩ := he
  have hts' : ∀ i ∈ ts, i ∈ own.map (·.2) := fun i hi => by
    have := List.all_eq_true.mp hts i hi
    simpa using this
  refine ⟨tLc ti tg' tt te (own.map (·.2)), fun c hc => ?_, sim_lc si sg hts' st se⟩
  refine pe_lc (X := S.g.cx c) hc.calm (by show c.N.Nodup; rw [hc.hN]; exact hc.nd) (pi c hc) (by show BlkOk c.N c.env.scope scope own; rw [hc.hN, hc.hs]; exact blkOk_by hblk) (fun s H C cl fp => ?_) (fun s H C cl fp => ?_) (fun s H C cl fp => ?_) (hs _)
  · exact pg _ (blk_ok hCX hc s H C cl fp)
  · exact pt _ (blk_ok hCX hc s H C cl fp)
  · exact pe _ (blk_ok hCX hc s H C cl fp)
end
end DL
set_option Elab.async false
set_option linter.all false
set_option maxRecDepth 100000
set_option maxHeartbeats 4000000
set_option autoImplicit false
namespace DL
open PySem PySem.Spec PyProof.Rows L2
theorem law_run {P : Program} {w : World} {K : PySem.W.Frag} {mg mb : Str → Option Value} {CX : CXT} {k : Nat} {fa a : Addr} {fd : FuncData} {x : Str} {sp : Sp} {sh : Shared} {vs : List Value} {ns : List Int}
    (KX : K.In sh.heap) (hns : sh.heap.Ns mainGlobals mg) (hb : sh.heap.Ns builtinsNs mb) (hbb : ∀ y : Str, y ≠ "__name__" → mb y = bootBuiltins y) (hlim : sh.heap.NoLimit) (hgn : sh.gens = #[])
    (ha : sh.heap.get? a = some { cls := .type "list", data := .seq vs.toArray }) (hi : IntsAre vs ns) (hl : ns.length ≤ sizeLine) (hr : Room k callerA)
    (hF : ∀ base : Heap, K.In base → base.Ns mainGlobals mg → FnG ⟨P, w, K, mg, base⟩ CX k fa fd [x] sp) (hbind : ∀ (s : Shared) (u : Value), BindsTo s fd ⟨[u], []⟩ [(x, u)])
    (hsp : ∀ H : Hp, Only H → SqL K H a (ns.map V.int) → sp [.ref a] H (fun v _ => v = .bl true) fun _ _ _ => False) (hCX : CXok CX) :
    codeAny (model P w) callerA (.call (.ref fa) ⟨[.ref a], []⟩) (fun r s' => r = .ok (.ret (.bool true)) ∧ OldK sh.heap s'.heap ∧ s'.os = sh.os ∧ AllBare s'.gens) sh := by
  have rv := vals_ints hi
  have main : ∀ H : Hp, Only H → SqL K H a (ns.map V.int) → HOk P w H sh.heap → (∀ b u, H b = some u → b = a ∧ K.lookup a = none) →
      codeAny (model P w) callerA (.call (.ref fa) ⟨[.ref a], []⟩) (fun r s' => r = .ok (.ret (.bool true)) ∧ OldK sh.heap s'.heap ∧ s'.os = sh.os ∧ AllBare s'.gens) sh := by
    intro H hO hS hok hA
    have stay : ∀ {b : Addr} {o : Obj}, sh.heap.get? b = some o → (∀ es ep, o.data = .dict es ep → H b = none) ∧ (K.lookup b = some o → H b = none) := by
      intro b o e
      constructor
      · intro es ep d
        cases q : H b with
        | none => rfl
        | some u =>
          obtain ⟨rfl, _⟩ := hA b u q
          rw [ha] at e; cases e; cases d
      · intro kl
        cases q : H b with
        | none => rfl
        | some u =>
          obtain ⟨rfl, z⟩ := hA b u q
          rw [z] at kl; cases kl
    have ns_of : ∀ {b : Addr} {m : Str → Option Value}, sh.heap.Ns b m → (hidT sh.heap H).Ns b m := by
      rintro b m ⟨o, es, ep, e, d, r⟩
      exact ⟨o, es, ep, hidT_get e ((stay e).1 es ep d), d, r⟩
    have KH : K.In (hidT sh.heap H) := fun b o e => hidT_get (KX b o e) ((stay (KX b o e)).2 e)
    have hM : Mod K mg (hidT sh.heap H) := by
      obtain ⟨mc, h1, h2⟩ := hlim
      exact ⟨KH, ns_of hns, ⟨mb, ns_of hb, hbb⟩, ⟨mc, ns_of h1, h2⟩⟩
    have e0 : Env0 P w K mg (hidT sh.heap H) callerA [] sh H := by
      refine ⟨rfl, hM, fun b o e => of_hidT e, Nat.le_of_eq (hidT_size _ _), trivial, fun b z => ?_, hok, .of_eq hgn⟩
      exact absurd (show b ∈ ([] : List Addr) from z) (by simp)
    refine codeAny_mono ((hF _ KH (ns_of hns)).run callerA [] sh H ⟨[.ref a], []⟩ [.ref a] [.ref a] _ _ rfl hr e0 (hbind sh (.ref a)) (.cons rfl .nil) (hsp H hO hS)) fun r s' h => ?_
    cases r with
    | error e => exact (hCX [] H sh e s' h).elim
    | ok fl => cases fl with
      | ret u =>
        obtain ⟨v, H', os, bare, un, hok', r', q⟩ := h
        have q : v = .bl true := q
        subst q
        obtain rfl : u = Value.bool true := r'
        refine ⟨rfl, OldK.of_keep fun b o e => ?_, os, bare⟩
        rcases hO b with z | ⟨ob, xs, z⟩
        · exact un.keep b o e z (fun z => absurd (show b ∈ ([] : List Addr) from z) (by simp)) (by simp)
        · obtain ⟨e1, _⟩ := hok b _ z
          obtain ⟨e2, _⟩ := hok' b _ (un.frzs b ob _ z)
          rw [e] at e1; cases e1
          exact e2
      | _ => exact h.elim
  cases hk : K.lookup a with
  | some o =>
    have e := KX a o hk
    rw [ha] at e
    cases e
    refine main (fun _ => none) (fun _ => .inl rfl) (.inr ⟨_, vs.toArray, _, hk, rfl, rfl, rfl, ?_, by simpa using rv⟩) (fun b u z => nomatch (show (none : Option HO) = some u from z)) (fun b u z => nomatch (show (none : Option HO) = some u from z))
    rw [List.size_toArray, hi.length]; exact hl
  | none =>
    let o : HO := .frz { cls := .type "list", data := .seq vs.toArray } (.lst (ns.map V.int))
    refine main (upd (fun _ => none) a o) (fun b => ?_) (.inl (.inr ⟨_, upd_same⟩)) (fun b u z => ?_) (fun b u z => ?_)
    · by_cases hab : b = a
      · subst hab; exact .inr ⟨_, _, upd_same⟩
      · exact .inl (upd_ne hab)
    · by_cases hab : b = a
      · subst hab
        rw [upd_same] at z; cases z
        exact ⟨ha, by rw [List.length_map]; exact hl, vs, _, rv, ha⟩
      · rw [upd_ne hab] at z; cases z
    · by_cases hab : b = a
      · exact ⟨hab, hk⟩
      · rw [upd_ne hab] at z; cases z
/-- the script, as a law's first slot holds it -/
def Scr (ns : List Int) (s : Sl) : Prop := s = .d (.list (ns.map .int)) ∨ s = .w (.list (ns.map .int))
theorem dps_ints {K : PySem.W.Frag} {H : Hp} : ∀ ns : List Int, DpAll K H (ns.map V.int) (ns.map .int)
  | [] => .nil
  | n :: ns => .cons (.int n) (dps_ints ns)
/-- what is left behind the head -/
theorem law_walk {l : PySem.W.OpenLaw} {n k : Nat} {q : Program} {loose : List Str} {XP : (Str → Option Value) → Heap → Prop} {YP : World → Heap → Prop} {d : DefRec} {K : Params → PySem.W.Frag} {x : Str} {W : FSpec} {CX : CXT} (hn : l.most = some n) (hn2 : n ≤ sizeLine) (hdf : d.params.defaults = []) (hr : Room k callerA) (hCX : CXok CX)
    (hY : ∀ (w : World) (h : Heap), YP w h → (K w.params).In h)
    (hF : ∀ (w : World) (mg : Str → Option Value) (fa : Addr) (h : Heap), (K w.params).In h → h.Ns mainGlobals mg → mg d.name = some (.ref fa) → ∃ fd : FuncData, (∀ (s : Shared) (u : Value), BindsTo s fd ⟨[u], []⟩ [(x, u)]) ∧
      ∀ base : Heap, (K w.params).In base → base.Ns mainGlobals mg → FnG ⟨l.prog, w, K w.params, mg, base⟩ CX k fa fd [x] (spOf (K w.params) 1 W))
    (hW : ∀ (ns : List Int) (s : Sl), ns.length ≤ n → Scr ns s → W [s] (fun _ => False) fun r _ => r = .d (.bool true)) :
    PySem.W.WalkO q loose XP YP l.row.toRowW d [] (fun f vs => PySem.call f vs) := by
  refine Att.attach_call hn hdf fun w s₀ sh mg mb fa o pm cd doc a vs ns G Y ho hd hcd hmg hobj hints hlen hgn => ?_
  have KX := hY w _ Y
  obtain ⟨fd, hb, hF⟩ := hF w mg fa _ KX G.T.g hmg
  refine law_run KX G.T.g G.T.b G.T.builtins G.T.nolimit hgn hobj hints (Nat.le_trans hlen hn2) hr hF hb (fun H hO hS => ?_) hCX
  have ex : ∃ s, Scr ns s ∧ SlOk (K w.params) (fun _ => none) H H (.ref a) s := by
    rcases hS with hS | hS
    · exact ⟨_, .inl rfl, DD.lst hS (DDs.of_ints ns)⟩
    · exact ⟨_, .inr rfl, Dp.lst (.inr hS) (dps_ints ns)⟩
  obtain ⟨s, hs, q⟩ := ex
  have no : ∀ b c, s ≠ .o b c := fun b c z => by
    rcases hs with e | e <;> (rw [e] at z; cases z)
  refine ⟨rfl, fun _ => none, H, [s], fun _ => False, fun r _ => r = .d (.bool true), ⟨Same.refl _, (fun _ _ z => by cases z), (fun _ _ z => by cases z), rfl, fun i s' e => ?_, fun i j b b3 p c b1 c1 b2 e1 => ?_, fun i c e => ?_, fun b ps e => by rcases hO b with z | ⟨_, _, z⟩ <;> (rw [z] at e; cases e)⟩, fun _ _ _ _ _ _ _ _ _ _ _ _ z => z.elim, hW ns s hlen hs, fun B' H' v r ss' s1 h1 q1 nO e => ?_⟩
  · match i, e with
    | 0, e => cases e; exact ⟨.ref a, rfl, q⟩
  · match i, e1 with
    | 0, e1 => cases e1; exact absurd rfl (no _ _)
  · match i, e with
    | 0, e => cases e; exact absurd rfl (no _ _)
  · subst e
    cases (show DD B' v (.bool true) from q1)
    rfl
end DL
set_option Elab.async false
set_option linter.all false
set_option maxRecDepth 100000
set_option maxHeartbeats 4000000
set_option autoImplicit false
namespace DL
open PySem PySem.Spec PyProof.Rows L2
section
variable {K : PySem.W.Frag} {B H : Hp} {v : V}
theorem ov_str {x : Str} (h : OV K B H v (.d (.str x))) : v = .str x := by
  rcases h with h | ⟨_, _, _, _, e, _⟩
  · cases h; rfl
  · cases e
theorem ov_bl {b : Bool} (h : OV K B H v (.d (.bool b))) : v = .bl b := by
  rcases h with h | ⟨_, _, _, _, e, _⟩
  · cases h; rfl
  · cases e
theorem ov_non (h : OV K B H v (.d .none)) : v = .non := by
  rcases h with h | ⟨_, _, _, _, e, _⟩
  · cases h; rfl
  · cases e
theorem ov_tup {ds : List PyData} (h : OV K B H v (.d (.tuple ds))) : ∃ p xs, v = .ref p ∧ PlT B p xs ∧ DDs B xs ds := by
  rcases h with h | ⟨_, _, _, _, e, _⟩
  · cases h with
    | tup r q => exact ⟨_, _, rfl, r, q⟩
  · cases e
theorem ov_lst {ds : List PyData} (s : Same B H) (h : OV K B H v (.d (.list ds))) : ∃ p xs, v = .ref p ∧ Rd H p (.lst xs) ∧ DDs B xs ds := by
  rcases h with h | ⟨a, xs, ds', e1, e2, e3, q⟩
  · cases h with
    | lst r q => exact ⟨_, _, rfl, same_rd s r, q⟩
  · cases e2; exact ⟨a, xs, e1, .inl e3, q⟩
end
theorem ov_bool {K : PySem.W.Frag} {B H : Hp} {v : V} {b : Bool} (h : OV K B H v (.d (.bool b))) : v = .bl b := by
  rcases h with h | ⟨_, _, _, _, e, _⟩
  · cases h; rfl
  · cases e
def addF : Vw → Vw → Option Rv
  | .d (.int a), .d (.int b) => some (.val (.int (a + b)))
  | .d (.str a), .d (.str b) => if a.length + b.length ≤ sizeLine then some (.val (.str (a ++ b))) else none
  | .d (.tuple a), .d (.tuple b) => if a.length + b.length ≤ sizeLine then some (.tup (a ++ b)) else none
  | .d (.list a), .d (.list b) => if a.length + b.length ≤ sizeLine then some (.lst (a ++ b)) else none
  | .d (.bool a), .d (.int b) => some (.val (.int ((if a = true then (1 : Int) else 0) + b)))
  | _, _ => none
theorem op_catRd {X : Cx} : OpR X (binaryOp .Add) fun x y H Q => ∃ l b xs zs, x = .ref l ∧ y = .ref b ∧ Rd H l (.lst xs) ∧ Rd H b (.lst zs) ∧ xs.length + zs.length ≤ sizeLine ∧ ∀ p, H p = none → Q (.ref p) (upd H p (.lst (xs ++ zs))) := by
  rintro pins s σ H x y v u Q I rx ry ⟨l, b, xs, zs, rfl, rfl, hl, hb, hz, q⟩
  cases rx
  cases ry
  obtain ⟨z, its, n, r, e⟩ := hl.ok I.hok
  obtain ⟨z2, its2, n2, r2, e2⟩ := hb.ok I.hok
  have l1 := r.length
  have l2 := r2.length
  refine PySem.P.add_list e e2 ?_ (by rw [List.size_toArray, List.size_toArray]; omega)
  rw [show its.toArray ++ its2.toArray = (its ++ its2).toArray by simp]
  exact ⟨.ref _, _, I.lnew (t' := s.toks) (r.append r2) (by rw [List.length_append]; omega), rfl, q _ I.fresh⟩
def rCatP (K : PySem.W.Frag) : R2 := fun x y H Q => ∃ a b xs ys, x = .ref a ∧ y = .ref b ∧ SqT K H a xs ∧ SqT K H b ys ∧ xs.length + ys.length ≤ sizeLine ∧
  (xs = [] → Q (.ref b) H) ∧ (xs ≠ [] → ys = [] → Q (.ref a) H) ∧ ∀ (p : Addr) (o : Obj), H p = none → o.cls = .type "tuple" → o.dict = none → Q (.ref p) (upd H p (.frz o (.tup (xs ++ ys))))
theorem op_catP {X : Cx} : OpR X (binaryOp .Add) (rCatP X.K) := by
  intro pins s σ H x y v u Q I rx ry h
  obtain ⟨a, b, xs, ys, rfl, rfl, ha, hb, hz, q0, q1, q2⟩ := h
  cases rx
  cases ry
  obtain ⟨its, r1, p1, _⟩ := I.tuple ha
  obtain ⟨its2, r2, p2, _⟩ := I.tuple hb
  have l1 := r1.length
  have l2 := r2.length
  by_cases hx : xs = []
  · subst hx
    cases r1
    exact cat_tup0 p1 p2 ⟨.ref b, H, I, rfl, q0 rfl⟩
  · have hi : its ≠ [] := fun e => hx (by rw [e] at l1; exact List.eq_nil_of_length_eq_zero l1)
    refine HT.cat_tup p1 p2 hi (fun e => ?_) (fun e => ?_) (by omega)
    · exact ⟨.ref a, H, I, rfl, q1 hx (by rw [e] at l2; exact List.eq_nil_of_length_eq_zero l2)⟩
    · refine ⟨.ref s.heap.objs.size, upd H s.heap.objs.size (.frz _ (.tup (xs ++ ys))), I.laid (t' := s.toks) (fun b o e => Heap.get?_push_of_some _ e) (Nat.le_refl _) ⟨Heap.get?_push_size _ rfl, (show ObjOk X.prog X.w _ _ _ (.tup (xs ++ ys)) from ?_)⟩, rfl, q2 _ _ (I.hok.fresh (Nat.le_refl _)) rfl rfl⟩
      exact ⟨by rw [List.length_append]; exact hz, its ++ its2, r1.append r2, IsTup.new _ _⟩
theorem os_add {S : Sg} : OpS S (binaryOp .Add) addF := by
  rintro c hc pins s σ H x y v u Q I rx ry ⟨B, a, b, rv, sB, oa, ob, e, k⟩
  unfold addF at e
  split at e
  · cases e
    cases ov_int oa; cases ov_int ob
    exact op_add pins s σ H _ _ v u Q I rx ry ⟨_, _, rfl, rfl, k _ (.int _)⟩
  · split at e
    · cases e
      cases ov_str oa; cases ov_str ob
      exact op_add_str pins s σ H _ _ v u Q I rx ry ⟨_, _, rfl, rfl, by assumption, k _ (.str _)⟩
    · cases e
  · split at e
    · cases e
      obtain ⟨p, xs, rfl, hp, qx⟩ := ov_tup oa
      obtain ⟨p2, ys, rfl, hp2, qy⟩ := ov_tup ob
      rename_i hl
      refine op_catP pins s σ H _ _ v u Q I rx ry ⟨p, p2, xs, ys, rfl, rfl, .inl (hp.mono sB).rd, .inl (hp2.mono sB).rd, by rw [qx.length, qy.length]; exact hl, fun ex => ?_, fun _ ey => ?_, fun p3 o hp3 ec ed => k.2 p3 o _ hp3 ec ed (qx.append qy)⟩
      · subst ex
        refine k.1 _ ?_
        rw [qx.nil_iff.mp rfl, List.nil_append]
        exact .tup hp2 qy
      · subst ey
        refine k.1 _ ?_
        rw [qy.nil_iff.mp rfl, List.append_nil]
        exact .tup hp qx
    · cases e
  · split at e
    · cases e
      rename_i hl
      obtain ⟨p, xs, rfl, hp, qx⟩ := ov_lst sB oa
      obtain ⟨p2, ys, rfl, hp2, qy⟩ := ov_lst sB ob
      exact op_catRd pins s σ H _ _ v u Q I rx ry ⟨p, p2, xs, ys, rfl, rfl, hp, hp2, by rw [qx.length, qy.length]; exact hl, fun p3 hp3 => k p3 _ hp3 (qx.append qy)⟩
    · cases e
  · cases e
    cases ov_int ob; cases ov_bool oa
    obtain ⟨t, rfl⟩ := ry
    cases rx
    exact PySem.IntBool.add_bool_int ⟨.int _, H, I.tok _, ⟨_, rfl⟩, k _ (.int _)⟩
  · cases e
def subF : Vw → Vw → Option Rv
  | .d (.int a), .d (.int b) => some (.val (.int (a - b)))
  | .d (.bool a), .d (.int b) => some (.val (.int ((if a = true then (1 : Int) else 0) - b)))
  | _, _ => none
theorem os_sub {S : Sg} : OpS S (binaryOp .Sub) subF := by
  rintro c hc pins s σ H x y v u Q I rx ry ⟨B, a, b, rv, sB, oa, ob, e, k⟩
  unfold subF at e
  split at e
  · cases e
    cases ov_int oa; cases ov_int ob
    exact op_sub pins s σ H _ _ v u Q I rx ry ⟨_, _, rfl, rfl, k _ (.int _)⟩
  · cases e
    cases ov_int ob; cases ov_bool oa
    obtain ⟨t, rfl⟩ := ry
    cases rx
    exact PySem.IntBool.sub_bool_int ⟨.int _, H, I.tok _, ⟨_, rfl⟩, k _ (.int _)⟩
  · cases e
def smallI (a : Int) : Bool := decide (-(2 ^ 64) < a ∧ a < 2 ^ 64)
theorem dds_rep {B : Hp} {xs : List V} {ds : List PyData} (q : DDs B xs ds) : ∀ n : Nat, DDs B (List.replicate n xs).flatten (List.replicate n ds).flatten
  | 0 => .nil
  | n + 1 => by rw [List.replicate_succ, List.replicate_succ, List.flatten_cons, List.flatten_cons]; exact q.append (dds_rep q n)
def mulF : Vw → Vw → Option Rv
  | .d (.int a), .d (.int b) => if smallI a || smallI b || decide (a.natAbs.log2 + b.natAbs.log2 < 1000000) then some (.val (.int (a * b))) else none
  | _, _ => none
theorem os_mul {S : Sg} : OpS S (binaryOp .Mult) mulF := by
  rintro c hc pins s σ H x y v u Q I rx ry ⟨B, a, b, rv, sB, oa, ob, e, k⟩
  unfold mulF at e
  split at e
  · split at e
    · rename_i hs
      cases e
      cases ov_int oa; cases ov_int ob
      rw [Bool.or_eq_true, Bool.or_eq_true] at hs
      rcases hs with (hs | hs) | hs
      · exact op_mul pins s σ H _ _ v u Q I rx ry ⟨_, _, rfl, rfl, .inl (of_decide_eq_true hs), k _ (.int _)⟩
      · exact op_mul pins s σ H _ _ v u Q I rx ry ⟨_, _, rfl, rfl, .inr (of_decide_eq_true hs), k _ (.int _)⟩
      · have hs := of_decide_eq_true hs
        exact op_mulW pins s σ H _ _ v u Q I rx ry ⟨_, _, rfl, rfl, hs, k _ (.int _)⟩
    · cases e
  · cases e
def modF : Vw → Vw → Option Rv
  | .d (.int a), .d (.int b) => if 0 < b then some (.val (.int (a % b))) else none
  | _, _ => none
theorem os_mod {S : Sg} : OpS S (binaryOp .Mod) modF := by
  rintro c hc pins s σ H x y v u Q I rx ry ⟨B, a, b, rv, sB, oa, ob, e, k⟩
  unfold modF at e
  split at e
  · split at e
    · cases e
      cases ov_int oa; cases ov_int ob
      exact op_mod pins s σ H _ _ v u Q I rx ry ⟨_, _, rfl, rfl, by assumption, k _ (.int _)⟩
    · cases e
  · cases e
def fdivF : Vw → Vw → Option Rv
  | .d (.int a), .d (.int b) => if 0 < b ∧ b.natAbs.log2 < 9000 then some (.val (.int (a / b))) else none
  | _, _ => none
theorem os_fdiv {S : Sg} : OpS S (binaryOp .FloorDiv) fdivF := by
  rintro c hc pins s σ H x y v u Q I rx ry ⟨B, a, b, rv, sB, oa, ob, e, k⟩
  unfold fdivF at e
  split at e
  · split at e
    · cases e
      cases ov_int oa; cases ov_int ob
      exact op_fdivW pins s σ H _ _ v u Q I rx ry ⟨_, _, rfl, rfl, by assumption, k _ (.int _)⟩
    · cases e
  · cases e
def powF : Vw → Vw → Option Rv
  | .d (.int a), .d (.int b) => if 0 ≤ b ∧ b ≤ 1000000 ∧ a.natAbs < 2 ^ 64 then some (.val (.int (a ^ b.toNat))) else none
  | _, _ => none
theorem os_pow {S : Sg} : OpS S (binaryOp .Pow) powF := by
  rintro c hc pins s σ H x y v u Q I rx ry ⟨B, a, b, rv, sB, oa, ob, e, k⟩
  unfold powF at e
  split at e
  · split at e
    · cases e
      cases ov_int oa; cases ov_int ob
      exact op_pow pins s σ H _ _ v u Q I rx ry ⟨_, _, rfl, rfl, by assumption, k _ (.int _)⟩
    · cases e
  · cases e
def cmpF (fi : Int → Int → Bool) (fs : Str → Str → Bool) : Vw → Vw → Option Rv
  | .d (.int a), .d (.int b) => some (.val (.bool (fi a b)))
  | .d (.str a), .d (.str b) => some (.val (.bool (fs a b)))
  | _, _ => none
def strLt (a b : Str) : Bool := decide (a.cps.toList < b.cps.toList)
def ltF := cmpF (fun a b => decide (a < b)) strLt
def leF := cmpF (fun a b => decide (a ≤ b)) (fun a b => !decide (b.cps.toList < a.cps.toList))
def gtF := cmpF (fun a b => decide (b < a)) (fun a b => decide (b.cps.toList < a.cps.toList))
def geF := cmpF (fun a b => decide (b ≤ a)) (fun a b => !decide (a.cps.toList < b.cps.toList))
theorem os_lt {S : Sg} : OpS S (compareOp .Lt) ltF := by
  rintro c hc pins s σ H x y v u Q I rx ry ⟨B, a, b, rv, sB, oa, ob, e, k⟩
  unfold ltF cmpF at e
  split at e
  · cases e
    cases ov_int oa; cases ov_int ob
    exact op_lt pins s σ H _ _ v u Q I rx ry ⟨_, _, rfl, rfl, k _ (.bl _)⟩
  · cases e
    cases ov_str oa; cases ov_str ob
    exact op_lt_str pins s σ H _ _ v u Q I rx ry ⟨_, _, rfl, rfl, k _ (.bl _)⟩
  · cases e
theorem os_le {S : Sg} : OpS S (compareOp .LtE) leF := by
  rintro c hc pins s σ H x y v u Q I rx ry ⟨B, a, b, rv, sB, oa, ob, e, k⟩
  unfold leF cmpF at e
  split at e
  · cases e
    cases ov_int oa; cases ov_int ob
    exact op_le pins s σ H _ _ v u Q I rx ry ⟨_, _, rfl, rfl, k _ (.bl _)⟩
  · cases e
    cases ov_str oa; cases ov_str ob
    exact op_le_str pins s σ H _ _ v u Q I rx ry ⟨_, _, rfl, rfl, k _ (.bl _)⟩
  · cases e
theorem os_gt {S : Sg} : OpS S (compareOp .Gt) gtF := by
  rintro c hc pins s σ H x y v u Q I rx ry ⟨B, a, b, rv, sB, oa, ob, e, k⟩
  unfold gtF cmpF at e
  split at e
  · cases e
    cases ov_int oa; cases ov_int ob
    exact op_gt pins s σ H _ _ v u Q I rx ry ⟨_, _, rfl, rfl, k _ (.bl _)⟩
  · cases e
    cases ov_str oa; cases ov_str ob
    exact op_gt_str pins s σ H _ _ v u Q I rx ry ⟨_, _, rfl, rfl, k _ (.bl _)⟩
  · cases e
theorem os_ge {S : Sg} : OpS S (compareOp .GtE) geF := by
  rintro c hc pins s σ H x y v u Q I rx ry ⟨B, a, b, rv, sB, oa, ob, e, k⟩
  unfold geF cmpF at e
  split at e
  · cases e
    cases ov_int oa; cases ov_int ob
    exact op_ge pins s σ H _ _ v u Q I rx ry ⟨_, _, rfl, rfl, k _ (.bl _)⟩
  · cases e
    cases ov_str oa; cases ov_str ob
    exact op_ge_str pins s σ H _ _ v u Q I rx ry ⟨_, _, rfl, rfl, k _ (.bl _)⟩
  · cases e
def vd : Vw → Option PyData
  | .d d => some d
  | .w d => some d
  | _ => none
theorem vd_dp {K : PySem.W.Frag} {B H : Hp} {v : V} {w : Vw} {d : PyData} (s : Same B H) (h : OV K B H v w) (e : vd w = some d) : Dp K H v d := by
  cases w with
  | d d' => cases e; exact OV.dp s h
  | w d' => cases e; exact DW.dp h
  | k _ => cases e
  | t _ => cases e
  | xk _ => cases e
  | xl _ => cases e
  | rk _ => cases e
  | xt _ => cases e
def strs2 : PyData → PyData → Bool
  | .str _, .str _ => true
  | _, _ => false
theorem strs2_of {d e : PyData} (h : strs2 d e = true) : ∃ a b, d = .str a ∧ e = .str b := by
  unfold strs2 at h
  split at h
  · exact ⟨_, _, rfl, rfl⟩
  · cases h
theorem dp_str {K : PySem.W.Frag} {H : Hp} {v : V} {x : Str} (h : Dp K H v (.str x)) : v = .str x := by cases h; rfl
theorem str_beq (a b : Str) : decide (V.str a = V.str b) = PyData.eqv (.str a) (.str b) := by
  have e : PyData.eqv (.str a) (.str b) = (a == b) := by simp only [PyData.eqv]
  rw [e]
  by_cases h : a = b
  · subst h
    rw [decide_eq_true rfl]
    simp
  · rw [decide_eq_false (fun z => h (by cases z; rfl))]
    exact (beq_eq_false_iff_ne.mpr h).symm
def eqG (neg : Bool) : Vw → Vw → Option Rv := fun a b => (vd a).bind fun d => (vd b).bind fun e => if SeqAt.shaped d && SeqAt.shaped e || strs2 d e then some (.val (.bool (if neg then !PyData.eqv d e else PyData.eqv d e))) else none
def eqF := eqG false
def neF := eqG true
theorem os_eq {S : Sg} : OpS S (compareOp .Eq) eqF := by
  rintro c hc pins s σ H x y v u Q I rx ry ⟨B, a, b, rv, sB, oa, ob, e, k⟩
  unfold eqF eqG at e
  obtain ⟨d, e1, e⟩ := Option.bind_eq_some_iff.mp e
  obtain ⟨d2, e2, e⟩ := Option.bind_eq_some_iff.mp e
  split at e
  · rename_i hs
    cases e
    rw [Bool.or_eq_true, Bool.and_eq_true] at hs
    rcases hs with hs | hs
    · exact op_eqD hc.room.units pins s σ H _ _ v u Q I rx ry ⟨d, d2, vd_dp sB oa e1, vd_dp sB ob e2, hs.1, hs.2, k _ (.bl _)⟩
    · obtain ⟨a', b', rfl, rfl⟩ := strs2_of hs
      have ex := dp_str (vd_dp sB oa e1)
      have ey := dp_str (vd_dp sB ob e2)
      subst ex ey
      refine L2.op_eq pins s σ H _ _ v u Q I rx ry ⟨rfl, ?_⟩
      have kk := k _ (.bl _)
      simp only [← str_beq] at kk
      exact kk
  · cases e
theorem os_ne {S : Sg} : OpS S (compareOp .NotEq) neF := by
  rintro c hc pins s σ H x y v u Q I rx ry ⟨B, a, b, rv, sB, oa, ob, e, k⟩
  unfold neF eqG at e
  obtain ⟨d, e1, e⟩ := Option.bind_eq_some_iff.mp e
  obtain ⟨d2, e2, e⟩ := Option.bind_eq_some_iff.mp e
  split at e
  · rename_i hs
    cases e
    rw [Bool.or_eq_true, Bool.and_eq_true] at hs
    rcases hs with hs | hs
    · exact op_neD hc.room.units pins s σ H _ _ v u Q I rx ry ⟨d, d2, vd_dp sB oa e1, vd_dp sB ob e2, hs.1, hs.2, k _ (.bl _)⟩
    · obtain ⟨a', b', rfl, rfl⟩ := strs2_of hs
      have ex := dp_str (vd_dp sB oa e1)
      have ey := dp_str (vd_dp sB ob e2)
      subst ex ey
      refine L2.op_ne pins s σ H _ _ v u Q I rx ry ⟨rfl, ?_⟩
      have kk := k _ (.bl _)
      simp only [← str_beq] at kk
      exact kk
  · cases e
section
variable {S : Sg}
def negI : Vw → Option Int
  | .d (.int i) => some i
  | _ => none
def wNeg (wa : WE) : WE := fun Ex δ P => wa Ex δ fun r δ1 => ob (view δ1 r) fun w => ob (negI w) fun i => P (.d (.int (-i))) δ1
theorem de_neg {a : Expr} {wa : WE} {pos : Pos} (ha : DE S a wa) : DE S (.UnaryOp .USub a pos) (wNeg wa) := by
  obtain ⟨t, p, s⟩ := ha
  refine ⟨_, fun c hc => pe_un un_neg (p c hc), ⟨fun Ex Ex' δ P P' hx h w => s.mono _ _ _ _ _ hx (fun r δ1 w => w.imp fun v w => w.imp fun i w => h _ _ w) w, fun Ex F B H vs σ δ P Q hx h w k => ?_⟩⟩
  refine s.run _ _ _ _ _ _ _ _ _ hx h w fun B1 H1 v r δ1 s1 h1 q1 w1 => ?_
  obtain ⟨vw, e1, i, e2, w1⟩ := w1
  have o := view_ok h1 q1 e1
  unfold negI at e2
  split at e2
  · cases e2
    cases ov_int o
    exact ⟨i, rfl, k B1 H1 _ (.d (.int (-i))) δ1 s1 h1 (.int _) w1⟩
  · cases e2
end
end DL
set_option Elab.async false
set_option linter.all false
set_option maxRecDepth 100000
set_option maxHeartbeats 4000000
set_option autoImplicit false
namespace DL
open PySem PySem.Spec PyProof.Rows L2
section
variable {K : PySem.W.Frag} {B H : Hp}
theorem ovs1 {vs : List V} {a : Vw} (h : OVs K B H vs [a]) : ∃ v, vs = [v] ∧ OV K B H v a := by
  cases h with
  | cons q r => cases r; exact ⟨_, rfl, q⟩
theorem ovs2 {vs : List V} {a b : Vw} (h : OVs K B H vs [a, b]) : ∃ v u, vs = [v, u] ∧ OV K B H v a ∧ OV K B H u b := by
  cases h with
  | cons q r => cases r with
    | cons q2 r => cases r; exact ⟨_, _, rfl, q, q2⟩
theorem dpa_length {K : PySem.W.Frag} {H : Hp} : ∀ {vs : List V} {ds : List PyData}, DpAll K H vs ds → vs.length = ds.length
  | _, _, .nil => rfl
  | _, _, .cons _ r => congrArg (· + 1) (dpa_length r)
theorem kds_length {κ : Type} {B : Hp} {ys : List (κ × V)} {kvs : List (κ × PyData)} (h : KDs B ys kvs) : ys.length = kvs.length := Paired.length h
end
def lenD : PyData → Option Nat
  | .str x => if x.length ≤ sizeLine then some x.length else none
  | .list ds => some ds.length
  | .tuple ds => some ds.length
  | _ => none
def lenF : List Vw → Option Rv
  | [.d d] => (lenD d).map fun (n : Nat) => Rv.val (.int (n : Int))
  | [.w d] => (lenD d).map fun (n : Nat) => Rv.val (.int (n : Int))
  | [.k kvs] => some (.val (.int kvs.length))
  | [.rk kvs] => some (.val (.int kvs.length))
  | _ => none
theorem len_dp {K : PySem.W.Frag} {H : Hp} {v : V} {d : PyData} {n : Nat} (h : Dp K H v d) (e : lenD d = some n) : LenV K v H n := by
  cases h with
  | str x =>
    simp only [lenD] at e
    split at e
    · cases e; exact ⟨by assumption, rfl⟩
    · cases e
  | lst r q => cases e; exact .inl ⟨_, r, (dpa_length q).symm⟩
  | tup r q => cases e; exact .inr ⟨_, r, (dpa_length q).symm⟩
  | _ => cases e
theorem call_lenR {X : Cx} : CallR X (.builtin "len") (fun xs H Q => ∃ a kvs, xs = [V.ref a] ∧ Rd H a (.dK kvs) ∧ Q (.int kvs.length) H) := by
  intro pins s σ H xs us Q I r h
  obtain ⟨a, kvs, rfl, ha, q⟩ := h
  obtain ⟨u, rfl, ru⟩ := vals1 r
  cases ru
  exact d_len I ha fun t s' I' => ⟨.int kvs.length, H, I', ⟨t, rfl⟩, q⟩
theorem cs_len {S : Sg} : CallS S (.builtin "len") lenF := by
  rintro c hc pins s σ H xs us Q I rv ⟨B, as, r, sB, ov, e, k⟩
  unfold lenF at e
  split at e
  · obtain ⟨n, e1, e⟩ := Option.map_eq_some_iff.mp e
    cases e
    obtain ⟨v, rfl, q⟩ := ovs1 ov
    exact call_len pins s σ H _ us Q I rv ⟨v, n, rfl, len_dp (OV.dp sB q) e1, k _ (.int _)⟩
  · obtain ⟨n, e1, e⟩ := Option.map_eq_some_iff.mp e
    cases e
    obtain ⟨v, rfl, q⟩ := ovs1 ov
    exact call_len pins s σ H _ us Q I rv ⟨v, n, rfl, len_dp (DW.dp q) e1, k _ (.int _)⟩
  · cases e
    obtain ⟨v, rfl, a, ys, rfl, e1, q⟩ := ovs1 ov
    exact call_lenD pins s σ H _ us Q I rv ⟨a, ys, rfl, e1, by rw [kds_length q]; exact k _ (.int _)⟩
  · cases e
    obtain ⟨v, rfl, a, ys, rfl, e1, q⟩ := ovs1 ov
    exact call_lenR pins s σ H _ us Q I rv ⟨a, ys, rfl, e1, by rw [kds_length q]; exact k _ (.int _)⟩
  · cases e
def listF : List Vw → Option Rv
  | [.d (.list ds)] => some (.lst ds)
  | [.d (.tuple ds)] => some (.lst ds)
  | [.w (.list ds)] => if ds.all scalar then some (.lst ds) else none
  | [.w (.tuple ds)] => if ds.all scalar then some (.lst ds) else none
  | _ => none
theorem cs_list {S : Sg} : CallS S (.type "list") listF := by
  rintro c hc pins s σ H xs us Q I rv ⟨B, as, r, sB, ov, e, k⟩
  unfold listF at e
  split at e
  · cases e
    obtain ⟨v, rfl, q⟩ := ovs1 ov
    obtain ⟨p, zs, rfl, hp, qz⟩ := ov_lst sB q
    exact call_list_of pins s σ H _ us Q I rv ⟨p, zs, rfl, .inl (.inl hp), fun l hl => k l _ hl qz⟩
  · cases e
    obtain ⟨v, rfl, q⟩ := ovs1 ov
    obtain ⟨p, zs, rfl, hp, qz⟩ := ov_tup q
    exact call_list_of pins s σ H _ us Q I rv ⟨p, zs, rfl, .inr (.inl (PlT.mono sB hp).rd), fun l hl => k l _ hl qz⟩
  · split at e
    · rename_i hs
      cases e
      obtain ⟨v, rfl, q⟩ := ovs1 ov
      have q : Dp S.g.K (fun _ => none) v _ := q
      cases q with
      | lst r3 q3 => exact call_list_of pins s σ H _ us Q I rv ⟨_, _, rfl, .inl (L2.Same.seq (fun _ _ z => by cases z) r3), fun l hl => k l _ hl (dp_items q3 hs B)⟩
    · cases e
  · split at e
    · rename_i hs
      cases e
      obtain ⟨v, rfl, q⟩ := ovs1 ov
      have q : Dp S.g.K (fun _ => none) v _ := q
      cases q with
      | tup r3 q3 =>
        refine call_list_of pins s σ H _ us Q I rv ⟨_, _, rfl, .inr ?_, fun l hl => k l _ hl (dp_items q3 hs B)⟩
        rcases r3 with r3 | r3
        · exact .inl (same_rd (B := fun _ => none) (fun _ _ z => by cases z) r3)
        · exact .inr r3
    · cases e
  · cases e
theorem call_tupleP {X : Cx} : CallR X (.type "tuple") (fun xs H Q => ∃ p ys, xs = [.ref p] ∧ ((SqL X.K H p ys ∧ ∀ (l : Addr) (o : Obj), H l = none → o.cls = .type "tuple" → o.dict = none → Q (.ref l) (upd H l (.frz o (.tup ys)))) ∨ (SqT X.K H p ys ∧ Q (.ref p) H))) := by
  intro pins s σ H xs us Q I r h
  obtain ⟨p, ys, rfl, h⟩ := h
  rcases h with ⟨hq, q⟩ | ⟨hq, q⟩
  · obtain ⟨u, rfl, rx⟩ := vals1 r
    cases rx
    obtain ⟨its, r', pl, hz⟩ := I.list hq
    have hlen := r'.length
    refine call_tuple_list pl.isList (fun h' kp => ?_) (by simp only [List.size_toArray] <;> omega)
    have I1 : Inv X pins σ H { s with heap := h' } := I.kept (t' := s.toks) kp
    have I2 : Inv X pins σ (upd H h'.objs.size (.frz { cls := .type "tuple", data := .seq its.toArray } (.tup ys))) { s with heap := h'.push { cls := .type "tuple", data := .seq its.toArray } } :=
      I1.laid (t' := s.toks) (fun b o e => Heap.get?_push_of_some _ e) (Nat.le_refl _) ⟨Heap.get?_push_size _ rfl, (show ObjOk X.prog X.w _ _ _ (.tup ys) from ⟨hz, its, r', IsTup.new _ _⟩)⟩
    exact ⟨.ref h'.objs.size, _, I2, rfl, q _ _ (I1.hok.fresh (Nat.le_refl _)) rfl rfl⟩
  · exact call_tuple_of pins s σ H _ us Q I r ⟨p, ys, rfl, .inr ⟨hq, q⟩⟩
def tupleF : List Vw → Option Rv
  | [.d (.list ds)] => some (.tup ds)
  | [.d (.tuple ds)] => some (.tup ds)
  | _ => none
theorem cs_tuple {S : Sg} : CallS S (.type "tuple") tupleF := by
  rintro c hc pins s σ H xs us Q I rv ⟨B, as, r, sB, ov, e, k⟩
  unfold tupleF at e
  split at e
  · cases e
    obtain ⟨v, rfl, q⟩ := ovs1 ov
    obtain ⟨p, zs, rfl, hp, qz⟩ := ov_lst sB q
    exact call_tupleP pins s σ H _ us Q I rv ⟨p, zs, rfl, .inl ⟨.inl hp, fun l o hl ec ed => k.2 l o _ hl ec ed qz⟩⟩
  · cases e
    obtain ⟨v, rfl, q⟩ := ovs1 ov
    obtain ⟨p, zs, rfl, hp, qz⟩ := ov_tup q
    exact call_tupleP pins s σ H _ us Q I rv ⟨p, zs, rfl, .inr ⟨.inl (PlT.mono sB hp).rd, k.1 _ (.tup hp qz)⟩⟩
  · cases e
def strF : List Vw → Option Rv
  | [.d (.int i)] => if i.natAbs.log2 < 1920 then some (.val (.str (toString i))) else none
  | [.d (.str x)] => some (.val (.str x))
  | [.d (.bool b)] => some (.val (.str (if b then "True" else "False")))
  | _ => none
theorem cs_str {S : Sg} : CallS S (.type "str") strF := by
  rintro c hc pins s σ H xs us Q I rv ⟨B, as, r, sB, ov, e, k⟩
  unfold strF at e
  split at e
  · split at e
    · cases e
      obtain ⟨v, rfl, q⟩ := ovs1 ov
      cases ov_int q
      exact call_str_int pins s σ H _ us Q I rv ⟨_, rfl, by assumption, k _ (.str _)⟩
    · cases e
  · cases e
    obtain ⟨v, rfl, q⟩ := ovs1 ov
    cases ov_str q
    exact SkE.call_str_str pins s σ H _ us Q I rv ⟨_, rfl, k _ (.str _)⟩
  · cases e
    obtain ⟨v, rfl, q⟩ := ovs1 ov
    cases ov_bool q
    obtain ⟨u, rfl, ru⟩ := vals1 rv
    cases ru
    exact PySem.P.str_of_bool ⟨.str _, H, I.tok _, ⟨_, rfl⟩, k _ (.str _)⟩
  · cases e
def ordF : List Vw → Option Rv
  | [.d (.str x)] => if x.length = 1 then some (.val (.int (x.cps.getD 0 0 : Nat))) else none
  | _ => none
theorem cs_ord {S : Sg} : CallS S (.builtin "ord") ordF := by
  rintro c hc pins s σ H xs us Q I rv ⟨B, as, r, sB, ov, e, k⟩
  unfold ordF at e
  split at e
  · split at e
    · cases e
      obtain ⟨v, rfl, q⟩ := ovs1 ov
      cases ov_str q
      exact call_ord pins s σ H _ us Q I rv ⟨_, rfl, by assumption, k _ (.int _)⟩
    · cases e
  · cases e
def bools : List PyData → Option (List Bool)
  | [] => some []
  | .bool b :: ds => (bools ds).map fun bs => b :: bs
  | _ => none
theorem bools_dd {B : Hp} : ∀ {ds : List PyData} {bs : List Bool} {xs : List V}, bools ds = some bs → DDs B xs ds → xs = bs.map V.bl
  | [], _, _, e, q => by cases e; cases q; rfl
  | d :: ds, _, _, e, q => by
    cases q with
    | cons q1 q2 =>
      cases d with
      | bool b =>
        simp only [bools] at e
        obtain ⟨bs, e1, e⟩ := Option.map_eq_some_iff.mp e
        cases e; cases q1
        rw [bools_dd e1 q2]; rfl
      | _ => cases e
def allF : List Vw → Option Rv
  | [.d (.list ds)] => (bools ds).map fun bs => .val (.bool (bs.all id))
  | _ => none
theorem cs_all {S : Sg} : CallS S (.builtin "all") allF := by
  rintro c hc pins s σ H xs us Q I rv ⟨B, as, r, sB, ov, e, k⟩
  unfold allF at e
  split at e
  · obtain ⟨bs, e1, e⟩ := Option.map_eq_some_iff.mp e
    cases e
    obtain ⟨v, rfl, q⟩ := ovs1 ov
    obtain ⟨p, zs, rfl, hp, qz⟩ := ov_lst sB q
    have ez := bools_dd e1 qz
    subst ez
    exact cr_all hc.calm pins s σ H _ us Q I rv ⟨p, bs, rfl, .inl hp, k _ (.bl _)⟩
  · cases e
/-- text of data: no dict in it, shown within the line, of some depth at most -/
def showOk (d : PyData) : Bool := d.showable && !d.hasDict && decide (d.shown.length ≤ sizeLine) && decide (d.depth ≤ 60)
@[irreducible] def reprF : List Vw → Option Rv
  | [.d d] => if showOk d then some (.val (.str d.shown)) else none
  | [.w d] => if showOk d then some (.val (.str d.shown)) else none
  | _ => none
theorem repr_run {X : Cx} (hg : X.A.guards = some []) (hu : X.A.units + 64 < cLine) {pins : List (Addr × Obj)} {s : Shared} {σ : L2.St} {H : Hp} {v : V} {u : Value} {Q : VK} {d : PyData} (I : Inv X pins σ H s) (r : RelV v u) (h : Dp X.K H v d) (e : showOk d = true) (q : Q (.str d.shown) H) :
    wpAny (model X.prog X.w) X.A (call (.builtin "repr") [u]) (EP X pins σ Q) X.xe s := by
  unfold showOk at e
  simp only [Bool.and_eq_true, Bool.not_eq_true', decide_eq_true_eq] at e
  obtain ⟨⟨⟨h1, h2⟩, h3⟩, h4⟩ := e
  obtain ⟨as, hr⟩ := Dp.reads I d v u h r
  cases hr with
  | none =>
    refine call_repr_gives (typeIs_none s) F.slot_NoneType_repr F.entry_NoneType_repr (F.args_NoneType_repr_1 _) gives_none_repr ⟨.str _, H, I.tok _, ⟨_, rfl⟩, q⟩ (hx := by decide)
  | bool b =>
    refine call_repr_gives (PySem.typeIs_bool s b) F.slot_bool_repr F.entry_bool_repr (F.args_bool_repr_1 _) (gives_bool_repr b) ⟨.str _, H, I.tok _, ⟨_, rfl⟩, ?_⟩ (hx := by cases b <;> decide)
    simpa only [PyData.shown] using q
  | int i t =>
    exact PySem.P.repr_of_int (by simpa [PyData.showable] using h1) ⟨.str _, H, I.tok _, ⟨_, rfl⟩, by simpa only [PyData.shown] using q⟩
  | str x t =>
    refine call_repr_gives (typeIs_str s x t) F.slot_str_repr F.entry_str_repr (F.args_str_repr_1 _) (gives_str_repr x t) ⟨.str _, H, I.tok _, ⟨_, rfl⟩, by simpa only [PyData.shown] using q⟩ (hx := by simpa only [PyData.shown] using h3)
  | list g1 g2 g3 g4 =>
    exact repr_of_reads' (.list g1 g2 g3 g4) h1 (fun z => by rw [h2] at z; cases z) hg (by omega) (fun _ _ e => e) (fun h' u' tk hk => ⟨.str _, H, I.kept (t' := tk) hk, ⟨_, rfl⟩, q⟩) h3
  | tuple g1 g2 g3 g4 =>
    exact repr_of_reads' (.tuple g1 g2 g3 g4) h1 (fun z => by rw [h2] at z; cases z) hg (by omega) (fun _ _ e => e) (fun h' u' tk hk => ⟨.str _, H, I.kept (t' := tk) hk, ⟨_, rfl⟩, q⟩) h3
  | dict => cases h
theorem cs_repr {S : Sg} : CallS S (.builtin "repr") reprF := by
  rintro c hc pins s σ H xs us Q I rv ⟨B, as, r, sB, ov, e, k⟩
  unfold reprF at e
  split at e
  · split at e
    · cases e
      obtain ⟨v, rfl, q⟩ := ovs1 ov
      obtain ⟨u, rfl, ru⟩ := vals1 rv
      exact repr_run hc.gd hc.room.units I ru (OV.dp sB q) (by assumption) (k _ (.str _))
    · cases e
  · split at e
    · cases e
      obtain ⟨v, rfl, q⟩ := ovs1 ov
      obtain ⟨u, rfl, ru⟩ := vals1 rv
      exact repr_run hc.gd hc.room.units I ru (DW.dp q) (by assumption) (k _ (.str _))
    · cases e
  · cases e
end DL
set_option Elab.async false
set_option linter.all false
set_option maxRecDepth 100000
set_option maxHeartbeats 4000000
set_option autoImplicit false
namespace DL
open PySem PySem.Spec PyProof.Rows L2
theorem dds_at {B : Hp} {xs : List V} {ds : List PyData} {i : Int} {d : PyData} (q : DDs B xs ds) (e : atI ds i = some d) : ∃ v, atI xs i = some v ∧ DD B v d := by
  unfold atI at e ⊢
  obtain ⟨j, e1, e2⟩ := Option.bind_eq_some_iff.mp e
  obtain ⟨v, e3, q3⟩ := q.get e2
  exact ⟨v, by rw [q.length, e1]; exact e3, q3⟩
theorem dpa_at {K : PySem.W.Frag} {H : Hp} {i : Int} {d : PyData} : ∀ {xs : List V} {ds : List PyData}, DpAll K H xs ds → ∀ {j : Nat}, ds[j]? = some d → ∃ v, xs[j]? = some v ∧ Dp K H v d
  | _, _, .nil, j, e => by simp at e
  | _, _, .cons q r, 0, e => by simp at e; subst e; exact ⟨_, rfl, q⟩
  | _, _, .cons q r, j + 1, e => by
    obtain ⟨v, e1, q1⟩ := dpa_at (i := i) r (j := j) (by simpa using e)
    exact ⟨v, by simpa using e1, q1⟩
def lookD {κ : Type} [DecidableEq κ] (kvs : List (κ × PyData)) (k : κ) : Option PyData := (kvs.find? fun kv => decide (kv.1 = k)).map (·.2)
theorem kds_look {κ : Type} [DecidableEq κ] {B : Hp} {ys : List (κ × V)} {kvs : List (κ × PyData)} (h : KDs B ys kvs) (k : κ) : (lookD kvs k = none ∧ valV ys k = none) ∨ ∃ v d, lookD kvs k = some d ∧ valV ys k = some v ∧ DD B v d := by
  induction h with
  | nil => exact .inl ⟨rfl, rfl⟩
  | cons q r ih =>
    rename_i p1 p2 l1 l2
    obtain ⟨e, q⟩ := q
    by_cases hk : p2.1 = k
    · have hk1 : p1.1 = k := e.trans hk
      exact .inr ⟨p1.2, p2.2, by unfold lookD; rw [List.find?_cons]; simp [hk], by unfold valV; rw [List.find?_cons]; simp [hk1], q⟩
    · have hk1 : ¬ p1.1 = k := fun z => hk (e ▸ z)
      have g1 : lookD (p2 :: l2) k = lookD l2 k := by unfold lookD; rw [List.find?_cons]; simp [hk]
      have g2 : valV (p1 :: l1) k = valV l1 k := by unfold valV; rw [List.find?_cons]; simp [hk1]
      rw [g1, g2]; exact ih
def keyD : PyData → Option Key
  | .int i => some (.inl i)
  | .str x => some (.inr x)
  | _ => none
theorem key_dd {B : Hp} {v : V} {d : PyData} {k : Key} (e : keyD d = some k) (h : DD B v d) : v = kV k := by
  cases h with
  | int i => cases e; rfl
  | str x => cases e; rfl
  | _ => cases e
/-- what a dict has under a thing: none where the thing can't be a key here -/
def intsD : List PyData → Option (List Int)
  | [] => some []
  | .int i :: ds => (intsD ds).map fun ks => i :: ks
  | _ => none
theorem ints_dd {B : Hp} : ∀ {ds : List PyData} {vs : List V} {ks : List Int}, intsD ds = some ks → DDs B vs ds → vs = ks.map V.int
  | [], _, _, e, q => by cases e; cases q; rfl
  | d :: ds, _, _, e, q => by
    cases q with
    | cons q1 q2 =>
      unfold intsD at e
      split at e
      · rename_i h; cases h
      · rename_i i ds' h
        cases h
        obtain ⟨ks, e2, e⟩ := Option.map_eq_some_iff.mp e
        cases e
        cases q1
        rw [ints_dd e2 q2]; rfl
      · cases e
def keyT : PyData → Option (List Int)
  | .tuple ds => intsD ds
  | _ => none
def dgetF : Vw → PyData → Option (Option PyData)
  | .k kvs, d => (keyD d).map fun k => lookD kvs k
  | _, _ => none
def tgetF : Vw → PyData → Option (Option PyData)
  | .t kvs, d => (keyT d).map fun k => lookD kvs k
  | _, _ => none
theorem isKey_of {P : Program} {w : World} {H : Hp} {h : Heap} {a : Addr} {ks : List Int} (ok : HOk P w H h) (e : PlT H a (ks.map V.int)) : (tupleKind (PySem.intKind P w)).is h ks a := by
  obtain ⟨o, e, _, _⟩ := e
  obtain ⟨_, _, its, r, t⟩ := (show ObjOk P w H h a (.frz o (.tup (ks.map V.int))) from ok a _ e)
  obtain ⟨o1, h1, h2, n, h3⟩ := t
  refine ⟨o1, its.toArray, n, h1, h2, h3, ?_⟩
  have go : ∀ {ks : List Int} {its : List Value}, Vals (ks.map V.int) its → ItemsAre (PySem.intKind P w) ks its := by
    intro ks
    induction ks with
    | nil => intro its r; cases r; exact .nil
    | cons k ks ih =>
      intro its r
      cases r with
      | cons r1 r2 =>
        obtain ⟨t, rfl⟩ : ∃ t, _ = Value.int k t := r1
        exact .cons (by show Value.isInt k (.int k t) = true; simp [Value.isInt]) (ih r2)
  simpa using go r
theorem ti_dict {P : Program} {w : World} {B H : Hp} {h : Heap} {a : Addr} {xs : List (List Int × Addr × Value)} {kvs : List (List Int × PyData)} (ok : HOk P w H h) (s : Same B H) (q : TDi B H a xs kvs) : h.DictOfH (tupleKind (PySem.intKind P w)) a xs := by
  obtain ⟨⟨o, es, ep, h1, h2, h3, h4⟩, _⟩ := (show ObjOk P w H h a (dictI a xs) from ok a _ q.here)
  refine ⟨o, es, ep, h1, h2, h3, h4, fun x hx => ?_, q.nd⟩
  obtain ⟨i, hi, ei⟩ := List.getElem_of_mem hx
  obtain ⟨y, _, _, p, _⟩ := paired_at q.are (i := i) (x := x) (by rw [List.getElem?_eq_getElem hi, ei])
  exact isKey_of ok (p.mono s)
theorem ti_look {B : Hp} {xs : List (List Int × Addr × Value)} {kvs : List (List Int × PyData)} (q : TIs B xs kvs) (k : List Int) : (lookD kvs k = none ∧ atKey xs k = none) ∨ ∃ v d p, lookD kvs k = some d ∧ atKey xs k = some p ∧ RelV v p.2 ∧ DD B v d := by
  induction q with
  | nil => exact .inl ⟨rfl, rfl⟩
  | cons q r ih =>
    rename_i p1 p2 l1 l2
    obtain ⟨e, _, v, rv, q⟩ := q
    by_cases hk : p2.1 = k
    · have hk1 : p1.1 = k := e.trans hk
      exact .inr ⟨v, p2.2, p1.2, by unfold lookD; rw [List.find?_cons]; simp [hk], by unfold atKey; rw [List.find?_cons]; simp [hk1], rv, q⟩
    · have hk1 : ¬ p1.1 = k := fun z => hk (e ▸ z)
      have g1 : lookD (p2 :: l2) k = lookD l2 k := by unfold lookD; rw [List.find?_cons]; simp [hk]
      have g2 : atKey (p1 :: l1) k = atKey l1 k := by unfold atKey; rw [List.find?_cons]; simp [hk1]
      rw [g1, g2]; exact ih
theorem tget_ok {K : PySem.W.Frag} {B H : Hp} {x y : V} {w : Vw} {d : PyData} {o : Option PyData} (ox : OV K B H x w) (oy : OV K B H y (.d d)) (e : tgetF w d = some o) : ∃ a xs kvs b ks, x = .ref a ∧ y = .ref b ∧ TDi B H a xs kvs ∧ PlT B b (ks.map V.int) ∧ lookD kvs ks = o := by
  unfold tgetF at e
  split at e
  · obtain ⟨k, e1, e5⟩ := Option.map_eq_some_iff.mp e
    obtain ⟨a, xs, rfl, q⟩ := ox
    unfold keyT at e1
    split at e1
    · rcases oy with oy | ⟨_, _, _, _, z, _⟩
      · cases oy with
        | @tup b ys _ r q2 =>
          rw [ints_dd e1 q2] at r
          exact ⟨a, xs, _, b, k, rfl, rfl, q, r, e5⟩
      · cases z
    · cases e1
  · cases e
theorem dget_ok {K : PySem.W.Frag} {B H : Hp} {x y : V} {w : Vw} {d : PyData} {o : Option PyData} (sB : Same B H) (ox : OV K B H x w) (oy : OV K B H y (.d d)) (e : dgetF w d = some o) : ∃ a ov, x = .ref a ∧ DGet H a y ov ∧ ((o = none ∧ ov = none) ∨ ∃ v d', o = some d' ∧ ov = some v ∧ DD B v d') := by
  unfold dgetF at e
  split at e
  · obtain ⟨k, e1, e⟩ := Option.map_eq_some_iff.mp e
    obtain ⟨a, ys, rfl, e2, q⟩ := ox
    have ey : y = kV k := by
      rcases oy with oy | ⟨_, _, _, _, z, _⟩
      · exact key_dd e1 oy
      · subst z; cases e1
    subst ey
    refine ⟨a, valV ys k, rfl, DGet.k e2, ?_⟩
    rcases kds_look q k with ⟨z1, z2⟩ | ⟨v, d', z1, z2, q2⟩
    · exact .inl ⟨by rw [← e, z1], z2⟩
    · exact .inr ⟨v, d', by rw [← e, z1], z2, q2⟩
  · cases e
def idxD (d : PyData) (i : Int) : Option PyData := match d with
  | .list ds => atI ds i
  | .tuple ds => atI ds i
  | .str x => if x.length ≤ sizeLine then (atI x.cps.toList i).map fun c => .str ⟨#[c]⟩ else none
  | _ => none
def idxF : Vw → Vw → Option Rv
  | .d d, .d (.int i) => (idxD d i).map .val
  | .w d, .d (.int i) => (idxD d i).bind fun e => if scalar e then some (.val e) else none
  | .k kvs, .d d => ((dgetF (.k kvs) d).bind id).map .val
  | .t kvs, .d d => ((tgetF (.t kvs) d).bind id).map .val
  | _, _ => none
def IxS (S : Sg) (f : Vw → Vw → Option Rv) : Prop := ∀ c, S.ok c → IxR (S.g.cx c) (rF S.g.K f)
theorem ix_all {S : Sg} : IxS S idxF := by
  rintro c hc value slice pins s σ H x y v u Q I rx ry ⟨B, a, b, rv, sB, oa, ob, e, k⟩ hs
  have dict : ∀ {w : Vw} {d : PyData}, OV S.g.K B H x w → OV S.g.K B H y (.d d) → ((dgetF w d).bind id).map Rv.val = some rv → wpAny (model S.g.P S.g.w) c.A (subscriptTail value slice v u) (EP (S.g.cx c) pins σ Q) c.xe s := by
    intro w d ox oy e
    obtain ⟨d', e1, e⟩ := Option.map_eq_some_iff.mp e
    subst e
    obtain ⟨o, e2, e3⟩ := Option.bind_eq_some_iff.mp e1
    have e3 : o = some d' := e3
    subst e3
    obtain ⟨p, ov, rfl, g, z⟩ := dget_ok sB ox oy e2
    rcases z with ⟨z, _⟩ | ⟨v', d2, z, z2, q⟩
    · cases z
    · cases z
      subst z2
      cases rx
      exact tail_any (dict_typeIs I g) F.slot_dict_getitem.lookup (d_getItem (hu_of hc.room) I g ry fun w' s3 I3 rw' => ⟨v', H, I3, rw', k _ q⟩) hs
  have tict : ∀ {w : Vw} {d : PyData}, OV S.g.K B H x w → OV S.g.K B H y (.d d) → ((tgetF w d).bind id).map Rv.val = some rv → wpAny (model S.g.P S.g.w) c.A (subscriptTail value slice v u) (EP (S.g.cx c) pins σ Q) c.xe s := by
    intro w d ox oy e
    obtain ⟨d', e1, e⟩ := Option.map_eq_some_iff.mp e
    subst e
    obtain ⟨o, e2, e3⟩ := Option.bind_eq_some_iff.mp e1
    have e3 : o = some d' := e3
    subst e3
    obtain ⟨p, xs, kvs, b, ks, rfl, rfl, q, pk, lk⟩ := tget_ok ox oy e2
    rcases ti_look q.are ks with ⟨z, _⟩ | ⟨v', d2, pp, z, z2, rv', q2⟩
    · rw [lk] at z; cases z
    · rw [lk] at z; cases z
      cases rx; cases ry
      have dd := ti_dict I.hok sB q
      exact tail_any dd.typeIs F.slot_dict_getitem.lookup (wpAny_getItem_heap (tupleKind_room_in1 (hu_of hc.room)) (isKey_of I.hok (pk.mono sB)) dd z2 ⟨v', H, I.tok _, rv', k _ q2⟩) hs
  unfold idxF at e
  split at e
  · obtain ⟨d, e1, e⟩ := Option.map_eq_some_iff.mp e
    cases e
    cases ov_int ob
    unfold idxD at e1
    split at e1
    · obtain ⟨p, xs, rfl, hp, qx⟩ := ov_lst sB oa
      obtain ⟨z, e2, qz⟩ := dds_at qx e1
      exact ix_list value slice pins s σ H _ _ v u Q I rx ry ⟨p, xs, _, z, rfl, rfl, .inl hp, e2, k _ qz⟩ hs
    · obtain ⟨p, xs, rfl, hp, qx⟩ := ov_tup oa
      obtain ⟨z, e2, qz⟩ := dds_at qx e1
      exact ix_tup value slice pins s σ H _ _ v u Q I rx ry ⟨p, xs, _, z, rfl, rfl, .inl (PlT.mono sB hp).rd, e2, k _ qz⟩ hs
    · split at e1
      · obtain ⟨cc, e2, e1⟩ := Option.map_eq_some_iff.mp e1
        subst e1
        cases ov_str oa
        exact ix_str value slice pins s σ H _ _ v u Q I rx ry ⟨_, _, cc, rfl, rfl, by assumption, e2, k _ (.str _)⟩ hs
      · cases e1
    · cases e1
  · obtain ⟨d, e1, e⟩ := Option.bind_eq_some_iff.mp e
    split at e
    · rename_i hsc
      cases e
      cases ov_int ob
      have oa : Dp S.g.K (fun _ => none) x _ := oa
      unfold idxD atI at e1
      split at e1
      · obtain ⟨j, e2, e3⟩ := Option.bind_eq_some_iff.mp e1
        cases oa with
        | lst r3 q3 =>
          obtain ⟨z, e4, qz⟩ := dpa_at (i := 0) q3 e3
          exact ix_list value slice pins s σ H _ _ v u Q I rx ry ⟨_, _, _, z, rfl, rfl, L2.Same.seq (fun _ _ z => by cases z) r3, by unfold atI; rw [dpa_length q3, e2]; exact e4, k _ (DW.scal qz hsc)⟩ hs
      · obtain ⟨j, e2, e3⟩ := Option.bind_eq_some_iff.mp e1
        cases oa with
        | tup r3 q3 =>
          obtain ⟨z, e4, qz⟩ := dpa_at (i := 0) q3 e3
          refine ix_tup value slice pins s σ H _ _ v u Q I rx ry ⟨_, _, _, z, rfl, rfl, ?_, by unfold atI; rw [dpa_length q3, e2]; exact e4, k _ (DW.scal qz hsc)⟩ hs
          rcases r3 with r3 | r3
          · exact .inl (same_rd (B := fun _ => none) (fun _ _ z => by cases z) r3)
          · exact .inr r3
      · split at e1
        · obtain ⟨cc, e2, e1⟩ := Option.map_eq_some_iff.mp e1
          subst e1
          cases oa
          exact ix_str value slice pins s σ H _ _ v u Q I rx ry ⟨_, _, cc, rfl, rfl, by assumption, e2, k _ (.str _)⟩ hs
        · cases e1
      · cases e1
    · cases e
  · exact dict oa ob e
  · exact tict oa ob e
  · cases e
section
variable {S : Sg}
theorem de_ix {a b : Expr} {wa wb : WE} {pos : Pos} (ha : DE S a wa) (hb : DE S b wb) (hs : PlainIx b := by intro _ _; rfl) : DE S (.Subscript a b pos) (wOp idxF wa wb) := by
  obtain ⟨ta, pa, sa⟩ := ha
  obtain ⟨tb, pb, sb⟩ := hb
  exact ⟨_, fun c hc => pe_ix (ix_all c hc) (pa c hc) (pb c hc) hs, sim_op sa sb⟩
end
abbrev WO := XP → SEnv → (Option Int → SEnv → Prop) → Prop
structure OSim (K : PySem.W.Frag) (E : XK) (t : TO) (W : WO) : Prop where
  mono : ∀ (Ex Ex' : XP) (δ : SEnv) (P P' : Option Int → SEnv → Prop), (∀ e, Ex e → Ex' e) → (∀ r δ', P r δ' → P' r δ') → W Ex δ P → W Ex' δ P'
  run : ∀ (Ex : XP) (F B H : Hp) (vs : List V) (σ : L2.St) (δ : SEnv) (P : Option Int → SEnv → Prop) (Q : Option Int → Hp → Prop), XOk F B E Ex → Rep K F B H vs σ δ → W Ex δ P →
    (∀ B' H' o δ', Same B B' → Rep K F B' H' vs σ δ' → P o δ' → Q o H') → t σ H Q
def DO (S : Sg) (e : Option Expr) (W : WO) : Prop := ∃ t, (∀ c, S.ok c → PO (S.g.cx c) e t) ∧ OSim S.g.K S.E t W
def intV : Vw → Option Int
  | .d (.int i) => some i
  | _ => none
def wNoP : WO := fun _ δ P => P none δ
def wPart (wa : WE) : WO := fun Ex δ P => wa Ex δ fun r δ1 => ob (view δ1 r) fun w => ob (intV w) fun i => P (some i) δ1
theorem intV_ok {K : PySem.W.Frag} {B H : Hp} {v : V} {w : Vw} {i : Int} (o : OV K B H v w) (e : intV w = some i) : v = .int i := by
  unfold intV at e
  split at e
  · cases e; exact ov_int o
  · cases e
def cutL {α : Type} (xs : List α) (lo hi : Option Int) : List α := (xs.drop (HT.sIx xs.length 0 lo)).take (HT.sIx xs.length xs.length hi - HT.sIx xs.length 0 lo)
theorem dds_cut {B : Hp} {xs : List V} {ds : List PyData} (q : DDs B xs ds) (lo hi : Option Int) : DDs B (cutV xs lo hi) (cutL ds lo hi) := by
  unfold cutV cutL
  rw [q.length]
  exact (q.drop _).take _
theorem cut_all {α : Type} {xs : List α} {lo hi : Option Int} (h : HT.sIx xs.length 0 lo = 0 ∧ HT.sIx xs.length xs.length hi = xs.length) : cutL xs lo hi = xs := by
  unfold cutL
  rw [h.1, h.2, List.drop_zero]
  simp
def rSlP (K : PySem.W.Frag) : V → Option Int → Option Int → Hp → VK → Prop := fun x lo hi H Q => ∃ a xs, x = .ref a ∧ SqT K H a xs ∧
  (HT.sIx xs.length 0 lo = 0 ∧ HT.sIx xs.length xs.length hi = xs.length → Q (.ref a) H) ∧ ∀ (p : Addr) (o : Obj), H p = none → o.cls = .type "tuple" → o.dict = none → Q (.ref p) (upd H p (.frz o (.tup (cutV xs lo hi))))
theorem sl_tupP {X : Cx} : SlR X (rSlP X.K) := by
  intro pins s σ H x v vl vu lo hi sl Q I rx hs pl pu h
  obtain ⟨a, xs, rfl, hx, q1, q2⟩ := h
  cases rx
  obtain ⟨its, r, ht, hz⟩ := I.tuple hx
  have hlen : its.toArray.size = xs.length := by rw [List.size_toArray]; exact r.length.symm
  refine ⟨"tuple", _, PyProof.Rows.slot_tuple_getitem.lookup, ht.typeIs, ?_⟩
  by_cases hw : HT.sIx xs.length 0 lo = 0 ∧ HT.sIx xs.length xs.length hi = xs.length
  · exact getItem_tuple_whole ht hs pl pu (by rw [hlen]; exact hw) ⟨.ref a, H, I, rfl, q1 hw⟩
  · refine HT.getItem_tuple_cut ht hs pl pu (by rw [hlen]; exact hw) ?_ (by rw [hlen]; exact hz)
    rw [hlen]
    refine ⟨.ref s.heap.objs.size, _, I.laid (t' := s.toks) (o := .frz _ (.tup (cutV xs lo hi))) (fun b ob q => Heap.get?_push_of_some _ q) (Nat.le_refl _) ⟨Heap.get?_push_size _ rfl, (show ObjOk X.prog X.w _ _ _ (.tup (cutV xs lo hi)) from ?_)⟩, rfl, q2 _ _ (I.hok.fresh (Nat.le_refl _)) rfl rfl⟩
    exact ⟨Nat.le_trans (cutV_length xs lo hi) hz, _, (r.drop (HT.sIx xs.length 0 lo)).take (HT.sIx xs.length xs.length hi - HT.sIx xs.length 0 lo), IsTup.new _ _⟩
def slF (lo hi : Option Int) : Vw → Option Rv
  | .d (.list ds) => some (.lst (cutL ds lo hi))
  | .d (.tuple ds) => some (.tup (cutL ds lo hi))
  | .d (.str x) => if x.length ≤ sizeLine then some (.val (.str (cutS x lo hi))) else none
  | .w (.list ds) => if ds.all scalar then some (.lst (cutL ds lo hi)) else none
  | _ => none
def rSl (K : PySem.W.Frag) : V → Option Int → Option Int → Hp → VK → Prop := fun x lo hi H Q => ∃ B a rv, Same B H ∧ OV K B H x a ∧ slF lo hi a = some rv ∧ RvK B H Q rv
theorem sl_all {X : Cx} : SlR X (rSl X.K) := by
  rintro pins s σ H x v vl vu lo hi sl Q I rx hs pl pu ⟨B, a, rv, sB, oa, e, k⟩
  unfold slF at e
  split at e
  · cases e
    obtain ⟨p, xs, rfl, hp, qx⟩ := ov_lst sB oa
    exact sl_list pins s σ H _ v vl vu lo hi sl Q I rx hs pl pu ⟨p, xs, rfl, .inl hp, fun l hl => k l _ hl (dds_cut qx lo hi)⟩
  · cases e
    obtain ⟨p, xs, rfl, hp, qx⟩ := ov_tup oa
    refine sl_tupP pins s σ H _ v vl vu lo hi sl Q I rx hs pl pu ⟨p, xs, rfl, .inl (PlT.mono sB hp).rd, fun hw => k.1 _ ?_, fun l o hl ec ed => k.2 l o _ hl ec ed (dds_cut qx lo hi)⟩
    rw [qx.length] at hw
    rw [cut_all hw]
    exact .tup hp qx
  · split at e
    · cases e
      cases ov_str oa
      exact sl_str pins s σ H _ v vl vu lo hi sl Q I rx hs pl pu ⟨_, rfl, by assumption, k _ (.str _)⟩
    · cases e
  · split at e
    · rename_i hsc
      cases e
      have oa : Dp X.K (fun _ => none) x _ := oa
      cases oa with
      | lst r3 q3 => exact sl_list pins s σ H _ v vl vu lo hi sl Q I rx hs pl pu ⟨_, _, rfl, L2.Same.seq (fun _ _ z => by cases z) r3, fun l hl => k l _ hl (dds_cut (dp_items q3 hsc B) lo hi)⟩
    · cases e
  · cases e
def wSl (wa : WE) (wl wh : WO) : WE := fun Ex δ P => wa Ex δ fun ra δ1 => ob (settle ra) fun r' => wl Ex δ1 fun lo δ2 => wh Ex δ2 fun hi δ3 => ob (view δ3 r') fun a => ob (slF lo hi a) fun rv => P rv.r δ3
section
variable {S : Sg}
theorem do_none : DO S none wNoP := ⟨tNoPart, fun _ _ => po_none, ⟨fun _ _ _ _ _ _ h w => h _ _ w, fun Ex F B H vs σ δ P Q hx h w k => k B H none δ (Same.refl _) h w⟩⟩
theorem do_some {e : Expr} {wa : WE} (h : DE S e wa) : DO S (some e) (wPart wa) := by
  obtain ⟨t, p, s⟩ := h
  refine ⟨_, fun c hc => po_some (p c hc), ⟨fun Ex Ex' δ P P' hx h w => s.mono _ _ _ _ _ hx (fun r δ1 w => w.imp fun v w => w.imp fun i w => h _ _ w) w, fun Ex F B H vs σ δ P Q hx h w k => ?_⟩⟩
  refine s.run _ _ _ _ _ _ _ _ _ hx h w fun B1 H1 v r δ1 s1 h1 q1 w1 => ?_
  obtain ⟨vw, e1, i, e2, w1⟩ := w1
  exact ⟨i, intV_ok (view_ok h1 q1 e1) e2, k B1 H1 (some i) δ1 s1 h1 w1⟩
theorem de_sl {a : Expr} {lo hi : Option Expr} {wa : WE} {wl wh : WO} {p2 pos : Pos} (ha : DE S a wa) (hl : DO S lo wl) (hh : DO S hi wh) : DE S (.Subscript a (.Slice lo hi none p2) pos) (wSl wa wl wh) := by
  obtain ⟨ta, pa, sa⟩ := ha
  obtain ⟨tl, pl, sl⟩ := hl
  obtain ⟨th, ph, sh⟩ := hh
  refine ⟨tSl (rSl S.g.K) ta tl th, fun c hc => pe_slice (X := S.g.cx c) sl_all (pa c hc) (pl c hc) (ph c hc), ⟨fun Ex Ex' δ P P' hx h w => ?_, fun Ex F B H vs σ δ P Q hx h w k => ?_⟩⟩
  · refine sa.mono _ _ _ _ _ hx (fun r δ1 w => w.imp fun r' w => ?_) w
    refine sl.mono _ _ _ _ _ hx (fun lo δ2 w => ?_) w
    exact sh.mono _ _ _ _ _ hx (fun hi δ3 w => w.imp fun a w => w.imp fun rv w => h _ _ w) w
  · refine sa.run _ _ _ _ _ _ _ _ _ hx h w fun B1 H1 x ra δ1 s1 h1 q1 w1 => ?_
    obtain ⟨r', e1, w1⟩ := w1
    obtain ⟨B2, s2, h2, q2, n2⟩ := settle_ok h1 q1 e1
    refine sl.run _ _ _ _ _ _ _ _ _ (hx.up (s1.trans s2)) h2 w1 fun B3 H3 l δ2 s3 h3 w3 => ?_
    refine sh.run _ _ _ _ _ _ _ _ _ (hx.up ((s1.trans s2).trans s3)) h3 w3 fun B4 H4 u δ3 s4 h4 w4 => ?_
    obtain ⟨a, e2, rv, e4, w4⟩ := w4
    have q4 := RepR.up (H' := H4) (s3.trans s4) q2 n2 (δ' := δ3)
    exact ⟨B4, a, rv, h4.sb, view_ok h4 q4 e2, e4, rvk_ok (((s1.trans s2).trans s3).trans s4) h4 w4 k⟩
end
theorem eqV_eqv {B : Hp} {x y : V} {d e : PyData} (hx : DD B x d) (hy : DD B y e) (fx : flatV x = true) (fy : flatV y = true) : eqV x y = PyData.eqv d e := by
  cases hx <;> cases hy <;> first | rfl | (cases fx; done) | (cases fy; done) | simp [eqV, PyData.eqv]
theorem inV_any {B : Hp} {x : V} {d : PyData} (hx : DD B x d) (fx : flatV x = true) : ∀ {xs : List V} {ds : List PyData}, DDs B xs ds → xs.all flatV = true → inV x xs = ds.any fun z => PyData.eqv z d
  | _, _, .nil, _ => rfl
  | _, _, .cons q r, h => by
    rw [List.all_cons, Bool.and_eq_true] at h
    unfold inV
    rw [List.any_cons, List.any_cons, eqV_eqv q hx h.1 fx]
    have := inV_any hx fx r h.2
    unfold inV at this
    rw [this]
theorem flat_scal {B : Hp} {v : V} {d : PyData} (h : DD B v d) (e : scalar d = true) : flatV v = true := by
  cases h <;> first | rfl | cases e
theorem flats {B : Hp} : ∀ {vs : List V} {ds : List PyData}, DDs B vs ds → ds.all scalar = true → vs.all flatV = true
  | _, _, .nil, _ => rfl
  | _, _, .cons q r, h => by
    rw [List.all_cons, Bool.and_eq_true] at h ⊢
    exact ⟨flat_scal q h.1, flats r h.2⟩
def subIn (a b : Str) : Bool := !(Builtin.Str.occurrences b a 0 b.length 1).isEmpty
def inB : Vw → Vw → Option Bool
  | .d d, .d (.list ds) => if SeqAt.shaped d && SeqAt.shaped (.list ds) then some (ds.any fun z => PyData.eqv z d) else none
  | .d d, .d (.tuple ds) => if scalar d && ds.all scalar then some (ds.any fun z => PyData.eqv z d) else none
  | .d (.str a), .d (.str b) => some (subIn a b)
  | .d d, .k kvs => (dgetF (.k kvs) d).map (·.isSome)
  | .d d, .t kvs => (tgetF (.t kvs) d).map (·.isSome)
  | _, _ => none
def inG (neg : Bool) : Vw → Vw → Option Rv := fun a b => (inB a b).map fun r => .val (.bool (if neg then !r else r))
theorem os_in_ {S : Sg} (neg : Bool) : OpS S (compareOp (if neg then .NotIn else .In)) (inG neg) := by
  rintro c hc pins s σ H x y v u Q I rx ry ⟨B, a, b, rv, sB, oa, ob, e, k⟩
  unfold inG at e
  obtain ⟨r, e1, e2⟩ := Option.map_eq_some_iff.mp e
  clear e
  have e := e1
  clear e1
  subst e2
  have hu : (S.g.cx c).A.units + 65 < cLine := by have := hc.room.un; show c.A.units + 65 < cLine; omega
  have dict : ∀ {w : Vw} {d : PyData}, OV S.g.K B H x (.d d) → OV S.g.K B H y w → (dgetF w d).map (·.isSome) = some r → wpAny (model S.g.P S.g.w) c.A (compareOp (if neg then .NotIn else .In) v u) (EP (S.g.cx c) pins σ Q) c.xe s := by
    intro w d ox oy e
    obtain ⟨o, e2, e3⟩ := Option.map_eq_some_iff.mp e
    obtain ⟨p, ov, rfl, g, z⟩ := dget_ok sB oy ox e2
    have ei : ov.isSome = r := by
      rw [← e3]
      rcases z with ⟨z1, z2⟩ | ⟨_, _, z1, z2, _⟩ <;> rw [z1, z2] <;> rfl
    cases ry
    cases neg
    · exact d_in (hu_of hc.room) I g rx fun s3 I3 => ⟨.bl ov.isSome, H, I3, rfl, by rw [ei]; exact k _ (.bl _)⟩
    · exact d_notIn (hu_of hc.room) I g rx fun s3 I3 => ⟨.bl (!ov.isSome), H, I3, rfl, by rw [ei]; exact k _ (.bl _)⟩
  have tict : ∀ {w : Vw} {d : PyData}, OV S.g.K B H x (.d d) → OV S.g.K B H y w → (tgetF w d).map (·.isSome) = some r → wpAny (model S.g.P S.g.w) c.A (compareOp (if neg then .NotIn else .In) v u) (EP (S.g.cx c) pins σ Q) c.xe s := by
    intro w d ox oy e
    obtain ⟨o, e2, e3⟩ := Option.map_eq_some_iff.mp e
    obtain ⟨p, xs, kvs, b, ks, rfl, rfl, q, pk, lk⟩ := tget_ok oy ox e2
    have dd := ti_dict I.hok sB q
    have ei : (atKey xs ks).isSome = r := by
      rw [← e3, ← lk]
      rcases ti_look q.are ks with ⟨z1, z2⟩ | ⟨_, _, _, z1, z2, _⟩ <;> rw [z1, z2] <;> rfl
    cases rx; cases ry
    cases neg
    · exact wpAny_in_heap (tupleKind_room_in1 (hu_of hc.room)) (isKey_of I.hok (pk.mono sB)) q.big dd (by rw [ei]; exact ⟨.bl r, H, I.tok _, rfl, k _ (.bl _)⟩)
    · exact wpAny_notIn_heap (tupleKind_room_in1 (hu_of hc.room)) (isKey_of I.hok (pk.mono sB)) q.big dd (by rw [ei]; exact ⟨.bl (!r), H, I.tok _, rfl, k _ (.bl _)⟩)
  unfold inB at e
  split at e
  · split at e
    · rename_i hs
      cases e
      rw [Bool.and_eq_true] at hs
      cases neg
      · exact op_inD hu pins s σ H _ _ v u Q I rx ry ⟨_, _, OV.dp sB oa, OV.dp sB ob, hs.1, hs.2, k _ (.bl _)⟩
      · exact op_notInD hu pins s σ H _ _ v u Q I rx ry ⟨_, _, OV.dp sB oa, OV.dp sB ob, hs.1, hs.2, k _ (.bl _)⟩
    · cases e
  · split at e
    · rename_i d1 ds1 hs
      cases e
      rw [Bool.and_eq_true] at hs
      obtain ⟨p, xs, rfl, hp, qx⟩ := ov_tup ob
      have qd : DD B x d1 := by
        rcases oa with oa | ⟨_, _, _, _, z, _⟩
        · exact oa
        · subst z; cases hs.1
      have f1 := flat_scal qd hs.1
      have f2 := flats qx hs.2
      have ei := inV_any qd f1 qx f2
      cases neg
      · exact op_in_seq pins s σ H _ _ v u Q I rx ry ⟨p, xs, rfl, .inr (.inl (PlT.mono sB hp).rd), f1, f2, by rw [ei]; exact k _ (.bl _)⟩
      · exact op_notIn_seq pins s σ H _ _ v u Q I rx ry ⟨p, xs, rfl, .inr (.inl (PlT.mono sB hp).rd), f1, f2, by rw [ei]; exact k _ (.bl _)⟩
    · cases e
  · cases e
    cases ov_str oa; cases ov_str ob
    cases neg
    · exact op_in_str pins s σ H _ _ v u Q I rx ry ⟨_, _, rfl, rfl, k _ (.bl _)⟩
    · exact op_notin_str pins s σ H _ _ v u Q I rx ry ⟨_, _, rfl, rfl, k _ (.bl _)⟩
  · exact dict oa ob e
  · exact tict oa ob e
  · cases e
end DL
set_option Elab.async false
set_option linter.all false
set_option maxRecDepth 100000
set_option maxHeartbeats 4000000
set_option autoImplicit false
namespace DL
open PySem PySem.Spec PyProof.Rows L2
def wChn (f f' : Vw → Vw → Option Rv) (wa wb wc : WE) : WE := fun Ex δ P => wa Ex δ fun ra δ1 => ob (settle ra) fun ra' => wb Ex δ1 fun rb δ2 => ob (settle rb) fun rb' => ob (view δ2 ra') fun a => ob (view δ2 rb') fun b => ob (f a b) fun rv => ob (isB rv.r) fun k =>
  if k = true then wc Ex δ2 fun rc δ3 => ob (view δ3 rb') fun b' => ob (view δ3 rc) fun c => ob (f' b' c) fun rv' => P rv'.r δ3 else P (.d (.bool false)) δ2
theorem rvk_bool {K : PySem.W.Frag} {F B0 B H : Hp} {vs : List V} {σ : L2.St} {δ : SEnv} {rv : Rv} {k : Bool} (e : isB rv.r = some k) {Q : VK} (h : Q (.bl k) H) : RvK B H Q rv := by
  cases rv with
  | val d =>
    cases d with
    | bool b => cases e; intro z q; cases q; exact h
    | _ => cases e
  | _ => cases e
theorem sim_chn {K : PySem.W.Frag} {E : XK} {ta tb tc : TE} {wa wb wc : WE} {f f' : Vw → Vw → Option Rv} (sa : ESim K E ta wa) (sb : ESim K E tb wb) (sc : ESim K E tc wc) : ESim K E (tChain (rF K f) (rF K f') ta tb tc) (wChn f f' wa wb wc) := by
  refine ⟨fun Ex Ex' δ P P' hx h w => ?_, fun Ex F B H vs σ δ P Q hx h w k => ?_⟩
  · refine sa.mono _ _ _ _ _ hx (fun ra δ1 w => w.imp fun ra' w => ?_) w
    refine sb.mono _ _ _ _ _ hx (fun rb δ2 w => w.imp fun rb' w => w.imp fun a w => w.imp fun b w => w.imp fun rv w => w.imp fun kk w => ?_) w
    cases kk with
    | false => exact h _ _ w
    | true => exact sc.mono _ _ _ _ _ hx (fun rc δ3 w => w.imp fun b' w => w.imp fun c w => w.imp fun rv' w => h _ _ w) w
  · refine sa.run _ _ _ _ _ _ _ _ _ hx h w fun B1 H1 x ra δ1 s1 h1 q1 w1 => ?_
    obtain ⟨ra', e1, w1⟩ := w1
    obtain ⟨B2, s2, h2, q2, n2⟩ := settle_ok h1 q1 e1
    refine sb.run _ _ _ _ _ _ _ _ _ (hx.up (s1.trans s2)) h2 w1 fun B3 H3 y rb δ2 s3 h3 q3 w3 => ?_
    obtain ⟨rb', e2, a, e3, b, e4, rv, e5, kk, e6, w3⟩ := w3
    obtain ⟨B4, s4, h4, q4, n4⟩ := settle_ok h3 q3 e2
    have qa := RepR.up (H' := H3) (s3.trans s4) q2 n2 (δ' := δ2)
    have s14 := ((s1.trans s2).trans s3).trans s4
    refine ⟨B4, a, b, rv, h4.sb, view_ok h4 qa e3, view_ok h4 q4 e4, e5, rvk_bool (K := K) (F := F) (B0 := B) (vs := vs) (σ := σ) (δ := δ2) e6 ⟨kk, rfl, ?_⟩⟩
    cases kk with
    | false => exact k B4 H3 _ (.d (.bool false)) δ2 s14 h4 (DD.bl false) w3
    | true =>
      refine sc.run _ _ _ _ _ _ _ _ _ (hx.up s14) h4 w3 fun B5 H5 z rc δ3 s5 h5 q5 w5 => ?_
      obtain ⟨b', e7, c, e8, rv', e9, w5⟩ := w5
      have qb := RepR.up (H' := H5) s5 q4 n4 (δ' := δ3)
      exact ⟨B5, b', c, rv', h5.sb, view_ok h5 qb e7, view_ok h5 q5 e8, e9, rvk_ok (s14.trans s5) h5 w5 k⟩
section
variable {S : Sg}
theorem de_chn {a b c : Expr} {wa wb wc : WE} {pos : Pos} {op op' : CmpOp} {f f' : Vw → Vw → Option Rv} (ho : OpS S (compareOp op) f) (ho' : OpS S (compareOp op') f') (ha : DE S a wa) (hb : DE S b wb) (hc : DE S c wc)
    (hm : lastMarks [op, op'] [b, c] = false := by with_unfolding_all rfl) : DE S (.Compare a [op, op'] [b, c] pos) (wChn f f' wa wb wc) := by
  obtain ⟨ta, pa, sa⟩ := ha
  obtain ⟨tb, pb, sb⟩ := hb
  obtain ⟨tc, pc, sc⟩ := hc
  exact ⟨_, fun c hc => pe_chain (ho c hc) (ho' c hc) (pa c hc) (pb c hc) (pc c hc) hm, sim_chn sa sb sc⟩
theorem dt_chn {a b c : Expr} {wa wb wc : WE} {pos : Pos} {op op' : CmpOp} {f f' : Vw → Vw → Option Rv} (ho : OpS S (compareOp op) f) (ho' : OpS S (compareOp op') f') (ha : DE S a wa) (hb : DE S b wb) (hc : DE S c wc)
    (hm : lastMarks [op, op'] [b, c] = false := by with_unfolding_all rfl) : DT S (.Compare a [op, op'] [b, c] pos) (wB (wChn f f' wa wb wc)) := by
  obtain ⟨ta, pa, sa⟩ := ha
  obtain ⟨tb, pb, sb⟩ := hb
  obtain ⟨tc, pc, sc⟩ := hc
  exact ⟨_, fun c hc => pt_chain (ho c hc) (ho' c hc) (pa c hc) (pb c hc) (pc c hc) hm, sim_test (sim_chn sa sb sc)⟩
def tyD : PyData → String
  | .none => "NoneType"
  | .bool _ => "bool"
  | .int _ => "int"
  | .str _ => "str"
  | .list _ => "list"
  | .tuple _ => "tuple"
  | .dict _ => "dict"
def tyTab (a T : String) : Bool := a == T || (a == "bool" && T == "int")
def isT (T : String) (d : PyData) : Bool := tyTab (tyD d) T
def okT (T : String) : Bool := T == "bool" || T == "int" || T == "str" || T == "list" || T == "tuple" || T == "dict"
theorem kit_tab {T a : String} (h : okT T = true) (ha : okT a = true ∨ a = "NoneType") : kitB a T = some (tyTab a T) := by
  unfold okT at h ha
  simp only [Bool.or_eq_true, beq_iff_eq] at h ha
  rcases h with ((((h | h) | h) | h) | h) | h <;> subst h <;> rcases ha with (((((ha | ha) | ha) | ha) | ha) | ha) | ha <;> subst ha <;> decide +kernel
theorem kit_isT {T : String} (h : okT T = true) (d : PyData) : kitB (tyD d) T = some (isT T d) := kit_tab h (by cases d <;> first | exact .inl rfl | exact .inr rfl)
theorem tyx_dp {K : PySem.W.Frag} {B H : Hp} {v : V} {d : PyData} (s : Same B H) (h : DD B v d) : TyX K H v (.type (tyD d)) := by
  cases h with
  | non => exact .base .non
  | bl b => exact .base (.bl b)
  | int i => exact .base (.int i)
  | str x => exact .base (.str x)
  | lst r q =>
    rcases r with r | ⟨o, r⟩
    · exact .base (.lst (s _ _ r))
    · exact .base (.frz (s _ _ r))
  | tup r q => obtain ⟨o, r, _⟩ := r; exact .fTuple (s _ _ r)
theorem tyx_ov {K : PySem.W.Frag} {B H : Hp} {v : V} {d : PyData} (s : Same B H) (h : OV K B H v (.d d)) : TyX K H v (.type (tyD d)) ∧ ∀ kvs, d ≠ .dict kvs := by
  rcases h with h | ⟨a, xs, ds, rfl, rfl, e, _⟩
  · exact ⟨tyx_dp s h, fun kvs z => by subst z; cases h⟩
  · exact ⟨.base (.lst e), fun kvs z => by cases z⟩
def dV : Vw → Option PyData
  | .d d => some d
  | _ => none
def dI : Vw → Option PyData
  | .d d => some d
  | .xt ds => some (.tuple ds)
  | _ => none
def wIsi (T : String) (wa : WE) : WE := fun Ex δ P => wa Ex δ fun r δ1 => ob (view δ1 r) fun w => ob (dI w) fun d => P (.d (.bool (isT T d))) δ1
theorem de_isi {a : Expr} {wa : WE} {T : String} {x : Str} {p p2 pos : Pos} (hT : okT T = true) (hg : GlS S.sc "isinstance") (hm : S.g.mg "isinstance" = none) (hg2 : GlS S.sc x) (hm2 : S.g.mg x = none) (hv2 : bootBuiltins x = some (.type T)) (ha : DE S a wa)
    (hn2 : x ≠ "__name__" := by decide) (hd2 : (x == ("__debug__" : Str)) = false := by decide)
    (hs : ∀ env, starEach [a, .Name x p2] env = (false, eval a env) :: starEach [.Name x p2] env := by intro _; rfl) (hpl : ∀ env, (backTo pos (starEach [.Name x p2] env)).any (·.1) = false := by intro _; rfl) :
    DE S (.Call (.Name "isinstance" p) [a, .Name x p2] [] pos) (wIsi T wa) := by
  obtain ⟨ta, pa, sa⟩ := ha
  refine ⟨tCB (rIsi S.g.K) (tCons ta (tCons (tC (.ty T)) tNil)), fun c hc => ?_, ⟨fun Ex Ex' δ P P' hx h w => sa.mono _ _ _ _ _ hx (fun r δ1 w => w.imp fun v w => w.imp fun d w => h _ _ w) w, fun Ex F B H vs σ δ P Q hx h w k => ?_⟩⟩
  · exact pe_callB (X := S.g.cx c) call_isi (gl_of hc hg) hm (by decide +kernel) (pa_cons (pa c hc) (pa_cons (pe_bltn (gl_of hc hg2) hm2 hv2 rfl hn2 hd2) pa_nil) (hs _)) (by decide) (by decide) (hs _) (hpl _)
  · refine sa.run _ _ _ _ _ _ _ _ _ hx h w fun B1 H1 v r δ1 s1 h1 q1 w1 => ?_
    obtain ⟨vw, e1, d, e2, w1⟩ := w1
    have o := view_ok h1 q1 e1
    cases vw with
    | d d' =>
      cases e2
      obtain ⟨t1, t2⟩ := tyx_ov h1.sb o
      exact ⟨v, .ty T, .type (tyD d), .type T, isT T d, rfl, .ty T, t1, kit_ty (kit_isT hT d), k B1 H1 _ (.d (.bool (isT T d))) δ1 s1 h1 (.bl _) w1⟩
    | xt ds =>
      cases e2
      obtain ⟨a, u, xs, rfl, e4, _⟩ := o
      exact ⟨.ref a, .ty T, .type (tyD (.tuple ds)), .type T, isT T (.tuple ds), rfl, .ty T, .fTuple (h1.sb _ _ e4), kit_ty (kit_isT hT (.tuple ds)), k B1 H1 _ (.d (.bool (isT T (.tuple ds)))) δ1 s1 h1 (.bl _) w1⟩
    | _ => cases e2
end
def putD {κ : Type} [DecidableEq κ] (kvs : List (κ × PyData)) (k : κ) (d : PyData) : List (κ × PyData) :=
  if (kvs.any fun kv => decide (kv.1 = k)) = true then kvs.map (fun kv => if kv.1 = k then (kv.1, d) else kv) else kvs ++ [(k, d)]
theorem kds_any {κ : Type} [DecidableEq κ] {B : Hp} {ys : List (κ × V)} {kvs : List (κ × PyData)} (h : KDs B ys kvs) (k : κ) : (ys.any fun kv => decide (kv.1 = k)) = kvs.any fun kv => decide (kv.1 = k) := by
  induction h with
  | nil => rfl
  | cons q r ih => rw [List.any_cons, List.any_cons, ih, q.1]
theorem kds_map {κ : Type} [DecidableEq κ] {B : Hp} {ys : List (κ × V)} {kvs : List (κ × PyData)} (h : KDs B ys kvs) {k : κ} {v : V} {d : PyData} (q : DD B v d) : KDs B (ys.map fun kv => if kv.1 = k then (kv.1, v) else kv) (kvs.map fun kv => if kv.1 = k then (kv.1, d) else kv) := by
  induction h with
  | nil => exact .nil
  | cons q1 r ih =>
    rename_i p1 p2 l1 l2
    rw [List.map_cons, List.map_cons]
    refine .cons ?_ ih
    by_cases hk : p2.1 = k
    · rw [if_pos (q1.1.trans hk), if_pos hk]; exact ⟨q1.1, q⟩
    · rw [if_neg (fun z => hk (q1.1 ▸ z)), if_neg hk]; exact q1
theorem kds_app {κ : Type} {B : Hp} {ys zs : List (κ × V)} {kvs jvs : List (κ × PyData)} (h : KDs B ys kvs) (h2 : KDs B zs jvs) : KDs B (ys ++ zs) (kvs ++ jvs) := by
  induction h with
  | nil => exact h2
  | cons q r ih => exact .cons q ih
theorem kds_put {κ : Type} [DecidableEq κ] {B : Hp} {ys : List (κ × V)} {kvs : List (κ × PyData)} (h : KDs B ys kvs) {k : κ} {v : V} {d : PyData} (q : DD B v d) : KDs B (putK ys k v) (putD kvs k d) := by
  unfold putK putD
  rw [kds_any h k]
  split
  · exact kds_map h q
  · exact kds_app h (.cons ⟨rfl, q⟩ .nil)
def mergeD (kvs more : List (Key × PyData)) : List (Key × PyData) := more.foldl (fun acc kv => putD acc kv.1 kv.2) kvs
theorem kds_merge {B : Hp} {ys : List (Key × V)} {kvs : List (Key × PyData)} (h : KDs B ys kvs) : ∀ {y0 : List (Key × V)} {k0 : List (Key × PyData)}, KDs B y0 k0 → KDs B (mergeK y0 ys) (mergeD k0 kvs) := by
  induction h with
  | nil => intro y0 k0 h0; exact h0
  | cons q r ih =>
    intro y0 k0 h0
    unfold mergeK mergeD
    rw [List.foldl_cons, List.foldl_cons, q.1]
    exact ih (kds_put h0 q.2)
def wPairs : List (WE × WE) → XP → SEnv → (List (Key × PyData) → SEnv → Prop) → Prop
  | [], _, δ, P => P [] δ
  | (wk, wv) :: r, Ex, δ, P => wk Ex δ fun rk δ1 => ob (view δ1 rk) fun a => ob (dV a) fun dk => ob (keyD dk) fun k => wv Ex δ1 fun rv δ2 => ob (frz δ2 rv) fun p => wPairs r Ex p.2 fun kvs δ3 => P ((k, p.1) :: kvs) δ3
def wDisp (ps : List (WE × WE)) : WE := fun Ex δ P => wPairs ps Ex δ fun kvs δ1 => kvs.length ≤ 15 ∧ P (.n (.k (mergeD [] kvs))) δ1
def DPs (S : Sg) (pos : Pos) (keys : List (Option Expr)) (values : List Expr) (ws : List (WE × WE)) : Prop := ∃ trs : List (TE × TE), (∀ c, S.ok c → PPs (S.g.cx c) pos keys values trs) ∧ Paired (fun (t : TE × TE) (w : WE × WE) => ESim S.g.K S.E t.1 w.1 ∧ ESim S.g.K S.E t.2 w.2) trs ws
section
variable {S : Sg}
theorem dps_nil {pos : Pos} : DPs S pos [] [] [] := ⟨[], fun _ _ => pps_nil, .nil⟩
theorem dps_cons {pos : Pos} {k v : Expr} {ks : List (Option Expr)} {vs : List Expr} {wk wv : WE} {ws : List (WE × WE)} (hk : DE S k wk) (hv : DE S v wv) (hr : DPs S pos ks vs ws) : DPs S pos (some k :: ks) (v :: vs) ((wk, wv) :: ws) := by
  obtain ⟨tk, pk, sk⟩ := hk
  obtain ⟨tv, pv, sv⟩ := hv
  obtain ⟨tr, pr, sr⟩ := hr
  exact ⟨(tk, tv) :: tr, fun c hc => pps_cons (pk c hc) (pv c hc) (pr c hc), .cons ⟨sk, sv⟩ sr⟩
theorem pairs_mono {K : PySem.W.Frag} {E : XK} : ∀ {trs : List (TE × TE)} {ws : List (WE × WE)}, Paired (fun (t : TE × TE) (w : WE × WE) => ESim K E t.1 w.1 ∧ ESim K E t.2 w.2) trs ws → ∀ (Ex Ex' : XP) (δ : SEnv) (P P' : List (Key × PyData) → SEnv → Prop), (∀ e, Ex e → Ex' e) → (∀ r δ', P r δ' → P' r δ') → wPairs ws Ex δ P → wPairs ws Ex' δ P'
  | _, _, .nil, Ex, Ex', δ, P, P', hx, h, w => h _ _ w
  | _, _, .cons (b := (wk, wv)) q r, Ex, Ex', δ, P, P', hx, h, w => by
    refine q.1.mono _ _ _ _ _ hx (fun rk δ1 w => w.imp fun a w => w.imp fun dk w => w.imp fun k w => ?_) w
    refine q.2.mono _ _ _ _ _ hx (fun rv δ2 w => w.imp fun p w => ?_) w
    exact pairs_mono r Ex Ex' _ _ _ hx (fun kvs δ3 w => h _ _ w) w
theorem pairs_run {K : PySem.W.Frag} {E : XK} {vs : List V} {σ : L2.St} : ∀ {trs : List (TE × TE)} {ws : List (WE × WE)}, Paired (fun (t : TE × TE) (w : WE × WE) => ESim K E t.1 w.1 ∧ ESim K E t.2 w.2) trs ws → ∀ (Ex : XP) (F B H : Hp) (δ : SEnv) (P : List (Key × PyData) → SEnv → Prop) (Q : List (V × V) → Hp → Prop), XOk F B E Ex → Rep K F B H vs σ δ → wPairs ws Ex δ P →
    (∀ B' H' ys kvs δ', Same B B' → Rep K F B' H' vs σ δ' → KDs B' ys kvs → P kvs δ' → Q (ys.map fun kv => (kV kv.1, kv.2)) H') → tPairs trs σ H Q
  | _, _, .nil, Ex, F, B, H, δ, P, Q, hx, h, w, k => k B H [] [] δ (Same.refl _) h .nil w
  | _, _, .cons (a := (tk, tv)) (b := (wk, wv)) q r, Ex, F, B, H, δ, P, Q, hx, h, w, kk => by
    refine q.1.run _ _ _ _ _ _ _ _ _ hx h w fun B1 H1 x rk δ1 s1 h1 q1 w1 => ?_
    obtain ⟨a, e1, dk, e2, k, e3, w1⟩ := w1
    have o := view_ok h1 q1 e1
    have ex : x = kV k := by
      cases a with
      | d d =>
        cases e2
        rcases o with o | ⟨_, _, _, _, z, _⟩
        · exact key_dd e3 o
        · subst z; cases e3
      | _ => cases e2
    subst ex
    refine q.2.run _ _ _ _ _ _ _ _ _ (hx.up s1) h1 w1 fun B2 H2 y rv δ2 s2 h2 q2 w2 => ?_
    obtain ⟨⟨d, δ3⟩, e4, w2⟩ := w2
    obtain ⟨B3, s3, h3, q3⟩ := frz_ok h2 q2 e4
    refine pairs_run r Ex F B3 H2 δ3 _ _ (hx.up ((s1.trans s2).trans s3)) h3 w2 fun B4 H4 ys kvs δ4 s4 h4 q4 w4 => ?_
    exact kk B4 H4 ((k, y) :: ys) ((k, d) :: kvs) δ4 (((s1.trans s2).trans s3).trans s4) h4 (.cons ⟨rfl, q3.mono s4⟩ q4) w4
theorem de_disp {pos : Pos} {keys : List (Option Expr)} {values : List Expr} {ws : List (WE × WE)} (h : DPs S pos keys values ws) (hall : keys.all (·.isSome) = true := by rfl) (hl : keys.length = values.length := by rfl) (h0 : keys ≠ [] := by exact fun z => nomatch z) (h15 : keys.length ≤ 15 := by decide) : DE S (.Dict keys values pos) (wDisp ws) := by
  obtain ⟨trs, p, s⟩ := h
  refine ⟨tDisp trs, fun c hc => pe_disp (p c hc) hall hl h0 h15, ⟨fun Ex Ex' δ P P' hx h w => pairs_mono s Ex Ex' δ _ _ hx (fun kvs δ1 w => ⟨w.1, h _ _ w.2⟩) w, fun Ex F B H vs σ δ P Q hx h w k => ?_⟩⟩
  intro p hp
  refine pairs_run s Ex (upd F p (.dK [])) B _ δ _ _ (fun cls da B' H' fs fds t1 t2 t3 t4 t5 t6 t7 => hx cls da B' H' fs fds t1 t2 (fun a o e => t3 a o (by rw [upd_ne (ne_of_none e (nof h.sf hp))]; exact e)) (fun a o e => t4 a o (by rw [upd_ne (ne_of_none e (nof h.sf hp))]; exact e)) t5 t6 t7) (h.lay hp _) w fun B1 H1 ys kvs δ1 s1 h1 q1 w1 => ?_
  have e1 : H1 p = some (.dK []) := h1.sf p _ upd_same
  have hF : F p = none := nof h.sf hp
  refine ⟨e1, ys, rfl, by rw [kds_length q1]; exact w1.1, ?_⟩
  have h2 := (h1.relay (o' := .dK (mergeK [] ys))).unlay hF
  have h1' := h1.relay (o' := .dK (mergeK [] ys))
  exact k B1 _ (.ref p) (.n (.k (mergeD [] kvs))) δ1 s1 h2 ⟨p, rfl, foot_bf rfl (h1.dj p _ upd_same) hF, ⟨_, upd_same, kds_merge q1 .nil⟩, h1'.off⟩ w1.2
theorem de_dnew {pos : Pos} : DE S (.Dict [] [] pos) (fun _ δ P => P (.n (.k [])) δ) := by
  refine ⟨tDNewK, fun c hc => pe_dnewK, ⟨fun Ex Ex' δ P P' hx h w => h _ _ w, fun Ex F B H vs σ δ P Q hx h w k => ?_⟩⟩
  intro p hp
  exact k B _ (.ref p) (.n (.k [])) δ (Same.refl _) (h.newO hp _) ⟨p, rfl, foot_bf rfl (nof h.sb hp) (nof h.sf hp), ⟨[], upd_same, .nil⟩, h.fresh hp _⟩ w
end
end DL
set_option Elab.async false
set_option linter.all false
set_option maxRecDepth 100000
set_option maxHeartbeats 4000000
set_option autoImplicit false
namespace DL
open PySem PySem.Spec PyProof.Rows L2
section
variable {K : PySem.W.Frag} {F B H : Hp} {vs : List V} {σ : L2.St} {δ : SEnv}
/-- an object of one's own is changed -/
theorem Rep.mutate (h : Rep K F B H vs σ δ) {i : Nat} {a : Addr} {b : Bool} {c c' : Cont} {o : HO} (e : δ[i]? = some (some (.o b c))) (ea : σ[i]? = some (some (.ref a))) (q : ContOk B (upd H a o) a c') (hf : ∀ p, Foot (upd H a o) a c' p → Foot H a c p := by exact fun _ z => z) (hr : c.real = true := by rfl) :
    Rep K F B (upd H a o) vs σ (δ.set i (some (.o b c'))) := by
  obtain ⟨hBF, _⟩ := h.own_up e ea
  have hB := (hBF a (foot_self hr)).1
  have hF := (hBF a (foot_self hr)).2
  have ne : ∀ {j : Nat} {b2 : Bool} {c2 : Cont} {a2 p : Addr}, j ≠ i → δ[j]? = some (some (.o b2 c2)) → σ[j]? = some (some (.ref a2)) → Foot H a2 c2 p → p ≠ a := fun n z e2 f w => by
    subst w; exact n (h.apart _ _ _ _ _ _ _ _ _ z e e2 ea f (foot_self hr))
  have sm : ∀ {j : Nat} {b2 : Bool} {c2 : Cont} {a2 p : Addr}, j ≠ i → δ[j]? = some (some (.o b2 c2)) → σ[j]? = some (some (.ref a2)) → (Foot (upd H a o) a2 c2 p ↔ Foot H a2 c2 p) := fun n z e2 => foot_eq fun p f => upd_ne (ne n z e2 f)
  refine ⟨fun p u z => ?_, fun p u z => ?_, h.dj, by rw [List.length_set]; exact h.len, fun j s z => ?_, fun j k a1 a2 p b1 c1 b2 c2 z1 z2 z3 z4 f1 f2 => ?_, fun j c1 z => ?_, h.nt⟩
  · rw [upd_ne (ne_of_none z hB)]; exact h.sb p u z
  · rw [upd_ne (ne_of_none z hF)]; exact h.sf p u z
  · rcases set_get z with ⟨ej, z'⟩ | ⟨n, z'⟩
    · subst ej; cases z'; exact ⟨_, ea, a, rfl, fun p f => hBF p (hf p f), q⟩
    · obtain ⟨v, e2, q2⟩ := h.ok j s z'
      refine ⟨v, e2, ?_⟩
      cases s with
      | d d => exact q2
      | w d => exact q2
      | o b2 c2 =>
        obtain ⟨p, e3, hBF2, q3⟩ := q2
        subst e3
        exact ⟨p, rfl, fun r f => hBF2 r ((sm n z' e2).mp f), q3.mono (Same.refl _) fun r f => upd_ne (ne n z' e2 f)⟩
  · rcases set_get z1 with ⟨ej, y1⟩ | ⟨nj, y1⟩
    · rcases set_get z2 with ⟨ek, y2⟩ | ⟨nk, y2⟩
      · rw [ej, ek]
      · cases y1; subst ej
        rw [ea] at z3; cases z3
        exact h.apart _ k _ a2 p _ c _ c2 e y2 ea z4 (hf p f1) ((sm nk y2 z4).mp f2)
    · rcases set_get z2 with ⟨ek, y2⟩ | ⟨nk, y2⟩
      · cases y2; subst ek
        rw [ea] at z4; cases z4
        exact h.apart j _ a1 _ p b1 c1 _ c y1 e z3 ea ((sm nj y1 z3).mp f1) (hf p f2)
      · exact h.apart j k a1 a2 p b1 c1 b2 c2 y1 y2 z3 z4 ((sm nj y1 z3).mp f1) ((sm nk y2 z4).mp f2)
  · rcases set_get z with ⟨ej, z'⟩ | ⟨n, z'⟩
    · subst ej; cases z'; exact h.bor _ c e
    · exact h.bor j c1 z'
theorem own_at (h : Rep K F B H vs σ δ) {i : Nat} {b : Bool} {c : Cont} {v : V} (e : δ[i]? = some (some (.o b c))) (ev : σ[i]? = some (some v)) : ∃ a, v = .ref a ∧ (∀ p, Foot H a c p → B p = none ∧ F p = none) ∧ ContOk B H a c := by
  obtain ⟨v0, e0, q⟩ := h.ok i _ e
  rw [ev] at e0; cases e0
  exact q
end
def ownL (δ : SEnv) (i : Nat) : Option (Bool × List PyData) := match δ[i]? with
  | some (some (.o b (.l ds))) => some (b, ds)
  | _ => none
theorem ownL_at {δ : SEnv} {i : Nat} {b : Bool} {ds : List PyData} (h : ownL δ i = some (b, ds)) : δ[i]? = some (some (.o b (.l ds))) := by
  unfold ownL at h
  split at h
  · cases h; assumption
  · cases h
def wApp (i : Nat) (wa : WE) : WE := fun Ex δ P => ob (ownL δ i) fun _ => wa Ex δ fun r δ1 => ob (frz δ1 r) fun p => ob (ownL p.2 i) fun q => q.2.length < sizeLine ∧ P (.d .none) (p.2.set i (some (.o q.1 (.l (q.2 ++ [p.1])))))
theorem mt_extendRd {X : Cx} : MtR X "list.extend" fun x vs H Q => ∃ l b xs zs, x = .ref l ∧ vs = [.ref b] ∧ H l = some (.lst xs) ∧ Rd H b (.lst zs) ∧ xs.length + zs.length ≤ sizeLine ∧ Q .non (upd H l (.lst (xs ++ zs))) := by
  rintro pins s σ H x vs v us Q I rx rv ⟨l, b, xs, zs, rfl, rfl, hl, hb, hz, q⟩
  cases rx
  obtain ⟨u, rfl, ru⟩ := rv.one
  cases ru
  obtain ⟨z1, its, n, r, e⟩ := I.hok l _ hl
  obtain ⟨z2, its2, n2, r2, e2⟩ := hb.ok I.hok
  have l1 := r.length
  have l2 := r2.length
  have tot : its.toArray.size + its2.toArray.size ≤ sizeLine := by rw [List.size_toArray, List.size_toArray]; omega
  refine call_meets F.slot_list_extend ⟨_, e, rfl⟩ F.entry_list_extend (F.args_list_extend_2 _ _) (AutoSeq1.list_extend_list_list_0 l its.toArray n b its2.toArray n2 (by rw [notLongL tot, Bool.and_false]; exact Bool.false_ne_true) (by rw [List.size_toArray]; omega) (by omega)) ⟨e, e2, ?_⟩
  exact ⟨.non, _, I.lset (its' := its ++ its2) hl e (by simp) (r.append r2) (by rw [List.length_append]; omega), rfl, q⟩
section
variable {S : Sg}
theorem vis_v {c : Cl} (hc : S.ok c) {i : Nat} {x : Str} {p : Pos} (hN : S.N[i]? = some x) (hv : Vis S.sc x) (hd : (x == ("__debug__" : Str)) = false) (hcd : (x == ("__classdict__" : Str)) = false) : PE (S.g.cx c) (.Name x p) (tVar i) :=
  pe_var (by show c.N[i]? = _; rw [hc.hN]; exact hN) (by show Vis c.env.scope x; rw [hc.hs]; exact hv) hd hcd
/-- how a method with one argument is called on a name -/
def few (cpos : Pos) (e : Expr) : Prop := ∀ env, ((backTo cpos (starEach [e] env)).all (fun x => !x.1) && (backToKw cpos (keywordEach [] env)).all (fun x => x.1.isSome) && decide ([e].length + ([] : List Keyword).length + (if ([] : List Keyword).isEmpty then 0 else 1) < 30)) = true
theorem de_app {i : Nat} {x : Str} {e : Expr} {wa : WE} {p apos cpos : Pos} (hN : S.N[i]? = some x) (hv : Vis S.sc x) (ha : DE S e wa) (hd : (x == ("__debug__" : Str)) = false := by decide) (hcd : (x == ("__classdict__" : Str)) = false := by decide)
    (hb : ∀ env, attributeBase (.Name x p) "append" env (eval (.Name x p) env) = eval (.Name x p) env := by intro _; rfl) (hf : few cpos e := by intro _; rfl) (hl : (apos.endLine == cpos.line) = true := by rfl)
    (hs : ∀ env, starEach [e] env = (false, eval e env) :: starEach [] env := by intro _; rfl) (hp : ∀ env, (backTo cpos (starEach [] env)).any (·.1) = false := by intro _; rfl) :
    DE S (.Call (.Attribute (.Name x p) "append" apos) [e] [] cpos) (wApp i wa) := by
  obtain ⟨t, pa, s⟩ := ha
  refine ⟨tBM S.g.K "list" rAppend (tVar i) (tCons t tNil), fun c hc => pe_bm (X := S.g.cx c) PySem.F.plainAttrs_list PySem.F.slot_list_append PySem.F.type_list_append mt_append (vis_v hc hN hv hd hcd) (pa_cons (pa c hc) pa_nil (hs _)) (hb _) (hf _) hl (hs _) (hp _), ⟨fun Ex Ex' δ P P' hx h w => ?_, fun Ex F B H vs σ δ P Q hx h w k => ?_⟩⟩
  · exact w.imp fun _ w => s.mono _ _ _ _ _ hx (fun r δ1 w => w.imp fun p w => w.imp fun q w => ⟨w.1, h _ _ w.2⟩) w
  · obtain ⟨⟨b0, ds0⟩, e0, w⟩ := w
    have a0 := ownL_at e0
    obtain ⟨v, ev, a, rfl, hBF, xs, hx0, q0⟩ := h.ok i _ a0
    refine ⟨_, ev, .inl ⟨rfl, xs, SqL.of hx0⟩, ?_⟩
    refine s.run _ _ _ _ _ _ _ _ _ hx h w fun B1 H1 y r δ1 s1 h1 q1 w1 => ?_
    obtain ⟨⟨d, δ2⟩, e1, ⟨b, ds⟩, e2, hl2, w1⟩ := w1
    obtain ⟨B2, s2, h2, q2⟩ := frz_ok h1 q1 e1
    have a2 := ownL_at e2
    obtain ⟨a', ea, hBF2, ys, hy, qy⟩ := own_at h2 a2 ev
    cases ea
    refine ⟨a, ys, y, rfl, rfl, hy, by rw [qy.length]; exact hl2, ?_⟩
    exact k B2 _ .non (.d .none) _ (s1.trans s2) (h2.mutate (c' := .l (ds ++ [d])) a2 ev ⟨_, upd_same, qy.snoc q2⟩) .non w1
end
def putF (c : Cont) (k : PyData) (d : PyData) : Option Cont := match c with
  | .l ds => match k with
    | .int i => (ixN ds.length i).map fun j => .l (ds.set j d)
    | _ => none
  | .k kvs => if kvs.length < sizeLine then (keyD k).map fun kk => .k (putD kvs kk d) else none
  | _ => none
def ownC (δ : SEnv) (i : Nat) : Option (Bool × Cont) := match δ[i]? with
  | some (some (.o b c)) => some (b, c)
  | _ => none
theorem ownC_at {δ : SEnv} {i : Nat} {b : Bool} {c : Cont} (h : ownC δ i = some (b, c)) : δ[i]? = some (some (.o b c)) := by
  unfold ownC at h
  split at h
  · cases h; assumption
  · cases h
def wPut (i : Nat) (wi wv : WE) : WS := fun d δ => wv d.ex δ fun rv δ1 => ob (frz δ1 rv) fun p => ob (ownC p.2 i) fun _ => wi d.ex p.2 fun ri δ2 => ob (view δ2 ri) fun a => ob (dV a) fun dk => ob (ownC δ2 i) fun q => ob (putF q.2 dk p.1) fun c' => d.nx (δ2.set i (some (.o q.1 c')))
def rPut : TSet := fun o i v H Q => rSetL o i v H Q ∨ rSetD o i v H Q
theorem set_all {X : Cx} (hu : X.A.units + 1 < cLine) : PSet X rPut := by
  intro pins s σ H o i v ov iv u Q I ro ri rv h
  rcases h with h | h
  · exact set_list pins s σ H o i v ov iv u Q I ro ri rv h
  · exact set_dict hu pins s σ H o i v ov iv u Q I ro ri rv h
theorem ds_put {S : Sg} {i : Nat} {x : Str} {ie ve : Expr} {wi wv : WE} {p pos pos' : Pos} (hN : S.N[i]? = some x) (hv : Vis S.sc x) (hi : DE S ie wi) (hw : DE S ve wv) (hd : (x == ("__debug__" : Str)) = false := by decide) (hcd : (x == ("__classdict__" : Str)) = false := by decide)
    (hs : ∀ env, swapsWithSole [.Subscript (.Name x p) ie pos'] ve pos.line env = pure false := by intro _; rfl) (hws : ∀ env, swappedStores [.Subscript (.Name x p) ie pos'] ve env = pure none := by intro _; rfl)
    (hx : ∀ c, S.ok c → ∀ t ti, PE (S.g.cx c) (.Name x p) t → PE (S.g.cx c) ie ti → PG (S.g.cx c) (.Subscript (.Name x p) ie pos') (gSub t ti rPut) := by exact fun c hc t ti h1 h2 => pg_sub h1 h2 (set_all (hu_of hc.room))) :
    DS S (.Assign [.Subscript (.Name x p) ie pos'] ve pos) (wPut i wi wv) := by
  obtain ⟨ti, pi, si⟩ := hi
  obtain ⟨tv, pv, sv⟩ := hw
  refine ⟨tAsg tv (gSub (tVar i) ti rPut), fun c hc => ps_asg (pv c hc) (hx c hc _ _ (vis_v hc hN hv hd hcd) (pi c hc)) (hs _) (hws _), ⟨fun d d' δ h w => ?_, fun F B H vs σ δ D d hx h k w => ?_⟩⟩
  · refine sv.mono _ _ _ _ _ h.ex (fun r δ1 w => w.imp fun p w => w.imp fun _ w => ?_) w
    exact si.mono _ _ _ _ _ h.ex (fun r δ2 w => w.imp fun a w => w.imp fun dk w => w.imp fun q w => w.imp fun c' w => h.nx _ w) w
  · refine sv.run _ _ _ _ _ _ _ _ _ hx h w fun B1 H1 v rv δ1 s1 h1 q1 w1 => ?_
    obtain ⟨⟨dv, δ2⟩, e1, ⟨b0, c0⟩, e0, w1⟩ := w1
    obtain ⟨B2, s2, h2, q2⟩ := frz_ok h1 q1 e1
    obtain ⟨o, eo, p0, rfl, _⟩ := h2.ok i _ (ownC_at e0)
    refine ⟨_, eo, ?_⟩
    refine si.run _ _ _ _ _ _ _ _ _ (hx.up (s1.trans s2)) h2 w1 fun B3 H3 y ri δ3 s3 h3 q3 w3 => ?_
    obtain ⟨a, e2, dk, e3, ⟨b, c⟩, e4, c', e5, w3⟩ := w3
    have a4 := ownC_at e4
    obtain ⟨p1, ep, hBF, qc⟩ := own_at h3 a4 eo
    cases ep
    have ov := view_ok h3 q3 e2
    have q2' := q2.mono s3
    have s123 := (s1.trans s2).trans s3
    cases a with
    | d dk' =>
      cases e3
      cases c with
      | ot _ => simp only [putF] at e5; cases e5
      | al _ _ _ => simp only [putF] at e5; cases e5
      | tp _ => simp only [putF] at e5; cases e5
      | pt _ => simp only [putF] at e5; cases e5
      | fk _ _ => simp only [putF] at e5; cases e5
      | l ds =>
        obtain ⟨ys, hy, qy⟩ := qc
        simp only [putF] at e5
        split at e5
        · obtain ⟨j, e6, e5⟩ := Option.map_eq_some_iff.mp e5
          subst e5
          cases ov_int ov
          exact .inl ⟨p0, ys, _, j, rfl, rfl, hy, by rw [qy.length]; exact e6, k.nx B3 σ _ _ s123 (h3.mutate (c' := .l _) a4 eo ⟨_, upd_same, DDs.set q2' j qy⟩) w3⟩
        · cases e5
      | k kvs =>
        obtain ⟨ys, hy, qy⟩ := qc
        simp only [putF] at e5
        split at e5
        · rename_i hl
          obtain ⟨kk, e6, e5⟩ := Option.map_eq_some_iff.mp e5
          subst e5
          have ey : y = kV kk := by
            rcases ov with ov | ⟨_, _, _, _, z, _⟩
            · exact key_dd e6 ov
            · subst z; cases e6
          subst ey
          exact .inr ⟨p0, _, rfl, DPut.k hy (by rw [kds_length qy]; exact hl), k.nx B3 σ _ _ s123 (h3.mutate (c' := .k _) a4 eo ⟨_, upd_same, kds_put qy q2'⟩) w3⟩
        · cases e5
      | t kvs => cases e5
    | _ => cases e3
def strsD : List PyData → Option (List Str)
  | [] => some []
  | .str x :: ds => (strsD ds).map fun xs => x :: xs
  | _ => none
theorem strs_dd {B : Hp} : ∀ {ds : List PyData} {xs : List Str} {vs : List V}, strsD ds = some xs → DDs B vs ds → vs = xs.map V.str
  | [], _, _, e, q => by cases e; cases q; rfl
  | d :: ds, _, _, e, q => by
    cases q with
    | cons q1 q2 =>
      cases d with
      | str x =>
        simp only [strsD] at e
        obtain ⟨xs, e1, e⟩ := Option.map_eq_some_iff.mp e
        cases e; cases q1
        rw [strs_dd e1 q2]; rfl
      | _ => cases e
def joinF (a : Str) : PyData → Option Str
  | .list ds => (strsD ds).bind fun ys => if (ys.map (·.length)).sum + ys.length * a.length ≤ 16777216 then some (Txt.join a ys) else none
  | .tuple ds => (strsD ds).bind fun ys => if (ys.map (·.length)).sum + ys.length * a.length ≤ 16777216 then some (Txt.join a ys) else none
  | _ => none
def strV : Vw → Option Str
  | .d (.str x) => some x
  | _ => none
theorem strV_ok {K : PySem.W.Frag} {B H : Hp} {v : V} {w : Vw} {x : Str} (o : OV K B H v w) (e : strV w = some x) : v = .str x := by
  unfold strV at e
  split at e
  · cases e; exact ov_str o
  · cases e
def rJoin (K : PySem.W.Frag) : V → List V → Hp → VK → Prop := fun x xs H Q => ∃ a p, ∃ ys : List Str, x = .str a ∧ xs = [.ref p] ∧ (SqL K H p (ys.map V.str) ∨ SqT K H p (ys.map V.str)) ∧ (ys.map (·.length)).sum + ys.length * a.length ≤ 16777216 ∧ Q (.str (Txt.join a ys)) H
def wJoin (wo wa : WE) : WE := fun Ex δ P => wo Ex δ fun ro δ1 => ob (view δ1 ro) fun a => ob (strV a) fun x => wa Ex δ1 fun r δ2 => ob (view δ2 r) fun b => ob (dV b) fun d => ob (joinF x d) fun y => P (.d (.str y)) δ2
section
variable {S : Sg}
theorem de_join {o e : Expr} {wo wa : WE} {apos pos : Pos} (ho : DE S o wo) (ha : DE S e wa) (hs : ∀ env, starEach [e] env = [(false, eval e env)] := by intro _; rfl) (hb : ∀ env, attributeBase o "join" env (eval o env) = eval o env := by intro _; rfl) (hl : (apos.endLine == pos.line) = true := by rfl) :
    DE S (.Call (.Attribute o "join" apos) [e] [] pos) (wJoin wo wa) := by
  obtain ⟨to', po, so⟩ := ho
  obtain ⟨ta, pa, sa⟩ := ha
  refine ⟨tM1 (rJoin S.g.K) to' ta, fun c hc => pe_join (X := S.g.cx c) (po c hc) (pa c hc) (hs _) (hb _) hl, ⟨fun Ex Ex' δ P P' hx h w => ?_, fun Ex F B H vs σ δ P Q hx h w k => ?_⟩⟩
  · refine so.mono _ _ _ _ _ hx (fun ro δ1 w => w.imp fun a w => w.imp fun x w => ?_) w
    exact sa.mono _ _ _ _ _ hx (fun r δ2 w => w.imp fun b w => w.imp fun d w => w.imp fun y w => h _ _ w) w
  · refine so.run _ _ _ _ _ _ _ _ _ hx h w fun B1 H1 v ro δ1 s1 h1 q1 w1 => ?_
    obtain ⟨a, e1, x, e2, w1⟩ := w1
    cases strV_ok (view_ok h1 q1 e1) e2
    refine ⟨⟨x, rfl⟩, ?_⟩
    refine sa.run _ _ _ _ _ _ _ _ _ (hx.up s1) h1 w1 fun B2 H2 y r δ2 s2 h2 q2 w2 => ?_
    obtain ⟨b, e3, d, e4, z, e5, w2⟩ := w2
    have ov := view_ok h2 q2 e3
    cases b with
    | d d' =>
      cases e4
      unfold joinF at e5
      split at e5
      · obtain ⟨ys, e6, e5⟩ := Option.bind_eq_some_iff.mp e5
        split at e5
        · cases e5
          obtain ⟨p, xs, rfl, hp, qx⟩ := ov_lst h2.sb ov
          have ex := strs_dd e6 qx
          subst ex
          exact ⟨x, p, ys, rfl, rfl, .inl (.inl hp), by assumption, k B2 H2 _ (.d (.str _)) δ2 (s1.trans s2) h2 (.str _) w2⟩
        · cases e5
      · obtain ⟨ys, e6, e5⟩ := Option.bind_eq_some_iff.mp e5
        split at e5
        · cases e5
          obtain ⟨p, xs, rfl, hp, qx⟩ := ov_tup ov
          have ex := strs_dd e6 qx
          subst ex
          exact ⟨x, p, ys, rfl, rfl, .inr (.inl (PlT.mono h2.sb hp).rd), by assumption, k B2 H2 _ (.d (.str _)) δ2 (s1.trans s2) h2 (.str _) w2⟩
        · cases e5
      · cases e5
    | _ => cases e4
end
end DL
set_option Elab.async false
set_option linter.all false
set_option maxRecDepth 100000
set_option maxHeartbeats 4000000
set_option autoImplicit false
namespace DL
open PySem PySem.Spec PyProof.Rows L2
section
variable {S : Sg}
theorem ds_setLc {i : Nat} {y : Str} {py : Pos} {elt tg iter : Expr} {ifs : List Expr} {scope : Scope} {own : List (Str × Nat)} {pos spos : Pos} {wi : WI} {G : WG} {wt : WT} {we : WE} {ts : List Nat} (hCX : CXok S.CX) (hy : S.N[i]? = some y) (hyl : S.sc.names.lookup y = some .local) (hk : S.sc.kind = .function)
    (hln : (py.line == pos.line) = true) (hnn : (scope.names.any fun (n, k) => n == y && (k == .local || k == .cell)) = false)
    (hi : DI S tg iter wi) (hblk : blkC S.N S.sc scope own = true) (hg : DG (S.blk scope) tg G ts) (hts : ts.all (fun i => (own.map (·.2)).contains i) = true) (ht : DTs (S.blk scope) ifs wt) (he : DE (S.blk scope) elt we) (hs : ∀ env x, foldedSetIterable iter env x = pure x := by intro _ _; rfl) :
    DS S (.Assign [.Name y py] (.ListComp elt [⟨tg, iter, ifs, 0⟩] scope pos) spos) (wSet i (wLc wi G wt we (own.map (·.2)))) := by
  obtain ⟨ti, pi, si⟩ := hi
  obtain ⟨tg', pg, sg⟩ := hg
  obtain ⟨tt, pt, st⟩ := ht
  obtain ⟨te, pe, se⟩ := he
  have hts' : ∀ i ∈ ts, i ∈ own.map (·.2) := fun i hi => by
    have := List.all_eq_true.mp hts i hi
    simpa using this
  have sl := sim_lc si sg hts' st se
  refine ⟨tAsg (tLc ti tg' tt te (own.map (·.2))) (gName i), fun c hc => ?_, ⟨fun d d' δ h w => sl.mono _ _ _ _ _ h.ex (fun r δ1 w => w.imp fun δ2 w => h.nx _ w) w, fun F B H vs σ δ D d hx h k w => ?_⟩⟩
  · refine ps_setLc (X := S.g.cx c) hc.calm (by show c.N.Nodup; rw [hc.hN]; exact hc.nd) (by show c.N[i]? = _; rw [hc.hN]; exact hy) (by show c.env.scope.names.lookup y = _; rw [hc.hs]; exact hyl) (sw_true (by show c.env.scope.kind = _; rw [hc.hs]; exact hk) (by show c.env.scope.names.lookup y = _; rw [hc.hs]; exact hyl) hln hnn)
      (pi c hc) (by show BlkOk c.N c.env.scope scope own; rw [hc.hN, hc.hs]; exact blkOk_by hblk) (fun s H C cl fp => pg _ (blk_ok hCX hc s H C cl fp)) (fun s H C cl fp => pt _ (blk_ok hCX hc s H C cl fp)) (fun s H C cl fp => pe _ (blk_ok hCX hc s H C cl fp)) (hs _)
  · refine sl.run _ _ _ _ _ _ _ _ _ hx h w fun B1 H1 v r δ1 s1 h1 q1 w1 => ?_
    obtain ⟨δ2, e1, w1⟩ := w1
    obtain ⟨B2, s2, h2⟩ := asgn_ok h1 q1 e1
    exact k.nx B2 _ H1 δ2 (s1.trans s2) h2 w1
end
theorem adjust_back (n : Nat) : Builtin.Slice.sliceAdjust none none (-1) (n : Int) = ((n : Int) - 1, -1) := rfl
theorem places_back (n : Nat) : Builtin.Slice.slicePlaces ((n : Int) - 1) (-1) (-1) = n := by
  unfold Builtin.Slice.slicePlaces
  rw [if_neg (by decide)]
  by_cases h : n = 0
  · subst h; rfl
  · rw [if_pos (by omega)]
    have : ((n : Int) - 1 - -1 - 1) / (- -1) + 1 = n := by
      rw [show (- -1 : Int) = 1 by decide, Int.ediv_one]; omega
    rw [this]; rfl
section
variable {prog : Program} {w : World} {A : Around} {E : Value → Shared → Prop} {s : Shared}
theorem sliced_back {sl : Addr} {vk : Value} {n : Nat} {Q : Int × Int × Nat → Shared → Prop} (hs : s.heap.IsSliceOf sl .none .none vk) (pk : IsPart vk (some (-1)))
    (h : Q ((n : Int) - 1, -1, n) s) : wpAny (model prog w) A (Builtin.Slice.sliceApplied (.ref sl) (pure (n : Int))) Q E s := by
  obtain ⟨os, hos, hcs, hds⟩ := id hs
  unfold Builtin.Slice.sliceApplied Builtin.Slice.sliceFields
  refine wpAny_bind (wpAny_bind (wpAny_field hos hds (x := .none) rfl (wpAny_bind (wpAny_field hos hds (x := .none) rfl (wpAny_bind (wpAny_field hos hds (x := vk) rfl (wpAny_pure ?_)))))))
  refine wpAny_bind (HT.slicePart_ pk ?_)
  show wpAny _ _ (if ((-1 : Int) == 0) = true then _ else _) _ _ s
  rw [if_neg (by decide)]
  refine wpAny_bind (HT.slicePart_ .none (wpAny_bind (HT.slicePart_ .none (wpAny_bind (wpAny_pure ?_)))))
  show wpAny _ _ (match Builtin.Slice.sliceAdjust none none (-1) (n : Int) with | (lo, hi) => pure (lo, (-1 : Int), Builtin.Slice.slicePlaces lo hi (-1))) _ _ s
  rw [adjust_back n]
  show wpAny _ _ (pure ((n : Int) - 1, (-1 : Int), Builtin.Slice.slicePlaces ((n : Int) - 1) (-1) (-1))) _ _ s
  rw [places_back]
  exact wpAny_pure h
theorem fm_map {α β : Type} {f : α → Option β} {g : α → β} : ∀ {l : List α}, (∀ m ∈ l, f m = some (g m)) → l.filterMap f = l.map g
  | [], _ => rfl
  | a :: l, h => by
    rw [List.filterMap_cons, h a (List.mem_cons_self ..), List.map_cons, fm_map fun m hm => h m (List.mem_cons_of_mem _ hm)]
theorem pick_back (xs : List Value) : (((List.range xs.length).filterMap fun (m : Nat) => xs.toArray[(((xs.length : Nat) : Int) - 1 + (m : Int) * (-1)).toNat]?)) = xs.reverse := by
  refine List.ext_getElem? fun j => ?_
  have e : ((List.range xs.length).filterMap fun (m : Nat) => xs.toArray[(((xs.length : Nat) : Int) - 1 + (m : Int) * (-1)).toNat]?) = (List.range xs.length).map fun m => xs[xs.length - 1 - m]?.getD .none := by
    refine fm_map fun m hm => ?_
    have hm := List.mem_range.mp hm
    have e1 : (((xs.length : Nat) : Int) - 1 + (m : Int) * (-1)).toNat = xs.length - 1 - m := by omega
    rw [e1, List.getElem?_toArray, List.getElem?_eq_getElem (by omega)]
    rfl
  rw [e, List.getElem?_map]
  by_cases hj : j < xs.length
  · rw [List.getElem?_range hj, List.getElem?_reverse hj, Option.map_some, List.getElem?_eq_getElem (by omega)]
    rfl
  · rw [List.getElem?_eq_none (by rw [List.length_range]; omega), List.getElem?_eq_none (by rw [List.length_reverse]; omega)]
    rfl
theorem getItem_tuple_back {t sl : Addr} {items : List Value} {vk : Value} {Q : Value → Shared → Prop} (ht : IsTup s.heap t items.toArray) (hs : s.heap.IsSliceOf sl .none .none vk) (pk : IsPart vk (some (-1)))
    (h : Q (.ref s.heap.objs.size) { s with heap := s.heap.push { cls := .type "tuple", data := .seq items.reverse.toArray } })
    (hsz : items.length ≤ sizeLine) : wpAny (model prog w) A (getItem (.ref t) (.ref sl)) Q E s := by
  have htake : sizeOk (.seq items.reverse.toArray) := by
    show items.reverse.toArray.size ≤ sizeLine
    rw [List.size_toArray, List.length_reverse]
    exact hsz
  obtain ⟨os, hos, hcs, hds⟩ := id hs
  have hTs : s.TypeIs (.ref sl) "slice" := ⟨os, hos, hcs⟩
  unfold getItem
  try with_reducible refine wpAny_holding ?_
  first | refine wpAny_bind (wpAny_pure ?_) | skip
  refine wpAny_bind (wpAny_sequenceKey ht.typeIs (by decide) ?_)
  refine wpAny_bind (wpAny_callSpecial?_slot (name := Str.ofString "__getitem__") ht.typeIs PyProof.Rows.slot_tuple_getitem
    (wpAny_call_entry PyProof.Rows.slot_tuple_getitem ht.typeIs entry_tuple_getitem ?_ (args_tuple_getitem _ _)))
  show wpAny _ _ (Builtin.Tuple.tupleItemsOf (.ref t) >>= _) _ _ s
  refine wpAny_bind (PyProof.Rows.tupleItemsOf_ ht ?_)
  refine wpAny_bind (wpAny_typeOf hTs ?_)
  rw [if_pos (by decide)]
  refine wpAny_bind (sliced_back (n := items.toArray.size) hs pk ?_)
  have hno : ¬ ((((items.toArray.size : Int) - 1) == 0 && (-1 : Int) == 1 && items.toArray.size == items.toArray.size) = true) := by
    intro q
    rw [Bool.and_eq_true, Bool.and_eq_true] at q
    exact absurd q.1.2 (by decide)
  show wpAny _ _ (if (((items.toArray.size : Int) - 1) == 0 && (-1 : Int) == 1 && items.toArray.size == items.toArray.size) = true then _ else _) _ _ s
  rw [if_neg hno]
  have hp : ((List.range items.toArray.size).filterMap fun (m : Nat) => items.toArray[((items.toArray.size : Int) - 1 + (m : Int) * (-1)).toNat]?).toArray = items.reverse.toArray := by
    rw [List.size_toArray, pick_back]
  rw [hp]
  first
    | exact wpAny_bind (m := Builtin.Tuple.tupleExact _) (wpAny_newObj_type (wpAny_pure ⟨_, rfl, wpAny_pure h⟩) htake)
    | exact wpAny_bind (m := Builtin.Tuple.tupleExact _) (wpAny_newObj_type (wpAny_bind (wpAny_pure (wpAny_pure ⟨_, rfl, wpAny_pure h⟩))) htake)
    | exact wpAny_bind (wpAny_bind (m := Builtin.Tuple.tupleExact _) (wpAny_newObj_type (wpAny_pure (wpAny_pure ⟨_, rfl, wpAny_pure h⟩)) htake))
    | exact wpAny_bind (wpAny_bind (m := Builtin.Tuple.tupleExact _) (wpAny_newObj_type (wpAny_pure ⟨_, rfl, wpAny_pure h⟩) htake))
end
def revF : Vw → Option Rv
  | .d (.list ds) => some (.lst ds.reverse)
  | .d (.tuple ds) => some (.tup ds.reverse)
  | _ => none
def rRev (K : PySem.W.Frag) : V → Hp → VK → Prop := fun x H Q => ∃ B a rv, Same B H ∧ OV K B H x a ∧ revF a = some rv ∧ RvK B H Q rv
def tRv (K : PySem.W.Frag) (te : TE) : TE := fun σ H Q => te σ H fun x H1 => rRev K x H1 Q
theorem pe_rv {X : Cx} {e : Expr} {te : TE} {k : Nat} {p1 p2 p3 pos : Pos} (he : PE X e te) : PE X (.Subscript e (.Slice none none (some (.UnaryOp .USub (.Constant (.int 1) k p1) p2)) p3) pos) (tRv X.K te) := by
  refine ⟨fun pins s σ H Q I h => ?_⟩
  refine Subscript_ (thn (he.run pins s σ H _ I h) fun v s1 ⟨x, H1, I1, rx, q1⟩ => ?_)
  have hst : PO X (some (.UnaryOp .USub (.Constant (.int 1) k p1) p2)) (tPart (tUn (rU fun i => .int (-i)) (tC (.int 1)))) := po_some (pe_un un_neg pe_int)
  refine wpAny_Slice (thn (po_none.run pins s1 σ H1 (fun o H2 => o = none ∧ H2 = H1) I1 ⟨rfl, rfl⟩) fun vl s2 ⟨l, H2, I2, pl, el, e2⟩ => ?_)
  subst el e2
  refine thn (po_none.run pins s2 σ H2 (fun o H3 => o = none ∧ H3 = H2) I2 ⟨rfl, rfl⟩) fun vu s3 ⟨u, H3, I3, pu, eu, e3⟩ => ?_
  subst eu e3
  refine thn (hst.run pins s3 σ H3 (fun o H4 => o = some (-1) ∧ H4 = H3) I3 ⟨1, rfl, -1, rfl, rfl, rfl⟩) fun vs s4 ⟨o, H4, I4, ps, eo, e4⟩ => ?_
  subst eo e4
  have I5 : Inv X pins σ H4 { s4 with heap := s4.heap.push { cls := .type "slice", data := .fields #[vl, vu, vs] } } := I4.kept (t' := s4.toks) fun b ob q => Heap.get?_push_of_some _ q
  show wpAny (model X.prog X.w) X.A (subscriptTail e (.Slice none none (some (.UnaryOp .USub (.Constant (.int 1) k p1) p2)) p3) v (.ref s4.heap.objs.size)) (EP X pins σ Q) X.xe { s4 with heap := s4.heap.push { cls := .type "slice", data := .fields #[vl, vu, vs] } }
  obtain ⟨B, a, rv, sB, oa, er, kk⟩ := q1
  unfold revF at er
  split at er
  · cases er
    obtain ⟨p, xs, rfl, hp, qx⟩ := ov_lst sB oa
    cases rx
    obtain ⟨its, r, ht, hz⟩ := I5.list (a := p) (.inl hp)
    have hlen := r.length
    refine tail_any (ops := [.ref _, .ref s4.heap.objs.size]) ht.isList.typeIs (PySem.slot_list_getitem.lookup) ?_ (by with_unfolding_all rfl)
    refine wpAny_getItem_list_slice ht.isList (Heap.IsSliceOf.new _ vl vu vs) pl pu ps (by decide) ?_ (by rw [List.size_toArray]; omega)
    rw [PySem.W.krv_pick]
    refine ⟨.ref _, _, I5.laid (t' := s4.toks) (o := .lst xs.reverse) (fun b ob q => Heap.get?_push_of_some _ q) (Nat.le_refl _) ?_, rfl, kk _ _ (I5.hok.fresh (Nat.le_refl _)) qx.reverse⟩
    exact ⟨by rw [List.length_reverse]; exact hz, _, 0, r.reverse, Heap.get?_push_size _ rfl⟩
  · cases er
    obtain ⟨p, xs, rfl, hp, qx⟩ := ov_tup oa
    cases rx
    obtain ⟨its, r, ht, hz⟩ := I5.tuple (.inl (PlT.mono sB hp).rd)
    have hlen := r.length
    refine tail_any (ops := [.ref _, .ref s4.heap.objs.size]) ht.typeIs (PyProof.Rows.slot_tuple_getitem.lookup) ?_ (by with_unfolding_all rfl)
    cases pl; cases pu
    refine getItem_tuple_back ht (Heap.IsSliceOf.new ..) ps ?_ (by omega)
    refine ⟨.ref _, _, I5.laid (t' := s4.toks) (o := .frz _ (.tup xs.reverse)) (fun b ob q => Heap.get?_push_of_some _ q) (Nat.le_refl _) ⟨Heap.get?_push_size _ rfl, (show ObjOk X.prog X.w _ _ _ (.tup xs.reverse) from ?_)⟩, rfl, kk.2 _ _ _ (I5.hok.fresh (Nat.le_refl _)) rfl rfl qx.reverse⟩
    exact ⟨by rw [List.length_reverse]; exact hz, _, r.reverse, IsTup.new _ _⟩
  · cases er
def wRev (wa : WE) : WE := fun Ex δ P => wa Ex δ fun ra δ1 => ob (view δ1 ra) fun a => ob (revF a) fun rv => P rv.r δ1
section
variable {S : Sg}
theorem de_rev {a : Expr} {wa : WE} {k : Nat} {p1 p2 p3 pos : Pos} (ha : DE S a wa) : DE S (.Subscript a (.Slice none none (some (.UnaryOp .USub (.Constant (.int 1) k p1) p2)) p3) pos) (wRev wa) := by
  obtain ⟨ta, pa, sa⟩ := ha
  refine ⟨tRv S.g.K ta, fun c hc => pe_rv (X := S.g.cx c) (pa c hc), ⟨fun Ex Ex' δ P P' hx h w => ?_, fun Ex F B H vs σ δ P Q hx h w k => ?_⟩⟩
  · exact sa.mono _ _ _ _ _ hx (fun r δ1 w => w.imp fun a w => w.imp fun rv w => h _ _ w) w
  · refine sa.run _ _ _ _ _ _ _ _ _ hx h w fun B1 H1 x ra δ1 s1 h1 q1 w1 => ?_
    obtain ⟨a, e1, rv, e2, w1⟩ := w1
    exact ⟨B1, a, rv, h1.sb, view_ok h1 q1 e1, e2, rvk_ok s1 h1 w1 k⟩
end
end DL
set_option Elab.async false
set_option linter.all false
set_option maxRecDepth 100000
set_option maxHeartbeats 4000000
set_option autoImplicit false
namespace DL
open PySem PySem.Spec PyProof.Rows L2
def Cal (g : Gx) (CX : CXT) (k : Nat) (x : Str) (ps : List Str) (W : FSpec) : Prop :=
  ∃ (f : Addr) (fd : FuncData), FnG g CX k f fd ps (spOf g.K ps.length W) ∧ g.mg x = some (.ref f) ∧ PySem.W.keepIn g.K (.ref f) = true ∧ Binds g.K fd ps []
theorem Cal.mono {g : Gx} {CX : CXT} {j k : Nat} {x : Str} {ps : List Str} {W : FSpec} (h : Cal g CX j x ps W) (l : j ≤ k) : Cal g CX k x ps W := by
  obtain ⟨f, fd, F, m, q, b⟩ := h
  exact ⟨f, fd, F.mono l, m, q, b⟩
theorem Cal.imp {g : Gx} {CX : CXT} {k : Nat} {x : Str} {ps : List Str} {W W' : FSpec} (h : Cal g CX k x ps W) (l : ∀ ss Ex P, W' ss Ex P → W ss Ex P) : Cal g CX k x ps W' := by
  obtain ⟨f, fd, F, m, q, b⟩ := h
  exact ⟨f, fd, spOf_imp F l, m, q, b⟩
section
variable {S : Sg}
theorem de_cal {n : Nat} {W : FSpec} {ms : List Bool} {wr : WA} {x : Str} {ps : List Str} {p pos : Pos} {e : Expr} {es : List Expr} (h : Cal S.g S.CX S.k x ps W) (hW : FMono W) (hg : GlS S.sc x) (ha : DA S (e :: es) wr)
    (hs : ∀ env, starEach (e :: es) env = (false, eval e env) :: starEach es env := by intro _; rfl) (hpl : ∀ env, (backTo pos (starEach es env)).any (·.1) = false := by intro _; rfl) (hdb : (x == ("__debug__" : Str)) = false := by decide) (hn : ps.length = n := by rfl) :
    DE S (.Call (.Name x p) (e :: es) [] pos) (wCall n W ms wr) := by
  subst hn
  obtain ⟨f, fd, F, m, q, b⟩ := h
  exact de_call hW F (Nat.le_refl _) hg m q b ha hs hpl hdb
end
def Ct (pre : List Sl → Prop) (post : List Sl → R → List Sl → Prop) : FSpec := fun ss _ P => pre ss ∧ ∀ r ss', post ss r ss' → P r ss'
theorem ct_mono {pre : List Sl → Prop} {post : List Sl → R → List Sl → Prop} : FMono (Ct pre post) := fun ss Ex Ex' P P' _ hp ⟨h1, h2⟩ => ⟨h1, fun r ss' q => hp _ _ (h2 r ss' q)⟩
def Got (g : Gx) (x : Str) (st : Stmt) : Prop := ∃ (f : Addr) (fd : FuncData), g.mg x = some (.ref f) ∧ Fun g.K x x st f fd
/-- nothing is asked, nothing is promised -/
theorem cal_void {g : Gx} {CX : CXT} {k : Nat} {x : Str} {st : Stmt} {ps : List Str} {W : FSpec} (h : Got g x st) (bd : ∀ f fd, Fun g.K x x st f fd → Binds g.K fd ps []) (no : ∀ ss Ex P, ¬ W ss Ex P) : Cal g CX k x ps W := by
  obtain ⟨f, fd, m, F⟩ := h
  refine ⟨f, fd, ⟨fun vs H Q E ⟨_, _, _, ss, Ex, P, _, _, w, _⟩ => absurd w (no ss Ex P), fun A outer sh H args us vs Q E _ _ _ _ _ ⟨_, _, _, ss, Ex, P, _, _, w, _⟩ => absurd w (no ss Ex P)⟩, m, F.kp, bd f fd F⟩
theorem got_mk {P : Program} {w : World} {K : PySem.W.Frag} {mg : Str → Option Value} {base h : Heap} (X : K.In h) (G : h.Ns mainGlobals mg) {x : Str} {st : Stmt} {f : Addr} {oc : Value} {od an : Option Addr} {osl : Array (Option Value)} {kV doc pm cdv ct : Value}
    (a : PySem.W.nsIn K mainGlobals x = some (some (.ref f))) (l : K.lookup f = some ⟨oc, od, .func (PySem.W.fnOf x x (defArgs st) (defBody st) (defScope st) .none kV doc pm an cdv ct), osl⟩)
    (c : PySem.W.codeIn K cdv x = true) (k : PySem.W.keepIn K (.ref f) = true) : Got ⟨P, w, K, mg, base⟩ x st := ⟨f, _, PySem.W.mg_of X G a, fun_mk l c k⟩
end DL
set_option Elab.async false
set_option linter.all false
set_option maxRecDepth 100000
set_option maxHeartbeats 4000000
set_option autoImplicit false
set_option exponentiation.threshold 4000
namespace DL
open PySem PySem.Spec PyProof.Rows L2
mutual
def intsB (N : Nat) : PyData → Bool
  | .none | .bool _ | .str _ => true
  | .int i => decide (i.natAbs ≤ N)
  | .list xs | .tuple xs => intsBs N xs
  | .dict _ => false
def intsBs (N : Nat) : List PyData → Bool
  | [] => true
  | x :: xs => intsB N x && intsBs N xs
end
structure Nd (N D : Nat) (d : PyData) : Prop where
  lay : d.canLay0 = true
  nums : intsB N d = true
  dep : d.depth ≤ D
def Nds (N D : Nat) (xs : List PyData) : Prop := ∀ x ∈ xs, Nd N D x
theorem lay_all : ∀ {xs : List PyData}, PyData.canLayAll0 xs = true ↔ ∀ x ∈ xs, x.canLay0 = true
  | [] => by simp [PyData.canLayAll0]
  | x :: xs => by simp [PyData.canLayAll0, lay_all (xs := xs)]
theorem ints_all {N : Nat} : ∀ {xs : List PyData}, intsBs N xs = true ↔ ∀ x ∈ xs, intsB N x = true
  | [] => by simp [intsBs]
  | x :: xs => by simp [intsBs, ints_all (xs := xs)]
theorem dep_all {D : Nat} : ∀ {xs : List PyData}, PyData.depthAll xs ≤ D ↔ ∀ x ∈ xs, x.depth ≤ D
  | [] => by simp [PyData.depthAll]
  | x :: xs => by simp [PyData.depthAll, dep_all (xs := xs), Nat.max_le]
section
variable {N D : Nat}
theorem nd_none : Nd N D .none := ⟨rfl, rfl, Nat.zero_le _⟩
theorem nd_bool {b : Bool} : Nd N D (.bool b) := ⟨rfl, rfl, Nat.zero_le _⟩
theorem nd_int {i : Int} (h : i.natAbs ≤ N) : Nd N D (.int i) := ⟨rfl, by simp [intsB, h], Nat.zero_le _⟩
theorem nd_str {x : Str} (h : PyData.strOk x = true) : Nd N D (.str x) := ⟨by simp [PyData.canLay0, h], rfl, Nat.zero_le _⟩
theorem nd_tup {xs : List PyData} (h : Nds N D xs) : Nd N (D + 1) (.tuple xs) :=
  ⟨by simp only [PyData.canLay0]; exact lay_all.mpr fun x m => (h x m).lay, by simp only [intsB]; exact ints_all.mpr fun x m => (h x m).nums, by simp only [PyData.depth]; exact Nat.succ_le_succ (dep_all.mpr fun x m => (h x m).dep)⟩
theorem nd_lst {xs : List PyData} (h : Nds N D xs) : Nd N (D + 1) (.list xs) :=
  ⟨by simp only [PyData.canLay0]; exact lay_all.mpr fun x m => (h x m).lay, by simp only [intsB]; exact ints_all.mpr fun x m => (h x m).nums, by simp only [PyData.depth]; exact Nat.succ_le_succ (dep_all.mpr fun x m => (h x m).dep)⟩
theorem Nd.tup {xs : List PyData} (h : Nd N (D + 1) (.tuple xs)) : Nds N D xs := fun x m =>
  ⟨lay_all.mp (by simpa only [PyData.canLay0] using h.lay) x m, ints_all.mp (by simpa only [intsB] using h.nums) x m, dep_all.mp (Nat.le_of_succ_le_succ (by simpa only [PyData.depth] using h.dep)) x m⟩
theorem Nd.lst {xs : List PyData} (h : Nd N (D + 1) (.list xs)) : Nds N D xs := fun x m =>
  ⟨lay_all.mp (by simpa only [PyData.canLay0] using h.lay) x m, ints_all.mp (by simpa only [intsB] using h.nums) x m, dep_all.mp (Nat.le_of_succ_le_succ (by simpa only [PyData.depth] using h.dep)) x m⟩
theorem Nd.pos {xs : List PyData} (h : Nd N D (.tuple xs)) : ∃ D', D = D' + 1 := by
  have := h.dep
  simp only [PyData.depth] at this
  exact ⟨D - 1, by omega⟩
theorem Nd.int {i : Int} (h : Nd N D (.int i)) : i.natAbs ≤ N := by simpa [intsB] using h.nums
theorem Nd.str {x : Str} (h : Nd N D (.str x)) : PyData.strOk x = true := by simpa [PyData.canLay0] using h.lay
mutual
theorem intsB_mono {N' : Nat} (h : N ≤ N') : ∀ d : PyData, intsB N d = true → intsB N' d = true
  | .none, _ => rfl
  | .bool _, _ => rfl
  | .str _, _ => rfl
  | .int i, e => by simp only [intsB, decide_eq_true_eq] at *; omega
  | .list xs, e => by simp only [intsB] at *; exact intsBs_mono h xs e
  | .tuple xs, e => by simp only [intsB] at *; exact intsBs_mono h xs e
  | .dict _, e => by simp [intsB] at e
theorem intsBs_mono {N' : Nat} (h : N ≤ N') : ∀ xs : List PyData, intsBs N xs = true → intsBs N' xs = true
  | [], _ => rfl
  | x :: xs, e => by
    simp only [intsBs, Bool.and_eq_true] at *
    exact ⟨intsB_mono h x e.1, intsBs_mono h xs e.2⟩
end
theorem Nd.mono {N' D' : Nat} {d : PyData} (h : Nd N D d) (h1 : N ≤ N') (h2 : D ≤ D') : Nd N' D' d := ⟨h.lay, intsB_mono h1 d h.nums, Nat.le_trans h.dep h2⟩
theorem Nds.mono {N' D' : Nat} {xs : List PyData} (h : Nds N D xs) (h1 : N ≤ N') (h2 : D ≤ D') : Nds N' D' xs := fun x m => (h x m).mono h1 h2
theorem nds_nil : Nds N D [] := fun _ m => by cases m
theorem nds_cons {x : PyData} {xs : List PyData} (h : Nd N D x) (r : Nds N D xs) : Nds N D (x :: xs) := fun y m => by
  rcases List.mem_cons.mp m with rfl | m
  · exact h
  · exact r y m
theorem Nds.append {xs ys : List PyData} (h : Nds N D xs) (r : Nds N D ys) : Nds N D (xs ++ ys) := fun y m => (List.mem_append.mp m).elim (h y) (r y)
theorem nd_shaped {d : PyData} (h : Nd N D d) (hD : D ≤ 64) : SeqAt.shaped d = true := by
  unfold SeqAt.shaped
  rw [h.lay, Bool.true_and]
  exact decide_eq_true (Nat.le_trans h.dep hD)
end
theorem log_lt {a : Nat} (h : a < 2 ^ 1920) : a.log2 < 1920 := by
  by_cases h0 : a = 0
  · subst h0; decide
  · exact (Nat.log2_lt h0).mpr h
mutual
theorem intsB_show {N : Nat} (h : N < 2 ^ 1920) : ∀ d : PyData, d.canLay0 = true → intsB N d = true → d.showable = true ∧ d.hasDict = false
  | .none, _, _ => ⟨rfl, rfl⟩
  | .bool _, _, _ => ⟨rfl, rfl⟩
  | .str _, _, _ => ⟨rfl, rfl⟩
  | .int i, _, e => by
    simp only [intsB, decide_eq_true_eq] at e
    exact ⟨by simp only [PyData.showable, decide_eq_true_eq]; exact log_lt (by omega), rfl⟩
  | .list xs, l, e => by simp only [intsB, PyData.canLay0, PyData.showable, PyData.hasDict] at *; exact intsBs_show h xs l e
  | .tuple xs, l, e => by simp only [intsB, PyData.canLay0, PyData.showable, PyData.hasDict] at *; exact intsBs_show h xs l e
  | .dict _, _, e => by simp [intsB] at e
theorem intsBs_show {N : Nat} (h : N < 2 ^ 1920) : ∀ xs : List PyData, PyData.canLayAll0 xs = true → intsBs N xs = true → PyData.showableAll xs = true ∧ PyData.hasDictAll xs = false
  | [], _, _ => ⟨rfl, rfl⟩
  | x :: xs, l, e => by
    simp only [intsBs, PyData.canLayAll0, PyData.showableAll, PyData.hasDictAll, Bool.and_eq_true, Bool.or_eq_false_iff] at *
    have a := intsB_show h x l.1 e.1
    have b := intsBs_show h xs l.2 e.2
    exact ⟨⟨a.1, b.1⟩, a.2, b.2⟩
end
theorem int_shown {i : Int} {k : Nat} (hk : 0 < k) (h : i.natAbs < 10 ^ k) : (PyData.shown (.int i)).length ≤ k + 1 := by
  have := int_text_length_le10 hk h
  simp only [PyData.shown]
  rw [PySem.ofString_length]
  exact this
mutual
theorem leaves_short {N k : Nat} (hk : 0 < k) (h : N < 10 ^ k) : ∀ d : PyData, d.canLay0 = true → intsB N d = true → d.leavesShort (k + 1) = true
  | .none, _, _ => rfl
  | .bool _, _, _ => rfl
  | .str x, l, _ => PyData.leavesShort_of_canLay0 (k + 1) (.str x) l rfl
  | .int i, _, e => by
    simp only [intsB, decide_eq_true_eq] at e
    simp only [PyData.leavesShort, decide_eq_true_eq]
    exact int_shown hk (by omega)
  | .list xs, l, e => by simp only [intsB, PyData.canLay0, PyData.leavesShort] at *; exact leaves_shorts hk h xs l e
  | .tuple xs, l, e => by simp only [intsB, PyData.canLay0, PyData.leavesShort] at *; exact leaves_shorts hk h xs l e
  | .dict _, _, e => by simp [intsB] at e
theorem leaves_shorts {N k : Nat} (hk : 0 < k) (h : N < 10 ^ k) : ∀ xs : List PyData, PyData.canLayAll0 xs = true → intsBs N xs = true → PyData.leavesShortAll (k + 1) xs = true
  | [], _, _ => rfl
  | x :: xs, l, e => by
    simp only [intsBs, PyData.canLayAll0, PyData.leavesShortAll, Bool.and_eq_true] at *
    exact ⟨leaves_short hk h x l.1 e.1, leaves_shorts hk h xs l.2 e.2⟩
end
theorem ten_two : (10 : Nat) ^ 200 < 2 ^ 1920 := by
  refine Nat.lt_of_lt_of_le (Nat.pow_lt_pow_left (by decide : 10 < 16) (by decide)) ?_
  rw [show (16 : Nat) = 2 ^ 4 from rfl, ← Nat.pow_mul]
  exact Nat.pow_le_pow_right (by decide) (by decide)
theorem nd_show {N D b : Nat} {d : PyData} (h : Nd N D d) (hN : N < 10 ^ 200) (hD : D ≤ 60) (hb : d.bulk ≤ b) (hb2 : b ≤ 80000) : showOk d = true := by
  have h1 := intsB_show (N := N) (Nat.lt_trans hN ten_two) d h.lay h.nums
  have h2 := PyData.shown_le_bulk 201 (by decide) d (leaves_short (by decide) hN d h.lay h.nums)
  have h3 : d.shown.length ≤ sizeLine := by
    have e : sizeLine = 16777216 := by decide
    have e2 : (201 + 2) * d.bulk ≤ 203 * 80000 := Nat.mul_le_mul (by decide) (by omega)
    omega
  unfold showOk
  rw [h1.1, h1.2, decide_eq_true h3, decide_eq_true (Nat.le_trans h.dep hD)]
  rfl
theorem bulk_app : ∀ xs ys : List PyData, PyData.bulkAll (xs ++ ys) = PyData.bulkAll xs + PyData.bulkAll ys
  | [], ys => by simp [PyData.bulkAll]
  | x :: xs, ys => by simp only [List.cons_append, PyData.bulkAll, bulk_app xs ys]; omega
theorem bulk_mem : ∀ {xs : List PyData} {x : PyData}, x ∈ xs → x.bulk + 1 ≤ PyData.bulkAll xs
  | [], _, m => by cases m
  | y :: xs, x, m => by
    rcases List.mem_cons.mp m with rfl | m
    · simp only [PyData.bulkAll]; omega
    · have := bulk_mem m; simp only [PyData.bulkAll]; omega
theorem bulk_len : ∀ xs : List PyData, xs.length ≤ PyData.bulkAll xs
  | [] => Nat.zero_le _
  | x :: xs => by have := bulk_len xs; simp only [PyData.bulkAll, List.length_cons]; omega
theorem bulk_rev : ∀ xs : List PyData, PyData.bulkAll xs.reverse = PyData.bulkAll xs
  | [] => rfl
  | x :: xs => by rw [List.reverse_cons, bulk_app, bulk_rev xs]; simp only [PyData.bulkAll]; omega
theorem bulk_take (k : Nat) (xs : List PyData) : PyData.bulkAll (xs.take k) ≤ PyData.bulkAll xs := by
  have := bulk_app (xs.take k) (xs.drop k)
  rw [List.take_append_drop] at this
  omega
theorem bulk_drop (k : Nat) (xs : List PyData) : PyData.bulkAll (xs.drop k) ≤ PyData.bulkAll xs := by
  have := bulk_app (xs.take k) (xs.drop k)
  rw [List.take_append_drop] at this
  omega
theorem bulk_cut (xs : List PyData) (lo hi : Option Int) : PyData.bulkAll (cutL xs lo hi) ≤ PyData.bulkAll xs := Nat.le_trans (bulk_take _ _) (bulk_drop _ _)
theorem cut_mem {α : Type} {xs : List α} {lo hi : Option Int} {x : α} (h : x ∈ cutL xs lo hi) : x ∈ xs := List.mem_of_mem_drop (List.mem_of_mem_take h)
end DL
set_option Elab.async false
set_option linter.all false
set_option maxRecDepth 100000
set_option maxHeartbeats 4000000
set_option autoImplicit false
namespace DL
open PySem PySem.Spec PyProof.Rows L2
theorem ifT {c : Bool} {A B : Prop} (h : c = true) (a : A) : if c = true then A else B := by rw [if_pos h]; exact a
theorem ifF {c : Bool} {A B : Prop} (h : c = false) (b : B) : if c = true then A else B := by rw [if_neg (by rw [h]; decide)]; exact b
theorem lc_inv {G : WG} {wt : WT} {we : WE} {own : List Nat} {ds : List PyData} {P : List PyData → SEnv → Prop} (I : List PyData → List PyData → SEnv → Prop) (fin : ∀ acc δ, I ds acc δ → P acc δ)
    (step : ∀ (pre : List PyData) (x : PyData) (post acc : List PyData) (δ : SEnv) (Q : List PyData → SEnv → Prop), ds = pre ++ x :: post → I pre acc δ → (∀ acc' δ', I (pre ++ [x]) acc' δ' → Q acc' δ') →
      ob (G x (forgetAll δ own)) fun δ1 => wt Ex0 δ1 fun b δ2 => if b = true then we Ex0 δ2 fun r δ3 => ob (frz δ3 r) fun p => acc.length < sizeLine ∧ Q (acc ++ [p.1]) p.2 else Q acc δ2) :
    ∀ {δ : SEnv}, I [] [] δ → wLcR G wt we own ds [] δ P := by
  have go : ∀ (post pre acc : List PyData) (δ : SEnv), ds = pre ++ post → I pre acc δ → wLcR G wt we own post acc δ P := by
    intro post
    induction post with
    | nil =>
      intro pre acc δ e h
      rw [List.append_nil] at e
      subst e
      exact fin _ _ h
    | cons x post ih =>
      intro pre acc δ e h
      exact step pre x post acc δ (fun acc' δ' => wLcR G wt we own post acc' δ' P) e h fun acc' δ' h' => ih (pre ++ [x]) acc' δ' (by rw [e, List.append_assoc]; rfl) h'
  intro δ h
  exact go ds [] [] δ rfl h
/-- a list by a pure rule: those that are kept, each as it is written -/
theorem lc_pure {G : WG} {wt : WT} {we : WE} {own : List Nat} {ds : List PyData} {P : List PyData → SEnv → Prop} {δ δf : SEnv} (p : PyData → Bool) (f : PyData → PyData) (h0 : forgetAll δ own = δf) (hl : ds.length ≤ sizeLine)
    (step : ∀ x ∈ ds, ∀ (Q : R → SEnv → Prop) (Q' : SEnv → Prop), (p x = true → ∀ δ1, forgetAll δ1 own = δf → Q (.d (f x)) δ1) → (p x = false → ∀ δ1, forgetAll δ1 own = δf → Q' δ1) →
      ob (G x δf) fun δ1 => wt Ex0 δ1 fun b δ2 => if b = true then we Ex0 δ2 Q else Q' δ2)
    (k : ∀ δ', forgetAll δ' own = δf → P ((ds.filter p).map f) δ') : wLcR G wt we own ds [] δ P := by
  refine lc_inv (fun pre acc δ => acc = (pre.filter p).map f ∧ forgetAll δ own = δf) (fun acc δ ⟨e, h⟩ => by subst e; exact k δ h) (fun pre x post acc δ Q e ⟨ea, h⟩ hQ => ?_) ⟨rfl, h0⟩
  rw [h]
  have hx : x ∈ ds := by rw [e]; exact List.mem_append_right _ (List.mem_cons_self ..)
  have hlen : acc.length < sizeLine := by
    have h1 : acc.length ≤ pre.length := by rw [ea, List.length_map]; exact List.length_filter_le _ _
    have h2 : pre.length < ds.length := by rw [e, List.length_append, List.length_cons]; omega
    omega
  refine step x hx (fun r δ3 => ob (frz δ3 r) fun p => acc.length < sizeLine ∧ Q (acc ++ [p.1]) p.2) (fun δ2 => Q acc δ2) (fun hp δ1 h1 => ⟨_, rfl, hlen, hQ _ _ ⟨?_, h1⟩⟩) (fun hp δ1 h1 => hQ _ _ ⟨?_, h1⟩)
  · rw [ea, List.filter_append, List.map_append, List.filter_cons, if_pos hp]
    rfl
  · rw [ea, List.filter_append, List.map_append, List.filter_cons, if_neg (by rw [hp]; decide)]
    simp
theorem bools_map : ∀ bs : List Bool, bools (bs.map .bool) = some bs
  | [] => rfl
  | b :: bs => by
    show (bools (bs.map PyData.bool)).map _ = _
    rw [bools_map bs]
    rfl
theorem all_bools (bs : List Bool) : allF [.d (.list (bs.map .bool))] = some (.val (.bool (bs.all id))) := by
  show (bools _).map _ = _
  rw [bools_map]
  rfl
theorem all_map (g : PyData → Bool) (ds : List PyData) : allF [.d (.list (ds.map fun y => .bool (g y)))] = some (.val (.bool (ds.all g))) := by
  have h := all_bools (ds.map g)
  rw [List.map_map, List.all_map] at h
  exact h
/-- a sign against a sign -/
theorem sign_lt (a c : Nat) : decide (([c] : List Nat) < [a]) = decide (c < a) := by
  refine decide_eq_decide.mpr ?_
  rw [List.cons_lt_cons_iff]
  constructor
  · rintro (h | ⟨_, h⟩)
    · exact h
    · exact absurd h (List.lt_irrefl _)
  · exact .inl
theorem sign_le (a c : Nat) : (!decide (([c] : List Nat) < [a])) = decide (a ≤ c) := by
  rw [sign_lt, ← decide_not]
  exact decide_eq_decide.mpr (by omega)
end DL
set_option Elab.async false
set_option linter.all false
set_option maxRecDepth 100000
set_option maxHeartbeats 4000000
set_option autoImplicit false
namespace DL
open PySem PySem.Spec PyProof.Rows L2
def isNon : Vw → Bool
  | .d .none => true
  | .w .none => true
  | _ => false
def isG (neg : Bool) : Vw → Vw → Option Rv := fun a b => if isNon b then some (.val (.bool (if neg then !isNon a else isNon a))) else none
def isF := isG false
theorem non_of {K : PySem.W.Frag} {B H : Hp} {v : V} {w : Vw} (sB : Same B H) (h : OV K B H v w) : decide (v = .non) = isNon w := by
  cases w with
  | d d =>
    rcases h with h | ⟨_, _, _, e1, e2, _⟩
    · cases h <;> rfl
    · subst e1 e2; rfl
  | w d =>
    have h : Dp K (fun _ => none) v d := h
    cases h <;> rfl
  | k _ => obtain ⟨a, ys, rfl, _⟩ := h; rfl
  | t _ => obtain ⟨a, ys, rfl, _⟩ := h; rfl
  | xk _ => obtain ⟨a, ys, rfl, _⟩ := h; rfl
  | xl _ => obtain ⟨a, ys, rfl, _⟩ := h; rfl
  | rk _ => obtain ⟨a, ys, rfl, _⟩ := h; rfl
  | xt _ => obtain ⟨a, o, ys, rfl, _⟩ := h; rfl
theorem isnon_eq {K : PySem.W.Frag} {B H : Hp} {v : V} {w : Vw} (sB : Same B H) (h : OV K B H v w) (e : isNon w = true) : v = .non := of_decide_eq_true ((non_of sB h).trans e)
theorem os_is {S : Sg} : OpS S (compareOp .Is) isF := by
  rintro c hc pins s σ H x y v u Q I rx ry ⟨B, a, b, rv, sB, oa, ob, e, k⟩
  unfold isF isG at e
  split at e
  · cases e
    refine op_isN pins s σ H _ _ v u Q I rx ry ⟨isnon_eq sB ob (by assumption), ?_⟩
    rw [non_of sB oa]
    exact k _ (.bl _)
  · cases e
def ownK (δ : SEnv) (i : Nat) : Option (Bool × List (Key × PyData)) := match δ[i]? with
  | some (some (.o b (.k kvs))) => some (b, kvs)
  | _ => none
theorem ownK_at {δ : SEnv} {i : Nat} {b : Bool} {kvs : List (Key × PyData)} (h : ownK δ i = some (b, kvs)) : δ[i]? = some (some (.o b (.k kvs))) := by
  unfold ownK at h
  split at h
  · cases h; assumption
  · cases h
def keyV (w : Vw) : Option Key := (dV w).bind keyD
theorem key_ov {K : PySem.W.Frag} {B H : Hp} {v : V} {w : Vw} {k : Key} (h : OV K B H v w) (e : keyV w = some k) : v = kV k := by
  unfold keyV at e
  obtain ⟨d, e1, e2⟩ := Option.bind_eq_some_iff.mp e
  cases w with
  | d d' =>
    cases e1
    rcases h with h | ⟨_, _, _, _, z, _⟩
    · exact key_dd e2 h
    · subst z; cases e2
  | _ => cases e1
def sortI (ns : List Int) : List Int := ns.mergeSort fun a b => decide (a ≤ b)
theorem sortI_perm (ns : List Int) : (sortI ns).Perm ns := List.mergeSort_perm _ _
theorem sortI_up (ns : List Int) : (sortI ns).Pairwise (· ≤ ·) := by
  have h := List.pairwise_mergeSort (le := fun (a b : Int) => decide (a ≤ b)) (fun a b c h1 h2 => by simp only [decide_eq_true_eq] at *; omega) (fun a b => by simp only [Bool.or_eq_true, decide_eq_true_eq]; omega) ns
  exact h.imp fun h => of_decide_eq_true h
theorem sortI_one {ms ns : List Int} (h1 : ms.Perm ns) (h2 : ms.Pairwise (· ≤ ·)) : ms = sortI ns :=
  List.Perm.eq_of_pairwise (fun a b _ _ x y => Int.le_antisymm x y) h2 (sortI_up ns) (h1.trans (sortI_perm ns).symm)
def numsD : List PyData → Option (List Int)
  | [] => some []
  | .int i :: ds => (numsD ds).map fun ns => i :: ns
  | _ => none
theorem nums_dd {B : Hp} : ∀ {ds : List PyData} {ns : List Int} {xs : List V}, numsD ds = some ns → DDs B xs ds → xs = ns.map V.int
  | [], _, _, e, q => by cases e; cases q; rfl
  | d :: ds, _, _, e, q => by
    cases q with
    | cons q1 q2 =>
      cases d with
      | int i =>
        simp only [numsD] at e
        obtain ⟨ns, e1, e⟩ := Option.map_eq_some_iff.mp e
        cases e; cases q1
        rw [nums_dd e1 q2]; rfl
      | _ => cases e
theorem dds_ofI {B : Hp} (ns : List Int) : DDs B (ns.map V.int) (ns.map .int) := DDs.of_ints ns
def numK : List Key → Option (List Int)
  | [] => some []
  | .inl i :: ks => (numK ks).map fun ns => i :: ns
  | _ => none
theorem numK_eq : ∀ {ks : List Key} {ns : List Int}, numK ks = some ns → ks = ns.map Sum.inl
  | [], _, e => by cases e; rfl
  | k :: ks, _, e => by
    cases k with
    | inl i =>
      simp only [numK] at e
      obtain ⟨ns, e1, e⟩ := Option.map_eq_some_iff.mp e
      cases e
      rw [numK_eq e1]; rfl
    | inr x => cases e
theorem kds_keys {κ : Type} [DecidableEq κ] {B : Hp} {ys : List (κ × V)} {kvs : List (κ × PyData)} (h : KDs B ys kvs) : ys.map (·.1) = kvs.map (·.1) := by
  induction h with
  | nil => rfl
  | cons q r ih => rw [List.map_cons, List.map_cons, ih, q.1]
def sortF : List Vw → Option Rv
  | [.d (.list ds)] => (numsD ds).bind fun ns => if ns.length < 64 then some (.lst ((sortI ns).map .int)) else none
  | [.k kvs] => (numK (kvs.map (·.1))).bind fun ns => if ns.length < 64 then some (.lst ((sortI ns).map .int)) else none
  | _ => none
theorem cr_sortRd {X : Cx} (hc : X.calm = true) : CallR X (.builtin "sorted") (fun vs H Q => ∃ (a : Addr) (ns : List Int), vs = [V.ref a] ∧ Rd H a (.lst (ns.map V.int)) ∧ ns.length < 64 ∧
    ∀ (ns' : List Int) (p : Addr), ns'.Perm ns → ns'.Pairwise (· ≤ ·) → H p = none → Q (.ref p) (upd H p (.lst (ns'.map V.int)))) := by
  intro pins s σ H vs us Q I r h
  obtain ⟨a, ns, rfl, hs, h64, q⟩ := h
  exact cr_sorted pins s σ H _ us Q I r ⟨a, ns, rfl, .inl hs, h64, q⟩
theorem cs_sorted {S : Sg} : CallS S (.builtin "sorted") sortF := by
  rintro c hc pins s σ H xs us Q I rv ⟨B, as, r, sB, ov, e, k⟩
  unfold sortF at e
  split at e
  · obtain ⟨ns, e1, e⟩ := Option.bind_eq_some_iff.mp e
    split at e
    · cases e
      obtain ⟨v, rfl, q⟩ := ovs1 ov
      obtain ⟨p, zs, rfl, hp, qz⟩ := ov_lst sB q
      have ez := nums_dd e1 qz
      subst ez
      refine cr_sortRd hc.calm pins s σ H _ us Q I rv ⟨p, ns, rfl, hp, by assumption, fun ns' p' h1 h2 hp' => ?_⟩
      rw [sortI_one h1 h2]
      exact k p' _ hp' (dds_ofI _)
    · cases e
  · obtain ⟨ns, e1, e⟩ := Option.bind_eq_some_iff.mp e
    split at e
    · cases e
      obtain ⟨v, rfl, a, ys, rfl, hy, q⟩ := ovs1 ov
      refine call_sortedDI hc.calm pins s σ H _ us Q I rv ⟨a, ys, ns, rfl, .inl hy, by rw [kds_keys q]; exact numK_eq e1, by assumption, fun ns' p' h1 h2 hp' => ?_⟩
      rw [sortI_one h1 h2]
      exact k p' _ hp' (dds_ofI _)
    · cases e
  · cases e
end DL
set_option Elab.async false
set_option linter.all false
set_option maxRecDepth 100000
set_option maxHeartbeats 4000000
set_option autoImplicit false
namespace DL
open PySem PySem.Spec PyProof.Rows L2
def zipD (ds es : List PyData) : List PyData := List.zipWith (fun d e => .tuple [d, e]) ds es
def intF : List Vw → Option Rv
  | [.d (.int i)] => some (.val (.int i))
  | [.d (.bool b)] => some (.val (.int (if b then 1 else 0)))
  | _ => none
theorem cs_int {S : Sg} : CallS S (.type "int") intF := by
  rintro c hc pins s σ H xs us Q I rv ⟨B, as, r, sB, ov, e, k⟩
  unfold intF at e
  split at e
  · cases e
    obtain ⟨v, rfl, q⟩ := ovs1 ov
    cases ov_int q
    exact call_int1 pins s σ H _ us Q I rv (.inl ⟨_, rfl, k _ (.int _)⟩)
  · cases e
    obtain ⟨v, rfl, q⟩ := ovs1 ov
    cases ov_bool q
    exact call_int1 pins s σ H _ us Q I rv (.inr ⟨_, rfl, k _ (.int _)⟩)
  · cases e
def pairsD : List PyData → Option (List (Key × PyData))
  | [] => some []
  | .tuple [k, v] :: ds => (keyD k).bind fun kk => (pairsD ds).map fun r => (kk, v) :: r
  | _ => none
theorem pairs_dd {K : PySem.W.Frag} {B H : Hp} (sB : Same B H) : ∀ {ds : List PyData} {kvs : List (Key × PyData)} {xs : List V}, pairsD ds = some kvs → DDs B xs ds →
    ∃ (ps : List Addr) (ys : List (Key × V)), xs = ps.map V.ref ∧ Paired (fun p kv => SqT K H p [kV kv.1, kv.2]) ps ys ∧ KDs B ys kvs
  | [], _, _, e, q => by
    cases e; cases q
    exact ⟨[], [], rfl, .nil, .nil⟩
  | d :: ds, _, _, e, q => by
    cases q with
    | cons q1 q2 =>
      unfold pairsD at e
      split at e
      · rename_i z
        cases z
      · rename_i k v ds' z
        cases z
        obtain ⟨kk, e1, e⟩ := Option.bind_eq_some_iff.mp e
        obtain ⟨r, e2, e⟩ := Option.map_eq_some_iff.mp e
        cases e
        obtain ⟨ps, ys, rfl, h1, h2⟩ := pairs_dd sB e2 q2
        cases q1 with
        | tup hp qx =>
          cases qx with
          | cons a1 qx =>
            cases qx with
            | cons a2 qx =>
              cases qx
              have ek := key_dd e1 a1
              subst ek
              exact ⟨_ :: ps, (kk, _) :: ys, rfl, .cons (.inl (PlT.mono sB hp).rd) h1, .cons ⟨rfl, a2⟩ h2⟩
      · cases e
def dictF : List Vw → Option Rv
  | [.k kvs] => some (.dk kvs)
  | [.d (.list ds)] => (pairsD ds).map fun kvs => .dk (mergeD [] kvs)
  | _ => none
theorem cs_dict {S : Sg} : CallS S (.type "dict") dictF := by
  rintro c hc pins s σ H xs us Q I rv ⟨B, as, r, sB, ov, e, k⟩
  unfold dictF at e
  split at e
  · cases e
    obtain ⟨v, rfl, a, ys, rfl, hy, q⟩ := ovs1 ov
    exact call_dictD pins s σ H _ us Q I rv ⟨a, ys, rfl, .inl hy, fun p hp => k p ys hp q⟩
  · obtain ⟨kvs, e1, e⟩ := Option.map_eq_some_iff.mp e
    cases e
    obtain ⟨v, rfl, q⟩ := ovs1 ov
    obtain ⟨p, zs, rfl, hp, qz⟩ := ov_lst sB q
    obtain ⟨ps, ys, rfl, h1, h2⟩ := pairs_dd (K := S.g.K) sB e1 qz
    exact call_dictP hc.calm pins s σ H _ us Q I rv ⟨p, ps, ys, rfl, .inl hp, h1, fun p' hp' => k p' _ hp' (kds_merge h2 .nil)⟩
  · cases e
end DL
set_option Elab.async false
set_option linter.all false
set_option maxRecDepth 100000
set_option maxHeartbeats 4000000
set_option autoImplicit false
namespace DL
open PySem PySem.Spec PyProof.Rows L2
def rTm (K : PySem.W.Frag) (f : Str → List Vw → Option Rv) : V → List V → Hp → VK → Prop := fun x xs H Q => ∃ B a as rv, Same B H ∧ x = .str a ∧ OVs K B H xs as ∧ f a as = some rv ∧ RvK B H Q rv
def TmS (S : Sg) (id : String) (f : Str → List Vw → Option Rv) : Prop := ∀ c, S.ok c → MtR (S.g.cx c) id (rTm S.g.K f)
def wTm (f : Str → List Vw → Option Rv) (wo : WE) (wr : WA) : WE := fun Ex δ P => wo Ex δ fun ro δ1 => ob (view δ1 ro) fun w => ob (strV w) fun a => wr Ex δ1 fun rs δ2 => ob (views δ2 rs) fun as => ob (f a as) fun rv => P rv.r δ2
section
variable {S : Sg}
theorem de_tm {o e : Expr} {es : List Expr} {wo : WE} {wr : WA} {f : Str → List Vw → Option Rv} {name : Str} {id : String} {apos cpos : Pos} (slot : Slot "str" name id) (hty : typeOf (.builtin id) = pure (.type "method_descriptor")) (hm : TmS S id f) (ho : DE S o wo) (ha : DA S (e :: es) wr)
    (hb : ∀ env, attributeBase o name env (eval o env) = eval o env := by intro _; rfl) (hf : ∀ env, ((backTo cpos (starEach (e :: es) env)).all (fun x => !x.1) && (backToKw cpos (keywordEach [] env)).all (fun x => x.1.isSome) && decide ((e :: es).length + ([] : List Keyword).length + (if ([] : List Keyword).isEmpty then 0 else 1) < 30)) = true := by intro _; rfl)
    (hl : (apos.endLine == cpos.line) = true := by rfl) (hs : ∀ env, starEach (e :: es) env = (false, eval e env) :: starEach es env := by intro _; rfl) (hp : ∀ env, (backTo cpos (starEach es env)).any (·.1) = false := by intro _; rfl) :
    DE S (.Call (.Attribute o name apos) (e :: es) [] cpos) (wTm f wo wr) := by
  obtain ⟨to', po, so⟩ := ho
  obtain ⟨ta, pa, sa⟩ := ha
  refine ⟨tBM S.g.K "str" (rTm S.g.K f) to' ta, fun c hc => pe_bm (X := S.g.cx c) PySem.F.plainAttrs_str slot hty (hm c hc) (po c hc) (pa c hc) (hb _) (hf _) hl (hs _) (hp _), ⟨fun Ex Ex' δ P P' hx h w => ?_, fun Ex F B H vs σ δ P Q hx h w k => ?_⟩⟩
  · refine so.mono _ _ _ _ _ hx (fun ro δ1 w => w.imp fun a w => w.imp fun x w => ?_) w
    exact sa.mono _ _ _ _ _ hx (fun r δ2 w => w.imp fun b w => w.imp fun d w => h _ _ w) w
  · refine so.run _ _ _ _ _ _ _ _ _ hx h w fun B1 H1 v ro δ1 s1 h1 q1 w1 => ?_
    obtain ⟨a, e1, x, e2, w1⟩ := w1
    cases strV_ok (view_ok h1 q1 e1) e2
    refine ⟨rfl, ?_⟩
    refine sa.run _ _ _ _ _ _ _ _ _ (hx.up s1) h1 w1 fun B2 H2 ys rs δ2 s2 h2 q2 w2 => ?_
    obtain ⟨as, e3, rv, e4, w2⟩ := w2
    exact ⟨B2, x, as, rv, h2.sb, rfl, views_ok h2 q2 e3, e4, rvk_ok (s1.trans s2) h2 w2 k⟩
def findF : Str → List Vw → Option Rv
  | a, [.d (.str b)] => some (.val (.int (PySem.Txt.find a b)))
  | _, _ => none
theorem tm_find : TmS S "str.find" findF := by
  rintro c hc pins s σ H x xs v us Q I rx rv ⟨B, a, as, r, sB, rfl, ov, e, k⟩
  unfold findF at e
  split at e
  · cases e
    obtain ⟨v, rfl, q⟩ := ovs1 ov
    cases ov_str q
    exact mt_find pins s σ H _ _ _ us Q I rx rv ⟨_, _, rfl, rfl, k _ (.int _)⟩
  · cases e
theorem de_find {o e : Expr} {wo : WE} {wr : WA} {apos cpos : Pos} (ho : DE S o wo) (ha : DA S [e] wr) (hb : ∀ env, attributeBase o "find" env (eval o env) = eval o env := by intro _; rfl)
    (hf : ∀ env, ((backTo cpos (starEach [e] env)).all (fun x => !x.1) && (backToKw cpos (keywordEach [] env)).all (fun x => x.1.isSome) && decide (([e] : List Expr).length + ([] : List Keyword).length + (if ([] : List Keyword).isEmpty then 0 else 1) < 30)) = true := by intro _; rfl)
    (hl : (apos.endLine == cpos.line) = true := by rfl) (hs : ∀ env, starEach [e] env = (false, eval e env) :: starEach [] env := by intro _; rfl) (hp : ∀ env, (backTo cpos (starEach [] env)).any (·.1) = false := by intro _; rfl) : DE S (.Call (.Attribute o "find" apos) [e] [] cpos) (wTm findF wo wr) :=
  de_tm PySem.F.slot_str_find PySem.F.type_str_find tm_find ho ha hb hf hl hs hp
end
end DL
set_option Elab.async false
set_option linter.all false
set_option maxRecDepth 100000
set_option maxHeartbeats 4000000
set_option autoImplicit false
namespace DL
open PySem PySem.Spec PyProof.Rows L2
abbrev dc2 (kx vx ta ia tb ib : Expr) (sc : Scope) (p : Pos) : Expr := .DictComp kx vx [⟨ta, ia, [], 0⟩, ⟨tb, ib, [], 0⟩] sc p
end DL
set_option Elab.async false
set_option linter.all false
set_option maxRecDepth 100000
set_option maxHeartbeats 4000000
set_option autoImplicit false
namespace DL
open PySem PySem.Spec PyProof.Rows L2
end DL
set_option Elab.async false
set_option linter.all false
set_option maxRecDepth 100000
set_option maxHeartbeats 4000000
set_option autoImplicit false
namespace DL
open PySem PySem.Spec PyProof.Rows L2
end DL
set_option Elab.async false
set_option linter.all false
set_option maxRecDepth 100000
set_option maxHeartbeats 6400000
set_option autoImplicit false
namespace DL
open PySem PySem.Spec PyProof.Rows L2
end DL
set_option Elab.async false
set_option linter.all false
set_option maxRecDepth 100000
set_option maxHeartbeats 4000000
set_option autoImplicit false
namespace DL
open PySem PySem.Spec PyProof.Rows L2
open Classical in
noncomputable def layF (F H : Hp) (f : Addr → Prop) : Hp := fun p => if f p then H p else F p
theorem layF_in {F H : Hp} {f : Addr → Prop} {p : Addr} (h : f p) : layF F H f p = H p := by unfold layF; rw [if_pos h]
theorem layF_out {F H : Hp} {f : Addr → Prop} {p : Addr} (h : ¬ f p) : layF F H f p = F p := by unfold layF; rw [if_neg h]
def rfoot (H : Hp) (v : V) : R → Addr → Prop
  | .n c, p => ∃ a, v = .ref a ∧ Foot H a c p
  | _, _ => False
section
variable {K : PySem.W.Frag} {F B H : Hp} {vs : List V} {σ : L2.St} {δ : SEnv} {v : V} {r : R}
theorem rfoot_ok (h : RepR K F B H σ δ v r) {p : Addr} (f : rfoot H v r p) : B p = none ∧ F p = none ∧ ∃ u, H p = some u := by
  cases r with
  | n c =>
    obtain ⟨a, rfl, hBF, qc, _⟩ := h
    obtain ⟨a', e, f⟩ := f
    cases e
    exact ⟨(hBF p f).1, (hBF p f).2, qc.there f⟩
  | _ => exact f.elim
theorem rfoot_off (h : RepR K F B H σ δ v r) : Off H σ δ (rfoot H v r) := by
  cases r with
  | n c =>
    obtain ⟨a, rfl, _, _, off⟩ := h
    intro i b c' a' p e ea f f'
    obtain ⟨a0, e0, f'⟩ := f'
    cases e0
    exact off i b c' a' p e ea f f'
  | _ => exact fun _ _ _ _ _ _ _ _ z => z.elim
theorem Rep.hold (h : Rep K F B H vs σ δ) (q : RepR K F B H σ δ v r) : Rep K (layF F H (rfoot H v r)) B H vs σ δ := by
  refine ⟨h.sb, fun p u e => ?_, fun p u e => ?_, h.len, fun i s e => ?_, h.apart, h.bor, h.nt⟩
  · by_cases f : rfoot H v r p
    · rw [layF_in f] at e; exact e
    · rw [layF_out f] at e; exact h.sf p u e
  · by_cases f : rfoot H v r p
    · exact (rfoot_ok q f).1
    · rw [layF_out f] at e; exact h.dj p u e
  · obtain ⟨w, e1, q1⟩ := h.ok i s e
    refine ⟨w, e1, ?_⟩
    cases s with
    | d d => exact q1
    | w d => exact q1
    | o b c =>
      obtain ⟨a, e2, hBF, q2⟩ := q1
      subst e2
      refine ⟨a, rfl, fun p f => ⟨(hBF p f).1, ?_⟩, q2⟩
      rw [layF_out (rfoot_off q i b c a p e e1 f)]
      exact (hBF p f).2
theorem hold_xok {E : XK} {Ex : Exc → Prop} (q : RepR K F B H σ δ v r) (hx : XOk F B E Ex) : XOk (layF F H (rfoot H v r)) B E Ex := by
  have up : ∀ a o, F a = some o → layF F H (rfoot H v r) a = some o := fun a o e => by
    by_cases f : rfoot H v r a
    · have := (rfoot_ok q f).2.1; rw [e] at this; cases this
    · rw [layF_out f]; exact e
  exact fun cls da B' H' fs fds s1 s2 s3 s4 e f x => hx cls da B' H' fs fds s1 s2 (fun a o z => s3 a o (up a o z)) (fun a o z => s4 a o (up a o z)) e f x
/-- behind what was reckoned meanwhile -/
theorem held {B2 H2 : Hp} {δ2 : SEnv} (q : RepR K F B H σ δ v r) (no : ∀ i, r ≠ .o i) (s : Same B B2) (h : Rep K (layF F H (rfoot H v r)) B2 H2 vs σ δ2) : Rep K F B2 H2 vs σ δ2 ∧ RepR K F B2 H2 σ δ2 v r ∧ (∀ p, rfoot H2 v r p ↔ rfoot H v r p) := by
  have keep : ∀ p, rfoot H v r p → H2 p = H p ∧ B2 p = none := fun p f => by
    obtain ⟨u, hu⟩ := (rfoot_ok q f).2.2
    have e : layF F H (rfoot H v r) p = some u := by rw [layF_in f]; exact hu
    exact ⟨by rw [hu]; exact h.sf p u e, h.dj p u e⟩
  have out : ∀ p u, F p = some u → ¬ rfoot H v r p := fun p u e f => by have := (rfoot_ok q f).2.1; rw [e] at this; cases this
  have offl : ∀ {i : Nat} {b : Bool} {c : Cont} {a p : Addr}, δ2[i]? = some (some (.o b c)) → σ[i]? = some (some (.ref a)) → Foot H2 a c p → ¬ rfoot H v r p := fun e ea f g => by
    have z := ((h.own_up e ea).1 _ f).2
    obtain ⟨u, hu⟩ := (rfoot_ok q g).2.2
    rw [layF_in g, hu] at z; cases z
  refine ⟨⟨h.sb, fun p u e => h.sf p u (by rw [layF_out (out p u e)]; exact e), fun p u e => h.dj p u (by rw [layF_out (out p u e)]; exact e), h.len, fun i s' e => ?_, h.apart, h.bor, h.nt⟩, ?_⟩
  · obtain ⟨w, e1, q1⟩ := h.ok i s' e
    refine ⟨w, e1, ?_⟩
    cases s' with
    | d d => exact q1
    | w d => exact q1
    | o b c =>
      obtain ⟨a, e2, hBF, q2⟩ := q1
      subst e2
      refine ⟨a, rfl, fun p f => ⟨(hBF p f).1, ?_⟩, q2⟩
      have z := (hBF p f).2
      rw [layF_out (offl e e1 f)] at z
      exact z
  · cases r with
    | d d => exact ⟨DD.mono s q, fun _ => Iff.rfl⟩
    | w d => exact ⟨q, fun _ => Iff.rfl⟩
    | o i => exact absurd rfl (no i)
    | n c =>
      obtain ⟨a, rfl, hBF, qc, off⟩ := q
      have k2 : ∀ p, Foot H a c p → H2 p = H p ∧ B2 p = none := fun p f => keep p ⟨a, rfl, f⟩
      have fe : ∀ p, Foot H2 a c p ↔ Foot H a c p := fun p => foot_eq fun p f => (k2 p f).1
      refine ⟨⟨a, rfl, fun p f => ⟨(k2 p ((fe p).mp f)).2, (hBF p ((fe p).mp f)).2⟩, qc.mono s fun p f => (k2 p f).1, fun i b c' a' p e ea f f' => offl e ea f ⟨a, rfl, (fe p).mp f'⟩⟩, fun p => ?_⟩
      exact ⟨fun ⟨a', e, f⟩ => by cases e; exact ⟨a, rfl, (fe p).mp f⟩, fun ⟨a', e, f⟩ => by cases e; exact ⟨a, rfl, (fe p).mpr f⟩⟩
/-- things told one beside the other, new ones apart -/
def RepO (K : PySem.W.Frag) (F B H : Hp) (σ : L2.St) (δ : SEnv) (ws : List V) (rs : List R) : Prop := Paired (fun v r => RepR K F B H σ δ v r ∧ ∀ i, r ≠ .o i) ws rs ∧
  ∀ (i j : Nat) (v w : V) (r r' : R) (p : Addr), i ≠ j → ws[i]? = some v → ws[j]? = some w → rs[i]? = some r → rs[j]? = some r' → rfoot H v r p → ¬ rfoot H w r' p
end
structure AOSim (K : PySem.W.Frag) (E : XK) (t : TA) (W : WA) : Prop where
  mono : ∀ (Ex Ex' : XP) (δ : SEnv) (P P' : List R → SEnv → Prop), (∀ e, Ex e → Ex' e) → (∀ r δ', P r δ' → P' r δ') → W Ex δ P → W Ex' δ P'
  run : ∀ (Ex : XP) (F B H : Hp) (vs : List V) (σ : L2.St) (δ : SEnv) (P : List R → SEnv → Prop) (Q : List V → Hp → Prop), XOk F B E Ex → Rep K F B H vs σ δ → W Ex δ P →
    (∀ B' H' ws rs δ', Same B B' → Rep K F B' H' vs σ δ' → RepO K F B' H' σ δ' ws rs → P rs δ' → Q ws H') → t σ H Q
def DAO (S : Sg) (es : List Expr) (W : WA) : Prop := ∃ t, (∀ c, S.ok c → PA (S.g.cx c) es t) ∧ AOSim S.g.K S.E t W
/-- an own list under a name is taken as data -/
def frzN (δ : SEnv) : R → Option (R × SEnv)
  | .o i => (frz δ (.o i)).map fun p => (.d p.1, p.2)
  | r => some (r, δ)
def wConsO (wa : WE) (wr : WA) : WA := fun Ex δ P => wa Ex δ fun r δ1 => ob (frzN δ1 r) fun p => wr Ex p.2 fun rs δ2 => P (p.1 :: rs) δ2
theorem frzN_ok {K : PySem.W.Frag} {F B H : Hp} {vs : List V} {σ : L2.St} {δ δ' : SEnv} {v : V} {r r' : R} (h : Rep K F B H vs σ δ) (q : RepR K F B H σ δ v r) (e : frzN δ r = some (r', δ')) : ∃ B', Same B B' ∧ Rep K F B' H vs σ δ' ∧ RepR K F B' H σ δ' v r' ∧ ∀ i, r' ≠ .o i := by
  cases r with
  | d d => cases e; exact ⟨B, Same.refl _, h, q, fun _ z => nomatch z⟩
  | w d => cases e; exact ⟨B, Same.refl _, h, q, fun _ z => nomatch z⟩
  | n c => cases e; exact ⟨B, Same.refl _, h, q, fun _ z => nomatch z⟩
  | o i =>
    simp only [frzN] at e
    obtain ⟨⟨d, δ1⟩, e1, e⟩ := Option.map_eq_some_iff.mp e
    cases e
    obtain ⟨B', s, h', q'⟩ := frz_ok h q e1
    exact ⟨B', s, h', q', fun _ z => nomatch z⟩
section
variable {S : Sg}
theorem dao_nil : DAO S [] wNil := ⟨tNil, fun _ _ => pa_nil, ⟨fun _ _ δ P P' _ h w => h _ _ w, fun Ex F B H vs σ δ P Q hx h w k => k B H [] [] δ (Same.refl _) h ⟨.nil, fun i j v w r r' p _ e => by simp at e⟩ w⟩⟩
theorem dao_cons {e : Expr} {es : List Expr} {wa : WE} {wr : WA} (ha : DE S e wa) (hr : DAO S es wr) (hs : ∀ env, starEach (e :: es) env = (false, eval e env) :: starEach es env := by intro _; rfl) : DAO S (e :: es) (wConsO wa wr) := by
  obtain ⟨ta, pa, sa⟩ := ha
  obtain ⟨tr, pr, sr⟩ := hr
  refine ⟨_, fun c hc => pa_cons (pa c hc) (pr c hc) (hs _), ⟨fun Ex Ex' δ P P' hx h w => ?_, fun Ex F B H vs σ δ P Q hx h w k => ?_⟩⟩
  · exact sa.mono _ _ _ _ _ hx (fun r δ1 w => w.imp fun p w => sr.mono _ _ _ _ _ hx (fun rs δ2 w => h _ _ w) w) w
  · refine sa.run _ _ _ _ _ _ _ _ _ hx h w fun B1 H1 x r0 δ0 s1 h0 q0 w1 => ?_
    obtain ⟨⟨r, δ1⟩, e1, w1⟩ := w1
    obtain ⟨B2, s2, h1, q1, no⟩ := frzN_ok h0 q0 e1
    have s12 := s1.trans s2
    refine sr.run Ex _ B2 H1 vs σ δ1 _ _ (hold_xok q1 (hx.up s12)) (h1.hold q1) w1 fun B3 H3 ws rs δ2 s3 h3 q3 w3 => ?_
    obtain ⟨h4, q4, fe⟩ := held q1 no s3 h3
    refine k B3 H3 (x :: ws) (r :: rs) δ2 (s12.trans s3) h4 ⟨.cons ⟨q4, no⟩ (Paired.mapP q3.1 fun v r' z => ⟨?_, z.2⟩), ?_⟩ w3
    · obtain ⟨z, _⟩ := z
      cases r' with
      | d d => exact z
      | w d => exact z
      | o i => exact z
      | n c =>
        obtain ⟨a, rfl, hBF, qc, off⟩ := z
        refine ⟨a, rfl, fun p f => ⟨(hBF p f).1, ?_⟩, qc, off⟩
        have y := (hBF p f).2
        by_cases g : rfoot H1 x r p
        · exact (rfoot_ok q1 g).2.1
        · rw [layF_out g] at y; exact y
    · have apart : ∀ (j : Nat) (w : V) (r' : R) (p : Addr), ws[j]? = some w → rs[j]? = some r' → rfoot H3 x r p → ¬ rfoot H3 w r' p := by
        intro j w r' p e2 e3 f f'
        obtain ⟨y, e4, z⟩ := paired_at q3.1 e2
        rw [e3] at e4; cases e4
        have y := (rfoot_ok z.1 f').2.1
        have g := (fe p).mp f
        obtain ⟨u, hu⟩ := (rfoot_ok q1 g).2.2
        rw [layF_in g, hu] at y; cases y
      intro i j v w r1 r2 p ne e2 e3 e4 e5 f f'
      cases i with
      | zero =>
        cases j with
        | zero => exact ne rfl
        | succ j => simp at e2 e4; subst e2 e4; exact apart j w r2 p (by simpa using e3) (by simpa using e5) f f'
      | succ i =>
        cases j with
        | zero => simp at e3 e5; subst e3 e5; exact apart i v r1 p (by simpa using e2) (by simpa using e4) f' f
        | succ j => exact q3.2 i j v w r1 r2 p (fun z => ne (by rw [z])) (by simpa using e2) (by simpa using e3) (by simpa using e4) (by simpa using e5) f f'
end
def stN (δ : SEnv) (i : Nat) : R → Option SEnv
  | .d d => some (δ.set i (some (.d d)))
  | .w d => some (δ.set i (some (.w d)))
  | .n c => some (δ.set i (some (.o false c)))
  | .o _ => none
theorem stN_ok {K : PySem.W.Frag} {F B H : Hp} {vs : List V} {σ : L2.St} {δ δ' : SEnv} {i : Nat} {v : V} {r : R} (h : Rep K F B H vs σ δ) (q : RepR K F B H σ δ v r) (e : stN δ i r = some δ') : Rep K F B H vs (σ.set i (some v)) δ' ∧
    ∀ (w : V) (r' : R), RepR K F B H σ δ w r' → (∀ k, r' ≠ .o k) → (∀ p, rfoot H v r p → ¬ rfoot H w r' p) → RepR K F B H (σ.set i (some v)) δ' w r' := by
  have gen : ∀ (s : Sl), δ' = δ.set i (some s) → (∀ b c a p, s = .o b c → v = .ref a → Foot H a c p → rfoot H v r p) → Rep K F B H vs (σ.set i (some v)) δ' → ∀ (w : V) (r' : R), RepR K F B H σ δ w r' → (∀ k, r' ≠ .o k) → (∀ p, rfoot H v r p → ¬ rfoot H w r' p) → RepR K F B H (σ.set i (some v)) δ' w r' := by
    intro s ed hs hR w r' q' no dis
    cases r' with
    | d d => exact q'
    | w d => exact q'
    | o k => exact absurd rfl (no k)
    | n c =>
      obtain ⟨a, rfl, hBF, qc, off⟩ := q'
      refine ⟨a, rfl, hBF, qc, fun j b c' a' p e1 e2 f f' => ?_⟩
      subst ed
      by_cases hj : j = i
      · subst hj
        have z := set_look e1
        cases z
        rw [List.getElem?_set_self (len_lt h e1)] at e2
        cases e2
        exact dis p (hs b c' a' p rfl rfl f) ⟨a, rfl, f'⟩
      · rw [List.getElem?_set_ne (Ne.symm hj)] at e1 e2
        exact off j b c' a' p e1 e2 f f'
  cases r with
  | d d => cases e; have hR := h.store i v (.d d) q (fun _ z => nomatch z) (fun a _ c z => nomatch z); exact ⟨hR, gen (.d d) rfl (fun _ _ _ _ z => nomatch z) hR⟩
  | w d => cases e; have hR := h.store i v (.w d) q (fun _ z => nomatch z) (fun a _ c z => nomatch z); exact ⟨hR, gen (.w d) rfl (fun _ _ _ _ z => nomatch z) hR⟩
  | o k => cases e
  | n c =>
    cases e
    obtain ⟨a, rfl, hBF, qc, off⟩ := q
    have hR := h.store i (.ref a) (.o false c) ⟨a, rfl, hBF, qc⟩ (fun _ z => nomatch z) (fun a' ea' c' ec => by cases ea'; cases ec; exact off)
    exact ⟨hR, gen (.o false c) rfl (fun b c' a' p z ea f => by cases z; cases ea; exact ⟨a, rfl, f⟩) hR⟩
def stNs (δ : SEnv) : List Nat → List R → Option SEnv
  | [], [] => some δ
  | i :: is, r :: rs => (stN δ i r).bind fun δ1 => stNs δ1 is rs
  | _, _ => none
def sets (σ : L2.St) : List Nat → List V → L2.St
  | i :: is, v :: vs => sets (σ.set i (some v)) is vs
  | _, _ => σ
theorem stNs_ok {K : PySem.W.Frag} {F B H : Hp} {vs : List V} : ∀ {is : List Nat} {rs : List R} {ws : List V} {σ : L2.St} {δ δ' : SEnv}, Rep K F B H vs σ δ → RepO K F B H σ δ ws rs → stNs δ is rs = some δ' → Rep K F B H vs (sets σ is ws) δ'
  | [], [], ws, σ, δ, δ', h, q, e => by cases e; obtain ⟨q, _⟩ := q; cases q; exact h
  | [], _ :: _, _, _, _, _, _, _, e => nomatch e
  | _ :: _, [], _, _, _, _, _, _, e => nomatch e
  | i :: is, r :: rs, ws, σ, δ, δ', h, q, e => by
    obtain ⟨q, dis⟩ := q
    cases q with
    | @cons v _ ws _ q1 q2 =>
      simp only [stNs] at e
      obtain ⟨δ1, e1, e⟩ := Option.bind_eq_some_iff.mp e
      obtain ⟨h1, up⟩ := stN_ok h q1.1 e1
      show Rep K F B H vs (sets (σ.set i (some v)) is ws) δ'
      refine stNs_ok (is := is) (rs := rs) (σ := σ.set i (some v)) h1 ⟨paired_mono q2 fun j w r' e2 e3 z => ⟨up w r' z.1 z.2 fun p f => dis 0 (j + 1) v w r r' p (by omega) rfl (by simpa using e2) rfl (by simpa using e3) f, z.2⟩, fun a b w w' r1 r2 p ne e2 e3 e4 e5 f => ?_⟩ e
      exact dis (a + 1) (b + 1) w w' r1 r2 p (by omega) (by simpa using e2) (by simpa using e3) (by simpa using e4) (by simpa using e5) f
/-- a, b = x, y and a, b, c = x, y, z -/
def wParO (is : List Nat) (wr : WA) : WS := fun d δ => wr d.ex δ fun rs δ1 => ob (stNs δ1 is rs) fun δ2 => d.nx δ2
section
variable {S : Sg}
theorem ds_parO2 {i j : Nat} {x y : Str} {a b : Expr} {wr : WA} {px py pt pos : Pos} {kt k2 : Nat} {pt2 : Pos} (hi : S.N[i]? = some x) (hj : S.N[j]? = some y) (hij : i ≠ j) (hx : S.sc.names.lookup x = some .local) (hy : S.sc.names.lookup y = some .local) (ha : DAO S [a, b] wr)
    (hw : ∀ env : Env, swappedStores [.Tuple [.Name x px, .Name y py] kt pt] (.Tuple [a, b] k2 pt2) { env with scope := S.sc } = pure (some [x, y]))
    (hs : ∀ env, swapsWithSole [.Tuple [.Name x px, .Name y py] kt pt] (.Tuple [a, b] k2 pt2) pos.line env = pure false := by intro _; rfl) :
    DS S (.Assign [.Tuple [.Name x px, .Name y py] kt pt] (.Tuple [a, b] k2 pt2) pos) (wParO [i, j] wr) := by
  obtain ⟨t, p, s⟩ := ha
  refine ⟨tPar i j t, fun c hc => ps_par (X := S.g.cx c) hc.calm (by show c.N.Nodup; rw [hc.hN]; exact hc.nd) (by show c.N[i]? = _; rw [hc.hN]; exact hi) (by show c.N[j]? = _; rw [hc.hN]; exact hj) hij (by show c.env.scope.names.lookup x = _; rw [hc.hs]; exact hx) (by show c.env.scope.names.lookup y = _; rw [hc.hs]; exact hy) (p c hc) (by have q := hw c.env; rw [← hc.hs] at q; exact q) (hs _), ⟨fun d d' δ h w => s.mono _ _ _ _ _ h.ex (fun rs δ1 w => w.imp fun p w => h.nx _ w) w, fun F B H vs σ δ D d hx h k w => ?_⟩⟩
  refine s.run _ _ _ _ _ _ _ _ _ hx h w fun B1 H1 ws rs δ1 s1 h1 q1 w1 => ?_
  obtain ⟨δ2, e1, w1⟩ := w1
  have h2 := stNs_ok h1 q1 e1
  match rs, ws, q1.1, e1 with
  | [r1, r2], [v, w], _, e1 => exact ⟨v, w, rfl, k.nx B1 _ H1 _ s1 h2 w1⟩
  | [], _, _, e1 => exact nomatch e1
  | [_], _, _, e1 => simp only [stNs] at e1; obtain ⟨_, _, e1⟩ := Option.bind_eq_some_iff.mp e1; exact nomatch e1
  | _ :: _ :: _ :: _, _, _, e1 => simp only [stNs] at e1; obtain ⟨_, _, e1⟩ := Option.bind_eq_some_iff.mp e1; obtain ⟨_, _, e1⟩ := Option.bind_eq_some_iff.mp e1; exact nomatch e1
theorem ds_parO3 {i j l : Nat} {x y z : Str} {a b c : Expr} {wr : WA} {px py pz pt pos : Pos} {kt k2 : Nat} {pt2 : Pos} (hi : S.N[i]? = some x) (hj : S.N[j]? = some y) (hl : S.N[l]? = some z) (hij : i ≠ j) (hil : i ≠ l) (hjl : j ≠ l)
    (hx : S.sc.names.lookup x = some .local) (hy : S.sc.names.lookup y = some .local) (hz : S.sc.names.lookup z = some .local) (ha : DAO S [a, b, c] wr)
    (hw : ∀ env : Env, swappedStores [.Tuple [.Name x px, .Name y py, .Name z pz] kt pt] (.Tuple [a, b, c] k2 pt2) { env with scope := S.sc } = pure (some [x, y, z]))
    (hs : ∀ env, swapsWithSole [.Tuple [.Name x px, .Name y py, .Name z pz] kt pt] (.Tuple [a, b, c] k2 pt2) pos.line env = pure false := by intro _; rfl) :
    DS S (.Assign [.Tuple [.Name x px, .Name y py, .Name z pz] kt pt] (.Tuple [a, b, c] k2 pt2) pos) (wParO [i, j, l] wr) := by
  obtain ⟨t, p, s⟩ := ha
  refine ⟨tPar3 i j l t, fun c hc => ps_par3 (X := S.g.cx c) hc.calm (by show c.N.Nodup; rw [hc.hN]; exact hc.nd) (by show c.N[i]? = _; rw [hc.hN]; exact hi) (by show c.N[j]? = _; rw [hc.hN]; exact hj) (by show c.N[l]? = _; rw [hc.hN]; exact hl) hij hil hjl (by show c.env.scope.names.lookup x = _; rw [hc.hs]; exact hx) (by show c.env.scope.names.lookup y = _; rw [hc.hs]; exact hy) (by show c.env.scope.names.lookup z = _; rw [hc.hs]; exact hz) (p c hc) (by have q := hw c.env; rw [← hc.hs] at q; exact q) (hs _), ⟨fun d d' δ h w => s.mono _ _ _ _ _ h.ex (fun rs δ1 w => w.imp fun p w => h.nx _ w) w, fun F B H vs σ δ D d hx h k w => ?_⟩⟩
  refine s.run _ _ _ _ _ _ _ _ _ hx h w fun B1 H1 ws rs δ1 s1 h1 q1 w1 => ?_
  obtain ⟨δ2, e1, w1⟩ := w1
  have h2 := stNs_ok h1 q1 e1
  match rs, ws, q1.1, e1 with
  | [r1, r2, r3], [u, v, w], _, e1 => exact ⟨u, v, w, rfl, k.nx B1 _ H1 _ s1 h2 w1⟩
  | [], _, _, e1 => exact nomatch e1
  | [_], _, _, e1 => simp only [stNs] at e1; obtain ⟨_, _, e1⟩ := Option.bind_eq_some_iff.mp e1; exact nomatch e1
  | [_, _], _, _, e1 => simp only [stNs] at e1; obtain ⟨_, _, e1⟩ := Option.bind_eq_some_iff.mp e1; obtain ⟨_, _, e1⟩ := Option.bind_eq_some_iff.mp e1; exact nomatch e1
  | _ :: _ :: _ :: _ :: _, _, _, e1 =>
    simp only [stNs] at e1
    obtain ⟨_, _, e1⟩ := Option.bind_eq_some_iff.mp e1; obtain ⟨_, _, e1⟩ := Option.bind_eq_some_iff.mp e1; obtain ⟨_, _, e1⟩ := Option.bind_eq_some_iff.mp e1; exact nomatch e1
end
def Pt.r : Pt → R
  | .d x => R.d x
  | .l xs => R.n (Cont.l xs)
  | .k xs => R.n (Cont.k xs)
  | .p xs => R.n (Cont.pt xs)
/-- a, b, .. = a tuple -/
def unp (δ : SEnv) (is : List Nat) : R → Option SEnv
  | .n (.tp ps) => stNs δ is (ps.map Pt.r)
  | r => (frz δ r).bind fun p => match p.1 with
    | .tuple ds => stNs p.2 is (ds.map R.d)
    | _ => none
def wUnp (is : List Nat) (wa : WE) : WS := fun d δ => wa d.ex δ fun r δ1 => ob (unp δ1 is r) fun δ2 => d.nx δ2
theorem stNs_len : ∀ {is : List Nat} {rs : List R} {δ δ' : SEnv}, stNs δ is rs = some δ' → is.length = rs.length
  | [], [], _, _, _ => rfl
  | [], _ :: _, _, _, e => nomatch e
  | _ :: _, [], _, _, e => nomatch e
  | i :: is, r :: rs, _, _, e => by
    simp only [stNs] at e
    obtain ⟨δ1, _, e⟩ := Option.bind_eq_some_iff.mp e
    rw [List.length_cons, List.length_cons, stNs_len e]
theorem dds_reps {K : PySem.W.Frag} {F B H : Hp} {σ : L2.St} {δ : SEnv} : ∀ {ws : List V} {ds : List PyData}, DDs B ws ds → Paired (fun v r => RepR K F B H σ δ v r ∧ ∀ i, r ≠ .o i) ws (ds.map R.d)
  | _, _, .nil => .nil
  | _, _, .cons q r => .cons ⟨q, fun _ z => nomatch z⟩ (dds_reps r)
theorem repo_ds {K : PySem.W.Frag} {F B H : Hp} {σ : L2.St} {δ : SEnv} {ws : List V} {ds : List PyData} (q : DDs B ws ds) : RepO K F B H σ δ ws (ds.map R.d) := by
  refine ⟨dds_reps q, fun i j v w r r' p _ _ _ e _ f => ?_⟩
  rw [List.getElem?_map] at e
  obtain ⟨d, _, rfl⟩ := Option.map_eq_some_iff.mp e
  exact f.elim
theorem repo_pts {K : PySem.W.Frag} {F B H : Hp} {σ : L2.St} {δ : SEnv} {a : Addr} {ps : List Pt} {xs : List V} (ha : H a = some (.tup xs)) (hBF : ∀ p, Foot H a (.tp ps) p → B p = none ∧ F p = none) (q : Paired (PtOk B H a) xs ps)
    (d : ∀ (i j : Nat) (b : Addr) (p q : Pt), ps[i]? = some p → ps[j]? = some q → p.own = true → q.own = true → xs[i]? = some (.ref b) → xs[j]? = some (.ref b) → i = j) (off : Off H σ δ (Foot H a (.tp ps))) : RepO K F B H σ δ xs (ps.map Pt.r) := by
  have one : ∀ {i : Nat} {v : V} {p : Pt}, xs[i]? = some v → ps[i]? = some p → PtOk B H a v p → RepR K F B H σ δ v p.r ∧ (∀ b, rfoot H v p.r b → v = .ref b ∧ p.own = true) := by
    intro i v p e1 e2 z
    cases p with
    | d d =>
      show RepR K F B H σ δ v (.d d) ∧ ∀ b, rfoot H v (.d d) b → _
      exact ⟨z, fun b f => f.elim⟩
    | l ds =>
      show RepR K F B H σ δ v (.n (.l ds)) ∧ ∀ b, rfoot H v (.n (.l ds)) b → _
      obtain ⟨b, zs, rfl, n, hb, qz⟩ := z
      have fb : Foot H a (.tp ps) b := .inr ⟨xs, ha, i, _, e2, rfl, e1⟩
      exact ⟨⟨b, rfl, fun p f => by cases f; exact hBF _ fb, ⟨zs, hb, qz⟩, fun j b' c a' p e3 e4 f f' => by cases f'; exact off j b' c a' _ e3 e4 f fb⟩, fun b' ⟨a', e, f⟩ => by cases e; cases f; exact ⟨rfl, rfl⟩⟩
    | k kvs =>
      show RepR K F B H σ δ v (.n (.k kvs)) ∧ ∀ b, rfoot H v (.n (.k kvs)) b → _
      obtain ⟨b, zs, rfl, n, hb, qz⟩ := z
      have fb : Foot H a (.tp ps) b := .inr ⟨xs, ha, i, _, e2, rfl, e1⟩
      exact ⟨⟨b, rfl, fun p f => by cases f; exact hBF _ fb, ⟨zs, hb, qz⟩, fun j b' c a' p e3 e4 f f' => by cases f'; exact off j b' c a' _ e3 e4 f fb⟩, fun b' ⟨a', e, f⟩ => by cases e; cases f; exact ⟨rfl, rfl⟩⟩
    | p ds =>
      show RepR K F B H σ δ v (.n (.pt ds)) ∧ ∀ b, rfoot H v (.n (.pt ds)) b → _
      obtain ⟨b, o, zs, rfl, hb, ec, ed, qz⟩ := z
      exact ⟨⟨b, rfl, fun p f => f.elim, ⟨o, zs, hb, ec, ed, qz⟩, fun _ _ _ _ _ _ _ _ f => f⟩, fun b' ⟨a', e, f⟩ => f.elim⟩
  refine ⟨?_, fun i j v w r r' p ne e1 e2 e3 e4 f f' => ?_⟩
  · have gen : ∀ {ys : List V} {qs : List Pt}, Paired (PtOk B H a) ys qs → (∀ (i : Nat) (v : V) (p : Pt), ys[i]? = some v → qs[i]? = some p → PtOk B H a v p → RepR K F B H σ δ v p.r) → Paired (fun v r => RepR K F B H σ δ v r ∧ ∀ i, r ≠ .o i) ys (qs.map Pt.r) := by
      intro ys qs h
      induction h with
      | nil => intro _; exact .nil
      | @cons v p _ _ z _ ih => intro f; exact .cons ⟨f 0 v p rfl rfl z, fun i y => by cases p <;> cases y⟩ (ih fun i v p e1 e2 z => f (i + 1) v p (by simpa using e1) (by simpa using e2) z)
    exact gen q fun i v p e1 e2 z => (one e1 e2 z).1
  · rw [List.getElem?_map] at e3 e4
    obtain ⟨p1, g3, rfl⟩ := Option.map_eq_some_iff.mp e3
    obtain ⟨p2, g4, rfl⟩ := Option.map_eq_some_iff.mp e4
    obtain ⟨p1', e5, z1⟩ := paired_at q e1
    obtain ⟨p2', e6, z2⟩ := paired_at q e2
    rw [g3] at e5; cases e5
    rw [g4] at e6; cases e6
    obtain ⟨ev, o1⟩ := (one e1 g3 z1).2 p f
    obtain ⟨ew, o2⟩ := (one e2 g4 z2).2 p f'
    subst ev ew
    exact ne (d i j p p1 p2 g3 g4 o1 o2 e1 e2)
/-- the names of a target -/
def gNames : List Nat → TGs
  | [] => gNil
  | i :: is => gCons (gName i) (gNames is)
theorem gNames_run {H : Hp} {Q : L2.St → Hp → Prop} : ∀ {is : List Nat} {ws : List V} {σ : L2.St}, is.length = ws.length → Q (sets σ is ws) H → gNames is ws σ H Q
  | [], [], _, _, q => ⟨rfl, q⟩
  | [], _ :: _, _, l, _ => by cases l
  | _ :: _, [], _, l, _ => by cases l
  | i :: is, w :: ws, σ, l, q => ⟨w, ws, rfl, gNames_run (σ := σ.set i (some w)) (by simpa using l) q⟩
def DNs (S : Sg) (tgs : List Expr) (is : List Nat) : Prop := ∀ c, S.ok c → PGs (S.g.cx c) tgs (gNames is)
section
variable {S : Sg}
theorem dns_nil : DNs S [] [] := fun _ _ => pgs_nil
theorem dns_cons {i : Nat} {is : List Nat} {x : Str} {p : Pos} {es : List Expr} (hi : S.N[i]? = some x) (hx : Loc S.sc x) (h : DNs S es is) (ht : S.top = true ∨ S.sc.names.lookup x = some .local := by first | exact .inl rfl | exact .inr rfl)
    (hs : ∀ env, (assignEach (.Name x p :: es) env).map (·.2) = assign (.Name x p) env :: (assignEach es env).map (·.2) := by intro _; rfl) : DNs S (.Name x p :: es) (i :: is) :=
  fun c hc => pgs_cons (pg_name (X := S.g.cx c) (by show c.N.Nodup; rw [hc.hN]; exact hc.nd) (by show c.N[i]? = _; rw [hc.hN]; exact hi) (by show Loc c.env.scope x; rw [hc.hs]; exact hx) (fn_ok hc ht)) (h c hc) (hs _)
theorem ds_unp {tgs : List Expr} {k n : Nat} {is : List Nat} {pt pos : Pos} {e : Expr} {wa : WE} (h : DE S e wa) (hg : DNs S tgs is) (hl : is.length = n) (hn : ∀ env, (assignEach tgs env).length = n := by intro _; rfl) (hst : ∀ env, (assignEach tgs env).findIdx? (·.1) = none := by intro _; rfl)
    (hs : ∀ env, swapsWithSole [.Tuple tgs k pt] e pos.line env = pure false := by intro _; rfl) (hw : ∀ c, S.ok c → swappedStores [.Tuple tgs k pt] e c.env = pure none := by intro _ _; rfl) (h1 : ∀ env, (assignEach [.Tuple tgs k pt] env).map (·.2) = [assign (.Tuple tgs k pt) env] := by intro _; rfl) :
    DS S (.Assign [.Tuple tgs k pt] e pos) (wUnp is wa) := by
  obtain ⟨t, p, s⟩ := h
  refine ⟨tAsg t (gTup S.g.K n (gNames is)), fun c hc => ps_asg (p c hc) (pg_tup (X := S.g.cx c) hc.calm (hg c hc) (hn _) (hst _)) (hs _) (hw c hc) (h1 _), ⟨fun d d' δ h w => s.mono _ _ _ _ _ h.ex (fun r δ1 w => w.imp fun p w => h.nx _ w) w, fun F B H vs σ δ D d hx h k w => ?_⟩⟩
  refine s.run _ _ _ _ _ _ _ _ _ hx h w fun B1 H1 v r δ1 s1 h1 q1 w1 => ?_
  obtain ⟨δ2, e1, w1⟩ := w1
  have dat : ((frz δ1 r).bind fun p => match p.1 with | .tuple ds => stNs p.2 is (ds.map R.d) | _ => none) = some δ2 → gTup S.g.K n (gNames is) v σ H1 D.nx := by
    intro e1
    obtain ⟨⟨d0, δ3⟩, e2, e1⟩ := Option.bind_eq_some_iff.mp e1
    obtain ⟨B2, s2, h2, q2⟩ := frz_ok h1 q1 e2
    cases q2 with
    | @tup a xs ds r3 q3 =>
      have h3 := stNs_ok h2 (repo_ds q3) e1
      have l := stNs_len e1
      rw [List.length_map] at l
      exact ⟨a, xs, rfl, .inl (PlT.mono h2.sb r3).rd, by rw [q3.length, ← l, hl], gNames_run (by rw [l, q3.length]) (k.nx B2 _ H1 _ (s1.trans s2) h3 w1)⟩
    | _ => cases e1
  cases r with
  | n c =>
    cases c with
    | tp ps =>
      obtain ⟨a, rfl, hBF, ⟨xs, hx2, qx, dx⟩, off⟩ := q1
      have h3 := stNs_ok h1 (repo_pts hx2 hBF qx dx off) e1
      have l := stNs_len e1
      rw [List.length_map] at l
      have lx := Paired.length qx
      exact ⟨a, xs, rfl, .inl (.inl hx2), by rw [lx, ← l, hl], gNames_run (by rw [l, lx]) (k.nx B1 _ H1 _ s1 h3 w1)⟩
    | _ => exact dat e1
  | _ => exact dat e1
end
end DL
set_option Elab.async false
set_option linter.all false
set_option maxRecDepth 100000
set_option maxHeartbeats 4000000
set_option autoImplicit false
namespace DL
open PySem PySem.Spec PyProof.Rows L2
def maxL : List Int → Int
  | [] => 0
  | n :: ns => ns.foldl (fun a b => if b > a then b else a) n
theorem foldl_max : ∀ (ns : List Int) (n : Int), (ns.foldl (fun a b => if b > a then b else a) n = n ∨ ns.foldl (fun a b => if b > a then b else a) n ∈ ns) ∧ n ≤ ns.foldl (fun a b => if b > a then b else a) n ∧ ∀ m ∈ ns, m ≤ ns.foldl (fun a b => if b > a then b else a) n
  | [], n => ⟨.inl rfl, Int.le_refl _, fun m h => by simp at h⟩
  | m :: ns, n => by
    rw [List.foldl_cons]
    obtain ⟨h1, h2, h3⟩ := foldl_max ns (if m > n then m else n)
    refine ⟨?_, ?_, fun k hk => ?_⟩
    · rcases h1 with h1 | h1
      · rw [h1]
        split
        · exact .inr List.mem_cons_self
        · exact .inl rfl
      · exact .inr (List.mem_cons_of_mem _ h1)
    · refine Int.le_trans ?_ h2; split <;> omega
    · rcases List.mem_cons.mp hk with e | e
      · subst e; refine Int.le_trans ?_ h2; split <;> omega
      · exact h3 k e
theorem maxL_mem {ns : List Int} (h : 0 < ns.length) : maxL ns ∈ ns ∧ ∀ m ∈ ns, m ≤ maxL ns := by
  cases ns with
  | nil => simp at h
  | cons n ns =>
    obtain ⟨h1, h2, h3⟩ := foldl_max ns n
    refine ⟨?_, fun m hm => ?_⟩
    · rcases h1 with h1 | h1
      · show ns.foldl _ n ∈ _; rw [h1]; exact List.mem_cons_self
      · exact List.mem_cons_of_mem _ h1
    · rcases List.mem_cons.mp hm with e | e
      · subst e; exact h2
      · exact h3 m e
theorem maxL_one {ns : List Int} {m : Int} (h : m ∈ ns) (hm : ∀ y ∈ ns, y ≤ m) : m = maxL ns := by
  obtain ⟨h1, h2⟩ := maxL_mem (List.length_pos_of_mem h)
  exact Int.le_antisymm (h2 m h) (hm _ h1)
def maxF2 : List Vw → Option Rv
  | [.d (.int i), .d (.int j)] => some (.val (.int (if j > i then j else i)))
  | [.d (.list ds)] => (numsD ds).bind fun ns => if 0 < ns.length then some (.val (.int (maxL ns))) else none
  | _ => none
theorem cs_max2 {S : Sg} : CallS S (.builtin "max") maxF2 := by
  rintro c hc pins s σ H xs us Q I rv ⟨B, as, r, sB, ov, e, k⟩
  unfold maxF2 at e
  split at e
  · cases e
    obtain ⟨v, u, rfl, q1, q2⟩ := ovs2 ov
    cases ov_int q1; cases ov_int q2
    exact call_max2 hc.calm pins s σ H _ us Q I rv ⟨_, _, rfl, k _ (.int _)⟩
  · obtain ⟨ns, e1, e⟩ := Option.bind_eq_some_iff.mp e
    split at e
    · cases e
      obtain ⟨v, rfl, q⟩ := ovs1 ov
      obtain ⟨p, xs, rfl, hr, qx⟩ := ov_lst sB q
      cases nums_dd e1 qx
      refine cr_max hc.calm pins s σ H _ us Q I rv ⟨p, ns, rfl, .inl hr, by assumption, fun m hm hle => ?_⟩
      rw [maxL_one hm hle]
      exact k _ (.int _)
    · cases e
  · cases e
def wPopI (i : Nat) (wa : WE) : WE := fun Ex δ P => ob (ownL δ i) fun _ => wa Ex δ fun r δ1 => ob (view δ1 r) fun w => ob (intV w) fun n => ob (ownL δ1 i) fun q => (-(2 ^ 63) ≤ n ∧ n < 2 ^ 63) ∧ ob (ixN q.2.length n) fun j => ob (q.2[j]?) fun d => P (.d d) (δ1.set i (some (.o q.1 (.l (q.2.eraseIdx j)))))
theorem dds_erase {B : Hp} : ∀ {xs : List V} {ds : List PyData} (j : Nat), DDs B xs ds → DDs B (xs.eraseIdx j) (ds.eraseIdx j)
  | _, _, _, .nil => .nil
  | _, _, 0, .cons _ r => r
  | _, _, j + 1, .cons q r => .cons q (dds_erase j r)
section
variable {S : Sg}
theorem de_popI {i : Nat} {x : Str} {e : Expr} {wa : WE} {p apos cpos : Pos} (hN : S.N[i]? = some x) (hv : Vis S.sc x) (ha : DE S e wa) (hd : (x == ("__debug__" : Str)) = false := by decide) (hcd : (x == ("__classdict__" : Str)) = false := by decide)
    (hb : ∀ env, attributeBase (.Name x p) "pop" env (eval (.Name x p) env) = eval (.Name x p) env := by intro _; rfl) (hf : few cpos e := by intro _; rfl) (hl : (apos.endLine == cpos.line) = true := by rfl)
    (hs : ∀ env, starEach [e] env = (false, eval e env) :: starEach [] env := by intro _; rfl) (hp : ∀ env, (backTo cpos (starEach [] env)).any (·.1) = false := by intro _; rfl) :
    DE S (.Call (.Attribute (.Name x p) "pop" apos) [e] [] cpos) (wPopI i wa) := by
  obtain ⟨t, pa, s⟩ := ha
  refine ⟨tBM S.g.K "list" rPopAt (tVar i) (tCons t tNil), fun c hc => pe_bm (X := S.g.cx c) PySem.F.plainAttrs_list PySem.F.slot_list_pop PySem.F.type_list_pop mt_popAt (vis_v hc hN hv hd hcd) (pa_cons (pa c hc) pa_nil (hs _)) (hb _) (hf _) hl (hs _) (hp _), ⟨fun Ex Ex' δ P P' hx h w => ?_, fun Ex F B H vs σ δ P Q hx h w k => ?_⟩⟩
  · exact w.imp fun _ w => s.mono _ _ _ _ _ hx (fun r δ1 w => w.imp fun p w => w.imp fun q w => w.imp fun q w => ⟨w.1, w.2.imp fun j w => w.imp fun d w => h _ _ w⟩) w
  · obtain ⟨⟨b0, ds0⟩, e0, w⟩ := w
    have a0 := ownL_at e0
    obtain ⟨v, ev, a, rfl, hBF, xs, hx0, q0⟩ := h.ok i _ a0
    refine ⟨_, ev, .inl ⟨rfl, xs, SqL.of hx0⟩, ?_⟩
    refine s.run _ _ _ _ _ _ _ _ _ hx h w fun B1 H1 y r δ1 s1 h1 q1 w1 => ?_
    obtain ⟨vw, e1, n, e2, ⟨b, ds⟩, e3, ⟨l1, l2⟩, j, e4, d, e5, w1⟩ := w1
    cases intV_ok (view_ok h1 q1 e1) e2
    have a2 := ownL_at e3
    obtain ⟨a', ea, hBF2, ys, hy, qy⟩ := own_at h1 a2 ev
    cases ea
    have e4 : ixN ds.length n = some j := e4
    obtain ⟨z, e6, qz⟩ := qy.get e5
    refine ⟨a, ys, n, j, z, rfl, rfl, hy, l1, l2, (ixN_seq (by rw [qy.length]; exact e4)).1, e6, ?_⟩
    exact k B1 _ z (.d d) _ s1 (h1.mutate (c' := .l (ds.eraseIdx j)) a2 ev ⟨_, upd_same, dds_erase j qy⟩) qz w1
end
end DL
set_option Elab.async false
set_option linter.all false
set_option maxRecDepth 100000
set_option maxHeartbeats 400000
set_option autoImplicit false
namespace DL
open PySem PySem.Spec PyProof.Rows L2
def kvsV : Vw → Option (List (Key × PyData))
  | .k kvs => some kvs
  | _ => none
end DL
set_option Elab.async false
set_option linter.all false
set_option maxRecDepth 100000
set_option maxHeartbeats 1000000
set_option autoImplicit false
namespace DL
open PySem PySem.Spec PyProof.Rows L2
def inN (neg : Bool) (a b : Vw) : Option Rv := match a, b with
  | .d .none, .k _ => some (.val (.bool neg))
  | .d .none, .rk _ => some (.val (.bool neg))
  | .d d, .rk kvs => (keyD d).map fun k => .val (.bool (if neg then !(lookD kvs k).isSome else (lookD kvs k).isSome))
  | a, b => inG neg a b
theorem look_same {B : Hp} {ys : List (Key × V)} {kvs : List (Key × PyData)} (q : KDs B ys kvs) (k : Key) : (valV ys k).isSome = (lookD kvs k).isSome := by
  rcases kds_look q k with ⟨z1, z2⟩ | ⟨_, _, z1, z2, _⟩ <;> rw [z1, z2] <;> rfl
theorem os_inN_ {S : Sg} (neg : Bool) : OpS S (compareOp (if neg then .NotIn else .In)) (inN neg) := by
  rintro c hc pins s σ H x y v u Q I rx ry ⟨B, a, b, rv, sB, oa, ob, e, k⟩
  unfold inN at e
  split at e
  · cases e
    cases ov_non oa
    obtain ⟨p, ys, rfl, hy, _⟩ := ob
    cases (show v = Value.none from rx)
    cases (show u = Value.ref p from ry)
    cases neg
    · exact d_inNone (X := S.g.cx c) I (.inl hy) fun s3 I3 => ⟨.bl false, H, I3, rfl, k _ (.bl _)⟩
    · exact d_notInNone (X := S.g.cx c) I (.inl hy) fun s3 I3 => ⟨.bl true, H, I3, rfl, k _ (.bl _)⟩
  · cases e
    cases ov_non oa
    obtain ⟨p, ys, rfl, hy, _⟩ := ob
    cases (show v = Value.none from rx)
    cases (show u = Value.ref p from ry)
    cases neg
    · exact d_inNone (X := S.g.cx c) I hy fun s3 I3 => ⟨.bl false, H, I3, rfl, k _ (.bl _)⟩
    · exact d_notInNone (X := S.g.cx c) I hy fun s3 I3 => ⟨.bl true, H, I3, rfl, k _ (.bl _)⟩
  · obtain ⟨kk, e1, e⟩ := Option.map_eq_some_iff.mp e
    subst e
    obtain ⟨p, ys, rfl, hy, qy⟩ := ob
    have ey : x = kV kk := by
      rcases oa with oa | ⟨_, _, _, _, z, _⟩
      · exact key_dd e1 oa
      · subst z; cases e1
    subst ey
    have g : DGet H p (kV kk) (valV ys kk) := .inl ⟨ys, kk, hy, rfl, rfl⟩
    have ei := look_same qy kk
    cases (show u = Value.ref p from ry)
    cases neg
    · exact d_in (hu_of hc.room) I g rx fun s3 I3 => ⟨.bl (valV ys kk).isSome, H, I3, rfl, by rw [ei]; exact k _ (.bl _)⟩
    · exact d_notIn (hu_of hc.room) I g rx fun s3 I3 => ⟨.bl (!(valV ys kk).isSome), H, I3, rfl, by rw [ei]; exact k _ (.bl _)⟩
  · exact os_in_ neg c hc pins s σ H x y v u Q I rx ry ⟨B, _, _, rv, sB, oa, ob, e, k⟩
section
variable {X : Cx} {pins : List (Addr × Obj)} {σ : L2.St} {H : Hp} {s : Shared} {a : Addr} {kvs : List (Key × V)} {A : Around} {E : Value → Shared → Prop} {r : Value}
theorem d_get2None {Q : Value → Shared → Prop} (I : Inv X pins σ H s) (e : Rd H a (.dK kvs)) (h : ∀ s', Inv X pins σ H s' → Q r s') : wpAny (model X.prog X.w) A (call (.builtin "dict.get") [.ref a, .none, r]) Q E s := by
  obtain ⟨_, hd, vs, _, dd⟩ := dk_rd I.hok e
  obtain ⟨f, hm, hf⟩ := none_map dd
  refine call_meetsIn PySem.F.slot_dict_get dd.typeIs PySem.F.entry_dict_get (PySem.F.args_dict_get_3 _ _ _) (meets_dict_get_default (noneKind X.prog X.w) a (k := none) rfl hd r) ⟨_, hm, ?_⟩
  rw [hf]
  exact h _ (I.tok _)
end
/-- d.get(y, x), y perhaps None -/
def tDGetN (td ty tx : TE) : TE := fun σ H Q => td σ H fun x H1 => ∃ a, x = V.ref a ∧ IsD H1 a ∧ ty σ H1 fun y H2 => tx σ H2 fun z H3 => (∃ o, DGet H3 a y o ∧ Q (o.getD z) H3) ∨ (y = .non ∧ ∃ kvs, Rd H3 a (.dK kvs) ∧ Q z H3)
section
variable {X : Cx} {o e f : Expr} {td ty tx : TE} {apos cpos : Pos}
theorem pe_dgetN (hu : X.A.units + 1 < cLine) (ho : PE X o td) (he : PE X e ty) (hf : PE X f tx) (m : M2 X o "get" apos e f cpos) : PE X (.Call (.Attribute o "get" apos) [e, f] [] cpos) (tDGetN td ty tx) := by
  refine ⟨fun pins s σ H Q I h => ?_⟩
  refine wpAny_Call_method m.base m.few m.line PySem.F.plainAttrs_dict PySem.F.slot_dict_get PySem.F.type_dict_get (thn (ho.run pins s σ H _ I h) fun u s1 ⟨x, H1, I1, rx, a, ex, d, q1⟩ => ?_)
  subst ex
  cases (show u = Value.ref a from rx)
  obtain ⟨t1, t2, _⟩ := isD_at I1 d
  refine ⟨t1, t2, ?_⟩
  rw [m.trees]
  refine Calls.callWith_builtin rfl (Calls.evalArgs_plain (Calls.spliced_cons (thn (he.run pins s1 σ H1 _ I1 q1) fun iv s2 ⟨y, H2, I2, ry, q2⟩ => Calls.spliced_cons (thn (hf.run pins s2 σ H2 _ I2 q2) fun fv s3 ⟨z, H3, I3, rz, q3⟩ => Calls.spliced_nil ?_))))
  rcases q3 with ⟨ov, g, q3⟩ | ⟨ey, kvs, hr, q3⟩
  · exact d_get2 hu I3 g ry rz fun w' s4 I4 rw' => ⟨_, H3, I4, rw', q3⟩
  · subst ey
    cases (show iv = Value.none from ry)
    exact d_get2None I3 hr fun s4 I4 => ⟨z, H3, I4, rz, q3⟩
end
/-- what a dict of ints and texts has under a thing, None too -/
def keyN (w : Vw) : Option (Option Key) := match w with
  | .d .none => some none
  | w => (keyV w).map some
def lookN (kvs : List (Key × PyData)) : Option Key → Option PyData
  | none => none
  | some k => lookD kvs k
/-- an own dict, locked or not -/
def ownR (δ : SEnv) (i : Nat) : Option (List (Key × PyData)) := match δ[i]? with
  | some (some (.o _ (.k kvs))) => some kvs
  | some (some (.o _ (.fk _ kvs))) => some kvs
  | _ => none
theorem ownR_at {K : PySem.W.Frag} {F B H : Hp} {vs : List V} {σ : L2.St} {δ : SEnv} {i : Nat} {kvs : List (Key × PyData)} {v : V} (h : Rep K F B H vs σ δ) (e : ownR δ i = some kvs) (ev : σ[i]? = some (some v)) : ∃ a ys, v = .ref a ∧ Rd H a (.dK ys) ∧ KDs B ys kvs := by
  unfold ownR at e
  split at e
  · cases e
    obtain ⟨a, rfl, _, ys, hy, qy⟩ := own_at h (by assumption) ev
    exact ⟨a, ys, rfl, .inl hy, qy⟩
  · cases e
    obtain ⟨a, rfl, _, _, o, ys, hy, qy⟩ := own_at h (by assumption) ev
    exact ⟨a, ys, rfl, .inr ⟨o, h.sb _ _ hy⟩, qy⟩
  · cases e
theorem ownR_there {K : PySem.W.Frag} {F B H : Hp} {vs : List V} {σ : L2.St} {δ : SEnv} {i : Nat} {kvs : List (Key × PyData)} (h : Rep K F B H vs σ δ) (e : ownR δ i = some kvs) : ∃ v, σ[i]? = some (some v) := by
  unfold ownR at e
  split at e
  · obtain ⟨v, e1, _⟩ := h.ok i _ (by assumption); exact ⟨v, e1⟩
  · obtain ⟨v, e1, _⟩ := h.ok i _ (by assumption); exact ⟨v, e1⟩
  · cases e
def wGetN (i : Nat) (wa wb : WE) : WE := fun Ex δ P => ob (ownR δ i) fun _ => wa Ex δ fun r δ1 => ob (view δ1 r) fun w => ob (keyN w) fun k => wb Ex δ1 fun r2 δ2 => ob (frz δ2 r2) fun p => ob (ownR p.2 i) fun q => P (.d ((lookN q k).getD p.1)) p.2
section
variable {S : Sg}
theorem de_getN {i : Nat} {x : Str} {e f : Expr} {wa wb : WE} {p apos cpos : Pos} (hN : S.N[i]? = some x) (hv : Vis S.sc x) (ha : DE S e wa) (hf : DE S f wb) (hd : (x == ("__debug__" : Str)) = false := by decide) (hcd : (x == ("__classdict__" : Str)) = false := by decide)
    (hm : ∀ X : Cx, M2 X (.Name x p) "get" apos e f cpos := by exact fun _ => ⟨rfl, rfl, rfl, rfl⟩) : DE S (.Call (.Attribute (.Name x p) "get" apos) [e, f] [] cpos) (wGetN i wa wb) := by
  obtain ⟨t, pa, s⟩ := ha
  obtain ⟨tf, pf, sf⟩ := hf
  refine ⟨tDGetN (tVar i) t tf, fun c hc => pe_dgetN (X := S.g.cx c) (hu_of hc.room) (vis_v hc hN hv hd hcd) (pa c hc) (pf c hc) (hm _), ⟨fun Ex Ex' δ P P' hx h w => ?_, fun Ex F B H vs σ δ P Q hx h w k => ?_⟩⟩
  · exact w.imp fun _ w => s.mono _ _ _ _ _ hx (fun r δ1 w => w.imp fun a w => w.imp fun kk w => sf.mono _ _ _ _ _ hx (fun r2 δ2 w => w.imp fun p w => w.imp fun q w => h _ _ w) w) w
  · obtain ⟨kvs0, e0, w⟩ := w
    obtain ⟨v, ev⟩ := ownR_there h e0
    obtain ⟨a, ys0, rfl, hy0, _⟩ := ownR_at h e0 ev
    refine ⟨_, ev, a, rfl, .inl ⟨ys0, hy0⟩, ?_⟩
    refine s.run _ _ _ _ _ _ _ _ _ hx h w fun B1 H1 y r δ1 s1 h1 q1 w1 => ?_
    obtain ⟨vw, e1, kk, e2, w1⟩ := w1
    have ov := view_ok h1 q1 e1
    refine sf.run _ _ _ _ _ _ _ _ _ (hx.up s1) h1 w1 fun B2 H2 z r2 δ2 s2 h2 q2 w2 => ?_
    obtain ⟨⟨d0, δ3⟩, e4, kvs, e3, w2⟩ := w2
    obtain ⟨B3, s3, h3, q3⟩ := frz_ok h2 q2 e4
    obtain ⟨a', ys, ea, hy, qy⟩ := ownR_at h3 e3 ev
    cases ea
    unfold keyN at e2
    split at e2
    · cases e2
      cases ov_non ov
      exact .inr ⟨rfl, ys, hy, k B3 _ z (.d d0) _ ((s1.trans s2).trans s3) h3 q3 w2⟩
    · obtain ⟨kk', e5, rfl⟩ := Option.map_eq_some_iff.mp e2
      have ey := key_ov ov e5
      subst ey
      refine .inl ⟨_, .inl ⟨ys, kk', hy, rfl, rfl⟩, ?_⟩
      rcases kds_look qy kk' with ⟨z1, z2⟩ | ⟨v', d', z1, z2, q2⟩
      · rw [z2]
        rw [show lookN kvs (some kk') = none from z1] at w2
        exact k B3 _ z (.d d0) _ ((s1.trans s2).trans s3) h3 q3 w2
      · rw [z2]
        rw [show lookN kvs (some kk') = some d' from z1] at w2
        exact k B3 _ v' (.d d') _ ((s1.trans s2).trans s3) h3 q2 w2
end
end DL
set_option Elab.async false
set_option linter.all false
set_option maxRecDepth 100000
set_option maxHeartbeats 1000000
set_option autoImplicit false
namespace DL
open PySem PySem.Spec PyProof.Rows L2
def delH (B : Hp) (a : Addr) : Hp := fun p => if p = a then none else B p
theorem del_ne {B : Hp} {a p : Addr} (h : p ≠ a) : delH B a p = B p := by unfold delH; rw [if_neg h]
theorem del_at {B : Hp} {a : Addr} : delH B a a = none := by unfold delH; rw [if_pos rfl]
def NoSeq (B : Hp) (a : Addr) : Prop := ∀ xs, ¬ Rd B a (.lst xs) ∧ ¬ Rd B a (.tup xs)
theorem rd_del {B : Hp} {a p : Addr} {u : HO} (h : Rd B p u) (n : p ≠ a) : Rd (delH B a) p u := by
  unfold Rd; rw [del_ne n]; exact h
theorem pl_del {B : Hp} {a p : Addr} {xs : List V} (h : PlT B p xs) (n : p ≠ a) : PlT (delH B a) p xs := by
  obtain ⟨o, e, r⟩ := h
  exact ⟨o, by rw [del_ne n]; exact e, r⟩
mutual
theorem DD.del {B : Hp} {a : Addr} (n : NoSeq B a) : ∀ {v : V} {d : PyData}, DD B v d → DD (delH B a) v d
  | _, _, .non => .non
  | _, _, .bl b => .bl b
  | _, _, .int i => .int i
  | _, _, .str x => .str x
  | _, _, .lst r q => .lst (rd_del r fun e => (n _).1 (e ▸ r)) (DDs.del n q)
  | _, _, .tup (xs := xs) r q => .tup (pl_del r fun e => (n xs).2 (e ▸ r.rd)) (DDs.del n q)
theorem DDs.del {B : Hp} {a : Addr} (n : NoSeq B a) : ∀ {vs : List V} {ds : List PyData}, DDs B vs ds → DDs (delH B a) vs ds
  | _, _, .nil => .nil
  | _, _, .cons q r => .cons (DD.del n q) (DDs.del n r)
end
theorem KDs.del {κ : Type} {B : Hp} {a : Addr} (n : NoSeq B a) {ys : List (κ × V)} {kvs : List (κ × PyData)} (q : KDs B ys kvs) : KDs (delH B a) ys kvs := Paired.mapP q fun _ _ z => ⟨z.1, z.2.del n⟩
theorem TIs.del {B : Hp} {a : Addr} (n : NoSeq B a) {xs : List (List Int × Addr × Value)} {kvs : List (List Int × PyData)} (q : TIs B xs kvs) : TIs (delH B a) xs kvs := Paired.mapP q fun _ _ z => ⟨z.1, pl_del z.2.1 fun e => (n _).2 (e ▸ z.2.1.rd), z.2.2.imp fun _ y => ⟨y.1, y.2.del n⟩⟩
def fkAt (a : Addr) : Cont → Prop
  | .fk d _ => d = a
  | _ => False
mutual
theorem OTk.del {B H : Hp} {a : Addr} (n : NoSeq B a) : ∀ {v : V} {t : OT}, OTk B H v t → OTk (delH B a) H v t
  | _, _, .d q => .d (q.del n)
  | _, _, .n h q => .n h (OTks.del n q)
theorem OTks.del {B H : Hp} {a : Addr} (n : NoSeq B a) : ∀ {ys : List (Key × V)} {ts : List (Key × OT)}, OTks B H ys ts → OTks (delH B a) H ys ts
  | _, _, .nil => .nil
  | _, _, .cons q r => .cons (OTk.del n q) (OTks.del n r)
end
theorem ContOk.del {B H : Hp} {a p : Addr} {c : Cont} (n : NoSeq B a) (nf : ¬ fkAt a c) (q : ContOk B H p c) : ContOk (delH B a) H p c := by
  cases c with
  | l ds => obtain ⟨xs, e, r⟩ := q; exact ⟨xs, e, r.del n⟩
  | k kvs => obtain ⟨xs, e, r⟩ := q; exact ⟨xs, e, r.del n⟩
  | t kvs => obtain ⟨xs, r⟩ := q; exact ⟨xs, r.here, r.big, r.few, r.nd, r.are.del n⟩
  | pt ds => obtain ⟨o, xs, e, ec, ed, r⟩ := q; exact ⟨o, xs, (del_ne fun z => (n xs).2 (by subst z; exact .inr ⟨o, e⟩)).trans e, ec, ed, r.del n⟩
  | fk d kvs =>
    obtain ⟨rfl, o, xs, e, r⟩ := q
    exact ⟨rfl, o, xs, (del_ne fun z => nf z).trans e, r.del n⟩
  | ot t => exact ⟨q.1.del n, q.2⟩
  | al _ _ _ => exact q
  | tp ps =>
    obtain ⟨xs, e, r, d⟩ := q
    refine ⟨xs, e, Paired.mapP r fun x y z => ?_, d⟩
    cases y with
    | d _ => exact DD.del n z
    | l _ => obtain ⟨b, zs, e1, e2, e3, e4⟩ := z; exact ⟨b, zs, e1, e2, e3, e4.del n⟩
    | k _ => obtain ⟨b, zs, e1, e2, e3, e4⟩ := z; exact ⟨b, zs, e1, e2, e3, e4.del n⟩
    | p _ => obtain ⟨b, o, zs, e1, e3, ec, ed, e4⟩ := z; exact ⟨b, o, zs, e1, (del_ne fun z => (n zs).2 (by subst z; exact .inr ⟨o, e3⟩)).trans e3, ec, ed, e4.del n⟩
section
variable {K : PySem.W.Frag} {F B H : Hp} {vs : List V} {σ : L2.St} {δ : SEnv}
theorem Rep.lock (h : Rep K F B H vs σ δ) {i : Nat} {b : Bool} {kvs : List (Key × PyData)} {a : Addr} {ys : List (Key × V)} (e : δ[i]? = some (some (.o b (.k kvs)))) (ea : σ[i]? = some (some (.ref a))) (hy : H a = some (.dK ys)) (od : Obj) :
    Rep K F (upd B a (.frz od (.dK ys))) (upd H a (.frz od (.dK ys))) vs σ (δ.set i (some (.o b (.fk a kvs)))) ∧ Same B (upd B a (.frz od (.dK ys))) := by
  obtain ⟨hBF, ys', hy', qy⟩ := h.own_up e ea
  rw [hy] at hy'; cases hy'
  have hB := (hBF a foot_self).1
  have hF := (hBF a foot_self).2
  have sB : Same B (upd B a (.frz od (.dK ys))) := same_new hB _
  have ne : ∀ {j : Nat} {b2 : Bool} {c2 : Cont} {a2 p : Addr}, j ≠ i → δ[j]? = some (some (.o b2 c2)) → σ[j]? = some (some (.ref a2)) → Foot H a2 c2 p → p ≠ a := fun n z e2 f w => by
    subst w; exact n (h.apart _ _ _ _ _ _ _ _ _ z e e2 ea f foot_self)
  have sm : ∀ {j : Nat} {b2 : Bool} {c2 : Cont} {a2 p : Addr}, j ≠ i → δ[j]? = some (some (.o b2 c2)) → σ[j]? = some (some (.ref a2)) → (Foot (upd H a (.frz od (.dK ys))) a2 c2 p ↔ Foot H a2 c2 p) := fun n z e2 => foot_eq fun p f => upd_ne (ne n z e2 f)
  refine ⟨⟨fun p u z => ?_, fun p u z => ?_, fun p u z => ?_, by rw [List.length_set]; exact h.len, fun j s z => ?_, fun j k a1 a2 p b1 c1 b2 c2 z1 z2 z3 z4 f1 f2 => ?_, fun j c1 z => ?_, nt_upd h.nt (by intro _ z; cases z)⟩, sB⟩
  · by_cases hp : p = a
    · subst hp; rw [upd_same] at z ⊢; exact z
    · rw [upd_ne hp] at z ⊢; exact h.sb p u z
  · rw [upd_ne (ne_of_none z hF)]; exact h.sf p u z
  · rw [upd_ne (ne_of_none z hF)]; exact h.dj p u z
  · rcases set_get z with ⟨ej, z'⟩ | ⟨n, z'⟩
    · subst ej; cases z'; exact ⟨_, ea, a, rfl, fun p f => f.elim, rfl, od, ys, upd_same, qy.mono sB⟩
    · obtain ⟨v, e2, q2⟩ := h.ok j s z'
      refine ⟨v, e2, ?_⟩
      cases s with
      | d d => exact DD.mono sB q2
      | w d => exact q2
      | o b2 c2 =>
        obtain ⟨p, e3, hBF2, q3⟩ := q2
        subst e3
        refine ⟨p, rfl, fun r f => ?_, q3.mono sB fun r f => upd_ne (ne n z' e2 f)⟩
        have f' := (sm n z' e2).mp f
        rw [upd_ne (ne n z' e2 f')]
        exact hBF2 r f'
  · rcases set_get z1 with ⟨ej, y1⟩ | ⟨nj, y1⟩
    · cases y1; exact f1.elim
    · rcases set_get z2 with ⟨ek, y2⟩ | ⟨nk, y2⟩
      · cases y2; exact f2.elim
      · exact h.apart j k a1 a2 p b1 c1 b2 c2 y1 y2 z3 z4 ((sm nj y1 z3).mp f1) ((sm nk y2 z4).mp f2)
  · rcases set_get z with ⟨ej, z'⟩ | ⟨n, z'⟩
    · subst ej; cases z'; exact h.bor _ _ e
    · exact h.bor j c1 z'
/-- the only locked slot -/
def OnlyFk (δ : SEnv) (i : Nat) (a : Addr) : Prop := ∀ (j : Nat) (b : Bool) (c : Cont), δ[j]? = some (some (.o b c)) → fkAt a c → j = i
theorem Rep.unlock (h : Rep K F B H vs σ δ) {i : Nat} {b : Bool} {kvs : List (Key × PyData)} {a : Addr} {ys : List (Key × V)} {od : Obj} (e : δ[i]? = some (some (.o b (.fk a kvs)))) (hy : B a = some (.frz od (.dK ys))) (of : OnlyFk δ i a) :
    Rep K F (delH B a) (upd H a (.dK ys)) vs σ (δ.set i (some (.o b (.k kvs)))) ∧ H a = some (.frz od (.dK ys)) ∧ NoSeq B a := by
  have n : NoSeq B a := fun xs => ⟨fun r => by rcases r with r | ⟨o, r⟩ <;> (rw [hy] at r; cases r), fun r => by rcases r with r | ⟨o, r⟩ <;> (rw [hy] at r; cases r)⟩
  obtain ⟨v, ea, a', ev, _, ed, o, ys', hy', qy⟩ := h.ok i _ e
  subst ed ev
  rw [hy] at hy'; cases hy'
  have hF : F a' = none := by
    cases q : F a' with
    | none => rfl
    | some u => have := h.dj a' u q; rw [hy] at this; cases this
  have ne : ∀ {j : Nat} {b2 : Bool} {c2 : Cont} {a2 p : Addr}, δ[j]? = some (some (.o b2 c2)) → σ[j]? = some (some (.ref a2)) → Foot H a2 c2 p → p ≠ a' := fun z e2 f w => by
    have := ((h.own_up z e2).1 _ f).1
    rw [w, hy] at this; cases this
  have sm : ∀ {j : Nat} {b2 : Bool} {c2 : Cont} {a2 p : Addr}, δ[j]? = some (some (.o b2 c2)) → σ[j]? = some (some (.ref a2)) → (Foot (upd H a' (.dK ys)) a2 c2 p ↔ Foot H a2 c2 p) := fun z e2 => foot_eq fun p f => upd_ne (ne z e2 f)
  refine ⟨⟨fun p u z => ?_, fun p u z => ?_, fun p u z => ?_, by rw [List.length_set]; exact h.len, fun j s z => ?_, fun j k a1 a2 p b1 c1 b2 c2 z1 z2 z3 z4 f1 f2 => ?_, fun j c1 z => ?_, fun p ps z => by (by_cases hp : p = a'); (subst hp; rw [del_at] at z; cases z); (rw [del_ne hp] at z; exact h.nt _ _ z)⟩, h.sb _ _ hy, n⟩
  · by_cases hp : p = a'
    · subst hp; rw [del_at] at z; cases z
    · rw [del_ne hp] at z; rw [upd_ne hp]; exact h.sb p u z
  · rw [upd_ne (ne_of_none z hF)]; exact h.sf p u z
  · rw [del_ne (ne_of_none z hF)]; exact h.dj p u z
  · rcases set_get z with ⟨ej, z'⟩ | ⟨nj, z'⟩
    · subst ej; cases z'; exact ⟨_, ea, a', rfl, foot_bf rfl del_at hF, ys, upd_same, qy.del n⟩
    · obtain ⟨v, e2, q2⟩ := h.ok j s z'
      refine ⟨v, e2, ?_⟩
      cases s with
      | d d => exact DD.del n q2
      | w d => exact q2
      | o b2 c2 =>
        obtain ⟨p, e3, hBF2, q3⟩ := q2
        subst e3
        refine ⟨p, rfl, fun r f => ?_, ContOk.del n (fun z2 => nj (of j b2 c2 z' z2)) (q3.mono (Same.refl _) fun r f => upd_ne (ne z' e2 f))⟩
        have f' := (sm z' e2).mp f
        rw [del_ne (ne z' e2 f')]
        exact hBF2 r f'
  · rcases set_get z1 with ⟨ej, y1⟩ | ⟨nj, y1⟩
    · rcases set_get z2 with ⟨ek, y2⟩ | ⟨nk, y2⟩
      · rw [ej, ek]
      · cases y1; subst ej
        rw [ea] at z3; cases z3
        cases (show p = a' from f1)
        exact absurd rfl (ne y2 z4 ((sm y2 z4).mp f2))
    · rcases set_get z2 with ⟨ek, y2⟩ | ⟨nk, y2⟩
      · cases y2; subst ek
        rw [ea] at z4; cases z4
        cases (show p = a' from f2)
        exact absurd rfl (ne y1 z3 ((sm y1 z3).mp f1))
      · exact h.apart j k a1 a2 p b1 c1 b2 c2 y1 y2 z3 z4 ((sm y1 z3).mp f1) ((sm y2 z4).mp f2)
  · rcases set_get z with ⟨ej, z'⟩ | ⟨nj, z'⟩
    · subst ej; cases z'; exact h.bor _ _ e
    · exact h.bor j c1 z'
theorem same_del {B0 B : Hp} {a : Addr} {o : HO} (h0 : B0 a = none) (s : Same (upd B0 a o) B) : Same B0 (delH B a) := fun p u e => by
  have hp : p ≠ a := ne_of_none e h0
  rw [del_ne hp]; exact s p u (by rw [upd_ne hp]; exact e)
end
/-- how the slots stand when the lock goes -/
def unfk (i : Nat) (b : Bool) (a : Addr) (kvs : List (Key × PyData)) (P : SEnv → Prop) : SEnv → Prop := fun δ => δ[i]? = some (some (.o b (.fk a kvs))) ∧ OnlyFk δ i a ∧ P (δ.set i (some (.o b (.k kvs))))
def simpR : R → Bool
  | .d _ => true
  | .w _ => true
  | .n c => c.simple
  | _ => false
def lockD (d : DEnds) (i : Nat) (b : Bool) (a : Addr) (kvs : List (Key × PyData)) : DEnds := ⟨unfk i b a kvs d.nx, fun r => unfk i b a kvs fun δ => simpR r = true ∧ d.rt r δ, unfk i b a kvs d.bk, unfk i b a kvs d.ct, d.ex⟩
def wLock (i : Nat) (w : WS) : WS := fun d δ => ob (ownK δ i) fun q => ∀ a, w (lockD d i q.1 a q.2) (δ.set i (some (.o q.1 (.fk a q.2))))
theorem lockD_le {d d' : DEnds} {i : Nat} {b : Bool} {a : Addr} {kvs : List (Key × PyData)} (h : d.le d') : (lockD d i b a kvs).le (lockD d' i b a kvs) :=
  ⟨fun δ w => ⟨w.1, w.2.1, h.nx _ w.2.2⟩, fun r δ w => ⟨w.1, w.2.1, w.2.2.1, h.rt _ _ w.2.2.2⟩, fun δ w => ⟨w.1, w.2.1, h.bk _ w.2.2⟩, fun δ w => ⟨w.1, w.2.1, h.ct _ w.2.2⟩, h.ex⟩
section
variable {S : Sg}
theorem ds_lock {st : Stmt} {w : WS} {i : Nat} (h : DS S st w) : DS S st (wLock i w) := by
  obtain ⟨t, p, s⟩ := h
  refine ⟨tLock t, fun c hc => ps_lock (p c hc), ⟨fun d d' δ hd w => w.imp fun q w a => s.mono _ _ _ (lockD_le hd) (w a), fun F B H vs σ δ D d hx h k w => ?_⟩⟩
  obtain ⟨⟨b, kvs⟩, e, w⟩ := w
  have e' := ownK_at e
  obtain ⟨v, ea, a, rfl, hBF, ys, hy, qy⟩ := h.ok i _ e'
  have hB := (hBF a foot_self).1
  refine ⟨a, .dK ys, hy, trivial, fun od => ?_⟩
  obtain ⟨h1, s1⟩ := h.lock e' ea hy od
  have back : ∀ {B' H' : Hp} {σ' : L2.St} {δ' : SEnv}, Same (upd B a (.frz od (.dK ys))) B' → Rep S.g.K F B' H' vs σ' δ' → δ'[i]? = some (some (.o b (.fk a kvs))) → OnlyFk δ' i a → H' a = some (.frz od (.dK ys)) ∧ Same B (delH B' a) ∧ Rep S.g.K F (delH B' a) (upd H' a (.dK ys)) vs σ' (δ'.set i (some (.o b (.k kvs)))) ∧ NoSeq B' a ∧ F a = none := by
    intro B' H' σ' δ' s2 h2 e2 of
    obtain ⟨h3, h4, h5⟩ := h2.unlock e2 (s2 a _ upd_same) of
    exact ⟨h4, same_del hB s2, h3, h5, (hBF a foot_self).2⟩
  refine s.run F _ _ vs σ _ _ (lockD d i b a kvs) (hx.up s1) h1 ⟨fun B' σ' H' δ' s2 h2 q => ?_, fun B' σ' H' δ' v r s2 h2 q2 q => ?_, fun B' σ' H' δ' s2 h2 q => ?_, fun B' σ' H' δ' s2 h2 q => ?_⟩ (w a)
  · obtain ⟨g1, g2, g3, _⟩ := back s2 h2 q.1 q.2.1
    exact ⟨g1, k.nx _ σ' _ _ g2 g3 q.2.2⟩
  · obtain ⟨g1, g2, g3, g4, gF⟩ := back s2 h2 q.1 q.2.1
    obtain ⟨hfk, _, hs, q⟩ := q
    refine ⟨g1, k.rt _ σ' _ _ v r g2 g3 ?_ q⟩
    cases r with
    | d d => exact DD.del g4 q2
    | w d => exact q2
    | o j => cases hs
    | n c =>
      obtain ⟨a2, rfl, hBF2, qc, off⟩ := q2
      have na : a2 ≠ a := fun z => by
        have := (hBF2 a2 (foot_self (real_of hs))).1
        rw [z, s2 a _ upd_same] at this; cases this
      have fe : ∀ p, Foot (upd H' a (.dK ys)) a2 c p ↔ Foot H' a2 c p := fun p => foot_eq fun q f => by cases foot_one hs f; exact upd_ne na
      refine ⟨a2, rfl, fun p f => ?_, ContOk.del g4 (fun z => by cases c <;> first | exact z | cases hs) (qc.mono (Same.refl _) fun p f => by cases foot_one hs f; exact upd_ne na), fun j b' c' a' p e1 e2 f f' => ?_⟩
      · cases foot_one hs f
        rw [del_ne na]; exact hBF2 _ (foot_self (real_of hs))
      · cases foot_one hs f'
        rcases set_get e1 with ⟨ej, z⟩ | ⟨nj, z⟩
        · cases z
          cases (show a2 = a' from f)
          subst ej
          obtain ⟨v', e3, a3, e4, _, e5, _⟩ := h2.ok j _ hfk
          rw [e2] at e3; cases e3; cases e4
          exact na e5
        · have f2 : Foot H' a' c' a2 := by
            refine (foot_eq fun p f => ?_).mp f
            have z2 := ((h2.own_up z e2).1 _ f).1
            exact upd_ne fun w => by rw [w, s2 a _ upd_same] at z2; cases z2
          exact off j b' c' a' a2 z e2 f2 (foot_self (real_of hs))
  · obtain ⟨g1, g2, g3, _⟩ := back s2 h2 q.1 q.2.1
    exact ⟨g1, k.bk _ σ' _ _ g2 g3 q.2.2⟩
  · obtain ⟨g1, g2, g3, _⟩ := back s2 h2 q.1 q.2.1
    exact ⟨g1, k.ct _ σ' _ _ g2 g3 q.2.2⟩
/-- the keys of a locked dict -/
def keyP : Key → PyData
  | .inl n => .int n
  | .inr x => .str x
def fkV : Option (Option Sl) → Option (List (Key × PyData))
  | some (some (.o _ (.fk _ kvs))) => some kvs
  | _ => none
def wItK (i : Nat) : WI := fun _ δ P => ob (fkV δ[i]?) fun kvs => P (kvs.map fun kv => keyP kv.1) δ
theorem keyP_dd {B : Hp} (k : Key) : DD B (kV k) (keyP k) := by
  cases k with
  | inl n => exact .int n
  | inr x => exact .str x
theorem di_keys {tg : Expr} {i : Nat} {x : Str} {p : Pos} (hN : S.N[i]? = some x) (hv : Vis S.sc x) (hd : (x == ("__debug__" : Str)) = false := by decide) (hcd : (x == ("__classdict__" : Str)) = false := by decide) : DI S tg (.Name x p) (wItK i) := by
  refine ⟨iKeys (tVar i), fun c hc => pi_keys (vis_v hc hN hv hd hcd), ⟨fun Ex Ex' δ P P' hx h w => w.imp fun kvs w => h _ _ w, fun Ex F B H vs σ δ P R' hx h w k => ?_⟩⟩
  obtain ⟨kvs, e, w⟩ := w
  have e' : ∃ b a, δ[i]? = some (some (.o b (.fk a kvs))) := by
    unfold fkV at e
    split at e
    · cases e; exact ⟨_, _, by assumption⟩
    · cases e
  obtain ⟨b, a0, e1⟩ := e'
  obtain ⟨v, ev, a, rfl, _, ea, o, ys, hy, qy⟩ := h.ok i _ e1
  refine ⟨_, ev, a, o, rfl, .inl ⟨ys, h.sb _ _ hy, ?_⟩⟩
  refine k B H (Itk a o ys) _ δ (Same.refl _) h ⟨fun j H1 s hj => ⟨s _ _ hy, by rw [List.length_map, ← kds_length qy] at hj; exact hj⟩, fun j H1 s hj => ⟨s _ _ hy, by rw [List.length_map, ← kds_length qy] at hj; exact hj⟩, fun j H1 B2 y H2 d s s2 z e2 => ?_⟩ w
  obtain ⟨e3, kk, vv, e4, e5⟩ := z
  refine yl_same e3 ?_ s
  subst e5
  rw [List.getElem?_map] at e2
  obtain ⟨kv, e6, rfl⟩ := Option.map_eq_some_iff.mp e2
  obtain ⟨kv', e7, e8, _⟩ := paired_at qy e4
  rw [e6] at e7; cases e7
  rw [show kk = kv.1 from e8]
  exact keyP_dd _
end
end DL
set_option Elab.async false
set_option linter.all false
set_option maxRecDepth 100000
set_option maxHeartbeats 1000000
set_option autoImplicit false
namespace DL
open PySem PySem.Spec PyProof.Rows L2
end DL
set_option Elab.async false
set_option linter.all false
set_option maxRecDepth 100000
set_option maxHeartbeats 1000000
set_option autoImplicit false
namespace DL
open PySem PySem.Spec PyProof.Rows L2
theorem ext_tup (l : Addr) (xs : Array Value) (n : Nat) (b : Addr) (ys : Array Value) (m : Nat) (dd : Option Addr) (ss : Array (Option Value)) (h0 : ¬(!xs.isEmpty && Builtin.List.listTooLong (xs.size + ys.size)) = true) (h1 : xs.size ≤ sizeLine) (h2 : xs.size + ys.size ≤ sizeLine + 1) :
    Meets (Builtin.«list.extend» ⟨[.ref l, .ref b], []⟩) (fun _ R s => s.heap.get? l = some { cls := .type "list", dict := none, data := .seq xs n, slots := #[] } ∧ s.heap.get? b = some { cls := .type "tuple", dict := dd, data := .seq ys m, slots := ss } ∧
      R (.ok (.ret Value.none)) { s with heap := s.heap.update l (Obj.mapSeq fun x => x ++ ys), toks := s.toks }) :=
  .of_wp fun prog w A R s h => by
    obtain ⟨a1, a2, a3, a4, a5⟩ := s
    obtain ⟨hl, hb, h⟩ := h
    have f1 := AutoSeq1.idx_int
    have f2 := AutoSeq1.sub_tuple_tuple
    have f3 := AutoSeq1.sub_list_list
    have f4 := AutoSeq1.sub_tuple_list
    have f5 := AutoSeq1.sub_list_tuple
    have z : (xs ++ ys).size ≤ sizeLine + 1 := by rw [Array.size_append]; exact h2
    wp_walk using (wpAny_updateSeq hl rfl (hz := h1) (_hz' := z)), AutoSeq1.wpAny_loadPart' hl, AutoSeq1.wpAny_loadPart' hb
    exact ⟨_, rfl, h⟩
def rExtT (K : PySem.W.Frag) : V → List V → Hp → VK → Prop := fun x vs H Q => ∃ l b xs zs, x = .ref l ∧ vs = [.ref b] ∧ H l = some (.lst xs) ∧ (Rd H b (.lst zs) ∨ SqT K H b zs) ∧ xs.length + zs.length ≤ sizeLine ∧ Q .non (upd H l (.lst (xs ++ zs)))
theorem mt_extT {X : Cx} : MtR X "list.extend" (rExtT X.K) := by
  rintro pins s σ H x vs v us Q I rx rv ⟨l, b, xs, zs, rfl, rfl, hl, hb, hz, q⟩
  rcases hb with hb | hb
  · exact mt_extendRd pins s σ H _ _ v us Q I rx rv ⟨l, b, xs, zs, rfl, rfl, hl, hb, hz, q⟩
  · cases rx
    obtain ⟨u, rfl, ru⟩ := rv.one
    cases ru
    obtain ⟨z1, its, n, r, e⟩ := I.hok l _ hl
    obtain ⟨its2, r2, ⟨⟨c2, d2, dt2, sl2⟩, ho2, hc2, n2, hd2⟩, hz2⟩ := I.tuple hb
    simp only at hc2 hd2
    subst hc2 hd2
    have l1 := r.length
    have l2 := r2.length
    have tot : its.toArray.size + its2.toArray.size ≤ sizeLine := by rw [List.size_toArray, List.size_toArray]; omega
    refine call_meets F.slot_list_extend ⟨_, e, rfl⟩ F.entry_list_extend (F.args_list_extend_2 _ _) (ext_tup l its.toArray n b its2.toArray n2 d2 sl2 (by rw [notLongL tot, Bool.and_false]; exact Bool.false_ne_true) (by rw [List.size_toArray]; omega) (by omega)) ⟨e, ho2, ?_⟩
    exact ⟨.non, _, I.lset (its' := its ++ its2) hl e (by simp) (r.append r2) (by rw [List.length_append]; omega), rfl, q⟩
def seqD : PyData → Option (List PyData)
  | .list ds => some ds
  | .tuple ds => some ds
  | _ => none
def wExtT (i : Nat) (wa : WE) : WE := fun Ex δ P => ob (ownL δ i) fun _ => wa Ex δ fun r δ1 => ob (frz δ1 r) fun p => ob (seqD p.1) fun zs => ob (ownL p.2 i) fun q => q.2.length + zs.length ≤ sizeLine ∧ P (.d .none) (p.2.set i (some (.o q.1 (.l (q.2 ++ zs)))))
section
variable {S : Sg}
theorem de_extT {i : Nat} {x : Str} {e : Expr} {wa : WE} {p apos cpos : Pos} (hN : S.N[i]? = some x) (hv : Vis S.sc x) (ha : DE S e wa) (hd : (x == ("__debug__" : Str)) = false := by decide) (hcd : (x == ("__classdict__" : Str)) = false := by decide)
    (hb : ∀ env, attributeBase (.Name x p) "extend" env (eval (.Name x p) env) = eval (.Name x p) env := by intro _; rfl) (hf : few cpos e := by intro _; rfl) (hl : (apos.endLine == cpos.line) = true := by rfl)
    (hs : ∀ env, starEach [e] env = (false, eval e env) :: starEach [] env := by intro _; rfl) (hp : ∀ env, (backTo cpos (starEach [] env)).any (·.1) = false := by intro _; rfl) :
    DE S (.Call (.Attribute (.Name x p) "extend" apos) [e] [] cpos) (wExtT i wa) := by
  obtain ⟨t, pa, s⟩ := ha
  refine ⟨tBM S.g.K "list" (rExtT S.g.K) (tVar i) (tCons t tNil), fun c hc => pe_bm (X := S.g.cx c) PySem.F.plainAttrs_list PySem.F.slot_list_extend PySem.F.type_list_extend mt_extT (vis_v hc hN hv hd hcd) (pa_cons (pa c hc) pa_nil (hs _)) (hb _) (hf _) hl (hs _) (hp _), ⟨fun Ex Ex' δ P P' hx h w => ?_, fun Ex F B H vs σ δ P Q hx h w k => ?_⟩⟩
  · exact w.imp fun _ w => s.mono _ _ _ _ _ hx (fun r δ1 w => w.imp fun p w => w.imp fun zs w => w.imp fun q w => ⟨w.1, h _ _ w.2⟩) w
  · obtain ⟨⟨b0, ds0⟩, e0, w⟩ := w
    have a0 := ownL_at e0
    obtain ⟨v, ev, a, rfl, hBF, xs, hx0, q0⟩ := h.ok i _ a0
    refine ⟨_, ev, .inl ⟨rfl, xs, SqL.of hx0⟩, ?_⟩
    refine s.run _ _ _ _ _ _ _ _ _ hx h w fun B1 H1 y r δ1 s1 h1 q1 w1 => ?_
    obtain ⟨⟨d, δ2⟩, e1, zs, ez, ⟨b, ds⟩, e2, hl2, w1⟩ := w1
    obtain ⟨B2, s2, h2, q2⟩ := frz_ok h1 q1 e1
    have a2 := ownL_at e2
    obtain ⟨a', ea, hBF2, ys, hy, qy⟩ := own_at h2 a2 ev
    cases ea
    have fin : ∀ {us : List V}, DDs B2 us zs → Q .non (upd H1 a (.lst (ys ++ us))) := fun qu => k B2 _ .non (.d .none) _ (s1.trans s2) (h2.mutate (c' := .l (ds ++ zs)) a2 ev ⟨_, upd_same, qy.append qu⟩) .non w1
    cases q2 with
    | lst r q => cases ez; exact ⟨a, _, ys, _, rfl, rfl, hy, .inl (same_rd h2.sb r), by rw [qy.length, q.length]; exact hl2, fin q⟩
    | tup r q => cases ez; exact ⟨a, _, ys, _, rfl, rfl, hy, .inr (.inl (PlT.mono h2.sb r).rd), by rw [qy.length, q.length]; exact hl2, fin q⟩
    | _ => cases ez
end
end DL
set_option Elab.async false
set_option linter.all false
set_option maxRecDepth 100000
set_option maxHeartbeats 1000000
set_option autoImplicit false
namespace DL
open PySem PySem.Spec PyProof.Rows L2
end DL
set_option Elab.async false
set_option linter.all false
set_option maxRecDepth 100000
set_option maxHeartbeats 1000000
set_option autoImplicit false
namespace DL
open PySem PySem.Spec PyProof.Rows L2
def wLockE (i : Nat) (w : WE) : WE := fun Ex δ P => ob (ownK δ i) fun q => ∀ a, w Ex (δ.set i (some (.o q.1 (.fk a q.2)))) fun r => unfk i q.1 a q.2 fun δ2 => simpR r = true ∧ P r δ2
section
variable {S : Sg}
theorem de_lock {e : Expr} {w : WE} {i : Nat} (h : DE S e w) : DE S e (wLockE i w) := by
  obtain ⟨t, p, s⟩ := h
  refine ⟨tLockE t, fun c hc => pe_lock (p c hc), ⟨fun Ex Ex' δ P P' hx hP w => w.imp fun q w a => s.mono _ _ _ _ _ hx (fun r δ' w => ⟨w.1, w.2.1, w.2.2.1, hP _ _ w.2.2.2⟩) (w a), fun Ex F B H vs σ δ P Q hx h w k => ?_⟩⟩
  obtain ⟨⟨b, kvs⟩, e, w⟩ := w
  have e' := ownK_at e
  obtain ⟨v, ea, a, rfl, hBF, ys, hy, qy⟩ := h.ok i _ e'
  have hB := (hBF a foot_self).1
  refine ⟨a, .dK ys, hy, trivial, fun od => ?_⟩
  obtain ⟨h1, s1⟩ := h.lock e' ea hy od
  have back : ∀ {B' H' : Hp} {σ' : L2.St} {δ' : SEnv}, Same (upd B a (.frz od (.dK ys))) B' → Rep S.g.K F B' H' vs σ' δ' → δ'[i]? = some (some (.o b (.fk a kvs))) → OnlyFk δ' i a → H' a = some (.frz od (.dK ys)) ∧ Same B (delH B' a) ∧ Rep S.g.K F (delH B' a) (upd H' a (.dK ys)) vs σ' (δ'.set i (some (.o b (.k kvs)))) ∧ NoSeq B' a ∧ F a = none := by
    intro B' H' σ' δ' s2 h2 e2 of
    obtain ⟨h3, h4, h5⟩ := h2.unlock e2 (s2 a _ upd_same) of
    exact ⟨h4, same_del hB s2, h3, h5, (hBF a foot_self).2⟩
  refine s.run _ F _ _ vs σ _ _ _ (hx.up s1) h1 (w a) fun B' H' v r δ' s2 h2 q2 q => ?_
  obtain ⟨g1, g2, g3, g4, gF⟩ := back s2 h2 q.1 q.2.1
  obtain ⟨hfk, _, hs, q⟩ := q
  refine ⟨g1, k _ _ v r _ g2 g3 ?_ q⟩
  cases r with
  | d d => exact DD.del g4 q2
  | w d => exact q2
  | o j => cases hs
  | n c =>
    obtain ⟨a2, rfl, hBF2, qc, off⟩ := q2
    have na : a2 ≠ a := fun z => by
      have := (hBF2 a2 (foot_self (real_of hs))).1
      rw [z, s2 a _ upd_same] at this; cases this
    have fe : ∀ p, Foot (upd H' a (.dK ys)) a2 c p ↔ Foot H' a2 c p := fun p => foot_eq fun q f => by cases foot_one hs f; exact upd_ne na
    refine ⟨a2, rfl, fun p f => ?_, ContOk.del g4 (fun z => by cases c <;> first | exact z | cases hs) (qc.mono (Same.refl _) fun p f => by cases foot_one hs f; exact upd_ne na), fun j b' c' a' p e1 e2 f f' => ?_⟩
    · cases foot_one hs f
      rw [del_ne na]; exact hBF2 _ (foot_self (real_of hs))
    · cases foot_one hs f'
      rcases set_get e1 with ⟨ej, z⟩ | ⟨nj, z⟩
      · cases z
        cases (show a2 = a' from f)
        subst ej
        obtain ⟨v', e3, a3, e4, _, e5, _⟩ := h2.ok j _ hfk
        rw [e2] at e3; cases e3; cases e4
        exact na e5
      · have f2 : Foot H' a' c' a2 := by
          refine (foot_eq fun p f => ?_).mp f
          have z2 := ((h2.own_up z e2).1 _ f).1
          exact upd_ne fun w => by rw [w, s2 a _ upd_same] at z2; cases z2
        exact off j b' c' a' a2 z e2 f2 (foot_self (real_of hs))
end
end DL
set_option Elab.async false
set_option linter.all false
set_option maxRecDepth 100000
set_option maxHeartbeats 1000000
set_option autoImplicit false
namespace DL
open PySem PySem.Spec PyProof.Rows L2
section
variable {K : PySem.W.Frag} {F B H : Hp} {vs : List V} {σ : L2.St} {δ : SEnv}
/-- an object that belongs to one's own is changed; others may come to belong to it that belonged to none -/
theorem Rep.mutIn (h : Rep K F B H vs σ δ) {i : Nat} {a p0 : Addr} {b : Bool} {c c' : Cont} {o : HO} (e : δ[i]? = some (some (.o b c))) (ea : σ[i]? = some (some (.ref a))) (f0 : Foot H a c p0) (q : ContOk B (upd H p0 o) a c') (hf : ∀ p, Foot (upd H p0 o) a c' p → Foot H a c p ∨ (B p = none ∧ F p = none ∧ Off H σ δ fun q => q = p)) :
    Rep K F B (upd H p0 o) vs σ (δ.set i (some (.o b c'))) := by
  obtain ⟨hBF, _⟩ := h.own_up e ea
  have hB := (hBF p0 f0).1
  have hF := (hBF p0 f0).2
  have ne : ∀ {j : Nat} {b2 : Bool} {c2 : Cont} {a2 p : Addr}, j ≠ i → δ[j]? = some (some (.o b2 c2)) → σ[j]? = some (some (.ref a2)) → Foot H a2 c2 p → p ≠ p0 := fun n z e2 f w => by
    subst w; exact n (h.apart _ _ _ _ _ _ _ _ _ z e e2 ea f f0)
  have sm : ∀ {j : Nat} {b2 : Bool} {c2 : Cont} {a2 p : Addr}, j ≠ i → δ[j]? = some (some (.o b2 c2)) → σ[j]? = some (some (.ref a2)) → (Foot (upd H p0 o) a2 c2 p ↔ Foot H a2 c2 p) := fun n z e2 => foot_eq fun p f => upd_ne (ne n z e2 f)
  refine ⟨fun p u z => ?_, fun p u z => ?_, h.dj, by rw [List.length_set]; exact h.len, fun j s z => ?_, fun j k a1 a2 p b1 c1 b2 c2 z1 z2 z3 z4 f1 f2 => ?_, fun j c1 z => ?_, h.nt⟩
  · rw [upd_ne (ne_of_none z hB)]; exact h.sb p u z
  · rw [upd_ne (ne_of_none z hF)]; exact h.sf p u z
  · rcases set_get z with ⟨ej, z'⟩ | ⟨n, z'⟩
    · subst ej; cases z'; exact ⟨_, ea, a, rfl, fun p f => (hf p f).elim (hBF p) fun z => ⟨z.1, z.2.1⟩, q⟩
    · obtain ⟨v, e2, q2⟩ := h.ok j s z'
      refine ⟨v, e2, ?_⟩
      cases s with
      | d d => exact q2
      | w d => exact q2
      | o b2 c2 =>
        obtain ⟨p, e3, hBF2, q3⟩ := q2
        subst e3
        exact ⟨p, rfl, fun r f => hBF2 r ((sm n z' e2).mp f), q3.mono (Same.refl _) fun r f => upd_ne (ne n z' e2 f)⟩
  · rcases set_get z1 with ⟨ej, y1⟩ | ⟨nj, y1⟩
    · rcases set_get z2 with ⟨ek, y2⟩ | ⟨nk, y2⟩
      · rw [ej, ek]
      · cases y1; subst ej
        rw [ea] at z3; cases z3
        exact (hf p f1).elim (fun g => h.apart _ k _ a2 p _ c _ c2 e y2 ea z4 g ((sm nk y2 z4).mp f2)) fun g => (g.2.2 k b2 c2 a2 p y2 z4 ((sm nk y2 z4).mp f2) rfl).elim
    · rcases set_get z2 with ⟨ek, y2⟩ | ⟨nk, y2⟩
      · cases y2; subst ek
        rw [ea] at z4; cases z4
        exact (hf p f2).elim (fun g => h.apart j _ a1 _ p b1 c1 _ c y1 e z3 ea ((sm nj y1 z3).mp f1) g) fun g => (g.2.2 j b1 c1 a1 p y1 z3 ((sm nj y1 z3).mp f1) rfl).elim
      · exact h.apart j k a1 a2 p b1 c1 b2 c2 y1 y2 z3 z4 ((sm nj y1 z3).mp f1) ((sm nk y2 z4).mp f2)
  · rcases set_get z with ⟨ej, z'⟩ | ⟨n, z'⟩
    · subst ej; cases z'; exact h.bor _ c e
    · exact h.bor j c1 z'
end
end DL
set_option Elab.async false
set_option linter.all false
set_option maxRecDepth 100000
set_option maxHeartbeats 4000000
set_option autoImplicit false
namespace DL
open PySem PySem.Spec PyProof.Rows L2
end DL
set_option Elab.async false
set_option linter.all false
set_option maxRecDepth 100000
set_option maxHeartbeats 1000000
set_option autoImplicit false
namespace DL
open PySem PySem.Spec PyProof.Rows L2
def BindsK (K : PySem.W.Frag) (fd : FuncData) (ps ks : List Str) (n : Nat) : Prop := ∀ (s : Shared) (us ws : List Value), K.In s.heap → us.length = n → ws.length = ks.length → BindsTo s fd ⟨us, ks.zip ws⟩ (ps.zip (us ++ ws))
end DL
set_option Elab.async false
set_option linter.all false
set_option maxRecDepth 100000
set_option maxHeartbeats 1000000
set_option autoImplicit false
namespace DL
open PySem PySem.Spec PyProof.Rows L2
def noneD : PyData → Bool
  | .none => true
  | _ => false
def cmpD (f : PyData → PyData → Bool) : Vw → Vw → Option Rv := fun a b => (vd a).bind fun d => (vd b).bind fun e => if (SeqAt.shaped d && PySem.W.alike d e && !noneD d) = true then some (.val (.bool (f d e))) else none
section
variable {X : Cx}
def rCmpD (K : PySem.W.Frag) (f : PyData → PyData → Bool) : R2 := fun x y H Q => ∃ d e, Dp K H x d ∧ Dp K H y e ∧ SeqAt.shaped d = true ∧ PySem.W.alike d e = true ∧ d ≠ .none ∧ Q (.bl (f d e)) H
theorem few_units {A : Around} (hu : A.units + 64 < cLine) {d e : PyData} (h : SeqAt.shaped d = true) : A.units + min d.depth e.depth < cLine := by
  have := SeqAt.depth_of_shaped h
  omega
theorem op_ltD (hu : X.A.units + 64 < cLine) : OpR X (compareOp .Lt) (rCmpD X.K PySem.W.dataLt) := by
  intro pins s σ H x y v u Q I rx ry h
  obtain ⟨d, e, hd, he, sd, al, nn, q⟩ := h
  obtain ⟨as, r1⟩ := Dp.reads I d x v hd rx
  obtain ⟨bs, r2⟩ := Dp.reads I e y u he ry
  exact PySem.W.lt_data r1 r2 al nn (few_units hu sd) ⟨.bl _, H, I, rfl, q⟩
theorem op_gtD (hu : X.A.units + 64 < cLine) : OpR X (compareOp .Gt) (rCmpD X.K fun d e => PySem.W.dataLt e d) := by
  intro pins s σ H x y v u Q I rx ry h
  obtain ⟨d, e, hd, he, sd, al, nn, q⟩ := h
  obtain ⟨as, r1⟩ := Dp.reads I d x v hd rx
  obtain ⟨bs, r2⟩ := Dp.reads I e y u he ry
  exact PySem.W.gt_data r1 r2 al nn (few_units hu sd) ⟨.bl _, H, I, rfl, q⟩
theorem op_leD (hu : X.A.units + 64 < cLine) : OpR X (compareOp .LtE) (rCmpD X.K fun d e => !PySem.W.dataLt e d) := by
  intro pins s σ H x y v u Q I rx ry h
  obtain ⟨d, e, hd, he, sd, al, nn, q⟩ := h
  obtain ⟨as, r1⟩ := Dp.reads I d x v hd rx
  obtain ⟨bs, r2⟩ := Dp.reads I e y u he ry
  exact PySem.W.le_data r1 r2 al nn (few_units hu sd) ⟨.bl _, H, I, rfl, q⟩
end
theorem cmpD_of {K : PySem.W.Frag} {B H : Hp} {f : PyData → PyData → Bool} {x y : V} {a b : Vw} {rv : Rv} {Q : VK} (sB : Same B H) (oa : OV K B H x a) (ob : OV K B H y b) (e : cmpD f a b = some rv) (k : RvK B H Q rv) : rCmpD K f x y H Q := by
  unfold cmpD at e
  obtain ⟨d, e1, e⟩ := Option.bind_eq_some_iff.mp e
  obtain ⟨d2, e2, e⟩ := Option.bind_eq_some_iff.mp e
  split at e
  · rename_i hs
    cases e
    simp only [Bool.and_eq_true, Bool.not_eq_true'] at hs
    refine ⟨d, d2, vd_dp sB oa e1, vd_dp sB ob e2, hs.1.1, hs.1.2, fun z => ?_, k _ (.bl _)⟩
    subst z
    exact absurd hs.2 (by decide)
  · cases e
theorem os_ltD {S : Sg} : OpS S (compareOp .Lt) (cmpD PySem.W.dataLt) := by
  rintro c hc pins s σ H x y v u Q I rx ry ⟨B, a, b, rv, sB, oa, ob, e, k⟩
  exact op_ltD hc.room.units pins s σ H _ _ v u Q I rx ry (cmpD_of sB oa ob e k)
theorem os_gtD {S : Sg} : OpS S (compareOp .Gt) (cmpD fun d e => PySem.W.dataLt e d) := by
  rintro c hc pins s σ H x y v u Q I rx ry ⟨B, a, b, rv, sB, oa, ob, e, k⟩
  exact op_gtD hc.room.units pins s σ H _ _ v u Q I rx ry (cmpD_of sB oa ob e k)
theorem os_leD {S : Sg} : OpS S (compareOp .LtE) (cmpD fun d e => !PySem.W.dataLt e d) := by
  rintro c hc pins s σ H x y v u Q I rx ry ⟨B, a, b, rv, sB, oa, ob, e, k⟩
  exact op_leD hc.room.units pins s σ H _ _ v u Q I rx ry (cmpD_of sB oa ob e k)
end DL
set_option Elab.async false
set_option linter.all false
set_option maxRecDepth 100000
set_option maxHeartbeats 1000000
set_option autoImplicit false
namespace DL
open PySem PySem.Spec PyProof.Rows L2
section
variable {X : Cx}
theorem op_isB : OpR X (compareOp .Is) (fun x y H Q => ∃ a b, x = .bl a ∧ y = .bl b ∧ Q (.bl (decide (a = b))) H) := by
  intro pins s σ H x y v u Q I rx ry h
  obtain ⟨a, b, rfl, rfl, q⟩ := h
  cases rx
  cases ry
  show wpAny _ _ ((isSame (Value.bool a) (Value.bool b)) >>= fun z => pure (Value.bool z)) _ _ s
  cases a <;> cases b <;> exact wpAny_bind (wpAny_pure (wpAny_pure (fin_bl I q rfl)))
end
def isBF (neg : Bool) : Vw → Vw → Option Rv
  | .d (.bool a), .d (.bool b) => some (.val (.bool (if neg then !decide (a = b) else decide (a = b))))
  | _, _ => none
theorem os_isB {S : Sg} : OpS S (compareOp .Is) (isBF false) := by
  rintro c hc pins s σ H x y v u Q I rx ry ⟨B, a, b, rv, sB, oa, ob, e, k⟩
  unfold isBF at e
  split at e
  · cases e
    exact op_isB pins s σ H _ _ v u Q I rx ry ⟨_, _, ov_bl oa, ov_bl ob, k _ (.bl _)⟩
  · cases e
end DL
set_option Elab.async false
set_option linter.all false
set_option maxRecDepth 100000
set_option maxHeartbeats 1000000
set_option autoImplicit false
namespace DL
open PySem PySem.Spec PyProof.Rows L2
end DL
set_option Elab.async false
set_option linter.all false
set_option maxRecDepth 100000
set_option maxHeartbeats 1000000
set_option autoImplicit false
namespace DL
open PySem PySem.Spec PyProof.Rows L2
def orF (f g : Vw → Vw → Option Rv) : Vw → Vw → Option Rv := fun a b => match f a b with
  | some r => some r
  | none => g a b
theorem os_or {S : Sg} {op : Value → Value → Sem Value} {f g : Vw → Vw → Option Rv} (hf : OpS S op f) (hg : OpS S op g) : OpS S op (orF f g) := by
  rintro c hc pins s σ H x y v u Q I rx ry ⟨B, a, b, rv, sB, oa, ob, e, k⟩
  unfold orF at e
  split at e
  · cases e
    exact hf c hc pins s σ H x y v u Q I rx ry ⟨B, a, b, _, sB, oa, ob, by assumption, k⟩
  · exact hg c hc pins s σ H x y v u Q I rx ry ⟨B, a, b, _, sB, oa, ob, e, k⟩
def ltU := orF ltF (cmpD PySem.W.dataLt)
def gtU := orF gtF (cmpD fun d e => PySem.W.dataLt e d)
def leU := orF leF (cmpD fun d e => !PySem.W.dataLt e d)
def isU := orF isF (isBF false)
theorem os_ltU {S : Sg} : OpS S (compareOp .Lt) ltU := os_or os_lt os_ltD
theorem os_gtU {S : Sg} : OpS S (compareOp .Gt) gtU := os_or os_gt os_gtD
theorem os_leU {S : Sg} : OpS S (compareOp .LtE) leU := os_or os_le os_leD
theorem os_isU {S : Sg} : OpS S (compareOp .Is) isU := os_or os_is os_isB
/-- a def, by its name, called with these keywords behind n others -/
def CalK (g : Gx) (k : Nat) (x : Str) (ps ks : List Str) (n : Nat) (W : FSpec) : Prop := ∃ (f : Addr) (fd : FuncData), FnG g CX0 k f fd ps (spOf g.K ps.length W) ∧ g.mg x = some (.ref f) ∧ PySem.W.keepIn g.K (.ref f) = true ∧ BindsK g.K fd ps ks n
theorem CalK.mono {g : Gx} {j k n : Nat} {x : Str} {ps ks : List Str} {W : FSpec} (h : CalK g j x ps ks n W) (l : j ≤ k) : CalK g k x ps ks n W := by
  obtain ⟨f, fd, F, m, q, b⟩ := h
  exact ⟨f, fd, F.mono l, m, q, b⟩
theorem CalK.imp {g : Gx} {k n : Nat} {x : Str} {ps ks : List Str} {W W' : FSpec} (h : CalK g k x ps ks n W) (l : ∀ ss Ex P, W' ss Ex P → W ss Ex P) : CalK g k x ps ks n W' := by
  obtain ⟨f, fd, F, m, q, b⟩ := h
  exact ⟨f, fd, spOf_imp F l, m, q, b⟩
end DL
set_option Elab.async false
set_option linter.all false
set_option maxRecDepth 100000
set_option maxHeartbeats 1000000
set_option autoImplicit false
namespace DL
open PySem PySem.Spec PyProof.Rows L2
end DL
set_option Elab.async false
set_option linter.all false
set_option maxRecDepth 100000
set_option maxHeartbeats 1000000
set_option autoImplicit false
namespace DL
open PySem PySem.Spec PyProof.Rows L2
end DL
set_option Elab.async false
set_option linter.all false
set_option maxRecDepth 100000
set_option maxHeartbeats 1000000
set_option autoImplicit false
namespace DL
open PySem PySem.Spec PyProof.Rows L2
end DL
set_option Elab.async false
set_option linter.all false
set_option maxRecDepth 100000
set_option maxHeartbeats 1000000
set_option autoImplicit false
namespace DL
open PySem PySem.Spec PyProof.Rows L2
/-- a def, by its name, called without its last ones, which are these then -/
def CalD (g : Gx) (k : Nat) (x : Str) (ps : List Str) (dd : List PyData) (W : FSpec) : Prop := ∃ (f : Addr) (fd : FuncData) (dvs : List V) (ds : List Value), FnG g CX0 k f fd ps (spOf g.K ps.length W) ∧ g.mg x = some (.ref f) ∧ PySem.W.keepIn g.K (.ref f) = true ∧ Binds g.K fd ps ds ∧ Vals dvs ds ∧ Paired (DW g.K) dvs dd
theorem CalD.mono {g : Gx} {j k : Nat} {x : Str} {ps : List Str} {dd : List PyData} {W : FSpec} (h : CalD g j x ps dd W) (l : j ≤ k) : CalD g k x ps dd W := by
  obtain ⟨f, fd, dvs, ds, F, r⟩ := h
  exact ⟨f, fd, dvs, ds, F.mono l, r⟩
theorem CalD.imp {g : Gx} {k : Nat} {x : Str} {ps : List Str} {dd : List PyData} {W W' : FSpec} (h : CalD g k x ps dd W) (l : ∀ ss Ex P, W' ss Ex P → W ss Ex P) : CalD g k x ps dd W' := by
  obtain ⟨f, fd, dvs, ds, F, r⟩ := h
  exact ⟨f, fd, dvs, ds, spOf_imp F l, r⟩
end DL
set_option Elab.async false
set_option linter.all false
set_option maxRecDepth 100000
set_option maxHeartbeats 1000000
set_option autoImplicit false
namespace DL
open PySem PySem.Spec PyProof.Rows L2
theorem FnG.any {g : Gx} {CX : CXT} {k : Nat} {f : Addr} {fd : FuncData} {ps : List Str} {sp : Sp} (F : FnG g CX0 k f fd ps sp) : FnG g CX k f fd ps sp :=
  ⟨F.len, fun A outer sh H args us vs Q E hg hr he hb hv hs => codeAny_mono (F.run A outer sh H args us vs Q E hg hr he hb hv hs) fun res s' q => by
    cases res with
    | error e => exact (show False from q).elim
    | ok fl => cases fl <;> exact q⟩
theorem Cal.any {g : Gx} {CX : CXT} {k : Nat} {x : Str} {ps : List Str} {W : FSpec} (h : Cal g CX0 k x ps W) : Cal g CX k x ps W := by
  obtain ⟨f, fd, F, r⟩ := h
  exact ⟨f, fd, F.any, r⟩
abbrev Gx.ex (g : Gx) : CXT := L2.CX g.P g.w
end DL
set_option Elab.async false
set_option linter.all false
set_option maxRecDepth 100000
set_option maxHeartbeats 1000000
set_option autoImplicit false
namespace DL
open PySem PySem.Spec PyProof.Rows L2 LamX
/-- a reading, weakened at will -/
def TL (tb : XK → TE) (σ : L2.St) : XK → Hp → VK → Prop := fun E H Q => ∃ (E1 : XK) (Q1 : VK), tb E1 σ H Q1 ∧ (∀ c d H', E1 c d H' → E c d H') ∧ ∀ v H', Q1 v H' → Q v H'
theorem TL.mono {tb : XK → TE} {σ : L2.St} {E E' : XK} {H : Hp} {Q Q' : VK} (h1 : ∀ c d H', E c d H' → E' c d H') (h2 : ∀ v H', Q v H' → Q' v H') (h : TL tb σ E H Q) : TL tb σ E' H Q' := by
  obtain ⟨E1, Q1, a, b, c⟩ := h
  exact ⟨E1, Q1, a, fun _ _ _ z => h1 _ _ _ (b _ _ _ z), fun _ _ z => h2 _ _ (c _ _ z)⟩
end DL
set_option Elab.async false
set_option linter.all false
set_option maxRecDepth 100000
set_option maxHeartbeats 1000000
set_option autoImplicit false
namespace DL
open PySem PySem.Spec PyProof.Rows L2 LamX
theorem PSs.imp {X : Cx} {b : List Stmt} {t u : TS} (h : PSs X b t) (i : ∀ D σ H, u D σ H → t D σ H) : PSs X b u := ⟨fun pins s σ H D I q => h.run pins s σ H D I (i D σ H q)⟩
end DL
set_option Elab.async false
set_option linter.all false
set_option maxRecDepth 100000
set_option maxHeartbeats 1000000
set_option autoImplicit false
namespace DL
open PySem PySem.Spec PyProof.Rows L2 LamX
theorem dictI_ne {a : Addr} {xs : List (List Int × Addr × Value)} {x : Str} : dictI a xs ≠ CodeO a x := by
  intro z
  unfold dictI CodeO at z
  injection z with z
  let o : Obj := { cls := .type "dict", data := .dict (xs.map entI).toArray }
  let h : Heap := { objs := Array.replicate (a + 1) o }
  have e : h.get? a = some o := by
    unfold Heap.get?
    show (match (Array.replicate (a + 1) o)[a]? with | some ⟨_, _, .freed, _⟩ => none | q => q) = _
    rw [Array.getElem?_replicate, if_pos (Nat.lt_succ_self a)]
  have p : ∃ (oc : Obj) (vs : Array Value) (t : Tok), h.get? a = some oc ∧ oc.data = .fields vs ∧ vs[1]? = some (.str x t) := by
    rw [← congrFun z h]
    exact ⟨o, _, 0, e, ⟨rfl, rfl, rfl⟩, rfl, by simp⟩
  obtain ⟨oc, vs, t, e1, e2, _⟩ := p
  rw [e] at e1
  cases e1
  cases e2
theorem ContOk.kind {B H : Hp} {a p : Addr} {c : Cont} (q : ContOk B H a c) (f : Foot H a c p) : ∃ o, H p = some o ∧ (∀ x, o ≠ CodeO p x) ∧ ∀ ps, o ≠ .tbl ps := by
  have n1 : ∀ {xs : List V} {x : Str}, HO.lst xs ≠ CodeO p x := fun z => by unfold CodeO at z; cases z
  have n2 : ∀ {xs : List (Key × V)} {x : Str}, HO.dK xs ≠ CodeO p x := fun z => by unfold CodeO at z; cases z
  have n4 : ∀ {xs : List V} {x : Str}, HO.tup xs ≠ CodeO p x := fun z => by unfold CodeO at z; cases z
  cases c with
  | fk _ _ => exact f.elim
  | l ds => cases f; obtain ⟨xs, e, _⟩ := q; exact ⟨_, e, fun _ => n1, fun _ z => nomatch z⟩
  | k kvs => cases f; obtain ⟨xs, e, _⟩ := q; exact ⟨_, e, fun _ => n2, fun _ z => nomatch z⟩
  | t kvs => cases f; obtain ⟨xs, q⟩ := q; exact ⟨_, q.here, fun _ => dictI_ne, fun _ z => nomatch z⟩
  | pt ds => exact f.elim
  | ot t =>
    have g : p ∈ t.fp := by
      rcases f with rfl | f
      · obtain ⟨_, _, e⟩ := q
        cases t with
        | d _ => cases e
        | n a b ts => cases e; unfold OT.fp; exact List.mem_cons_self ..
      · exact f
    obtain ⟨b, ys, e⟩ := q.1.thereN g
    cases b with
    | true => exact ⟨_, e, fun _ => n2, fun _ z => nomatch z⟩
    | false => exact ⟨_, e, fun _ => n1, fun _ z => nomatch z⟩
  | al _ _ _ => exact f.elim
  | tp ps =>
    obtain ⟨xs, e, r, _⟩ := q
    rcases f with rfl | ⟨xs', e', i, y, e1, eo, f⟩
    · exact ⟨_, e, fun _ => n4, fun _ z => nomatch z⟩
    · rw [e] at e'; cases e'
      obtain ⟨y', e2, q⟩ := paired_at r f
      rw [e1] at e2; cases e2
      cases y with
      | d _ => cases eo
      | l _ => obtain ⟨b, zs, eb, _, q, _⟩ := q; cases eb; exact ⟨_, q, fun _ => n1, fun _ z => nomatch z⟩
      | k _ => obtain ⟨b, zs, eb, _, q, _⟩ := q; cases eb; exact ⟨_, q, fun _ => n2, fun _ z => nomatch z⟩
      | p _ => cases eo
def TabF (P : Addr) (q : Str) (F B : Hp) : Prop := ∃ ps : Array Value, F P = some (.tbl ps) ∧ TriplesOk ps.toList ∧ ∀ (pos : Pos) (cv : Value), codeAmong pos ps.toList = some cv → ∃ c, cv = .ref c ∧ B c = some (CodeO c q)
theorem TabF.up {P : Addr} {q : Str} {F B B' : Hp} (h : TabF P q F B) (s : Same B B') : TabF P q F B' := by
  obtain ⟨ps, h1, h2, h3⟩ := h
  exact ⟨ps, h1, h2, fun pos cv e => by
    obtain ⟨c, e1, e2⟩ := h3 pos cv e
    exact ⟨c, e1, s _ _ e2⟩⟩
structure EndsT (K : PySem.W.Frag) (P : Addr) (q : Str) (B : Hp) (vs : List V) (D : Ends) (d : DEnds) : Prop where
  nx : ∀ F' B' σ' H' δ', TabF P q F' B' → Same B B' → Rep K F' B' H' vs σ' δ' → d.nx δ' → D.nx σ' H'
  rt : ∀ F' B' σ' H' δ' v r, TabF P q F' B' → Same B B' → Rep K F' B' H' vs σ' δ' → RepR K F' B' H' σ' δ' v r → d.rt r δ' → D.rt v H'
  bk : ∀ F' B' σ' H' δ', TabF P q F' B' → Same B B' → Rep K F' B' H' vs σ' δ' → d.bk δ' → D.bk σ' H'
  ct : ∀ F' B' σ' H' δ', TabF P q F' B' → Same B B' → Rep K F' B' H' vs σ' δ' → d.ct δ' → D.ct σ' H'
theorem EndsT.up {K : PySem.W.Frag} {P : Addr} {q : Str} {B B1 : Hp} {vs : List V} {D : Ends} {d : DEnds} (h : EndsT K P q B vs D d) (s : Same B B1) : EndsT K P q B1 vs D d :=
  ⟨fun F' B' σ' H' δ' t s1 => h.nx F' B' σ' H' δ' t (s.trans s1), fun F' B' σ' H' δ' v r t s1 => h.rt F' B' σ' H' δ' v r t (s.trans s1), fun F' B' σ' H' δ' t s1 => h.bk F' B' σ' H' δ' t (s.trans s1), fun F' B' σ' H' δ' t s1 => h.ct F' B' σ' H' δ' t (s.trans s1)⟩
end DL
set_option Elab.async false
set_option linter.all false
set_option maxRecDepth 100000
set_option maxHeartbeats 1000000
set_option autoImplicit false
namespace DL
open PySem PySem.Spec PyProof.Rows L2 LamX
end DL
set_option Elab.async false
set_option linter.all false
set_option maxRecDepth 100000
set_option maxHeartbeats 1000000
set_option autoImplicit false
namespace DL
open PySem PySem.Spec PyProof.Rows L2 LamX
end DL
set_option Elab.async false
set_option linter.all false
set_option maxRecDepth 100000
set_option maxHeartbeats 1000000
set_option autoImplicit false
namespace DL
open PySem PySem.Spec PyProof.Rows L2
end DL
set_option Elab.async false
set_option linter.all false
set_option maxRecDepth 100000
set_option maxHeartbeats 1000000
set_option autoImplicit false
namespace DL
open PySem PySem.Spec PyProof.Rows L2 LamX
end DL
set_option Elab.async false
set_option linter.all false
set_option maxRecDepth 100000
set_option maxHeartbeats 1000000
set_option autoImplicit false
namespace DL
open PySem PySem.Spec PyProof.Rows L2
open Builtin.SmallTypes (nextOf)
/-- true: a tuple -/
def ItK : Bool → Heap → Addr → Addr → Nat → Prop
  | true, h, it, a, i => h.IsTupleIter it a i
  | false, h, it, a, i => h.IsListIter it a i
def IsK : Bool → Heap → Addr → Array Value → Prop
  | true, h, a, items => h.IsTuple a items
  | false, h, a, items => h.IsList a items
def SqK : Bool → PySem.W.Frag → Hp → Addr → List V → Prop
  | true, K, H, a, xs => SqT K H a xs
  | false, K, H, a, xs => SqL K H a xs
def itO (t : Bool) (a : Addr) : Obj := { cls := .type (if t then "tuple_iterator" else "list_iterator"), data := .fields #[.ref a, .int 0 0] }
theorem IsK.at_ {t : Bool} {h h' : Heap} {a : Addr} {items : Array Value} (q : IsK t h a items) (k : ∀ o, h.get? a = some o → h'.get? a = some o) : IsK t h' a items := by
  cases t
  · exact Heap.IsList.at q k
  · exact Heap.IsTuple.at q k
theorem ItK.at_ {t : Bool} {h h' : Heap} {it a : Addr} {i : Nat} (q : ItK t h it a i) (k : ∀ o, h.get? it = some o → h'.get? it = some o) : ItK t h' it a i := by
  cases t
  · exact Heap.IsListIter.at q k
  · exact Heap.IsTupleIter.at q k
theorem ItK.ob {t : Bool} {h : Heap} {it a : Addr} {i : Nat} (q : ItK t h it a i) : ∃ o, h.get? it = some o ∧ o.cls = .type (if t then "tuple_iterator" else "list_iterator") ∧ ∃ d, o.data = .fields d := by
  cases t
  · obtain ⟨o, e, c, d⟩ := q; exact ⟨o, e, c, _, d⟩
  · obtain ⟨o, e, c, d⟩ := q; exact ⟨o, e, c, _, d⟩
theorem IsK.ob {t : Bool} {h : Heap} {a : Addr} {items : Array Value} (q : IsK t h a items) : ∃ o, h.get? a = some o ∧ o.cls = .type (if t then "tuple" else "list") := by
  cases t
  · obtain ⟨o, e, c, _⟩ := q; exact ⟨o, e, c⟩
  · obtain ⟨o, e, c, _⟩ := q; exact ⟨o, e, c⟩
theorem draws_k {prog : Program} {w : World} {A : Around} (t : Bool) (hh : A.handled = none) (it a : Addr) (hne : a ≠ it) (items : Array Value) :
    Draws prog w A it [it, a] items.size (fun i v => items[i]? = some v) (fun i h => ItK t h it a i ∧ IsK t h a items) := by
  cases t
  · exact Draws.list hh it a hne items
  · exact Draws.tuple hh it a hne items
theorem draws_end {prog : Program} {w : World} {A : Around} (t : Bool) (hh : A.handled = none) (it a : Addr) (items : Array Value) (i : Nat) (he : items[i]? = none) :
    Draws prog w A it [it, a] i (fun _ _ => False) (fun j h => j = i ∧ ItK t h it a i ∧ IsK t h a items) where
  live := fun _ _ st => let ⟨o, ho, _⟩ := st.2.1.ob; ⟨o, ho⟩
  frame := fun _ _ _ st hk => ⟨st.1, st.2.1.at_ fun o e => hk it (by simp) o e, st.2.2.at_ fun o e => hk a (by simp) o e⟩
  item := fun j s Q E hi st hQ => by have := st.1; omega
  done := fun s Q E st hE => by
    obtain ⟨_, h1, h2⟩ := st
    cases t
    · exact wpAny_nextOf_list_end hh h1 h2 he hE
    · exact wpAny_nextOf_tuple_end hh h1 h2 he hE
theorem begins_k (t : Bool) (a : Addr) (items : Array Value) : Begins (.ref a) (itO t a) fun h => IsK t h a items := by
  cases t
  · exact begins_list a items
  · exact begins_tuple a items
theorem seq_k {X : Cx} {pins : List (Addr × Obj)} {σ : L2.St} {H : Hp} {s : Shared} (I : Inv X pins σ H s) {t : Bool} {a : Addr} {xs : List V} (q : SqK t X.K H a xs) : ∃ its : List Value, Vals xs its ∧ IsK t s.heap a its.toArray := by
  cases t
  · obtain ⟨its, rv, p, _⟩ := I.list q; exact ⟨its, rv, p.isList⟩
  · obtain ⟨its, rv, p, _⟩ := I.tuple q; exact ⟨its, rv, p⟩
theorem inj_k {X : Cx} {pins : List (Addr × Obj)} {σ : L2.St} {H : Hp} {s : Shared} (I : Inv X pins σ H s) {t : Bool} {a : Addr} {xs ys : List V} (q : SqK t X.K H a xs) (r : SqK t X.K H a ys) : xs = ys := by
  cases t
  · exact I.list_inj q r
  · exact I.tuple_inj q r
/-- a zip's own object, with the pair handed out and its mark -/
abbrev ZObj (h : Heap) (z TI TO : Addr) (f0 : Value) (m : Bool) : Prop :=
  h.get? z = some { cls := .type "zip", dict := none, data := .fields #[f0, .bool m, .bool false, .ref TI, .ref TO], slots := #[] }
/-- it holds no pair, or the one at T -/
def ZFr (f0 : Value) : Prop := f0 = .none ∨ ∃ T : Addr, f0 = rawInt (T : Nat)
abbrev ZPair (h : Heap) (T : Addr) (x y : Value) : Prop := h.get? T = some { cls := .type "tuple", data := .seq #[x, y] }
section
variable {prog : Program} {w : World} {A : Around} {E : Value → Shared → Prop} {s : Shared} {z TI TO i1 i2 : Addr} {fa fb : List Addr} {na nb i : Nat} {Pa Pb : Nat → Value → Prop} {Sa Sb : Nat → Heap → Prop} {u v f0 : Value} {m : Bool}
theorem alive_any {a : Addr} {Q : Option Obj → Shared → Prop} (h : Q (s.heap.get? a) s) : wpAny (model prog w) A (loadIfAlive a) Q E s := fun _ _ _ => h
/-- whether the pair is free again -/
theorem zfree {Q : Bool → Shared → Prop} (hz : ZObj s.heap z TI TO f0 m) (hf : ZFr f0) (hT : Q true s) (hF : ∀ (T : Nat) h', f0 = rawInt T → ZObj h' z TI TO f0 true → Heap.SameBut z s.heap h' → Q false { s with heap := h' }) : wpAny (model prog w) A (Builtin.SmallTypes.ownedTupleIsFree (.ref z)) Q E s := by
  unfold Builtin.SmallTypes.ownedTupleIsFree
  rcases hf with rfl | ⟨T, rfl⟩
  · exact wpAny_bind (wpAny_field hz rfl (x := .none) rfl (wpAny_pure hT))
  · refine wpAny_bind (wpAny_field hz rfl (x := rawInt T) rfl ?_)
    show wpAny _ _ (loadIfAlive (T : Int).toNat >>= _) _ _ _
    rw [Int.toNat_natCast]
    refine wpAny_bind (alive_any ?_)
    cases hg : s.heap.get? T with
    | none =>
      simp only [Option.isNone_none, if_true]
      exact wpAny_pure hT
    | some o =>
      simp only [Option.isNone_some, Bool.false_eq_true, if_false]
      refine wpAny_bind (wpAny_field hz rfl (x := .bool m) rfl ?_)
      cases m
      · simp only [show ((Value.bool false) != .bool true) = true from rfl, if_true]
        exact wpAny_bind (wpAny_setField_rec hz (by simp) fun h1 hz1 hs1 => wpAny_pure (hF T h1 rfl hz1 hs1))
      · simp only [show ((Value.bool true) != .bool true) = false from rfl, Bool.false_eq_true, if_false]
        exact wpAny_bind (wpAny_pure (wpAny_pure (hF T s.heap rfl hz ⟨rfl, fun _ _ => rfl⟩)))
theorem sb_get {a : Addr} {h h' : Heap} (k : Heap.SameBut a h h') {b : Addr} {o : Obj} (n : b ≠ a) (e : h.get? b = some o) : h'.get? b = some o := k.extBut _ _ n e
/-- a zip's next pair -/
theorem zip_nextU {Q : Value → Shared → Prop} (S : ZipSep2 z TI TO i1 i2 fa fb) (Da : Draws prog w A i1 fa na Pa Sa) (Db : Draws prog w A i2 fb nb Pb Sb)
    (hz : ZObj s.heap z TI TO f0 m) (hf : ZFr f0) (hI : ZPair s.heap TI (.ref i1) (.ref i2)) (hO : ZPair s.heap TO u v) (sa : Sa i s.heap) (sb : Sb i s.heap) (la : i < na) (lb : i < nb)
    (k : ∀ x y h' tk f1 m1, Pa i x → Pb i y → ZObj h' z TI TO f1 m1 → ZFr f1 → (∃ u' v', ZPair h' TO u' v') → Sa (i + 1) h' → Sb (i + 1) h' → ZPair h' s.heap.objs.size x y → h'.objs.size = s.heap.objs.size + 1 →
      (∀ c o, c ≠ z → c ≠ TO → c ≠ i1 → c ≠ i2 → s.heap.get? c = some o → h'.get? c = some o) → (f0 = .none ∧ m = false → f1 = rawInt s.heap.objs.size ∧ m1 = false) → Q (.ref s.heap.objs.size) { s with heap := h', toks := tk }) :
    wpAny (model prog w) A (Builtin.«zip.__next__» ⟨[.ref z], []⟩) (fun fin s' => ∃ v, fin = .done (.ret v) ∧ Q v s') E s := by
  obtain ⟨hp, gg, dd, tk0, oo⟩ := s
  show wpAny _ _ (field (.ref z) 2 >>= _) _ _ _
  refine wpAny_bind (wpAny_field hz rfl (x := .bool false) rfl ?_)
  show wpAny _ _ (field (.ref z) 3 >>= _) _ _ _
  refine wpAny_bind (wpAny_field hz rfl (x := .ref TI) rfl ?_)
  refine wpAny_bind (wpAny_seqItems hI rfl ?_)
  show wpAny _ _ (Builtin.SmallTypes.ownedTupleIsFree (.ref z) >>= _) _ _ _
  refine wpAny_bind (zfree (m := m) hz hf ?_ ?_)
  · -- the pair of its own, again
    simp only [if_true]
    refine wpAny_bind (wpAny_rule ?_)
    refine wpAny_bind (wpAny_field hz rfl (x := .ref TO) rfl ?_)
    refine wpAny_bind (wpAny_setField_rec hz (by simp) fun k0 z0 e0 => ?_)
    replace z0 : ZObj k0 z TI TO .ellipsis m := z0
    replace e0 : Heap.SameBut z hp k0 := e0
    refine wpAny_bind ?_
    simp only [List.zipIdx_cons, List.zipIdx_nil, List.forIn_cons, List.forIn_nil]
    refine wpAny_bind (wpAny_bind (wpAny_onRaise ?_))
    show wpAny _ _ (nextOf (.ref i1) >>= _) _ _ ⟨k0, gg, dd, tk0, oo⟩
    refine wpAny_bind (Da.item i _ _ _ la (Da.over sa e0 S.zf1) fun x j1 t1 px q1 r1 => wpAny_pure ?_)
    replace r1 : Heap.SameBut i1 k0 j1 := r1
    have o1 : ZPair j1 TO u v := sb_get r1 S.Ti1 (sb_get e0 S.TOz hO)
    refine wpAny_bind (wpAny_seqItems (s := ⟨j1, gg, dd, t1, oo⟩) o1 rfl ?_)
    refine wpAny_bind (updateSeq_IsTupOf2 (s := ⟨j1, gg, dd, t1, oo⟩) o1 fun k1 p1 e1 => ?_)
    replace p1 : ZPair k1 TO x v := p1
    replace e1 : Heap.SameBut TO j1 k1 := e1
    refine wpAny_bind (wpAny_letGo (wpAny_pure ?_))
    refine wpAny_bind (wpAny_bind (wpAny_onRaise ?_))
    show wpAny _ _ (nextOf (.ref i2) >>= _) _ _ ⟨k1, gg, dd, t1, oo⟩
    refine wpAny_bind (Db.item i _ _ _ lb (Db.over (Db.over (Db.over sb e0 S.zf2) r1 S.sep1_2) e1 S.Tf2) fun y j2 t2 py q2 r2 => wpAny_pure ?_)
    replace r2 : Heap.SameBut i2 k1 j2 := r2
    have o2 : ZPair j2 TO x v := sb_get r2 S.Ti2 p1
    refine wpAny_bind (wpAny_seqItems (s := ⟨j2, gg, dd, t2, oo⟩) o2 rfl ?_)
    refine wpAny_bind (updateSeq_IsTupOf2 (s := ⟨j2, gg, dd, t2, oo⟩) o2 fun k2 p2 e2 => ?_)
    replace p2 : ZPair k2 TO x y := p2
    replace e2 : Heap.SameBut TO j2 k2 := e2
    refine wpAny_bind (wpAny_letGo (wpAny_pure (wpAny_pure ?_)))
    refine wpAny_bind (wpAny_seqItems (s := ⟨k2, gg, dd, t2, oo⟩) p2 rfl ?_)
    refine wpAny_bind (wpAny_newTuple ?_)
    have sz : k2.objs.size = hp.objs.size := by rw [e2.1, r2.1, e1.1, r1.1, e0.1]
    have zz : ZObj k2 z TI TO .ellipsis m := sb_get e2 S.TOz.symm (sb_get r2 S.zi2 (sb_get e1 S.TOz.symm (sb_get r1 S.zi1 z0)))
    have kk : ∀ c o, c ≠ z → c ≠ TO → c ≠ i1 → c ≠ i2 → hp.get? c = some o → k2.get? c = some o := fun c o cz cT c1 c2 e => sb_get e2 cT (sb_get r2 c2 (sb_get e1 cT (sb_get r1 c1 (sb_get e0 cz e))))
    have ja : Sa (i + 1) k2 := Da.over (Da.over (Da.over q1 e1 S.Tf1) r2 S.sep2_1) e2 S.Tf1
    have jb : Sb (i + 1) k2 := Db.over q2 e2 S.Tf2
    have zl : z < k2.objs.size := Heap.lt_size zz
    show wpAny _ _ (Builtin.SmallTypes.ownedTupleHandOut (.ref z) (.ref k2.objs.size) >>= _) _ _ ⟨k2.push { cls := .type "tuple", data := .seq #[x, y] }, gg, dd, t2, oo⟩
    refine wpAny_bind ?_
    unfold Builtin.SmallTypes.ownedTupleHandOut
    have z6 : ZObj (k2.push { cls := .type "tuple", data := .seq #[x, y] }) z TI TO .ellipsis m := Heap.get?_push_of_some _ zz
    refine wpAny_bind (wpAny_setField_rec z6 (by simp) fun k7 z7 e7 => ?_)
    replace z7 : ZObj k7 z TI TO (rawInt k2.objs.size) m := z7
    refine wpAny_setField_rec z7 (by simp) fun k8 z8 e8 => ?_
    replace z8 : ZObj k8 z TI TO (rawInt k2.objs.size) false := z8
    replace e7 : Heap.SameBut z (k2.push { cls := .type "tuple", data := .seq #[x, y] }) k7 := e7
    replace e8 : Heap.SameBut z k7 k8 := e8
    have up : ∀ c o, c ≠ z → k2.get? c = some o → k8.get? c = some o := fun c o c1 e => sb_get e8 c1 (sb_get e7 c1 (Heap.get?_push_of_some _ e))
    have T8 : ZPair k8 k2.objs.size x y := sb_get e8 (Nat.ne_of_gt zl) (sb_get e7 (Nat.ne_of_gt zl) (Heap.get?_push_size _ rfl))
    have s8 : k8.objs.size = k2.objs.size + 1 := by rw [e8.1, e7.1, Heap.size_push]
    rw [sz] at z8 T8 s8
    refine wpAny_pure ⟨_, rfl, ?_⟩
    show Q (.ref k2.objs.size) ⟨k8, gg, dd, t2, oo⟩
    rw [sz]
    exact k x y k8 t2 _ _ px py z8 (.inr ⟨_, rfl⟩) ⟨_, _, up _ _ S.TOz p2⟩ (Da.frame _ _ _ ja fun b hb o e => up b o (fun q => S.zf1 (q ▸ hb)) e) (Db.frame _ _ _ jb fun b hb o e => up b o (fun q => S.zf2 (q ▸ hb)) e) T8 s8 (fun c o cz cT c1 c2 e => up c o cz (kk c o cz cT c1 c2 e)) fun _ => ⟨rfl, rfl⟩
  · -- another pair
    intro T k0 ef z0 e0
    replace e0 : Heap.SameBut z hp k0 := e0
    simp only [Bool.false_eq_true, if_false]
    have sa0 : Sa i k0 := Da.over sa e0 S.zf1
    have sb0 : Sb i k0 := Db.over sb e0 S.zf2
    simp only [List.forIn_toArray, List.forIn_cons, List.forIn_nil]
    refine wpAny_bind (wpAny_bind (wpAny_bind (wpAny_holding ?_)))
    show wpAny _ _ (nextOf (.ref i1) >>= _) _ _ ⟨k0, gg, dd, tk0, oo⟩
    refine wpAny_bind (Da.item i _ _ _ la sa0 fun x j1 t1 px q1 r1 => wpAny_pure ?_)
    replace r1 : Heap.SameBut i1 k0 j1 := r1
    refine wpAny_pure ?_
    refine wpAny_bind (wpAny_bind (wpAny_holding ?_))
    show wpAny _ _ (nextOf (.ref i2) >>= _) _ _ ⟨j1, gg, dd, t1, oo⟩
    refine wpAny_bind (Db.item i _ _ _ lb (Db.over sb0 r1 S.sep1_2) fun y j2 t2 py q2 r2 => wpAny_pure ?_)
    replace r2 : Heap.SameBut i2 j1 j2 := r2
    refine wpAny_pure (wpAny_pure ?_)
    have sz : j2.objs.size = hp.objs.size := by rw [r2.1, r1.1, e0.1]
    have zz : ZObj j2 z TI TO f0 true := sb_get r2 S.zi2 (sb_get r1 S.zi1 z0)
    have OO : ZPair j2 TO u v := sb_get r2 S.Ti2 (sb_get r1 S.Ti1 (sb_get e0 S.TOz hO))
    have kk : ∀ c o, c ≠ z → c ≠ TO → c ≠ i1 → c ≠ i2 → hp.get? c = some o → j2.get? c = some o := fun c o cz cT c1 c2 e => sb_get r2 c2 (sb_get r1 c1 (sb_get e0 cz e))
    have ja : Sa (i + 1) j2 := Da.over q1 r2 S.sep2_1
    show wpAny _ _ (newTuple [x, y] >>= _) _ _ ⟨j2, gg, dd, t2, oo⟩
    refine wpAny_bind (wpAny_newTuple ?_)
    have up : ∀ c o, j2.get? c = some o → (j2.push { cls := .type "tuple", data := .seq #[x, y] }).get? c = some o := fun c o e => Heap.get?_push_of_some _ e
    refine wpAny_pure ⟨_, rfl, ?_⟩
    show Q (.ref j2.objs.size) ⟨j2.push { cls := .type "tuple", data := .seq #[x, y] }, gg, dd, t2, oo⟩
    rw [show j2.objs.size = hp.objs.size from sz]
    exact k x y _ t2 _ _ px py (up _ _ zz) (.inr ⟨_, ef⟩) ⟨_, _, up _ _ OO⟩ (Da.frame _ _ _ ja fun b hb o e => up b o e) (Db.frame _ _ _ q2 fun b hb o e => up b o e) (by rw [← sz]; exact Heap.get?_push_size _ rfl) (by rw [Heap.size_push, sz]) (fun c o cz cT c1 c2 e => up c o (kk c o cz cT c1 c2 e)) fun z => by rw [ef] at z; cases z.1
end
end DL
set_option Elab.async false
set_option linter.all false
set_option maxRecDepth 100000
set_option maxHeartbeats 1000000
set_option autoImplicit false
namespace DL
open PySem PySem.Spec PyProof.Rows L2
open Builtin.SmallTypes (nextOf)
section
variable {prog : Program} {w : World} {A : Around} {E : Value → Shared → Prop} {s : Shared} {z TI TO i1 i2 : Addr} {fa fb : List Addr} {na nb i : Nat} {Pa Pb : Nat → Value → Prop} {Sa Sb : Nat → Heap → Prop} {u v f0 : Value} {m : Bool}
/-- a zip's end -/
theorem zip_endU {Q : Fin → Shared → Prop} (S : ZipSep2 z TI TO i1 i2 fa fb) (Da : Draws prog w A i1 fa na Pa Sa) (Db : Draws prog w A i2 fb nb Pb Sb)
    (hz : ZObj s.heap z TI TO f0 m) (hf : ZFr f0) (hI : ZPair s.heap TI (.ref i1) (.ref i2)) (hO : ZPair s.heap TO u v) (sa : Sa i s.heap) (sb : Sb i s.heap) (la : i ≤ na) (lb : i ≤ nb) (hend : i = na ∨ i = nb)
    (k : ∀ h' tk e, (∀ c o, c ≠ z → c ≠ TO → c ≠ i1 → c ≠ i2 → s.heap.get? c = some o → h'.get? c = some o) → (∃ o, h'.get? e = some o ∧ o.cls = .type "StopIteration") → E (.ref e) { s with heap := h', toks := tk }) :
    wpAny (model prog w) A (Builtin.«zip.__next__» ⟨[.ref z], []⟩) Q E s := by
  obtain ⟨hp, gg, dd, tk0, oo⟩ := s
  show wpAny _ _ (field (.ref z) 2 >>= _) _ _ _
  refine wpAny_bind (wpAny_field hz rfl (x := .bool false) rfl ?_)
  show wpAny _ _ (field (.ref z) 3 >>= _) _ _ _
  refine wpAny_bind (wpAny_field hz rfl (x := .ref TI) rfl ?_)
  refine wpAny_bind (wpAny_seqItems hI rfl ?_)
  show wpAny _ _ (Builtin.SmallTypes.ownedTupleIsFree (.ref z) >>= _) _ _ _
  refine wpAny_bind (zfree (m := m) hz hf ?_ ?_)
  · simp only [if_true]
    refine wpAny_bind (wpAny_rule ?_)
    refine wpAny_bind (wpAny_field hz rfl (x := .ref TO) rfl ?_)
    refine wpAny_bind (wpAny_setField_rec hz (by simp) fun k0 z0 e0 => ?_)
    replace z0 : ZObj k0 z TI TO .ellipsis m := z0
    replace e0 : Heap.SameBut z hp k0 := e0
    refine wpAny_bind ?_
    simp only [List.zipIdx_cons, List.zipIdx_nil, List.forIn_cons, List.forIn_nil]
    refine wpAny_bind (wpAny_bind (wpAny_onRaise ?_))
    show wpAny _ _ (nextOf (.ref i1) >>= _) _ _ ⟨k0, gg, dd, tk0, oo⟩
    by_cases c1 : i < na
    · refine wpAny_bind (Da.item i _ _ _ c1 (Da.over sa e0 S.zf1) fun x j1 t1 px q1 r1 => wpAny_pure ?_)
      replace r1 : Heap.SameBut i1 k0 j1 := r1
      have o1 : ZPair j1 TO u v := sb_get r1 S.Ti1 (sb_get e0 S.TOz hO)
      refine wpAny_bind (wpAny_seqItems (s := ⟨j1, gg, dd, t1, oo⟩) o1 rfl ?_)
      refine wpAny_bind (updateSeq_IsTupOf2 (s := ⟨j1, gg, dd, t1, oo⟩) o1 fun k1 p1 e1 => ?_)
      replace p1 : ZPair k1 TO x v := p1
      replace e1 : Heap.SameBut TO j1 k1 := e1
      refine wpAny_bind (wpAny_letGo (wpAny_pure ?_))
      have e2 : i = nb := by omega
      refine wpAny_bind (wpAny_bind (wpAny_onRaise ?_))
      show wpAny _ _ (nextOf (.ref i2) >>= _) _ _ ⟨k1, gg, dd, t1, oo⟩
      refine wpAny_bind (Db.done ⟨k1, gg, dd, t1, oo⟩ _ _ (by rw [← e2]; exact Db.over (Db.over (Db.over sb e0 S.zf2) r1 S.sep1_2) e1 S.Tf2) fun q e hq he => ?_)
      replace hq : Heap.ExtBut i2 k1 q := hq
      obtain ⟨oe, he, hc⟩ := he
      replace he : q.get? e = some oe := he
      have zq : ZObj q z TI TO .ellipsis m := hq _ _ S.zi2 (sb_get e1 S.TOz.symm (sb_get r1 S.zi1 z0))
      have ez : e ≠ z := fun x => by subst x; rw [zq] at he; cases he; simp at hc
      refine wpAny_setField_rec (s := ⟨q, gg, dd, t1, oo⟩) zq (by simp) fun q' _ hq' => ?_
      replace hq' : Heap.SameBut z q q' := hq'
      exact k q' t1 e (fun c o cz cT a1 a2 x => sb_get hq' cz (hq _ _ a2 (sb_get e1 cT (sb_get r1 a1 (sb_get e0 cz x))))) ⟨oe, sb_get hq' ez he, hc⟩
    · have e1 : i = na := by omega
      refine wpAny_bind (Da.done ⟨k0, gg, dd, tk0, oo⟩ _ _ (by rw [← e1]; exact Da.over sa e0 S.zf1) fun q e hq he => ?_)
      replace hq : Heap.ExtBut i1 k0 q := hq
      obtain ⟨oe, he, hc⟩ := he
      replace he : q.get? e = some oe := he
      have zq : ZObj q z TI TO .ellipsis m := hq _ _ S.zi1 z0
      have ez : e ≠ z := fun x => by subst x; rw [zq] at he; cases he; simp at hc
      refine wpAny_setField_rec (s := ⟨q, gg, dd, tk0, oo⟩) zq (by simp) fun q' _ hq' => ?_
      replace hq' : Heap.SameBut z q q' := hq'
      exact k q' tk0 e (fun c o cz cT a1 a2 x => sb_get hq' cz (hq _ _ a1 (sb_get e0 cz x))) ⟨oe, sb_get hq' ez he, hc⟩
  · intro T k0 ef z0 e0
    replace e0 : Heap.SameBut z hp k0 := e0
    simp only [Bool.false_eq_true, if_false]
    have sa0 : Sa i k0 := Da.over sa e0 S.zf1
    have sb0 : Sb i k0 := Db.over sb e0 S.zf2
    simp only [List.forIn_toArray, List.forIn_cons, List.forIn_nil]
    refine wpAny_bind (wpAny_bind (wpAny_bind (wpAny_holding ?_)))
    show wpAny _ _ (nextOf (.ref i1) >>= _) _ _ ⟨k0, gg, dd, tk0, oo⟩
    by_cases c1 : i < na
    · refine wpAny_bind (Da.item i _ _ _ c1 sa0 fun x j1 t1 px q1 r1 => wpAny_pure ?_)
      replace r1 : Heap.SameBut i1 k0 j1 := r1
      refine wpAny_pure ?_
      have e2 : i = nb := by omega
      refine wpAny_bind (wpAny_bind (wpAny_holding ?_))
      show wpAny _ _ (nextOf (.ref i2) >>= _) _ _ ⟨j1, gg, dd, t1, oo⟩
      refine wpAny_bind (Db.done ⟨j1, gg, dd, t1, oo⟩ _ _ (by rw [← e2]; exact Db.over sb0 r1 S.sep1_2) fun q e hq he => ?_)
      replace hq : Heap.ExtBut i2 j1 q := hq
      exact k q t1 e (fun c o cz cT a1 a2 x => hq _ _ a2 (sb_get r1 a1 (sb_get e0 cz x))) he
    · have e1 : i = na := by omega
      refine wpAny_bind (Da.done ⟨k0, gg, dd, tk0, oo⟩ _ _ (by rw [← e1]; exact sa0) fun q e hq he => ?_)
      replace hq : Heap.ExtBut i1 k0 q := hq
      exact k q tk0 e (fun c o cz cT a1 a2 x => hq _ _ a1 (sb_get e0 cz x)) he
def StopN (prog : Program) (w : World) (A : Around) (it : Addr) (ch : List Addr) (s : Shared) : Prop := ∀ (Q E : Value → Shared → Prop), (∀ e h' tk, (∃ o, h'.get? e = some o ∧ o.cls = .type "StopIteration") → (∀ b o, b ∉ ch → s.heap.get? b = some o → h'.get? b = some o) → E (.ref e) { s with heap := h', toks := tk }) → wpAny (model prog w) A (nextOf (.ref it)) Q E s
theorem next_zip {Q E : Value → Shared → Prop} (hz : ZObj s.heap z TI TO f0 m) (h : wpAny (model prog w) A.in1 (Builtin.«zip.__next__» ⟨[.ref z], []⟩) (fun fin s' => ∃ v, fin = .done (.ret v) ∧ Q v s') E s) : wpAny (model prog w) A (nextOf (.ref z)) Q E s := by
  have hT : s.TypeIs (.ref z) "zip" := ⟨_, hz, rfl⟩
  unfold nextOf
  refine wpAny_bind (wpAny_callSpecial?_slot (name := Str.ofString "__next__") hT F.slot_zip_next (wpAny_call_entry F.slot_zip_next hT F.entry_zip_next ?_ (F.args_zip_next_1 _)))
  exact thn h fun r s' ⟨v, e, q⟩ => ⟨v, e, wpAny_pure q⟩
end
end DL
set_option Elab.async false
set_option linter.all false
set_option maxRecDepth 100000
set_option maxHeartbeats 1000000
set_option autoImplicit false
namespace DL
open PySem PySem.Spec PyProof.Rows L2
open Builtin.SmallTypes (nextOf)
abbrev tupO (vs : Array Value) : Obj := { cls := .type "tuple", data := .seq vs }
theorem ne_src {t : Bool} {h : Heap} {a it : Addr} {items : Array Value} {i : Nat} {b : Addr} (p : IsK t h a items) (q : ItK t h it b i) : a ≠ it := fun e => by
  obtain ⟨o, e1, c1⟩ := p.ob
  obtain ⟨o', e2, c2, _⟩ := q.ob
  rw [e, e2] at e1; cases e1
  rw [c1] at c2
  exact absurd c2 (by cases t <;> decide)
/-- the two as they stand at each turn, the items in new pairs -/
def ItzF (t1 t2 : Bool) (K : PySem.W.Frag) (a b : Addr) : It :=
  ⟨fun i H => ∃ (xs ys : List V) (x y : V), SqK t1 K H a xs ∧ SqK t2 K H b ys ∧ xs[i]? = some x ∧ ys[i]? = some y,
    fun i H v H' => ∃ T o x y, v = .ref T ∧ H T = none ∧ H' = upd H T (.frz o (.tup [x, y])) ∧ o.cls = .type "tuple" ∧ o.dict = none ∧ (∀ xs, SqK t1 K H a xs → xs[i]? = some x) ∧ ∀ ys, SqK t2 K H b ys → ys[i]? = some y,
    fun i H => ∃ xs ys : List V, SqK t1 K H a xs ∧ SqK t2 K H b ys ∧ (xs.length ≤ i ∨ ys.length ≤ i)⟩
/-- a zip under way at turn i -/
structure ZAt (h : Heap) (t1 t2 : Bool) (a b z TI TO i1 i2 : Addr) (i : Nat) : Prop where
  zo : ∃ f0 m, ZObj h z TI TO f0 m ∧ ZFr f0
  ti : ZPair h TI (.ref i1) (.ref i2)
  to : ∃ x y, ZPair h TO x y
  k1 : ItK t1 h i1 a i
  k2 : ItK t2 h i2 b i
theorem ZAt.keep {h h' : Heap} {t1 t2 : Bool} {a b z TI TO i1 i2 : Addr} {i : Nat} (st : ZAt h t1 t2 a b z TI TO i1 i2 i) (k : ∀ c ∈ [z, TI, TO, i1, i2], ∀ o, h.get? c = some o → h'.get? c = some o) : ZAt h' t1 t2 a b z TI TO i1 i2 i := by
  obtain ⟨⟨f0, m, e, f⟩, hI, ⟨x, y, hO⟩, h1, h2⟩ := st
  exact ⟨⟨f0, m, k z (by simp) _ e, f⟩, k TI (by simp) _ hI, ⟨x, y, k TO (by simp) _ hO⟩, h1.at_ fun o q => k i1 (by simp) o q, h2.at_ fun o q => k i2 (by simp) o q⟩
theorem ZAt.obj {h : Heap} {t1 t2 : Bool} {a b z TI TO i1 i2 : Addr} {i : Nat} (st : ZAt h t1 t2 a b z TI TO i1 i2 i) : ∀ c ∈ [z, TI, TO, i1, i2], ∃ o, h.get? c = some o ∧ ∀ v, o.data ≠ .cell v := fun c hc => by
  obtain ⟨⟨f0, m, e, f⟩, hI, ⟨x, y, hO⟩, h1, h2⟩ := st
  obtain ⟨o1, e1, _, f1, d1⟩ := h1.ob
  obtain ⟨o2, e2, _, f2, d2⟩ := h2.ob
  have e' : c = z ∨ c = TI ∨ c = TO ∨ c = i1 ∨ c = i2 := by simpa using hc
  rcases e' with q | q | q | q | q
  · rw [q]; exact ⟨_, e, fun v q => nomatch q⟩
  · rw [q]; exact ⟨_, hI, fun v q => nomatch q⟩
  · rw [q]; exact ⟨_, hO, fun v q => nomatch q⟩
  · rw [q]; exact ⟨o1, e1, fun v q => by rw [d1] at q; cases q⟩
  · rw [q]; exact ⟨o2, e2, fun v q => by rw [d2] at q; cases q⟩
section
variable {prog : Program} {w : World} {A : Around} {s : Shared} {t1 t2 : Bool} {a b z TI TO i1 i2 : Addr} {i : Nat}
theorem ZAt.stop (S : ZipSep2 z TI TO i1 i2 [i1, a] [i2, b]) (hh : A.in1.handled = none) (st : ZAt s.heap t1 t2 a b z TI TO i1 i2 i) {xs ys : Array Value} (p : IsK t1 s.heap a xs) (q : IsK t2 s.heap b ys) (l : xs.size ≤ i ∨ ys.size ≤ i) :
    StopN prog w A z [z, TO, i1, i2] s := by
  intro Q E k
  have n1 := ne_src p st.k1
  have n2 := ne_src q st.k2
  obtain ⟨⟨f0, m, e, f⟩, hI, ⟨x0, y0, hO⟩, h1, h2⟩ := st
  have fin : ∀ (h' : Heap) (tk : Nat) (x : Addr), (∀ c o, c ≠ z → c ≠ TO → c ≠ i1 → c ≠ i2 → s.heap.get? c = some o → h'.get? c = some o) → (∃ o, h'.get? x = some o ∧ o.cls = .type "StopIteration") → E (.ref x) { s with heap := h', toks := tk } := fun h' tk x hk hx =>
    k x h' tk hx fun c o hc e => hk c o (fun q' => hc (by simp [q'])) (fun q' => hc (by simp [q'])) (fun q' => hc (by simp [q'])) (fun q' => hc (by simp [q'])) e
  by_cases c1 : xs.size ≤ i
  · by_cases c2 : ys.size ≤ i
    · exact next_zip e (zip_endU S (draws_end t1 hh i1 a xs i (by simp; omega)) (draws_end t2 hh i2 b ys i (by simp; omega)) e f hI hO ⟨rfl, h1, p⟩ ⟨rfl, h2, q⟩ (Nat.le_refl _) (Nat.le_refl _) (.inl rfl) fin)
    · exact next_zip e (zip_endU S (draws_end t1 hh i1 a xs i (by simp; omega)) (draws_k t2 hh i2 b n2 ys) e f hI hO ⟨rfl, h1, p⟩ ⟨h2, q⟩ (Nat.le_refl _) (by omega) (.inl rfl) fin)
  · have c2 : ys.size ≤ i := by omega
    exact next_zip e (zip_endU S (draws_k t1 hh i1 a n1 xs) (draws_end t2 hh i2 b ys i (by simp; omega)) e f hI hO ⟨h1, p⟩ ⟨rfl, h2, q⟩ (by omega) (Nat.le_refl _) (.inr rfl) fin)
end
end DL
set_option Elab.async false
set_option linter.all false
set_option maxRecDepth 100000
set_option maxHeartbeats 1000000
set_option autoImplicit false
namespace DL
open PySem PySem.Spec PyProof.Rows L2
open Builtin.SmallTypes (nextOf)
theorem zat_lt {h : Heap} {t1 t2 : Bool} {a b z TI TO i1 i2 : Addr} {i : Nat} (st : ZAt h t1 t2 a b z TI TO i1 i2 i) : ∀ c ∈ [z, TI, TO, i1, i2], c < h.objs.size := fun c hc => by
  obtain ⟨o, e, _⟩ := st.obj c hc
  exact Heap.lt_size e
theorem turn_zipF {P : Program} {w : World} {K : PySem.W.Frag} {elts : List Expr} {kk : Nat} {tpos : Pos} {t1 t2 : Bool} {a b z TI TO i1 i2 : Addr} (S : ZipSep2 z TI TO i1 i2 [i1, a] [i2, b]) :
    Turn P w K (.Tuple elts kk tpos) (ItzF t1 t2 K a b) [z, TI, TO, i1, i2] z (fun i h => IsZip h z TI TO .none ∧ ZAt h t1 t2 a b z TI TO i1 i2 i) where
  mem := by simp
  obj := fun i h st c hc => st.2.obj c hc
  keep := fun i h h' st k => ⟨k z (by simp) _ st.1, st.2.keep k⟩
  item := by
    intro X hP hw hK hc i pins s σ H E I hf st hg
    subst hP hw hK
    obtain ⟨xs, ys, x, y, hqx, hqy, hx, hy⟩ := hg
    obtain ⟨its, rv, p⟩ := seq_k I hqx
    obtain ⟨its2, rv2, p2⟩ := seq_k I hqy
    obtain ⟨u, hu, ru⟩ := rv.get hx
    obtain ⟨u2, hu2, ru2⟩ := rv2.get hy
    have hl := zat_lt st.2
    have l1 : i < its.toArray.size := by have := (List.getElem?_eq_some_iff.mp hu).1; simpa using this
    have l2 : i < its2.toArray.size := by have := (List.getElem?_eq_some_iff.mp hu2).1; simpa using this
    have hT : s.TypeIs (.ref z) "zip" := ⟨_, st.1, rfl⟩
    have hh : X.A.in1.handled = none := I.ok.hd hc
    have n1 := ne_src p st.2.k1
    have n2 := ne_src p2 st.2.k2
    obtain ⟨hz, ⟨_, hI, ⟨x0, y0, hO⟩, h1, h2⟩⟩ := st
    unfold pyNext
    refine wpAny_bind (wpAny_attempt (wpAny_callSpecial?_slot (name := Str.ofString "__next__") hT F.slot_zip_next (wpAny_call_entry F.slot_zip_next hT F.entry_zip_next
      (zip_nextU S (draws_k t1 hh i1 a n1 its.toArray) (draws_k t2 hh i2 b n2 its2.toArray) hz (.inl rfl) hI hO ⟨h1, p⟩ ⟨h2, p2⟩ l1 l2 fun x1 x2 h' tk f1 m1 y1 y2 z' fr' O' sa sb hT hsz hk hzz => wpAny_pure ?_) (F.args_zip_next_1 _))))
    obtain ⟨ef, em⟩ := hzz ⟨rfl, rfl⟩
    rw [ef, em] at z'
    have ex : x1 = u := by
      have y1 : its.toArray[i]? = some x1 := y1
      rw [List.getElem?_toArray, hu] at y1
      exact (Option.some.inj y1).symm
    have ey : x2 = u2 := by
      have y2 : its2.toArray[i]? = some x2 := y2
      rw [List.getElem?_toArray, hu2] at y2
      exact (Option.some.inj y2).symm
    subst ex ey
    refine ⟨_, rfl, wpAny_letOwnedTupleGo_zip (s := { s with heap := h', toks := tk }) z' fun h'' z'' sc => ?_⟩
    have hzl : z < s.heap.objs.size := hl z (by simp)
    have hT2 : h''.get? s.heap.objs.size = some (tupO #[x1, x2]) := sb_get sc (Nat.ne_of_gt hzl) hT
    have new : ObjOk X.prog X.w (upd H s.heap.objs.size (.frz (tupO #[x1, x2]) (.tup [x, y]))) h'' s.heap.objs.size (.frz (tupO #[x1, x2]) (.tup [x, y])) :=
      ⟨hT2, by show 2 ≤ sizeLine; decide, [x1, x2], .cons ru (.cons ru2 .nil), ⟨_, hT2, rfl, _, rfl⟩⟩
    have I1 := I.turnedNew (h' := h'') (t' := tk) (ch := [z, TI, TO, i1, i2]) (fun c o hb q => sb_get sc (fun q' => hb (by simp [q'])) (hk c o (fun q' => hb (by simp [q'])) (fun q' => hb (by simp [q'])) (fun q' => hb (by simp [q'])) (fun q' => hb (by simp [q'])) q)) hf (Nat.le_refl _) new
    refine ⟨.ref s.heap.objs.size, _, I1, rfl, ⟨_, _, x, y, rfl, I.hok.fresh (Nat.le_refl _), rfl, rfl, rfl, fun l hl => by rw [inj_k I hl hqx]; exact hx, fun l hl => by rw [inj_k I hl hqy]; exact hy⟩, ⟨z'', ⟨⟨_, _, z'', .inl rfl⟩, ?_, ?_, ?_, ?_⟩⟩, fun c hcm => ?_⟩
    · exact sb_get sc S.TIz (hk _ _ S.TIz S.TITO S.TIi1 S.TIi2 hI)
    · obtain ⟨u', v', O'⟩ := O'; exact ⟨u', v', sb_get sc S.TOz O'⟩
    · exact sa.1.at_ fun o q => sb_get sc (Ne.symm S.zi1) q
    · exact sb.1.at_ fun o q => sb_get sc (Ne.symm S.zi2) q
    · rw [upd_ne (Nat.ne_of_lt (hl c hcm))]
      exact (hf c hcm).1
  done := by
    intro X hP hw hK hc i pins s σ H E I hf st hg
    subst hP hw hK
    obtain ⟨xs, ys, hqx, hqy, hend⟩ := hg
    obtain ⟨its, rv, p⟩ := seq_k I hqx
    obtain ⟨its2, rv2, p2⟩ := seq_k I hqy
    have l1 := rv.length
    have l2 := rv2.length
    have hT : s.TypeIs (.ref z) "zip" := ⟨_, st.1, rfl⟩
    have hh : X.A.in1.handled = none := I.ok.hd hc
    have n1 := ne_src p st.2.k1
    have n2 := ne_src p2 st.2.k2
    obtain ⟨hz, ⟨_, hI, ⟨x0, y0, hO⟩, h1, h2⟩⟩ := st
    unfold pyNext
    refine wpAny_bind (wpAny_attempt (wpAny_callSpecial?_slot (name := Str.ofString "__next__") hT F.slot_zip_next (wpAny_call_entry F.slot_zip_next hT F.entry_zip_next ?_ (F.args_zip_next_1 _))))
    have fin : ∀ (h' : Heap) (tk : Nat), (∀ c o, c ≠ z → c ≠ TO → c ≠ i1 → c ≠ i2 → s.heap.get? c = some o → h'.get? c = some o) → (none : Option Value) = none ∧ Inv X pins σ H { s with heap := h', toks := tk } := fun h' tk hk =>
      ⟨rfl, I.turnedL (t' := tk) (ch := [z, TI, TO, i1, i2]) (fun c o hb q => hk c o (fun q' => hb (by simp [q'])) (fun q' => hb (by simp [q'])) (fun q' => hb (by simp [q'])) (fun q' => hb (by simp [q'])) q) hf⟩
    by_cases c1 : xs.length ≤ i
    · by_cases c2 : ys.length ≤ i
      · exact zip_endU S (draws_end t1 hh i1 a its.toArray i (by simp; omega)) (draws_end t2 hh i2 b its2.toArray i (by simp; omega)) hz (.inl rfl) hI hO ⟨rfl, h1, p⟩ ⟨rfl, h2, p2⟩ (Nat.le_refl _) (Nat.le_refl _) (.inl rfl) fun h' tk e hk ⟨o, ho, hc'⟩ => wpAny_bind (wpAny_isInstance (T := "StopIteration") (b := true) ⟨o, ho, hc'⟩ isSubtype_stop (wpAny_pure (fin h' tk hk)))
      · exact zip_endU S (draws_end t1 hh i1 a its.toArray i (by simp; omega)) (draws_k t2 hh i2 b n2 its2.toArray) hz (.inl rfl) hI hO ⟨rfl, h1, p⟩ ⟨h2, p2⟩ (Nat.le_refl _) (by simp; omega) (.inl rfl) fun h' tk e hk ⟨o, ho, hc'⟩ => wpAny_bind (wpAny_isInstance (T := "StopIteration") (b := true) ⟨o, ho, hc'⟩ isSubtype_stop (wpAny_pure (fin h' tk hk)))
    · have c2 : ys.length ≤ i := by omega
      exact zip_endU S (draws_k t1 hh i1 a n1 its.toArray) (draws_end t2 hh i2 b its2.toArray i (by simp; omega)) hz (.inl rfl) hI hO ⟨h1, p⟩ ⟨rfl, h2, p2⟩ (by simp; omega) (Nat.le_refl _) (.inr rfl) fun h' tk e hk ⟨o, ho, hc'⟩ => wpAny_bind (wpAny_isInstance (T := "StopIteration") (b := true) ⟨o, ho, hc'⟩ isSubtype_stop (wpAny_pure (fin h' tk hk)))
  self := fun A i s Q E st h => wpAny_pyIter_zip st.1 h
end DL
set_option Elab.async false
set_option linter.all false
set_option maxRecDepth 100000
set_option maxHeartbeats 1000000
set_option autoImplicit false
namespace DL
open PySem PySem.Spec PyProof.Rows L2
/-- a zip's making, whatever is done with it -/
theorem run_zip {X : Cx} {e e2 : Expr} {ta : TA} {p pos : Pos} {pins : List (Addr × Obj)} {s : Shared} {σ : L2.St} {H : Hp} {Q : Value → Shared → Prop} (hg : Gl X "zip") (hm : X.mg "zip" = none) (ha : PA X [e, e2] ta) (I : Inv X pins σ H s)
    (hs : starEach [e, e2] X.env = (false, eval e X.env) :: starEach [e2] X.env) (hpl : (backTo pos (starEach [e2] X.env)).any (·.1) = false) {J : Bool → Bool → Addr → Addr → Hp → Prop}
    (h : ta σ H fun vs H1 => ∃ t1 t2 a b xs ys, vs = [.ref a, .ref b] ∧ SqK t1 X.K H1 a xs ∧ SqK t2 X.K H1 b ys ∧ J t1 t2 a b H1)
    (k : ∀ t1 t2 a b H1 (s1 : Shared) h' N, Inv X pins σ H1 { s1 with heap := h' } → J t1 t2 a b H1 → s1.heap.objs.size = N → Inv X pins σ H1 s1 → h'.objs.size = N + 5 → a < N → b < N → IsZip h' (N + 4) (N + 2) (N + 3) .none → ZAt h' t1 t2 a b (N + 4) (N + 2) (N + 3) N (N + 1) 0 → Q (.ref (N + 4)) { s1 with heap := h' }) :
    wpAny (model X.prog X.w) X.A (eval (.Call (.Name "zip" p) [e, e2] [] pos) X.env) Q X.xe s := by
  refine Call_ (ld_blt I hg hm PyProof.Rows.boot_zip (PyProof.Rows.callWith_type1 (thn (ha.run pos pins s σ H _ I h) fun us s1 ⟨vs, H1, I1, r1, q1⟩ => ?_) hs hpl))
  obtain ⟨t1, t2, a, b, xs, ys, ex, hqx, hqy, q⟩ := q1
  subst ex
  cases r1 with
  | cons r rr =>
    cases rr with
    | cons r' rr =>
      cases rr
      cases r
      cases r'
      obtain ⟨its, rv, p1⟩ := seq_k I1 hqx
      obtain ⟨its2, rv2, p2⟩ := seq_k I1 hqy
      have la : a < s1.heap.objs.size := by obtain ⟨o, e, _⟩ := p1.ob; exact Heap.lt_size e
      have lb : b < s1.heap.objs.size := by obtain ⟨o, e, _⟩ := p2.ob; exact Heap.lt_size e
      refine zip_begins2 (begins_k t1 a its.toArray) (begins_k t2 b its2.toArray) p1 p2 fun h' hz hTI hTO h1 h2 hsz hk => ?_
      have I2 : Inv X pins σ H1 { s1 with heap := h' } := I1.kept (t' := s1.toks) hk
      have i1 : ItK t1 h' s1.heap.objs.size a 0 := by cases t1 <;> exact ⟨_, h1, rfl, rfl⟩
      have i2 : ItK t2 h' (s1.heap.objs.size + 1) b 0 := by cases t2 <;> exact ⟨_, h2, rfl, rfl⟩
      exact k t1 t2 a b H1 s1 h' _ I2 q rfl I1 hsz la lb hz ⟨⟨_, _, hz, .inl rfl⟩, hTI, ⟨_, _, hTO⟩, i1, i2⟩
def iZipF (K : PySem.W.Frag) (ta : TA) : TI := fun σ H R => ta σ H fun vs H1 => ∃ t1 t2 a b xs ys, vs = [.ref a, .ref b] ∧ SqK t1 K H1 a xs ∧ SqK t2 K H1 b ys ∧ R (ItzF t1 t2 K a b) H1
theorem sep5 {N a b : Addr} (la : a < N) (lb : b < N) : ZipSep2 (N + 4) (N + 2) (N + 3) N (N + 1) [N, a] [N + 1, b] :=
  zip_sep2 (fp1 := [a]) (fp2 := [b]) (fun c hc => by rw [List.mem_singleton] at hc; subst hc; exact la) (fun c hc => by rw [List.mem_singleton] at hc; subst hc; exact lb)
theorem ge5 {N c : Nat} (h : c ∈ [N + 4, N + 2, N + 3, N, N + 1]) : N ≤ c ∧ c < N + 5 := by
  simp only [List.mem_cons, List.not_mem_nil, or_false] at h
  omega
theorem pi_zipF {X : Cx} {e e2 : Expr} {ta : TA} {p pos tpos : Pos} {elts : List Expr} {kk : Nat} (hg : Gl X "zip") (hm : X.mg "zip" = none) (ha : PA X [e, e2] ta)
    (hs : starEach [e, e2] X.env = (false, eval e X.env) :: starEach [e2] X.env := by rfl) (hpl : (backTo pos (starEach [e2] X.env)).any (·.1) = false := by rfl) :
    PI X (.Tuple elts kk tpos) (.Call (.Name "zip" p) [e, e2] [] pos) (iZipF X.K ta) := by
  refine ⟨fun pins s σ H R I h => ?_⟩
  refine run_zip (J := fun t1 t2 a b H1 => R (ItzF t1 t2 X.K a b) H1) hg hm ha I hs hpl h fun t1 t2 a b H1 s1 h' N I2 q hN I1 hsz la lb hz za => wpAny_pyIter_zip hz ?_
  refine ⟨N + 4, [N + 4, N + 2, N + 3, N, N + 1], _, _, H1, rfl, I2, turn_zipF (sep5 la lb), ⟨hz, za⟩, fun c hcm => ?_, q⟩
  have hle : s1.heap.objs.size ≤ c := by rw [hN]; exact (ge5 hcm).1
  exact I1.fpOk hle (I1.hok.fresh hle)
end DL
set_option Elab.async false
set_option linter.all false
set_option maxRecDepth 100000
set_option maxHeartbeats 1000000
set_option autoImplicit false
namespace DL
open PySem PySem.Spec PyProof.Rows L2
def seqS : PyData → Option (List PyData)
  | .list ds => some ds
  | .tuple ds => some ds
  | _ => none
def srcR (δ : SEnv) : R → Option (List PyData × SEnv)
  | .w d => (seqS d).bind fun ds => if ds.all scalar then some (ds, δ) else none
  | r => (frz δ r).bind fun p => (seqS p.1).map fun ds => (ds, p.2)
def srcR2 (δ : SEnv) : List R → Option ((List PyData × List PyData) × SEnv)
  | [r1, r2] => (srcR δ r1).bind fun p => (srcR p.2 r2).map fun q => ((p.1, q.1), q.2)
  | _ => none
section
variable {K : PySem.W.Frag} {F B H : Hp} {vs : List V} {σ : L2.St} {δ : SEnv} {v : V}
/-- a sequence of these things stands at v -/
def SrcAt (K : PySem.W.Frag) (B : Hp) (v : V) (ds : List PyData) : Prop := ∃ t a xs, v = .ref a ∧ DDs B xs ds ∧ ∀ H, Same B H → SqK t K H a xs
theorem SrcAt.up {B B' : Hp} {ds : List PyData} (h : SrcAt K B v ds) (s : Same B B') : SrcAt K B' v ds := by
  obtain ⟨t, a, xs, e, q, f⟩ := h
  exact ⟨t, a, xs, e, q.mono s, fun H s1 => f H (s.trans s1)⟩
theorem src_dd {d : PyData} {ds : List PyData} (h : DD B v d) (e : seqS d = some ds) : SrcAt K B v ds := by
  cases h with
  | lst r q => cases e; exact ⟨false, _, _, rfl, q, fun H s => .inl (same_rd s r)⟩
  | tup r q => cases e; exact ⟨true, _, _, rfl, q, fun H s => .inl (r.mono s).rd⟩
  | _ => cases e
theorem srcR_ok {r : R} {ds : List PyData} {δ' : SEnv} (h : Rep K F B H vs σ δ) (hr : RepR K F B H σ δ v r) (e : srcR δ r = some (ds, δ')) : ∃ B', Same B B' ∧ Rep K F B' H vs σ δ' ∧ SrcAt K B' v ds := by
  have fr : ((frz δ r).bind fun p => (seqS p.1).map fun ds => (ds, p.2)) = some (ds, δ') → ∃ B', Same B B' ∧ Rep K F B' H vs σ δ' ∧ SrcAt K B' v ds := by
    intro e
    obtain ⟨⟨d, δ1⟩, e1, e2⟩ := Option.bind_eq_some_iff.mp e
    obtain ⟨ds', e3, e4⟩ := Option.map_eq_some_iff.mp e2
    cases e4
    obtain ⟨B', s, h', q⟩ := frz_ok h hr e1
    exact ⟨B', s, h', src_dd q e3⟩
  cases r with
  | w d =>
    obtain ⟨ds', e1, e2⟩ := Option.bind_eq_some_iff.mp e
    split at e2
    · rename_i hs
      cases e2
      refine ⟨B, Same.refl _, h, ?_⟩
      have q1 : Dp K (fun _ => none) v d := hr
      cases q1 with
      | lst r3 q3 => cases e1; exact ⟨false, _, _, rfl, dp_items q3 hs B, fun H s => L2.Same.seq (fun _ _ z => by cases z) r3⟩
      | tup r3 q3 =>
        cases e1
        refine ⟨true, _, _, rfl, dp_items q3 hs B, fun H s => ?_⟩
        rcases r3 with r3 | r3
        · exact .inl (same_rd (B := fun _ => none) (fun _ _ z => by cases z) r3)
        · exact .inr r3
      | _ => cases e1
    · cases e2
  | d d => exact fr e
  | o i => exact fr e
  | n c => exact fr e
theorem zip_at {ds es : List PyData} {i : Nat} {d : PyData} (e : (zipD ds es)[i]? = some d) : ∃ d0 d1, ds[i]? = some d0 ∧ es[i]? = some d1 ∧ d = .tuple [d0, d1] := by
  unfold zipD at e
  rw [List.getElem?_zipWith] at e
  cases e4 : ds[i]? with
  | none => rw [e4] at e; simp at e
  | some d0 =>
    cases e5 : es[i]? with
    | none => rw [e4, e5] at e; simp at e
    | some d1 =>
      rw [e4, e5] at e
      have e : some (PyData.tuple [d0, d1]) = some d := e
      exact ⟨d0, d1, rfl, rfl, (Option.some.inj e).symm⟩
theorem it_zipF {t1 t2 : Bool} {a b : Addr} {xs ys : List V} {ds es : List PyData} (h : ∀ H, Same B H → SqK t1 K H a xs) (q : DDs B xs ds) (h2 : ∀ H, Same B H → SqK t2 K H b ys) (q2 : DDs B ys es) : ItOk B (ItzF t1 t2 K a b) (zipD ds es) := by
  have hl : (zipD ds es).length = min ds.length es.length := List.length_zipWith
  refine ⟨fun i H s hi => ⟨xs, ys, h H s, h2 H s, by rw [hl] at hi; rw [q.length, q2.length]; omega⟩, fun i H s hi => ?_, fun i H B2 x H' d s s2 y e => ?_⟩
  · rw [hl] at hi
    have hx : i < xs.length := by rw [q.length]; omega
    have hy : i < ys.length := by rw [q2.length]; omega
    exact ⟨xs, ys, xs[i], ys[i], h H s, h2 H s, by simp [hx], by simp [hy]⟩
  · obtain ⟨T, o, v, u, e1, e2, e3, ec, ed, y1, y2⟩ := y
    obtain ⟨d0, d1, e4, e5, rfl⟩ := zip_at e
    obtain ⟨v0, e6, p1⟩ := q.get e4
    obtain ⟨u0, e7, p2⟩ := q2.get e5
    have a1 := y1 xs (h H (s.trans s2))
    have a2 := y2 ys (h2 H (s.trans s2))
    rw [e6] at a1; cases a1
    rw [e7] at a2; cases a2
    exact yl_tup s s2 e1 e2 e3 ec ed (.cons p1 (.cons p2 .nil))
end
def wZipW (wr : WA) : WI := fun Ex δ P => wr Ex δ fun rs δ1 => ob (srcR2 δ1 rs) fun p => P (zipD p.1.1 p.1.2) p.2
section
variable {S : Sg}
theorem src2_ok {K : PySem.W.Frag} {F B H : Hp} {vs ws : List V} {σ : L2.St} {δ δ' : SEnv} {rs : List R} {p : List PyData × List PyData} (h : Rep K F B H vs σ δ) (hr : RepRs K F B H σ δ ws rs) (e : srcR2 δ rs = some (p, δ')) :
    ∃ B' v1 v2, ws = [v1, v2] ∧ Same B B' ∧ Rep K F B' H vs σ δ' ∧ SrcAt K B' v1 p.1 ∧ SrcAt K B' v2 p.2 := by
  unfold srcR2 at e
  split at e
  · obtain ⟨⟨ds, δ1⟩, e1, e2⟩ := Option.bind_eq_some_iff.mp e
    obtain ⟨⟨es, δ2⟩, e3, e4⟩ := Option.map_eq_some_iff.mp e2
    cases e4
    cases hr with
    | cons a1 a2 =>
      cases a2 with
      | cons a2 a3 =>
        cases a3
        obtain ⟨B1, s1, h1, q1⟩ := srcR_ok h a1.1 e1
        obtain ⟨B2, s2, h2, q2⟩ := srcR_ok h1 (RepR.up s1 a2.1 a2.2) e3
        exact ⟨B2, _, _, rfl, s1.trans s2, h2, q1.up s2, q2⟩
  · cases e
theorem di_zipW {e e2 : Expr} {wr : WA} {p pos tpos : Pos} {elts : List Expr} {kk : Nat} (hg : GlS S.sc "zip") (hm : S.g.mg "zip" = none) (ha : DA S [e, e2] wr) (hs : ∀ env, starEach [e, e2] env = (false, eval e env) :: starEach [e2] env := by intro _; rfl) (hp : ∀ env, (backTo pos (starEach [e2] env)).any (·.1) = false := by intro _; rfl) :
    DI S (.Tuple elts kk tpos) (.Call (.Name "zip" p) [e, e2] [] pos) (wZipW wr) := by
  obtain ⟨t, pa, s⟩ := ha
  refine ⟨iZipF S.g.K t, fun c hc => pi_zipF (X := S.g.cx c) (gl_of hc hg) hm (pa c hc) (hs _) (hp _), ⟨fun Ex Ex' δ P P' hx h w => s.mono _ _ _ _ _ hx (fun r δ1 w => w.imp fun p w => h _ _ w) w, fun Ex F B H vs σ δ P R' hx h w k => ?_⟩⟩
  refine s.run _ _ _ _ _ _ _ _ _ hx h w fun B1 H1 ws rs δ1 s1 h1 q1 w1 => ?_
  obtain ⟨⟨⟨ds, es⟩, δ2⟩, e1, w1⟩ := w1
  obtain ⟨B2, v1, v2, rfl, s2, h2, ⟨t1, a, xs, rfl, qa, fa⟩, t2, b, ys, rfl, qb, fb⟩ := src2_ok h1 q1 e1
  exact ⟨t1, t2, a, b, xs, ys, rfl, fa H1 h2.sb, fb H1 h2.sb, k B2 H1 _ _ δ2 (s1.trans s2) h2 (it_zipF fa qa fb qb) w1⟩
end
end DL
set_option Elab.async false
set_option linter.all false
set_option maxRecDepth 100000
set_option maxHeartbeats 1000000
set_option autoImplicit false
namespace DL
open PySem PySem.Spec PyProof.Rows L2
def inT (neg : Bool) (a b : Vw) : Option Rv := match a, b with
  | .d d, .d (.tuple ds) => if SeqAt.shaped d && SeqAt.shaped (.tuple ds) then some (.val (.bool (if neg then !(ds.any fun z => PyData.eqv z d) else ds.any fun z => PyData.eqv z d))) else inN neg (.d d) (.d (.tuple ds))
  | a, b => inN neg a b
theorem os_inT_ {S : Sg} (neg : Bool) : OpS S (compareOp (if neg then .NotIn else .In)) (inT neg) := by
  rintro c hc pins s σ H x y v u Q I rx ry ⟨B, a, b, rv, sB, oa, ob, e, k⟩
  have hu : (S.g.cx c).A.units + 65 < cLine := by have := hc.room.un; show c.A.units + 65 < cLine; omega
  unfold inT at e
  split at e
  · split at e
    · rename_i hs
      cases e
      rw [Bool.and_eq_true] at hs
      obtain ⟨as, r1⟩ := Dp.reads I _ x v (OV.dp sB oa) rx
      obtain ⟨bs, r2⟩ := Dp.reads I _ y u (OV.dp sB ob) ry
      cases neg
      · exact SeqAt.in_tuple_reads r2 r1 (SeqAt.canLay_of_shaped hs.2) (SeqAt.canLay_of_shaped hs.1) (room_in_shaped hs.1 hu) ⟨.bl _, H, I, rfl, k _ (.bl _)⟩
      · exact SeqAt.notIn_tuple_reads r2 r1 (SeqAt.canLay_of_shaped hs.2) (SeqAt.canLay_of_shaped hs.1) (room_in_shaped hs.1 hu) ⟨.bl _, H, I, rfl, k _ (.bl _)⟩
    · exact os_inN_ neg c hc pins s σ H x y v u Q I rx ry ⟨B, _, _, rv, sB, oa, ob, e, k⟩
  · exact os_inN_ neg c hc pins s σ H x y v u Q I rx ry ⟨B, _, _, rv, sB, oa, ob, e, k⟩
theorem os_inT {S : Sg} : OpS S (compareOp .In) (inT false) := os_inT_ false
theorem os_notinT {S : Sg} : OpS S (compareOp .NotIn) (inT true) := os_inT_ true
end DL
set_option Elab.async false
set_option linter.all false
set_option maxRecDepth 100000
set_option maxHeartbeats 1000000
set_option autoImplicit false
namespace DL
open PySem PySem.Spec PyProof.Rows L2 LamX
end DL
set_option Elab.async false
set_option linter.all false
set_option maxRecDepth 100000
set_option maxHeartbeats 1000000
set_option autoImplicit false
namespace DL
open PySem PySem.Spec PyProof.Rows L2
theorem fps_nil : OT.fps [] = [] := by unfold OT.fps; rfl
theorem fps_cons {q : Key × OT} {r : List (Key × OT)} : OT.fps (q :: r) = q.2.fp ++ OT.fps r := by
  obtain ⟨k, t⟩ := q; rw [OT.fps]
theorem fp_d {d : PyData} : (OT.d d).fp = [] := by unfold OT.fp; rfl
theorem fp_n {a : Addr} {b : Bool} {ts : List (Key × OT)} : (OT.n a b ts).fp = a :: OT.fps ts := by rw [OT.fp]
theorem fps_append : ∀ {xs ys : List (Key × OT)}, OT.fps (xs ++ ys) = OT.fps xs ++ OT.fps ys
  | [], _ => by rw [fps_nil]; rfl
  | q :: r, ys => by rw [List.cons_append, fps_cons, fps_cons, fps_append, List.append_assoc]
theorem fps_in : ∀ {ts : List (Key × OT)} {i : Nat} {q : Key × OT} {p : Addr}, ts[i]? = some q → p ∈ q.2.fp → p ∈ OT.fps ts
  | [], _, _, _, e, _ => by simp at e
  | x :: r, 0, _, _, e, f => by simp at e; subst e; rw [fps_cons]; exact List.mem_append_left _ f
  | x :: r, i + 1, _, _, e, f => by rw [fps_cons]; exact List.mem_append_right _ (fps_in (i := i) (by simpa using e) f)
theorem root_in {t : OT} {a : Addr} (e : t.root = some a) : a ∈ t.fp := by
  cases t with
  | d _ => cases e
  | n _ _ _ => cases e; rw [fp_n]; exact List.mem_cons_self ..
def OT.put : OT → List Key → OT → OT
  | _, [], u => u
  | .d x, _ :: _, _ => .d x
  | .n a b ts, k :: p, u => match chN b ts k with
    | some i => match ts[i]? with
      | some q => .n a b (ts.set i (q.1, q.2.put p u))
      | none => .n a b ts
    | none => .n a b ts
theorem at_cons {a : Addr} {b : Bool} {ts : List (Key × OT)} {k : Key} {p : List Key} {u : OT} (e : (OT.n a b ts).at (k :: p) = some u) : ∃ i q, chN b ts k = some i ∧ ts[i]? = some q ∧ q.2.at p = some u := by
  simp only [OT.at] at e
  obtain ⟨i, e1, e⟩ := Option.bind_eq_some_iff.mp e
  obtain ⟨q, e2, e⟩ := Option.bind_eq_some_iff.mp e
  exact ⟨i, q, e1, e2, e⟩
theorem at_nil {t : OT} : t.at [] = some t := by cases t <;> rfl
theorem put_nil {t u : OT} : t.put [] u = u := by cases t <;> rfl
theorem put_cons {a : Addr} {b : Bool} {ts : List (Key × OT)} {k : Key} {p : List Key} {u : OT} {i : Nat} {q : Key × OT} (e1 : chN b ts k = some i) (e2 : ts[i]? = some q) : (OT.n a b ts).put (k :: p) u = .n a b (ts.set i (q.1, q.2.put p u)) := by
  simp only [OT.put, e1, e2]
theorem at_fp : ∀ {p : List Key} {t u : OT} {x : Addr}, t.at p = some u → x ∈ u.fp → x ∈ t.fp
  | [], t, u, x, e, f => by rw [at_nil] at e; cases e; exact f
  | k :: p, .d _, u, x, e, f => by cases e
  | k :: p, .n a b ts, u, x, e, f => by
    obtain ⟨i, q, _, e2, e3⟩ := at_cons e
    rw [fp_n]
    exact List.mem_cons_of_mem _ (fps_in e2 (at_fp e3 f))
theorem root_put {p : List Key} {t t0 u : OT} {a : Addr} (e : t.at p = some t0) (e0 : t0.root = some a) (eu : u.root = some a) : (t.put p u).root = t.root := by
  cases p with
  | nil => rw [at_nil] at e; cases e; rw [put_nil, e0, eu]
  | cons k p =>
    cases t with
    | d _ => cases e
    | n a b ts => obtain ⟨i, q, e1, e2, e3⟩ := at_cons e; rw [put_cons e1 e2]; rfl
theorem fps_set : ∀ {ts : List (Key × OT)} {i : Nat} {q : Key × OT} {x : Addr} {k : Key} {u : OT}, ts[i]? = some q → x ∈ OT.fps (ts.set i (k, u)) → x ∈ OT.fps ts ∨ x ∈ u.fp
  | [], _, _, _, _, _, e, _ => by simp at e
  | y :: r, 0, _, _, _, _, e, f => by
    rw [List.set_cons_zero, fps_cons] at f
    rcases List.mem_append.mp f with f | f
    · exact .inr f
    · exact .inl (by rw [fps_cons]; exact List.mem_append_right _ f)
  | y :: r, i + 1, _, _, _, _, e, f => by
    rw [List.set_cons_succ, fps_cons] at f
    rcases List.mem_append.mp f with f | f
    · exact .inl (by rw [fps_cons]; exact List.mem_append_left _ f)
    · rcases fps_set (i := i) (by simpa using e) f with f | f
      · exact .inl (by rw [fps_cons]; exact List.mem_append_right _ f)
      · exact .inr f
theorem fp_put : ∀ {p : List Key} {t t0 u : OT} {x : Addr}, t.at p = some t0 → x ∈ (t.put p u).fp → x ∈ t.fp ∨ x ∈ u.fp
  | [], t, t0, u, x, e, f => by rw [put_nil] at f; exact .inr f
  | k :: p, .d _, _, u, x, e, f => by cases e
  | k :: p, .n a b ts, _, u, x, e, f => by
    obtain ⟨i, q, e1, e2, e3⟩ := at_cons e
    rw [put_cons e1 e2, fp_n] at f
    rw [fp_n]
    rcases List.mem_cons.mp f with rfl | f
    · exact .inl (List.mem_cons_self ..)
    · rcases fps_set e2 f with f | f
      · exact .inl (List.mem_cons_of_mem _ f)
      · rcases fp_put e3 f with f | f
        · exact .inl (List.mem_cons_of_mem _ (fps_in e2 f))
        · exact .inr f
theorem nodup_set : ∀ {ts : List (Key × OT)} {i : Nat} {q : Key × OT} {k : Key} {u : OT}, ts[i]? = some q → (OT.fps ts).Nodup → u.fp.Nodup → (∀ x, x ∈ u.fp → x ∈ q.2.fp ∨ x ∉ OT.fps ts) → (OT.fps (ts.set i (k, u))).Nodup
  | [], _, _, _, _, e, _, _, _ => by simp at e
  | y :: r, 0, q, _, u, e, n, nu, h => by
    simp at e; subst e
    rw [fps_cons] at n
    obtain ⟨n1, n2, n3⟩ := List.nodup_append.mp n
    rw [List.set_cons_zero, fps_cons]
    refine List.nodup_append.mpr ⟨nu, n2, fun x f y' f' z => ?_⟩
    subst z
    rcases h x f with g | g
    · exact n3 x g x f' rfl
    · exact g (by rw [fps_cons]; exact List.mem_append_right _ f')
  | y :: r, i + 1, q, k, u, e, n, nu, h => by
    have e' : r[i]? = some q := by simpa using e
    rw [fps_cons] at n
    obtain ⟨n1, n2, n3⟩ := List.nodup_append.mp n
    rw [List.set_cons_succ, fps_cons]
    refine List.nodup_append.mpr ⟨n1, nodup_set e' n2 nu fun x f => (h x f).imp id fun g z => g (by rw [fps_cons]; exact List.mem_append_right _ z), fun x f y' f' z => ?_⟩
    subst z
    rcases fps_set e' f' with g | g
    · exact n3 x f x g rfl
    · rcases h x g with g | g
      · exact n3 x f x (fps_in e' g) rfl
      · exact g (by rw [fps_cons]; exact List.mem_append_left _ f)
theorem nodup_at {ts : List (Key × OT)} {i : Nat} {q : Key × OT} (e : ts[i]? = some q) (n : (OT.fps ts).Nodup) : q.2.fp.Nodup := by
  induction ts generalizing i with
  | nil => simp at e
  | cons y r ih =>
    rw [fps_cons] at n
    obtain ⟨n1, n2, _⟩ := List.nodup_append.mp n
    cases i with
    | zero => simp at e; subst e; exact n1
    | succ i => exact ih (i := i) (by simpa using e) n2
theorem nodup_put : ∀ {p : List Key} {t t0 u : OT}, t.at p = some t0 → t.fp.Nodup → u.fp.Nodup → (∀ x, x ∈ u.fp → x ∈ t0.fp ∨ x ∉ t.fp) → (t.put p u).fp.Nodup
  | [], t, t0, u, e, n, nu, h => by rw [put_nil]; exact nu
  | k :: p, .d _, _, u, e, n, nu, h => by cases e
  | k :: p, .n a b ts, t0, u, e, n, nu, h => by
    obtain ⟨i, q, e1, e2, e3⟩ := at_cons e
    rw [put_cons e1 e2, fp_n]
    rw [fp_n] at n
    obtain ⟨na, n⟩ := List.nodup_cons.mp n
    have no : ∀ x, x ∈ u.fp → x ∈ t0.fp ∨ x ∉ OT.fps ts := fun x f => (h x f).imp id fun g z => g (by rw [fp_n]; exact List.mem_cons_of_mem _ z)
    refine List.nodup_cons.mpr ⟨fun z => ?_, nodup_set e2 n (nodup_put e3 (nodup_at e2 n) nu fun x f => (no x f).imp id fun g z => g (fps_in e2 z)) fun x f => ?_⟩
    · rcases fps_set e2 z with z | z
      · exact na z
      · rcases fp_put e3 z with z | z
        · exact na (fps_in e2 z)
        · rcases h a z with z | z
          · exact na (fps_in e2 (at_fp e3 z))
          · exact z (by rw [fp_n]; exact List.mem_cons_self ..)
    · rcases fp_put e3 f with f | f
      · exact .inl f
      · exact (no x f).imp (at_fp e3) id
theorem otks_set {B H H' : Hp} {a' : Addr} (fr : ∀ x, x ≠ a' → H' x = H x) : ∀ {ys : List (Key × V)} {ts : List (Key × OT)} {i : Nat} {q : Key × OT} {u : OT}, OTks B H ys ts → ts[i]? = some q → (OT.fps ts).Nodup → a' ∈ q.2.fp → (∀ v, OTk B H v q.2 → OTk B H' v u) → OTks B H' ys (ts.set i (q.1, u))
  | _, _, _, _, _, .nil, e, _, _, _ => by simp at e
  | _, _, 0, _, _, .cons q r, e, n, f, h => by
    simp at e; subst e
    rw [fps_cons] at n
    obtain ⟨n1, n2, n3⟩ := List.nodup_append.mp n
    exact .cons (h _ q) (r.mono (Same.refl _) fun x g => fr x fun z => by subst z; exact n3 _ f _ g rfl)
  | _, _, i + 1, q', _, .cons q r, e, n, f, h => by
    have e' := by simpa using e
    rw [fps_cons] at n
    obtain ⟨n1, n2, n3⟩ := List.nodup_append.mp n
    exact .cons (q.mono (Same.refl _) fun x g => fr x fun z => by subst z; exact n3 _ g _ (fps_in e' f) rfl) (otks_set fr (i := i) r e' n2 f h)
theorem put_ok {B H H' : Hp} {a' : Addr} {u : OT} (fr : ∀ x, x ≠ a' → H' x = H x) (qu : OTk B H' (.ref a') u) : ∀ {p : List Key} {v : V} {t t0 : OT}, OTk B H v t → t.fp.Nodup → t.at p = some t0 → t0.root = some a' → OTk B H' v (t.put p u)
  | [], v, t, t0, q, n, e, e0 => by rw [at_nil] at e; cases e; rw [put_nil, q.root e0]; exact qu
  | k :: p, v, .d _, t0, q, n, e, e0 => by cases e
  | k :: p, _, .n a b ts, t0, .n h q, n, e, e0 => by
    obtain ⟨i, x, e1, e2, e3⟩ := at_cons e
    rw [put_cons e1 e2]
    rw [fp_n] at n
    obtain ⟨na, n⟩ := List.nodup_cons.mp n
    have f := at_fp e3 (root_in e0)
    exact .n (by rw [fr a fun z => by subst z; exact na (fps_in e2 f)]; exact h) (otks_set fr q e2 n f fun v qv => put_ok fr qu qv (nodup_at e2 n) e3 e0)
end DL
set_option Elab.async false
set_option linter.all false
set_option maxRecDepth 100000
set_option maxHeartbeats 1000000
set_option autoImplicit false
namespace DL
open PySem PySem.Spec PyProof.Rows L2
def nodeOf (δ : SEnv) : R → Option (Nat × List Key × OT)
  | .o i => match δ[i]? with
    | some (some (.o _ (.ot t))) => some (i, [], t)
    | some (some (.o _ (.al a j p))) => (alAt δ a j p).map fun u => (j, p, u)
    | _ => none
  | .n (.al a j p) => (alAt δ a j p).map fun u => (j, p, u)
  | _ => none
def holdR : R → Option R
  | .n (.al a i p) => some (.n (.al a i p))
  | r => settle r
def stepN (b : Bool) (ts : List (Key × OT)) (k : Key) : Option (Key × Nat) := if b = true then (ts.findIdx? fun q => decide (q.1 = k)).map fun i => (k, i) else match k with
  | .inl i => (ixN ts.length i).map fun (j : Nat) => (Sum.inl (Int.ofNat j), j)
  | .inr _ => none
def childR (u : OT) (j : Nat) (p : List Key) (k : Key) : Option R := match u with
  | .n _ b ts => (stepN b ts k).bind fun s => (ts[s.2]?).map fun q => match q.2 with
    | .d x => R.d x
    | .n a _ _ => R.n (.al a j (p ++ [s.1]))
  | .d _ => none
section
variable {K : PySem.W.Frag} {F B H : Hp} {vs : List V} {σ : L2.St} {δ : SEnv} {v : V} {r : R}
theorem rep_al {a : Addr} {i : Nat} {p : List Key} : RepR K F B H σ δ (.ref a) (.n (.al a i p)) := ⟨a, rfl, fun _ f => f.elim, rfl, fun _ _ _ _ _ _ _ _ f => f.elim⟩
theorem holdR_ok {r' : R} (h : Rep K F B H vs σ δ) (q : RepR K F B H σ δ v r) (e : holdR r = some r') : ∃ B', Same B B' ∧ Rep K F B' H vs σ δ ∧ ∀ F2 B2 H2 δ2, Same B' B2 → RepR K F2 B2 H2 σ δ2 v r' := by
  have gen : settle r = some r' → ∃ B', Same B B' ∧ Rep K F B' H vs σ δ ∧ ∀ F2 B2 H2 δ2, Same B' B2 → RepR K F2 B2 H2 σ δ2 v r' := fun e => by
    obtain ⟨B', s, h', q', n⟩ := settle_ok h q e
    refine ⟨B', s, h', fun F2 B2 H2 δ2 s2 => ?_⟩
    cases r' with
    | d _ => exact DD.mono s2 q'
    | w _ => exact q'
    | o _ => exact q'
    | n c => exact absurd rfl (n c)
  cases r with
  | n c =>
    cases c with
    | al a i p =>
      cases e
      obtain ⟨a', rfl, _, ea, _⟩ := q
      cases (show a' = a from ea)
      exact ⟨B, Same.refl _, h, fun _ _ _ _ _ => rep_al⟩
    | _ => exact gen e
  | _ => exact gen e
theorem nodeOf_ok {j : Nat} {p : List Key} {u : OT} (h : Rep K F B H vs σ δ) (q : RepR K F B H σ δ v r) (e : nodeOf δ r = some (j, p, u)) : ∃ b t a0 a, δ[j]? = some (some (.o b (.ot t))) ∧ σ[j]? = some (some (.ref a0)) ∧ t.at p = some u ∧ v = .ref a ∧ u.root = some a ∧ OTk B H (.ref a) u := by
  have al : ∀ {a : Addr} {j' : Nat} {p' : List Key}, v = .ref a → (alAt δ a j' p').map (fun u => (j', p', u)) = some (j, p, u) → ∃ b t a0 a, δ[j]? = some (some (.o b (.ot t))) ∧ σ[j]? = some (some (.ref a0)) ∧ t.at p = some u ∧ v = .ref a ∧ u.root = some a ∧ OTk B H (.ref a) u := by
    intro a j' p' ev e
    obtain ⟨u', e1, e⟩ := Option.map_eq_some_iff.mp e
    cases e
    obtain ⟨b, t, e2, e3, e4⟩ := alAt_some e1
    obtain ⟨v', e5, a0, rfl, _⟩ := h.ok _ _ e2
    exact ⟨b, t, a0, a, e2, e5, e3, ev, e4, alAt_ok h e1⟩
  cases r with
  | o i =>
    have ev : σ[i]? = some (some v) := q
    simp only [nodeOf] at e
    split at e
    · rename_i b t ed
      cases e
      obtain ⟨v', e5, a0, rfl, _, q2, _, e6⟩ := h.ok _ _ ed
      rw [ev] at e5; cases e5
      exact ⟨b, _, a0, a0, ed, ev, at_nil, rfl, e6, q2⟩
    · rename_i b a j' p' ed
      obtain ⟨v', e5, a0, rfl, _, q2⟩ := h.ok _ _ ed
      rw [ev] at e5; cases e5
      cases (show a0 = a from q2)
      exact al rfl e
    · cases e
  | n c =>
    cases c with
    | al a j' p' =>
      obtain ⟨a', rfl, _, ea, _⟩ := q
      cases (show a' = a from ea)
      exact al rfl e
    | _ => cases e
  | _ => cases e
end
def rIxO : R2 := fun x y H Q => ∃ a, x = .ref a ∧ ((∃ ys k v, H a = some (.dK ys) ∧ y = kV k ∧ valV ys k = some v ∧ Q v H) ∨ ∃ xs i v, H a = some (.lst xs) ∧ y = .int i ∧ atI xs i = some v ∧ Q v H)
theorem val_find {B H : Hp} {k : Key} : ∀ {ys : List (Key × V)} {ts : List (Key × OT)} {i : Nat} {q : Key × OT}, OTks B H ys ts → ts.findIdx? (fun q => decide (q.1 = k)) = some i → ts[i]? = some q → ∃ v, valV ys k = some v ∧ OTk B H v q.2
  | _, _, _, _, .nil, e, _ => by simp at e
  | _, _, i, q, .cons (k := k0) (ys := ys) (ts := ts) z r, e, e2 => by
    rw [List.findIdx?_cons] at e
    by_cases hk : k0 = k
    · rw [if_pos (decide_eq_true hk)] at e
      cases e
      simp at e2; subst e2
      exact ⟨_, valV_pos hk, z⟩
    · rw [if_neg (by simpa using hk)] at e
      obtain ⟨i', e3, e⟩ := Option.map_eq_some_iff.mp e
      subst e
      obtain ⟨v, e4, q4⟩ := val_find r e3 (by simpa using e2)
      exact ⟨v, by rw [valV_neg hk]; exact e4, q4⟩
def wIxO (wa wb : WE) : WE := fun Ex δ P => wa Ex δ fun ra δ1 => ob (holdR ra) fun ra' => wb Ex δ1 fun rb δ2 => ob (view δ2 rb) fun b => ob (keyV b) fun k => ob (nodeOf δ2 ra') fun q => ob (childR q.2.2 q.1 q.2.1 k) fun r => P r δ2
section
variable {S : Sg}
theorem ix_O {c : Cl} (hc : S.ok c) : IxR (S.g.cx c) rIxO := by
  intro value slice pins s σ H x y v u Q I rx ry h hs
  obtain ⟨a, rfl, h⟩ := h
  rcases h with ⟨ys, k, z, hy, rfl, e, q⟩ | ⟨xs, i, z, hx, rfl, e, q⟩
  · have g : DGet H a (kV k) (some z) := by rw [← e]; exact DGet.k hy
    cases rx
    exact tail_any (dict_typeIs I g) F.slot_dict_getitem.lookup (d_getItem (hu_of hc.room) I g ry fun w' s3 I3 rw' => ⟨z, H, I3, rw', q⟩) hs
  · exact ix_list value slice pins s σ H _ _ v u Q I rx ry ⟨a, xs, i, z, rfl, rfl, SqL.of hx, e, q⟩ hs
theorem de_ixO {a b : Expr} {wa wb : WE} {pos : Pos} (ha : DE S a wa) (hb : DE S b wb) (hs : PlainIx b := by intro _ _; rfl) : DE S (.Subscript a b pos) (wIxO wa wb) := by
  obtain ⟨ta, pa, sa⟩ := ha
  obtain ⟨tb, pb, sb⟩ := hb
  refine ⟨_, fun c hc => pe_ix (ix_O hc) (pa c hc) (pb c hc) hs, ⟨fun Ex Ex' δ P P' hx h w => ?_, fun Ex F B H vs σ δ P Q hx h w k => ?_⟩⟩
  · refine sa.mono _ _ _ _ _ hx (fun r δ1 w => w.imp fun r' w => ?_) w
    exact sb.mono _ _ _ _ _ hx (fun r δ2 w => w.imp fun a w => w.imp fun k w => w.imp fun q w => w.imp fun r w => h _ _ w) w
  · refine sa.run _ _ _ _ _ _ _ _ _ hx h w fun B1 H1 x ra δ1 s1 h1 q1 w1 => ?_
    obtain ⟨ra', e1, w1⟩ := w1
    obtain ⟨B2, s2, h2, pass⟩ := holdR_ok h1 q1 e1
    refine sb.run _ _ _ _ _ _ _ _ _ (hx.up (s1.trans s2)) h2 w1 fun B3 H3 y rb δ2 s3 h3 q3 w3 => ?_
    obtain ⟨vk, e2, kk, e4, ⟨j, p, u⟩, e5, r, e6, w3⟩ := w3
    have ey := key_ov (view_ok h3 q3 e2) e4
    subst ey
    obtain ⟨b0, t, a0, a1, d1, d2, d3, rfl, d5, d6⟩ := nodeOf_ok h3 (pass F B3 H3 δ2 s3) e5
    have s123 := (s1.trans s2).trans s3
    cases u with
    | d _ => cases e6
    | n a2 bb ts =>
      cases d5
      simp only [childR] at e6
      obtain ⟨⟨k2, i⟩, e7, e6⟩ := Option.bind_eq_some_iff.mp e6
      obtain ⟨⟨k3, c⟩, e8, e6⟩ := Option.map_eq_some_iff.mp e6
      cases d6 with
      | @n _ _ ys _ hy qy =>
        have fin : ∀ v, OTk B3 H3 v c → Q v H3 := fun v qv => by
          cases c with
          | d x => cases e6; cases qv with | d qv => exact k B3 H3 v (.d x) δ2 s123 h3 qv w3
          | n a3 b3 ts3 => cases e6; cases qv with | n _ _ => exact k B3 H3 _ _ δ2 s123 h3 rep_al w3
        refine ⟨a1, rfl, ?_⟩
        cases bb with
        | true =>
          obtain ⟨i', e9, e7⟩ := Option.map_eq_some_iff.mp e7
          cases e7
          obtain ⟨v, e10, qv⟩ := val_find qy e9 e8
          exact .inl ⟨ys, kk, v, hy, rfl, e10, fin v qv⟩
        | false =>
          cases kk with
          | inr _ => cases e7
          | inl i0 =>
            obtain ⟨j', e9, e7⟩ := Option.map_eq_some_iff.mp (show (ixN ts.length i0).map (fun (j : Nat) => ((Sum.inl (Int.ofNat j) : Key), j)) = _ from e7)
            cases e7
            obtain ⟨v, e10, qv⟩ := qy.at e8
            refine .inr ⟨ys.map (fun x => x.2), i0, v, (show H3 a1 = some (.lst (ys.map fun x => x.2)) from hy), rfl, ?_, fin v qv⟩
            unfold atI
            rw [List.length_map, qy.len, e9]
            show (ys.map fun x => x.2)[_]? = _
            rw [List.getElem?_map, e10]; rfl
end
end DL
set_option Elab.async false
set_option linter.all false
set_option maxRecDepth 100000
set_option maxHeartbeats 1000000
set_option autoImplicit false
namespace DL
open PySem PySem.Spec PyProof.Rows L2
/-- a thing as a part -/
def childOf : R → Addr → Option OT
  | .d x, _ => some (.d x)
  | .w x, _ => if scalar x then some (.d x) else none
  | .n (.k kvs), a => some (.n a true (kvs.map fun q => (q.1, OT.d q.2)))
  | .n (.l ds), a => some (.n a false (ds.map fun x => ((.inl 0 : Key), OT.d x)))
  | .n (.ot t), _ => some t
  | _, _ => none
theorem otks_kds {B H : Hp} {ys : List (Key × V)} {kvs : List (Key × PyData)} (h : KDs B ys kvs) : OTks B H ys (kvs.map fun q => (q.1, OT.d q.2)) := by
  induction h with
  | nil => exact .nil
  | @cons p q _ _ z _ ih =>
    obtain ⟨k, v⟩ := p
    obtain ⟨e, z⟩ := z
    cases e
    exact .cons (.d z) ih
theorem otks_dds {B H : Hp} : ∀ {xs : List V} {ds : List PyData}, DDs B xs ds → OTks B H (xs.map fun v => ((.inl 0 : Key), v)) (ds.map fun x => ((.inl 0 : Key), OT.d x))
  | _, _, .nil => .nil
  | _, _, .cons q r => .cons (.d q) (otks_dds r)
theorem fps_dat {α : Type} {f : α → Key} {g : α → PyData} : ∀ {xs : List α}, OT.fps (xs.map fun x => (f x, OT.d (g x))) = []
  | [] => fps_nil
  | x :: r => by rw [List.map_cons, fps_cons, fp_d, fps_dat]; rfl
theorem childOf_ok {K : PySem.W.Frag} {F B H : Hp} {σ : L2.St} {δ : SEnv} {v : V} {r : R} (q : RepR K F B H σ δ v r) : ∃ a, ∀ u, childOf r a = some u → OTk B H v u ∧ u.fp.Nodup ∧ ∀ p, p ∈ u.fp → rfoot H v r p := by
  cases r with
  | d x => exact ⟨0, fun u e => by cases e; exact ⟨.d q, by rw [fp_d]; exact List.nodup_nil, fun p f => by rw [fp_d] at f; cases f⟩⟩
  | w x =>
    refine ⟨0, fun u e => ?_⟩
    simp only [childOf] at e
    split at e
    · cases e; exact ⟨.d (DW.scal q (by assumption)), by rw [fp_d]; exact List.nodup_nil, fun p f => by rw [fp_d] at f; cases f⟩
    · cases e
  | o i => exact ⟨0, fun u e => by cases e⟩
  | n c =>
    obtain ⟨a, rfl, _, qc, _⟩ := q
    refine ⟨a, fun u e => ?_⟩
    cases c with
    | k kvs =>
      cases e
      obtain ⟨ys, hy, qy⟩ := qc
      refine ⟨.n (b := true) hy (otks_kds qy), ?_, fun p f => ?_⟩
      · rw [fp_n, fps_dat]; exact List.nodup_cons.mpr ⟨(fun z => by cases z), List.nodup_nil⟩
      · rw [fp_n, fps_dat] at f
        rcases List.mem_cons.mp f with rfl | f
        · exact ⟨_, rfl, rfl⟩
        · cases f
    | l ds =>
      cases e
      obtain ⟨xs, hx, qx⟩ := qc
      refine ⟨.n (b := false) (ys := xs.map fun v => ((.inl 0 : Key), v)) ?_ (otks_dds qx), ?_, fun p f => ?_⟩
      · show H a = some (.lst _)
        rw [hx, List.map_map]
        have : xs.map ((fun (x : Key × V) => x.2) ∘ fun v => ((.inl 0 : Key), v)) = xs := by
          rw [show ((fun (x : Key × V) => x.2) ∘ fun v => ((.inl 0 : Key), v)) = id from rfl, List.map_id]
        rw [this]
      · rw [fp_n, fps_dat]; exact List.nodup_cons.mpr ⟨(fun z => by cases z), List.nodup_nil⟩
      · rw [fp_n, fps_dat] at f
        rcases List.mem_cons.mp f with rfl | f
        · exact ⟨_, rfl, rfl⟩
        · cases f
    | ot t => cases e; exact ⟨qc.1, qc.2.1, fun p f => ⟨a, rfl, .inr f⟩⟩
    | _ => cases e
def putN : OT → Key → OT → Option OT
  | .n a true ts, k, u => if ts.length < sizeLine then (if (ts.any fun q => decide (q.1 = k)) = true then u.dat.map fun _ => .n a true (ts.map fun q => if q.1 = k then (q.1, u) else q) else some (.n a true (ts ++ [(k, u)]))) else none
  | .n a false ts, .inl i, u => (ixN ts.length i).bind fun j => (ts[j]?).map fun q => .n a false (ts.set j (q.1, u))
  | _, _, _ => none
theorem otks_any {B H : Hp} {k : Key} : ∀ {ys : List (Key × V)} {ts : List (Key × OT)}, OTks B H ys ts → (ys.any fun q => decide (q.1 = k)) = ts.any fun q => decide (q.1 = k)
  | _, _, .nil => rfl
  | _, _, .cons _ r => by rw [List.any_cons, List.any_cons, otks_any r]
theorem otks_map {B H : Hp} {k : Key} {v : V} {u : OT} (q : OTk B H v u) : ∀ {ys : List (Key × V)} {ts : List (Key × OT)}, OTks B H ys ts → OTks B H (ys.map fun kv => if kv.1 = k then (kv.1, v) else kv) (ts.map fun q => if q.1 = k then (q.1, u) else q)
  | _, _, .nil => .nil
  | _, _, .cons (k := k0) z r => by
    rw [List.map_cons, List.map_cons]
    by_cases hk : k0 = k
    · rw [if_pos hk, if_pos hk]; exact .cons q (otks_map q r)
    · rw [if_neg hk, if_neg hk]; exact .cons z (otks_map q r)
theorem otks_app {B H : Hp} {k : Key} {v : V} {u : OT} (q : OTk B H v u) : ∀ {ys : List (Key × V)} {ts : List (Key × OT)}, OTks B H ys ts → OTks B H (ys ++ [(k, v)]) (ts ++ [(k, u)])
  | _, _, .nil => .cons q .nil
  | _, _, .cons z r => .cons z (otks_app q r)
theorem otks_set1 {B H : Hp} {k : Key} {v : V} {u : OT} (q : OTk B H v u) : ∀ {ys : List (Key × V)} {ts : List (Key × OT)} (j : Nat), OTks B H ys ts → OTks B H (ys.set j (k, v)) (ts.set j (k, u))
  | _, _, _, .nil => .nil
  | _, _, 0, .cons _ r => .cons q r
  | _, _, j + 1, .cons z r => .cons z (otks_set1 q j r)
theorem fps_map {k : Key} {u : OT} (hu : u.fp = []) : ∀ {ts : List (Key × OT)}, (OT.fps (ts.map fun q => if q.1 = k then (q.1, u) else q)).Sublist (OT.fps ts)
  | [] => by rw [List.map_nil]; exact List.Sublist.refl _
  | q :: r => by
    rw [List.map_cons, fps_cons, fps_cons]
    refine List.Sublist.append ?_ (fps_map hu)
    by_cases hk : q.1 = k
    · rw [if_pos hk]; show u.fp.Sublist _; rw [hu]; exact List.nil_sublist _
    · rw [if_neg hk]; exact List.Sublist.refl _
theorem dat_fp {u : OT} {d : PyData} (e : u.dat = some d) : u.fp = [] := by
  cases u with
  | d _ => exact fp_d
  | n _ _ _ => cases e
theorem putN_ok {B H : Hp} {a : Addr} {t u u' : OT} {v : V} {k : Key} {Q : Hp → Prop} (qt : OTk B H (.ref a) t) (nt : t.fp.Nodup) (qu : OTk B H v u) (nu : u.fp.Nodup) (ap : ∀ p, p ∈ u.fp → p ∉ t.fp) (e : putN t k u = some u')
    (h : ∀ o, t.root = some a → u'.root = some a → OTk B (upd H a o) (.ref a) u' → u'.fp.Nodup → (∀ p, p ∈ u'.fp → p ∈ t.fp ∨ p ∈ u.fp) → Q (upd H a o)) : rPut (.ref a) (kV k) v H Q := by
  cases t with
  | d _ => cases e
  | n a' b ts =>
    cases qt with
    | @n _ _ ys _ hy qy =>
      rw [fp_n] at nt
      obtain ⟨na, nts⟩ := List.nodup_cons.mp nt
      have nau : a ∉ u.fp := fun z => ap _ z (by rw [fp_n]; exact List.mem_cons_self ..)
      have apu : ∀ p, p ∈ u.fp → p ∉ OT.fps ts := fun p f z => ap p f (by rw [fp_n]; exact List.mem_cons_of_mem _ z)
      cases b with
      | true =>
        simp only [putN] at e
        split at e
        · rename_i hl
          have hy : H a = some (.dK ys) := hy
          refine .inr ⟨a, _, rfl, DPut.k hy (by rw [qy.len]; exact hl), ?_⟩
          have qy1 : ∀ o, OTks B (upd H a o) ys ts := fun o => qy.mono (Same.refl _) fun p f => upd_ne fun z => by subst z; exact na f
          have qu1 : ∀ o, OTk B (upd H a o) v u := fun o => qu.mono (Same.refl _) fun p f => upd_ne fun z => by subst z; exact nau f
          unfold putK
          rw [otks_any qy]
          split at e
          · rename_i hany
            obtain ⟨d, ed, e⟩ := Option.map_eq_some_iff.mp e
            cases e
            have hf := dat_fp ed
            rw [if_pos hany]
            have sub := fps_map (k := k) hf (ts := ts)
            refine h _ rfl rfl (.n (b := true) upd_same (otks_map (qu1 _) (qy1 _))) ?_ fun p f => ?_
            · rw [fp_n]; exact List.nodup_cons.mpr ⟨fun z => na (sub.subset z), nts.sublist sub⟩
            · rw [fp_n] at f ⊢
              rcases List.mem_cons.mp f with rfl | f
              · exact .inl (List.mem_cons_self ..)
              · exact .inl (List.mem_cons_of_mem _ (sub.subset f))
          · rename_i hany
            cases e
            rw [if_neg hany]
            have ef : OT.fps (ts ++ [(k, u)]) = OT.fps ts ++ u.fp := by rw [fps_append, fps_cons, fps_nil, List.append_nil]
            refine h _ rfl rfl (.n (b := true) upd_same (otks_app (qu1 _) (qy1 _))) ?_ fun p f => ?_
            · rw [fp_n, ef]
              refine List.nodup_cons.mpr ⟨fun z => ?_, List.nodup_append.mpr ⟨nts, nu, fun x f y f' z => ?_⟩⟩
              · rcases List.mem_append.mp z with z | z
                · exact na z
                · exact nau z
              · subst z; exact apu x f' f
            · rw [fp_n, ef] at f
              rw [fp_n]
              rcases List.mem_cons.mp f with rfl | f
              · exact .inl (List.mem_cons_self ..)
              · rcases List.mem_append.mp f with f | f
                · exact .inl (List.mem_cons_of_mem _ f)
                · exact .inr f
        · cases e
      | false =>
        cases k with
        | inr _ => cases e
        | inl i =>
          simp only [putN] at e
          obtain ⟨j, e1, e⟩ := Option.bind_eq_some_iff.mp e
          obtain ⟨q, e2, e⟩ := Option.map_eq_some_iff.mp e
          cases e
          have hy : H a = some (.lst (ys.map fun x => x.2)) := hy
          refine .inl ⟨a, ys.map fun x => x.2, i, j, rfl, rfl, hy, by rw [List.length_map, qy.len]; exact e1, ?_⟩
          have es : (ys.map fun x => x.2).set j v = (ys.set j (q.1, v)).map fun x => x.2 := by rw [List.map_set]
          rw [es]
          have qy1 : ∀ o, OTks B (upd H a o) ys ts := fun o => qy.mono (Same.refl _) fun p f => upd_ne fun z => by subst z; exact na f
          have qu1 : ∀ o, OTk B (upd H a o) v u := fun o => qu.mono (Same.refl _) fun p f => upd_ne fun z => by subst z; exact nau f
          refine h _ rfl rfl (.n (b := false) upd_same (otks_set1 (qu1 _) j (qy1 _))) ?_ fun p f => ?_
          · rw [fp_n]
            refine List.nodup_cons.mpr ⟨fun z => ?_, nodup_set e2 nts nu fun x f => .inr (apu x f)⟩
            rcases fps_set e2 z with z | z
            · exact na z
            · exact nau z
          · rw [fp_n] at f ⊢
            rcases List.mem_cons.mp f with rfl | f
            · exact .inl (List.mem_cons_self ..)
            · rcases fps_set e2 f with f | f
              · exact .inl (List.mem_cons_of_mem _ f)
              · exact .inr f
end DL
set_option Elab.async false
set_option linter.all false
set_option maxRecDepth 100000
set_option maxHeartbeats 1000000
set_option autoImplicit false
namespace DL
open PySem PySem.Spec PyProof.Rows L2
theorem nodup_atp : ∀ {p : List Key} {t u : OT}, t.at p = some u → t.fp.Nodup → u.fp.Nodup
  | [], t, u, e, n => by rw [at_nil] at e; cases e; exact n
  | k :: p, .d _, u, e, n => by cases e
  | k :: p, .n a b ts, u, e, n => by
    obtain ⟨i, q, _, e2, e3⟩ := at_cons e
    rw [fp_n] at n
    exact nodup_atp e3 (nodup_at e2 (List.nodup_cons.mp n).2)
abbrev WTG := XP → SEnv → R → (SEnv → Prop) → Prop
structure TgSim (K : PySem.W.Frag) (E : XK) (g : TG) (W : WTG) : Prop where
  mono : ∀ (Ex Ex' : XP) (δ : SEnv) (r : R) (P P' : SEnv → Prop), (∀ e, Ex e → Ex' e) → (∀ δ', P δ' → P' δ') → W Ex δ r P → W Ex' δ r P'
  run : ∀ (Ex : XP) (F B H : Hp) (vs : List V) (σ : L2.St) (δ : SEnv) (v : V) (r : R) (P : SEnv → Prop) (Q : L2.St → Hp → Prop), XOk F B E Ex → Rep K F B H vs σ δ → RepR K F B H σ δ v r → (∀ i, r ≠ .o i) → W Ex δ r P →
    (∀ B' σ' H' δ', Same B B' → Rep K F B' H' vs σ' δ' → P δ' → Q σ' H') → g v σ H Q
def DTg (S : Sg) (tg : Expr) (W : WTG) : Prop := ∃ g, (∀ c, S.ok c → PG (S.g.cx c) tg g) ∧ TgSim S.g.K S.E g W
def ownT (δ : SEnv) (i : Nat) : Option (Bool × OT) := match δ[i]? with
  | some (some (.o b (.ot t))) => some (b, t)
  | _ => none
def putR (δ : SEnv) (rx : R) (k : Key) (r : R) (nx : SEnv → Prop) : Prop := ob (nodeOf δ rx) fun q => ∀ a, ob (childOf r a) fun u => ob (putN q.2.2 k u) fun u' => ob (ownT δ q.1) fun bt => nx (δ.set q.1 (some (.o bt.1 (.ot (bt.2.put q.2.1 u')))))
def slotOf : R → Option Nat
  | .o i => some i
  | _ => none
def datR : R → Option PyData
  | .d x => some x
  | .w x => if scalar x then some x else none
  | _ => none
def putS (δ : SEnv) (rx : R) (dk : PyData) (r : R) (nx : SEnv → Prop) : Prop := ob (slotOf rx) fun i => ob (ownC δ i) fun q => ob (datR r) fun x => ob (putF q.2 dk x) fun c' => nx (δ.set i (some (.o q.1 c')))
def wTgS (wx wi : WE) : WTG := fun Ex δ r P => wx Ex δ fun rx δ2 => ob (holdR rx) fun rx' => wi Ex δ2 fun ri δ3 => ob (view δ3 ri) fun vk => ob (dV vk) fun dk => putS δ3 rx' dk r P ∨ ob (keyD dk) fun k => putR δ3 rx' k r P
theorem putR_imp {δ : SEnv} {rx : R} {k : Key} {r : R} {P P' : SEnv → Prop} (h : ∀ δ', P δ' → P' δ') (w : putR δ rx k r P) : putR δ rx k r P' := w.imp fun q w a => (w a).imp fun u w => w.imp fun u' w => w.imp fun bt w => h _ w
theorem putS_imp {δ : SEnv} {rx : R} {k : PyData} {r : R} {P P' : SEnv → Prop} (h : ∀ δ', P δ' → P' δ') (w : putS δ rx k r P) : putS δ rx k r P' := w.imp fun i w => w.imp fun q w => w.imp fun x w => w.imp fun c w => h _ w
section
variable {K : PySem.W.Frag} {F B H : Hp} {vs : List V} {σ : L2.St} {δ : SEnv} {v x : V} {r rx : R}
theorem datR_ok {d : PyData} (q : RepR K F B H σ δ v r) (e : datR r = some d) : DD B v d := by
  cases r with
  | d _ => cases e; exact q
  | w _ =>
    simp only [datR] at e
    split at e
    · cases e; exact DW.scal q (by assumption)
    · cases e
  | _ => cases e
theorem ownT_at {i : Nat} {b : Bool} {t : OT} (e : ownT δ i = some (b, t)) : δ[i]? = some (some (.o b (.ot t))) := by
  unfold ownT at e
  split at e
  · cases e; assumption
  · cases e
theorem putR_run {k : Key} {P : SEnv → Prop} {Q : Hp → Prop} (h : Rep K F B H vs σ δ) (qx : RepR K F B H σ δ x rx) (q : RepR K F B H σ δ v r) (w : putR δ rx k r P) (fin : ∀ H' δ', Rep K F B H' vs σ δ' → P δ' → Q H') : rPut x (kV k) v H Q := by
  obtain ⟨⟨j, p, t0⟩, e1, w⟩ := w
  obtain ⟨b, t, a0, a, d1, d2, d3, rfl, d5, d6⟩ := nodeOf_ok h qx e1
  obtain ⟨a1, sp⟩ := childOf_ok q
  obtain ⟨u, e2, u', e3, ⟨b', t'⟩, e4, w⟩ := w a1
  have e5 := ownT_at e4
  rw [show δ[(j, p, t0).1]? = δ[j]? from rfl, d1] at e5
  cases e5
  obtain ⟨qu, nu, fu⟩ := sp u e2
  obtain ⟨hBF, qt, nt, et⟩ := h.own_up d1 d2
  have off : ∀ y, y ∈ u.fp → y ∉ t.fp := fun y f g => rfoot_off q j b _ a0 y d1 d2 (.inr g) (fu y f)
  refine putN_ok d6 (nodup_atp d3 nt) qu nu (fun y f g => off y f (at_fp d3 g)) e3 fun o r0 r1 q' n' f' => ?_
  refine fin _ _ (h.mutIn (c' := .ot (t.put p u')) d1 d2 (.inr (at_fp d3 (root_in d5))) ⟨put_ok (fun y ny => upd_ne ny) q' qt nt d3 d5, nodup_put d3 nt n' fun y f => (f' y f).imp id fun f => off y f, by rw [root_put d3 d5 r1]; exact et⟩ fun y f => ?_) w
  rcases f with f | f
  · exact .inl (.inl f)
  · rcases fp_put d3 f with f | f
    · exact .inl (.inr f)
    · rcases f' y f with f | f
      · exact .inl (.inr (at_fp d3 f))
      · have z := rfoot_ok q (fu y f)
        exact .inr ⟨z.1, z.2.1, fun i b c a y' e ea f2 f3 => by subst f3; exact rfoot_off q i b c a y' e ea f2 (fu y' f)⟩
theorem putS_run {dk : PyData} {vk : V} {P : SEnv → Prop} {Q : Hp → Prop} (h : Rep K F B H vs σ δ) (qx : RepR K F B H σ δ x rx) (q : RepR K F B H σ δ v r) (ov : OV K B H vk (.d dk)) (w : putS δ rx dk r P) (fin : ∀ H' δ', Rep K F B H' vs σ δ' → P δ' → Q H') : rPut x vk v H Q := by
  obtain ⟨i, e0, ⟨b, c⟩, e4, d, e1, c', e5, w3⟩ := w
  cases rx with
  | o i' =>
    cases e0
    have eo : σ[i]? = some (some x) := qx
    have a4 := ownC_at e4
    obtain ⟨p0, rfl, hBF, qc⟩ := own_at h a4 eo
    have q2 := datR_ok q e1
    cases c with
    | ot _ => simp only [putF] at e5; cases e5
    | al _ _ _ => simp only [putF] at e5; cases e5
    | tp _ => simp only [putF] at e5; cases e5
    | pt _ => simp only [putF] at e5; cases e5
    | fk _ _ => simp only [putF] at e5; cases e5
    | l ds =>
      obtain ⟨ys, hy, qy⟩ := qc
      simp only [putF] at e5
      split at e5
      · obtain ⟨j, e6, e5⟩ := Option.map_eq_some_iff.mp e5
        subst e5
        cases ov_int ov
        exact .inl ⟨p0, ys, _, j, rfl, rfl, hy, by rw [qy.length]; exact e6, fin _ _ (h.mutate (c' := .l _) a4 eo ⟨_, upd_same, DDs.set q2 j qy⟩) w3⟩
      · cases e5
    | k kvs =>
      obtain ⟨ys, hy, qy⟩ := qc
      simp only [putF] at e5
      split at e5
      · rename_i hl
        obtain ⟨kk, e6, e5⟩ := Option.map_eq_some_iff.mp e5
        subst e5
        have ey : vk = kV kk := by
          rcases ov with ov | ⟨_, _, _, _, z, _⟩
          · exact key_dd e6 ov
          · subst z; cases e6
        subst ey
        exact .inr ⟨p0, _, rfl, DPut.k hy (by rw [kds_length qy]; exact hl), fin _ _ (h.mutate (c' := .k _) a4 eo ⟨_, upd_same, kds_put qy q2⟩) w3⟩
      · cases e5
    | t kvs => cases e5
  | _ => cases e0
end
section
variable {S : Sg}
theorem dtg_sub {o ie : Expr} {wx wi : WE} {pos : Pos} (ho : DE S o wx) (hi : DE S ie wi)
    (ha : ∀ c, S.ok c → ∀ t ti, PE (S.g.cx c) o t → PE (S.g.cx c) ie ti → PG (S.g.cx c) (.Subscript o ie pos) (gSub t ti rPut) := by exact fun c hc t ti h1 h2 => pg_sub h1 h2 (set_all (hu_of hc.room))) : DTg S (.Subscript o ie pos) (wTgS wx wi) := by
  obtain ⟨tx, px, sx⟩ := ho
  obtain ⟨ti, pi, si⟩ := hi
  refine ⟨_, fun c hc => ha c hc _ _ (px c hc) (pi c hc), ⟨fun Ex Ex' δ r P P' hx h w => ?_, fun Ex F B H vs σ δ v r P Q hx h q no w k => ?_⟩⟩
  · refine sx.mono _ _ _ _ _ hx (fun rx δ1 w => w.imp fun rx' w => ?_) w
    exact si.mono _ _ _ _ _ hx (fun ri δ2 w => w.imp fun a w => w.imp fun dk w => w.imp (putS_imp h) fun w => w.imp fun k w => putR_imp h w) w
  · refine sx.run _ _ _ _ _ _ _ _ _ (hold_xok q hx) (h.hold q) w fun B1 H1 x rx δ1 s1 h1 q1 w1 => ?_
    obtain ⟨rx', e1, w1⟩ := w1
    obtain ⟨B2, s2, h2, pass⟩ := holdR_ok h1 q1 e1
    refine si.run _ _ _ _ _ _ _ _ _ ((hold_xok q hx).up (s1.trans s2)) h2 w1 fun B3 H3 y ri δ3 s3 h3 q3 w3 => ?_
    obtain ⟨a, e2, dk, e3, w3⟩ := w3
    have s123 := (s1.trans s2).trans s3
    have ov := view_ok h3 q3 e2
    obtain ⟨h4, q4, _⟩ := held q no s123 h3
    have qx := pass F B3 H3 δ3 s3
    cases a with
    | d dk' =>
      cases e3
      rcases w3 with w3 | ⟨kk, e4, w3⟩
      · exact putS_run h4 qx q4 ov w3 fun H' δ' h' w => k B3 σ H' δ' s123 h' w
      · have ey : y = kV kk := by
          rcases ov with ov | ⟨_, _, _, _, z, _⟩
          · exact key_dd e4 ov
          · subst z; cases e4
        subst ey
        exact putR_run h4 qx q4 w3 fun H' δ' h' w => k B3 σ H' δ' s123 h' w
    | _ => cases e3
/-- target = e -/
def wAsgO (wt : WTG) (wa : WE) : WS := fun d δ => wa d.ex δ fun r δ1 => ob (frzN δ1 r) fun p => wt d.ex p.2 p.1 d.nx
theorem ds_asgO {tg e : Expr} {wt : WTG} {wa : WE} {pos : Pos} (h : DE S e wa) (hg : DTg S tg wt) (hs : ∀ env, swapsWithSole [tg] e pos.line env = pure false := by intro _; rfl) (hw : ∀ c, S.ok c → swappedStores [tg] e c.env = pure none := by intro _ _; rfl) (h1 : ∀ env, (assignEach [tg] env).map (·.2) = [assign tg env] := by intro _; rfl) : DS S (.Assign [tg] e pos) (wAsgO wt wa) := by
  obtain ⟨t, p, s⟩ := h
  obtain ⟨g, pg, sg⟩ := hg
  refine ⟨tAsg t g, fun c hc => ps_asg (p c hc) (pg c hc) (hs _) (hw c hc) (h1 _), ⟨fun d d' δ h w => s.mono _ _ _ _ _ h.ex (fun r δ1 w => w.imp fun p w => sg.mono _ _ _ _ _ _ h.ex h.nx w) w, fun F B H vs σ δ D d hx h k w => ?_⟩⟩
  refine s.run _ _ _ _ _ _ _ _ _ hx h w fun B1 H1 v r δ1 s1 h1 q1 w1 => ?_
  obtain ⟨⟨r', δ2⟩, e1, w1⟩ := w1
  obtain ⟨B2, s2, h2, q2, no⟩ := frzN_ok h1 q1 e1
  exact sg.run _ _ _ _ _ _ _ _ _ _ _ (hx.up (s1.trans s2)) h2 q2 no w1 fun B' σ' H' δ' s3 h3 w => k.nx B' σ' H' δ' ((s1.trans s2).trans s3) h3 w
def wTgs : List WTG → XP → SEnv → List R → (SEnv → Prop) → Prop
  | [], _, δ, [], P => P δ
  | w :: ws, Ex, δ, r :: rs, P => (∀ r' ∈ rs, ∃ x, r' = R.d x) ∧ w Ex δ r fun δ1 => wTgs ws Ex δ1 rs P
  | _, _, _, _, _ => False
structure TgsSim (K : PySem.W.Frag) (E : XK) (g : TGs) (ws : List WTG) : Prop where
  mono : ∀ (Ex Ex' : XP) (δ : SEnv) (rs : List R) (P P' : SEnv → Prop), (∀ e, Ex e → Ex' e) → (∀ δ', P δ' → P' δ') → wTgs ws Ex δ rs P → wTgs ws Ex' δ rs P'
  run : ∀ (Ex : XP) (F B H : Hp) (vs : List V) (σ : L2.St) (δ : SEnv) (xs : List V) (rs : List R) (P : SEnv → Prop) (Q : L2.St → Hp → Prop), XOk F B E Ex → Rep K F B H vs σ δ → Paired (fun v r => RepR K F B H σ δ v r ∧ ∀ i, r ≠ .o i) xs rs → wTgs ws Ex δ rs P →
    (∀ B' σ' H' δ', Same B B' → Rep K F B' H' vs σ' δ' → P δ' → Q σ' H') → g xs σ H Q
def DTgs (S : Sg) (tgs : List Expr) (ws : List WTG) : Prop := ∃ g, (∀ c, S.ok c → PGs (S.g.cx c) tgs g) ∧ TgsSim S.g.K S.E g ws
theorem dtgs_nil : DTgs S [] [] := ⟨gNil, fun _ _ => pgs_nil, ⟨fun Ex Ex' δ rs P P' hx h w => by
    cases rs with
    | nil => exact h _ w
    | cons _ _ => exact w.elim, fun Ex F B H vs σ δ xs rs P Q hx h q w k => by
    cases q with
    | nil => exact ⟨rfl, k B σ H δ (Same.refl _) h w⟩
    | cons _ _ => exact w.elim⟩⟩
theorem dtgs_cons {e : Expr} {es : List Expr} {w : WTG} {ws : List WTG} (h : DTg S e w) (hr : DTgs S es ws) (hs : ∀ env, (assignEach (e :: es) env).map (·.2) = assign e env :: (assignEach es env).map (·.2) := by intro _; rfl) : DTgs S (e :: es) (w :: ws) := by
  obtain ⟨g, pg, sg⟩ := h
  obtain ⟨gs, pgs, sgs⟩ := hr
  refine ⟨gCons g gs, fun c hc => pgs_cons (pg c hc) (pgs c hc) (hs _), ⟨fun Ex Ex' δ rs P P' hx h w => ?_, fun Ex F B H vs σ δ xs rs P Q hx h q w k => ?_⟩⟩
  · cases rs with
    | nil => exact w.elim
    | cons r rs => exact ⟨w.1, sg.mono _ _ _ _ _ _ hx (fun δ1 w => sgs.mono _ _ _ _ _ _ hx h w) w.2⟩
  · cases q with
    | nil => exact w.elim
    | @cons v r xs rs q1 q2 =>
      refine ⟨v, xs, rfl, sg.run _ _ _ _ _ _ _ _ _ _ _ hx h q1.1 q1.2 w.2 fun B1 σ1 H1 δ1 s1 h1 w1 => ?_⟩
      refine sgs.run _ F B1 H1 vs σ1 δ1 _ _ _ _ (hx.up s1) h1 (paired_mono q2 fun i x y e1 e2 z => ?_) w1 fun B2 σ2 H2 δ2 s2 h2 w2 => k B2 σ2 H2 δ2 (s1.trans s2) h2 w2
      obtain ⟨d, rfl⟩ := w.1 y (List.mem_of_getElem? e2)
      exact ⟨DD.mono s1 z.1, z.2⟩
end
end DL
set_option Elab.async false
set_option linter.all false
set_option maxRecDepth 100000
set_option maxHeartbeats 1000000
set_option autoImplicit false
namespace DL
open PySem PySem.Spec PyProof.Rows L2
def wDisp1 (wk wv : WE) : WE := fun Ex δ P => wk Ex δ fun rk δ1 => ob (view δ1 rk) fun a => ob (keyV a) fun k => wv Ex δ1 fun rv δ2 => ob (frzN δ2 rv) fun p => ∀ a b, ob (childOf p.1 a) fun u => P (.n (.ot (.n b true [(k, u)]))) p.2
section
variable {K : PySem.W.Frag} {F B H : Hp} {vs : List V} {σ : L2.St} {δ : SEnv} {v : V} {r : R}
/-- what was told apart from an object that then changes -/
theorem repr_relay {D : Addr} {o o' : HO} (h : Rep K (upd F D o) B H vs σ δ) (q : RepR K (upd F D o) B H σ δ v r) : RepR K F B (upd H D o') σ δ v r ∧ (∀ p, rfoot (upd H D o') v r p ↔ rfoot H v r p) ∧ ¬ rfoot H v r D := by
  have nd : ¬ rfoot H v r D := fun f => by have := (rfoot_ok q f).2.1; rw [upd_same] at this; cases this
  cases r with
  | d x => exact ⟨q, fun _ => Iff.rfl, nd⟩
  | w x => exact ⟨q, fun _ => Iff.rfl, nd⟩
  | o i => exact ⟨q, fun _ => Iff.rfl, nd⟩
  | n c =>
    obtain ⟨a, rfl, hBF, qc, off⟩ := q
    have ne : ∀ p, Foot H a c p → p ≠ D := fun p f z => by subst z; exact nd ⟨a, rfl, f⟩
    have fe : ∀ p, Foot (upd H D o') a c p ↔ Foot H a c p := fun p => foot_eq fun p f => upd_ne (ne p f)
    refine ⟨⟨a, rfl, fun p f => ?_, qc.mono (Same.refl _) fun p f => upd_ne (ne p f), fun i b c' a' p e ea f f' => ?_⟩, fun p => ⟨fun ⟨a', e, f⟩ => by cases e; exact ⟨a, rfl, (fe p).mp f⟩, fun ⟨a', e, f⟩ => by cases e; exact ⟨a, rfl, (fe p).mpr f⟩⟩, nd⟩
    · have f := (fe p).mp f
      have := hBF p f
      rw [upd_ne (ne p f)] at this
      exact this
    · refine off i b c' a' p e ea ((foot_eq fun p f => ?_).mp f) ((fe p).mp f')
      exact upd_ne fun z => by
        have := ((h.own_up e ea).1 _ f).2
        subst z; rw [upd_same] at this; cases this
end
section
variable {S : Sg}
theorem de_disp1 {pos : Pos} {k v : Expr} {wk wv : WE} (hk : DE S k wk) (hv : DE S v wv) : DE S (.Dict [some k] [v] pos) (wDisp1 wk wv) := by
  obtain ⟨tk, pk, sk⟩ := hk
  obtain ⟨tv, pv, sv⟩ := hv
  refine ⟨tDisp [(tk, tv)], fun c hc => pe_disp (pps_cons (pk c hc) (pv c hc) pps_nil) rfl rfl (fun z => nomatch z) (by show 1 ≤ 15; omega), ⟨fun Ex Ex' δ P P' hx h w => ?_, fun Ex F B H vs σ δ P Q hx h w k => ?_⟩⟩
  · refine sk.mono _ _ _ _ _ hx (fun rk δ1 w => w.imp fun a w => w.imp fun k w => ?_) w
    exact sv.mono _ _ _ _ _ hx (fun rv δ2 w => w.imp fun p w a b => (w a b).imp fun u w => h _ _ w) w
  · intro p hp
    have hF : F p = none := nof h.sf hp
    have hx' : XOk (upd F p (.dK [])) B S.E Ex := fun cls da B' H' fs fds t1 t2 t3 t4 t5 t6 t7 => hx cls da B' H' fs fds t1 t2 (fun a o e => t3 a o (by rw [upd_ne (ne_of_none e hF)]; exact e)) (fun a o e => t4 a o (by rw [upd_ne (ne_of_none e hF)]; exact e)) t5 t6 t7
    refine sk.run Ex (upd F p (.dK [])) B _ _ _ _ _ _ hx' (h.lay hp _) w fun B1 H1 x rk δ1 s1 h1 q1 w1 => ?_
    obtain ⟨a, e1, kk, e2, w1⟩ := w1
    have ex := key_ov (view_ok h1 q1 e1) e2
    subst ex
    refine sv.run _ _ _ _ _ _ _ _ _ (hx'.up s1) h1 w1 fun B2 H2 y rv δ2 s2 h2 q2 w2 => ?_
    obtain ⟨⟨r', δ3⟩, e3, w2⟩ := w2
    obtain ⟨B3, s3, h3, q3, no⟩ := frzN_ok h2 q2 e3
    obtain ⟨a1, sp⟩ := childOf_ok q3
    obtain ⟨u, e4, w3⟩ := w2 a1 p
    obtain ⟨qu, nu, fu⟩ := sp u e4
    have e5 : H2 p = some (.dK []) := h3.sf p _ upd_same
    obtain ⟨q4, fe, nd⟩ := repr_relay (o' := .dK (mergeK [] [(kk, y)])) h3 q3
    have h4 := h3.relay (o' := .dK (mergeK [] [(kk, y)]))
    have h5 := h4.unlay hF
    refine ⟨e5, [(kk, y)], rfl, (by show 1 ≤ 15; omega), ?_⟩
    have np : ∀ z, z ∈ u.fp → z ≠ p := fun z f e => by subst e; exact nd (fu _ f)
    have efp : (OT.n p true [(kk, u)]).fp = p :: u.fp := by rw [fp_n, fps_cons, fps_nil, List.append_nil]
    refine k B3 _ (.ref p) (.n (.ot (.n p true [(kk, u)]))) δ3 ((s1.trans s2).trans s3) h5 ⟨p, rfl, fun z f => ?_, ⟨.n (b := true) upd_same (.cons (qu.mono (Same.refl _) fun z f => upd_ne (np z f)) .nil), ?_, rfl⟩, fun i b c a z e ea f f' => ?_⟩ w3
    · have f : z = p ∨ z ∈ u.fp := by
        rcases f with f | f
        · exact .inl f
        · rw [efp] at f; exact List.mem_cons.mp f
      rcases f with rfl | f
      · exact ⟨h3.dj _ _ upd_same, hF⟩
      · have g := rfoot_ok q4 ((fe z).mpr (fu z f))
        exact ⟨g.1, g.2.1⟩
    · rw [efp]; exact List.nodup_cons.mpr ⟨fun z => np p z rfl, nu⟩
    · have f' : z = p ∨ z ∈ u.fp := by
        rcases f' with f' | f'
        · exact .inl f'
        · rw [efp] at f'; exact List.mem_cons.mp f'
      rcases f' with rfl | f'
      · exact h4.off i b c a _ e ea f rfl
      · exact rfoot_off q4 i b c a z e ea f ((fe z).mpr (fu z f'))
end
def sortX : List Vw → Option Rv
  | [.xk ks] => (numK ks).bind fun ns => if ns.length < 64 then some (.lst ((sortI ns).map .int)) else none
  | vs => sortF vs
theorem cs_sortX {S : Sg} : CallS S (.builtin "sorted") sortX := by
  rintro c hc pins s σ H xs us Q I rv ⟨B, as, r, sB, ov, e, k⟩
  unfold sortX at e
  split at e
  · obtain ⟨ns, e1, e⟩ := Option.bind_eq_some_iff.mp e
    split at e
    · cases e
      obtain ⟨v, rfl, a, ys, rfl, hy, q⟩ := ovs1 ov
      refine call_sortedDI hc.calm pins s σ H _ us Q I rv ⟨a, ys, ns, rfl, .inl hy, by rw [q]; exact numK_eq e1, by assumption, fun ns' p' h1 h2 hp' => ?_⟩
      rw [sortI_one h1 h2]
      exact k p' _ hp' (dds_ofI _)
    · cases e
  · exact cs_sorted c hc pins s σ H xs us Q I rv ⟨B, as, r, sB, ov, e, k⟩
end DL
set_option Elab.async false
set_option linter.all false
set_option maxRecDepth 100000
set_option maxHeartbeats 1000000
set_option autoImplicit false
namespace DL
open PySem PySem.Spec PyProof.Rows L2
def keyPy : Key → PyData
  | .inl i => .int i
  | .inr x => .str x
def pairD (q : Key × PyData) : PyData := .tuple [keyPy q.1, q.2]
theorem keyPy_dd {B : Hp} (k : Key) : DD B (kV k) (keyPy k) := by
  cases k with
  | inl i => exact .int i
  | inr x => exact .str x
def layL (H : Hp) (L : List (Addr × HO)) : Hp := L.foldl (fun H z => upd H z.1 z.2) H
theorem layL_old {L : List (Addr × HO)} : ∀ {H : Hp} {a : Addr}, (∀ z ∈ L, z.1 ≠ a) → layL H L a = H a := by
  induction L with
  | nil => intro H a _; rfl
  | cons z L ih =>
    intro H a h
    show layL (upd H z.1 z.2) L a = H a
    rw [ih fun y hy => h y (List.mem_cons_of_mem _ hy), upd_ne fun e => h z (List.mem_cons_self ..) e.symm]
theorem layL_at {L : List (Addr × HO)} : ∀ {H : Hp} {z : Addr × HO}, (L.map (·.1)).Nodup → z ∈ L → layL H L z.1 = some z.2 := by
  induction L with
  | nil => intro H z _ h; cases h
  | cons y L ih =>
    intro H z n h
    rw [List.map_cons, List.nodup_cons] at n
    show layL (upd H y.1 y.2) L z.1 = some z.2
    rcases List.mem_cons.mp h with rfl | h
    · rw [layL_old fun y' hy e => n.1 (List.mem_map.mpr ⟨y', hy, e⟩), upd_same]
    · exact ih n.2 h
def pairsL (L : List (Addr × Obj)) (kvs : List (Key × V)) : List (Addr × HO) := (L.zip kvs).map fun z => (z.1.1, HO.frz z.1.2 (.tup [kV z.2.1, z.2.2]))
theorem pairsL_fst {L : List (Addr × Obj)} {kvs : List (Key × V)} (h : L.length = kvs.length) : (pairsL L kvs).map (·.1) = L.map (·.1) := by
  unfold pairsL
  rw [List.map_map]
  have : (L.zip kvs).map (fun z => z.1) = L := List.map_fst_zip (by omega)
  calc (L.zip kvs).map ((fun x => x.1) ∘ fun z => (z.1.1, HO.frz z.1.2 (.tup [kV z.2.1, z.2.2]))) = ((L.zip kvs).map (fun z => z.1)).map (·.1) := by rw [List.map_map]; rfl
    _ = L.map (·.1) := by rw [this]
def SortOk (K : PySem.W.Frag) (H : Hp) (kvs : List (Key × V)) (kds : List (Key × PyData)) : Prop := Paired (fun (p : Key × V) (q : Key × PyData) => p.1 = q.1 ∧ Dp K H p.2 q.2) kvs kds ∧ PySem.W.AllAlike (kds.map pairD) ∧ (∀ q ∈ kds, q.2.depth ≤ 90) ∧ kds.length ≤ 100000
def tSortIt (K : PySem.W.Frag) (td : TE) : TE := fun σ H Q => td σ H fun x H1 => ∃ a kvs kds, x = V.ref a ∧ H1 a = some (.dK kvs) ∧ SortOk K H1 kvs kds ∧
  ∀ (L : List (Addr × Obj)) (p : Addr), L.length = kvs.length → (L.map (·.1)).Nodup → (∀ z ∈ L, H1 z.1 = none ∧ z.2.cls = .type "tuple" ∧ z.2.dict = none) → layL H1 (pairsL L kvs) p = none →
    Q (.ref p) (upd (layL H1 (pairsL L kvs)) p (.lst (((L.zip kds).mergeSort (PySem.W.dataLe false fun z => pairD z.2)).map fun z => V.ref z.1.1)))
section
variable {X : Cx} {pins : List (Addr × Obj)} {σ : L2.St}
theorem takeL {H0 : Hp} {s : Shared} {h' : Heap} {tk : Nat} (I0 : Inv X pins σ H0 s) : ∀ (L : List (Addr × HO)) (H1 : Hp), Inv X pins σ H1 { s with heap := h', toks := tk } → (L.map (·.1)).Nodup →
    (∀ z ∈ L, s.heap.objs.size ≤ z.1 ∧ H1 z.1 = none ∧ ∀ H2, ObjOk X.prog X.w H2 h' z.1 z.2) → Inv X pins σ (layL H1 L) { s with heap := h', toks := tk }
  | [], H1, I1, _, _ => I1
  | z :: L, H1, I1, n, h => by
    obtain ⟨hb, hnone, ok⟩ := h z (List.mem_cons_self ..)
    rw [List.map_cons, List.nodup_cons] at n
    refine takeL I0 L (upd H1 z.1 z.2) (I1.take (h' := h') (t' := tk) (fun b ob _ e => e) (I0.fpOk hb hnone) (ok _)) n.2 fun y hy => ?_
    obtain ⟨c1, c2, c3⟩ := h y (List.mem_cons_of_mem _ hy)
    exact ⟨c1, by rw [upd_ne (fun e => n.1 (List.mem_map.mpr ⟨y, hy, e⟩))]; exact c2, c3⟩
mutual
theorem reads_lt {h : Heap} : ∀ {v : Value} {d : PyData} {as : List Addr}, Reads h v d as → ∀ a ∈ as, a < h.objs.size
  | _, _, _, .none, a, m => by cases m
  | _, _, _, .bool _, a, m => by cases m
  | _, _, _, .int _ _, a, m => by cases m
  | _, _, _, .str _ _, a, m => by cases m
  | _, _, _, .list e _ _ r, a, m => by
    rcases List.mem_cons.mp m with rfl | m
    · exact Heap.lt_size e
    · exact readsAll_lt r a m
  | _, _, _, .tuple _ _ _ r, a, m => readsAll_lt r a m
  | _, _, _, .dict e _ _ r1 r2, a, m => by
    rcases List.mem_append.mp m with m | m
    · rcases List.mem_cons.mp m with rfl | m
      · exact Heap.lt_size e
      · exact readsAll_lt r1 a m
    · exact readsAll_lt r2 a m
theorem readsAll_lt {h : Heap} : ∀ {vs : List Value} {ds : List PyData} {as : List Addr}, ReadsAll h vs ds as → ∀ a ∈ as, a < h.objs.size
  | _, _, _, .nil, a, m => by cases m
  | _, _, _, .cons r1 r2, a, m => by
    rcases List.mem_append.mp m with m | m
    · exact reads_lt r1 a m
    · exact readsAll_lt r2 a m
end
theorem each_at {α β : Type} {R : α → β → Prop} : ∀ {as : List α} {bs : List β}, as.length = bs.length → (∀ (i : Nat) (a : α) (b : β), as[i]? = some a → bs[i]? = some b → R a b) → PySem.W.EachIs R as bs
  | [], [], _, _ => .nil
  | [], _ :: _, l, _ => by cases l
  | _ :: _, [], l, _ => by cases l
  | a :: as, b :: bs, l, h => .cons (h 0 a b rfl rfl) (each_at (by simpa using l) fun i x y e1 e2 => h (i + 1) x y (by simpa using e1) (by simpa using e2))
theorem each_eq {α : Type} {f : α → Value} : ∀ {out : List Value} {zs : List α}, PySem.W.EachIs (fun v z => v = f z) out zs → out = zs.map f
  | _, _, .nil => rfl
  | _, _, .cons h r => by rw [List.map_cons, ← each_eq r, h]
theorem depth_pair (q : Key × PyData) : (pairD q).depth ≤ q.2.depth + 2 := by
  obtain ⟨k, d⟩ := q
  have : (keyPy k).depth = 0 := by cases k <;> rfl
  show (PyData.tuple [keyPy k, d]).depth ≤ _
  simp only [PyData.depth, PyData.depthAll, this]
  omega
theorem kV_of {k : Key} {u : Value} (h : keyIs k u = true) : RelV (kV k) u := by
  rcases keyIs_shape h with ⟨i, t, rfl, rfl⟩ | ⟨x, t, rfl, rfl⟩
  · exact ⟨t, rfl⟩
  · exact ⟨t, rfl⟩
theorem pe_sortIt {o : Expr} {p pos apos mpos : Pos} {td : TE} (hc : X.calm = true) (hr : X.A.units + 200 < cLine) (hg : Gl X "sorted") (hm : X.mg "sorted" = none) (hd : PE X o td) (hbase : attributeBase o "items" X.env (eval o X.env) = eval o X.env := by rfl) (hline : (apos.endLine == mpos.line) = true := by rfl)
    (hse : starEach [Expr.Call (.Attribute o "items" apos) [] [] mpos] X.env = (false, eval (Expr.Call (.Attribute o "items" apos) [] [] mpos) X.env) :: starEach [] X.env := by rfl) :
    PE X (.Call (.Name "sorted" p) [.Call (.Attribute o "items" apos) [] [] mpos] [] pos) (tSortIt X.K td) := by
  refine ⟨fun pins s σ H Q I h => ?_⟩
  refine Call_ (ld_blt I hg hm (u := .builtin "sorted") (by rfl) (PyProof.Rows.callWith_builtin1 (PyProof.Rows.args_cons (wpAny_Call_method0_late hbase hline (thn (hd.run pins s σ H _ I h) fun v s1 ⟨x, H1, I1, r1, a, kvs, kds, ex, ha, ⟨hp, hal, hdep, hlen⟩, q⟩ => ?_)) hse) hse rfl))
  subst ex
  cases (show v = Value.ref a from r1)
  obtain ⟨hz, hsys, us, rel, dof⟩ := dk_of I1.hok ha
  obtain ⟨ep, dat⟩ := id dof.dictAt
  obtain ⟨ob, es, ho, exd, hdat⟩ := id dat
  refine ⟨"dict", "dict.items", F.plainAttrs_dict, F.slot_dict_items, F.type_dict_items, ⟨ob, ho, exd.1⟩, fun b e => ?_, Calls.callWith_builtin rfl (PySem.evalArgs_none ?_)⟩
  · cases e; exact ⟨ob, ho, exd.2.1⟩
  refine DT.callItems (es := es) (ep := ep) hsys ⟨ob, ho, exd, hdat.1⟩ ?_
  refine PyProof.Rows.args_nil ?_
  have les : es.size = us.length := by rw [← Array.length_toList]; exact hdat.2.2.1.length
  have lk : kvs.length = us.length := KV.length rel
  have ld : kds.length = kvs.length := (Paired.length hp).symm
  have up : ∀ b u, s1.heap.get? b = some u → (s1.heap.push { cls := .type "dict_items", data := .fields #[.ref a] }).get? b = some u := fun b u e => Heap.get?_push_of_some _ e
  have I2 : Inv X pins σ H1 { s1 with heap := s1.heap.push { cls := .type "dict_items", data := .fields #[.ref a] } } := I1.kept (t' := s1.toks) up
  generalize hh0 : s1.heap.push { cls := .type "dict_items", data := .fields #[.ref a] } = h0 at up I2 ⊢
  have hv0 : h0.IsItemsView s1.heap.objs.size a := by rw [← hh0]; exact ⟨_, Heap.get?_push_size _ rfl, rfl, rfl⟩
  have raw0 : DT.Raw h0 a es ep := ⟨ob, up _ _ ho, exd, hdat.1⟩
  refine DT.sortedI (s := { s1 with heap := h0 }) (es := es) (ep := ep) (I1.ok.hd hc) hv0 raw0 (by rw [les, ← lk]; exact hz) fun h' tk as hk hlt hl hG => ?_
  have lak : as.length = kvs.length := by omega
  have nd : as.Nodup := List.Pairwise.imp (fun h => Nat.ne_of_lt h) hG.rise
  have I3 : Inv X pins σ H1 { s1 with heap := h', toks := tk } := I2.kept (t' := tk) hk
  have lo0 : s1.heap.objs.size ≤ h0.objs.size := by rw [← hh0, Heap.size_push]; exact Nat.le_succ _
  have hlt' : h0.objs.size < h'.objs.size := hlt
  have lE : es.toList.length = as.length := by rw [Array.length_toList, les]; omega
  -- the tuples made
  let tob : DictEntry → Obj := fun e => { cls := .type "tuple", data := .seq #[e.key, e.val] }
  let L : List (Addr × Obj) := (as.zip es.toList).map fun z => (z.1, tob z.2)
  have hL : L = (as.zip es.toList).map fun z => (z.1, tob z.2) := rfl
  have lL : L.length = as.length := by rw [hL, List.length_map, List.length_zip, lE]; omega
  have fL : L.map (·.1) = as := by
    rw [hL, List.map_map]
    exact (show (as.zip es.toList).map (fun z => z.1) = as from List.map_fst_zip (by rw [lE]; exact Nat.le_refl _))
  have at_ : ∀ {j : Nat} {z : Addr × Obj} {k : Key} {y : V}, L[j]? = some z → kvs[j]? = some (k, y) → as[j]? = some z.1 ∧ z.2.cls = .type "tuple" ∧ z.2.dict = none ∧ h'.get? z.1 = some z.2 ∧ ∃ ku uv, RelV (kV k) ku ∧ RelV y uv ∧ z.2.data = .seq #[ku, uv] := by
    intro j z k y e1 e2
    rw [hL, List.getElem?_map] at e1
    obtain ⟨⟨a1, en⟩, e3, rfl⟩ := Option.map_eq_some_iff.mp e1
    obtain ⟨e4, e5⟩ := List.getElem?_zip_eq_some.mp e3
    obtain ⟨en', e6, e7⟩ := hG.pairs j a1 e4
    have e5' : es[j]? = some en := by rw [← Array.getElem?_toList]; exact e5
    rw [e5'] at e6; cases e6
    have lu : j < us.length := by rw [← lk]; exact (List.getElem?_eq_some_iff.mp e2).1
    obtain ⟨⟨k2, uv⟩, e8⟩ : ∃ q, us[j]? = some q := ⟨_, List.getElem?_eq_getElem lu⟩
    obtain ⟨y', e9, ry⟩ := KV.at' rel e8
    rw [e2] at e9; cases e9
    obtain ⟨g1, g2⟩ := hdat.2.2.1.get? e5 e8
    exact ⟨e4, rfl, rfl, e7, en.key, uv, kV_of g1, ry, by rw [← g2]⟩
  have hn0 : ∀ b, s1.heap.objs.size ≤ b → H1 b = none := fun b hb => I1.hok.fresh hb
  have abv : ∀ b ∈ as, s1.heap.objs.size ≤ b ∧ b < h'.objs.size := fun b hb => ⟨Nat.le_trans lo0 (Nat.le_of_lt (hG.above b hb)), hG.there hb⟩
  have kvAt : ∀ {j : Nat} {q : Key × PyData}, kds[j]? = some q → ∃ y, kvs[j]? = some (q.1, y) ∧ Dp X.K H1 y q.2 := by
    intro j q e
    have lj : j < kvs.length := by rw [← ld]; exact (List.getElem?_eq_some_iff.mp e).1
    have e1 : kvs[j]? = some kvs[j] := List.getElem?_eq_getElem lj
    obtain ⟨q', e2, e3, e4⟩ := paired_at hp e1
    rw [e] at e2; cases e2
    exact ⟨kvs[j].2, by rw [e1, ← e3], e4⟩
  -- the list, sorted
  have hob : (h'.push { cls := .type "list", data := .seq (as.map Value.ref).toArray }).get? h'.objs.size = some (seqObj "list" (as.map Value.ref).toArray 0) := Heap.get?_push_size _ rfl
  have kb : ∀ b o, h'.get? b = some o → (h'.push { cls := .type "list", data := .seq (as.map Value.ref).toArray }).get? b = some o := fun b o e => Heap.get?_push_of_some _ e
  generalize hh2 : h'.push { cls := .type "list", data := .seq (as.map Value.ref).toArray } = h2 at hob kb ⊢
  have lz : (as.map Value.ref).length = (L.zip kds).length := by rw [List.length_map, List.length_zip]; omega
  have refAt : ∀ {i : Nat} {v : Value} {z : (Addr × Obj) × (Key × PyData)}, (as.map Value.ref)[i]? = some v → (L.zip kds)[i]? = some z → v = .ref z.1.1 ∧ L[i]? = some z.1 ∧ kds[i]? = some z.2 := by
    intro i v z e1 e2
    obtain ⟨e3, e4⟩ := List.getElem?_zip_eq_some.mp e2
    have e5 : as[i]? = some z.1.1 := by rw [← fL, List.getElem?_map, e3]; rfl
    rw [List.getElem?_map, e5] at e1; cases e1
    exact ⟨rfl, e3, e4⟩
  have hal' : PySem.W.AllAlike ((L.zip kds).map fun z => pairD z.2) := by
    have e : (L.zip kds).map (fun z => pairD z.2) = kds.map pairD := by
      have e2 : (L.zip kds).map (fun z => z.2) = kds := List.map_snd_zip (by omega)
      conv => rhs; rw [← e2, List.map_map]
      rfl
    rw [e]; exact hal
  refine PySem.W.list_sort_data (s := { s1 with heap := h2, toks := tk }) (bs := L.zip kds) (R := fun v z => v = Value.ref z.1.1) (enc := fun z => pairD z.2) hob (each_at lz fun i v z e1 e2 => (refAt e1 e2).1) (each_at lz fun i v z e1 e2 => ?_) hal' (.tuples fun b => ⟨_, _, rfl⟩) (by rw [← lz, List.length_map, lak]; exact hz) (fun b hb => ?_) fun out o1 o2 => ?_
  · obtain ⟨rfl, e3, e4⟩ := refAt e1 e2
    obtain ⟨y, e5, dp⟩ := kvAt e4
    obtain ⟨e6, e7, e8, e9, ku, uv, rk, ry, ed⟩ := at_ e3 e5
    obtain ⟨as1, r1⟩ := Dp.reads I3 _ _ _ ((keyPy_dd (B := H1) z.2.1).dp) rk
    obtain ⟨as2, r2⟩ := Dp.reads I3 _ _ _ dp ry
    have r : Reads h' (.ref z.1.1) (pairD z.2) _ := Reads.tuple e9 e7 ed (.cons r1 (.cons r2 .nil))
    exact ⟨_, PyProof.Rows.Reads.keeps kb r, fun m => Nat.lt_irrefl _ (reads_lt r _ m)⟩
  · have hb2 : b.2 ∈ kds := (List.of_mem_zip hb).2
    have := depth_pair b.2
    have := hdep _ hb2
    show X.A.units + 1 + 1 + (pairD b.2).depth < cLine
    omega
  · have eo := each_eq (f := fun z : (Addr × Obj) × (Key × PyData) => Value.ref z.1.1) o2
    obtain ⟨eF, heF⟩ := PyProof.Rows.sortedHeap_at (vs := as.map Value.ref) (out := List.toArray out) hob
    have ne0 : ∀ b o, h'.get? b = some o → b ≠ h'.objs.size := fun b o e => Nat.ne_of_lt (Heap.lt_size e)
    have kF : ∀ b o, h'.get? b = some o → (sortedHeap h2 h'.objs.size (as.map Value.ref) (List.toArray out)).get? b = some o := fun b o e => (PyProof.Rows.sortedHeap_old (ne0 b o e) (Heap.lt_size (kb b o e))).trans (kb b o e)
    have I4 : Inv X pins σ H1 { s1 with heap := sortedHeap h2 h'.objs.size (as.map Value.ref) (List.toArray out), toks := tk } := I3.kept (t' := tk) kF
    have I5 := takeL I1 (h' := sortedHeap h2 h'.objs.size (as.map Value.ref) (List.toArray out)) (tk := tk) (pairsL L kvs) H1 I4 (by rw [pairsL_fst (by omega), fL]; exact nd) fun z hz' => ?_
    · have hpn : layL H1 (pairsL L kvs) h'.objs.size = none := by
        rw [layL_old fun z hz' e => ?_]
        · exact hn0 _ (by omega)
        · have : z.1 ∈ (pairsL L kvs).map (·.1) := List.mem_map.mpr ⟨z, hz', rfl⟩
          rw [pairsL_fst (by omega), fL, e] at this
          exact absurd (abv _ this).2 (Nat.lt_irrefl _)
      refine ⟨.ref h'.objs.size, upd (layL H1 (pairsL L kvs)) h'.objs.size (.lst (((L.zip kds).mergeSort (PySem.W.dataLe false fun z => pairD z.2)).map fun z => V.ref z.1.1)), I5.take (h' := sortedHeap h2 h'.objs.size (as.map Value.ref) (List.toArray out)) (t' := tk) (fun b ob _ e => e) (I1.fpOk (by omega) hpn) ⟨?_, out, eF, ?_, heF⟩, rfl, q L h'.objs.size (by omega) (by rw [fL]; exact nd) (fun z hz' => ?_) hpn⟩
      · rw [List.length_map, List.length_mergeSort, ← lz, List.length_map, lak]; exact hz
      · rw [eo]
        exact vals_maps (fun z : (Addr × Obj) × (Key × PyData) => V.ref z.1.1) (fun z => Value.ref z.1.1) _ fun _ _ => rfl
      · obtain ⟨j, hj⟩ := List.mem_iff_getElem?.mp hz'
        have lj : j < kvs.length := by have := (List.getElem?_eq_some_iff.mp hj).1; omega
        obtain ⟨e6, e7, e8, _⟩ := at_ hj (List.getElem?_eq_getElem lj)
        exact ⟨hn0 _ (abv _ (List.mem_of_getElem? e6)).1, e7, e8⟩
    · unfold pairsL at hz'
      obtain ⟨⟨z0, k, y⟩, hm0, rfl⟩ := List.mem_map.mp hz'
      obtain ⟨j, hj⟩ := List.mem_iff_getElem?.mp hm0
      obtain ⟨e1, e2⟩ := List.getElem?_zip_eq_some.mp hj
      obtain ⟨e6, e7, e8, e9, ku, uv, rk, ry, ed⟩ := at_ e1 e2
      have ab := abv _ (List.mem_of_getElem? e6)
      exact ⟨ab.1, hn0 _ ab.1, fun H2 => ⟨kF _ _ e9, by rw [sizeLine_eq]; show 2 ≤ 16777216; omega, [ku, uv], .cons rk (.cons ry .nil), ⟨_, kF _ _ e9, e7, 0, ed⟩⟩⟩
end
end DL
set_option Elab.async false
set_option linter.all false
set_option maxRecDepth 100000
set_option maxHeartbeats 1000000
set_option autoImplicit false
namespace DL
open PySem PySem.Spec PyProof.Rows L2
theorem rep_layL {K : PySem.W.Frag} {F : Hp} {vs : List V} {σ : L2.St} {δ : SEnv} : ∀ (L : List (Addr × HO)) {B H : Hp}, Rep K F B H vs σ δ → (L.map (·.1)).Nodup → (∀ z ∈ L, H z.1 = none ∧ ∀ ps, z.2 ≠ .tbl ps) → Rep K F (layL B L) (layL H L) vs σ δ ∧ Same B (layL B L)
  | [], B, H, h, _, _ => ⟨h, Same.refl _⟩
  | z :: L, B, H, h, n, f => by
    obtain ⟨f1, f2⟩ := f z (List.mem_cons_self ..)
    rw [List.map_cons, List.nodup_cons] at n
    obtain ⟨h2, s2⟩ := rep_layL L (h.new f1 z.2 f2) n.2 fun y hy => by
      obtain ⟨g1, g2⟩ := f y (List.mem_cons_of_mem _ hy)
      exact ⟨by rw [upd_ne (fun e => n.1 (List.mem_map.mpr ⟨y, hy, e⟩))]; exact g1, g2⟩
    exact ⟨h2, (same_new (nof h.sb f1) _).trans s2⟩
theorem dds_mem {α : Type} {B : Hp} {f : α → V} {g : α → PyData} : ∀ {zs : List α}, (∀ z ∈ zs, DD B (f z) (g z)) → DDs B (zs.map f) (zs.map g)
  | [], _ => .nil
  | z :: zs, h => .cons (h z (List.mem_cons_self ..)) (dds_mem fun y hy => h y (List.mem_cons_of_mem _ hy))
def sortIt (kvs : List (Key × PyData)) : List PyData := (kvs.map pairD).mergeSort (PySem.W.dataLe false id)
def wSortIt (wa : WE) : WE := fun Ex δ P => wa Ex δ fun r δ1 => ob (view δ1 r) fun w => ob (kvsV w) fun kvs => PySem.W.AllAlike (kvs.map pairD) ∧ (∀ q ∈ kvs, q.2.depth ≤ 90) ∧ kvs.length ≤ 100000 ∧ P (.n (.l (sortIt kvs))) δ1
section
variable {S : Sg}
theorem de_sortIt {o : Expr} {wa : WE} {p pos apos mpos : Pos} (hg : GlS S.sc "sorted") (hm : S.g.mg "sorted" = none) (ha : DE S o wa) (hbase : ∀ env, attributeBase o "items" env (eval o env) = eval o env := by intro _; rfl) (hline : (apos.endLine == mpos.line) = true := by rfl)
    (hse : ∀ env, starEach [Expr.Call (.Attribute o "items" apos) [] [] mpos] env = (false, eval (Expr.Call (.Attribute o "items" apos) [] [] mpos) env) :: starEach [] env := by intro _; rfl) :
    DE S (.Call (.Name "sorted" p) [.Call (.Attribute o "items" apos) [] [] mpos] [] pos) (wSortIt wa) := by
  obtain ⟨t, pa, s⟩ := ha
  refine ⟨tSortIt S.g.K t, fun c hc => pe_sortIt (X := S.g.cx c) hc.calm (by have := hc.room.un; show c.A.units + 200 < cLine; omega) (gl_of hc hg) hm (pa c hc) (hbase _) hline (hse _), ⟨fun Ex Ex' δ P P' hx h w => ?_, fun Ex F B H vs σ δ P Q hx h w k => ?_⟩⟩
  · exact s.mono _ _ _ _ _ hx (fun r δ1 w => w.imp fun a w => w.imp fun kvs w => ⟨w.1, w.2.1, w.2.2.1, h _ _ w.2.2.2⟩) w
  · refine s.run _ _ _ _ _ _ _ _ _ hx h w fun B1 H1 x r δ1 s1 h1 q1 w1 => ?_
    obtain ⟨vw, e1, kvs, e2, hal, hdep, hlen, w1⟩ := w1
    have ov := view_ok h1 q1 e1
    unfold kvsV at e2
    split at e2
    · cases e2
      obtain ⟨a, ys, rfl, hy, qy⟩ := ov
      have lq : ys.length = kvs.length := kds_length qy
      refine ⟨a, ys, kvs, rfl, hy, ⟨Paired.mapP qy fun p q z => ⟨z.1, (z.2.mono h1.sb).dp⟩, hal, hdep, hlen⟩, fun L p lL nL fL hp => ?_⟩
      obtain ⟨h2, s2⟩ := rep_layL (pairsL L ys) h1 (by rw [pairsL_fst lL]; exact nL) fun z hz => by
        unfold pairsL at hz
        obtain ⟨⟨z0, k0, y0⟩, hm0, rfl⟩ := List.mem_map.mp hz
        exact ⟨(fL z0 (List.of_mem_zip hm0).1).1, fun ps e => nomatch e⟩
      have es : sortIt kvs = ((L.zip kvs).mergeSort (PySem.W.dataLe false fun z => pairD z.2)).map fun z => pairD z.2 := by
        have e2 : (L.zip kvs).map (fun z => z.2) = kvs := List.map_snd_zip (by omega)
        unfold sortIt
        conv => lhs; rw [← e2, List.map_map]
        exact (List.map_mergeSort (r := PySem.W.dataLe false fun z : (Addr × Obj) × (Key × PyData) => pairD z.2) (s := PySem.W.dataLe false id) (f := fun z => pairD z.2) (l := L.zip kvs) (fun a _ b _ => rfl)).symm
      have hq : DDs (layL B1 (pairsL L ys)) (((L.zip kvs).mergeSort (PySem.W.dataLe false fun z => pairD z.2)).map fun z => V.ref z.1.1) (sortIt kvs) := by
        rw [es]
        refine dds_mem fun z hz => ?_
        obtain ⟨j, hj⟩ := List.mem_iff_getElem?.mp ((List.mergeSort_perm _ _).mem_iff.mp hz)
        obtain ⟨e3, e4⟩ := List.getElem?_zip_eq_some.mp hj
        have lj : j < ys.length := by rw [lq]; exact (List.getElem?_eq_some_iff.mp e4).1
        have e5 : ys[j]? = some ys[j] := List.getElem?_eq_getElem lj
        obtain ⟨q', e6, e7, e8⟩ := paired_at qy e5
        rw [e4] at e6; cases e6
        have m0 : (z.1, ys[j]) ∈ L.zip ys := List.mem_of_getElem? (i := j) (List.getElem?_zip_eq_some.mpr ⟨e3, e5⟩)
        have m1 : (z.1.1, HO.frz z.1.2 (.tup [kV ys[j].1, ys[j].2])) ∈ pairsL L ys := List.mem_map.mpr ⟨_, m0, rfl⟩
        have e9 := layL_at (H := B1) (by rw [pairsL_fst lL]; exact nL) m1
        have f1 := fL z.1 (List.mem_of_getElem? e3)
        exact DD.tup ⟨z.1.2, e9, f1.2.1, f1.2.2⟩ (.cons (by rw [e7]; exact keyPy_dd _) (.cons (e8.mono s2) .nil))
      exact k _ _ (.ref p) (.n (.l (sortIt kvs))) δ1 (s1.trans s2) (h2.newO hp _) ⟨p, rfl, foot_bf rfl (nof h2.sb hp) (nof h2.sf hp), ⟨_, upd_same, hq⟩, h2.fresh hp _⟩ w1
    · cases e2
end
end DL
set_option Elab.async false
set_option linter.all false
set_option maxRecDepth 100000
set_option maxHeartbeats 1000000
set_option autoImplicit false
namespace DL
open PySem PySem.Spec PyProof.Rows L2
end DL
set_option Elab.async false
set_option linter.all false
set_option maxRecDepth 100000
set_option maxHeartbeats 1000000
set_option autoImplicit false
namespace DL
open PySem PySem.Spec PyProof.Rows L2
mutual
def OT.data : OT → Option PyData
  | .d x => some x
  | .n _ true _ => none
  | .n _ false ts => (OT.datas ts).map .list
def OT.datas : List (Key × OT) → Option (List PyData)
  | [] => some []
  | (_, t) :: r => t.data.bind fun x => (OT.datas r).map fun xs => x :: xs
end
def lenX : List Vw → Option Rv
  | [.xl n] => some (.val (.int n))
  | vs => lenF vs
theorem cs_lenX {S : Sg} : CallS S (.builtin "len") lenX := by
  rintro c hc pins s σ H xs us Q I rv ⟨B, as, r, sB, ov, e, k⟩
  unfold lenX at e
  split at e
  · cases e
    obtain ⟨v, rfl, a, zs, rfl, hz, rfl⟩ := ovs1 ov
    exact call_len pins s σ H _ us Q I rv ⟨_, _, rfl, .inl ⟨zs, SqL.of hz, rfl⟩, k _ (.int _)⟩
  · exact cs_len c hc pins s σ H xs us Q I rv ⟨B, as, r, sB, ov, e, k⟩
end DL
set_option Elab.async false
set_option linter.all false
set_option maxRecDepth 100000
set_option maxHeartbeats 1000000
set_option autoImplicit false
namespace DL
open PySem PySem.Spec PyProof.Rows L2
section
variable {S : Sg}
def rgI (a b : Int) : List PyData := (List.range (b - a).toNat).map fun (i : Nat) => .int (a + (i : Int))
def wLstRg2 (wa wb : WE) : WE := fun Ex δ P => wa Ex δ fun r δ1 => ob (view δ1 r) fun v => ob (intV v) fun a => wb Ex δ1 fun r2 δ2 => ob (view δ2 r2) fun v2 => ob (intV v2) fun b => (0 ≤ a ∧ a ≤ 16777216 ∧ 0 ≤ b ∧ b ≤ 16777216) ∧ P (.n (.l (rgI a b))) δ2
theorem dds_rg {B : Hp} {a b : Int} : DDs B (rgV a b) (rgI a b) := by
  unfold rgV rgI
  exact dds_mem fun z _ => .int _
theorem de_listRg2 {a b : Expr} {wa wb : WE} {p p2 q pos : Pos} (hg : GlS S.sc "list") (hm : S.g.mg "list" = none) (hg2 : GlS S.sc "range") (hm2 : S.g.mg "range" = none) (ha : DE S a wa) (hb : DE S b wb)
    (hs : ∀ env, starEach [a, b] env = (false, eval a env) :: starEach [b] env := by intro _; rfl) (hs1 : ∀ env, starEach [b] env = (false, eval b env) :: starEach [] env := by intro _; rfl) (hp : ∀ env, (backTo q (starEach [b] env)).any (·.1) = false := by intro _; rfl)
    (hs2 : ∀ env, starEach [Expr.Call (.Name "range" p2) [a, b] [] q] env = (false, eval (Expr.Call (.Name "range" p2) [a, b] [] q) env) :: starEach [] env := by intro _; rfl) : DE S (.Call (.Name "list" p) [.Call (.Name "range" p2) [a, b] [] q] [] pos) (wLstRg2 wa wb) := by
  obtain ⟨t, pa, s⟩ := ha
  obtain ⟨t2, pb, sb⟩ := hb
  refine ⟨_, fun c hc => pe_listRg (X := S.g.cx c) hc.calm (gl_of hc hg) hm (prg_2 (gl_of hc hg2) hm2 (pa c hc) (pb c hc) (hs _) (hs1 _) (hp _)) (hs2 _), ⟨fun Ex Ex' δ P P' hx h w => ?_, fun Ex F B H vs σ δ P Q hx h w k => ?_⟩⟩
  · refine s.mono _ _ _ _ _ hx (fun r δ1 w => w.imp fun v w => w.imp fun a w => ?_) w
    exact sb.mono _ _ _ _ _ hx (fun r δ2 w => w.imp fun v w => w.imp fun b w => ⟨w.1, h _ _ w.2⟩) w
  refine s.run _ _ _ _ _ _ _ _ _ hx h w fun B1 H1 x r δ1 s1 h1 q1 w1 => ?_
  obtain ⟨v, e1, a, e2, w1⟩ := w1
  cases intV_ok (view_ok h1 q1 e1) e2
  refine sb.run _ _ _ _ _ _ _ _ _ (hx.up s1) h1 w1 fun B2 H2 y r2 δ2 s2 h2 q2 w2 => ?_
  obtain ⟨v2, e3, b, e4, hb, w2⟩ := w2
  cases intV_ok (view_ok h2 q2 e3) e4
  exact ⟨a, b, rfl, rfl, RgOk.of_le (by omega) (by omega) (by omega) (by omega), fun p hp => rvk_ok (rv := .lst (rgI a b)) (s1.trans s2) h2 w2 k p _ hp dds_rg⟩
end
end DL
set_option Elab.async false
set_option linter.all false
set_option maxRecDepth 100000
set_option maxHeartbeats 1000000
set_option autoImplicit false
namespace DL
open PySem PySem.Spec PyProof.Rows L2
section
variable {K : PySem.W.Frag} {F B H : Hp} {vs : List V} {σ : L2.St} {δ : SEnv}
theorem rfoot_newO {v : V} {r : R} {p q : Addr} {o : HO} (z : RepR K F B H σ δ v r) (hp : H p = none) : rfoot (upd H p o) v r q ↔ rfoot H v r q := by
  cases r with
  | n c =>
    obtain ⟨a, rfl, hBF, qc, off⟩ := z
    have fe := foot_upd (o := o) (q := q) qc hp
    exact ⟨fun ⟨a', e, f⟩ => by cases e; exact ⟨a, rfl, fe.mp f⟩, fun ⟨a', e, f⟩ => by cases e; exact ⟨a, rfl, fe.mpr f⟩⟩
  | _ => exact Iff.rfl
theorem repr_newO {v : V} {r : R} {p : Addr} {o : HO} (h : Rep K F B H vs σ δ) (z : RepR K F B H σ δ v r) (hp : H p = none) : RepR K F B (upd H p o) σ δ v r := by
  cases r with
  | d x => exact z
  | w x => exact z
  | o i => exact z
  | n c =>
    obtain ⟨a, rfl, hBF, qc, off⟩ := z
    refine ⟨a, rfl, fun q f => hBF q ((foot_upd qc hp).mp f), qc.mono (Same.refl _) fun q f => upd_ne (foot_new (o := o) qc hp f), fun i b c' a' q e1 e2 f f' => off i b c' a' q e1 e2 ?_ ((foot_upd qc hp).mp f')⟩
    exact (foot_upd (h.own_up e1 e2).2 hp).mp f
theorem repo_newO {ws : List V} {rs : List R} {p : Addr} {o : HO} (h : Rep K F B H vs σ δ) (z : RepO K F B H σ δ ws rs) (hp : H p = none) : RepO K F B (upd H p o) σ δ ws rs := by
  refine ⟨Paired.mapP z.1 fun v r q => ⟨repr_newO h q.1 hp, q.2⟩, fun i j v w r r' q ne e1 e2 e3 e4 f f' => ?_⟩
  obtain ⟨y, e5, q1⟩ := paired_at z.1 e1
  rw [e3] at e5; cases e5
  obtain ⟨y, e6, q2⟩ := paired_at z.1 e2
  rw [e4] at e6; cases e6
  exact z.2 i j v w r r' q ne e1 e2 e3 e4 ((rfoot_newO q1.1 hp).mp f) ((rfoot_newO q2.1 hp).mp f')
end
section
variable {S : Sg}
theorem ds_parU {tgs es : List Expr} {k n k2 : Nat} {is : List Nat} {pt pt2 pos : Pos} {wr : WA} (h : DAO S es wr) (hg : DNs S tgs is) (hl : is.length = n) (hz : n ≤ 10) (hn : ∀ env, (assignEach tgs env).length = n := by intro _; rfl) (hst : ∀ env, (assignEach tgs env).findIdx? (·.1) = none := by intro _; rfl)
    (hs : ∀ env, swapsWithSole [.Tuple tgs k pt] (.Tuple es k2 pt2) pos.line env = pure false := by intro _; rfl) (hw : ∀ env : Env, swappedStores [.Tuple tgs k pt] (.Tuple es k2 pt2) { env with scope := S.sc } = pure none := by intro _; rfl) (h1 : ∀ env, (assignEach [.Tuple tgs k pt] env).map (·.2) = [assign (.Tuple tgs k pt) env] := by intro _; rfl) :
    DS S (.Assign [.Tuple tgs k pt] (.Tuple es k2 pt2) pos) (wParO is wr) := by
  obtain ⟨t, p, s⟩ := h
  refine ⟨tAsg (tTup t) (gTup S.g.K n (gNames is)), fun c hc => ps_asg (pe_tup (p c hc)) (pg_tup (X := S.g.cx c) hc.calm (hg c hc) (hn _) (hst _)) (hs _) (by have q := hw c.env; rw [← hc.hs] at q; exact q) (h1 _), ⟨fun d d' δ h w => s.mono _ _ _ _ _ h.ex (fun rs δ1 w => w.imp fun p w => h.nx _ w) w, fun F B H vs σ δ D d hx h k w => ?_⟩⟩
  refine s.run _ _ _ _ _ _ _ _ _ hx h w fun B1 H1 ws rs δ1 s1 h1 q1 w1 => ?_
  obtain ⟨δ2, e1, w1⟩ := w1
  have l := stNs_len e1
  have l2 := Paired.length q1.1
  refine ⟨by rw [l2, ← l, hl, sizeLine_eq]; omega, fun p hp => ?_⟩
  have h2 := h1.newO hp (.tup ws)
  have h3 := stNs_ok h2 (repo_newO h1 q1 hp) e1
  exact ⟨p, ws, rfl, .inl (.inl upd_same), by rw [l2, ← l, hl], gNames_run (by rw [l, l2]) (k.nx B1 _ _ _ s1 h3 w1)⟩
def wAsgP (ws : List WTG) (wr : WA) : WS := fun d δ => wr d.ex δ fun rs δ1 => (rs.length = ws.length ∧ rs.length ≤ 10) ∧ wTgs ws d.ex δ1 rs d.nx
theorem ds_asgP {tgs es : List Expr} {k n k2 : Nat} {ws : List WTG} {pt pt2 pos : Pos} {wr : WA} (h : DAO S es wr) (hg : DTgs S tgs ws) (hl : ws.length = n) (hn : ∀ env, (assignEach tgs env).length = n := by intro _; rfl) (hst : ∀ env, (assignEach tgs env).findIdx? (·.1) = none := by intro _; rfl)
    (hs : ∀ env, swapsWithSole [.Tuple tgs k pt] (.Tuple es k2 pt2) pos.line env = pure false := by intro _; rfl) (hw : ∀ env : Env, swappedStores [.Tuple tgs k pt] (.Tuple es k2 pt2) { env with scope := S.sc } = pure none := by intro _; rfl) (h1 : ∀ env, (assignEach [.Tuple tgs k pt] env).map (·.2) = [assign (.Tuple tgs k pt) env] := by intro _; rfl) :
    DS S (.Assign [.Tuple tgs k pt] (.Tuple es k2 pt2) pos) (wAsgP ws wr) := by
  obtain ⟨t, p, s⟩ := h
  obtain ⟨g, pg, sg⟩ := hg
  refine ⟨tAsg (tTup t) (gTup S.g.K n g), fun c hc => ps_asg (pe_tup (p c hc)) (pg_tup (X := S.g.cx c) hc.calm (pg c hc) (hn _) (hst _)) (hs _) (by have q := hw c.env; rw [← hc.hs] at q; exact q) (h1 _), ⟨fun d d' δ h w => s.mono _ _ _ _ _ h.ex (fun rs δ1 w => ⟨w.1, sg.mono _ _ _ _ _ _ h.ex h.nx w.2⟩) w, fun F B H vs σ δ D d hx h k w => ?_⟩⟩
  refine s.run _ _ _ _ _ _ _ _ _ hx h w fun B1 H1 xs rs δ1 s1 h1 q1 w1 => ?_
  obtain ⟨⟨l, hz⟩, w1⟩ := w1
  have l2 := Paired.length q1.1
  refine ⟨by rw [l2, sizeLine_eq]; omega, fun p hp => ?_⟩
  exact ⟨p, xs, rfl, .inl (.inl upd_same), by rw [l2, l, hl], sg.run _ _ _ _ _ _ _ _ _ _ _ (hx.up s1) (h1.newO hp (.tup xs)) (repo_newO h1 q1 hp).1 w1 fun B' σ' H' δ' s3 h3 w => k.nx B' σ' H' δ' (s1.trans s3) h3 w⟩
end
end DL
set_option Elab.async false
set_option linter.all false
set_option maxRecDepth 100000
set_option maxHeartbeats 1000000
set_option autoImplicit false
namespace DL
open PySem PySem.Spec PyProof.Rows L2
theorem mod_ge {a m : Int} (h : 0 < m) : 0 ≤ a % m := Int.emod_nonneg _ (by omega)
theorem mod_lt {a m : Int} (h : 0 < m) : a % m < m := Int.emod_lt_of_pos _ h
theorem small_of {a : Int} (h : 0 ≤ a) (h2 : a < 2147483648) : smallI a = true := decide_eq_true (by omega)
theorem mulI {a b : Int} (h : (smallI a || smallI b) = true) : mulF (.d (.int a)) (.d (.int b)) = some (.val (.int (a * b))) := by
  show (if smallI a || smallI b || _ then _ else _) = _
  rw [if_pos (by rw [h]; rfl)]
theorem eq_shaped {neg : Bool} {d e : PyData} (h : SeqAt.shaped d = true) (h2 : SeqAt.shaped e = true) : eqG neg (.d d) (.d e) = some (.val (.bool (if neg then !PyData.eqv d e else PyData.eqv d e))) := by
  show (if SeqAt.shaped d && SeqAt.shaped e || strs2 d e then _ else none) = _
  rw [if_pos (by rw [h, h2]; rfl)]
theorem ints_shaped (cs : List Int) : SeqAt.shaped (.list (cs.map .int)) = true := PySem.W.ke_shaped_ints cs
theorem atI_ok {α : Type} {xs : List α} {i : Int} (h0 : 0 ≤ i) (h1 : i < xs.length) : ∃ x, atI xs i = some x ∧ x ∈ xs := by
  obtain ⟨n, rfl⟩ := Int.eq_ofNat_of_zero_le h0
  have hn : n < xs.length := by omega
  exact ⟨xs[n], atI_nat (List.getElem?_eq_getElem hn), List.getElem_mem hn⟩
theorem idx_mem {ds : List PyData} {j : Int} (h0 : 0 ≤ j) (h1 : j < (ds.length : Nat)) : ∃ e, idxF (.d (.list ds)) (.d (.int j)) = some (.val e) ∧ e ∈ ds := by
  obtain ⟨e, ee, me⟩ := atI_ok h0 h1
  refine ⟨e, ?_, me⟩
  show (atI ds j).map Rv.val = _
  rw [ee]
  rfl
theorem cut_map {α β : Type} (f : α → β) (xs : List α) (lo hi : Option Int) : cutL (xs.map f) lo hi = (cutL xs lo hi).map f := by
  unfold cutL
  rw [List.length_map, List.map_take, List.map_drop]
theorem scal_ints (ns : List Int) : (ns.map PyData.int).all scalar = true := by
  rw [List.all_eq_true]
  intro x m
  obtain ⟨n, _, rfl⟩ := List.mem_map.mp m
  rfl
theorem lc_of {α : Type} {g : α → PyData} {G : WG} {wt : WT} {we : WE} {own : List Nat} {P : List PyData → SEnv → Prop} {δf : SEnv} (p : α → Bool) (f : α → PyData) : ∀ {xs : List α} {acc : List PyData} {δ : SEnv}, forgetAll δ own = δf → acc.length + xs.length ≤ sizeLine →
    (∀ x ∈ xs, ∀ (Q : R → SEnv → Prop) (Q' : SEnv → Prop), (p x = true → ∀ δ1, forgetAll δ1 own = δf → Q (.d (f x)) δ1) → (p x = false → ∀ δ1, forgetAll δ1 own = δf → Q' δ1) →
      ob (G (g x) δf) fun δ1 => wt Ex0 δ1 fun b δ2 => if b = true then we Ex0 δ2 Q else Q' δ2) →
    (∀ δ', forgetAll δ' own = δf → P (acc ++ (xs.filter p).map f) δ') → wLcR G wt we own (xs.map g) acc δ P
  | [], acc, δ, h0, _, _, k => by have := k δ h0; rwa [List.filter_nil, List.map_nil, List.append_nil] at this
  | x :: xs, acc, δ, h0, hl, step, k => by
    rw [List.map_cons]
    unfold wLcR
    rw [h0]
    rw [List.length_cons] at hl
    refine step x (List.mem_cons_self ..) (fun r δ3 => ob (frz δ3 r) fun q => acc.length < sizeLine ∧ wLcR G wt we own (xs.map g) (acc ++ [q.1]) q.2 P) (fun δ2 => wLcR G wt we own (xs.map g) acc δ2 P) (fun hp δ1 h1 => ⟨_, rfl, by omega, ?_⟩) (fun hp δ1 h1 => ?_)
    · refine lc_of p f h1 (by rw [List.length_append, List.length_singleton]; omega) (fun y m => step y (List.mem_cons_of_mem _ m)) fun δ' h' => ?_
      have := k δ' h'
      rw [List.filter_cons, if_pos hp, List.map_cons] at this
      rw [List.append_assoc]; exact this
    · refine lc_of p f h1 (by omega) (fun y m => step y (List.mem_cons_of_mem _ m)) fun δ' h' => ?_
      have := k δ' h'
      rwa [List.filter_cons, if_neg (by rw [hp]; decide)] at this
theorem for_of {α : Type} {g : α → PyData} {G : WG} {body : WS} {xs : List α} {d : DEnds} (I : List α → SEnv → Prop) (fin : ∀ δ, I xs δ → d.nx δ)
    (step : ∀ (pre : List α) (x : α) (post : List α) (δ : SEnv) (Q : SEnv → Prop), xs = pre ++ x :: post → I pre δ → (∀ δ', I (pre ++ [x]) δ' → Q δ') → ob (G (g x) δ) fun δ1 => body { d with nx := Q, bk := d.nx, ct := Q } δ1) :
    ∀ {δ : SEnv}, I [] δ → wForR G body (xs.map g) d δ := by
  have go : ∀ (post pre : List α) (δ : SEnv), xs = pre ++ post → I pre δ → wForR G body (post.map g) d δ := by
    intro post
    induction post with
    | nil =>
      intro pre δ e h
      rw [List.append_nil] at e
      subst e
      exact fin _ h
    | cons x post ih =>
      intro pre δ e h
      exact step pre x post δ (wForR G body (post.map g) d) e h fun δ' h' => ih (pre ++ [x]) δ' (by rw [e, List.append_assoc]; rfl) h'
  intro δ h
  exact go xs [] δ rfl h
theorem call_d {pre : List Sl → Prop} {post : List Sl → R → List Sl → Prop} {wa : WE} {δ δ1 : SEnv} {d : PyData} {Ex : XP} {P : R → SEnv → Prop} (hm : ∀ Q : R → SEnv → Prop, Q (.d d) δ1 → wa Ex δ Q) (hp : pre [.d d]) (k : ∀ r ss', post [.d d] r ss' → ss' = [.d d] ∧ P r δ1) : wCall 1 (Ct pre post) [false] (wCons wa wNil) Ex δ P := by
  unfold wCall
  refine hm _ ?_
  refine ⟨_, rfl, ?_⟩
  refine ⟨([.d d], δ1), rfl, rfl, List.nodup_nil, ?_⟩
  refine ⟨[.d d], rfl, hp, fun r ss' q _ => ?_⟩
  obtain ⟨rfl, z⟩ := k r ss' q
  exact ⟨_, rfl, z⟩
theorem call_dd {pre : List Sl → Prop} {post : List Sl → R → List Sl → Prop} {wa wb : WE} {δ δ1 δ2 : SEnv} {d e : PyData} {Ex : XP} {P : R → SEnv → Prop} (hm : ∀ Q : R → SEnv → Prop, Q (.d d) δ1 → wa Ex δ Q) (hm2 : ∀ Q : R → SEnv → Prop, Q (.d e) δ2 → wb Ex δ1 Q) (hp : pre [.d d, .d e]) (k : ∀ r ss', post [.d d, .d e] r ss' → ss' = [.d d, .d e] ∧ P r δ2) : wCall 2 (Ct pre post) [false, false] (wCons wa (wCons wb wNil)) Ex δ P := by
  unfold wCall
  refine hm _ ?_
  refine ⟨_, rfl, ?_⟩
  refine hm2 _ ?_
  refine ⟨_, rfl, ?_⟩
  refine ⟨([.d d, .d e], δ2), rfl, rfl, List.nodup_nil, ?_⟩
  refine ⟨[.d d, .d e], rfl, hp, fun r ss' q _ => ?_⟩
  obtain ⟨rfl, z⟩ := k r ss' q
  exact ⟨_, rfl, z⟩
end DL
set_option Elab.async false
set_option linter.all false
set_option maxRecDepth 100000
set_option maxHeartbeats 1000000
set_option autoImplicit false
namespace DL
open PySem PySem.Spec PyProof.Rows L2
abbrev cB' : Int := 1000000
def cd (p : Int × Int) : Int := p.1 * cB' + p.2
end DL
set_option Elab.async false
set_option linter.all false
set_option maxRecDepth 100000
set_option maxHeartbeats 1000000
set_option autoImplicit false
namespace DL
open PySem PySem.Spec PyProof.Rows L2 LamX
theorem FnG.calm {g : Gx} {k : Nat} {f : Addr} {fd : FuncData} {ps : List Str} {np : Nat} {pre : List Sl → Prop} {post : List Sl → R → List Sl → Prop} (F : FnG g g.ex k f fd ps (spOf g.K np (Ct pre post))) : FnG g CX0 k f fd ps (spOf g.K np (Ct pre post)) :=
  ⟨F.len, fun A outer sh H args us vs Q E hg hr he hb hv ⟨h1, F0, B, ss, Ex, P, h2, _, h4, h5⟩ => codeAny_mono (F.run A outer sh H args us vs Q (fun _ _ _ => False) hg hr he hb hv ⟨h1, F0, B, ss, (fun _ => False), P, h2, (fun _ _ _ _ _ _ _ _ _ _ _ _ z => z.elim), h4, h5⟩) fun res s' q => by
    cases res with
    | error e =>
      obtain ⟨_, _, _, _, _, _, _, _, _, _, _, _, z⟩ := q
      exact z.elim
    | ok fl => cases fl <;> exact q⟩
theorem Cal.calm {g : Gx} {k : Nat} {x : Str} {ps : List Str} {pre : List Sl → Prop} {post : List Sl → R → List Sl → Prop} (h : Cal g g.ex k x ps (Ct pre post)) : Cal g CX0 k x ps (Ct pre post) := by
  obtain ⟨f, fd, F, r⟩ := h
  exact ⟨f, fd, F.calm, r⟩
abbrev Sg.off (S : Sg) : Sg := ⟨S.g, S.CX, S.N, S.sc, S.k, fun _ _ _ => False, S.top, false⟩
section
variable {K : PySem.W.Frag} {F B H B' H' : Hp} {vs : List V} {σ : L2.St} {δ : SEnv}
/-- a slot of which nothing is known takes anything -/
theorem Rep.any (h : Rep K F B H vs σ δ) (i : Nat) (x : Option V) : Rep K F B H vs (σ.set i x) (δ.set i none) := by
  have f := h.forget i
  refine ⟨h.sb, h.sf, h.dj, by rw [List.length_set, List.length_set]; exact h.len, fun j s e => ?_, fun j k a a' p b c b' c' e1 e2 e3 e4 f1 f2 => ?_, fun j c e => ?_, h.nt⟩
  · rcases set_get e with ⟨_, z⟩ | ⟨n, z⟩
    · cases z
    · rw [List.getElem?_set_ne (Ne.symm n)]; exact h.ok j s z
  · rcases set_get e1 with ⟨_, z⟩ | ⟨n, z⟩
    · cases z
    · rcases set_get e2 with ⟨_, z2⟩ | ⟨n2, z2⟩
      · cases z2
      · rw [List.getElem?_set_ne (Ne.symm n)] at e3
        rw [List.getElem?_set_ne (Ne.symm n2)] at e4
        exact h.apart j k a a' p b c b' c' z z2 e3 e4 f1 f2
  · rcases set_get e with ⟨_, z⟩ | ⟨n, z⟩
    · cases z
    · rw [List.getElem?_set_ne (Ne.symm n)]; exact h.bor j c z
end
end DL
set_option Elab.async false
set_option linter.all false
set_option maxRecDepth 100000
set_option maxHeartbeats 1000000
set_option autoImplicit false
namespace DL
open PySem PySem.Spec PyProof.Rows L2 LamX
end DL
set_option Elab.async false
set_option linter.all false
set_option maxRecDepth 100000
set_option maxHeartbeats 4000000
set_option autoImplicit false
namespace DL
open PySem PySem.Spec PyProof.Rows L2
end DL
set_option Elab.async false
set_option linter.all false
set_option maxRecDepth 100000
set_option maxHeartbeats 1000000
set_option autoImplicit false
namespace DL
open PySem PySem.Spec PyProof.Rows L2
end DL
set_option Elab.async false
set_option linter.all false
set_option maxRecDepth 100000
set_option maxHeartbeats 1000000
set_option autoImplicit false
namespace DL
open PySem PySem.Spec PyProof.Rows L2
end DL
set_option Elab.async false
set_option linter.all false
set_option maxRecDepth 100000
set_option maxHeartbeats 1000000
set_option autoImplicit false
namespace DL
open PySem PySem.Spec PyProof.Rows L2
end DL
set_option Elab.async false
set_option linter.all false
set_option maxRecDepth 100000
set_option maxHeartbeats 1000000
set_option autoImplicit false
namespace DL
open PySem PySem.Spec PyProof.Rows L2
end DL
set_option Elab.async false
set_option linter.all false
set_option maxRecDepth 100000
set_option maxHeartbeats 4000000
set_option autoImplicit false
namespace DL
open PySem PySem.Spec PyProof.Rows L2
def strW : Vw → Option Str
  | .d (.str z) => some z
  | .w (.str z) => some z
  | _ => none
theorem strW_ok {K : PySem.W.Frag} {B H : Hp} {v : V} {w : Vw} {z : Str} (h : OV K B H v w) (e : strW w = some z) : v = .str z := by
  unfold strW at e
  split at e
  · cases e
    rcases h with h | ⟨_, _, _, e1, e2, _⟩
    · cases h; rfl
    · cases e2
  · cases e
    have h : Dp K (fun _ => none) v (.str z) := h
    cases h; rfl
  · cases e
end DL
set_option Elab.async false
set_option linter.all false
set_option maxRecDepth 100000
set_option maxHeartbeats 4000000
set_option autoImplicit false
namespace DL
open PySem PySem.Spec PyProof.Rows L2
end DL
set_option Elab.async false
set_option linter.all false
set_option maxRecDepth 100000
set_option maxHeartbeats 1000000
set_option autoImplicit false
namespace DL
open PySem PySem.Spec PyProof.Rows L2
end DL
set_option Elab.async false
set_option linter.all false
set_option maxRecDepth 100000
set_option maxHeartbeats 1000000
set_option autoImplicit false
namespace DL
open PySem PySem.Spec PyProof.Rows L2
end DL
set_option Elab.async false
set_option linter.all false
set_option maxRecDepth 100000
set_option maxHeartbeats 1000000
set_option autoImplicit false
namespace DL
open PySem PySem.Spec PyProof.Rows L2
end DL
set_option Elab.async false
set_option linter.all false
set_option maxRecDepth 100000
set_option maxHeartbeats 1000000
set_option autoImplicit false
namespace DL
open PySem PySem.Spec PyProof.Rows L2
end DL
set_option Elab.async false
set_option linter.all false
set_option maxRecDepth 100000
set_option maxHeartbeats 1000000
set_option autoImplicit false
namespace DL
open PySem PySem.Spec PyProof.Rows L2
def alB (ds : List PyData) : Bool := ds.all fun a => ds.all fun b => PySem.W.alike a b
def tup1 : PyData → Bool
  | .tuple (_ :: _) => true
  | _ => false
def sortL (ds : List PyData) : List PyData := ds.mergeSort (PySem.W.dataLe false id)
def sortD : List Vw → Option Rv
  | [.d (.list ds)] => if alB ds && ds.all tup1 && ds.all (fun d => decide (d.depth ≤ 90)) && decide (ds.length ≤ 100000) then some (.lst (sortL ds)) else sortX [.d (.list ds)]
  | vs => sortX vs
theorem each_dd {X : Cx} {B H : Hp} {pins : List (Addr × Obj)} {σ : L2.St} {s : Shared} (I : Inv X pins σ H s) (sB : Same B H) : ∀ {zs : List V} {its : List Value} {ds : List PyData}, Vals zs its → DDs B zs ds → PySem.W.EachIs (fun v d => ∃ y, RelV y v ∧ DD B y d) its ds ∧ PySem.W.EachIs (fun v d => ∃ as, Reads s.heap v d as) its ds
  | _, _, _, .nil, .nil => ⟨.nil, .nil⟩
  | _, _, _, .cons r rs, .cons q qs => by
    obtain ⟨h1, h2⟩ := each_dd I sB rs qs
    exact ⟨.cons ⟨_, r, q⟩ h1, .cons (Dp.reads I _ _ _ (dp_mono sB q.dp) r) h2⟩
theorem each_back {B : Hp} : ∀ {its : List Value} {ds : List PyData}, PySem.W.EachIs (fun v d => ∃ y, RelV y v ∧ DD B y d) its ds → ∃ ys, Vals ys its ∧ DDs B ys ds
  | _, _, .nil => ⟨[], .nil, .nil⟩
  | _, _, .cons ⟨y, r, q⟩ h => by
    obtain ⟨ys, h1, h2⟩ := each_back h
    exact ⟨y :: ys, .cons r h1, .cons q h2⟩
theorem cs_sortD {S : Sg} : CallS S (.builtin "sorted") sortD := by
  rintro c hc pins s σ H xs us Q I rv ⟨B, as, r, sB, ov, e, k⟩
  unfold sortD at e
  split at e
  · rename_i ds
    split at e
    · rename_i hc1
      cases e
      simp only [Bool.and_eq_true, decide_eq_true_eq] at hc1
      obtain ⟨⟨⟨h1, h2⟩, h3⟩, h4⟩ := hc1
      obtain ⟨v, rfl, q⟩ := ovs1 ov
      obtain ⟨p, zs, rfl, hp, qz⟩ := ov_lst sB q
      obtain ⟨its, rvz, hl, hz⟩ := I.list (a := p) (xs := zs) (.inl hp)
      rw [Vals.ref1 rv]
      obtain ⟨q1, q2⟩ := each_dd I sB rvz qz
      have hlen : ds.length ≤ sizeLine := by rw [sizeLine_eq]; omega
      refine PySem.W.sorted_data (bs := ds) (R := fun v d => ∃ y, RelV y v ∧ DD B y d) (enc := id) hl.isList q1 q2 (fun d m d' m' => ?_) (.inl fun d m => ?_) hlen (fun b hb => ?_) fun out o1 o2 => ?_
      · rw [List.map_id] at m m'
        exact List.all_eq_true.mp (List.all_eq_true.mp h1 d m) d' m'
      · rw [List.map_id] at m
        have := List.all_eq_true.mp h2 d m
        cases d with
        | tuple l =>
          cases l with
          | nil => cases this
          | cons x r => exact ⟨x, r, rfl⟩
        | _ => cases this
      · have := List.all_eq_true.mp h3 b hb
        have := of_decide_eq_true this
        have hu := hc.room.un
        show c.A.units + 2 + b.depth < cLine
        omega
      · obtain ⟨ys, v1, v2⟩ := each_back o2
        obtain ⟨ep, he'⟩ := PyProof.Rows.sortedAll_at s.heap its (List.toArray out)
        have hl2 : ys.length ≤ sizeLine := by rw [v2.length, List.length_mergeSort]; exact hlen
        exact ⟨.ref _, upd H (s.heap.objs.size + 1) (.lst ys), I.laid (t' := s.toks) (fun _ _ => PyProof.Rows.sortedAll_old) (Nat.le_succ _) ⟨hl2, out, ep, v1, he'⟩, rfl, k _ ys (I.hok.fresh (Nat.le_succ _)) v2⟩
    · exact cs_sortX c hc pins s σ H xs us Q I rv ⟨B, _, r, sB, ov, e, k⟩
  · exact cs_sortX c hc pins s σ H xs us Q I rv ⟨B, _, r, sB, ov, e, k⟩
end DL
set_option Elab.async false
set_option linter.all false
set_option maxRecDepth 100000
set_option maxHeartbeats 1000000
set_option autoImplicit false
namespace DL
open PySem PySem.Spec PyProof.Rows L2
section
variable {prog : Program} {w : World} {A : Around} {E : Value → Shared → Prop} {s : Shared} {d : Addr} {es : Array DictEntry} {ep : Nat}
theorem kdl_raw (lo : (d == sysModules) = false) : PySem.W.KdlSrc prog w "dict" d d es.size (fun i v => ∃ hi : i < es.size, v = es[i].key) (fun h => h.DictRaw d es ep) where
  type := fun _ hm => hm.typeIs
  there := fun _ ⟨_, ho, _⟩ => ⟨Heap.lt_size ho, Heap.lt_size ho⟩
  keep := fun _ _ hm hk => hm.at fun o e => hk d (.inl rfl) o e
  notList := by decide
  notTuple := by decide
  hint := fun _ _ _ _ hm hq => PySem.W.kdl_hint_dict hm.typeIs hq
  iter := fun _ _ hh hm => ⟨_, _, (fun _ _ hq => wpAny_pyIter_dict_raw lo hm hq), Walks.rawKeys hh _ d (let ⟨_, ho, _⟩ := hm; Nat.ne_of_lt (Heap.lt_size ho)) es ep, ⟨⟨_, Heap.get?_push_size _ rfl, rfl, rfl⟩, hm.at fun o e => Heap.get?_push_of_some _ e⟩⟩
theorem sorted_raw {Q : Value → Shared → Prop} (hh : A.handled = none) (lo : (d == sysModules) = false) (hm : s.heap.DictRaw d es ep) (hn : es.size ≤ sizeLine)
    (h : ∀ (h' : Heap) (tk : Nat) (vs : List Value), (∀ b o, s.heap.get? b = some o → h'.get? b = some o) → vs.length = es.size → (∀ j v, vs[j]? = some v → ∃ hi : j < es.size, v = es[j].key) →
      wpAny (model prog w) A.in1 (call (.builtin "list.sort") [.ref h'.objs.size]) (fun _ s' => Q (.ref h'.objs.size) s') E { s with heap := h'.push (seqObj "list" vs.toArray 0), toks := tk }) :
    wpAny (model prog w) A (call (.builtin "sorted") [.ref d]) Q E s := by
  refine Calls.call_function_entry PyProof.Rows.kind_sorted PyProof.Rows.plain_sorted PyProof.Rows.entry_sorted (PyProof.Rows.args_sorted1 _) ?_
  unfold Builtin.«sorted»
  refine wpAny_bind (m := checkCount "sorted" 1 1 _) (wpAny_pure ?_)
  refine wpAny_bind (PySem.W.kdu_collect (A := A.in1) (kdl_raw lo) hh hm hn fun h' tk acc hk hacc => ?_)
  have hl : acc.toList.length = es.size := by rw [Array.length_toList, hacc.1]
  refine wpAny_bind (wpAny_newList ?_ (by rw [hl]; exact hn))
  have hg := h h' tk acc.toList hk hl fun j v e => hacc.2 j v (by rw [← Array.getElem?_toList]; exact e)
  refine wpAny_bind (wpAny_holding (wpAny_mono hg (fun _ s' x => ?_) fun _ _ e => e))
  exact wpAny_pure ⟨_, rfl, x⟩
end
def sortT : List Vw → Option Rv
  | [.t kvs] => if alB (kvs.map fun q => .tuple (q.1.map .int)) && (kvs.map fun q : List Int × PyData => PyData.tuple (q.1.map .int)).all tup1 && decide (kvs.length ≤ 100000) then some (.lst (sortL (kvs.map fun q => .tuple (q.1.map .int)))) else none
  | vs => sortD vs
theorem dd_ints {B : Hp} : ∀ ns : List Int, DDs B (ns.map V.int) (ns.map PyData.int)
  | [] => .nil
  | n :: ns => .cons (.int n) (dd_ints ns)
theorem each_keys {X : Cx} {B H : Hp} {pins : List (Addr × Obj)} {σ : L2.St} {s : Shared} (I : Inv X pins σ H s) (sB : Same B H) : ∀ {xs : List (List Int × Addr × Value)} {kvs : List (List Int × PyData)}, TIs B xs kvs →
    PySem.W.EachIs (fun v d => ∃ y, RelV y v ∧ DD B y d) (xs.map fun x => Value.ref x.2.1) (kvs.map fun q => PyData.tuple (q.1.map .int)) ∧ PySem.W.EachIs (fun v d => ∃ as, Reads s.heap v d as) (xs.map fun x => Value.ref x.2.1) (kvs.map fun q => PyData.tuple (q.1.map .int))
  | _, _, .nil => ⟨.nil, .nil⟩
  | _, _, .cons (a := x) (b := q) ⟨e, pl, _⟩ r => by
    obtain ⟨h1, h2⟩ := each_keys I sB r
    have dd : DD B (.ref x.2.1) (.tuple (q.1.map .int)) := .tup (by rw [← e]; exact pl) (dd_ints _)
    exact ⟨.cons ⟨.ref x.2.1, rfl, dd⟩ h1, .cons (Dp.reads I _ _ _ (dp_mono sB dd.dp) rfl) h2⟩
theorem cs_sortT {S : Sg} : CallS S (.builtin "sorted") sortT := by
  rintro c hc pins s σ H xs us Q I rv ⟨B, as, r, sB, ov, e, k⟩
  unfold sortT at e
  split at e
  · rename_i kvs
    split at e
    · rename_i hc1
      cases e
      simp only [Bool.and_eq_true, decide_eq_true_eq] at hc1
      obtain ⟨⟨h1, h2⟩, h4⟩ := hc1
      obtain ⟨v, rfl, q⟩ := ovs1 ov
      obtain ⟨a, ys, rfl, td⟩ := q
      rw [Vals.ref1 rv]
      obtain ⟨o, es, ep, ho, hx, hdat, hes⟩ := (show ObjOk S.g.P S.g.w H s.heap a (dictI a ys) from I.hok a _ td.here).1
      have hsz : es.size = ys.length := by rw [← Array.length_toList, hes, List.length_map]
      have hyk : ys.length = kvs.length := Paired.length td.are
      have raw : s.heap.DictRaw a es ep := ⟨o, ho, hx, hdat⟩
      obtain ⟨q1, _⟩ := each_keys I sB td.are
      refine sorted_raw (I.ok.hd hc.calm) td.big raw (by rw [hsz]; exact td.few) fun h' tk vs hk hl hv => ?_
      have ev : vs = ys.map fun x => Value.ref x.2.1 := by
        refine List.ext_getElem? fun j => ?_
        by_cases hj : j < vs.length
        · obtain ⟨hi, e1⟩ := hv j _ (List.getElem?_eq_getElem hj)
          have hy : j < ys.length := by rw [← hsz]; exact hi
          have e2 : es.toList[j]? = some (entI ys[j]) := by rw [hes, List.getElem?_map, List.getElem?_eq_getElem hy]; rfl
          rw [Array.getElem?_toList, Array.getElem?_eq_getElem hi] at e2
          have e3 := Option.some.inj e2
          rw [List.getElem?_eq_getElem hj, e1, e3, List.getElem?_map, List.getElem?_eq_getElem hy]
          rfl
        · rw [List.getElem?_eq_none (by omega), List.getElem?_eq_none (by rw [List.length_map]; omega)]
      have I1 : Inv (S.g.cx c) pins σ H { s with heap := h', toks := tk } := I.kept hk
      obtain ⟨_, q2⟩ := each_keys I1 sB td.are
      rw [← ev] at q1 q2
      have hlen : (kvs.map fun q : List Int × PyData => PyData.tuple (q.1.map .int)).length ≤ sizeLine := by rw [List.length_map, sizeLine_eq]; omega
      have hoL : (h'.push (seqObj "list" vs.toArray 0)).get? h'.objs.size = some (seqObj "list" vs.toArray 0) := Heap.get?_push_size _ rfl
      have kb : ∀ b o, h'.get? b = some o → (h'.push (seqObj "list" vs.toArray 0)).get? b = some o := fun b o e => Heap.get?_push_of_some _ e
      refine PySem.W.list_sort_data (s := { s with heap := h'.push (seqObj "list" vs.toArray 0), toks := tk }) (bs := kvs.map fun q => PyData.tuple (q.1.map .int)) (R := fun v d => ∃ y, RelV y v ∧ DD B y d) (enc := id) hoL q1 (q2.mono fun v d ⟨as, r⟩ => ⟨as, PyProof.Rows.Reads.keeps kb r, fun m => Nat.lt_irrefl _ (reads_lt r _ m)⟩) (fun d m d' m' => ?_) (.inl fun d m => ?_) hlen (fun b hb => ?_) fun out o1 o2 => ?_
      · rw [List.map_id] at m m'
        exact List.all_eq_true.mp (List.all_eq_true.mp h1 d m) d' m'
      · rw [List.map_id] at m
        have := List.all_eq_true.mp h2 d m
        cases d with
        | tuple l =>
          cases l with
          | nil => cases this
          | cons x r => exact ⟨x, r, rfl⟩
        | _ => cases this
      · obtain ⟨q, _, rfl⟩ := List.mem_map.mp hb
        have hd : ∀ ns : List Int, PyData.depthAll (ns.map PyData.int) = 0 := by
          intro ns
          induction ns with
          | nil => rfl
          | cons n ns ih => show max _ (PyData.depthAll (ns.map PyData.int)) = 0; rw [ih]; rfl
        have hu := hc.room.un
        have : (PyData.tuple (q.1.map PyData.int)).depth ≤ 1 := by
          simp only [PyData.depth, hd]; omega
        show c.A.units + 1 + 1 + (PyData.tuple (q.1.map PyData.int)).depth < cLine
        omega
      · obtain ⟨zs, v1, v2⟩ := each_back o2
        obtain ⟨e', he'⟩ := PyProof.Rows.sortedHeap_at (vs := vs) (out := List.toArray out) hoL
        have hl2 : zs.length ≤ sizeLine := by rw [v2.length, List.length_mergeSort]; exact hlen
        refine ⟨.ref h'.objs.size, upd H h'.objs.size (.lst zs), I1.laid (t' := tk) (fun b u e => ?_) (Nat.le_refl _) ⟨hl2, out, e', v1, he'⟩, rfl, k _ zs (I1.hok.fresh (Nat.le_refl _)) v2⟩
        have hb : b < h'.objs.size := Heap.lt_size e
        rw [PyProof.Rows.sortedHeap_old (Nat.ne_of_lt hb) (Heap.lt_size (kb b u e))]
        exact kb b u e
    · cases e
  · exact cs_sortD c hc pins s σ H xs us Q I rv ⟨B, _, r, sB, ov, e, k⟩
end DL
set_option Elab.async false
set_option linter.all false
set_option maxRecDepth 100000
set_option maxHeartbeats 1000000
set_option autoImplicit false
namespace DL
open PySem PySem.Spec PyProof.Rows L2
end DL
set_option Elab.async false
set_option linter.all false
set_option maxRecDepth 100000
set_option maxHeartbeats 1000000
set_option autoImplicit false
namespace DL
open PySem PySem.Spec PyProof.Rows L2
def firstD : PyData → PyData
  | .tuple (x :: _) => x
  | _ => .none
def apB : List PyData → Bool
  | [] => true
  | d :: ds => ds.all (fun e => !PyData.eqv (firstD d) (firstD e) && !PyData.eqv (firstD e) (firstD d)) && apB ds
section
open PySem.W
/-- the first item of a value's datum, by its place -/
noncomputable def fsKind (vs : List Value) (ds : List PyData) : PyProof.Rows.KeyKind where
  toKeyOrd := listOrd itemOrd
  keyOf v := open Classical in if q : ∃ d, (v, d) ∈ vs.zip ds then some (keyToks (firstD q.choose)) else none
  dflt := ([] : List (Int ⊕ List Nat))
structure Fs (h : Heap) (vs : List Value) (ds : List PyData) : Prop where
  e : EachIs (fun v d => ∃ as, Reads h v d as) vs ds
  t : ∀ d ∈ ds, tup1 d = true
  al : ∀ d ∈ ds, ∀ d' ∈ ds, alike (firstD d) (firstD d') = true
  ap : apB ds = true
theorem tup1_of {d : PyData} (h : tup1 d = true) : ∃ x r, d = .tuple (x :: r) := by
  cases d with
  | tuple l =>
    cases l with
    | nil => cases h
    | cons x r => exact ⟨x, r, rfl⟩
  | _ => cases h
theorem Fs.one {h : Heap} {vs : List Value} {ds : List PyData} (F : Fs h vs ds) {v : Value} {d d' : PyData} (m : (v, d) ∈ vs.zip ds) (m' : (v, d') ∈ vs.zip ds) : firstD d = firstD d' := by
  obtain ⟨_, r⟩ := F.e.zip _ m
  obtain ⟨_, r'⟩ := F.e.zip _ m'
  have md := (List.of_mem_zip m).2
  have md' := (List.of_mem_zip m').2
  have ha := F.al d md d' md'
  obtain ⟨x, q, rfl⟩ := tup1_of (F.t d md)
  obtain ⟨x', q', rfl⟩ := tup1_of (F.t d' md')
  cases r with
  | @tuple a o xs n _ _ h1 h2 h3 h4 =>
    cases r' with
    | @tuple _ o' xs' n' _ _ k1 k2 k3 k4 =>
      have h1 : h.get? a = some o := h1
      have k1 : h.get? a = some o' := k1
      rw [h1] at k1
      cases k1
      rw [h3] at k3
      cases k3
      generalize xs.toList = l at h4 k4
      cases h4 with
      | cons a1 _ =>
        cases k4 with
        | cons b1 _ => exact alike_unique x x' _ _ _ ha a1 b1
theorem Fs.key {h : Heap} {vs : List Value} {ds : List PyData} (F : Fs h vs ds) {v : Value} {d : PyData} (m : (v, d) ∈ vs.zip ds) : (fsKind vs ds).keyOf v = some (keyToks (firstD d)) := by
  have q : ∃ d, (v, d) ∈ vs.zip ds := ⟨d, m⟩
  show (open Classical in if q : ∃ d, (v, d) ∈ vs.zip ds then some (keyToks (firstD q.choose)) else none) = _
  rw [dif_pos q, F.one q.choose_spec m]
end
end DL
set_option Elab.async false
set_option linter.all false
set_option maxRecDepth 100000
set_option maxHeartbeats 1000000
set_option autoImplicit false
namespace DL
open PySem PySem.Spec PyProof.Rows L2
end DL
set_option Elab.async false
set_option linter.all false
set_option maxRecDepth 100000
set_option maxHeartbeats 1000000
set_option autoImplicit false
namespace DL
open PySem PySem.Spec PyProof.Rows L2
def smp (c : Nat) : Bool := decide (32 ≤ c) && decide (c ≤ 126) && !decide (c = 34) && !decide (c = 39) && !decide (c = 92)
mutual
def plainD : PyData → Bool
  | .none => true
  | .bool _ => true
  | .int _ => true
  | .str x => x.cps.toList.all smp
  | .list xs => plainDs xs
  | .tuple xs => plainDs xs
  | .dict _ => false
def plainDs : List PyData → Bool
  | [] => true
  | x :: xs => plainD x && plainDs xs
end
mutual
def tx : PyData → List Nat
  | .none => [78, 111, 110, 101]
  | .bool b => if b = true then [84, 114, 117, 101] else [70, 97, 108, 115, 101]
  | .int i => (toString i).toList.map Char.toNat
  | .str x => 39 :: (x.cps.toList ++ [39])
  | .list xs => 91 :: (txs xs ++ [93])
  | .tuple xs => 40 :: (txs xs ++ (if xs.length = 1 then [44, 41] else [41]))
  | .dict _ => []
def txs : List PyData → List Nat
  | [] => []
  | x :: xs => tx x ++ txr xs
def txr : List PyData → List Nat
  | [] => []
  | x :: xs => 44 :: 32 :: (tx x ++ txr xs)
end
theorem plain_all {xs : List PyData} : plainDs xs = true ↔ ∀ x ∈ xs, plainD x = true := by
  induction xs with
  | nil => simp [plainDs]
  | cons x xs ih => simp [plainDs, ih]
theorem print_tab : (List.range 127).all (fun c => !smp c || Unicode.isPrintable c) = true := by decide +kernel
theorem rchar {c : Nat} (h : smp c = true) : Builtin.Str.reprChar 39 c = [c] := by
  have h0 := h
  simp only [smp, Bool.and_eq_true, decide_eq_true_eq, Bool.not_eq_true', decide_eq_false_iff_not] at h
  obtain ⟨⟨⟨⟨h1, h2⟩, h3⟩, h4⟩, h5⟩ := h
  have hp := List.all_eq_true.mp print_tab c (List.mem_range.mpr (by omega))
  rw [h0] at hp
  have hp : Unicode.isPrintable c = true := by simpa using hp
  unfold Builtin.Str.reprChar
  have e1 : (c == 39 || c == 92) = false := by simp [h4, h5]
  have e2 : (c == 10) = false := by simp; omega
  have e3 : (c == 13) = false := by simp; omega
  have e4 : (c == 9) = false := by simp; omega
  simp only [e1, e2, e3, e4, hp, Bool.false_eq_true, if_false, if_true]
theorem rfold : ∀ (l : List Nat) (acc : Array Nat), l.all smp = true → (l.foldl (fun out c => out ++ (Builtin.Str.reprChar 39 c).toArray) acc).toList = acc.toList ++ l
  | [], acc, _ => by simp
  | c :: l, acc, h => by
    rw [List.all_cons, Bool.and_eq_true] at h
    rw [List.foldl_cons, rfold l _ h.2, rchar h.1]
    simp
theorem rtext {x : Str} (h : x.cps.toList.all smp = true) : (reprText x).cps.toList = 39 :: (x.cps.toList ++ [39]) := by
  have q : reprQuote x = 39 := by
    unfold reprQuote
    have : x.cps.contains 39 = false := by
      rw [← Array.contains_toList]
      rw [Bool.eq_false_iff]
      intro c
      rw [List.contains_iff_mem] at c
      have := List.all_eq_true.mp h 39 c
      revert this; decide
    rw [this]; rfl
  unfold reprText
  rw [q]
  show ((x.cps.foldl _ #[39]).push 39).toList = _
  rw [Array.toList_push, ← Array.foldl_toList, rfold _ _ h]
  rfl
theorem join_tx : ∀ {xs : List PyData}, (∀ x ∈ xs, x.shown.cps.toList = tx x) → (Str.join ", " (PyData.shownAll xs)).cps.toList = txs xs
  | [], _ => rfl
  | [x], h => by
    show (Str.join ", " [x.shown]).cps.toList = _
    rw [join_one, h x (List.mem_cons_self ..)]
    simp [txs, txr]
  | x :: y :: xs, h => by
    have ih := join_tx (xs := y :: xs) fun z m => h z (List.mem_cons_of_mem _ m)
    show (Str.join ", " (x.shown :: y.shown :: PyData.shownAll xs)).cps.toList = _
    have ih : (Str.join ", " (y.shown :: PyData.shownAll xs)).cps.toList = txs (y :: xs) := ih
    rw [join_cons_cons, cps_toList_append, cps_toList_append, ih, h x (List.mem_cons_self ..)]
    simp only [txs, txr, List.append_assoc]
    rfl
theorem list_tx {xs : List PyData} (h : ∀ x ∈ xs, x.shown.cps.toList = tx x) : (listText (PyData.shownAll xs)).cps.toList = 91 :: (txs xs ++ [93]) := by
  cases xs with
  | nil => decide +kernel
  | cons x xs =>
    unfold listText
    rw [cps_toList_append]
    show (textFrom 0 "[" (x.shown :: PyData.shownAll xs)).cps.toList ++ _ = _
    show (textFrom 1 (Str.ofString "[" ++ Str.ofString "" ++ x.shown) (PyData.shownAll xs)).cps.toList ++ _ = _
    rw [textFrom_pos _ 1 _ _ (by decide)]
    rw [cps_toList_append]
    have := join_tx (xs := x :: xs) h
    have this : (Str.join ", " (x.shown :: PyData.shownAll xs)).cps.toList = txs (x :: xs) := this
    rw [this]
    have e : (Str.ofString "[" ++ Str.ofString "").cps.toList = [91] := by decide +kernel
    rw [e]
    rfl
theorem tuple_tx {xs : List PyData} (h : ∀ x ∈ xs, x.shown.cps.toList = tx x) : (tupleText (PyData.shownAll xs)).cps.toList = 40 :: (txs xs ++ (if xs.length = 1 then [44, 41] else [41])) := by
  unfold tupleText
  rw [cps_toList_append, cps_toList_append, join_tx h, PyData.shownAll_length]
  by_cases c : xs.length = 1
  · rw [if_pos c, c]; rfl
  · rw [if_neg c, show (xs.length == 1) = false by simpa using c]; rfl
mutual
theorem shown_tx : ∀ d : PyData, plainD d = true → d.shown.cps.toList = tx d
  | .none, _ => by decide +kernel
  | .bool true, _ => by decide +kernel
  | .bool false, _ => by decide +kernel
  | .int i, _ => by simp only [PyData.shown, tx]; exact signs_ofString _
  | .str x, h => by simp only [PyData.shown, tx]; exact rtext (by simpa only [plainD] using h)
  | .list xs, h => by simp only [PyData.shown, tx]; exact list_tx (shown_txs xs (by simpa only [plainD] using h))
  | .tuple xs, h => by simp only [PyData.shown, tx]; exact tuple_tx (shown_txs xs (by simpa only [plainD] using h))
  | .dict _, h => by simp [plainD] at h
theorem shown_txs : ∀ xs : List PyData, plainDs xs = true → ∀ x ∈ xs, x.shown.cps.toList = tx x
  | [], _, _, m => by cases m
  | x :: xs, h, y, m => by
    simp only [plainDs, Bool.and_eq_true] at h
    rcases List.mem_cons.mp m with e | m
    · rw [e]; exact shown_tx x h.1
    · exact shown_txs xs h.2 y m
end
theorem dig_inj {a b : Nat} (ha : a < 10) (hb : b < 10) (h : a.digitChar = b.digitChar) : a = b := by
  have h1 := Nat.toNat_digitChar_sub_48_of_lt_ten ha
  have h2 := Nat.toNat_digitChar_sub_48_of_lt_ten hb
  rw [h] at h1
  omega
theorem digs_inj : ∀ (n m k : Nat), n < k → Nat.toDigits 10 n = Nat.toDigits 10 m → n = m
  | _, _, 0, h, _ => absurd h (Nat.not_lt_zero _)
  | n, m, k + 1, hk, h => by
    rw [Nat.toDigits_eq_if (by decide) (n := n), Nat.toDigits_eq_if (by decide) (n := m)] at h
    have ne : ∀ x : Nat, Nat.toDigits 10 x ≠ [] := fun _ => Nat.toDigits_ne_nil
    by_cases c1 : n < 10 <;> by_cases c2 : m < 10
    · rw [if_pos c1, if_pos c2] at h
      exact dig_inj c1 c2 (List.cons.inj h).1
    · rw [if_pos c1, if_neg c2] at h
      have := congrArg List.length h
      rw [List.length_append] at this
      have := List.length_pos_iff.mpr (ne (m / 10))
      simp at *
    · rw [if_neg c1, if_pos c2] at h
      have := congrArg List.length h
      rw [List.length_append] at this
      have := List.length_pos_iff.mpr (ne (n / 10))
      simp at *
    · rw [if_neg c1, if_neg c2] at h
      obtain ⟨h1, h2⟩ := List.append_inj' h rfl
      have e1 := digs_inj (n / 10) (m / 10) k (by omega) h1
      have e2 := dig_inj (Nat.mod_lt _ (by decide)) (Nat.mod_lt _ (by decide)) (List.cons.inj h2).1
      omega
theorem repr_inj {n m : Nat} (h : n.repr.toList = m.repr.toList) : n = m := by
  rw [Nat.toList_repr, Nat.toList_repr] at h
  exact digs_inj n m (n + 1) (Nat.lt_succ_self _) h
theorem int_inj {i j : Int} (h : (toString i).toList = (toString j).toList) : i = j := by
  have nd : ∀ n : Nat, ∀ c ∈ n.repr.toList, c ≠ '-' := fun n c m e => by
    rw [Nat.toList_repr] at m
    have := Nat.isDigit_of_mem_toDigits (by decide) (by decide) m
    rw [e] at this; revert this; decide
  rw [Int.toString_eq_repr, Int.toString_eq_repr, Int.repr_eq_if, Int.repr_eq_if] at h
  split at h <;> split at h
  · have := repr_inj h; omega
  · rw [String.toList_append] at h
    exact absurd rfl (nd _ '-' (by rw [h]; exact List.mem_append_left _ (by decide)))
  · rw [String.toList_append] at h
    exact absurd rfl (nd _ '-' (by rw [← h]; exact List.mem_append_left _ (by decide)))
  · rw [String.toList_append, String.toList_append] at h
    have := repr_inj (List.append_cancel_left h)
    omega
theorem nat_char_inj {a b : List Char} (h : a.map Char.toNat = b.map Char.toNat) : a = b := by
  induction a generalizing b with
  | nil => cases b with
    | nil => rfl
    | cons _ _ => cases h
  | cons x a ih => cases b with
    | nil => cases h
    | cons y b =>
      rw [List.map_cons, List.map_cons, List.cons.injEq] at h
      rw [ih h.2, Char.toNat_inj.mp h.1]
def digC (c : Nat) : Prop := c = 45 ∨ (48 ≤ c ∧ c ≤ 57)
theorem int_tx (i : Int) : ∃ c s, tx (.int i) = c :: s ∧ ∀ x ∈ c :: s, digC x := by
  have hne : (toString i).toList ≠ [] := by
    rw [Int.toString_eq_repr, Int.repr_eq_if]
    split
    · rw [Nat.toList_repr]; exact Nat.toDigits_ne_nil
    · rw [String.toList_append]; simp
  have hd : ∀ x ∈ tx (.int i), digC x := fun x m => by
    simp only [tx] at m
    obtain ⟨ch, hc, rfl⟩ := List.mem_map.mp m
    rcases int_sign i ch hc with h | h
    · exact .inr (digit_range h)
    · rw [h]; exact .inl (by decide)
  cases e : tx (.int i) with
  | nil => simp only [tx] at e; exact absurd (List.map_eq_nil_iff.mp e) hne
  | cons c s => rw [e] at hd; exact ⟨c, s, rfl, hd⟩
def tm (r : List Nat) : Prop := r = [] ∨ ∃ c s, r = c :: s ∧ (c = 44 ∨ c = 41 ∨ c = 93)
theorem dig_app : ∀ {a b r r' : List Nat}, (∀ x ∈ a, digC x) → (∀ x ∈ b, digC x) → tm r → tm r' → a ++ r = b ++ r' → a = b ∧ r = r'
  | [], [], _, _, _, _, _, _, e => ⟨rfl, e⟩
  | [], y :: b, r, r', _, hb, hr, _, e => by
    have hy := hb y (List.mem_cons_self ..)
    rw [List.nil_append, List.cons_append] at e
    rcases hr with h | ⟨c, s, h, hc⟩
    · rw [h] at e; cases e
    · rw [h] at e
      have := (List.cons.inj e).1
      unfold digC at hy
      omega
  | x :: a, [], r, r', ha, _, _, hr, e => by
    have hy := ha x (List.mem_cons_self ..)
    rw [List.nil_append, List.cons_append] at e
    rcases hr with h | ⟨c, s, h, hc⟩
    · rw [h] at e; cases e
    · rw [h] at e
      have := (List.cons.inj e).1
      unfold digC at hy
      omega
  | x :: a, y :: b, r, r', ha, hb, hr, hr', e => by
    rw [List.cons_append, List.cons_append] at e
    obtain ⟨e1, e2⟩ := List.cons.inj e
    obtain ⟨h1, h2⟩ := dig_app (fun z m => ha z (List.mem_cons_of_mem _ m)) (fun z m => hb z (List.mem_cons_of_mem _ m)) hr hr' e2
    exact ⟨by rw [e1, h1], h2⟩
theorem q_app : ∀ {a b r r' : List Nat}, a.all smp = true → b.all smp = true → a ++ 39 :: r = b ++ 39 :: r' → a = b ∧ r = r'
  | [], [], _, _, _, _, e => ⟨rfl, (List.cons.inj e).2⟩
  | [], y :: b, r, r', _, hb, e => by
    rw [List.all_cons, Bool.and_eq_true] at hb
    rw [List.nil_append, List.cons_append] at e
    have := (List.cons.inj e).1
    rw [← this] at hb
    exact absurd hb.1 (by decide)
  | x :: a, [], r, r', ha, _, e => by
    rw [List.all_cons, Bool.and_eq_true] at ha
    rw [List.nil_append, List.cons_append] at e
    have := (List.cons.inj e).1
    rw [this] at ha
    exact absurd ha.1 (by decide)
  | x :: a, y :: b, r, r', ha, hb, e => by
    rw [List.all_cons, Bool.and_eq_true] at ha hb
    rw [List.cons_append, List.cons_append] at e
    obtain ⟨e1, e2⟩ := List.cons.inj e
    obtain ⟨h1, h2⟩ := q_app ha.2 hb.2 e2
    exact ⟨by rw [e1, h1], h2⟩
/-- the first sign of a text -/
def kind1 : PyData → Nat → Prop
  | .none, c => c = 78
  | .bool true, c => c = 84
  | .bool false, c => c = 70
  | .int _, c => digC c
  | .str _, c => c = 39
  | .list _, c => c = 91
  | .tuple _, c => c = 40
  | .dict _, _ => False
theorem head1 : ∀ d : PyData, plainD d = true → ∃ c s, tx d = c :: s ∧ kind1 d c
  | .none, _ => ⟨_, _, rfl, rfl⟩
  | .bool true, _ => ⟨84, _, rfl, rfl⟩
  | .bool false, _ => ⟨70, _, rfl, rfl⟩
  | .int i, _ => by
    obtain ⟨c, s, e, h⟩ := int_tx i
    exact ⟨c, s, e, h c (List.mem_cons_self ..)⟩
  | .str x, _ => ⟨39, _, by simp only [tx]; rfl, rfl⟩
  | .list xs, _ => ⟨91, _, by simp only [tx]; rfl, rfl⟩
  | .tuple xs, _ => ⟨40, _, by simp only [tx]; rfl, rfl⟩
  | .dict _, h => by simp [plainD] at h
theorem kind_no {d : PyData} {c : Nat} (h : kind1 d c) : c ≠ 44 ∧ c ≠ 41 ∧ c ≠ 93 ∧ c ≠ 32 := by
  cases d with
  | bool b => cases b <;> (have h : c = _ := h; omega)
  | int i => unfold kind1 digC at h; omega
  | dict _ => exact h.elim
  | _ => (have h : c = _ := h; omega)
def cl (r : List Nat) : Prop := ∃ c s, r = c :: s ∧ (c = 41 ∨ c = 93 ∨ (c = 44 ∧ ∃ t, s = 41 :: t))
theorem cl.tm {r : List Nat} (h : cl r) : tm r := by
  obtain ⟨c, s, e, h | h | ⟨h, _⟩⟩ := h
  · exact .inr ⟨c, s, e, .inr (.inl h)⟩
  · exact .inr ⟨c, s, e, .inr (.inr h)⟩
  · exact .inr ⟨c, s, e, .inl h⟩
theorem txr_tm (xs : List PyData) {r : List Nat} (h : tm r) : tm (txr xs ++ r) := by
  cases xs with
  | nil => simp only [txr]; exact h
  | cons x xs => simp only [txr]; exact .inr ⟨44, _, rfl, .inl rfl⟩
theorem cl_tuple {n : Nat} {r : List Nat} : cl ((if n = 1 then [44, 41] else [41]) ++ r) := by
  split
  · exact ⟨44, _, rfl, .inr (.inr ⟨rfl, _, rfl⟩)⟩
  · exact ⟨41, _, rfl, .inl rfl⟩
mutual
theorem tx_one : ∀ (d e : PyData) (r r' : List Nat), plainD d = true → plainD e = true → tm r → tm r' → tx d ++ r = tx e ++ r' → d = e ∧ r = r'
  | d, e, r, r', hd, he, hr, hr', h => by
    obtain ⟨c, s, ec, hc⟩ := head1 d hd
    obtain ⟨c', s', ec', hc'⟩ := head1 e he
    have hcc : c = c' := by
      rw [ec, ec', List.cons_append, List.cons_append] at h
      exact (List.cons.inj h).1
    subst hcc
    match d, e with
    | .none, .none => exact ⟨rfl, List.append_cancel_left h⟩
    | .bool true, .bool true => exact ⟨rfl, List.append_cancel_left h⟩
    | .bool false, .bool false => exact ⟨rfl, List.append_cancel_left h⟩
    | .int i, .int j =>
      obtain ⟨_, _, e1, d1⟩ := int_tx i
      obtain ⟨_, _, e2, d2⟩ := int_tx j
      obtain ⟨h1, h2⟩ := dig_app (by rw [e1]; exact d1) (by rw [e2]; exact d2) hr hr' h
      simp only [tx] at h1
      exact ⟨by rw [int_inj (nat_char_inj h1)], h2⟩
    | .str x, .str y =>
      simp only [tx, List.cons_append, List.append_assoc, List.nil_append] at h
      obtain ⟨h1, h2⟩ := q_app (by simpa only [plainD] using hd) (by simpa only [plainD] using he) (List.cons.inj h).2
      refine ⟨?_, h2⟩
      obtain ⟨⟨x⟩⟩ := x
      obtain ⟨⟨y⟩⟩ := y
      have h1 : x = y := h1
      rw [h1]
    | .list xs, .list ys =>
      simp only [tx, List.cons_append, List.append_assoc, List.nil_append] at h
      obtain ⟨h1, h2⟩ := txs_one xs ys _ _ (by simpa only [plainD] using hd) (by simpa only [plainD] using he) ⟨93, _, rfl, .inr (.inl rfl)⟩ ⟨93, _, rfl, .inr (.inl rfl)⟩ (List.cons.inj h).2
      exact ⟨by rw [h1], (List.cons.inj h2).2⟩
    | .tuple xs, .tuple ys =>
      simp only [tx, List.cons_append, List.append_assoc] at h
      obtain ⟨h1, h2⟩ := txs_one xs ys _ _ (by simpa only [plainD] using hd) (by simpa only [plainD] using he) cl_tuple cl_tuple (List.cons.inj h).2
      rw [h1] at h2
      exact ⟨by rw [h1], List.append_cancel_left h2⟩
    | .none, .bool true | .none, .bool false | .none, .int _ | .none, .str _ | .none, .list _ | .none, .tuple _ => exact absurd hc' (by have h : c = 78 := hc; subst h; unfold kind1; first | decide | (unfold digC; omega))
    | .bool true, .none | .bool true, .bool false | .bool true, .int _ | .bool true, .str _ | .bool true, .list _ | .bool true, .tuple _ => exact absurd hc' (by have h : c = 84 := hc; subst h; unfold kind1; first | decide | (unfold digC; omega))
    | .bool false, .none | .bool false, .bool true | .bool false, .int _ | .bool false, .str _ | .bool false, .list _ | .bool false, .tuple _ => exact absurd hc' (by have h : c = 70 := hc; subst h; unfold kind1; first | decide | (unfold digC; omega))
    | .int _, .none | .int _, .bool true | .int _, .bool false | .int _, .str _ | .int _, .list _ | .int _, .tuple _ => exact absurd hc (by have h := hc'; unfold kind1 at h ⊢; unfold digC; omega)
    | .str _, .none | .str _, .bool true | .str _, .bool false | .str _, .int _ | .str _, .list _ | .str _, .tuple _ => exact absurd hc' (by have h : c = 39 := hc; subst h; unfold kind1; first | decide | (unfold digC; omega))
    | .list _, .none | .list _, .bool true | .list _, .bool false | .list _, .int _ | .list _, .str _ | .list _, .tuple _ => exact absurd hc' (by have h : c = 91 := hc; subst h; unfold kind1; first | decide | (unfold digC; omega))
    | .tuple _, .none | .tuple _, .bool true | .tuple _, .bool false | .tuple _, .int _ | .tuple _, .str _ | .tuple _, .list _ => exact absurd hc' (by have h : c = 40 := hc; subst h; unfold kind1; first | decide | (unfold digC; omega))
    | .dict _, _ => exact hc.elim
    | _, .dict _ => exact hc'.elim
theorem txs_one : ∀ (xs ys : List PyData) (r r' : List Nat), plainDs xs = true → plainDs ys = true → cl r → cl r' → txs xs ++ r = txs ys ++ r' → xs = ys ∧ r = r'
  | [], [], r, r', _, _, _, _, h => ⟨rfl, by simpa only [txs, List.nil_append] using h⟩
  | [], y :: ys, r, r', _, hy, hr, _, h => by
    simp only [plainDs, Bool.and_eq_true] at hy
    obtain ⟨c, s, ec, hc⟩ := head1 y hy.1
    obtain ⟨c', s', e, h'⟩ := hr
    simp only [txs, List.nil_append] at h
    rw [ec, e] at h
    have := (List.cons.inj h).1
    have := kind_no hc
    omega
  | x :: xs, [], r, r', hx, _, _, hr, h => by
    simp only [plainDs, Bool.and_eq_true] at hx
    obtain ⟨c, s, ec, hc⟩ := head1 x hx.1
    obtain ⟨c', s', e, h'⟩ := hr
    simp only [txs, List.nil_append] at h
    rw [ec, e] at h
    have := (List.cons.inj h).1
    have := kind_no hc
    omega
  | x :: xs, y :: ys, r, r', hx, hy, hr, hr', h => by
    simp only [plainDs, Bool.and_eq_true] at hx hy
    simp only [txs, List.append_assoc] at h
    obtain ⟨h1, h2⟩ := tx_one x y _ _ hx.1 hy.1 (txr_tm xs hr.tm) (txr_tm ys hr'.tm) h
    obtain ⟨h3, h4⟩ := txr_one xs ys r r' hx.2 hy.2 hr hr' h2
    exact ⟨by rw [h1, h3], h4⟩
theorem txr_one : ∀ (xs ys : List PyData) (r r' : List Nat), plainDs xs = true → plainDs ys = true → cl r → cl r' → txr xs ++ r = txr ys ++ r' → xs = ys ∧ r = r'
  | [], [], r, r', _, _, _, _, h => ⟨rfl, by simpa only [txr, List.nil_append] using h⟩
  | [], y :: ys, r, r', _, hy, hr, _, h => by
    obtain ⟨c', s', e, h'⟩ := hr
    simp only [txr, List.nil_append, List.cons_append] at h
    rw [e] at h
    obtain ⟨g1, g2⟩ := List.cons.inj h
    rcases h' with h' | h' | ⟨_, t, h'⟩
    · omega
    · omega
    · rw [h'] at g2
      have := (List.cons.inj g2).1
      omega
  | x :: xs, [], r, r', hx, _, _, hr, h => by
    obtain ⟨c', s', e, h'⟩ := hr
    simp only [txr, List.nil_append, List.cons_append] at h
    rw [e] at h
    obtain ⟨g1, g2⟩ := List.cons.inj h
    rcases h' with h' | h' | ⟨_, t, h'⟩
    · omega
    · omega
    · rw [h'] at g2
      have := (List.cons.inj g2).1
      omega
  | x :: xs, y :: ys, r, r', hx, hy, hr, hr', h => by
    simp only [plainDs, Bool.and_eq_true] at hx hy
    simp only [txr, List.cons_append, List.append_assoc] at h
    obtain ⟨h1, h2⟩ := tx_one x y _ _ hx.1 hy.1 (txr_tm xs hr.tm) (txr_tm ys hr'.tm) (List.cons.inj (List.cons.inj h).2).2
    obtain ⟨h3, h4⟩ := txr_one xs ys r r' hx.2 hy.2 hr hr' h2
    exact ⟨by rw [h1, h3], h4⟩
end
theorem shown_inj {d e : PyData} (hd : plainD d = true) (he : plainD e = true) (h : d.shown = e.shown) : d = e := by
  have h := congrArg (fun s : Str => s.cps.toList) h
  have h : d.shown.cps.toList = e.shown.cps.toList := h
  rw [shown_tx d hd, shown_tx e he] at h
  exact (tx_one d e [] [] hd he (.inl rfl) (.inl rfl) (by rw [h])).1
end DL
set_option Elab.async false
set_option linter.all false
set_option maxRecDepth 100000
set_option maxHeartbeats 1000000
set_option autoImplicit false
namespace DL
open PySem PySem.Spec PyProof.Rows L2
end DL
set_option Elab.async false
set_option linter.all false
set_option maxRecDepth 100000
set_option maxHeartbeats 4000000
set_option autoImplicit false
namespace DL
open PySem PySem.Spec PyProof.Rows L2
end DL
set_option Elab.async false
set_option linter.all false
set_option maxRecDepth 100000
set_option maxHeartbeats 1000000
set_option autoImplicit false
namespace DL
open PySem PySem.Spec PyProof.Rows L2 LamX
end DL
set_option Elab.async false
set_option linter.all false
set_option maxRecDepth 100000
set_option maxHeartbeats 1000000
set_option autoImplicit false
namespace DL
open PySem PySem.Spec PyProof.Rows L2
end DL
set_option Elab.async false
set_option linter.all false
set_option maxRecDepth 100000
set_option maxHeartbeats 1000000
set_option autoImplicit false
namespace DL
open PySem PySem.Spec PyProof.Rows L2 LamX
end DL
set_option Elab.async false
set_option linter.all false
set_option maxRecDepth 100000
set_option maxHeartbeats 1000000
set_option autoImplicit false
namespace DL
open PySem PySem.Spec PyProof.Rows L2
end DL
set_option Elab.async false
set_option linter.all false
set_option maxRecDepth 100000
set_option maxHeartbeats 4000000
set_option autoImplicit false
namespace DL
open PySem PySem.Spec PyProof.Rows L2
end DL
set_option Elab.async false
set_option linter.all false
set_option maxRecDepth 100000
set_option maxHeartbeats 1000000
set_option autoImplicit false
namespace DL
open PySem PySem.Spec PyProof.Rows L2
end DL
set_option Elab.async false
set_option linter.all false
set_option maxRecDepth 100000
set_option maxHeartbeats 1000000
set_option autoImplicit false
namespace DL
open PySem PySem.Spec PyProof.Rows L2
end DL
set_option Elab.async false
set_option linter.all false
set_option maxRecDepth 100000
set_option maxHeartbeats 1000000
set_option autoImplicit false
namespace DL
open PySem PySem.Spec PyProof.Rows L2
end DL
set_option Elab.async false
set_option linter.all false
set_option maxRecDepth 100000
set_option maxHeartbeats 1000000
set_option autoImplicit false
namespace DL
open PySem PySem.Spec PyProof.Rows L2
end DL
set_option Elab.async false
set_option linter.all false
set_option maxRecDepth 100000
set_option maxHeartbeats 1000000
set_option autoImplicit false
namespace DL
open PySem PySem.Spec PyProof.Rows L2
end DL
set_option Elab.async false
set_option linter.all false
set_option maxRecDepth 100000
set_option maxHeartbeats 1000000
set_option autoImplicit false
namespace DL
open PySem PySem.Spec PyProof.Rows L2
/-- the pairs made so far: each address above lo holds the pair of its place -/
structure MadeZ (xs ys : Array Value) (lo : Addr) (h : Heap) (as : List Addr) : Prop where
  rise : as.Pairwise (· < ·)
  above : ∀ a ∈ as, lo < a
  pairs : ∀ (j : Nat) (a : Addr), as[j]? = some a → ∃ u v, xs[j]? = some u ∧ ys[j]? = some v ∧ ZPair h a u v
theorem MadeZ.there {xs ys : Array Value} {lo : Addr} {h : Heap} {as : List Addr} (g : MadeZ xs ys lo h as) {a : Addr} (ha : a ∈ as) : a < h.objs.size := by
  obtain ⟨j, hj⟩ := List.mem_iff_getElem?.mp ha
  obtain ⟨_, _, _, _, e⟩ := g.pairs j a hj
  exact Heap.lt_size e
end DL
set_option Elab.async false
set_option linter.all false
set_option maxRecDepth 100000
set_option maxHeartbeats 1000000
set_option autoImplicit false
namespace DL
open PySem PySem.Spec PyProof.Rows L2
/-- the elements at these places -/
def permL {α : Type} (idx : List Nat) (l : List α) : List α := idx.filterMap fun i => l[i]?
def BindsP (K : PySem.W.Frag) (fd : FuncData) (ps ks : List Str) (n : Nat) (idx : List Nat) : Prop := ∀ (s : Shared) (us ws : List Value), K.In s.heap → us.length = n → ws.length = ks.length → BindsTo s fd ⟨us, ks.zip ws⟩ (ps.zip (permL idx (us ++ ws)))
/-- a def, by its name, called with these keywords, in their order, behind n others -/
def CalP (g : Gx) (k : Nat) (x : Str) (ps ks : List Str) (n : Nat) (idx : List Nat) (W : FSpec) : Prop := ∃ (f : Addr) (fd : FuncData), FnG g CX0 k f fd ps (spOf g.K ps.length W) ∧ g.mg x = some (.ref f) ∧ PySem.W.keepIn g.K (.ref f) = true ∧ BindsP g.K fd ps ks n idx
theorem CalP.mono {g : Gx} {j k n : Nat} {x : Str} {ps ks : List Str} {idx : List Nat} {W : FSpec} (h : CalP g j x ps ks n idx W) (l : j ≤ k) : CalP g k x ps ks n idx W := by
  obtain ⟨f, fd, F, m, q, b⟩ := h
  exact ⟨f, fd, F.mono l, m, q, b⟩
theorem CalP.imp {g : Gx} {k n : Nat} {x : Str} {ps ks : List Str} {idx : List Nat} {W W' : FSpec} (h : CalP g k x ps ks n idx W) (l : ∀ ss Ex P, W' ss Ex P → W ss Ex P) : CalP g k x ps ks n idx W' := by
  obtain ⟨f, fd, F, m, q, b⟩ := h
  exact ⟨f, fd, spOf_imp F l, m, q, b⟩
end DL
set_option Elab.async false
set_option linter.all false
set_option maxRecDepth 100000
set_option maxHeartbeats 1000000
set_option autoImplicit false
namespace DL
open PySem PySem.Spec PyProof.Rows L2
def rUpd : V → List V → Hp → VK → Prop := fun x vs H Q => ∃ a b kvs more, x = .ref a ∧ vs = [.ref b] ∧ H a = some (.dK kvs) ∧ H b = some (.dK more) ∧ a ≠ b ∧ kvs.length + more.length ≤ sizeLine ∧ Q .non (upd H a (.dK (mergeK kvs more)))
theorem mt_upd {X : Cx} : MtR X "dict.update" rUpd := by
  rintro pins s σ H x vs v us Q I rx rv ⟨a, b, kvs, more, rfl, rfl, ha, hb, hne, hz, q⟩
  cases rx
  obtain ⟨u, rfl, ru⟩ := rv.one
  cases ru
  obtain ⟨z1, hd1, vs1, rel1, dd1⟩ := dk_rd I.hok (.inl ha)
  obtain ⟨z2, hd2, vs2, rel2, dd2⟩ := dk_rd I.hok (.inl hb)
  refine call_meetsIn PySem.F.slot_dict_update dd1.typeIs PySem.F.entry_dict_update (PySem.F.args_dict_update_2 _ _) (PySem.meets_dict_update (mixKind X.prog X.w) a b hne hd2) ⟨vs1, vs2, dd1, dd2, by rw [← rel1.length, ← rel2.length]; exact hz, fun h' d1 d2 sb => ?_⟩
  have hm := length_mergeK more kvs
  obtain ⟨o, es, ep, ho, r⟩ := id d1
  exact ⟨.non, _, d_write I (by rw [ha]; exact True.intro) sb ⟨o, ho⟩ (dk_new (by omega) hd1 (KV.merge rel2 rel1) d1), rfl, q⟩
def dispK : R → Option (List (Key × PyData))
  | .n (.k kvs) => some kvs
  | _ => none
def wUpdD (i : Nat) (wa : WE) : WE := fun Ex δ P => ob (ownK δ i) fun _ => wa Ex δ fun r δ1 => ob (dispK r) fun more => ob (ownK δ1 i) fun q => q.2.length + more.length ≤ sizeLine ∧ P (.d .none) (δ1.set i (some (.o q.1 (.k (mergeD q.2 more)))))
section
variable {S : Sg}
theorem de_updD {i : Nat} {x : Str} {e : Expr} {wa : WE} {p apos cpos : Pos} (hN : S.N[i]? = some x) (hv : Vis S.sc x) (ha : DE S e wa) (hd : (x == ("__debug__" : Str)) = false := by decide) (hcd : (x == ("__classdict__" : Str)) = false := by decide)
    (hb : ∀ env, attributeBase (.Name x p) "update" env (eval (.Name x p) env) = eval (.Name x p) env := by intro _; rfl) (hf : few cpos e := by intro _; rfl) (hl : (apos.endLine == cpos.line) = true := by rfl)
    (hs : ∀ env, starEach [e] env = (false, eval e env) :: starEach [] env := by intro _; rfl) (hp : ∀ env, (backTo cpos (starEach [] env)).any (·.1) = false := by intro _; rfl) :
    DE S (.Call (.Attribute (.Name x p) "update" apos) [e] [] cpos) (wUpdD i wa) := by
  obtain ⟨t, pa, s⟩ := ha
  refine ⟨tBM S.g.K "dict" rUpd (tVar i) (tCons t tNil), fun c hc => pe_bm (X := S.g.cx c) PySem.F.plainAttrs_dict PySem.F.slot_dict_update PySem.F.type_dict_update mt_upd (vis_v hc hN hv hd hcd) (pa_cons (pa c hc) pa_nil (hs _)) (hb _) (hf _) hl (hs _) (hp _), ⟨fun Ex Ex' δ P P' hx h w => ?_, fun Ex F B H vs σ δ P Q hx h w k => ?_⟩⟩
  · exact w.imp fun _ w => s.mono _ _ _ _ _ hx (fun r δ1 w => w.imp fun zs w => w.imp fun q w => ⟨w.1, h _ _ w.2⟩) w
  · obtain ⟨⟨b0, kv0⟩, e0, w⟩ := w
    have a0 := ownK_at e0
    obtain ⟨v, ev, a, rfl, hBF, ys0, hy0, q0⟩ := h.ok i _ a0
    refine ⟨_, ev, .inr (.inr (.inl ⟨rfl, .inl ⟨ys0, hy0⟩⟩)), ?_⟩
    refine s.run _ _ _ _ _ _ _ _ _ hx h w fun B1 H1 y r δ1 s1 h1 q1 w1 => ?_
    obtain ⟨more, e1, ⟨b, kvs⟩, e2, hl2, w1⟩ := w1
    have er : r = .n (.k more) := by
      unfold dispK at e1
      split at e1
      · cases e1; rfl
      · cases e1
    subst er
    have a2 := ownK_at e2
    obtain ⟨a', ea, hBF2, ys, hy, qy⟩ := own_at h1 a2 ev
    cases ea
    obtain ⟨b', rfl, hBF3, ⟨zs, hz, qz⟩, dis⟩ := q1
    have hne : a ≠ b' := fun e => by
      subst e
      exact dis i b (.k kvs) a a a2 ev (foot_self) (foot_self)
    refine ⟨a, b', ys, zs, rfl, rfl, hy, hz, hne, by rw [kds_length qy, kds_length qz]; exact hl2, ?_⟩
    exact k B1 _ .non (.d .none) _ s1 (h1.mutate (c' := .k (mergeD kvs more)) a2 ev ⟨_, upd_same, kds_merge qz qy⟩) .non w1
end
def EsL (K : PySem.W.Frag) : List DictEntry → List (Str × PyData) → Prop
  | [], [] => True
  | e :: es, p :: L => (∃ t, e.key = .str p.1 t) ∧ (∃ v, RelV v e.val ∧ DW K v p.2) ∧ EsL K es L
  | _, _ => False
/-- a dict of the module: at each word data -/
def GloK (g : Gx) (T : Str) (L : List (Str × PyData)) : Prop := ∃ d es n, g.mg T = some (.ref d) ∧ (d == sysModules) = false ∧ g.K.lookup d = some ⟨.type "dict", none, .dict es n, #[]⟩ ∧ PySem.W.KeysLit g.w.params es.toList ∧ EsL g.K es.toList L
theorem esl_find {K : PySem.W.Frag} {z : Str} : ∀ {es : List DictEntry} {L : List (Str × PyData)}, EsL K es L → match L.lookup z with
    | some dd => ∃ v u, findBy Value.isStrOf es.toArray z = some u ∧ RelV v u ∧ DW K v dd
    | none => findBy Value.isStrOf es.toArray z = none
  | [], [], _ => by simp [findBy]
  | [], _ :: _, h => h.elim
  | _ :: _, [], h => h.elim
  | e :: es, p :: L, ⟨⟨t, hk⟩, ⟨v, r, q⟩, h⟩ => by
    have ih := esl_find (z := z) h
    rw [List.lookup_cons]
    have st : findBy Value.isStrOf (e :: es).toArray z = if Value.isStrOf z e.key then some e.val else findBy Value.isStrOf es.toArray z := by
      unfold findBy
      rw [List.find?_toArray, List.find?_toArray, List.find?_cons]
      cases Value.isStrOf z e.key <;> rfl
    have hs : Value.isStrOf z e.key = (p.1 == z) := by rw [hk]; rfl
    rw [st, hs]
    by_cases hz : z = p.1
    · subst hz
      simp only [beq_self_eq_true, if_true]
      exact ⟨v, _, rfl, r, q⟩
    · have h1 : (z == p.1) = false := by simpa using hz
      have h2 : (p.1 == z) = false := by simpa using fun e => hz e.symm
      rw [h1, h2]
      exact ih
def KGetV (K : PySem.W.Frag) (w : World) (d : Addr) (z : Str) (r : V) : Prop := ∃ es n, K.lookup d = some ⟨.type "dict", none, .dict es n, #[]⟩ ∧ PySem.W.KeysLit w.params es.toList ∧ (d == sysModules) = false ∧ RelV r ((findBy Value.isStrOf es z).getD .none)
def tKGet (K : PySem.W.Frag) (w : World) (d : Addr) (ty : TE) : TE := fun σ H Q => ty σ H fun y H1 => ∃ z r, y = .str z ∧ KGetV K w d z r ∧ Q r H1
theorem pe_kget {X : Cx} {T : Str} {e : Expr} {ty : TE} {d : Addr} {p apos cpos : Pos} {es : Array DictEntry} {n : Nat} (hg : Gl X T) (hm : X.mg T = some (.ref d)) (hl : X.K.lookup d = some ⟨.type "dict", none, .dict es n, #[]⟩) (hk : PySem.W.KeysLit X.w.params es.toList) (he : PE X e ty) (m : M1 X (.Name T p) "get" apos e cpos) (hd : (T == ("__debug__" : Str)) = false := by decide) :
    PE X (.Call (.Attribute (.Name T p) "get" apos) [e] [] cpos) (tKGet X.K X.w d ty) := by
  refine ⟨fun pins s σ H Q I h => ?_⟩
  refine wpAny_Call_method m.base m.few m.line PySem.F.plainAttrs_dict PySem.F.slot_dict_get PySem.F.type_dict_get (thn ((pe_glob (pos := p) hg hm (show RelV (.ref d) (.ref d) from rfl) hd).run pins s σ H (fun x H1 => x = .ref d ∧ H1 = H) I ⟨rfl, rfl⟩) fun u s1 ⟨x, H1, I1, rx, ex, eH⟩ => ?_)
  subst ex eH
  obtain rfl : u = Value.ref d := rx
  have hmp := PySem.W.mapOf_K (prog := X.prog) (w := X.w) I1.kIn hl hk
  refine ⟨hmp.typeIs, fun b eb => by cases eb; exact ⟨_, I1.kIn _ _ hl, rfl⟩, ?_⟩
  rw [m.trees]
  refine Calls.callWith_builtin rfl (Calls.evalArgs_plain (Calls.spliced_cons (thn (he.run pins s1 σ _ _ I1 h) fun iv s2 ⟨y, H2, I2, ry, z, r, ey, ⟨es', n', hl', hk', lo, rr⟩, q2⟩ => Calls.spliced_nil ?_)))
  subst ey
  obtain ⟨t, rfl⟩ := ry
  have hmp2 := PySem.W.mapOf_K (prog := X.prog) (w := X.w) I2.kIn hl' hk'
  refine call_meetsIn PySem.F.slot_dict_get hmp2.typeIs PySem.F.entry_dict_get (PySem.F.args_dict_get_2 _ _) (meets_dict_get (strKind X.prog X.w) d (strKind_is X.prog X.w z t) lo) ⟨_, hmp2, ?_⟩
  exact ⟨r, H2, I2.tok _, rr, q2⟩
def wKGet (L : List (Str × PyData)) (wa : WE) : WE := fun Ex δ P => wa Ex δ fun r δ1 => ob (view δ1 r) fun w => ob (strW w) fun z => P (match L.lookup z with | some dd => .w dd | none => .d .none) δ1
section
variable {S : Sg}
theorem de_kget {T : Str} {L : List (Str × PyData)} {e : Expr} {wa : WE} {p apos cpos : Pos} (hG : GloK S.g T L) (hg : GlS S.sc T) (ha : DE S e wa) (hd : (T == ("__debug__" : Str)) = false := by decide) (hm : ∀ X : Cx, M1 X (.Name T p) "get" apos e cpos := by exact fun _ => ⟨rfl, rfl, rfl, rfl⟩) :
    DE S (.Call (.Attribute (.Name T p) "get" apos) [e] [] cpos) (wKGet L wa) := by
  obtain ⟨d, es, n, mT, lo, hl, hk, hE⟩ := hG
  obtain ⟨t, pa, s⟩ := ha
  refine ⟨tKGet S.g.K S.g.w d t, fun c hc => pe_kget (X := S.g.cx c) (gl_of hc hg) mT hl hk (pa c hc) (hm _) hd, ⟨fun Ex Ex' δ P P' hx h w => s.mono _ _ _ _ _ hx (fun r δ1 w => w.imp fun v w => w.imp fun z w => h _ _ w) w, fun Ex F B H vs σ δ P Q hx h w k => ?_⟩⟩
  refine s.run _ _ _ _ _ _ _ _ _ hx h w fun B1 H1 y r δ1 s1 h1 q1 w1 => ?_
  obtain ⟨v, e1, z, e2, w1⟩ := w1
  have ez := strW_ok (view_ok h1 q1 e1) e2
  subst ez
  have fd := esl_find (z := z) hE
  cases hz : L.lookup z with
  | some dd =>
    rw [hz] at fd w1
    obtain ⟨v, u, f1, f2, f3⟩ := fd
    refine ⟨z, v, rfl, ⟨es, n, hl, hk, lo, ?_⟩, k B1 H1 v (.w dd) δ1 s1 h1 f3 w1⟩
    rw [show es = es.toList.toArray from (Array.toArray_toList ..).symm, f1]
    exact f2
  | none =>
    rw [hz] at fd w1
    refine ⟨z, .non, rfl, ⟨es, n, hl, hk, lo, ?_⟩, k B1 H1 .non (.d .none) δ1 s1 h1 .non w1⟩
    rw [show es = es.toList.toArray from (Array.toArray_toList ..).symm, fd]
    exact rfl
end
end DL
set_option Elab.async false
set_option linter.all false
set_option maxRecDepth 100000
set_option maxHeartbeats 1000000
set_option autoImplicit false
namespace DL
open PySem PySem.Spec PyProof.Rows L2
def idxR (a b : Vw) : Option Rv := match a, b with
  | .rk kvs, .d d => ((keyD d).bind fun k => lookD kvs k).map .val
  | a, b => idxF a b
theorem ixR_all {S : Sg} : IxS S idxR := by
  rintro c hc value slice pins s σ H x y v u Q I rx ry ⟨B, a, b, rv, sB, oa, ob, e, k⟩ hs
  unfold idxR at e
  split at e
  · obtain ⟨d', e1, e⟩ := Option.map_eq_some_iff.mp e
    subst e
    obtain ⟨kk, e2, e3⟩ := Option.bind_eq_some_iff.mp e1
    obtain ⟨p, ys, rfl, hy, qy⟩ := oa
    have ey : y = kV kk := by
      rcases ob with ob | ⟨_, _, _, _, z, _⟩
      · exact key_dd e2 ob
      · subst z; cases e2
    subst ey
    rcases kds_look qy kk with ⟨z1, z2⟩ | ⟨v', d2, z1, z2, q⟩
    · rw [z1] at e3; cases e3
    · rw [z1] at e3; cases e3
      have g : DGet H p (kV kk) (some v') := .inl ⟨ys, kk, hy, rfl, z2.symm⟩
      cases rx
      exact tail_any (dict_typeIs I g) F.slot_dict_getitem.lookup (d_getItem (hu_of hc.room) I g ry fun w' s3 I3 rw' => ⟨v', H, I3, rw', k _ q⟩) hs
  · exact ix_all c hc value slice pins s σ H x y v u Q I rx ry ⟨B, _, _, rv, sB, oa, ob, e, k⟩ hs
section
variable {S : Sg}
theorem de_ixR {a b : Expr} {wa wb : WE} {pos : Pos} (ha : DE S a wa) (hb : DE S b wb) (hs : PlainIx b := by intro _ _; rfl) : DE S (.Subscript a b pos) (wOp idxR wa wb) := by
  obtain ⟨ta, pa, sa⟩ := ha
  obtain ⟨tb, pb, sb⟩ := hb
  exact ⟨_, fun c hc => pe_ix (ixR_all c hc) (pa c hc) (pb c hc) hs, sim_op sa sb⟩
end
end DL
set_option Elab.async false
set_option linter.all false
set_option maxRecDepth 100000
set_option maxHeartbeats 1000000
set_option autoImplicit false
namespace DL
open PySem PySem.Spec PyProof.Rows L2
def rRepP (K : PySem.W.Frag) : R2 := fun x y H Q => ∃ l k xs, x = .ref l ∧ y = .int k ∧ SqT K H l xs ∧ xs ≠ [] ∧ 2 ≤ k ∧ k ≤ 1000 ∧ xs.length ≤ 1000 ∧ ∀ (p : Addr) (o : Obj), H p = none → o.cls = .type "tuple" → o.dict = none → Q (.ref p) (upd H p (.frz o (.tup (List.replicate k.toNat xs).flatten)))
theorem op_repP {X : Cx} : OpR X (binaryOp .Mult) (rRepP X.K) := by
  intro pins s σ H x y v u Q I rx ry h
  obtain ⟨l, k, xs, rfl, rfl, hT, hne, h1, h2, hz, q⟩ := h
  cases rx
  obtain ⟨t, rfl⟩ := ry
  obtain ⟨its, r, ⟨⟨cls, dd, data, sl⟩, ho, hc, n, hd⟩, hs⟩ := I.tuple hT
  simp only at hc hd
  subst hc hd
  have hle : its.length = xs.length := r.length.symm
  have hn : its ≠ [] := fun e => hne (by
    rw [e] at hle
    exact List.eq_nil_of_length_eq_zero hle.symm)
  have hi : its.toArray.isEmpty = false := by
    cases its with
    | nil => exact absurd rfl hn
    | cons a b => rfl
  have hsz0 : its.toArray.size = xs.length := by rw [List.size_toArray, hle]
  have hm : ((its.toArray.size : Nat) : Int) * k ≤ 1000000 := by
    rw [hsz0]
    have a1 : ((xs.length : Nat) : Int) * k ≤ 1000 * k := Int.mul_le_mul_of_nonneg_right (by omega) (by omega)
    omega
  have fl0 : (List.replicate k.toNat xs).flatten.length ≤ sizeLine := by
    rw [PyProof.Rows.lm_len_rep_flat, sizeLine_eq]
    have a1 : k.toNat * xs.length ≤ 1000 * 1000 := Nat.mul_le_mul (by omega) hz
    omega
  have flen : (List.replicate k.toNat its).flatten.length ≤ sizeLine := by
    rw [PyProof.Rows.lm_len_rep_flat, hle, ← PyProof.Rows.lm_len_rep_flat]; exact fl0
  refine wpAny_binaryOp_repeat_ref (T := "tuple") (U := "int") (by decide) ⟨_, ho, rfl⟩ (fun s' => typeIs_int s' k t) noFill_tuple_mul F.fills_int_mul F.slot_int_rmul repeat_tuple F.slot_int_index.lookup
    (call_meets F.slot_int_rmul (typeIs_int s k t) F.entry_int_rmul (F.args_int_rmul_2 _ _) (int_rmul_tuple k t l its.toArray n dd sl)
      ⟨ho, rfl, ⟨_, ho, rfl⟩, call_meets F.slot_tuple_mul ⟨_, ho, rfl⟩ F.entry_tuple_mul (F.args_tuple_mul_2 _ _) (tuple_mulW l its.toArray n dd sl k t
        (by rw [decide_eq_false (by omega), decide_eq_false (by omega)] <;> rfl) (by rw [hi, Bool.false_or]; exact beq_eq_false_iff_ne.mpr (by omega)) (by rw [hi, Bool.or_false]; exact decide_eq_false (by omega)) (by omega)
        (by unfold Builtin.Tuple.tupleTooMany; rw [sizeLine_eq]; exact decide_eq_false (by omega)) (by rw [size_rep, List.size_toArray]; exact flen)) ⟨ho, ?_⟩⟩)
  rw [size_rep]
  refine ⟨.ref s.heap.objs.size, upd H s.heap.objs.size (.frz _ (.tup (List.replicate k.toNat xs).flatten)), I.laid (t' := s.toks) (fun b ob q => Heap.get?_push_of_some _ q) (Nat.le_refl _) ⟨Heap.get?_push_size _ rfl, (show ObjOk X.prog X.w _ _ _ (.tup (List.replicate k.toNat xs).flatten) from ?_)⟩, rfl, q _ _ (I.hok.fresh (Nat.le_refl _)) rfl rfl⟩
  exact ⟨fl0, _, r.rep k.toNat, IsTup.new _ _⟩
def mulT (a b : Vw) : Option Rv := match a, b with
  | .d (.tuple ds), .d (.int k) => if decide (ds ≠ []) && decide (2 ≤ k) && decide (k ≤ 1000) && decide (ds.length ≤ 1000) then some (.tup (List.replicate k.toNat ds).flatten) else none
  | a, b => mulF a b
theorem os_mulT {S : Sg} : OpS S (binaryOp .Mult) mulT := by
  rintro c hc pins s σ H x y v u Q I rx ry ⟨B, a, b, rv, sB, oa, ob, e, k⟩
  unfold mulT at e
  split at e
  · split at e
    · rename_i hl
      cases e
      simp only [Bool.and_eq_true, decide_eq_true_eq] at hl
      obtain ⟨p, xs, rfl, hp, qx⟩ := ov_tup oa
      cases ov_int ob
      refine op_repP pins s σ H _ _ v u Q I rx ry ⟨p, _, xs, rfl, rfl, .inl (hp.mono sB).rd, fun z => hl.1.1.1 (by subst z; exact qx.nil_iff.mp rfl), hl.1.1.2, hl.1.2, by rw [qx.length]; exact hl.2, fun p3 o hp3 ec ed => k.2 p3 o _ hp3 ec ed (dds_rep qx _)⟩
    · cases e
  · exact os_mul c hc pins s σ H x y v u Q I rx ry ⟨B, _, _, rv, sB, oa, ob, e, k⟩
end DL
set_option Elab.async false
set_option linter.all false
set_option maxRecDepth 100000
set_option maxHeartbeats 1000000
set_option autoImplicit false
namespace DL
open PySem PySem.Spec PyProof.Rows L2
theorem dpa_words {K : PySem.W.Frag} {H : Hp} : ∀ xs : List Str, DpAll K H (xs.map V.str) (xs.map PyData.str)
  | [] => .nil
  | x :: xs => .cons (.str x) (dpa_words xs)
theorem dw_words {K : PySem.W.Frag} {T : Addr} {o : Obj} {vs : Array Value} {n : Nat} {xs : List Str} (l : K.lookup T = some o) (c : o.cls = .type "tuple") (d : o.data = .seq vs n) (z : vs.size ≤ sizeLine) (h : Vals (xs.map V.str) vs.toList) : DW K (.ref T) (.tuple (xs.map .str)) :=
  .tup (.inr ⟨o, vs, n, l, c, d, z, h⟩) (dpa_words xs)
end DL
set_option Elab.async false
set_option linter.all false
set_option maxRecDepth 100000
set_option maxHeartbeats 4000000
set_option autoImplicit false
namespace V05
open PySem PySem.Spec PyProof.Rows L2 DL
def top (i : Nat) : Stmt := PySem.Challenge.pw_drawerways_k05_deeds_by_kind.main.body.getD i (.Pass ⟨0, 0, 0, 0⟩)
abbrev s_is_name : Stmt := top 1
abbrev s_is_way : Stmt := top 2
abbrev s_form_of : Stmt := top 5
abbrev s_fits : Stmt := top 6
abbrev s_is_deed : Stmt := top 7
abbrev s_feed : Stmt := top 9
abbrev s_draw : Stmt := top 10
abbrev s_names : Stmt := top 11
abbrev s_tree : Stmt := top 12
abbrev s_way : Stmt := top 13
abbrev s_deed : Stmt := top 14
abbrev s_bent : Stmt := top 15
abbrev s_way_due : Stmt := top 16
abbrev s_due : Stmt := top 17
abbrev s_near : Stmt := top 18
abbrev s_law : Stmt := top 19
theorem sc_is_name : FnScope ["thing", "sign"] ["thing"] (defScope s_is_name) := ⟨rfl, rfl, rfl, by decide +kernel, rfl, by decide +kernel, by decide +kernel⟩
@[irreducible] def t_is_name_1 : WS := (wRet (wCB allF (wCons (wLc (wIt (wVar 0)) (gN 1) wYes (wChn leU leU (wC (.str "a")) (wVar 1) (wC (.str "z"))) [1]) wNil)))
@[irreducible] def t_is_name_2 : WS := (wRet (wC (.bool false)))
@[irreducible] def t_is_name_3 : WS := wSeq (wIfS (wOr (wNot (wTru (wIsi "str" (wVar 0)))) (wNot (wB (wChn leU leU (wC (.int 1)) (wCB lenX (wCons (wVar 0) wNil)) (wC (.int 8))))))
    (t_is_name_2) wNext)
    (t_is_name_1)
def w_is_name : WS := (wSeq (wIfS (wOr (wNot (wTru (wIsi "str" (wVar 0)))) (wNot (wB (wChn leU leU (wC (.int 1)) (wCB lenX (wCons (wVar 0) wNil)) (wC (.int 8))))))
    ((wRet (wC (.bool false)))) wNext)
    ((wRet (wCB allF (wCons (wLc (wIt (wVar 0)) (gN 1) wYes (wChn leU leU (wC (.str "a")) (wVar 1) (wC (.str "z"))) [1]) wNil)))))
theorem w_is_name_eq : w_is_name = (t_is_name_3) := by with_unfolding_all rfl
theorem df_is_name {g : Gx} {k : Nat} (m_all : g.mg "all" = none) (m_len : g.mg "len" = none) (m_isinstance : g.mg "isinstance" = none) (m_str : g.mg "str" = none) {f : Addr} {fd : FuncData} (Fn : Fun g.K "is_name" "is_name" s_is_name f fd) : FnG g CX0 (k + 1) f fd ["thing"] (spOf g.K 1 (fnW 1 2 w_is_name)) :=
  fn_dl (N := ["thing", "sign"]) Fn sc_is_name (fun E => (ds_cons (ds_if (dt_w (dw_or (dt_not (dt_tru (de_isi (T := "str") rfl rfl m_isinstance rfl m_str rfl (de_var (i := 0) rfl (by first | exact .inl rfl | exact .inr (.inl rfl) | exact .inr (.inr rfl)))) (fun _ _ => rfl))) (dw_or1 (dt_not (dt_chn os_leU os_leU de_int (de_callB cs_lenX rfl m_len rfl (da_cons (de_var (i := 0) rfl (by first | exact .inl rfl | exact .inr (.inl rfl) | exact .inr (.inr rfl))) da_nil)) de_int)))))
    (ds_one (ds_ret de_bl)) ds_nil)
    (ds_one (ds_ret (de_callB cs_all rfl m_all rfl (da_cons (de_lc (own := [("sign", 1)]) cx0_ok (di_seq (de_var (i := 0) rfl (by first | exact .inl rfl | exact .inr (.inl rfl) | exact .inr (.inr rfl)))) rfl (dg_name (i := 1) rfl (by first | exact .inl rfl | exact .inr rfl)) rfl dts_nil (de_chn os_leU os_leU de_str (de_var (i := 1) rfl (by first | exact .inl rfl | exact .inr (.inl rfl) | exact .inr (.inr rfl))) de_str)) da_nil)))))) (by decide)
theorem bd_is_name {K : PySem.W.Frag} {f : Addr} {fd : FuncData} (Fn : Fun K "is_name" "is_name" s_is_name f fd) : Binds K fd ["thing"] [] := Fn.binds (ps := ["thing"]) fun _ _ _ _ _ _ us hl => match us, hl with | [_], _ => rfl
theorem cal_is_name {g : Gx} {k : Nat} {W : FSpec} (m_all : g.mg "all" = none) (m_len : g.mg "len" = none) (m_isinstance : g.mg "isinstance" = none) (m_str : g.mg "str" = none) (h : Got g "is_name" s_is_name) (im : ∀ ss Ex P, W ss Ex P → fnW 1 2 w_is_name ss Ex P) : Cal g CX0 (k + 1) "is_name" ["thing"] W := by
  obtain ⟨f, fd, m, F⟩ := h
  exact Cal.imp ⟨f, fd, df_is_name      m_all m_len m_isinstance m_str   F, m, F.kp, bd_is_name F⟩ im
theorem sc_is_way : FnScope ["thing", "name"] ["thing"] (defScope s_is_way) := ⟨rfl, rfl, rfl, by decide +kernel, rfl, by decide +kernel, by decide +kernel⟩
@[irreducible] def t_is_way_1 (C_is_name : FSpec) : WS := (wRet (wAndV (wIsi "tuple" (wVar 0)) (wCB allF (wCons (wLc (wIt (wVar 0)) (gN 1) wYes (wCall 1 C_is_name [false] (wCons (wVar 1) wNil)) [1]) wNil))))
def w_is_way (C_is_name : FSpec) : WS := ((wRet (wAndV (wIsi "tuple" (wVar 0)) (wCB allF (wCons (wLc (wIt (wVar 0)) (gN 1) wYes (wCall 1 C_is_name [false] (wCons (wVar 1) wNil)) [1]) wNil)))))
theorem w_is_way_eq (C_is_name : FSpec) : w_is_way C_is_name = (t_is_way_1 C_is_name) := by with_unfolding_all rfl
theorem df_is_way {g : Gx} {k : Nat} {C_is_name : FSpec} (mono_is_name : FMono C_is_name) (c_is_name : Cal g CX0 k "is_name" ["thing"] C_is_name) (m_all : g.mg "all" = none) (m_isinstance : g.mg "isinstance" = none) (m_tuple : g.mg "tuple" = none) {f : Addr} {fd : FuncData} (Fn : Fun g.K "is_way" "is_way" s_is_way f fd) : FnG g CX0 (k + 1) f fd ["thing"] (spOf g.K 1 (fnW 1 2 (w_is_way C_is_name))) :=
  fn_dl (N := ["thing", "name"]) Fn sc_is_way (fun E => (ds_one (ds_ret (de_and (de_isi (T := "tuple") rfl rfl m_isinstance rfl m_tuple rfl (de_var (i := 0) rfl (by first | exact .inl rfl | exact .inr (.inl rfl) | exact .inr (.inr rfl)))) (de_one (de_callB cs_all rfl m_all rfl (da_cons (de_lc (own := [("name", 1)]) cx0_ok (di_seq (de_var (i := 0) rfl (by first | exact .inl rfl | exact .inr (.inl rfl) | exact .inr (.inr rfl)))) rfl (dg_name (i := 1) rfl (by first | exact .inl rfl | exact .inr rfl)) rfl dts_nil (de_cal (ms := [false]) c_is_name mono_is_name rfl (da_cons (de_var (i := 1) rfl (by first | exact .inl rfl | exact .inr (.inl rfl) | exact .inr (.inr rfl))) da_nil))) da_nil))))))) (by decide)
theorem bd_is_way {K : PySem.W.Frag} {f : Addr} {fd : FuncData} (Fn : Fun K "is_way" "is_way" s_is_way f fd) : Binds K fd ["thing"] [] := Fn.binds (ps := ["thing"]) fun _ _ _ _ _ _ us hl => match us, hl with | [_], _ => rfl
theorem cal_is_way {g : Gx} {k : Nat} {C_is_name : FSpec} {W : FSpec} (mono_is_name : FMono C_is_name) (c_is_name : Cal g CX0 k "is_name" ["thing"] C_is_name) (m_all : g.mg "all" = none) (m_isinstance : g.mg "isinstance" = none) (m_tuple : g.mg "tuple" = none) (h : Got g "is_way" s_is_way) (im : ∀ ss Ex P, W ss Ex P → fnW 1 2 (w_is_way C_is_name) ss Ex P) : Cal g CX0 (k + 1) "is_way" ["thing"] W := by
  obtain ⟨f, fd, m, F⟩ := h
  exact Cal.imp ⟨f, fd, df_is_way mono_is_name c_is_name     m_all m_isinstance m_tuple   F, m, F.kp, bd_is_way F⟩ im
theorem sc_form_of : FnScope ["word"] ["word"] (defScope s_form_of) := ⟨rfl, rfl, rfl, by decide +kernel, rfl, by decide +kernel, by decide +kernel⟩
@[irreducible] def t_form_of_1 (LFORMS : List (Str × PyData)) : WS := (wRet (wKGet LFORMS (wVar 0)))
def w_form_of (LFORMS : List (Str × PyData)) : WS := ((wRet (wKGet LFORMS (wVar 0))))
theorem w_form_of_eq (LFORMS : List (Str × PyData)) : w_form_of LFORMS = (t_form_of_1 LFORMS) := by with_unfolding_all rfl
theorem df_form_of {g : Gx} {k : Nat} {LFORMS : List (Str × PyData)} (K_FORMS : GloK g "FORMS" LFORMS) {f : Addr} {fd : FuncData} (Fn : Fun g.K "form_of" "form_of" s_form_of f fd) : FnG g CX0 (k + 1) f fd ["word"] (spOf g.K 1 (fnW 1 1 (w_form_of LFORMS))) :=
  fn_dl (N := ["word"]) Fn sc_form_of (fun E => (ds_one (ds_ret (de_kget K_FORMS rfl (de_var (i := 0) rfl (by first | exact .inl rfl | exact .inr (.inl rfl) | exact .inr (.inr rfl))))))) (by decide)
theorem bd_form_of {K : PySem.W.Frag} {f : Addr} {fd : FuncData} (Fn : Fun K "form_of" "form_of" s_form_of f fd) : Binds K fd ["word"] [] := Fn.binds (ps := ["word"]) fun _ _ _ _ _ _ us hl => match us, hl with | [_], _ => rfl
theorem cal_form_of {g : Gx} {k : Nat} {LFORMS : List (Str × PyData)} {W : FSpec} (K_FORMS : GloK g "FORMS" LFORMS) (h : Got g "form_of" s_form_of) (im : ∀ ss Ex P, W ss Ex P → fnW 1 1 (w_form_of LFORMS) ss Ex P) : Cal g CX0 (k + 1) "form_of" ["word"] W := by
  obtain ⟨f, fd, m, F⟩ := h
  exact Cal.imp ⟨f, fd, df_form_of     K_FORMS    F, m, F.kp, bd_form_of F⟩ im
theorem sc_fits : FnScope ["form", "thing"] ["form", "thing"] (defScope s_fits) := ⟨rfl, rfl, rfl, by decide +kernel, rfl, by decide +kernel, by decide +kernel⟩
@[irreducible] def t_fits_1 (C_is_way : FSpec) : WS := (wRet (wAndV (wCall 1 C_is_way [false] (wCons (wVar 1) wNil)) (wOrV (wOp eqF (wVar 0) (wC (.str "way"))) (wOp neF (wVar 1) (wTup wNil)))))
@[irreducible] def t_fits_2 (C_is_way : FSpec) : WS := (wRet (wOp (inT false) (wVar 1) (wTup (wCons (wC (.str "drawer")) (wCons (wC (.str "sheet")) wNil)))))
@[irreducible] def t_fits_3 (C_is_way : FSpec) : WS := wSeq (wIfS (wB (wOp eqF (wVar 0) (wC (.str "kind"))))
    (t_fits_2 C_is_way) wNext)
    (t_fits_1 C_is_way)
def w_fits (C_is_way : FSpec) : WS := (wSeq (wIfS (wB (wOp eqF (wVar 0) (wC (.str "kind"))))
    ((wRet (wOp (inT false) (wVar 1) (wTup (wCons (wC (.str "drawer")) (wCons (wC (.str "sheet")) wNil)))))) wNext)
    ((wRet (wAndV (wCall 1 C_is_way [false] (wCons (wVar 1) wNil)) (wOrV (wOp eqF (wVar 0) (wC (.str "way"))) (wOp neF (wVar 1) (wTup wNil)))))))
theorem w_fits_eq (C_is_way : FSpec) : w_fits C_is_way = (t_fits_3 C_is_way) := by with_unfolding_all rfl
theorem df_fits {g : Gx} {k : Nat} {C_is_way : FSpec} (mono_is_way : FMono C_is_way) (c_is_way : Cal g CX0 k "is_way" ["thing"] C_is_way) {f : Addr} {fd : FuncData} (Fn : Fun g.K "fits" "fits" s_fits f fd) : FnG g CX0 (k + 1) f fd ["form", "thing"] (spOf g.K 2 (fnW 2 2 (w_fits C_is_way))) :=
  fn_dl (N := ["form", "thing"]) Fn sc_fits (fun E => (ds_cons (ds_if (dt_cmp os_eq (de_var (i := 0) rfl (by first | exact .inl rfl | exact .inr (.inl rfl) | exact .inr (.inr rfl))) de_str rfl)
    (ds_one (ds_ret (de_cmp os_inT (de_var (i := 1) rfl (by first | exact .inl rfl | exact .inr (.inl rfl) | exact .inr (.inr rfl))) (de_tup (da_cons de_str (da_cons de_str da_nil))) rfl))) ds_nil)
    (ds_one (ds_ret (de_and (de_cal (ms := [false]) c_is_way mono_is_way rfl (da_cons (de_var (i := 1) rfl (by first | exact .inl rfl | exact .inr (.inl rfl) | exact .inr (.inr rfl))) da_nil)) (de_one (de_or (de_cmp os_eq (de_var (i := 0) rfl (by first | exact .inl rfl | exact .inr (.inl rfl) | exact .inr (.inr rfl))) de_str rfl) (de_one (de_cmp os_ne (de_var (i := 1) rfl (by first | exact .inl rfl | exact .inr (.inl rfl) | exact .inr (.inr rfl))) (de_tup da_nil) rfl))))))))) (by decide)
theorem bd_fits {K : PySem.W.Frag} {f : Addr} {fd : FuncData} (Fn : Fun K "fits" "fits" s_fits f fd) : Binds K fd ["form", "thing"] [] := Fn.binds (ps := ["form", "thing"]) fun _ _ _ _ _ _ us hl => match us, hl with | [_, _], _ => rfl
theorem cal_fits {g : Gx} {k : Nat} {C_is_way : FSpec} {W : FSpec} (mono_is_way : FMono C_is_way) (c_is_way : Cal g CX0 k "is_way" ["thing"] C_is_way) (h : Got g "fits" s_fits) (im : ∀ ss Ex P, W ss Ex P → fnW 2 2 (w_fits C_is_way) ss Ex P) : Cal g CX0 (k + 1) "fits" ["form", "thing"] W := by
  obtain ⟨f, fd, m, F⟩ := h
  exact Cal.imp ⟨f, fd, df_fits mono_is_way c_is_way        F, m, F.kp, bd_fits F⟩ im
theorem sc_is_deed : FnScope ["thing", "forms", "form", "part"] ["thing"] (defScope s_is_deed) := ⟨rfl, rfl, rfl, by decide +kernel, rfl, by decide +kernel, by decide +kernel⟩
@[irreducible] def t_is_deed_1 (C_fits C_form_of : FSpec) : WS := (wRet (wCB allF (wCons (wLc (wZipW (wCons (wVar 1) (wCons (wSl (wVar 0) (wPart (wC (.int 1))) wNoP) wNil))) (gT 2 (gsC (gN 2) (gsC (gN 3) gsN))) wYes (wCall 2 C_fits [false, false] (wCons (wVar 2) (wCons (wVar 3) wNil))) [2, 3]) wNil)))
@[irreducible] def t_is_deed_2 (C_fits C_form_of : FSpec) : WS := (wRet (wC (.bool false)))
@[irreducible] def t_is_deed_3 (C_fits C_form_of : FSpec) : WS := wSeq (wIfS (wOr (wB (wOp isU (wVar 1) (wC .none))) (wB (wOp neF (wCB lenX (wCons (wVar 0) wNil)) (wOp addF (wC (.int 1)) (wCB lenX (wCons (wVar 1) wNil))))))
    (t_is_deed_2 C_fits C_form_of) wNext)
    (t_is_deed_1 C_fits C_form_of)
@[irreducible] def t_is_deed_4 (C_fits C_form_of : FSpec) : WS := wSeq (wSet 1 (wCall 1 C_form_of [false] (wCons (wOp idxF (wVar 0) (wC (.int 0))) wNil)))
    (t_is_deed_3 C_fits C_form_of)
@[irreducible] def t_is_deed_5 (C_fits C_form_of : FSpec) : WS := (wRet (wC (.bool false)))
@[irreducible] def t_is_deed_6 (C_fits C_form_of : FSpec) : WS := wSeq (wIfS (wOr (wNot (wTru (wIsi "tuple" (wVar 0)))) (wOr (wB (wOp eqF (wVar 0) (wTup wNil))) (wNot (wTru (wIsi "str" (wOp idxF (wVar 0) (wC (.int 0))))))))
    (t_is_deed_5 C_fits C_form_of) wNext)
    (t_is_deed_4 C_fits C_form_of)
def w_is_deed (C_fits C_form_of : FSpec) : WS := (wSeq (wIfS (wOr (wNot (wTru (wIsi "tuple" (wVar 0)))) (wOr (wB (wOp eqF (wVar 0) (wTup wNil))) (wNot (wTru (wIsi "str" (wOp idxF (wVar 0) (wC (.int 0))))))))
    ((wRet (wC (.bool false)))) wNext)
    (wSeq (wSet 1 (wCall 1 C_form_of [false] (wCons (wOp idxF (wVar 0) (wC (.int 0))) wNil)))
    (wSeq (wIfS (wOr (wB (wOp isU (wVar 1) (wC .none))) (wB (wOp neF (wCB lenX (wCons (wVar 0) wNil)) (wOp addF (wC (.int 1)) (wCB lenX (wCons (wVar 1) wNil))))))
    ((wRet (wC (.bool false)))) wNext)
    ((wRet (wCB allF (wCons (wLc (wZipW (wCons (wVar 1) (wCons (wSl (wVar 0) (wPart (wC (.int 1))) wNoP) wNil))) (gT 2 (gsC (gN 2) (gsC (gN 3) gsN))) wYes (wCall 2 C_fits [false, false] (wCons (wVar 2) (wCons (wVar 3) wNil))) [2, 3]) wNil)))))))
theorem w_is_deed_eq (C_fits C_form_of : FSpec) : w_is_deed C_fits C_form_of = (t_is_deed_6 C_fits C_form_of) := by with_unfolding_all rfl
theorem df_is_deed {g : Gx} {k : Nat} {C_fits C_form_of : FSpec} (mono_fits : FMono C_fits) (c_fits : Cal g CX0 k "fits" ["form", "thing"] C_fits) (mono_form_of : FMono C_form_of) (c_form_of : Cal g CX0 k "form_of" ["word"] C_form_of) (m_zip : g.mg "zip" = none) (m_all : g.mg "all" = none) (m_len : g.mg "len" = none) (m_isinstance : g.mg "isinstance" = none) (m_str : g.mg "str" = none) (m_tuple : g.mg "tuple" = none) {f : Addr} {fd : FuncData} (Fn : Fun g.K "is_deed" "is_deed" s_is_deed f fd) : FnG g CX0 (k + 1) f fd ["thing"] (spOf g.K 1 (fnW 1 4 (w_is_deed C_fits C_form_of))) :=
  fn_dl (N := ["thing", "forms", "form", "part"]) Fn sc_is_deed (fun E => (ds_cons (ds_if (dt_w (dw_or (dt_not (dt_tru (de_isi (T := "tuple") rfl rfl m_isinstance rfl m_tuple rfl (de_var (i := 0) rfl (by first | exact .inl rfl | exact .inr (.inl rfl) | exact .inr (.inr rfl)))) (fun _ _ => rfl))) (dw_or (dt_cmp os_eq (de_var (i := 0) rfl (by first | exact .inl rfl | exact .inr (.inl rfl) | exact .inr (.inr rfl))) (de_tup da_nil) rfl) (dw_or1 (dt_not (dt_tru (de_isi (T := "str") rfl rfl m_isinstance rfl m_str rfl (de_ix (de_var (i := 0) rfl (by first | exact .inl rfl | exact .inr (.inl rfl) | exact .inr (.inr rfl))) de_int)) (fun _ _ => rfl)))))))
    (ds_one (ds_ret de_bl)) ds_nil)
    (ds_cons (ds_set (i := 1) rfl (by first | exact .inl rfl | exact .inr rfl) (de_cal (ms := [false]) c_form_of mono_form_of rfl (da_cons (de_ix (de_var (i := 0) rfl (by first | exact .inl rfl | exact .inr (.inl rfl) | exact .inr (.inr rfl))) de_int) da_nil)))
    (ds_cons (ds_if (dt_w (dw_or (dt_cmp os_isU (de_var (i := 1) rfl (by first | exact .inl rfl | exact .inr (.inl rfl) | exact .inr (.inr rfl))) de_non rfl) (dw_or1 (dt_cmp os_ne (de_callB cs_lenX rfl m_len rfl (da_cons (de_var (i := 0) rfl (by first | exact .inl rfl | exact .inr (.inl rfl) | exact .inr (.inr rfl))) da_nil)) (de_op os_add de_int (de_callB cs_lenX rfl m_len rfl (da_cons (de_var (i := 1) rfl (by first | exact .inl rfl | exact .inr (.inl rfl) | exact .inr (.inr rfl))) da_nil))) rfl))))
    (ds_one (ds_ret de_bl)) ds_nil)
    (ds_one (ds_ret (de_callB cs_all rfl m_all rfl (da_cons (de_lc (own := [("form", 2), ("part", 3)]) cx0_ok (di_zipW rfl m_zip (da_cons (de_var (i := 1) rfl (by first | exact .inl rfl | exact .inr (.inl rfl) | exact .inr (.inr rfl))) (da_cons (de_sl (de_var (i := 0) rfl (by first | exact .inl rfl | exact .inr (.inl rfl) | exact .inr (.inr rfl))) (do_some de_int) do_none) da_nil))) rfl (dg_tup (dgs_cons (dg_name (i := 2) rfl (by first | exact .inl rfl | exact .inr rfl)) (dgs_cons (dg_name (i := 3) rfl (by first | exact .inl rfl | exact .inr rfl)) dgs_nil))) rfl dts_nil (de_cal (ms := [false, false]) c_fits mono_fits rfl (da_cons (de_var (i := 2) rfl (by first | exact .inl rfl | exact .inr (.inl rfl) | exact .inr (.inr rfl))) (da_cons (de_var (i := 3) rfl (by first | exact .inl rfl | exact .inr (.inl rfl) | exact .inr (.inr rfl))) da_nil)))) da_nil)))))))) (by decide)
theorem bd_is_deed {K : PySem.W.Frag} {f : Addr} {fd : FuncData} (Fn : Fun K "is_deed" "is_deed" s_is_deed f fd) : Binds K fd ["thing"] [] := Fn.binds (ps := ["thing"]) fun _ _ _ _ _ _ us hl => match us, hl with | [_], _ => rfl
theorem cal_is_deed {g : Gx} {k : Nat} {C_fits C_form_of : FSpec} {W : FSpec} (mono_fits : FMono C_fits) (c_fits : Cal g CX0 k "fits" ["form", "thing"] C_fits) (mono_form_of : FMono C_form_of) (c_form_of : Cal g CX0 k "form_of" ["word"] C_form_of) (m_zip : g.mg "zip" = none) (m_all : g.mg "all" = none) (m_len : g.mg "len" = none) (m_isinstance : g.mg "isinstance" = none) (m_str : g.mg "str" = none) (m_tuple : g.mg "tuple" = none) (h : Got g "is_deed" s_is_deed) (im : ∀ ss Ex P, W ss Ex P → fnW 1 4 (w_is_deed C_fits C_form_of) ss Ex P) : Cal g CX0 (k + 1) "is_deed" ["thing"] W := by
  obtain ⟨f, fd, m, F⟩ := h
  exact Cal.imp ⟨f, fd, df_is_deed mono_fits c_fits mono_form_of c_form_of     m_zip m_all m_len m_isinstance m_str m_tuple   F, m, F.kp, bd_is_deed F⟩ im
theorem sc_feed : FnScope ["_law_script"] ["_law_script"] (defScope s_feed) := ⟨rfl, rfl, rfl, by decide +kernel, rfl, by decide +kernel, by decide +kernel⟩
@[irreducible] def t_feed_1 : WS := (wRet (wDisp (((wC (.str "cells")), (wCB listF (wCons (wSl (wVar 0) wNoP (wPart (wC (.int 63)))) wNil))) :: (((wC (.str "at")), (wC (.int 0))) :: (((wC (.str "left")), (wC (.int 0))) :: (((wC (.str "count")), (wC (.int 0))) :: []))))))
def w_feed : WS := ((wRet (wDisp (((wC (.str "cells")), (wCB listF (wCons (wSl (wVar 0) wNoP (wPart (wC (.int 63)))) wNil))) :: (((wC (.str "at")), (wC (.int 0))) :: (((wC (.str "left")), (wC (.int 0))) :: (((wC (.str "count")), (wC (.int 0))) :: [])))))))
theorem w_feed_eq : w_feed = (t_feed_1) := by with_unfolding_all rfl
theorem df_feed {g : Gx} {k : Nat} (m_list : g.mg "list" = none) {f : Addr} {fd : FuncData} (Fn : Fun g.K "_law_feed" "_law_feed" s_feed f fd) : FnG g CX0 (k + 1) f fd ["_law_script"] (spOf g.K 1 (fnW 1 1 w_feed)) :=
  fn_dl (N := ["_law_script"]) Fn sc_feed (fun E => (ds_one (ds_ret (de_disp (dps_cons de_str (de_callT cs_list rfl m_list rfl (da_cons (de_sl (de_var (i := 0) rfl (by first | exact .inl rfl | exact .inr (.inl rfl) | exact .inr (.inr rfl))) do_none (do_some de_int)) da_nil)) (dps_cons de_str de_int (dps_cons de_str de_int (dps_cons de_str de_int dps_nil)))))))) (by decide)
theorem bd_feed {K : PySem.W.Frag} {f : Addr} {fd : FuncData} (Fn : Fun K "_law_feed" "_law_feed" s_feed f fd) : Binds K fd ["_law_script"] [] := Fn.binds (ps := ["_law_script"]) fun _ _ _ _ _ _ us hl => match us, hl with | [_], _ => rfl
theorem cal_feed {g : Gx} {k : Nat} {W : FSpec} (m_list : g.mg "list" = none) (h : Got g "_law_feed" s_feed) (im : ∀ ss Ex P, W ss Ex P → fnW 1 1 w_feed ss Ex P) : Cal g CX0 (k + 1) "_law_feed" ["_law_script"] W := by
  obtain ⟨f, fd, m, F⟩ := h
  exact Cal.imp ⟨f, fd, df_feed      m_list   F, m, F.kp, bd_feed F⟩ im
theorem sc_draw : FnScope ["_law_feed_here", "_law_many", "_law_figure", "_law_at", "_law_cell", "_law_mixed"] ["_law_feed_here", "_law_many"] (defScope s_draw) := ⟨rfl, rfl, rfl, by decide +kernel, rfl, by decide +kernel, by decide +kernel⟩
@[irreducible] def t_draw_1 : WS := (wRet (wOp modF (wOp fdivF (wOp modF (wOp addF (wOp mulF (wVar 5) (wVar 5)) (wOp mulF (wC (.int 29)) (wVar 5))) (wC (.int 2147483543))) (wC (.int 16))) (wVar 1)))
@[irreducible] def t_draw_2 : WS := wSeq (wSet 5 (wOp modF (wOp addF (wOp addF (wOp mulF (wVar 5) (wVar 5)) (wOp mulF (wC (.int 7368787)) (wOp idxF (wVar 0) (wC (.str "count"))))) (wC (.int 17))) (wC (.int 2147483549))))
    (t_draw_1)
@[irreducible] def t_draw_3 : WS := wSeq (wSet 5 (wOp modF (wOp addF (wOp addF (wOp modF (wVar 4) (wC (.int 1000000097))) (wOp mulF (wC (.int 60013)) (wOp idxF (wVar 0) (wC (.str "count"))))) (wC (.int 47))) (wC (.int 2147483579))))
    (t_draw_2)
@[irreducible] def t_draw_4 : WS := (wRet (wOp modF (wVar 4) (wVar 1)))
@[irreducible] def t_draw_5 : WS := wSeq (wPut 0 (wC (.str "left")) (wOp fdivF (wVar 4) (wVar 1)))
    (t_draw_4)
@[irreducible] def t_draw_6 : WS := wSeq (wIfS (wAnd (wB (wOp geF (wVar 4) (wOp powF (wC (.int 10)) (wC (.int 18))))) (wB (wOp ltU (wVar 3) (wCB lenX (wCons (wOp idxF (wVar 0) (wC (.str "cells"))) wNil)))))
    (t_draw_5) wNext)
    (t_draw_3)
@[irreducible] def x_draw_7 : WE := wIf (wB (wOp neF (wOp idxF (wVar 0) (wC (.str "cells"))) (wLst wNil))) (wOp idxF (wOp idxF (wVar 0) (wC (.str "cells"))) (wOp modF (wVar 3) (wCB lenX (wCons (wOp idxF (wVar 0) (wC (.str "cells"))) wNil)))) (wC (.int 13))
@[irreducible] def t_draw_8 : WS := wSeq (wSet 4 (x_draw_7))
    (t_draw_6)
@[irreducible] def t_draw_9 : WS := wSeq (wPut 0 (wC (.str "at")) (wOp addF (wVar 3) (wC (.int 1))))
    (t_draw_8)
@[irreducible] def t_draw_10 : WS := wSeq (wSet 3 (wOp idxF (wVar 0) (wC (.str "at"))))
    (t_draw_9)
@[irreducible] def t_draw_11 : WS := (wRet (wVar 2))
@[irreducible] def t_draw_12 : WS := wSeq (wPut 0 (wC (.str "left")) (wOp fdivF (wOp idxF (wVar 0) (wC (.str "left"))) (wVar 1)))
    (t_draw_11)
@[irreducible] def t_draw_13 : WS := wSeq (wSet 2 (wOp modF (wOp idxF (wVar 0) (wC (.str "left"))) (wVar 1)))
    (t_draw_12)
@[irreducible] def t_draw_14 : WS := wSeq (wIfS (wB (wOp gtU (wOp idxF (wVar 0) (wC (.str "left"))) (wC (.int 0))))
    (t_draw_13) wNext)
    (t_draw_10)
@[irreducible] def t_draw_15 : WS := wSeq (wPut 0 (wC (.str "count")) (wOp addF (wOp idxF (wVar 0) (wC (.str "count"))) (wC (.int 1))))
    (t_draw_14)
def w_draw : WS := (wSeq (wPut 0 (wC (.str "count")) (wOp addF (wOp idxF (wVar 0) (wC (.str "count"))) (wC (.int 1))))
    (wSeq (wIfS (wB (wOp gtU (wOp idxF (wVar 0) (wC (.str "left"))) (wC (.int 0))))
    (wSeq (wSet 2 (wOp modF (wOp idxF (wVar 0) (wC (.str "left"))) (wVar 1)))
    (wSeq (wPut 0 (wC (.str "left")) (wOp fdivF (wOp idxF (wVar 0) (wC (.str "left"))) (wVar 1)))
    ((wRet (wVar 2))))) wNext)
    (wSeq (wSet 3 (wOp idxF (wVar 0) (wC (.str "at"))))
    (wSeq (wPut 0 (wC (.str "at")) (wOp addF (wVar 3) (wC (.int 1))))
    (wSeq (wSet 4 (wIf (wB (wOp neF (wOp idxF (wVar 0) (wC (.str "cells"))) (wLst wNil))) (wOp idxF (wOp idxF (wVar 0) (wC (.str "cells"))) (wOp modF (wVar 3) (wCB lenX (wCons (wOp idxF (wVar 0) (wC (.str "cells"))) wNil)))) (wC (.int 13))))
    (wSeq (wIfS (wAnd (wB (wOp geF (wVar 4) (wOp powF (wC (.int 10)) (wC (.int 18))))) (wB (wOp ltU (wVar 3) (wCB lenX (wCons (wOp idxF (wVar 0) (wC (.str "cells"))) wNil)))))
    (wSeq (wPut 0 (wC (.str "left")) (wOp fdivF (wVar 4) (wVar 1)))
    ((wRet (wOp modF (wVar 4) (wVar 1))))) wNext)
    (wSeq (wSet 5 (wOp modF (wOp addF (wOp addF (wOp modF (wVar 4) (wC (.int 1000000097))) (wOp mulF (wC (.int 60013)) (wOp idxF (wVar 0) (wC (.str "count"))))) (wC (.int 47))) (wC (.int 2147483579))))
    (wSeq (wSet 5 (wOp modF (wOp addF (wOp addF (wOp mulF (wVar 5) (wVar 5)) (wOp mulF (wC (.int 7368787)) (wOp idxF (wVar 0) (wC (.str "count"))))) (wC (.int 17))) (wC (.int 2147483549))))
    ((wRet (wOp modF (wOp fdivF (wOp modF (wOp addF (wOp mulF (wVar 5) (wVar 5)) (wOp mulF (wC (.int 29)) (wVar 5))) (wC (.int 2147483543))) (wC (.int 16))) (wVar 1))))))))))))
theorem w_draw_eq : w_draw = (t_draw_15) := by with_unfolding_all rfl
theorem df_draw {g : Gx} {k : Nat} (m_len : g.mg "len" = none) {f : Addr} {fd : FuncData} (Fn : Fun g.K "_law_draw" "_law_draw" s_draw f fd) : FnG g CX0 (k + 1) f fd ["_law_feed_here", "_law_many"] (spOf g.K 2 (fnW 2 6 w_draw)) :=
  fn_dl (N := ["_law_feed_here", "_law_many", "_law_figure", "_law_at", "_law_cell", "_law_mixed"]) Fn sc_draw (fun E => (ds_cons (ds_put (i := 0) rfl (by first | exact .inl rfl | exact .inr (.inl rfl) | exact .inr (.inr rfl)) de_str (de_op os_add (de_ix (de_var (i := 0) rfl (by first | exact .inl rfl | exact .inr (.inl rfl) | exact .inr (.inr rfl))) de_str) de_int))
    (ds_cons (ds_if (dt_cmp os_gtU (de_ix (de_var (i := 0) rfl (by first | exact .inl rfl | exact .inr (.inl rfl) | exact .inr (.inr rfl))) de_str) de_int rfl)
    (ds_cons (ds_set (i := 2) rfl (by first | exact .inl rfl | exact .inr rfl) (de_op os_mod (de_ix (de_var (i := 0) rfl (by first | exact .inl rfl | exact .inr (.inl rfl) | exact .inr (.inr rfl))) de_str) (de_var (i := 1) rfl (by first | exact .inl rfl | exact .inr (.inl rfl) | exact .inr (.inr rfl)))))
    (ds_cons (ds_put (i := 0) rfl (by first | exact .inl rfl | exact .inr (.inl rfl) | exact .inr (.inr rfl)) de_str (de_op os_fdiv (de_ix (de_var (i := 0) rfl (by first | exact .inl rfl | exact .inr (.inl rfl) | exact .inr (.inr rfl))) de_str) (de_var (i := 1) rfl (by first | exact .inl rfl | exact .inr (.inl rfl) | exact .inr (.inr rfl)))))
    (ds_one (ds_ret (de_var (i := 2) rfl (by first | exact .inl rfl | exact .inr (.inl rfl) | exact .inr (.inr rfl))))))) ds_nil)
    (ds_cons (ds_set (i := 3) rfl (by first | exact .inl rfl | exact .inr rfl) (de_ix (de_var (i := 0) rfl (by first | exact .inl rfl | exact .inr (.inl rfl) | exact .inr (.inr rfl))) de_str))
    (ds_cons (ds_put (i := 0) rfl (by first | exact .inl rfl | exact .inr (.inl rfl) | exact .inr (.inr rfl)) de_str (de_op os_add (de_var (i := 3) rfl (by first | exact .inl rfl | exact .inr (.inl rfl) | exact .inr (.inr rfl))) de_int))
    (ds_cons (ds_set (i := 4) rfl (by first | exact .inl rfl | exact .inr rfl) (de_ifx (dt_cmp os_ne (de_ix (de_var (i := 0) rfl (by first | exact .inl rfl | exact .inr (.inl rfl) | exact .inr (.inr rfl))) de_str) (de_lst da_nil) rfl) (de_ix (de_ix (de_var (i := 0) rfl (by first | exact .inl rfl | exact .inr (.inl rfl) | exact .inr (.inr rfl))) de_str) (de_op os_mod (de_var (i := 3) rfl (by first | exact .inl rfl | exact .inr (.inl rfl) | exact .inr (.inr rfl))) (de_callB cs_lenX rfl m_len rfl (da_cons (de_ix (de_var (i := 0) rfl (by first | exact .inl rfl | exact .inr (.inl rfl) | exact .inr (.inr rfl))) de_str) da_nil)))) de_int))
    (ds_cons (ds_if (dt_w (dw_and (dt_cmp os_ge (de_var (i := 4) rfl (by first | exact .inl rfl | exact .inr (.inl rfl) | exact .inr (.inr rfl))) (de_op os_pow de_int de_int) rfl) (dw_and1 (dt_cmp os_ltU (de_var (i := 3) rfl (by first | exact .inl rfl | exact .inr (.inl rfl) | exact .inr (.inr rfl))) (de_callB cs_lenX rfl m_len rfl (da_cons (de_ix (de_var (i := 0) rfl (by first | exact .inl rfl | exact .inr (.inl rfl) | exact .inr (.inr rfl))) de_str) da_nil)) rfl))))
    (ds_cons (ds_put (i := 0) rfl (by first | exact .inl rfl | exact .inr (.inl rfl) | exact .inr (.inr rfl)) de_str (de_op os_fdiv (de_var (i := 4) rfl (by first | exact .inl rfl | exact .inr (.inl rfl) | exact .inr (.inr rfl))) (de_var (i := 1) rfl (by first | exact .inl rfl | exact .inr (.inl rfl) | exact .inr (.inr rfl)))))
    (ds_one (ds_ret (de_op os_mod (de_var (i := 4) rfl (by first | exact .inl rfl | exact .inr (.inl rfl) | exact .inr (.inr rfl))) (de_var (i := 1) rfl (by first | exact .inl rfl | exact .inr (.inl rfl) | exact .inr (.inr rfl))))))) ds_nil)
    (ds_cons (ds_set (i := 5) rfl (by first | exact .inl rfl | exact .inr rfl) (de_op os_mod (de_op os_add (de_op os_add (de_op os_mod (de_var (i := 4) rfl (by first | exact .inl rfl | exact .inr (.inl rfl) | exact .inr (.inr rfl))) de_int) (de_op os_mul de_int (de_ix (de_var (i := 0) rfl (by first | exact .inl rfl | exact .inr (.inl rfl) | exact .inr (.inr rfl))) de_str))) de_int) de_int))
    (ds_cons (ds_set (i := 5) rfl (by first | exact .inl rfl | exact .inr rfl) (de_op os_mod (de_op os_add (de_op os_add (de_op os_mul (de_var (i := 5) rfl (by first | exact .inl rfl | exact .inr (.inl rfl) | exact .inr (.inr rfl))) (de_var (i := 5) rfl (by first | exact .inl rfl | exact .inr (.inl rfl) | exact .inr (.inr rfl)))) (de_op os_mul de_int (de_ix (de_var (i := 0) rfl (by first | exact .inl rfl | exact .inr (.inl rfl) | exact .inr (.inr rfl))) de_str))) de_int) de_int))
    (ds_one (ds_ret (de_op os_mod (de_op os_fdiv (de_op os_mod (de_op os_add (de_op os_mul (de_var (i := 5) rfl (by first | exact .inl rfl | exact .inr (.inl rfl) | exact .inr (.inr rfl))) (de_var (i := 5) rfl (by first | exact .inl rfl | exact .inr (.inl rfl) | exact .inr (.inr rfl)))) (de_op os_mul de_int (de_var (i := 5) rfl (by first | exact .inl rfl | exact .inr (.inl rfl) | exact .inr (.inr rfl))))) de_int) de_int) (de_var (i := 1) rfl (by first | exact .inl rfl | exact .inr (.inl rfl) | exact .inr (.inr rfl))))))))))))))) (by decide)
theorem bd_draw {K : PySem.W.Frag} {f : Addr} {fd : FuncData} (Fn : Fun K "_law_draw" "_law_draw" s_draw f fd) : Binds K fd ["_law_feed_here", "_law_many"] [] := Fn.binds (ps := ["_law_feed_here", "_law_many"]) fun _ _ _ _ _ _ us hl => match us, hl with | [_, _], _ => rfl
theorem cal_draw {g : Gx} {k : Nat} {W : FSpec} (m_len : g.mg "len" = none) (h : Got g "_law_draw" s_draw) (im : ∀ ss Ex P, W ss Ex P → fnW 2 6 w_draw ss Ex P) : Cal g CX0 (k + 1) "_law_draw" ["_law_feed_here", "_law_many"] W := by
  obtain ⟨f, fd, m, F⟩ := h
  exact Cal.imp ⟨f, fd, df_draw      m_len   F, m, F.kp, bd_draw F⟩ im
theorem sc_names : FnScope ["_law_feed_here", "_law_letters", "_law_step_now", "_law_found", "_law_rest", "_law_k", "_law_word", "_law_sign"] ["_law_feed_here"] (defScope s_names) := ⟨rfl, rfl, rfl, by decide +kernel, rfl, by decide +kernel, by decide +kernel⟩
@[irreducible] def t_names_1 (C_draw : FSpec) : WS := (wRet (wVar 3))
@[irreducible] def t_names_2 (C_draw : FSpec) : WS := (wDrop (wApp 3 (wJoin (wC (.str "")) (wLc (wIt (wVar 6)) (gN 7) wYes (wOp idxF (wVar 1) (wOp modF (wOp addF (wTm findF (wVar 1) (wCons (wVar 7) wNil)) (wVar 2)) (wC (.int 26)))) [7]))))
@[irreducible] def t_names_3 (C_draw : FSpec) : WS := wSeq (wSet 6 (wPopI 4 (wCall 2 C_draw [true, false] (wCons (wVar 0) (wCons (wCB lenX (wCons (wVar 4) wNil)) wNil)))))
    (t_names_2 C_draw)
@[irreducible] def t_names_4 (C_draw : FSpec) : WS := wSeq (wFor (wRng (wCons (wOp addF (wC (.int 2)) (wCall 2 C_draw [true, false] (wCons (wVar 0) (wCons (wC (.int 7)) wNil)))) wNil) rng1) (gN 5)
    (t_names_3 C_draw))
    (t_names_1 C_draw)
@[irreducible] def t_names_5 (C_draw : FSpec) : WS := wSeq (wSet 4 (wLst (wCons (wC (.str "a")) (wCons (wC (.str "b")) (wCons (wC (.str "ab")) (wCons (wC (.str "abc")) (wCons (wC (.str "z")) (wCons (wC (.str "abcdefgh")) (wCons (wC (.str "ba")) (wCons (wC (.str "bb")) wNil))))))))))
    (t_names_4 C_draw)
@[irreducible] def t_names_6 (C_draw : FSpec) : WS := wSeq (wParO [1, 2, 3] (wConsO (wC (.str "abcdefghijklmnopqrstuvwxyz")) (wConsO (wCall 2 C_draw [true, false] (wCons (wVar 0) (wCons (wC (.int 26)) wNil))) (wConsO (wLst wNil) wNil))))
    (t_names_5 C_draw)
def w_names (C_draw : FSpec) : WS := (wSeq (wParO [1, 2, 3] (wConsO (wC (.str "abcdefghijklmnopqrstuvwxyz")) (wConsO (wCall 2 C_draw [true, false] (wCons (wVar 0) (wCons (wC (.int 26)) wNil))) (wConsO (wLst wNil) wNil))))
    (wSeq (wSet 4 (wLst (wCons (wC (.str "a")) (wCons (wC (.str "b")) (wCons (wC (.str "ab")) (wCons (wC (.str "abc")) (wCons (wC (.str "z")) (wCons (wC (.str "abcdefgh")) (wCons (wC (.str "ba")) (wCons (wC (.str "bb")) wNil))))))))))
    (wSeq (wFor (wRng (wCons (wOp addF (wC (.int 2)) (wCall 2 C_draw [true, false] (wCons (wVar 0) (wCons (wC (.int 7)) wNil)))) wNil) rng1) (gN 5)
    (wSeq (wSet 6 (wPopI 4 (wCall 2 C_draw [true, false] (wCons (wVar 0) (wCons (wCB lenX (wCons (wVar 4) wNil)) wNil)))))
    ((wDrop (wApp 3 (wJoin (wC (.str "")) (wLc (wIt (wVar 6)) (gN 7) wYes (wOp idxF (wVar 1) (wOp modF (wOp addF (wTm findF (wVar 1) (wCons (wVar 7) wNil)) (wVar 2)) (wC (.int 26)))) [7])))))))
    ((wRet (wVar 3))))))
theorem w_names_eq (C_draw : FSpec) : w_names C_draw = (t_names_6 C_draw) := by with_unfolding_all rfl
theorem df_names {g : Gx} {k : Nat} {C_draw : FSpec} (mono_draw : FMono C_draw) (c_draw : Cal g CX0 k "_law_draw" ["_law_feed_here", "_law_many"] C_draw) (m_range : g.mg "range" = none) (m_len : g.mg "len" = none) {f : Addr} {fd : FuncData} (Fn : Fun g.K "_law_names" "_law_names" s_names f fd) : FnG g CX0 (k + 1) f fd ["_law_feed_here"] (spOf g.K 1 (fnW 1 8 (w_names C_draw))) :=
  fn_dl (N := ["_law_feed_here", "_law_letters", "_law_step_now", "_law_found", "_law_rest", "_law_k", "_law_word", "_law_sign"]) Fn sc_names (fun E => (ds_cons (ds_parU (dao_cons de_str (dao_cons (de_cal (ms := [true, false]) c_draw mono_draw rfl (da_cons (de_var (i := 0) rfl (by first | exact .inl rfl | exact .inr (.inl rfl) | exact .inr (.inr rfl))) (da_cons de_int da_nil))) (dao_cons (de_lst da_nil) dao_nil))) (dns_cons (i := 1) rfl (by first | exact .inl rfl | exact .inr rfl) (dns_cons (i := 2) rfl (by first | exact .inl rfl | exact .inr rfl) (dns_cons (i := 3) rfl (by first | exact .inl rfl | exact .inr rfl) dns_nil))) rfl (by decide))
    (ds_cons (ds_set (i := 4) rfl (by first | exact .inl rfl | exact .inr rfl) (de_lst (da_cons de_str (da_cons de_str (da_cons de_str (da_cons de_str (da_cons de_str (da_cons de_str (da_cons de_str (da_cons de_str da_nil))))))))))
    (ds_cons (ds_for (di_rng1 rfl m_range (da_cons (de_op os_add de_int (de_cal (ms := [true, false]) c_draw mono_draw rfl (da_cons (de_var (i := 0) rfl (by first | exact .inl rfl | exact .inr (.inl rfl) | exact .inr (.inr rfl))) (da_cons de_int da_nil)))) da_nil)) (dg_name (i := 5) rfl (by first | exact .inl rfl | exact .inr rfl))
    (ds_cons (ds_set (i := 6) rfl (by first | exact .inl rfl | exact .inr rfl) (de_popI (i := 4) rfl (by first | exact .inl rfl | exact .inr (.inl rfl) | exact .inr (.inr rfl)) (de_cal (ms := [true, false]) c_draw mono_draw rfl (da_cons (de_var (i := 0) rfl (by first | exact .inl rfl | exact .inr (.inl rfl) | exact .inr (.inr rfl))) (da_cons (de_callB cs_lenX rfl m_len rfl (da_cons (de_var (i := 4) rfl (by first | exact .inl rfl | exact .inr (.inl rfl) | exact .inr (.inr rfl))) da_nil)) da_nil)))))
    (ds_one (ds_expr (de_app (i := 3) rfl (by first | exact .inl rfl | exact .inr (.inl rfl) | exact .inr (.inr rfl)) (de_join de_str (de_lc (own := [("_law_sign", 7)]) cx0_ok (di_seq (de_var (i := 6) rfl (by first | exact .inl rfl | exact .inr (.inl rfl) | exact .inr (.inr rfl)))) rfl (dg_name (i := 7) rfl (by first | exact .inl rfl | exact .inr rfl)) rfl dts_nil (de_ix (de_var (i := 1) rfl (by first | exact .inl rfl | exact .inr (.inl rfl) | exact .inr (.inr rfl))) (de_op os_mod (de_op os_add (de_find (de_var (i := 1) rfl (by first | exact .inl rfl | exact .inr (.inl rfl) | exact .inr (.inr rfl))) (da_cons (de_var (i := 7) rfl (by first | exact .inl rfl | exact .inr (.inl rfl) | exact .inr (.inr rfl))) da_nil)) (de_var (i := 2) rfl (by first | exact .inl rfl | exact .inr (.inl rfl) | exact .inr (.inr rfl)))) de_int)))))))))
    (ds_one (ds_ret (de_var (i := 3) rfl (by first | exact .inl rfl | exact .inr (.inl rfl) | exact .inr (.inr rfl))))))))) (by decide)
theorem bd_names {K : PySem.W.Frag} {f : Addr} {fd : FuncData} (Fn : Fun K "_law_names" "_law_names" s_names f fd) : Binds K fd ["_law_feed_here"] [] := Fn.binds (ps := ["_law_feed_here"]) fun _ _ _ _ _ _ us hl => match us, hl with | [_], _ => rfl
theorem cal_names {g : Gx} {k : Nat} {C_draw : FSpec} {W : FSpec} (mono_draw : FMono C_draw) (c_draw : Cal g CX0 k "_law_draw" ["_law_feed_here", "_law_many"] C_draw) (m_range : g.mg "range" = none) (m_len : g.mg "len" = none) (h : Got g "_law_names" s_names) (im : ∀ ss Ex P, W ss Ex P → fnW 1 8 (w_names C_draw) ss Ex P) : Cal g CX0 (k + 1) "_law_names" ["_law_feed_here"] W := by
  obtain ⟨f, fd, m, F⟩ := h
  exact Cal.imp ⟨f, fd, df_names mono_draw c_draw     m_range m_len   F, m, F.kp, bd_names F⟩ im
theorem sc_tree : FnScope ["_law_feed_here", "_law_names_here", "_law_many", "_law_entries", "_law_kinds", "_law_pool", "_law_deep", "_law_k", "_law_drawers", "_law_node", "_law_drawer", "_law_name", "_law_rows"] ["_law_feed_here", "_law_names_here", "_law_many"] (defScope s_tree) := ⟨rfl, rfl, rfl, by decide +kernel, rfl, by decide +kernel, by decide +kernel⟩
@[irreducible] def t_tree_1 (C_draw : FSpec) : WS := (wRet (wTup (wCons (wCB tupleF (wCons (wVar 12) wNil)) (wCons (wOp addF (wOp addF (wOp idxF (wOp idxF (wVar 12) (wNeg (wC (.int 1)))) (wC (.int 0))) (wC (.int 1))) (wCall 2 C_draw [true, false] (wCons (wVar 0) (wCons (wC (.int 3)) wNil)))) wNil))))
@[irreducible] def t_tree_2 (C_draw : FSpec) : WS := (wDrop (wApp 12 (wTup (wCons (wVar 9) (wCons (wOp idxF (wVar 4) (wVar 9)) (wCons (wCB tupleF (wCons (wSortIt (wIxO (wVar 3) (wVar 9))) wNil)) wNil))))))
@[irreducible] def t_tree_3 (C_draw : FSpec) : WS := wSeq (wFor (wIt (wCB sortT (wCons (wVar 4) wNil))) (gN 9)
    (t_tree_2 C_draw))
    (t_tree_1 C_draw)
@[irreducible] def t_tree_4 (C_draw : FSpec) : WS := wSeq (wSet 12 (wLst wNil))
    (t_tree_3 C_draw)
@[irreducible] def t_tree_5 (C_draw : FSpec) : WS := (wAsgO (wTgS (wIxO (wVar 3) (wVar 10)) (wVar 11)) (wVar 9))
@[irreducible] def t_tree_6 (C_draw : FSpec) : WS := (wIfS (wAnd (wB (wOp (inT true) (wVar 11) (wIxO (wVar 3) (wVar 10)))) (wB (wOp eqF (wCall 2 C_draw [true, false] (wCons (wVar 0) (wCons (wC (.int 2)) wNil))) (wC (.int 0)))))
    (t_tree_5 C_draw) wNext)
@[irreducible] def t_tree_7 (C_draw : FSpec) : WS := wSeq (wSet 11 (wOp idxF (wVar 1) (wCall 2 C_draw [true, false] (wCons (wVar 0) (wCons (wCB lenX (wCons (wVar 1) wNil)) wNil)))))
    (t_tree_6 C_draw)
@[irreducible] def t_tree_8 (C_draw : FSpec) : WS := wSeq (wSet 10 (wOp idxF (wVar 8) (wCall 2 C_draw [true, false] (wCons (wVar 0) (wCons (wCB lenX (wCons (wVar 8) wNil)) wNil)))))
    (t_tree_7 C_draw)
@[irreducible] def t_tree_9 (C_draw : FSpec) : WS := wSeq (wLock 4 (wSet 8 (wLc (wItK 4) (gN 9) (wB (wOp eqF (wOp idxR (wVar 4) (wVar 9)) (wC (.str "drawer")))) (wVar 9) [9])))
    (t_tree_8 C_draw)
@[irreducible] def t_tree_10 (C_draw : FSpec) : WS := wSeq (wFor (wIt (wLockE 4 (wLc (wItK 4) (gN 9) (wB (wOp eqF (wOp idxR (wVar 4) (wVar 9)) (wC (.str "sheet")))) (wVar 9) [9]))) (gN 9)
    (t_tree_9 C_draw))
    (t_tree_4 C_draw)
@[irreducible] def t_tree_11 (C_draw : FSpec) : WS := (wAsgP ((wTgS (wVar 3) (wVar 9)) :: ((wTgS (wIxO (wVar 3) (wVar 10)) (wVar 11)) :: [])) (wConsO (fun _ δ P => P (.n (.k [])) δ) (wConsO (wVar 9) wNil)))
@[irreducible] def t_tree_12 (C_draw : FSpec) : WS := wSeq (wPut 4 (wVar 9) (wOp idxF (wLst (wCons (wC (.str "drawer")) (wCons (wC (.str "drawer")) (wCons (wC (.str "sheet")) wNil)))) (wCall 2 C_draw [true, false] (wCons (wVar 0) (wCons (wC (.int 3)) wNil)))))
    (t_tree_11 C_draw)
@[irreducible] def t_tree_13 (C_draw : FSpec) : WS := (wIfS (wAnd (wB (wOp (inT true) (wVar 11) (wIxO (wVar 3) (wVar 10)))) (wB (wOp (inT true) (wVar 9) (wVar 4))))
    (t_tree_12 C_draw) wNext)
@[irreducible] def t_tree_14 (C_draw : FSpec) : WS := wSeq (wSet 9 (wOp idxF (wVar 5) (wCall 2 C_draw [true, false] (wCons (wVar 0) (wCons (wCB lenX (wCons (wVar 5) wNil)) wNil)))))
    (t_tree_13 C_draw)
@[irreducible] def t_tree_15 (C_draw : FSpec) : WS := wSeq (wSet 11 (wOp idxF (wVar 1) (wCall 2 C_draw [true, false] (wCons (wVar 0) (wCons (wCB lenX (wCons (wVar 1) wNil)) wNil)))))
    (t_tree_14 C_draw)
@[irreducible] def t_tree_16 (C_draw : FSpec) : WS := (wSet 10 (wOp idxF (wVar 8) (wCall 2 C_draw [true, false] (wCons (wVar 0) (wCons (wCB lenX (wCons (wVar 8) wNil)) wNil)))))
@[irreducible] def t_tree_17 (C_draw : FSpec) : WS := wSeq (wIfS (wOr (wB (wOp eqF (wVar 6) (wC (.int 0)))) (wB (wOp eqF (wCall 2 C_draw [true, false] (wCons (wVar 0) (wCons (wC (.int 2)) wNil))) (wC (.int 1)))))
    (t_tree_16 C_draw) wNext)
    (t_tree_15 C_draw)
@[irreducible] def t_tree_18 (C_draw : FSpec) : WS := wSeq (wSet 10 (wOp idxF (wVar 8) (wNeg (wC (.int 1)))))
    (t_tree_17 C_draw)
@[irreducible] def t_tree_19 (C_draw : FSpec) : WS := wSeq (wLock 4 (wSet 8 (wLc (wItK 4) (gN 9) (wB (wOp eqF (wOp idxR (wVar 4) (wVar 9)) (wC (.str "drawer")))) (wVar 9) [9])))
    (t_tree_18 C_draw)
@[irreducible] def t_tree_20 (C_draw : FSpec) : WS := wSeq (wFor (wRng (wCons (wVar 2) wNil) rng1) (gN 7)
    (t_tree_19 C_draw))
    (t_tree_10 C_draw)
@[irreducible] def t_tree_21 (C_draw : FSpec) : WS := wSeq (wSet 6 (wCall 2 C_draw [true, false] (wCons (wVar 0) (wCons (wC (.int 2)) wNil))))
    (t_tree_20 C_draw)
@[irreducible] def t_tree_22 (C_draw : FSpec) : WS := wSeq (wSet 5 (wLstRg2 (wC (.int 1)) (wOp addF (wOp addF (wVar 2) (wC (.int 2))) (wCall 2 C_draw [true, false] (wCons (wVar 0) (wCons (wC (.int 3)) wNil))))))
    (t_tree_21 C_draw)
@[irreducible] def t_tree_23 (C_draw : FSpec) : WS := wSeq (wParO [3, 4] (wConsO (wDisp1 (wC (.int 0)) (fun _ δ P => P (.n (.k [])) δ)) (wConsO (wDisp (((wC (.int 0)), (wC (.str "drawer"))) :: [])) wNil)))
    (t_tree_22 C_draw)
def w_tree (C_draw : FSpec) : WS := (wSeq (wParO [3, 4] (wConsO (wDisp1 (wC (.int 0)) (fun _ δ P => P (.n (.k [])) δ)) (wConsO (wDisp (((wC (.int 0)), (wC (.str "drawer"))) :: [])) wNil)))
    (wSeq (wSet 5 (wLstRg2 (wC (.int 1)) (wOp addF (wOp addF (wVar 2) (wC (.int 2))) (wCall 2 C_draw [true, false] (wCons (wVar 0) (wCons (wC (.int 3)) wNil))))))
    (wSeq (wSet 6 (wCall 2 C_draw [true, false] (wCons (wVar 0) (wCons (wC (.int 2)) wNil))))
    (wSeq (wFor (wRng (wCons (wVar 2) wNil) rng1) (gN 7)
    (wSeq (wLock 4 (wSet 8 (wLc (wItK 4) (gN 9) (wB (wOp eqF (wOp idxR (wVar 4) (wVar 9)) (wC (.str "drawer")))) (wVar 9) [9])))
    (wSeq (wSet 10 (wOp idxF (wVar 8) (wNeg (wC (.int 1)))))
    (wSeq (wIfS (wOr (wB (wOp eqF (wVar 6) (wC (.int 0)))) (wB (wOp eqF (wCall 2 C_draw [true, false] (wCons (wVar 0) (wCons (wC (.int 2)) wNil))) (wC (.int 1)))))
    ((wSet 10 (wOp idxF (wVar 8) (wCall 2 C_draw [true, false] (wCons (wVar 0) (wCons (wCB lenX (wCons (wVar 8) wNil)) wNil)))))) wNext)
    (wSeq (wSet 11 (wOp idxF (wVar 1) (wCall 2 C_draw [true, false] (wCons (wVar 0) (wCons (wCB lenX (wCons (wVar 1) wNil)) wNil)))))
    (wSeq (wSet 9 (wOp idxF (wVar 5) (wCall 2 C_draw [true, false] (wCons (wVar 0) (wCons (wCB lenX (wCons (wVar 5) wNil)) wNil)))))
    ((wIfS (wAnd (wB (wOp (inT true) (wVar 11) (wIxO (wVar 3) (wVar 10)))) (wB (wOp (inT true) (wVar 9) (wVar 4))))
    (wSeq (wPut 4 (wVar 9) (wOp idxF (wLst (wCons (wC (.str "drawer")) (wCons (wC (.str "drawer")) (wCons (wC (.str "sheet")) wNil)))) (wCall 2 C_draw [true, false] (wCons (wVar 0) (wCons (wC (.int 3)) wNil)))))
    ((wAsgP ((wTgS (wVar 3) (wVar 9)) :: ((wTgS (wIxO (wVar 3) (wVar 10)) (wVar 11)) :: [])) (wConsO (fun _ δ P => P (.n (.k [])) δ) (wConsO (wVar 9) wNil))))) wNext))))))))
    (wSeq (wFor (wIt (wLockE 4 (wLc (wItK 4) (gN 9) (wB (wOp eqF (wOp idxR (wVar 4) (wVar 9)) (wC (.str "sheet")))) (wVar 9) [9]))) (gN 9)
    (wSeq (wLock 4 (wSet 8 (wLc (wItK 4) (gN 9) (wB (wOp eqF (wOp idxR (wVar 4) (wVar 9)) (wC (.str "drawer")))) (wVar 9) [9])))
    (wSeq (wSet 10 (wOp idxF (wVar 8) (wCall 2 C_draw [true, false] (wCons (wVar 0) (wCons (wCB lenX (wCons (wVar 8) wNil)) wNil)))))
    (wSeq (wSet 11 (wOp idxF (wVar 1) (wCall 2 C_draw [true, false] (wCons (wVar 0) (wCons (wCB lenX (wCons (wVar 1) wNil)) wNil)))))
    ((wIfS (wAnd (wB (wOp (inT true) (wVar 11) (wIxO (wVar 3) (wVar 10)))) (wB (wOp eqF (wCall 2 C_draw [true, false] (wCons (wVar 0) (wCons (wC (.int 2)) wNil))) (wC (.int 0)))))
    ((wAsgO (wTgS (wIxO (wVar 3) (wVar 10)) (wVar 11)) (wVar 9))) wNext))))))
    (wSeq (wSet 12 (wLst wNil))
    (wSeq (wFor (wIt (wCB sortT (wCons (wVar 4) wNil))) (gN 9)
    ((wDrop (wApp 12 (wTup (wCons (wVar 9) (wCons (wOp idxF (wVar 4) (wVar 9)) (wCons (wCB tupleF (wCons (wSortIt (wIxO (wVar 3) (wVar 9))) wNil)) wNil))))))))
    ((wRet (wTup (wCons (wCB tupleF (wCons (wVar 12) wNil)) (wCons (wOp addF (wOp addF (wOp idxF (wOp idxF (wVar 12) (wNeg (wC (.int 1)))) (wC (.int 0))) (wC (.int 1))) (wCall 2 C_draw [true, false] (wCons (wVar 0) (wCons (wC (.int 3)) wNil)))) wNil))))))))))))
theorem w_tree_eq (C_draw : FSpec) : w_tree C_draw = (t_tree_23 C_draw) := by with_unfolding_all rfl
theorem df_tree {g : Gx} {k : Nat} {C_draw : FSpec} (mono_draw : FMono C_draw) (c_draw : Cal g CX0 k "_law_draw" ["_law_feed_here", "_law_many"] C_draw) (m_tuple : g.mg "tuple" = none) (m_sorted : g.mg "sorted" = none) (m_len : g.mg "len" = none) (m_range : g.mg "range" = none) (m_list : g.mg "list" = none) {f : Addr} {fd : FuncData} (Fn : Fun g.K "_law_tree" "_law_tree" s_tree f fd) : FnG g CX0 (k + 1) f fd ["_law_feed_here", "_law_names_here", "_law_many"] (spOf g.K 3 (fnW 3 13 (w_tree C_draw))) :=
  fn_dl (N := ["_law_feed_here", "_law_names_here", "_law_many", "_law_entries", "_law_kinds", "_law_pool", "_law_deep", "_law_k", "_law_drawers", "_law_node", "_law_drawer", "_law_name", "_law_rows"]) Fn sc_tree (fun E => (ds_cons (ds_parU (dao_cons (de_disp1 de_int de_dnew) (dao_cons (de_disp (dps_cons de_int de_str dps_nil)) dao_nil)) (dns_cons (i := 3) rfl (by first | exact .inl rfl | exact .inr rfl) (dns_cons (i := 4) rfl (by first | exact .inl rfl | exact .inr rfl) dns_nil)) rfl (by decide))
    (ds_cons (ds_set (i := 5) rfl (by first | exact .inl rfl | exact .inr rfl) (de_listRg2 rfl m_list rfl m_range de_int (de_op os_add (de_op os_add (de_var (i := 2) rfl (by first | exact .inl rfl | exact .inr (.inl rfl) | exact .inr (.inr rfl))) de_int) (de_cal (ms := [true, false]) c_draw mono_draw rfl (da_cons (de_var (i := 0) rfl (by first | exact .inl rfl | exact .inr (.inl rfl) | exact .inr (.inr rfl))) (da_cons de_int da_nil))))))
    (ds_cons (ds_set (i := 6) rfl (by first | exact .inl rfl | exact .inr rfl) (de_cal (ms := [true, false]) c_draw mono_draw rfl (da_cons (de_var (i := 0) rfl (by first | exact .inl rfl | exact .inr (.inl rfl) | exact .inr (.inr rfl))) (da_cons de_int da_nil))))
    (ds_cons (ds_for (di_rng1 rfl m_range (da_cons (de_var (i := 2) rfl (by first | exact .inl rfl | exact .inr (.inl rfl) | exact .inr (.inr rfl))) da_nil)) (dg_name (i := 7) rfl (by first | exact .inl rfl | exact .inr rfl))
    (ds_cons (ds_lock (i := 4) (ds_setLc (own := [("_law_node", 9)]) (i := 8) cx0_ok rfl rfl rfl rfl rfl (di_keys (i := 4) rfl (by first | exact .inl rfl | exact .inr (.inl rfl) | exact .inr (.inr rfl))) rfl (dg_name (i := 9) rfl (by first | exact .inl rfl | exact .inr rfl)) rfl (dts_one (dt_cmp os_eq (de_ixR (de_var (i := 4) rfl (by first | exact .inl rfl | exact .inr (.inl rfl) | exact .inr (.inr rfl))) (de_var (i := 9) rfl (by first | exact .inl rfl | exact .inr (.inl rfl) | exact .inr (.inr rfl)))) de_str rfl)) (de_var (i := 9) rfl (by first | exact .inl rfl | exact .inr (.inl rfl) | exact .inr (.inr rfl)))))
    (ds_cons (ds_set (i := 10) rfl (by first | exact .inl rfl | exact .inr rfl) (de_ix (de_var (i := 8) rfl (by first | exact .inl rfl | exact .inr (.inl rfl) | exact .inr (.inr rfl))) (de_neg de_int)))
    (ds_cons (ds_if (dt_w (dw_or (dt_cmp os_eq (de_var (i := 6) rfl (by first | exact .inl rfl | exact .inr (.inl rfl) | exact .inr (.inr rfl))) de_int rfl) (dw_or1 (dt_cmp os_eq (de_cal (ms := [true, false]) c_draw mono_draw rfl (da_cons (de_var (i := 0) rfl (by first | exact .inl rfl | exact .inr (.inl rfl) | exact .inr (.inr rfl))) (da_cons de_int da_nil))) de_int rfl))))
    (ds_one (ds_set (i := 10) rfl (by first | exact .inl rfl | exact .inr rfl) (de_ix (de_var (i := 8) rfl (by first | exact .inl rfl | exact .inr (.inl rfl) | exact .inr (.inr rfl))) (de_cal (ms := [true, false]) c_draw mono_draw rfl (da_cons (de_var (i := 0) rfl (by first | exact .inl rfl | exact .inr (.inl rfl) | exact .inr (.inr rfl))) (da_cons (de_callB cs_lenX rfl m_len rfl (da_cons (de_var (i := 8) rfl (by first | exact .inl rfl | exact .inr (.inl rfl) | exact .inr (.inr rfl))) da_nil)) da_nil)))))) ds_nil)
    (ds_cons (ds_set (i := 11) rfl (by first | exact .inl rfl | exact .inr rfl) (de_ix (de_var (i := 1) rfl (by first | exact .inl rfl | exact .inr (.inl rfl) | exact .inr (.inr rfl))) (de_cal (ms := [true, false]) c_draw mono_draw rfl (da_cons (de_var (i := 0) rfl (by first | exact .inl rfl | exact .inr (.inl rfl) | exact .inr (.inr rfl))) (da_cons (de_callB cs_lenX rfl m_len rfl (da_cons (de_var (i := 1) rfl (by first | exact .inl rfl | exact .inr (.inl rfl) | exact .inr (.inr rfl))) da_nil)) da_nil)))))
    (ds_cons (ds_set (i := 9) rfl (by first | exact .inl rfl | exact .inr rfl) (de_ix (de_var (i := 5) rfl (by first | exact .inl rfl | exact .inr (.inl rfl) | exact .inr (.inr rfl))) (de_cal (ms := [true, false]) c_draw mono_draw rfl (da_cons (de_var (i := 0) rfl (by first | exact .inl rfl | exact .inr (.inl rfl) | exact .inr (.inr rfl))) (da_cons (de_callB cs_lenX rfl m_len rfl (da_cons (de_var (i := 5) rfl (by first | exact .inl rfl | exact .inr (.inl rfl) | exact .inr (.inr rfl))) da_nil)) da_nil)))))
    (ds_one (ds_if (dt_w (dw_and (dt_cmp os_notinT (de_var (i := 11) rfl (by first | exact .inl rfl | exact .inr (.inl rfl) | exact .inr (.inr rfl))) (de_ixO (de_var (i := 3) rfl (by first | exact .inl rfl | exact .inr (.inl rfl) | exact .inr (.inr rfl))) (de_var (i := 10) rfl (by first | exact .inl rfl | exact .inr (.inl rfl) | exact .inr (.inr rfl)))) rfl) (dw_and1 (dt_cmp os_notinT (de_var (i := 9) rfl (by first | exact .inl rfl | exact .inr (.inl rfl) | exact .inr (.inr rfl))) (de_var (i := 4) rfl (by first | exact .inl rfl | exact .inr (.inl rfl) | exact .inr (.inr rfl))) rfl))))
    (ds_cons (ds_put (i := 4) rfl (by first | exact .inl rfl | exact .inr (.inl rfl) | exact .inr (.inr rfl)) (de_var (i := 9) rfl (by first | exact .inl rfl | exact .inr (.inl rfl) | exact .inr (.inr rfl))) (de_ix (de_lst (da_cons de_str (da_cons de_str (da_cons de_str da_nil)))) (de_cal (ms := [true, false]) c_draw mono_draw rfl (da_cons (de_var (i := 0) rfl (by first | exact .inl rfl | exact .inr (.inl rfl) | exact .inr (.inr rfl))) (da_cons de_int da_nil)))))
    (ds_one (ds_asgP (dao_cons de_dnew (dao_cons (de_var (i := 9) rfl (by first | exact .inl rfl | exact .inr (.inl rfl) | exact .inr (.inr rfl))) dao_nil)) (dtgs_cons (dtg_sub (de_var (i := 3) rfl (by first | exact .inl rfl | exact .inr (.inl rfl) | exact .inr (.inr rfl))) (de_var (i := 9) rfl (by first | exact .inl rfl | exact .inr (.inl rfl) | exact .inr (.inr rfl)))) (dtgs_cons (dtg_sub (de_ixO (de_var (i := 3) rfl (by first | exact .inl rfl | exact .inr (.inl rfl) | exact .inr (.inr rfl))) (de_var (i := 10) rfl (by first | exact .inl rfl | exact .inr (.inl rfl) | exact .inr (.inr rfl)))) (de_var (i := 11) rfl (by first | exact .inl rfl | exact .inr (.inl rfl) | exact .inr (.inr rfl)))) dtgs_nil)) rfl))) ds_nil))))))))
    (ds_cons (ds_for (di_seq (de_lock (i := 4) (de_lc (own := [("_law_node", 9)]) cx0_ok (di_keys (i := 4) rfl (by first | exact .inl rfl | exact .inr (.inl rfl) | exact .inr (.inr rfl))) rfl (dg_name (i := 9) rfl (by first | exact .inl rfl | exact .inr rfl)) rfl (dts_one (dt_cmp os_eq (de_ixR (de_var (i := 4) rfl (by first | exact .inl rfl | exact .inr (.inl rfl) | exact .inr (.inr rfl))) (de_var (i := 9) rfl (by first | exact .inl rfl | exact .inr (.inl rfl) | exact .inr (.inr rfl)))) de_str rfl)) (de_var (i := 9) rfl (by first | exact .inl rfl | exact .inr (.inl rfl) | exact .inr (.inr rfl)))))) (dg_name (i := 9) rfl (by first | exact .inl rfl | exact .inr rfl))
    (ds_cons (ds_lock (i := 4) (ds_setLc (own := [("_law_node", 9)]) (i := 8) cx0_ok rfl rfl rfl rfl rfl (di_keys (i := 4) rfl (by first | exact .inl rfl | exact .inr (.inl rfl) | exact .inr (.inr rfl))) rfl (dg_name (i := 9) rfl (by first | exact .inl rfl | exact .inr rfl)) rfl (dts_one (dt_cmp os_eq (de_ixR (de_var (i := 4) rfl (by first | exact .inl rfl | exact .inr (.inl rfl) | exact .inr (.inr rfl))) (de_var (i := 9) rfl (by first | exact .inl rfl | exact .inr (.inl rfl) | exact .inr (.inr rfl)))) de_str rfl)) (de_var (i := 9) rfl (by first | exact .inl rfl | exact .inr (.inl rfl) | exact .inr (.inr rfl)))))
    (ds_cons (ds_set (i := 10) rfl (by first | exact .inl rfl | exact .inr rfl) (de_ix (de_var (i := 8) rfl (by first | exact .inl rfl | exact .inr (.inl rfl) | exact .inr (.inr rfl))) (de_cal (ms := [true, false]) c_draw mono_draw rfl (da_cons (de_var (i := 0) rfl (by first | exact .inl rfl | exact .inr (.inl rfl) | exact .inr (.inr rfl))) (da_cons (de_callB cs_lenX rfl m_len rfl (da_cons (de_var (i := 8) rfl (by first | exact .inl rfl | exact .inr (.inl rfl) | exact .inr (.inr rfl))) da_nil)) da_nil)))))
    (ds_cons (ds_set (i := 11) rfl (by first | exact .inl rfl | exact .inr rfl) (de_ix (de_var (i := 1) rfl (by first | exact .inl rfl | exact .inr (.inl rfl) | exact .inr (.inr rfl))) (de_cal (ms := [true, false]) c_draw mono_draw rfl (da_cons (de_var (i := 0) rfl (by first | exact .inl rfl | exact .inr (.inl rfl) | exact .inr (.inr rfl))) (da_cons (de_callB cs_lenX rfl m_len rfl (da_cons (de_var (i := 1) rfl (by first | exact .inl rfl | exact .inr (.inl rfl) | exact .inr (.inr rfl))) da_nil)) da_nil)))))
    (ds_one (ds_if (dt_w (dw_and (dt_cmp os_notinT (de_var (i := 11) rfl (by first | exact .inl rfl | exact .inr (.inl rfl) | exact .inr (.inr rfl))) (de_ixO (de_var (i := 3) rfl (by first | exact .inl rfl | exact .inr (.inl rfl) | exact .inr (.inr rfl))) (de_var (i := 10) rfl (by first | exact .inl rfl | exact .inr (.inl rfl) | exact .inr (.inr rfl)))) rfl) (dw_and1 (dt_cmp os_eq (de_cal (ms := [true, false]) c_draw mono_draw rfl (da_cons (de_var (i := 0) rfl (by first | exact .inl rfl | exact .inr (.inl rfl) | exact .inr (.inr rfl))) (da_cons de_int da_nil))) de_int rfl))))
    (ds_one (ds_asgO (de_var (i := 9) rfl (by first | exact .inl rfl | exact .inr (.inl rfl) | exact .inr (.inr rfl))) (dtg_sub (de_ixO (de_var (i := 3) rfl (by first | exact .inl rfl | exact .inr (.inl rfl) | exact .inr (.inr rfl))) (de_var (i := 10) rfl (by first | exact .inl rfl | exact .inr (.inl rfl) | exact .inr (.inr rfl)))) (de_var (i := 11) rfl (by first | exact .inl rfl | exact .inr (.inl rfl) | exact .inr (.inr rfl)))))) ds_nil))))))
    (ds_cons (ds_set (i := 12) rfl (by first | exact .inl rfl | exact .inr rfl) (de_lst da_nil))
    (ds_cons (ds_for (di_seq (de_callB cs_sortT rfl m_sorted rfl (da_cons (de_var (i := 4) rfl (by first | exact .inl rfl | exact .inr (.inl rfl) | exact .inr (.inr rfl))) da_nil))) (dg_name (i := 9) rfl (by first | exact .inl rfl | exact .inr rfl))
    (ds_one (ds_expr (de_app (i := 12) rfl (by first | exact .inl rfl | exact .inr (.inl rfl) | exact .inr (.inr rfl)) (de_tup (da_cons (de_var (i := 9) rfl (by first | exact .inl rfl | exact .inr (.inl rfl) | exact .inr (.inr rfl))) (da_cons (de_ix (de_var (i := 4) rfl (by first | exact .inl rfl | exact .inr (.inl rfl) | exact .inr (.inr rfl))) (de_var (i := 9) rfl (by first | exact .inl rfl | exact .inr (.inl rfl) | exact .inr (.inr rfl)))) (da_cons (de_callT cs_tuple rfl m_tuple rfl (da_cons (de_sortIt rfl m_sorted (de_ixO (de_var (i := 3) rfl (by first | exact .inl rfl | exact .inr (.inl rfl) | exact .inr (.inr rfl))) (de_var (i := 9) rfl (by first | exact .inl rfl | exact .inr (.inl rfl) | exact .inr (.inr rfl))))) da_nil)) da_nil))))))))
    (ds_one (ds_ret (de_tup (da_cons (de_callT cs_tuple rfl m_tuple rfl (da_cons (de_var (i := 12) rfl (by first | exact .inl rfl | exact .inr (.inl rfl) | exact .inr (.inr rfl))) da_nil)) (da_cons (de_op os_add (de_op os_add (de_ix (de_ix (de_var (i := 12) rfl (by first | exact .inl rfl | exact .inr (.inl rfl) | exact .inr (.inr rfl))) (de_neg de_int)) de_int) de_int) (de_cal (ms := [true, false]) c_draw mono_draw rfl (da_cons (de_var (i := 0) rfl (by first | exact .inl rfl | exact .inr (.inl rfl) | exact .inr (.inr rfl))) (da_cons de_int da_nil)))) da_nil))))))))))))) (by decide)
theorem bd_tree {K : PySem.W.Frag} {f : Addr} {fd : FuncData} (Fn : Fun K "_law_tree" "_law_tree" s_tree f fd) : Binds K fd ["_law_feed_here", "_law_names_here", "_law_many"] [] := Fn.binds (ps := ["_law_feed_here", "_law_names_here", "_law_many"]) fun _ _ _ _ _ _ us hl => match us, hl with | [_, _, _], _ => rfl
theorem cal_tree {g : Gx} {k : Nat} {C_draw : FSpec} {W : FSpec} (mono_draw : FMono C_draw) (c_draw : Cal g CX0 k "_law_draw" ["_law_feed_here", "_law_many"] C_draw) (m_tuple : g.mg "tuple" = none) (m_sorted : g.mg "sorted" = none) (m_len : g.mg "len" = none) (m_range : g.mg "range" = none) (m_list : g.mg "list" = none) (h : Got g "_law_tree" s_tree) (im : ∀ ss Ex P, W ss Ex P → fnW 3 13 (w_tree C_draw) ss Ex P) : Cal g CX0 (k + 1) "_law_tree" ["_law_feed_here", "_law_names_here", "_law_many"] W := by
  obtain ⟨f, fd, m, F⟩ := h
  exact Cal.imp ⟨f, fd, df_tree mono_draw c_draw     m_tuple m_sorted m_len m_range m_list   F, m, F.kp, bd_tree F⟩ im
theorem sc_way : FnScope ["_law_feed_here", "_law_tree_here", "_law_names_here", "_law_least", "_law_rows", "_law_here", "_law_found", "_law_row", "_law_k", "_law_some", "_law_name"] ["_law_feed_here", "_law_tree_here", "_law_names_here", "_law_least"] (defScope s_way) := ⟨rfl, rfl, rfl, by decide +kernel, rfl, by decide +kernel, by decide +kernel⟩
@[irreducible] def t_way_1 (C_draw : FSpec) : WS := (wRet (wCB tupleF (wCons (wVar 6) wNil)))
@[irreducible] def t_way_2 (C_draw : FSpec) : WS := (wDrop (wApp 6 (wVar 10)))
@[irreducible] def t_way_3 (C_draw : FSpec) : WS := (wUnp [10, 5] (wOp idxF (wVar 9) (wCall 2 C_draw [true, false] (wCons (wVar 0) (wCons (wCB lenX (wCons (wVar 9) wNil)) wNil)))))
@[irreducible] def t_way_4 (C_draw : FSpec) : WS := (wParO [10, 5] (wConsO (wOp idxF (wVar 2) (wCall 2 C_draw [true, false] (wCons (wVar 0) (wCons (wCB lenX (wCons (wVar 2) wNil)) wNil)))) (wConsO (wNeg (wC (.int 1))) wNil)))
@[irreducible] def t_way_5 (C_draw : FSpec) : WS := wSeq (wIfS (wAnd (wB (wOp neF (wVar 9) (wTup wNil))) (wB (wOp gtU (wCall 2 C_draw [true, false] (wCons (wVar 0) (wCons (wC (.int 5)) wNil))) (wC (.int 0)))))
    (t_way_3 C_draw) (t_way_4 C_draw))
    (t_way_2 C_draw)
@[irreducible] def t_way_6 (C_draw : FSpec) : WS := wBreak
@[irreducible] def t_way_7 (C_draw : FSpec) : WS := wSeq (wIfS (wAnd (wB (wOp eqF (wVar 9) (wTup wNil))) (wAnd (wB (wOp geF (wVar 8) (wVar 3))) (wB (wOp gtU (wCall 2 C_draw [true, false] (wCons (wVar 0) (wCons (wC (.int 4)) wNil))) (wC (.int 0))))))
    (t_way_6 C_draw) wNext)
    (t_way_5 C_draw)
@[irreducible] def t_way_8 (C_draw : FSpec) : WS := wSeq (wSet 9 (wGetN 4 (wVar 5) (wTup wNil)))
    (t_way_7 C_draw)
@[irreducible] def t_way_9 (C_draw : FSpec) : WS := wSeq (wFor (wRng (wCons (wCB maxF2 (wCons (wVar 3) (wCons (wCall 2 C_draw [true, false] (wCons (wVar 0) (wCons (wC (.int 5)) wNil))) wNil))) wNil) rng1) (gN 8)
    (t_way_8 C_draw))
    (t_way_1 C_draw)
@[irreducible] def t_way_10 (C_draw : FSpec) : WS := wSeq (wParO [4, 5, 6] (wConsO (wCB dictF (wCons (wLc (wIt (wOp idxF (wVar 1) (wC (.int 0)))) (gN 7) wYes (wTup (wCons (wOp idxF (wVar 7) (wC (.int 0))) (wCons (wOp idxF (wVar 7) (wC (.int 2))) wNil))) [7]) wNil)) (wConsO (wC (.int 0)) (wConsO (wLst wNil) wNil))))
    (t_way_9 C_draw)
def w_way (C_draw : FSpec) : WS := (wSeq (wParO [4, 5, 6] (wConsO (wCB dictF (wCons (wLc (wIt (wOp idxF (wVar 1) (wC (.int 0)))) (gN 7) wYes (wTup (wCons (wOp idxF (wVar 7) (wC (.int 0))) (wCons (wOp idxF (wVar 7) (wC (.int 2))) wNil))) [7]) wNil)) (wConsO (wC (.int 0)) (wConsO (wLst wNil) wNil))))
    (wSeq (wFor (wRng (wCons (wCB maxF2 (wCons (wVar 3) (wCons (wCall 2 C_draw [true, false] (wCons (wVar 0) (wCons (wC (.int 5)) wNil))) wNil))) wNil) rng1) (gN 8)
    (wSeq (wSet 9 (wGetN 4 (wVar 5) (wTup wNil)))
    (wSeq (wIfS (wAnd (wB (wOp eqF (wVar 9) (wTup wNil))) (wAnd (wB (wOp geF (wVar 8) (wVar 3))) (wB (wOp gtU (wCall 2 C_draw [true, false] (wCons (wVar 0) (wCons (wC (.int 4)) wNil))) (wC (.int 0))))))
    (wBreak) wNext)
    (wSeq (wIfS (wAnd (wB (wOp neF (wVar 9) (wTup wNil))) (wB (wOp gtU (wCall 2 C_draw [true, false] (wCons (wVar 0) (wCons (wC (.int 5)) wNil))) (wC (.int 0)))))
    ((wUnp [10, 5] (wOp idxF (wVar 9) (wCall 2 C_draw [true, false] (wCons (wVar 0) (wCons (wCB lenX (wCons (wVar 9) wNil)) wNil)))))) ((wParO [10, 5] (wConsO (wOp idxF (wVar 2) (wCall 2 C_draw [true, false] (wCons (wVar 0) (wCons (wCB lenX (wCons (wVar 2) wNil)) wNil)))) (wConsO (wNeg (wC (.int 1))) wNil)))))
    ((wDrop (wApp 6 (wVar 10))))))))
    ((wRet (wCB tupleF (wCons (wVar 6) wNil))))))
theorem w_way_eq (C_draw : FSpec) : w_way C_draw = (t_way_10 C_draw) := by with_unfolding_all rfl
theorem df_way {g : Gx} {k : Nat} {C_draw : FSpec} (mono_draw : FMono C_draw) (c_draw : Cal g CX0 k "_law_draw" ["_law_feed_here", "_law_many"] C_draw) (m_tuple : g.mg "tuple" = none) (m_max : g.mg "max" = none) (m_range : g.mg "range" = none) (m_len : g.mg "len" = none) (m_dict : g.mg "dict" = none) {f : Addr} {fd : FuncData} (Fn : Fun g.K "_law_way" "_law_way" s_way f fd) : FnG g CX0 (k + 1) f fd ["_law_feed_here", "_law_tree_here", "_law_names_here", "_law_least"] (spOf g.K 4 (fnW 4 11 (w_way C_draw))) :=
  fn_dl (N := ["_law_feed_here", "_law_tree_here", "_law_names_here", "_law_least", "_law_rows", "_law_here", "_law_found", "_law_row", "_law_k", "_law_some", "_law_name"]) Fn sc_way (fun E => (ds_cons (ds_parO3 (i := 4) (j := 5) (l := 6) rfl rfl rfl (by decide) (by decide) (by decide) rfl rfl rfl (dao_cons (de_callT cs_dict rfl m_dict rfl (da_cons (de_lc (own := [("_law_row", 7)]) cx0_ok (di_seq (de_ix (de_var (i := 1) rfl (by first | exact .inl rfl | exact .inr (.inl rfl) | exact .inr (.inr rfl))) de_int)) rfl (dg_name (i := 7) rfl (by first | exact .inl rfl | exact .inr rfl)) rfl dts_nil (de_tup (da_cons (de_ix (de_var (i := 7) rfl (by first | exact .inl rfl | exact .inr (.inl rfl) | exact .inr (.inr rfl))) de_int) (da_cons (de_ix (de_var (i := 7) rfl (by first | exact .inl rfl | exact .inr (.inl rfl) | exact .inr (.inr rfl))) de_int) da_nil)))) da_nil)) (dao_cons de_int (dao_cons (de_lst da_nil) dao_nil))) (fun _ => by rfl))
    (ds_cons (ds_for (di_rng1 rfl m_range (da_cons (de_callB cs_max2 rfl m_max rfl (da_cons (de_var (i := 3) rfl (by first | exact .inl rfl | exact .inr (.inl rfl) | exact .inr (.inr rfl))) (da_cons (de_cal (ms := [true, false]) c_draw mono_draw rfl (da_cons (de_var (i := 0) rfl (by first | exact .inl rfl | exact .inr (.inl rfl) | exact .inr (.inr rfl))) (da_cons de_int da_nil))) da_nil))) da_nil)) (dg_name (i := 8) rfl (by first | exact .inl rfl | exact .inr rfl))
    (ds_cons (ds_set (i := 9) rfl (by first | exact .inl rfl | exact .inr rfl) (de_getN (i := 4) rfl (by first | exact .inl rfl | exact .inr (.inl rfl) | exact .inr (.inr rfl)) (de_var (i := 5) rfl (by first | exact .inl rfl | exact .inr (.inl rfl) | exact .inr (.inr rfl))) (de_tup da_nil)))
    (ds_cons (ds_if (dt_w (dw_and (dt_cmp os_eq (de_var (i := 9) rfl (by first | exact .inl rfl | exact .inr (.inl rfl) | exact .inr (.inr rfl))) (de_tup da_nil) rfl) (dw_and (dt_cmp os_ge (de_var (i := 8) rfl (by first | exact .inl rfl | exact .inr (.inl rfl) | exact .inr (.inr rfl))) (de_var (i := 3) rfl (by first | exact .inl rfl | exact .inr (.inl rfl) | exact .inr (.inr rfl))) rfl) (dw_and1 (dt_cmp os_gtU (de_cal (ms := [true, false]) c_draw mono_draw rfl (da_cons (de_var (i := 0) rfl (by first | exact .inl rfl | exact .inr (.inl rfl) | exact .inr (.inr rfl))) (da_cons de_int da_nil))) de_int rfl)))))
    (ds_one ds_break) ds_nil)
    (ds_cons (ds_if (dt_w (dw_and (dt_cmp os_ne (de_var (i := 9) rfl (by first | exact .inl rfl | exact .inr (.inl rfl) | exact .inr (.inr rfl))) (de_tup da_nil) rfl) (dw_and1 (dt_cmp os_gtU (de_cal (ms := [true, false]) c_draw mono_draw rfl (da_cons (de_var (i := 0) rfl (by first | exact .inl rfl | exact .inr (.inl rfl) | exact .inr (.inr rfl))) (da_cons de_int da_nil))) de_int rfl))))
    (ds_one (ds_unp (de_ix (de_var (i := 9) rfl (by first | exact .inl rfl | exact .inr (.inl rfl) | exact .inr (.inr rfl))) (de_cal (ms := [true, false]) c_draw mono_draw rfl (da_cons (de_var (i := 0) rfl (by first | exact .inl rfl | exact .inr (.inl rfl) | exact .inr (.inr rfl))) (da_cons (de_callB cs_lenX rfl m_len rfl (da_cons (de_var (i := 9) rfl (by first | exact .inl rfl | exact .inr (.inl rfl) | exact .inr (.inr rfl))) da_nil)) da_nil)))) (dns_cons (i := 10) rfl (by first | exact .inl rfl | exact .inr rfl) (dns_cons (i := 5) rfl (by first | exact .inl rfl | exact .inr rfl) dns_nil)) rfl)) (ds_one (ds_parO2 (i := 10) (j := 5) rfl rfl (by decide) rfl rfl (dao_cons (de_ix (de_var (i := 2) rfl (by first | exact .inl rfl | exact .inr (.inl rfl) | exact .inr (.inr rfl))) (de_cal (ms := [true, false]) c_draw mono_draw rfl (da_cons (de_var (i := 0) rfl (by first | exact .inl rfl | exact .inr (.inl rfl) | exact .inr (.inr rfl))) (da_cons (de_callB cs_lenX rfl m_len rfl (da_cons (de_var (i := 2) rfl (by first | exact .inl rfl | exact .inr (.inl rfl) | exact .inr (.inr rfl))) da_nil)) da_nil)))) (dao_cons (de_neg de_int) dao_nil)) (fun _ => by rfl))))
    (ds_one (ds_expr (de_app (i := 6) rfl (by first | exact .inl rfl | exact .inr (.inl rfl) | exact .inr (.inr rfl)) (de_var (i := 10) rfl (by first | exact .inl rfl | exact .inr (.inl rfl) | exact .inr (.inr rfl))))))))))
    (ds_one (ds_ret (de_callT cs_tuple rfl m_tuple rfl (da_cons (de_var (i := 6) rfl (by first | exact .inl rfl | exact .inr (.inl rfl) | exact .inr (.inr rfl))) da_nil))))))) (by decide)
theorem bd_way {K : PySem.W.Frag} {f : Addr} {fd : FuncData} (Fn : Fun K "_law_way" "_law_way" s_way f fd) : Binds K fd ["_law_feed_here", "_law_tree_here", "_law_names_here", "_law_least"] [] := Fn.binds (ps := ["_law_feed_here", "_law_tree_here", "_law_names_here", "_law_least"]) fun _ _ _ _ _ _ us hl => match us, hl with | [_, _, _, _], _ => rfl
theorem cal_way {g : Gx} {k : Nat} {C_draw : FSpec} {W : FSpec} (mono_draw : FMono C_draw) (c_draw : Cal g CX0 k "_law_draw" ["_law_feed_here", "_law_many"] C_draw) (m_tuple : g.mg "tuple" = none) (m_max : g.mg "max" = none) (m_range : g.mg "range" = none) (m_len : g.mg "len" = none) (m_dict : g.mg "dict" = none) (h : Got g "_law_way" s_way) (im : ∀ ss Ex P, W ss Ex P → fnW 4 11 (w_way C_draw) ss Ex P) : Cal g CX0 (k + 1) "_law_way" ["_law_feed_here", "_law_tree_here", "_law_names_here", "_law_least"] W := by
  obtain ⟨f, fd, m, F⟩ := h
  exact Cal.imp ⟨f, fd, df_way mono_draw c_draw     m_tuple m_max m_range m_len m_dict   F, m, F.kp, bd_way F⟩ im
theorem sc_deed : FnScope ["_law_feed_here", "_law_tree_here", "_law_names_here", "_law_word", "_law_first", "_law_way_here", "_law_name", "_law_second"] ["_law_feed_here", "_law_tree_here", "_law_names_here"] (defScope s_deed) := ⟨rfl, rfl, rfl, by decide +kernel, rfl, by decide +kernel, by decide +kernel⟩
@[irreducible] def t_deed_1 (C_way C_draw : FSpec) : WS := (wRet (wTup (wCons (wVar 3) (wCons (wVar 4) (wCons (wVar 7) wNil)))))
@[irreducible] def t_deed_2 (C_way C_draw : FSpec) : WS := (wSet 7 (wOp addF (wSl (wVar 7) wNoP (wPart (wC (.int 3)))) (wTup (wCons (wVar 6) wNil))))
@[irreducible] def t_deed_3 (C_way C_draw : FSpec) : WS := wSeq (wIfS (wB (wOp gtU (wVar 5) (wC (.int 3))))
    (t_deed_2 C_way C_draw) wNext)
    (t_deed_1 C_way C_draw)
@[irreducible] def t_deed_4 (C_way C_draw : FSpec) : WS := (wSet 7 (wVar 4))
@[irreducible] def t_deed_5 (C_way C_draw : FSpec) : WS := wSeq (wIfS (wB (wOp eqF (wVar 5) (wC (.int 2))))
    (t_deed_4 C_way C_draw) wNext)
    (t_deed_3 C_way C_draw)
@[irreducible] def t_deed_6 (C_way C_draw : FSpec) : WS := (wSet 7 (wOp addF (wSl (wVar 4) wNoP (wPart (wNeg (wC (.int 1))))) (wTup (wCons (wVar 6) wNil))))
@[irreducible] def t_deed_7 (C_way C_draw : FSpec) : WS := wSeq (wIfS (wB (wOp eqF (wVar 5) (wC (.int 1))))
    (t_deed_6 C_way C_draw) wNext)
    (t_deed_5 C_way C_draw)
@[irreducible] def t_deed_8 (C_way C_draw : FSpec) : WS := (wSet 7 (wSl (wOp addF (wVar 4) (wTup (wCons (wVar 6) wNil))) wNoP (wPart (wC (.int 4)))))
@[irreducible] def t_deed_9 (C_way C_draw : FSpec) : WS := wSeq (wIfS (wB (wOp eqF (wVar 5) (wC (.int 0))))
    (t_deed_8 C_way C_draw) wNext)
    (t_deed_7 C_way C_draw)
@[irreducible] def t_deed_10 (C_way C_draw : FSpec) : WS := wSeq (wSet 7 (wCall 4 C_way [true, false, false, false] (wCons (wVar 0) (wCons (wVar 1) (wCons (wVar 2) (wCons (wC (.int 1)) wNil))))))
    (t_deed_9 C_way C_draw)
@[irreducible] def t_deed_11 (C_way C_draw : FSpec) : WS := wSeq (wParO [5, 6] (wConsO (wCall 2 C_draw [true, false] (wCons (wVar 0) (wCons (wC (.int 6)) wNil))) (wConsO (wOp idxF (wVar 2) (wCall 2 C_draw [true, false] (wCons (wVar 0) (wCons (wCB lenX (wCons (wVar 2) wNil)) wNil)))) wNil)))
    (t_deed_10 C_way C_draw)
@[irreducible] def t_deed_12 (C_way C_draw : FSpec) : WS := (wRet (wTup (wCons (wVar 3) (wCons (wVar 5) (wCons (wOp idxF (wLst (wCons (wC (.str "drawer")) (wCons (wC (.str "sheet")) wNil))) (wCall 2 C_draw [true, false] (wCons (wVar 0) (wCons (wC (.int 2)) wNil)))) wNil)))))
@[irreducible] def x_deed_13 (C_way C_draw : FSpec) : WE := wIf (wB (wOp eqF (wCall 2 C_draw [true, false] (wCons (wVar 0) (wCons (wC (.int 3)) wNil))) (wC (.int 0)))) (wVar 4) (wOp addF (wSl (wVar 4) wNoP (wPart (wC (.int 3)))) (wTup (wCons (wOp idxF (wVar 2) (wCall 2 C_draw [true, false] (wCons (wVar 0) (wCons (wCB lenX (wCons (wVar 2) wNil)) wNil)))) wNil)))
@[irreducible] def t_deed_14 (C_way C_draw : FSpec) : WS := wSeq (wSet 5 (x_deed_13 C_way C_draw))
    (t_deed_12 C_way C_draw)
@[irreducible] def t_deed_15 (C_way C_draw : FSpec) : WS := wSeq (wIfS (wB (wOp eqF (wVar 3) (wC (.str "make"))))
    (t_deed_14 C_way C_draw) wNext)
    (t_deed_11 C_way C_draw)
@[irreducible] def t_deed_16 (C_way C_draw : FSpec) : WS := (wRet (wTup (wCons (wVar 3) (wCons (wVar 4) wNil))))
@[irreducible] def t_deed_17 (C_way C_draw : FSpec) : WS := wSeq (wIfS (wB (wOp (inT false) (wVar 3) (wTup (wCons (wC (.str "look")) (wCons (wC (.str "list")) (wCons (wC (.str "drop")) wNil))))))
    (t_deed_16 C_way C_draw) wNext)
    (t_deed_15 C_way C_draw)
@[irreducible] def t_deed_18 (C_way C_draw : FSpec) : WS := wSeq (wSet 4 (wCall 4 C_way [true, false, false, false] (wCons (wVar 0) (wCons (wVar 1) (wCons (wVar 2) (wCons (wCB intF (wCons (wOp (inT true) (wVar 3) (wTup (wCons (wC (.str "look")) (wCons (wC (.str "list")) wNil)))) wNil)) wNil))))))
    (t_deed_17 C_way C_draw)
@[irreducible] def t_deed_19 (C_way C_draw : FSpec) : WS := wSeq (wSet 3 (wOp idxF (wLst (wCons (wC (.str "look")) (wCons (wC (.str "list")) (wCons (wC (.str "make")) (wCons (wC (.str "drop")) (wCons (wC (.str "link")) (wCons (wC (.str "move")) (wCons (wC (.str "swap")) (wCons (wC (.str "move")) (wCons (wC (.str "make")) wNil)))))))))) (wCall 2 C_draw [true, false] (wCons (wVar 0) (wCons (wC (.int 9)) wNil)))))
    (t_deed_18 C_way C_draw)
def w_deed (C_way C_draw : FSpec) : WS := (wSeq (wSet 3 (wOp idxF (wLst (wCons (wC (.str "look")) (wCons (wC (.str "list")) (wCons (wC (.str "make")) (wCons (wC (.str "drop")) (wCons (wC (.str "link")) (wCons (wC (.str "move")) (wCons (wC (.str "swap")) (wCons (wC (.str "move")) (wCons (wC (.str "make")) wNil)))))))))) (wCall 2 C_draw [true, false] (wCons (wVar 0) (wCons (wC (.int 9)) wNil)))))
    (wSeq (wSet 4 (wCall 4 C_way [true, false, false, false] (wCons (wVar 0) (wCons (wVar 1) (wCons (wVar 2) (wCons (wCB intF (wCons (wOp (inT true) (wVar 3) (wTup (wCons (wC (.str "look")) (wCons (wC (.str "list")) wNil)))) wNil)) wNil))))))
    (wSeq (wIfS (wB (wOp (inT false) (wVar 3) (wTup (wCons (wC (.str "look")) (wCons (wC (.str "list")) (wCons (wC (.str "drop")) wNil))))))
    ((wRet (wTup (wCons (wVar 3) (wCons (wVar 4) wNil))))) wNext)
    (wSeq (wIfS (wB (wOp eqF (wVar 3) (wC (.str "make"))))
    (wSeq (wSet 5 (wIf (wB (wOp eqF (wCall 2 C_draw [true, false] (wCons (wVar 0) (wCons (wC (.int 3)) wNil))) (wC (.int 0)))) (wVar 4) (wOp addF (wSl (wVar 4) wNoP (wPart (wC (.int 3)))) (wTup (wCons (wOp idxF (wVar 2) (wCall 2 C_draw [true, false] (wCons (wVar 0) (wCons (wCB lenX (wCons (wVar 2) wNil)) wNil)))) wNil)))))
    ((wRet (wTup (wCons (wVar 3) (wCons (wVar 5) (wCons (wOp idxF (wLst (wCons (wC (.str "drawer")) (wCons (wC (.str "sheet")) wNil))) (wCall 2 C_draw [true, false] (wCons (wVar 0) (wCons (wC (.int 2)) wNil)))) wNil))))))) wNext)
    (wSeq (wParO [5, 6] (wConsO (wCall 2 C_draw [true, false] (wCons (wVar 0) (wCons (wC (.int 6)) wNil))) (wConsO (wOp idxF (wVar 2) (wCall 2 C_draw [true, false] (wCons (wVar 0) (wCons (wCB lenX (wCons (wVar 2) wNil)) wNil)))) wNil)))
    (wSeq (wSet 7 (wCall 4 C_way [true, false, false, false] (wCons (wVar 0) (wCons (wVar 1) (wCons (wVar 2) (wCons (wC (.int 1)) wNil))))))
    (wSeq (wIfS (wB (wOp eqF (wVar 5) (wC (.int 0))))
    ((wSet 7 (wSl (wOp addF (wVar 4) (wTup (wCons (wVar 6) wNil))) wNoP (wPart (wC (.int 4)))))) wNext)
    (wSeq (wIfS (wB (wOp eqF (wVar 5) (wC (.int 1))))
    ((wSet 7 (wOp addF (wSl (wVar 4) wNoP (wPart (wNeg (wC (.int 1))))) (wTup (wCons (wVar 6) wNil))))) wNext)
    (wSeq (wIfS (wB (wOp eqF (wVar 5) (wC (.int 2))))
    ((wSet 7 (wVar 4))) wNext)
    (wSeq (wIfS (wB (wOp gtU (wVar 5) (wC (.int 3))))
    ((wSet 7 (wOp addF (wSl (wVar 7) wNoP (wPart (wC (.int 3)))) (wTup (wCons (wVar 6) wNil))))) wNext)
    ((wRet (wTup (wCons (wVar 3) (wCons (wVar 4) (wCons (wVar 7) wNil))))))))))))))))
theorem w_deed_eq (C_way C_draw : FSpec) : w_deed C_way C_draw = (t_deed_19 C_way C_draw) := by with_unfolding_all rfl
theorem df_deed {g : Gx} {k : Nat} {C_way C_draw : FSpec} (mono_way : FMono C_way) (c_way : Cal g CX0 k "_law_way" ["_law_feed_here", "_law_tree_here", "_law_names_here", "_law_least"] C_way) (mono_draw : FMono C_draw) (c_draw : Cal g CX0 k "_law_draw" ["_law_feed_here", "_law_many"] C_draw) (m_len : g.mg "len" = none) (m_int : g.mg "int" = none) {f : Addr} {fd : FuncData} (Fn : Fun g.K "_law_deed" "_law_deed" s_deed f fd) : FnG g CX0 (k + 1) f fd ["_law_feed_here", "_law_tree_here", "_law_names_here"] (spOf g.K 3 (fnW 3 8 (w_deed C_way C_draw))) :=
  fn_dl (N := ["_law_feed_here", "_law_tree_here", "_law_names_here", "_law_word", "_law_first", "_law_way_here", "_law_name", "_law_second"]) Fn sc_deed (fun E => (ds_cons (ds_set (i := 3) rfl (by first | exact .inl rfl | exact .inr rfl) (de_ix (de_lst (da_cons de_str (da_cons de_str (da_cons de_str (da_cons de_str (da_cons de_str (da_cons de_str (da_cons de_str (da_cons de_str (da_cons de_str da_nil)))))))))) (de_cal (ms := [true, false]) c_draw mono_draw rfl (da_cons (de_var (i := 0) rfl (by first | exact .inl rfl | exact .inr (.inl rfl) | exact .inr (.inr rfl))) (da_cons de_int da_nil)))))
    (ds_cons (ds_set (i := 4) rfl (by first | exact .inl rfl | exact .inr rfl) (de_cal (ms := [true, false, false, false]) c_way mono_way rfl (da_cons (de_var (i := 0) rfl (by first | exact .inl rfl | exact .inr (.inl rfl) | exact .inr (.inr rfl))) (da_cons (de_var (i := 1) rfl (by first | exact .inl rfl | exact .inr (.inl rfl) | exact .inr (.inr rfl))) (da_cons (de_var (i := 2) rfl (by first | exact .inl rfl | exact .inr (.inl rfl) | exact .inr (.inr rfl))) (da_cons (de_callT cs_int rfl m_int rfl (da_cons (de_cmp os_notinT (de_var (i := 3) rfl (by first | exact .inl rfl | exact .inr (.inl rfl) | exact .inr (.inr rfl))) (de_tup (da_cons de_str (da_cons de_str da_nil))) rfl) da_nil)) da_nil))))))
    (ds_cons (ds_if (dt_cmp os_inT (de_var (i := 3) rfl (by first | exact .inl rfl | exact .inr (.inl rfl) | exact .inr (.inr rfl))) (de_tup (da_cons de_str (da_cons de_str (da_cons de_str da_nil)))) rfl)
    (ds_one (ds_ret (de_tup (da_cons (de_var (i := 3) rfl (by first | exact .inl rfl | exact .inr (.inl rfl) | exact .inr (.inr rfl))) (da_cons (de_var (i := 4) rfl (by first | exact .inl rfl | exact .inr (.inl rfl) | exact .inr (.inr rfl))) da_nil))))) ds_nil)
    (ds_cons (ds_if (dt_cmp os_eq (de_var (i := 3) rfl (by first | exact .inl rfl | exact .inr (.inl rfl) | exact .inr (.inr rfl))) de_str rfl)
    (ds_cons (ds_set (i := 5) rfl (by first | exact .inl rfl | exact .inr rfl) (de_ifx (dt_cmp os_eq (de_cal (ms := [true, false]) c_draw mono_draw rfl (da_cons (de_var (i := 0) rfl (by first | exact .inl rfl | exact .inr (.inl rfl) | exact .inr (.inr rfl))) (da_cons de_int da_nil))) de_int rfl) (de_var (i := 4) rfl (by first | exact .inl rfl | exact .inr (.inl rfl) | exact .inr (.inr rfl))) (de_op os_add (de_sl (de_var (i := 4) rfl (by first | exact .inl rfl | exact .inr (.inl rfl) | exact .inr (.inr rfl))) do_none (do_some de_int)) (de_tup (da_cons (de_ix (de_var (i := 2) rfl (by first | exact .inl rfl | exact .inr (.inl rfl) | exact .inr (.inr rfl))) (de_cal (ms := [true, false]) c_draw mono_draw rfl (da_cons (de_var (i := 0) rfl (by first | exact .inl rfl | exact .inr (.inl rfl) | exact .inr (.inr rfl))) (da_cons (de_callB cs_lenX rfl m_len rfl (da_cons (de_var (i := 2) rfl (by first | exact .inl rfl | exact .inr (.inl rfl) | exact .inr (.inr rfl))) da_nil)) da_nil)))) da_nil)))))
    (ds_one (ds_ret (de_tup (da_cons (de_var (i := 3) rfl (by first | exact .inl rfl | exact .inr (.inl rfl) | exact .inr (.inr rfl))) (da_cons (de_var (i := 5) rfl (by first | exact .inl rfl | exact .inr (.inl rfl) | exact .inr (.inr rfl))) (da_cons (de_ix (de_lst (da_cons de_str (da_cons de_str da_nil))) (de_cal (ms := [true, false]) c_draw mono_draw rfl (da_cons (de_var (i := 0) rfl (by first | exact .inl rfl | exact .inr (.inl rfl) | exact .inr (.inr rfl))) (da_cons de_int da_nil)))) da_nil))))))) ds_nil)
    (ds_cons (ds_parO2 (i := 5) (j := 6) rfl rfl (by decide) rfl rfl (dao_cons (de_cal (ms := [true, false]) c_draw mono_draw rfl (da_cons (de_var (i := 0) rfl (by first | exact .inl rfl | exact .inr (.inl rfl) | exact .inr (.inr rfl))) (da_cons de_int da_nil))) (dao_cons (de_ix (de_var (i := 2) rfl (by first | exact .inl rfl | exact .inr (.inl rfl) | exact .inr (.inr rfl))) (de_cal (ms := [true, false]) c_draw mono_draw rfl (da_cons (de_var (i := 0) rfl (by first | exact .inl rfl | exact .inr (.inl rfl) | exact .inr (.inr rfl))) (da_cons (de_callB cs_lenX rfl m_len rfl (da_cons (de_var (i := 2) rfl (by first | exact .inl rfl | exact .inr (.inl rfl) | exact .inr (.inr rfl))) da_nil)) da_nil)))) dao_nil)) (fun _ => by rfl))
    (ds_cons (ds_set (i := 7) rfl (by first | exact .inl rfl | exact .inr rfl) (de_cal (ms := [true, false, false, false]) c_way mono_way rfl (da_cons (de_var (i := 0) rfl (by first | exact .inl rfl | exact .inr (.inl rfl) | exact .inr (.inr rfl))) (da_cons (de_var (i := 1) rfl (by first | exact .inl rfl | exact .inr (.inl rfl) | exact .inr (.inr rfl))) (da_cons (de_var (i := 2) rfl (by first | exact .inl rfl | exact .inr (.inl rfl) | exact .inr (.inr rfl))) (da_cons de_int da_nil))))))
    (ds_cons (ds_if (dt_cmp os_eq (de_var (i := 5) rfl (by first | exact .inl rfl | exact .inr (.inl rfl) | exact .inr (.inr rfl))) de_int rfl)
    (ds_one (ds_set (i := 7) rfl (by first | exact .inl rfl | exact .inr rfl) (de_sl (de_op os_add (de_var (i := 4) rfl (by first | exact .inl rfl | exact .inr (.inl rfl) | exact .inr (.inr rfl))) (de_tup (da_cons (de_var (i := 6) rfl (by first | exact .inl rfl | exact .inr (.inl rfl) | exact .inr (.inr rfl))) da_nil))) do_none (do_some de_int)))) ds_nil)
    (ds_cons (ds_if (dt_cmp os_eq (de_var (i := 5) rfl (by first | exact .inl rfl | exact .inr (.inl rfl) | exact .inr (.inr rfl))) de_int rfl)
    (ds_one (ds_set (i := 7) rfl (by first | exact .inl rfl | exact .inr rfl) (de_op os_add (de_sl (de_var (i := 4) rfl (by first | exact .inl rfl | exact .inr (.inl rfl) | exact .inr (.inr rfl))) do_none (do_some (de_neg de_int))) (de_tup (da_cons (de_var (i := 6) rfl (by first | exact .inl rfl | exact .inr (.inl rfl) | exact .inr (.inr rfl))) da_nil))))) ds_nil)
    (ds_cons (ds_if (dt_cmp os_eq (de_var (i := 5) rfl (by first | exact .inl rfl | exact .inr (.inl rfl) | exact .inr (.inr rfl))) de_int rfl)
    (ds_one (ds_set (i := 7) rfl (by first | exact .inl rfl | exact .inr rfl) (de_var (i := 4) rfl (by first | exact .inl rfl | exact .inr (.inl rfl) | exact .inr (.inr rfl))))) ds_nil)
    (ds_cons (ds_if (dt_cmp os_gtU (de_var (i := 5) rfl (by first | exact .inl rfl | exact .inr (.inl rfl) | exact .inr (.inr rfl))) de_int rfl)
    (ds_one (ds_set (i := 7) rfl (by first | exact .inl rfl | exact .inr rfl) (de_op os_add (de_sl (de_var (i := 7) rfl (by first | exact .inl rfl | exact .inr (.inl rfl) | exact .inr (.inr rfl))) do_none (do_some de_int)) (de_tup (da_cons (de_var (i := 6) rfl (by first | exact .inl rfl | exact .inr (.inl rfl) | exact .inr (.inr rfl))) da_nil))))) ds_nil)
    (ds_one (ds_ret (de_tup (da_cons (de_var (i := 3) rfl (by first | exact .inl rfl | exact .inr (.inl rfl) | exact .inr (.inr rfl))) (da_cons (de_var (i := 4) rfl (by first | exact .inl rfl | exact .inr (.inl rfl) | exact .inr (.inr rfl))) (da_cons (de_var (i := 7) rfl (by first | exact .inl rfl | exact .inr (.inl rfl) | exact .inr (.inr rfl))) da_nil))))))))))))))))) (by decide)
theorem bd_deed {K : PySem.W.Frag} {f : Addr} {fd : FuncData} (Fn : Fun K "_law_deed" "_law_deed" s_deed f fd) : Binds K fd ["_law_feed_here", "_law_tree_here", "_law_names_here"] [] := Fn.binds (ps := ["_law_feed_here", "_law_tree_here", "_law_names_here"]) fun _ _ _ _ _ _ us hl => match us, hl with | [_, _, _], _ => rfl
theorem cal_deed {g : Gx} {k : Nat} {C_way C_draw : FSpec} {W : FSpec} (mono_way : FMono C_way) (c_way : Cal g CX0 k "_law_way" ["_law_feed_here", "_law_tree_here", "_law_names_here", "_law_least"] C_way) (mono_draw : FMono C_draw) (c_draw : Cal g CX0 k "_law_draw" ["_law_feed_here", "_law_many"] C_draw) (m_len : g.mg "len" = none) (m_int : g.mg "int" = none) (h : Got g "_law_deed" s_deed) (im : ∀ ss Ex P, W ss Ex P → fnW 3 8 (w_deed C_way C_draw) ss Ex P) : Cal g CX0 (k + 1) "_law_deed" ["_law_feed_here", "_law_tree_here", "_law_names_here"] W := by
  obtain ⟨f, fd, m, F⟩ := h
  exact Cal.imp ⟨f, fd, df_deed mono_way c_way mono_draw c_draw     m_len m_int   F, m, F.kp, bd_deed F⟩ im
theorem sc_bent : FnScope ["_law_feed_here", "_law_thing", "_law_at", "_law_mode", "_law_odd"] ["_law_feed_here", "_law_thing"] (defScope s_bent) := ⟨rfl, rfl, rfl, by decide +kernel, rfl, by decide +kernel, by decide +kernel⟩
@[irreducible] def t_bent_1 (C_draw C_bent : FSpec) : WS := (wRet (wOp idxF (wLst (wCons (wC .none) (wCons (wC (.bool true)) (wCons (wC (.int 0)) (wCons (wC (.int 1)) (wCons (wC (.str "")) (wCons (wTup wNil) (wCons (wLst wNil) (wCons (wNeg (wC (.int 1))) (wCons (wC (.str "a")) wNil)))))))))) (wVar 3)))
@[irreducible] def t_bent_2 (C_draw C_bent : FSpec) : WS := (wRet (wOp idxF (wLst (wCons (wOp addF (wVar 1) (wC (.int 1))) (wCons (wOp subF (wVar 1) (wC (.int 1))) (wCons (wOp eqF (wVar 1) (wC (.int 1))) (wCons (wCB strF (wCons (wVar 1) wNil)) (wCons (wC .none) (wCons (wTup (wCons (wVar 1) wNil)) (wCons (wC (.int 0)) (wCons (wNeg (wC (.int 1))) (wCons (wOp powF (wC (.int 10)) (wC (.int 60))) wNil)))))))))) (wVar 3)))
@[irreducible] def t_bent_3 (C_draw C_bent : FSpec) : WS := wSeq (wIfS (wTru (wIsi "int" (wVar 1)))
    (t_bent_2 C_draw C_bent) wNext)
    (t_bent_1 C_draw C_bent)
@[irreducible] def t_bent_4 (C_draw C_bent : FSpec) : WS := (wRet (wOp idxF (wOp addF (wVar 4) (wLst (wCons (wOp addF (wVar 1) (wTup (wCons (wC .none) wNil))) wNil))) (wVar 3)))
@[irreducible] def t_bent_5 (C_draw C_bent : FSpec) : WS := wSeq (wSet 4 (wLst (wCons (wCB listF (wCons (wVar 1) wNil)) (wCons (wRev (wVar 1)) (wCons (wTup (wCons (wVar 1) wNil)) (wCons (wOp addF (wVar 1) (wVar 1)) (wCons (wTup wNil) (wCons (wC .none) (wCons (wSl (wVar 1) (wPart (wC (.int 1))) wNoP) (wCons (wSl (wVar 1) wNoP (wPart (wNeg (wC (.int 1))))) wNil))))))))))
    (t_bent_4 C_draw C_bent)
@[irreducible] def t_bent_6 (C_draw C_bent : FSpec) : WS := wSeq (wIfS (wTru (wIsi "tuple" (wVar 1)))
    (t_bent_5 C_draw C_bent) wNext)
    (t_bent_3 C_draw C_bent)
@[irreducible] def t_bent_7 (C_draw C_bent : FSpec) : WS := wSeq (wSet 3 (wCall 2 C_draw [true, false] (wCons (wVar 0) (wCons (wC (.int 9)) wNil))))
    (t_bent_6 C_draw C_bent)
@[irreducible] def t_bent_8 (C_draw C_bent : FSpec) : WS := (wRet (wOp addF (wOp addF (wSl (wVar 1) wNoP (wPart (wVar 2))) (wTup (wCons (wCall 2 C_bent [true, false] (wCons (wVar 0) (wCons (wOp idxF (wVar 1) (wVar 2)) wNil))) wNil))) (wSl (wVar 1) (wPart (wOp addF (wVar 2) (wC (.int 1)))) wNoP)))
@[irreducible] def t_bent_9 (C_draw C_bent : FSpec) : WS := wSeq (wSet 2 (wCall 2 C_draw [true, false] (wCons (wVar 0) (wCons (wCB lenX (wCons (wVar 1) wNil)) wNil))))
    (t_bent_8 C_draw C_bent)
@[irreducible] def t_bent_10 (C_draw C_bent : FSpec) : WS := wSeq (wIfS (wAnd (wTru (wIsi "tuple" (wVar 1))) (wAnd (wB (wOp neF (wVar 1) (wTup wNil))) (wB (wOp gtU (wCall 2 C_draw [true, false] (wCons (wVar 0) (wCons (wC (.int 5)) wNil))) (wC (.int 0))))))
    (t_bent_9 C_draw C_bent) wNext)
    (t_bent_7 C_draw C_bent)
def w_bent (C_draw C_bent : FSpec) : WS := (wSeq (wIfS (wAnd (wTru (wIsi "tuple" (wVar 1))) (wAnd (wB (wOp neF (wVar 1) (wTup wNil))) (wB (wOp gtU (wCall 2 C_draw [true, false] (wCons (wVar 0) (wCons (wC (.int 5)) wNil))) (wC (.int 0))))))
    (wSeq (wSet 2 (wCall 2 C_draw [true, false] (wCons (wVar 0) (wCons (wCB lenX (wCons (wVar 1) wNil)) wNil))))
    ((wRet (wOp addF (wOp addF (wSl (wVar 1) wNoP (wPart (wVar 2))) (wTup (wCons (wCall 2 C_bent [true, false] (wCons (wVar 0) (wCons (wOp idxF (wVar 1) (wVar 2)) wNil))) wNil))) (wSl (wVar 1) (wPart (wOp addF (wVar 2) (wC (.int 1)))) wNoP))))) wNext)
    (wSeq (wSet 3 (wCall 2 C_draw [true, false] (wCons (wVar 0) (wCons (wC (.int 9)) wNil))))
    (wSeq (wIfS (wTru (wIsi "tuple" (wVar 1)))
    (wSeq (wSet 4 (wLst (wCons (wCB listF (wCons (wVar 1) wNil)) (wCons (wRev (wVar 1)) (wCons (wTup (wCons (wVar 1) wNil)) (wCons (wOp addF (wVar 1) (wVar 1)) (wCons (wTup wNil) (wCons (wC .none) (wCons (wSl (wVar 1) (wPart (wC (.int 1))) wNoP) (wCons (wSl (wVar 1) wNoP (wPart (wNeg (wC (.int 1))))) wNil))))))))))
    ((wRet (wOp idxF (wOp addF (wVar 4) (wLst (wCons (wOp addF (wVar 1) (wTup (wCons (wC .none) wNil))) wNil))) (wVar 3))))) wNext)
    (wSeq (wIfS (wTru (wIsi "int" (wVar 1)))
    ((wRet (wOp idxF (wLst (wCons (wOp addF (wVar 1) (wC (.int 1))) (wCons (wOp subF (wVar 1) (wC (.int 1))) (wCons (wOp eqF (wVar 1) (wC (.int 1))) (wCons (wCB strF (wCons (wVar 1) wNil)) (wCons (wC .none) (wCons (wTup (wCons (wVar 1) wNil)) (wCons (wC (.int 0)) (wCons (wNeg (wC (.int 1))) (wCons (wOp powF (wC (.int 10)) (wC (.int 60))) wNil)))))))))) (wVar 3)))) wNext)
    ((wRet (wOp idxF (wLst (wCons (wC .none) (wCons (wC (.bool true)) (wCons (wC (.int 0)) (wCons (wC (.int 1)) (wCons (wC (.str "")) (wCons (wTup wNil) (wCons (wLst wNil) (wCons (wNeg (wC (.int 1))) (wCons (wC (.str "a")) wNil)))))))))) (wVar 3))))))))
theorem w_bent_eq (C_draw C_bent : FSpec) : w_bent C_draw C_bent = (t_bent_10 C_draw C_bent) := by with_unfolding_all rfl
theorem df_bent {g : Gx} {k : Nat} {C_draw C_bent : FSpec} (mono_draw : FMono C_draw) (c_draw : Cal g CX0 k "_law_draw" ["_law_feed_here", "_law_many"] C_draw) (mono_bent : FMono C_bent) (c_bent : Cal g CX0 k "_law_bent" ["_law_feed_here", "_law_thing"] C_bent) (m_isinstance : g.mg "isinstance" = none) (m_int : g.mg "int" = none) (m_str : g.mg "str" = none) (m_tuple : g.mg "tuple" = none) (m_list : g.mg "list" = none) (m_len : g.mg "len" = none) {f : Addr} {fd : FuncData} (Fn : Fun g.K "_law_bent" "_law_bent" s_bent f fd) : FnG g CX0 (k + 1) f fd ["_law_feed_here", "_law_thing"] (spOf g.K 2 (fnW 2 5 (w_bent C_draw C_bent))) :=
  fn_dl (N := ["_law_feed_here", "_law_thing", "_law_at", "_law_mode", "_law_odd"]) Fn sc_bent (fun E => (ds_cons (ds_if (dt_w (dw_and (dt_tru (de_isi (T := "tuple") rfl rfl m_isinstance rfl m_tuple rfl (de_var (i := 1) rfl (by first | exact .inl rfl | exact .inr (.inl rfl) | exact .inr (.inr rfl)))) (fun _ _ => rfl)) (dw_and (dt_cmp os_ne (de_var (i := 1) rfl (by first | exact .inl rfl | exact .inr (.inl rfl) | exact .inr (.inr rfl))) (de_tup da_nil) rfl) (dw_and1 (dt_cmp os_gtU (de_cal (ms := [true, false]) c_draw mono_draw rfl (da_cons (de_var (i := 0) rfl (by first | exact .inl rfl | exact .inr (.inl rfl) | exact .inr (.inr rfl))) (da_cons de_int da_nil))) de_int rfl)))))
    (ds_cons (ds_set (i := 2) rfl (by first | exact .inl rfl | exact .inr rfl) (de_cal (ms := [true, false]) c_draw mono_draw rfl (da_cons (de_var (i := 0) rfl (by first | exact .inl rfl | exact .inr (.inl rfl) | exact .inr (.inr rfl))) (da_cons (de_callB cs_lenX rfl m_len rfl (da_cons (de_var (i := 1) rfl (by first | exact .inl rfl | exact .inr (.inl rfl) | exact .inr (.inr rfl))) da_nil)) da_nil))))
    (ds_one (ds_ret (de_op os_add (de_op os_add (de_sl (de_var (i := 1) rfl (by first | exact .inl rfl | exact .inr (.inl rfl) | exact .inr (.inr rfl))) do_none (do_some (de_var (i := 2) rfl (by first | exact .inl rfl | exact .inr (.inl rfl) | exact .inr (.inr rfl))))) (de_tup (da_cons (de_cal (ms := [true, false]) c_bent mono_bent rfl (da_cons (de_var (i := 0) rfl (by first | exact .inl rfl | exact .inr (.inl rfl) | exact .inr (.inr rfl))) (da_cons (de_ix (de_var (i := 1) rfl (by first | exact .inl rfl | exact .inr (.inl rfl) | exact .inr (.inr rfl))) (de_var (i := 2) rfl (by first | exact .inl rfl | exact .inr (.inl rfl) | exact .inr (.inr rfl)))) da_nil))) da_nil))) (de_sl (de_var (i := 1) rfl (by first | exact .inl rfl | exact .inr (.inl rfl) | exact .inr (.inr rfl))) (do_some (de_op os_add (de_var (i := 2) rfl (by first | exact .inl rfl | exact .inr (.inl rfl) | exact .inr (.inr rfl))) de_int)) do_none))))) ds_nil)
    (ds_cons (ds_set (i := 3) rfl (by first | exact .inl rfl | exact .inr rfl) (de_cal (ms := [true, false]) c_draw mono_draw rfl (da_cons (de_var (i := 0) rfl (by first | exact .inl rfl | exact .inr (.inl rfl) | exact .inr (.inr rfl))) (da_cons de_int da_nil))))
    (ds_cons (ds_if (dt_tru (de_isi (T := "tuple") rfl rfl m_isinstance rfl m_tuple rfl (de_var (i := 1) rfl (by first | exact .inl rfl | exact .inr (.inl rfl) | exact .inr (.inr rfl)))) (fun _ _ => rfl))
    (ds_cons (ds_set (i := 4) rfl (by first | exact .inl rfl | exact .inr rfl) (de_lst (da_cons (de_callT cs_list rfl m_list rfl (da_cons (de_var (i := 1) rfl (by first | exact .inl rfl | exact .inr (.inl rfl) | exact .inr (.inr rfl))) da_nil)) (da_cons (de_rev (de_var (i := 1) rfl (by first | exact .inl rfl | exact .inr (.inl rfl) | exact .inr (.inr rfl)))) (da_cons (de_tup (da_cons (de_var (i := 1) rfl (by first | exact .inl rfl | exact .inr (.inl rfl) | exact .inr (.inr rfl))) da_nil)) (da_cons (de_op os_add (de_var (i := 1) rfl (by first | exact .inl rfl | exact .inr (.inl rfl) | exact .inr (.inr rfl))) (de_var (i := 1) rfl (by first | exact .inl rfl | exact .inr (.inl rfl) | exact .inr (.inr rfl)))) (da_cons (de_tup da_nil) (da_cons de_non (da_cons (de_sl (de_var (i := 1) rfl (by first | exact .inl rfl | exact .inr (.inl rfl) | exact .inr (.inr rfl))) (do_some de_int) do_none) (da_cons (de_sl (de_var (i := 1) rfl (by first | exact .inl rfl | exact .inr (.inl rfl) | exact .inr (.inr rfl))) do_none (do_some (de_neg de_int))) da_nil))))))))))
    (ds_one (ds_ret (de_ix (de_op os_add (de_var (i := 4) rfl (by first | exact .inl rfl | exact .inr (.inl rfl) | exact .inr (.inr rfl))) (de_lst (da_cons (de_op os_add (de_var (i := 1) rfl (by first | exact .inl rfl | exact .inr (.inl rfl) | exact .inr (.inr rfl))) (de_tup (da_cons de_non da_nil))) da_nil))) (de_var (i := 3) rfl (by first | exact .inl rfl | exact .inr (.inl rfl) | exact .inr (.inr rfl))))))) ds_nil)
    (ds_cons (ds_if (dt_tru (de_isi (T := "int") rfl rfl m_isinstance rfl m_int rfl (de_var (i := 1) rfl (by first | exact .inl rfl | exact .inr (.inl rfl) | exact .inr (.inr rfl)))) (fun _ _ => rfl))
    (ds_one (ds_ret (de_ix (de_lst (da_cons (de_op os_add (de_var (i := 1) rfl (by first | exact .inl rfl | exact .inr (.inl rfl) | exact .inr (.inr rfl))) de_int) (da_cons (de_op os_sub (de_var (i := 1) rfl (by first | exact .inl rfl | exact .inr (.inl rfl) | exact .inr (.inr rfl))) de_int) (da_cons (de_cmp os_eq (de_var (i := 1) rfl (by first | exact .inl rfl | exact .inr (.inl rfl) | exact .inr (.inr rfl))) de_int rfl) (da_cons (de_callT cs_str rfl m_str rfl (da_cons (de_var (i := 1) rfl (by first | exact .inl rfl | exact .inr (.inl rfl) | exact .inr (.inr rfl))) da_nil)) (da_cons de_non (da_cons (de_tup (da_cons (de_var (i := 1) rfl (by first | exact .inl rfl | exact .inr (.inl rfl) | exact .inr (.inr rfl))) da_nil)) (da_cons de_int (da_cons (de_neg de_int) (da_cons (de_op os_pow de_int de_int) da_nil)))))))))) (de_var (i := 3) rfl (by first | exact .inl rfl | exact .inr (.inl rfl) | exact .inr (.inr rfl)))))) ds_nil)
    (ds_one (ds_ret (de_ix (de_lst (da_cons de_non (da_cons de_bl (da_cons de_int (da_cons de_int (da_cons de_str (da_cons (de_tup da_nil) (da_cons (de_lst da_nil) (da_cons (de_neg de_int) (da_cons de_str da_nil)))))))))) (de_var (i := 3) rfl (by first | exact .inl rfl | exact .inr (.inl rfl) | exact .inr (.inr rfl))))))))))) (by decide)
theorem bd_bent {K : PySem.W.Frag} {f : Addr} {fd : FuncData} (Fn : Fun K "_law_bent" "_law_bent" s_bent f fd) : Binds K fd ["_law_feed_here", "_law_thing"] [] := Fn.binds (ps := ["_law_feed_here", "_law_thing"]) fun _ _ _ _ _ _ us hl => match us, hl with | [_, _], _ => rfl
theorem cal_bent {g : Gx} {k : Nat} {C_draw C_bent : FSpec} {W : FSpec} (mono_draw : FMono C_draw) (c_draw : Cal g CX0 k "_law_draw" ["_law_feed_here", "_law_many"] C_draw) (mono_bent : FMono C_bent) (c_bent : Cal g CX0 k "_law_bent" ["_law_feed_here", "_law_thing"] C_bent) (m_isinstance : g.mg "isinstance" = none) (m_int : g.mg "int" = none) (m_str : g.mg "str" = none) (m_tuple : g.mg "tuple" = none) (m_list : g.mg "list" = none) (m_len : g.mg "len" = none) (h : Got g "_law_bent" s_bent) (im : ∀ ss Ex P, W ss Ex P → fnW 2 5 (w_bent C_draw C_bent) ss Ex P) : Cal g CX0 (k + 1) "_law_bent" ["_law_feed_here", "_law_thing"] W := by
  obtain ⟨f, fd, m, F⟩ := h
  exact Cal.imp ⟨f, fd, df_bent mono_draw c_draw mono_bent c_bent     m_isinstance m_int m_str m_tuple m_list m_len   F, m, F.kp, bd_bent F⟩ im
theorem sc_way_due : FnScope ["_law_thing", "_law_least", "_law_name", "_law_sign"] ["_law_thing", "_law_least"] (defScope s_way_due) := ⟨rfl, rfl, rfl, by decide +kernel, rfl, by decide +kernel, by decide +kernel⟩
@[irreducible] def t_way_due_1 : WS := (wRet (wC (.bool true)))
@[irreducible] def t_way_due_2 : WS := (wRet (wC (.bool false)))
@[irreducible] def t_way_due_3 : WS := (wIfS (wB (wOp neF (wLc (wIt (wVar 2)) (gN 3) (wOr (wB (wOp ltU (wCB ordF (wCons (wVar 3) wNil)) (wC (.int 97)))) (wB (wOp gtU (wCB ordF (wCons (wVar 3) wNil)) (wC (.int 122))))) (wVar 3) [3]) (wLst wNil)))
    (t_way_due_2) wNext)
@[irreducible] def t_way_due_4 : WS := (wRet (wC (.bool false)))
@[irreducible] def t_way_due_5 : WS := wSeq (wIfS (wOr (wNot (wTru (wIsi "str" (wVar 2)))) (wNot (wB (wChn ltU ltU (wC (.int 0)) (wCB lenX (wCons (wVar 2) wNil)) (wC (.int 9))))))
    (t_way_due_4) wNext)
    (t_way_due_3)
@[irreducible] def t_way_due_6 : WS := wSeq (wFor (wIt (wVar 0)) (gN 2)
    (t_way_due_5))
    (t_way_due_1)
@[irreducible] def t_way_due_7 : WS := (wRet (wC (.bool false)))
@[irreducible] def t_way_due_8 : WS := wSeq (wIfS (wOr (wNot (wTru (wIsi "tuple" (wVar 0)))) (wB (wOp ltU (wCB lenX (wCons (wVar 0) wNil)) (wVar 1))))
    (t_way_due_7) wNext)
    (t_way_due_6)
def w_way_due : WS := (wSeq (wIfS (wOr (wNot (wTru (wIsi "tuple" (wVar 0)))) (wB (wOp ltU (wCB lenX (wCons (wVar 0) wNil)) (wVar 1))))
    ((wRet (wC (.bool false)))) wNext)
    (wSeq (wFor (wIt (wVar 0)) (gN 2)
    (wSeq (wIfS (wOr (wNot (wTru (wIsi "str" (wVar 2)))) (wNot (wB (wChn ltU ltU (wC (.int 0)) (wCB lenX (wCons (wVar 2) wNil)) (wC (.int 9))))))
    ((wRet (wC (.bool false)))) wNext)
    ((wIfS (wB (wOp neF (wLc (wIt (wVar 2)) (gN 3) (wOr (wB (wOp ltU (wCB ordF (wCons (wVar 3) wNil)) (wC (.int 97)))) (wB (wOp gtU (wCB ordF (wCons (wVar 3) wNil)) (wC (.int 122))))) (wVar 3) [3]) (wLst wNil)))
    ((wRet (wC (.bool false)))) wNext))))
    ((wRet (wC (.bool true))))))
theorem w_way_due_eq : w_way_due = (t_way_due_8) := by with_unfolding_all rfl
theorem df_way_due {g : Gx} {k : Nat} (m_ord : g.mg "ord" = none) (m_len : g.mg "len" = none) (m_isinstance : g.mg "isinstance" = none) (m_str : g.mg "str" = none) (m_tuple : g.mg "tuple" = none) {f : Addr} {fd : FuncData} (Fn : Fun g.K "_law_way_due" "_law_way_due" s_way_due f fd) : FnG g CX0 (k + 1) f fd ["_law_thing", "_law_least"] (spOf g.K 2 (fnW 2 4 w_way_due)) :=
  fn_dl (N := ["_law_thing", "_law_least", "_law_name", "_law_sign"]) Fn sc_way_due (fun E => (ds_cons (ds_if (dt_w (dw_or (dt_not (dt_tru (de_isi (T := "tuple") rfl rfl m_isinstance rfl m_tuple rfl (de_var (i := 0) rfl (by first | exact .inl rfl | exact .inr (.inl rfl) | exact .inr (.inr rfl)))) (fun _ _ => rfl))) (dw_or1 (dt_cmp os_ltU (de_callB cs_lenX rfl m_len rfl (da_cons (de_var (i := 0) rfl (by first | exact .inl rfl | exact .inr (.inl rfl) | exact .inr (.inr rfl))) da_nil)) (de_var (i := 1) rfl (by first | exact .inl rfl | exact .inr (.inl rfl) | exact .inr (.inr rfl))) rfl))))
    (ds_one (ds_ret de_bl)) ds_nil)
    (ds_cons (ds_for (di_seq (de_var (i := 0) rfl (by first | exact .inl rfl | exact .inr (.inl rfl) | exact .inr (.inr rfl)))) (dg_name (i := 2) rfl (by first | exact .inl rfl | exact .inr rfl))
    (ds_cons (ds_if (dt_w (dw_or (dt_not (dt_tru (de_isi (T := "str") rfl rfl m_isinstance rfl m_str rfl (de_var (i := 2) rfl (by first | exact .inl rfl | exact .inr (.inl rfl) | exact .inr (.inr rfl)))) (fun _ _ => rfl))) (dw_or1 (dt_not (dt_chn os_ltU os_ltU de_int (de_callB cs_lenX rfl m_len rfl (da_cons (de_var (i := 2) rfl (by first | exact .inl rfl | exact .inr (.inl rfl) | exact .inr (.inr rfl))) da_nil)) de_int)))))
    (ds_one (ds_ret de_bl)) ds_nil)
    (ds_one (ds_if (dt_cmp os_ne (de_lc (own := [("_law_sign", 3)]) cx0_ok (di_seq (de_var (i := 2) rfl (by first | exact .inl rfl | exact .inr (.inl rfl) | exact .inr (.inr rfl)))) rfl (dg_name (i := 3) rfl (by first | exact .inl rfl | exact .inr rfl)) rfl (dts_one (dt_w (dw_or (dt_cmp os_ltU (de_callB cs_ord rfl m_ord rfl (da_cons (de_var (i := 3) rfl (by first | exact .inl rfl | exact .inr (.inl rfl) | exact .inr (.inr rfl))) da_nil)) de_int rfl) (dw_or1 (dt_cmp os_gtU (de_callB cs_ord rfl m_ord rfl (da_cons (de_var (i := 3) rfl (by first | exact .inl rfl | exact .inr (.inl rfl) | exact .inr (.inr rfl))) da_nil)) de_int rfl))))) (de_var (i := 3) rfl (by first | exact .inl rfl | exact .inr (.inl rfl) | exact .inr (.inr rfl)))) (de_lst da_nil) rfl)
    (ds_one (ds_ret de_bl)) ds_nil))))
    (ds_one (ds_ret de_bl))))) (by decide)
theorem bd_way_due {K : PySem.W.Frag} {f : Addr} {fd : FuncData} (Fn : Fun K "_law_way_due" "_law_way_due" s_way_due f fd) : Binds K fd ["_law_thing", "_law_least"] [] := Fn.binds (ps := ["_law_thing", "_law_least"]) fun _ _ _ _ _ _ us hl => match us, hl with | [_, _], _ => rfl
theorem cal_way_due {g : Gx} {k : Nat} {W : FSpec} (m_ord : g.mg "ord" = none) (m_len : g.mg "len" = none) (m_isinstance : g.mg "isinstance" = none) (m_str : g.mg "str" = none) (m_tuple : g.mg "tuple" = none) (h : Got g "_law_way_due" s_way_due) (im : ∀ ss Ex P, W ss Ex P → fnW 2 4 w_way_due ss Ex P) : Cal g CX0 (k + 1) "_law_way_due" ["_law_thing", "_law_least"] W := by
  obtain ⟨f, fd, m, F⟩ := h
  exact Cal.imp ⟨f, fd, df_way_due      m_ord m_len m_isinstance m_str m_tuple   F, m, F.kp, bd_way_due F⟩ im
theorem sc_due : FnScope ["_law_thing", "_law_forms", "_law_sort", "_law_part"] ["_law_thing"] (defScope s_due) := ⟨rfl, rfl, rfl, by decide +kernel, rfl, by decide +kernel, by decide +kernel⟩
@[irreducible] def t_due_1 (C_way_due : FSpec) : WS := (wRet (wC (.bool true)))
@[irreducible] def t_due_2 (C_way_due : FSpec) : WS := (wRet (wC (.bool false)))
@[irreducible] def t_due_3 (C_way_due : FSpec) : WS := (wIfS (wAnd (wB (wOp neF (wVar 2) (wC (.str "kind")))) (wNot (wTru (wCall 2 C_way_due [false, false] (wCons (wVar 3) (wCons (wVar 2) wNil))))))
    (t_due_2 C_way_due) wNext)
@[irreducible] def t_due_4 (C_way_due : FSpec) : WS := (wRet (wC (.bool false)))
@[irreducible] def t_due_5 (C_way_due : FSpec) : WS := wSeq (wIfS (wAnd (wB (wOp eqF (wVar 2) (wC (.str "kind")))) (wB (wOp (inT true) (wCB reprF (wCons (wVar 3) wNil)) (wTup (wCons (wC (.str "'drawer'")) (wCons (wC (.str "'sheet'")) wNil))))))
    (t_due_4 C_way_due) wNext)
    (t_due_3 C_way_due)
@[irreducible] def t_due_6 (C_way_due : FSpec) : WS := wSeq (wFor (wZipW (wCons (wOp idxF (wVar 1) (wOp idxF (wVar 0) (wC (.int 0)))) (wCons (wSl (wVar 0) (wPart (wC (.int 1))) wNoP) wNil))) (gT 2 (gsC (gN 2) (gsC (gN 3) gsN)))
    (t_due_5 C_way_due))
    (t_due_1 C_way_due)
@[irreducible] def t_due_7 (C_way_due : FSpec) : WS := (wRet (wC (.bool false)))
@[irreducible] def t_due_8 (C_way_due : FSpec) : WS := wSeq (wIfS (wOr (wB (wOp (inT true) (wOp idxF (wVar 0) (wC (.int 0))) (wVar 1))) (wB (wOp neF (wCB lenX (wCons (wVar 0) wNil)) (wOp addF (wC (.int 1)) (wCB lenX (wCons (wOp idxF (wVar 1) (wOp idxF (wVar 0) (wC (.int 0)))) wNil))))))
    (t_due_7 C_way_due) wNext)
    (t_due_6 C_way_due)
@[irreducible] def t_due_9 (C_way_due : FSpec) : WS := wSeq (wDrop (wUpdD 1 (wDisp (((wC (.str "move")), (wTup (wCons (wC (.int 1)) (wCons (wC (.int 1)) wNil)))) :: (((wC (.str "swap")), (wTup (wCons (wC (.int 1)) (wCons (wC (.int 1)) wNil)))) :: [])))))
    (t_due_8 C_way_due)
@[irreducible] def t_due_10 (C_way_due : FSpec) : WS := wSeq (wSet 1 (wCB dictF (wCons (wLst (wCons (wTup (wCons (wC (.str "look")) (wCons (wTup (wCons (wC (.int 0)) wNil)) wNil))) (wCons (wTup (wCons (wC (.str "list")) (wCons (wTup (wCons (wC (.int 0)) wNil)) wNil))) (wCons (wTup (wCons (wC (.str "make")) (wCons (wTup (wCons (wC (.int 1)) (wCons (wC (.str "kind")) wNil))) wNil))) (wCons (wTup (wCons (wC (.str "drop")) (wCons (wTup (wCons (wC (.int 1)) wNil)) wNil))) (wCons (wTup (wCons (wC (.str "link")) (wCons (wTup (wCons (wC (.int 1)) (wCons (wC (.int 1)) wNil))) wNil))) wNil)))))) wNil)))
    (t_due_9 C_way_due)
@[irreducible] def t_due_11 (C_way_due : FSpec) : WS := (wRet (wC (.bool false)))
@[irreducible] def t_due_12 (C_way_due : FSpec) : WS := wSeq (wIfS (wOr (wNot (wTru (wIsi "tuple" (wVar 0)))) (wOr (wB (wOp eqF (wVar 0) (wTup wNil))) (wNot (wTru (wIsi "str" (wOp idxF (wVar 0) (wC (.int 0))))))))
    (t_due_11 C_way_due) wNext)
    (t_due_10 C_way_due)
def w_due (C_way_due : FSpec) : WS := (wSeq (wIfS (wOr (wNot (wTru (wIsi "tuple" (wVar 0)))) (wOr (wB (wOp eqF (wVar 0) (wTup wNil))) (wNot (wTru (wIsi "str" (wOp idxF (wVar 0) (wC (.int 0))))))))
    ((wRet (wC (.bool false)))) wNext)
    (wSeq (wSet 1 (wCB dictF (wCons (wLst (wCons (wTup (wCons (wC (.str "look")) (wCons (wTup (wCons (wC (.int 0)) wNil)) wNil))) (wCons (wTup (wCons (wC (.str "list")) (wCons (wTup (wCons (wC (.int 0)) wNil)) wNil))) (wCons (wTup (wCons (wC (.str "make")) (wCons (wTup (wCons (wC (.int 1)) (wCons (wC (.str "kind")) wNil))) wNil))) (wCons (wTup (wCons (wC (.str "drop")) (wCons (wTup (wCons (wC (.int 1)) wNil)) wNil))) (wCons (wTup (wCons (wC (.str "link")) (wCons (wTup (wCons (wC (.int 1)) (wCons (wC (.int 1)) wNil))) wNil))) wNil)))))) wNil)))
    (wSeq (wDrop (wUpdD 1 (wDisp (((wC (.str "move")), (wTup (wCons (wC (.int 1)) (wCons (wC (.int 1)) wNil)))) :: (((wC (.str "swap")), (wTup (wCons (wC (.int 1)) (wCons (wC (.int 1)) wNil)))) :: [])))))
    (wSeq (wIfS (wOr (wB (wOp (inT true) (wOp idxF (wVar 0) (wC (.int 0))) (wVar 1))) (wB (wOp neF (wCB lenX (wCons (wVar 0) wNil)) (wOp addF (wC (.int 1)) (wCB lenX (wCons (wOp idxF (wVar 1) (wOp idxF (wVar 0) (wC (.int 0)))) wNil))))))
    ((wRet (wC (.bool false)))) wNext)
    (wSeq (wFor (wZipW (wCons (wOp idxF (wVar 1) (wOp idxF (wVar 0) (wC (.int 0)))) (wCons (wSl (wVar 0) (wPart (wC (.int 1))) wNoP) wNil))) (gT 2 (gsC (gN 2) (gsC (gN 3) gsN)))
    (wSeq (wIfS (wAnd (wB (wOp eqF (wVar 2) (wC (.str "kind")))) (wB (wOp (inT true) (wCB reprF (wCons (wVar 3) wNil)) (wTup (wCons (wC (.str "'drawer'")) (wCons (wC (.str "'sheet'")) wNil))))))
    ((wRet (wC (.bool false)))) wNext)
    ((wIfS (wAnd (wB (wOp neF (wVar 2) (wC (.str "kind")))) (wNot (wTru (wCall 2 C_way_due [false, false] (wCons (wVar 3) (wCons (wVar 2) wNil))))))
    ((wRet (wC (.bool false)))) wNext))))
    ((wRet (wC (.bool true)))))))))
theorem w_due_eq (C_way_due : FSpec) : w_due C_way_due = (t_due_12 C_way_due) := by with_unfolding_all rfl
theorem df_due {g : Gx} {k : Nat} {C_way_due : FSpec} (mono_way_due : FMono C_way_due) (c_way_due : Cal g CX0 k "_law_way_due" ["_law_thing", "_law_least"] C_way_due) (m_zip : g.mg "zip" = none) (m_repr : g.mg "repr" = none) (m_len : g.mg "len" = none) (m_dict : g.mg "dict" = none) (m_isinstance : g.mg "isinstance" = none) (m_str : g.mg "str" = none) (m_tuple : g.mg "tuple" = none) {f : Addr} {fd : FuncData} (Fn : Fun g.K "_law_due" "_law_due" s_due f fd) : FnG g CX0 (k + 1) f fd ["_law_thing"] (spOf g.K 1 (fnW 1 4 (w_due C_way_due))) :=
  fn_dl (N := ["_law_thing", "_law_forms", "_law_sort", "_law_part"]) Fn sc_due (fun E => (ds_cons (ds_if (dt_w (dw_or (dt_not (dt_tru (de_isi (T := "tuple") rfl rfl m_isinstance rfl m_tuple rfl (de_var (i := 0) rfl (by first | exact .inl rfl | exact .inr (.inl rfl) | exact .inr (.inr rfl)))) (fun _ _ => rfl))) (dw_or (dt_cmp os_eq (de_var (i := 0) rfl (by first | exact .inl rfl | exact .inr (.inl rfl) | exact .inr (.inr rfl))) (de_tup da_nil) rfl) (dw_or1 (dt_not (dt_tru (de_isi (T := "str") rfl rfl m_isinstance rfl m_str rfl (de_ix (de_var (i := 0) rfl (by first | exact .inl rfl | exact .inr (.inl rfl) | exact .inr (.inr rfl))) de_int)) (fun _ _ => rfl)))))))
    (ds_one (ds_ret de_bl)) ds_nil)
    (ds_cons (ds_set (i := 1) rfl (by first | exact .inl rfl | exact .inr rfl) (de_callT cs_dict rfl m_dict rfl (da_cons (de_lst (da_cons (de_tup (da_cons de_str (da_cons (de_tup (da_cons de_int da_nil)) da_nil))) (da_cons (de_tup (da_cons de_str (da_cons (de_tup (da_cons de_int da_nil)) da_nil))) (da_cons (de_tup (da_cons de_str (da_cons (de_tup (da_cons de_int (da_cons de_str da_nil))) da_nil))) (da_cons (de_tup (da_cons de_str (da_cons (de_tup (da_cons de_int da_nil)) da_nil))) (da_cons (de_tup (da_cons de_str (da_cons (de_tup (da_cons de_int (da_cons de_int da_nil))) da_nil))) da_nil)))))) da_nil)))
    (ds_cons (ds_expr (de_updD (i := 1) rfl (by first | exact .inl rfl | exact .inr (.inl rfl) | exact .inr (.inr rfl)) (de_disp (dps_cons de_str (de_tup (da_cons de_int (da_cons de_int da_nil))) (dps_cons de_str (de_tup (da_cons de_int (da_cons de_int da_nil))) dps_nil)))))
    (ds_cons (ds_if (dt_w (dw_or (dt_cmp os_notinT (de_ix (de_var (i := 0) rfl (by first | exact .inl rfl | exact .inr (.inl rfl) | exact .inr (.inr rfl))) de_int) (de_var (i := 1) rfl (by first | exact .inl rfl | exact .inr (.inl rfl) | exact .inr (.inr rfl))) rfl) (dw_or1 (dt_cmp os_ne (de_callB cs_lenX rfl m_len rfl (da_cons (de_var (i := 0) rfl (by first | exact .inl rfl | exact .inr (.inl rfl) | exact .inr (.inr rfl))) da_nil)) (de_op os_add de_int (de_callB cs_lenX rfl m_len rfl (da_cons (de_ix (de_var (i := 1) rfl (by first | exact .inl rfl | exact .inr (.inl rfl) | exact .inr (.inr rfl))) (de_ix (de_var (i := 0) rfl (by first | exact .inl rfl | exact .inr (.inl rfl) | exact .inr (.inr rfl))) de_int)) da_nil))) rfl))))
    (ds_one (ds_ret de_bl)) ds_nil)
    (ds_cons (ds_for (di_zipW rfl m_zip (da_cons (de_ix (de_var (i := 1) rfl (by first | exact .inl rfl | exact .inr (.inl rfl) | exact .inr (.inr rfl))) (de_ix (de_var (i := 0) rfl (by first | exact .inl rfl | exact .inr (.inl rfl) | exact .inr (.inr rfl))) de_int)) (da_cons (de_sl (de_var (i := 0) rfl (by first | exact .inl rfl | exact .inr (.inl rfl) | exact .inr (.inr rfl))) (do_some de_int) do_none) da_nil))) (dg_tup (dgs_cons (dg_name (i := 2) rfl (by first | exact .inl rfl | exact .inr rfl)) (dgs_cons (dg_name (i := 3) rfl (by first | exact .inl rfl | exact .inr rfl)) dgs_nil)))
    (ds_cons (ds_if (dt_w (dw_and (dt_cmp os_eq (de_var (i := 2) rfl (by first | exact .inl rfl | exact .inr (.inl rfl) | exact .inr (.inr rfl))) de_str rfl) (dw_and1 (dt_cmp os_notinT (de_callB cs_repr rfl m_repr rfl (da_cons (de_var (i := 3) rfl (by first | exact .inl rfl | exact .inr (.inl rfl) | exact .inr (.inr rfl))) da_nil)) (de_tup (da_cons de_str (da_cons de_str da_nil))) rfl))))
    (ds_one (ds_ret de_bl)) ds_nil)
    (ds_one (ds_if (dt_w (dw_and (dt_cmp os_ne (de_var (i := 2) rfl (by first | exact .inl rfl | exact .inr (.inl rfl) | exact .inr (.inr rfl))) de_str rfl) (dw_and1 (dt_not (dt_tru (de_cal (ms := [false, false]) c_way_due mono_way_due rfl (da_cons (de_var (i := 3) rfl (by first | exact .inl rfl | exact .inr (.inl rfl) | exact .inr (.inr rfl))) (da_cons (de_var (i := 2) rfl (by first | exact .inl rfl | exact .inr (.inl rfl) | exact .inr (.inr rfl))) da_nil))) (fun _ _ => rfl))))))
    (ds_one (ds_ret de_bl)) ds_nil))))
    (ds_one (ds_ret de_bl)))))))) (by decide)
theorem bd_due {K : PySem.W.Frag} {f : Addr} {fd : FuncData} (Fn : Fun K "_law_due" "_law_due" s_due f fd) : Binds K fd ["_law_thing"] [] := Fn.binds (ps := ["_law_thing"]) fun _ _ _ _ _ _ us hl => match us, hl with | [_], _ => rfl
theorem cal_due {g : Gx} {k : Nat} {C_way_due : FSpec} {W : FSpec} (mono_way_due : FMono C_way_due) (c_way_due : Cal g CX0 k "_law_way_due" ["_law_thing", "_law_least"] C_way_due) (m_zip : g.mg "zip" = none) (m_repr : g.mg "repr" = none) (m_len : g.mg "len" = none) (m_dict : g.mg "dict" = none) (m_isinstance : g.mg "isinstance" = none) (m_str : g.mg "str" = none) (m_tuple : g.mg "tuple" = none) (h : Got g "_law_due" s_due) (im : ∀ ss Ex P, W ss Ex P → fnW 1 4 (w_due C_way_due) ss Ex P) : Cal g CX0 (k + 1) "_law_due" ["_law_thing"] W := by
  obtain ⟨f, fd, m, F⟩ := h
  exact Cal.imp ⟨f, fd, df_due mono_way_due c_way_due     m_zip m_repr m_len m_dict m_isinstance m_str m_tuple   F, m, F.kp, bd_due F⟩ im
theorem sc_near : FnScope ["_law_feed_here", "_law_deed_here", "_law_found", "_law_word", "_law_at", "_law_odd", "_law_thing"] ["_law_feed_here", "_law_deed_here"] (defScope s_near) := ⟨rfl, rfl, rfl, by decide +kernel, rfl, by decide +kernel, by decide +kernel⟩
@[irreducible] def t_near_1 (C_bent C_draw : FSpec) : WS := (wRet (wOp addF (wVar 2) (wLst (wCons (wCall 2 C_bent [true, false] (wCons (wVar 0) (wCons (wVar 1) wNil))) (wCons (wCall 2 C_bent [true, false] (wCons (wVar 0) (wCons (wCall 2 C_bent [true, false] (wCons (wVar 0) (wCons (wVar 1) wNil))) wNil))) wNil)))))
@[irreducible] def t_near_2 (C_bent C_draw : FSpec) : WS := (wDrop (wApp 2 (wOp addF (wOp addF (wSl (wVar 1) wNoP (wPart (wVar 4))) (wTup (wCons (wVar 6) wNil))) (wSl (wVar 1) (wPart (wOp addF (wVar 4) (wC (.int 1)))) wNoP))))
@[irreducible] def t_near_3 (C_bent C_draw : FSpec) : WS := wSeq (wFor (wIt (wOp addF (wVar 5) (wLst (wCons (wC (.str "drawer")) (wCons (wC (.str "sheet")) (wCons (wC (.str "Sheet")) wNil)))))) (gN 6)
    (t_near_2 C_bent C_draw))
    (t_near_1 C_bent C_draw)
@[irreducible] def t_near_4 (C_bent C_draw : FSpec) : WS := wSeq (wSet 5 (wLst (wCons (wTup wNil) (wCons (wTup (wCons (wC (.str "")) wNil)) (wCons (wTup (wCons (wC (.str "a")) (wCons (wC (.int 1)) wNil))) (wCons (wLst (wCons (wC (.str "a")) wNil)) (wCons (wC (.str "a")) (wCons (wTup (wCons (wC (.str "A")) wNil)) (wCons (wTup (wCons (wC (.str "abcdefghi")) wNil)) (wCons (wOp mulT (wTup (wCons (wC (.str "abcdefgh")) wNil)) (wC (.int 5))) wNil))))))))))
    (t_near_3 C_bent C_draw)
@[irreducible] def t_near_5 (C_bent C_draw : FSpec) : WS := wSeq (wSet 4 (wOp addF (wC (.int 1)) (wCall 2 C_draw [true, false] (wCons (wVar 0) (wCons (wOp subF (wCB lenX (wCons (wVar 1) wNil)) (wC (.int 1))) wNil)))))
    (t_near_4 C_bent C_draw)
@[irreducible] def t_near_6 (C_bent C_draw : FSpec) : WS := (wDrop (wApp 2 (wOp addF (wTup (wCons (wVar 3) wNil)) (wSl (wVar 1) (wPart (wC (.int 1))) wNoP))))
@[irreducible] def t_near_7 (C_bent C_draw : FSpec) : WS := wSeq (wFor (wIt (wTup (wCons (wC (.str "look")) (wCons (wC (.str "list")) (wCons (wC (.str "make")) (wCons (wC (.str "drop")) (wCons (wC (.str "link")) (wCons (wC (.str "move")) (wCons (wC (.str "swap")) (wCons (wC (.str "Look")) (wCons (wC (.str "")) (wCons (wC .none) wNil)))))))))))) (gN 3)
    (t_near_6 C_bent C_draw))
    (t_near_5 C_bent C_draw)
@[irreducible] def t_near_8 (C_bent C_draw : FSpec) : WS := wSeq (wSet 2 (wLst (wCons (wVar 1) (wCons (wCB listF (wCons (wVar 1) wNil)) (wCons (wSl (wVar 1) (wPart (wC (.int 1))) wNoP) (wCons (wOp addF (wVar 1) (wTup (wCons (wTup (wCons (wC (.str "a")) wNil)) wNil))) (wCons (wSl (wVar 1) wNoP (wPart (wNeg (wC (.int 1))))) (wCons (wRev (wVar 1)) (wCons (wTup (wCons (wVar 1) wNil)) wNil)))))))))
    (t_near_7 C_bent C_draw)
def w_near (C_bent C_draw : FSpec) : WS := (wSeq (wSet 2 (wLst (wCons (wVar 1) (wCons (wCB listF (wCons (wVar 1) wNil)) (wCons (wSl (wVar 1) (wPart (wC (.int 1))) wNoP) (wCons (wOp addF (wVar 1) (wTup (wCons (wTup (wCons (wC (.str "a")) wNil)) wNil))) (wCons (wSl (wVar 1) wNoP (wPart (wNeg (wC (.int 1))))) (wCons (wRev (wVar 1)) (wCons (wTup (wCons (wVar 1) wNil)) wNil)))))))))
    (wSeq (wFor (wIt (wTup (wCons (wC (.str "look")) (wCons (wC (.str "list")) (wCons (wC (.str "make")) (wCons (wC (.str "drop")) (wCons (wC (.str "link")) (wCons (wC (.str "move")) (wCons (wC (.str "swap")) (wCons (wC (.str "Look")) (wCons (wC (.str "")) (wCons (wC .none) wNil)))))))))))) (gN 3)
    ((wDrop (wApp 2 (wOp addF (wTup (wCons (wVar 3) wNil)) (wSl (wVar 1) (wPart (wC (.int 1))) wNoP))))))
    (wSeq (wSet 4 (wOp addF (wC (.int 1)) (wCall 2 C_draw [true, false] (wCons (wVar 0) (wCons (wOp subF (wCB lenX (wCons (wVar 1) wNil)) (wC (.int 1))) wNil)))))
    (wSeq (wSet 5 (wLst (wCons (wTup wNil) (wCons (wTup (wCons (wC (.str "")) wNil)) (wCons (wTup (wCons (wC (.str "a")) (wCons (wC (.int 1)) wNil))) (wCons (wLst (wCons (wC (.str "a")) wNil)) (wCons (wC (.str "a")) (wCons (wTup (wCons (wC (.str "A")) wNil)) (wCons (wTup (wCons (wC (.str "abcdefghi")) wNil)) (wCons (wOp mulT (wTup (wCons (wC (.str "abcdefgh")) wNil)) (wC (.int 5))) wNil))))))))))
    (wSeq (wFor (wIt (wOp addF (wVar 5) (wLst (wCons (wC (.str "drawer")) (wCons (wC (.str "sheet")) (wCons (wC (.str "Sheet")) wNil)))))) (gN 6)
    ((wDrop (wApp 2 (wOp addF (wOp addF (wSl (wVar 1) wNoP (wPart (wVar 4))) (wTup (wCons (wVar 6) wNil))) (wSl (wVar 1) (wPart (wOp addF (wVar 4) (wC (.int 1)))) wNoP))))))
    ((wRet (wOp addF (wVar 2) (wLst (wCons (wCall 2 C_bent [true, false] (wCons (wVar 0) (wCons (wVar 1) wNil))) (wCons (wCall 2 C_bent [true, false] (wCons (wVar 0) (wCons (wCall 2 C_bent [true, false] (wCons (wVar 0) (wCons (wVar 1) wNil))) wNil))) wNil)))))))))))
theorem w_near_eq (C_bent C_draw : FSpec) : w_near C_bent C_draw = (t_near_8 C_bent C_draw) := by with_unfolding_all rfl
theorem df_near {g : Gx} {k : Nat} {C_bent C_draw : FSpec} (mono_bent : FMono C_bent) (c_bent : Cal g CX0 k "_law_bent" ["_law_feed_here", "_law_thing"] C_bent) (mono_draw : FMono C_draw) (c_draw : Cal g CX0 k "_law_draw" ["_law_feed_here", "_law_many"] C_draw) (m_len : g.mg "len" = none) (m_list : g.mg "list" = none) {f : Addr} {fd : FuncData} (Fn : Fun g.K "_law_near" "_law_near" s_near f fd) : FnG g CX0 (k + 1) f fd ["_law_feed_here", "_law_deed_here"] (spOf g.K 2 (fnW 2 7 (w_near C_bent C_draw))) :=
  fn_dl (N := ["_law_feed_here", "_law_deed_here", "_law_found", "_law_word", "_law_at", "_law_odd", "_law_thing"]) Fn sc_near (fun E => (ds_cons (ds_set (i := 2) rfl (by first | exact .inl rfl | exact .inr rfl) (de_lst (da_cons (de_var (i := 1) rfl (by first | exact .inl rfl | exact .inr (.inl rfl) | exact .inr (.inr rfl))) (da_cons (de_callT cs_list rfl m_list rfl (da_cons (de_var (i := 1) rfl (by first | exact .inl rfl | exact .inr (.inl rfl) | exact .inr (.inr rfl))) da_nil)) (da_cons (de_sl (de_var (i := 1) rfl (by first | exact .inl rfl | exact .inr (.inl rfl) | exact .inr (.inr rfl))) (do_some de_int) do_none) (da_cons (de_op os_add (de_var (i := 1) rfl (by first | exact .inl rfl | exact .inr (.inl rfl) | exact .inr (.inr rfl))) (de_tup (da_cons (de_tup (da_cons de_str da_nil)) da_nil))) (da_cons (de_sl (de_var (i := 1) rfl (by first | exact .inl rfl | exact .inr (.inl rfl) | exact .inr (.inr rfl))) do_none (do_some (de_neg de_int))) (da_cons (de_rev (de_var (i := 1) rfl (by first | exact .inl rfl | exact .inr (.inl rfl) | exact .inr (.inr rfl)))) (da_cons (de_tup (da_cons (de_var (i := 1) rfl (by first | exact .inl rfl | exact .inr (.inl rfl) | exact .inr (.inr rfl))) da_nil)) da_nil)))))))))
    (ds_cons (ds_for (di_seq (de_tup (da_cons de_str (da_cons de_str (da_cons de_str (da_cons de_str (da_cons de_str (da_cons de_str (da_cons de_str (da_cons de_str (da_cons de_str (da_cons de_non da_nil)))))))))))) (dg_name (i := 3) rfl (by first | exact .inl rfl | exact .inr rfl))
    (ds_one (ds_expr (de_app (i := 2) rfl (by first | exact .inl rfl | exact .inr (.inl rfl) | exact .inr (.inr rfl)) (de_op os_add (de_tup (da_cons (de_var (i := 3) rfl (by first | exact .inl rfl | exact .inr (.inl rfl) | exact .inr (.inr rfl))) da_nil)) (de_sl (de_var (i := 1) rfl (by first | exact .inl rfl | exact .inr (.inl rfl) | exact .inr (.inr rfl))) (do_some de_int) do_none))))))
    (ds_cons (ds_set (i := 4) rfl (by first | exact .inl rfl | exact .inr rfl) (de_op os_add de_int (de_cal (ms := [true, false]) c_draw mono_draw rfl (da_cons (de_var (i := 0) rfl (by first | exact .inl rfl | exact .inr (.inl rfl) | exact .inr (.inr rfl))) (da_cons (de_op os_sub (de_callB cs_lenX rfl m_len rfl (da_cons (de_var (i := 1) rfl (by first | exact .inl rfl | exact .inr (.inl rfl) | exact .inr (.inr rfl))) da_nil)) de_int) da_nil)))))
    (ds_cons (ds_set (i := 5) rfl (by first | exact .inl rfl | exact .inr rfl) (de_lst (da_cons (de_tup da_nil) (da_cons (de_tup (da_cons de_str da_nil)) (da_cons (de_tup (da_cons de_str (da_cons de_int da_nil))) (da_cons (de_lst (da_cons de_str da_nil)) (da_cons de_str (da_cons (de_tup (da_cons de_str da_nil)) (da_cons (de_tup (da_cons de_str da_nil)) (da_cons (de_op os_mulT (de_tup (da_cons de_str da_nil)) de_int) da_nil))))))))))
    (ds_cons (ds_for (di_seq (de_op os_add (de_var (i := 5) rfl (by first | exact .inl rfl | exact .inr (.inl rfl) | exact .inr (.inr rfl))) (de_lst (da_cons de_str (da_cons de_str (da_cons de_str da_nil)))))) (dg_name (i := 6) rfl (by first | exact .inl rfl | exact .inr rfl))
    (ds_one (ds_expr (de_app (i := 2) rfl (by first | exact .inl rfl | exact .inr (.inl rfl) | exact .inr (.inr rfl)) (de_op os_add (de_op os_add (de_sl (de_var (i := 1) rfl (by first | exact .inl rfl | exact .inr (.inl rfl) | exact .inr (.inr rfl))) do_none (do_some (de_var (i := 4) rfl (by first | exact .inl rfl | exact .inr (.inl rfl) | exact .inr (.inr rfl))))) (de_tup (da_cons (de_var (i := 6) rfl (by first | exact .inl rfl | exact .inr (.inl rfl) | exact .inr (.inr rfl))) da_nil))) (de_sl (de_var (i := 1) rfl (by first | exact .inl rfl | exact .inr (.inl rfl) | exact .inr (.inr rfl))) (do_some (de_op os_add (de_var (i := 4) rfl (by first | exact .inl rfl | exact .inr (.inl rfl) | exact .inr (.inr rfl))) de_int)) do_none))))))
    (ds_one (ds_ret (de_op os_add (de_var (i := 2) rfl (by first | exact .inl rfl | exact .inr (.inl rfl) | exact .inr (.inr rfl))) (de_lst (da_cons (de_cal (ms := [true, false]) c_bent mono_bent rfl (da_cons (de_var (i := 0) rfl (by first | exact .inl rfl | exact .inr (.inl rfl) | exact .inr (.inr rfl))) (da_cons (de_var (i := 1) rfl (by first | exact .inl rfl | exact .inr (.inl rfl) | exact .inr (.inr rfl))) da_nil))) (da_cons (de_cal (ms := [true, false]) c_bent mono_bent rfl (da_cons (de_var (i := 0) rfl (by first | exact .inl rfl | exact .inr (.inl rfl) | exact .inr (.inr rfl))) (da_cons (de_cal (ms := [true, false]) c_bent mono_bent rfl (da_cons (de_var (i := 0) rfl (by first | exact .inl rfl | exact .inr (.inl rfl) | exact .inr (.inr rfl))) (da_cons (de_var (i := 1) rfl (by first | exact .inl rfl | exact .inr (.inl rfl) | exact .inr (.inr rfl))) da_nil))) da_nil))) da_nil)))))))))))) (by decide)
theorem bd_near {K : PySem.W.Frag} {f : Addr} {fd : FuncData} (Fn : Fun K "_law_near" "_law_near" s_near f fd) : Binds K fd ["_law_feed_here", "_law_deed_here"] [] := Fn.binds (ps := ["_law_feed_here", "_law_deed_here"]) fun _ _ _ _ _ _ us hl => match us, hl with | [_, _], _ => rfl
theorem cal_near {g : Gx} {k : Nat} {C_bent C_draw : FSpec} {W : FSpec} (mono_bent : FMono C_bent) (c_bent : Cal g CX0 k "_law_bent" ["_law_feed_here", "_law_thing"] C_bent) (mono_draw : FMono C_draw) (c_draw : Cal g CX0 k "_law_draw" ["_law_feed_here", "_law_many"] C_draw) (m_len : g.mg "len" = none) (m_list : g.mg "list" = none) (h : Got g "_law_near" s_near) (im : ∀ ss Ex P, W ss Ex P → fnW 2 7 (w_near C_bent C_draw) ss Ex P) : Cal g CX0 (k + 1) "_law_near" ["_law_feed_here", "_law_deed_here"] W := by
  obtain ⟨f, fd, m, F⟩ := h
  exact Cal.imp ⟨f, fd, df_near mono_bent c_bent mono_draw c_draw     m_len m_list   F, m, F.kp, bd_near F⟩ im
theorem sc_law : FnScope ["_law_script", "_law_feed_here", "_law_names_here", "_law_tree_here", "_law_things", "_law_k", "_law_before", "_law_thing"] ["_law_script"] (defScope s_law) := ⟨rfl, rfl, rfl, by decide +kernel, rfl, by decide +kernel, by decide +kernel⟩
@[irreducible] def t_law_1 (C_is_deed C_due C_near C_deed C_tree C_draw C_names C_feed : FSpec) : WS := (wRet (wOp eqF (wCB reprF (wCons (wVar 4) wNil)) (wVar 6)))
@[irreducible] def t_law_2 (C_is_deed C_due C_near C_deed C_tree C_draw C_names C_feed : FSpec) : WS := (wRet (wC (.bool false)))
@[irreducible] def t_law_3 (C_is_deed C_due C_near C_deed C_tree C_draw C_names C_feed : FSpec) : WS := (wIfS (wB (wOp neF (wCB reprF (wCons (wCall 1 C_is_deed [false] (wCons (wVar 7) wNil)) wNil)) (wCB reprF (wCons (wCall 1 C_due [false] (wCons (wVar 7) wNil)) wNil))))
    (t_law_2 C_is_deed C_due C_near C_deed C_tree C_draw C_names C_feed) wNext)
@[irreducible] def t_law_4 (C_is_deed C_due C_near C_deed C_tree C_draw C_names C_feed : FSpec) : WS := wSeq (wFor (wIt (wVar 4)) (gN 7)
    (t_law_3 C_is_deed C_due C_near C_deed C_tree C_draw C_names C_feed))
    (t_law_1 C_is_deed C_due C_near C_deed C_tree C_draw C_names C_feed)
@[irreducible] def t_law_5 (C_is_deed C_due C_near C_deed C_tree C_draw C_names C_feed : FSpec) : WS := wSeq (wSet 6 (wCB reprF (wCons (wVar 4) wNil)))
    (t_law_4 C_is_deed C_due C_near C_deed C_tree C_draw C_names C_feed)
@[irreducible] def t_law_6 (C_is_deed C_due C_near C_deed C_tree C_draw C_names C_feed : FSpec) : WS := (wDrop (wExtT 4 (wCall 2 C_near [true, false] (wCons (wVar 1) (wCons (wCall 3 C_deed [true, false, false] (wCons (wVar 1) (wCons (wVar 3) (wCons (wVar 2) wNil)))) wNil)))))
@[irreducible] def t_law_7 (C_is_deed C_due C_near C_deed C_tree C_draw C_names C_feed : FSpec) : WS := wSeq (wFor (wRng (wCons (wC (.int 10)) wNil) rng1) (gN 5)
    (t_law_6 C_is_deed C_due C_near C_deed C_tree C_draw C_names C_feed))
    (t_law_5 C_is_deed C_due C_near C_deed C_tree C_draw C_names C_feed)
@[irreducible] def t_law_8 (C_is_deed C_due C_near C_deed C_tree C_draw C_names C_feed : FSpec) : WS := wSeq (wDrop (wApp 4 (wTup (wCons (wC (.str "move")) (wCons (wTup (wCons (wC (.str "a")) wNil)) (wCons (wTup (wCons (wC (.str "b")) wNil)) wNil))))))
    (t_law_7 C_is_deed C_due C_near C_deed C_tree C_draw C_names C_feed)
@[irreducible] def t_law_9 (C_is_deed C_due C_near C_deed C_tree C_draw C_names C_feed : FSpec) : WS := wSeq (wSet 4 (wLst (wCons (wC .none) (wCons (wTup wNil) (wCons (wC (.int 0)) (wCons (wC (.str "look")) (wCons (wTup (wCons (wC (.str "look")) wNil)) (wCons (wTup (wCons (wC (.str "make")) (wCons (wTup (wCons (wC (.str "a")) wNil)) (wCons (wC .none) wNil)))) (wCons (wTup (wCons (wC (.str "make")) (wCons (wTup (wCons (wC (.str "a")) wNil)) (wCons (wC (.bool true)) wNil)))) wNil)))))))))
    (t_law_8 C_is_deed C_due C_near C_deed C_tree C_draw C_names C_feed)
@[irreducible] def t_law_10 (C_is_deed C_due C_near C_deed C_tree C_draw C_names C_feed : FSpec) : WS := wSeq (wSet 3 (wCall 3 C_tree [true, false, false] (wCons (wVar 1) (wCons (wVar 2) (wCons (wCall 2 C_draw [true, false] (wCons (wVar 1) (wCons (wC (.int 14)) wNil))) wNil)))))
    (t_law_9 C_is_deed C_due C_near C_deed C_tree C_draw C_names C_feed)
@[irreducible] def t_law_11 (C_is_deed C_due C_near C_deed C_tree C_draw C_names C_feed : FSpec) : WS := wSeq (wSet 2 (wCall 1 C_names [true] (wCons (wVar 1) wNil)))
    (t_law_10 C_is_deed C_due C_near C_deed C_tree C_draw C_names C_feed)
@[irreducible] def t_law_12 (C_is_deed C_due C_near C_deed C_tree C_draw C_names C_feed : FSpec) : WS := wSeq (wSet 1 (wCall 1 C_feed [false] (wCons (wVar 0) wNil)))
    (t_law_11 C_is_deed C_due C_near C_deed C_tree C_draw C_names C_feed)
def w_law (C_is_deed C_due C_near C_deed C_tree C_draw C_names C_feed : FSpec) : WS := (wSeq (wSet 1 (wCall 1 C_feed [false] (wCons (wVar 0) wNil)))
    (wSeq (wSet 2 (wCall 1 C_names [true] (wCons (wVar 1) wNil)))
    (wSeq (wSet 3 (wCall 3 C_tree [true, false, false] (wCons (wVar 1) (wCons (wVar 2) (wCons (wCall 2 C_draw [true, false] (wCons (wVar 1) (wCons (wC (.int 14)) wNil))) wNil)))))
    (wSeq (wSet 4 (wLst (wCons (wC .none) (wCons (wTup wNil) (wCons (wC (.int 0)) (wCons (wC (.str "look")) (wCons (wTup (wCons (wC (.str "look")) wNil)) (wCons (wTup (wCons (wC (.str "make")) (wCons (wTup (wCons (wC (.str "a")) wNil)) (wCons (wC .none) wNil)))) (wCons (wTup (wCons (wC (.str "make")) (wCons (wTup (wCons (wC (.str "a")) wNil)) (wCons (wC (.bool true)) wNil)))) wNil)))))))))
    (wSeq (wDrop (wApp 4 (wTup (wCons (wC (.str "move")) (wCons (wTup (wCons (wC (.str "a")) wNil)) (wCons (wTup (wCons (wC (.str "b")) wNil)) wNil))))))
    (wSeq (wFor (wRng (wCons (wC (.int 10)) wNil) rng1) (gN 5)
    ((wDrop (wExtT 4 (wCall 2 C_near [true, false] (wCons (wVar 1) (wCons (wCall 3 C_deed [true, false, false] (wCons (wVar 1) (wCons (wVar 3) (wCons (wVar 2) wNil)))) wNil)))))))
    (wSeq (wSet 6 (wCB reprF (wCons (wVar 4) wNil)))
    (wSeq (wFor (wIt (wVar 4)) (gN 7)
    ((wIfS (wB (wOp neF (wCB reprF (wCons (wCall 1 C_is_deed [false] (wCons (wVar 7) wNil)) wNil)) (wCB reprF (wCons (wCall 1 C_due [false] (wCons (wVar 7) wNil)) wNil))))
    ((wRet (wC (.bool false)))) wNext)))
    ((wRet (wOp eqF (wCB reprF (wCons (wVar 4) wNil)) (wVar 6))))))))))))
theorem w_law_eq (C_is_deed C_due C_near C_deed C_tree C_draw C_names C_feed : FSpec) : w_law C_is_deed C_due C_near C_deed C_tree C_draw C_names C_feed = (t_law_12 C_is_deed C_due C_near C_deed C_tree C_draw C_names C_feed) := by with_unfolding_all rfl
theorem df_law {g : Gx} {k : Nat} {C_is_deed C_due C_near C_deed C_tree C_draw C_names C_feed : FSpec} (mono_is_deed : FMono C_is_deed) (c_is_deed : Cal g CX0 k "is_deed" ["thing"] C_is_deed) (mono_due : FMono C_due) (c_due : Cal g CX0 k "_law_due" ["_law_thing"] C_due) (mono_near : FMono C_near) (c_near : Cal g CX0 k "_law_near" ["_law_feed_here", "_law_deed_here"] C_near) (mono_deed : FMono C_deed) (c_deed : Cal g CX0 k "_law_deed" ["_law_feed_here", "_law_tree_here", "_law_names_here"] C_deed) (mono_tree : FMono C_tree) (c_tree : Cal g CX0 k "_law_tree" ["_law_feed_here", "_law_names_here", "_law_many"] C_tree) (mono_draw : FMono C_draw) (c_draw : Cal g CX0 k "_law_draw" ["_law_feed_here", "_law_many"] C_draw) (mono_names : FMono C_names) (c_names : Cal g CX0 k "_law_names" ["_law_feed_here"] C_names) (mono_feed : FMono C_feed) (c_feed : Cal g CX0 k "_law_feed" ["_law_script"] C_feed) (m_repr : g.mg "repr" = none) (m_range : g.mg "range" = none) {f : Addr} {fd : FuncData} (Fn : Fun g.K "law" "law" s_law f fd) : FnG g CX0 (k + 1) f fd ["_law_script"] (spOf g.K 1 (fnW 1 8 (w_law C_is_deed C_due C_near C_deed C_tree C_draw C_names C_feed))) :=
  fn_dl (N := ["_law_script", "_law_feed_here", "_law_names_here", "_law_tree_here", "_law_things", "_law_k", "_law_before", "_law_thing"]) Fn sc_law (fun E => (ds_cons (ds_set (i := 1) rfl (by first | exact .inl rfl | exact .inr rfl) (de_cal (ms := [false]) c_feed mono_feed rfl (da_cons (de_var (i := 0) rfl (by first | exact .inl rfl | exact .inr (.inl rfl) | exact .inr (.inr rfl))) da_nil)))
    (ds_cons (ds_set (i := 2) rfl (by first | exact .inl rfl | exact .inr rfl) (de_cal (ms := [true]) c_names mono_names rfl (da_cons (de_var (i := 1) rfl (by first | exact .inl rfl | exact .inr (.inl rfl) | exact .inr (.inr rfl))) da_nil)))
    (ds_cons (ds_set (i := 3) rfl (by first | exact .inl rfl | exact .inr rfl) (de_cal (ms := [true, false, false]) c_tree mono_tree rfl (da_cons (de_var (i := 1) rfl (by first | exact .inl rfl | exact .inr (.inl rfl) | exact .inr (.inr rfl))) (da_cons (de_var (i := 2) rfl (by first | exact .inl rfl | exact .inr (.inl rfl) | exact .inr (.inr rfl))) (da_cons (de_cal (ms := [true, false]) c_draw mono_draw rfl (da_cons (de_var (i := 1) rfl (by first | exact .inl rfl | exact .inr (.inl rfl) | exact .inr (.inr rfl))) (da_cons de_int da_nil))) da_nil)))))
    (ds_cons (ds_set (i := 4) rfl (by first | exact .inl rfl | exact .inr rfl) (de_lst (da_cons de_non (da_cons (de_tup da_nil) (da_cons de_int (da_cons de_str (da_cons (de_tup (da_cons de_str da_nil)) (da_cons (de_tup (da_cons de_str (da_cons (de_tup (da_cons de_str da_nil)) (da_cons de_non da_nil)))) (da_cons (de_tup (da_cons de_str (da_cons (de_tup (da_cons de_str da_nil)) (da_cons de_bl da_nil)))) da_nil)))))))))
    (ds_cons (ds_expr (de_app (i := 4) rfl (by first | exact .inl rfl | exact .inr (.inl rfl) | exact .inr (.inr rfl)) (de_tup (da_cons de_str (da_cons (de_tup (da_cons de_str da_nil)) (da_cons (de_tup (da_cons de_str da_nil)) da_nil))))))
    (ds_cons (ds_for (di_rng1 rfl m_range (da_cons de_int da_nil)) (dg_name (i := 5) rfl (by first | exact .inl rfl | exact .inr rfl))
    (ds_one (ds_expr (de_extT (i := 4) rfl (by first | exact .inl rfl | exact .inr (.inl rfl) | exact .inr (.inr rfl)) (de_cal (ms := [true, false]) c_near mono_near rfl (da_cons (de_var (i := 1) rfl (by first | exact .inl rfl | exact .inr (.inl rfl) | exact .inr (.inr rfl))) (da_cons (de_cal (ms := [true, false, false]) c_deed mono_deed rfl (da_cons (de_var (i := 1) rfl (by first | exact .inl rfl | exact .inr (.inl rfl) | exact .inr (.inr rfl))) (da_cons (de_var (i := 3) rfl (by first | exact .inl rfl | exact .inr (.inl rfl) | exact .inr (.inr rfl))) (da_cons (de_var (i := 2) rfl (by first | exact .inl rfl | exact .inr (.inl rfl) | exact .inr (.inr rfl))) da_nil)))) da_nil)))))))
    (ds_cons (ds_set (i := 6) rfl (by first | exact .inl rfl | exact .inr rfl) (de_callB cs_repr rfl m_repr rfl (da_cons (de_var (i := 4) rfl (by first | exact .inl rfl | exact .inr (.inl rfl) | exact .inr (.inr rfl))) da_nil)))
    (ds_cons (ds_for (di_seq (de_var (i := 4) rfl (by first | exact .inl rfl | exact .inr (.inl rfl) | exact .inr (.inr rfl)))) (dg_name (i := 7) rfl (by first | exact .inl rfl | exact .inr rfl))
    (ds_one (ds_if (dt_cmp os_ne (de_callB cs_repr rfl m_repr rfl (da_cons (de_cal (ms := [false]) c_is_deed mono_is_deed rfl (da_cons (de_var (i := 7) rfl (by first | exact .inl rfl | exact .inr (.inl rfl) | exact .inr (.inr rfl))) da_nil)) da_nil)) (de_callB cs_repr rfl m_repr rfl (da_cons (de_cal (ms := [false]) c_due mono_due rfl (da_cons (de_var (i := 7) rfl (by first | exact .inl rfl | exact .inr (.inl rfl) | exact .inr (.inr rfl))) da_nil)) da_nil)) rfl)
    (ds_one (ds_ret de_bl)) ds_nil)))
    (ds_one (ds_ret (de_cmp os_eq (de_callB cs_repr rfl m_repr rfl (da_cons (de_var (i := 4) rfl (by first | exact .inl rfl | exact .inr (.inl rfl) | exact .inr (.inr rfl))) da_nil)) (de_var (i := 6) rfl (by first | exact .inl rfl | exact .inr (.inl rfl) | exact .inr (.inr rfl))) rfl)))))))))))) (by decide)
end V05
set_option Elab.async false
set_option linter.all false
set_option maxRecDepth 100000
set_option maxHeartbeats 1000000
set_option autoImplicit false
set_option exponentiation.threshold 20000
namespace V05
open PySem PySem.Spec PyProof.Rows L2 DL
local macro_rules | `(tactic| pv_short) => `(tactic| repeat first | refine Exists.intro _ (And.intro rfl ?_) | refine ifT rfl ?_ | refine ifF rfl ?_ | refine Exists.intro _ (And.intro (if_pos (by first | assumption | decide | exact ⟨by assumption, by decide⟩ | exact ⟨by assumption, by assumption⟩)) ?_) | refine And.intro (show List.length _ ≤ sizeLine from Nat.le_of_ble_eq_true rfl) ?_ | refine And.intro (Nat.le_of_ble_eq_true rfl) ?_)
def Fd (kvs : List (Key × PyData)) : Prop := ∃ (cs : List Int) (a l c : Int), kvs = [(.inr "cells", .list (cs.map .int)), (.inr "at", .int a), (.inr "left", .int l), (.inr "count", .int c)]
def C_draw : FSpec := Ct (fun ss => ∃ kvs m, ss = [.o true (.k kvs), .d (.int m)] ∧ Fd kvs ∧ 0 < m ∧ m.natAbs.log2 < 9000)
  fun ss r ss' => ∃ kvs kvs' m j, ss = [.o true (.k kvs), .d (.int m)] ∧ ss' = [.o true (.k kvs'), .d (.int m)] ∧ Fd kvs' ∧ r = .d (.int j) ∧ 0 ≤ j ∧ j < m
theorem mod_ge {a m : Int} (h : 0 < m) : 0 ≤ a % m := Int.emod_nonneg _ (by omega)
theorem mod_lt {a m : Int} (h : 0 < m) : a % m < m := Int.emod_lt_of_pos _ h
theorem small_of {a : Int} (h : 0 ≤ a) (h2 : a < 2147483648) : smallI a = true := decide_eq_true (by omega)
abbrev fdL (cs : List Int) (a l c : Int) : List (Key × PyData) := [(.inr "cells", .list (cs.map .int)), (.inr "at", .int a), (.inr "left", .int l), (.inr "count", .int c)]
section
variable {cs : List Int} {a l c m : Int} {Ex : XP} {P : R → List Sl → Prop}
/-- what stands behind the call -/
abbrev dEnd (ss : List Sl) (Ex : XP) (P : R → List Sl → Prop) : DEnds :=
  let fin := fun r δ => ob (retR δ r) fun r' => ob (finals ss δ) fun ss' => P r' ss'
  ⟨fun δ => fin (.d .none) δ, fin, fun _ => False, fun _ => False, Ex⟩
abbrev dEnv (cs : List Int) (a l c m : Int) (x2 x3 x4 x5 : Option Sl) : SEnv := [some (.o true (.k (fdL cs a l c))), some (.d (.int m)), x2, x3, x4, x5]
abbrev dSs (cs : List Int) (a l c m : Int) : List Sl := [.o true (.k (fdL cs a l c)), .d (.int m)]
theorem draw_6 {a1 l1 c1 cell at1 : Int} (h0 : 0 < m) (h1 : m.natAbs.log2 < 9000) (kk : ∀ (a' l' c' j : Int), 0 ≤ j → j < m → P (.d (.int j)) (dSs cs a' l' c' m)) :
    t_draw_6 (dEnd (dSs cs a l c m) Ex P) (dEnv cs a1 l1 c1 m none (some (.d (.int at1))) (some (.d (.int cell))) none) := by
  unfold t_draw_6 t_draw_5 t_draw_4
  have n : ∀ (k : Int), k ≤ 2147483648 → 0 < k → ∀ x : Int, smallI (x % k) = true := fun k h1 h2 x => small_of (mod_ge h2) (by have := mod_lt (a := x) h2; omega)
  have rest : t_draw_3 (dEnd (dSs cs a l c m) Ex P) (dEnv cs a1 l1 c1 m none (some (.d (.int at1))) (some (.d (.int cell))) none) := by
    unfold t_draw_3 t_draw_2 t_draw_1
    pv_short
    refine Exists.intro _ (And.intro (mulI (by rw [n _ (by decide) (by decide)]; rfl)) ?_)
    pv_short
    refine Exists.intro _ (And.intro (mulI (by rw [n _ (by decide) (by decide)]; rfl)) ?_)
    pv_short
    exact kk _ _ _ _ (mod_ge h0) (mod_lt h0)
  pv_short
  refine ite2 (fun e => ?_) (fun e => ?_)
  · pv_short
    refine ite2 (fun e => ?_) (fun e => ?_)
    · pv_short
      exact kk _ _ _ _ (mod_ge h0) (mod_lt h0)
    · exact rest
  · exact rest
theorem draw_ok (ss : List Sl) (Ex : XP) (P : R → List Sl → Prop) (h : C_draw ss Ex P) : fnW 2 6 w_draw ss Ex P := by
  obtain ⟨⟨kvs, m, rfl, ⟨cs, a, l, c, rfl⟩, h0, h1⟩, k⟩ := h
  have kk : ∀ (a' l' c' j : Int), 0 ≤ j → j < m → P (.d (.int j)) (dSs cs a' l' c' m) :=
    fun a' l' c' j z1 z2 => k _ _ ⟨_, _, m, j, rfl, rfl, ⟨cs, a', l', c', rfl⟩, rfl, z1, z2⟩
  clear k
  refine And.intro rfl ?_
  rw [w_draw_eq]
  unfold t_draw_15 t_draw_14 t_draw_13 t_draw_12 t_draw_11 t_draw_10 t_draw_9 t_draw_8 x_draw_7
  pv_short
  refine ite2 (fun e => ?_) (fun e => ?_)
  · pv_short
    exact kk _ _ _ _ (mod_ge h0) (mod_lt h0)
  pv_short
  refine Exists.intro _ (And.intro (eq_shaped (neg := true) (d := .list (cs.map .int)) (e := .list []) (ints_shaped cs) (by rfl)) ?_)
  pv_short
  refine ite2 (fun e => ?_) (fun e => ?_)
  · have hc : cs ≠ [] := fun z => by subst z; exact absurd e (by decide)
    have hl : (0 : Int) < ((cs.map PyData.int).length : Nat) := by
      rw [List.length_map]; have := List.length_pos_iff.mpr hc; omega
    pv_short
    obtain ⟨x, ex, mx⟩ := atI_ok (xs := cs.map PyData.int) (mod_ge (a := a) hl) (mod_lt hl)
    obtain ⟨v, _, rfl⟩ := List.mem_map.mp mx
    refine Exists.intro _ (And.intro (show (atI _ _).map Rv.val = _ by rw [ex]; rfl) ?_)
    pv_short
    exact draw_6 h0 h1 kk
  · pv_short
    exact draw_6 h0 h1 kk
end
end V05
set_option Elab.async false
set_option linter.all false
set_option maxRecDepth 100000
set_option maxHeartbeats 1000000
set_option autoImplicit false
set_option exponentiation.threshold 20000
namespace V05
open PySem PySem.Spec PyProof.Rows L2 DL
local macro_rules | `(tactic| pv_short) => `(tactic| repeat first | refine Exists.intro _ (And.intro rfl ?_) | refine ifT rfl ?_ | refine ifF rfl ?_ | refine Exists.intro _ (And.intro (if_pos (by first | assumption | decide | exact ⟨by assumption, by decide⟩ | exact ⟨by assumption, by assumption⟩)) ?_) | refine And.intro (show List.length _ ≤ sizeLine from Nat.le_of_ble_eq_true rfl) ?_ | refine And.intro (Nat.le_of_ble_eq_true rfl) ?_)
def C_feed : FSpec := Ct (fun ss => ∃ s ns, ss = [s] ∧ Scr ns s) (fun ss r ss' => ss' = ss ∧ ∃ kvs, r = .n (.k kvs) ∧ Fd kvs)
theorem feed_ok (ss : List Sl) (Ex : XP) (P : R → List Sl → Prop) (h : C_feed ss Ex P) : fnW 1 1 w_feed ss Ex P := by
  obtain ⟨⟨s, ns, rfl, hs⟩, k⟩ := h
  have kk := fun kvs q => k (.n (.k kvs)) _ ⟨rfl, kvs, rfl, q⟩
  clear k
  refine And.intro rfl ?_
  rw [w_feed_eq]
  unfold t_feed_1
  rcases hs with rfl | rfl
  · pv_short
    refine kk _ ⟨cutL ns none (some 63), 0, 0, 0, ?_⟩
    rw [← cut_map]
    rfl
  · pv_short
    refine Exists.intro _ (And.intro (if_pos (scal_ints ns)) ?_)
    pv_short
    refine kk _ ⟨cutL ns none (some 63), 0, 0, 0, ?_⟩
    rw [← cut_map]
    rfl
theorem back_1o {δ : SEnv} {i : Nat} {b : Bool} {c c' : Cont} (h : δ[i]? = some (some (.o b c))) (hs : c.simple = true) (hs' : c'.simple = true) : back δ (DL.clear δ [.o i]) [.o i] [.o true c'] = some (δ.set i (some (.o b c'))) := by
  simp only [back, DL.clear, h, hs, hs']
  simp
theorem back_2 {δ : SEnv} {i : Nat} {b : Bool} {c c' : Cont} {s : Sl} (h : δ[i]? = some (some (.o b c))) (hs : c.simple = true) (hs' : c'.simple = true) {d : PyData} : back δ (DL.clear δ [.o i, .d d]) [.o i, .d d] [.o true c', s] = some (δ.set i (some (.o b c'))) := by
  simp only [back, DL.clear, h, hs, hs']
  simp
theorem draw_at {δ : SEnv} {i : Nat} {b : Bool} {kvs : List (Key × PyData)} {m : Int} {wm : WE} {Ex : XP} {P : R → SEnv → Prop} (hi : δ[i]? = some (some (.o b (.k kvs)))) (hf : Fd kvs) (h0 : 0 < m) (h1 : m.natAbs.log2 < 9000)
    (hm : ∀ Q : R → SEnv → Prop, Q (.d (.int m)) δ → wm Ex δ Q)
    (k : ∀ (kvs' : List (Key × PyData)) (j : Int), Fd kvs' → 0 ≤ j → j < m → P (.d (.int j)) (δ.set i (some (.o b (.k kvs'))))) : wCall 2 C_draw [true, false] (wCons (wVar i) (wCons wm wNil)) Ex δ P := by
  unfold wCall
  refine ⟨_, hi, _, rfl, _, rfl, hm _ ?_⟩
  refine ⟨_, rfl, ([.o i, .d (.int m)], δ), rfl, rfl, ?_, ?_⟩
  · show ([i] : List Nat).Nodup
    exact List.nodup_cons.mpr ⟨by simp, List.nodup_nil⟩
  refine ⟨[.o true (.k kvs), .d (.int m)], ?_, ⟨kvs, m, rfl, hf, h0, h1⟩, fun r ss' q _ => ?_⟩
  · simp only [slsOf, slOf, hi]
    rfl
  · obtain ⟨kvs1, kvs', m', j, e1, e2, hf', e3, h2, h3⟩ := q
    cases e1
    subst e2 e3
    exact ⟨_, back_2 hi rfl rfl, k kvs' j hf' h2 h3⟩
def Tx (n : Nat) (x : Str) : Prop := PyData.strOk x = true ∧ x.length ≤ n
theorem ok_mem {x : Str} : PyData.strOk x = true ↔ ∀ c ∈ x.cps.toList, c < 0x110000 := by
  unfold PyData.strOk
  rw [Array.all_eq_true_iff_forall_mem]
  constructor
  · intro h c m
    have := h c (by simpa using m)
    simpa using this
  · intro h c m
    have := h c (by simpa using m)
    simpa using this
end V05
set_option Elab.async false
set_option linter.all false
set_option maxRecDepth 100000
set_option maxHeartbeats 1000000
set_option autoImplicit false
set_option exponentiation.threshold 20000
namespace V05
open PySem PySem.Spec PyProof.Rows L2 DL
local macro_rules | `(tactic| pv_short) => `(tactic| repeat first | refine Exists.intro _ (And.intro rfl ?_) | refine ifT rfl ?_ | refine ifF rfl ?_ | refine Exists.intro _ (And.intro (if_pos (by first | assumption | decide | exact ⟨by assumption, by decide⟩ | exact ⟨by assumption, by assumption⟩)) ?_) | refine And.intro (show List.length _ ≤ sizeLine from Nat.le_of_ble_eq_true rfl) ?_ | refine And.intro (Nat.le_of_ble_eq_true rfl) ?_)
abbrev azT : Str := "abcdefghijklmnopqrstuvwxyz"
def W8 : List Str := ["a", "b", "ab", "abc", "z", "abcdefgh", "ba", "bb"]
def shC (s c : Nat) : Nat := 97 + (c - 97 + s) % 26
def shF (s : Nat) (w : Str) : Str := ⟨(w.cps.toList.map (shC s)).toArray⟩
def Ok8 (x : Str) : Prop := 1 ≤ x.length ∧ x.length ≤ 8 ∧ ∀ c ∈ x.cps.toList, 97 ≤ c ∧ c ≤ 122
theorem ok8_of {x : Str} (h : (decide (1 ≤ x.cps.size) && decide (x.cps.size ≤ 8) && x.cps.toList.all fun c => decide (97 ≤ c) && decide (c ≤ 122)) = true) : Ok8 x := by
  simp only [Bool.and_eq_true, decide_eq_true_eq, List.all_eq_true] at h
  exact ⟨h.1.1, h.1.2, h.2⟩
theorem w8_ok : W8.all (fun x => decide (1 ≤ x.cps.size) && decide (x.cps.size ≤ 8) && x.cps.toList.all fun c => decide (97 ≤ c) && decide (c ≤ 122)) = true := by decide +kernel
theorem w8_sh : (List.range 26).all (fun s => W8.all fun w => decide (1 ≤ (shF s w).cps.size) && decide ((shF s w).cps.size ≤ 8) && (shF s w).cps.toList.all fun c => decide (97 ≤ c) && decide (c ≤ 122)) = true := by decide +kernel
theorem sh_ok {s : Nat} (hs : s < 26) {w : Str} (hw : w ∈ W8) : Ok8 (shF s w) := ok8_of (List.all_eq_true.mp (List.all_eq_true.mp w8_sh s (List.mem_range.mpr hs)) w hw)
theorem sh_join0 : (List.range 26).all (fun s => W8.all fun w => decide (joinF "" (.list (w.cps.toList.map fun c => .str ⟨#[shC s c]⟩)) = some (shF s w))) = true := by decide +kernel
theorem sh_join {s : Nat} (hs : s < 26) {w : Str} (hw : w ∈ W8) : joinF "" (.list (w.cps.toList.map fun c => .str ⟨#[shC s c]⟩)) = some (shF s w) := of_decide_eq_true (List.all_eq_true.mp (List.all_eq_true.mp sh_join0 s (List.mem_range.mpr hs)) w hw)
theorem az_find0 : (List.range 26).all (fun n => decide (PySem.Txt.find azT ⟨#[97 + n]⟩ = (n : Int))) = true := by decide +kernel
theorem az_find {c : Nat} (h : 97 ≤ c ∧ c ≤ 122) : PySem.Txt.find azT ⟨#[c]⟩ = ((c - 97 : Nat) : Int) := by
  have := of_decide_eq_true (List.all_eq_true.mp az_find0 (c - 97) (List.mem_range.mpr (by omega)))
  rwa [show 97 + (c - 97) = c by omega] at this
theorem az_list : azT.cps.toList = (List.range 26).map (97 + ·) := by decide +kernel
theorem az_at {n : Nat} (h : n < 26) : idxF (.d (.str azT)) (.d (.int (n : Int))) = some (.val (.str ⟨#[97 + n]⟩)) := by
  show (if azT.length ≤ sizeLine then (atI azT.cps.toList (n : Int)).map fun c => PyData.str ⟨#[c]⟩ else none).map Rv.val = _
  rw [if_pos (by decide), az_list, atI_nat (v := 97 + n) (by rw [List.getElem?_map, List.getElem?_range h]; rfl)]; rfl
theorem sh_inj0 : (List.range 26).all (fun s => W8.all fun w => W8.all fun w' => decide (shF s w = shF s w' → w = w')) = true := by decide +kernel
/-- what is drawn: words that differ, shifted alike -/
structure NmOk (NM : List Str) : Prop where
  len : 2 ≤ NM.length ∧ NM.length ≤ 8
  ok : ∀ x ∈ NM, Ok8 x
  nd : NM.Nodup
  sh : ∃ s < 26, ∀ x ∈ NM, ∃ w ∈ W8, x = shF s w
def C_names : FSpec := Ct (fun ss => ∃ kvs, ss = [.o true (.k kvs)] ∧ Fd kvs) fun ss r ss' => ∃ kvs' NM, ss' = [.o true (.k kvs')] ∧ Fd kvs' ∧ NmOk NM ∧ r = .n (.l (NM.map .str))
theorem map_nodup {α β : Type} {f : α → β} : ∀ {xs : List α}, xs.Nodup → (∀ a ∈ xs, ∀ b ∈ xs, f a = f b → a = b) → (xs.map f).Nodup
  | [], _, _ => List.nodup_nil
  | x :: xs, nd, h => by
    rw [List.nodup_cons] at nd
    rw [List.map_cons, List.nodup_cons]
    refine ⟨fun m => ?_, map_nodup nd.2 fun a ha b hb => h a (List.mem_cons_of_mem _ ha) b (List.mem_cons_of_mem _ hb)⟩
    obtain ⟨y, my, e⟩ := List.mem_map.mp m
    exact nd.1 (h _ (List.mem_cons_of_mem _ my) _ List.mem_cons_self e ▸ my)
theorem erase_mapS {α β : Type} (f : α → β) : ∀ (xs : List α) (k : Nat), (xs.map f).eraseIdx k = (xs.eraseIdx k).map f
  | [], _ => rfl
  | x :: xs, 0 => rfl
  | x :: xs, k + 1 => by rw [List.map_cons, List.eraseIdx_cons_succ, List.eraseIdx_cons_succ, List.map_cons, erase_mapS f xs k]
theorem erase_permS {α : Type} : ∀ {xs : List α} {k : Nat} (h : k < xs.length), (xs[k] :: xs.eraseIdx k).Perm xs
  | x :: xs, 0, _ => List.Perm.refl _
  | x :: xs, k + 1, h => by
    rw [List.eraseIdx_cons_succ, List.getElem_cons_succ]
    exact (List.Perm.swap ..).trans ((erase_permS (by simpa using h)).cons x)
abbrev nmE (kvs : List (Key × PyData)) (s : Nat) (F Rst : List Str) (x5 x6 : Option Sl) : SEnv := [some (.o true (.k kvs)), some (.d (.str azT)), some (.d (.int (s : Int))), some (.o false (.l (F.map .str))), some (.o false (.l (Rst.map .str))), x5, x6, none]
theorem names_2 {e : DEnds} {kvs : List (Key × PyData)} {s : Nat} {F Rst : List Str} {x5 : Option Sl} {w : Str} (hs : s < 26) (hw : w ∈ W8) (hF : F.length ≤ 100) (k : e.nx (nmE kvs s (F ++ [shF s w]) Rst x5 (some (.d (.str w))))) :
    t_names_2 C_draw e (nmE kvs s F Rst x5 (some (.d (.str w)))) := by
  have ok : Ok8 w := ok8_of (List.all_eq_true.mp w8_ok w hw)
  unfold t_names_2
  pv_short
  show wLcR (gN 7) wYes _ [7] (w.cps.toList.map fun c => .str ⟨#[c]⟩) [] (nmE kvs s F Rst x5 (some (.d (.str w)))) _
  refine lc_of (g := fun c : Nat => PyData.str ⟨#[c]⟩) (xs := w.cps.toList) (δf := nmE kvs s F Rst x5 (some (.d (.str w)))) (fun _ => true) (fun c : Nat => .str ⟨#[shC s c]⟩) rfl (by rw [sizeLine_eq, List.length_nil, Array.length_toList]; have := ok.2.1; show 0 + w.length ≤ _; omega) (fun c m Q Q' g1 g2 => ?_) fun δ' h' => ?_
  · have hc := ok.2.2 c m
    pv_short
    rw [az_find hc]
    refine Exists.intro _ (And.intro (show idxF (.d (.str azT)) (.d (.int ((((c - 97 : Nat) : Int) + (s : Int)) % 26))) = some (.val (.str ⟨#[shC s c]⟩)) by
      rw [show ((((c - 97 : Nat) : Int) + (s : Int)) % 26) = (((c - 97 + s) % 26 : Nat) : Int) by omega]
      exact az_at (Nat.mod_lt _ (by decide))) ?_)
    pv_short
    exact g1 rfl _ rfl
  · rw [List.nil_append, h', show w.cps.toList.filter (fun _ => true) = w.cps.toList from List.filter_eq_self.mpr fun _ _ => rfl]
    pv_short
    refine Exists.intro _ (And.intro (sh_join hs hw) ?_)
    pv_short
    refine And.intro (by rw [List.length_map, sizeLine_eq]; omega) ?_
    have k := k
    unfold nmE at k
    rw [List.map_append] at k
    exact k
theorem names_4 {e : DEnds} {kvs : List (Key × PyData)} {s : Nat} (hs : s < 26) (hf : Fd kvs) (k : ∀ kvs' NM Rst x5 x6, Fd kvs' → NmOk NM → e.rt (.n (.l (NM.map .str))) (nmE kvs' s NM Rst x5 x6) ∧ True) (k2 : ∀ kvs' NM Rst x5 x6, Fd kvs' → NmOk NM → t_names_1 C_draw e (nmE kvs' s NM Rst x5 x6)) :
    t_names_4 C_draw e (nmE kvs s [] W8 none none) := by
  unfold t_names_4
  pv_short
  refine draw_at (i := 0) (m := 7) rfl hf (by decide) (by decide) (fun Q h => h) fun kvs1 j hf1 h1 h2 => ?_
  pv_short
  refine And.intro ⟨(by show -(2 ^ 62) ≤ (0 : Int); decide), (by show (0 : Int) < 2 ^ 62; decide), (by show -(2 ^ 62) ≤ 2 + j; omega), (by show 2 + j < 2 ^ 62; omega)⟩ ?_
  show wForR (gN 5) (t_names_3 C_draw) ((List.range ((2 + j) - 0).toNat).map fun (i : Nat) => .int (0 + (i : Int))) _ (nmE kvs1 s [] W8 none none)
  refine for_of (g := fun i : Nat => .int (0 + (i : Int))) (xs := List.range ((2 + j) - 0).toNat) (I := fun pre δ => ∃ kvs ws Rst x5 x6, δ = nmE kvs s (ws.map (shF s)) Rst x5 x6 ∧ Fd kvs ∧ ws.length = pre.length ∧ (ws ++ Rst).Perm W8) (fun δ hI => ?_) (fun pre i post δ Q eS hI hQ => ?_) ⟨kvs1, [], W8, none, none, rfl, hf1, rfl, List.Perm.refl _⟩
  · obtain ⟨kvs2, ws, Rst, x5, x6, rfl, hf2, hl, hp⟩ := hI
    rw [List.length_range] at hl
    have nd : (ws ++ Rst).Nodup := hp.nodup_iff.mpr (by decide +kernel)
    have hw : ∀ w ∈ ws, w ∈ W8 := fun w m => hp.mem_iff.mp (List.mem_append_left _ m)
    refine k2 _ _ _ _ _ hf2 ⟨by rw [List.length_map]; omega, fun x m => ?_, map_nodup (List.nodup_append.mp nd).1 fun a ha b hb z => ?_, s, hs, fun x m => ?_⟩
    · obtain ⟨w, mw, rfl⟩ := List.mem_map.mp m
      exact sh_ok hs (hw w mw)
    · exact of_decide_eq_true (List.all_eq_true.mp (List.all_eq_true.mp (List.all_eq_true.mp sh_inj0 s (List.mem_range.mpr hs)) a (hw a ha)) b (hw b hb)) z
    · obtain ⟨w, mw, rfl⟩ := List.mem_map.mp m
      exact ⟨w, hw w mw, rfl⟩
  · obtain ⟨kvs2, ws, Rst, x5, x6, rfl, hf2, hl, hp⟩ := hI
    have lp : pre.length + 1 ≤ ((2 + j) - 0).toNat := by
      have := congrArg List.length eS
      rw [List.length_range, List.length_append, List.length_cons] at this
      omega
    have l8 : ws.length + Rst.length = 8 := by have := hp.length_eq; rw [List.length_append] at this; exact this
    have hR : 0 < Rst.length := by omega
    refine Exists.intro _ (And.intro rfl ?_)
    show t_names_3 C_draw _ (nmE kvs2 s (ws.map (shF s)) Rst (some (.d (.int (0 + (i : Int))))) x6)
    unfold t_names_3
    pv_short
    refine draw_at (i := 0) (m := (((Rst.map PyData.str).length : Nat) : Int)) rfl hf2 (by rw [List.length_map]; omega) (by rw [List.length_map]; exact (Nat.log2_lt (by omega)).mpr (Nat.lt_of_lt_of_le (show _ < 2 ^ 4 by omega) (Nat.pow_le_pow_right (by decide) (by decide)))) (fun Q h => by pv_short; exact h) fun kvs3 j3 hf3 h3 h4 => ?_
    rw [List.length_map] at h4
    obtain ⟨n, rfl⟩ := Int.eq_ofNat_of_zero_le h3
    have hn : n < Rst.length := by omega
    pv_short
    refine And.intro ⟨by show (-(2 ^ 63) : Int) ≤ (n : Int); omega, by show (n : Int) < 2 ^ 63; omega⟩ ?_
    refine Exists.intro n (And.intro (show ixN (Rst.map PyData.str).length (n : Int) = some n by rw [List.length_map]; unfold ixN; rw [if_pos (by omega), if_pos (by omega)]; simp) ?_)
    refine Exists.intro (.str Rst[n]) (And.intro (by rw [List.getElem?_map, List.getElem?_eq_getElem hn]; rfl) ?_)
    pv_short
    show t_names_2 C_draw _ [some (.o true (.k kvs3)), some (.d (.str azT)), some (.d (.int (s : Int))), some (.o false (.l ((ws.map (shF s)).map .str))), some (.o false (.l ((Rst.map PyData.str).eraseIdx n))), some (.d (.int (0 + (i : Int)))), some (.d (.str Rst[n])), none]
    rw [show (Rst.map PyData.str).eraseIdx n = (Rst.eraseIdx n).map PyData.str from erase_mapS ..]
    have pR : (Rst[n] :: Rst.eraseIdx n).Perm Rst := erase_permS hn
    refine names_2 hs (hp.mem_iff.mp (List.mem_append_right _ (List.getElem_mem hn))) (by rw [List.length_map]; omega) (hQ _ ⟨kvs3, ws ++ [Rst[n]], Rst.eraseIdx n, _, _, by rw [List.map_append]; rfl, hf3, by rw [List.length_append, List.length_append, hl]; rfl, ?_⟩)
    rw [List.append_assoc]
    exact (List.Perm.append_left ws pR).trans hp
theorem names_ok (ss : List Sl) (Ex : XP) (P : R → List Sl → Prop) (h : C_names ss Ex P) : fnW 1 8 (w_names C_draw) ss Ex P := by
  obtain ⟨⟨kvs, rfl, hf⟩, k⟩ := h
  refine And.intro rfl ?_
  rw [w_names_eq]
  unfold t_names_6
  pv_short
  refine draw_at (i := 0) (m := 26) rfl hf (by decide) (by decide) (fun Q h => h) fun kvs1 j hf1 h1 h2 => ?_
  obtain ⟨s, rfl⟩ := Int.eq_ofNat_of_zero_le h1
  have hs : s < 26 := by omega
  pv_short
  show t_names_5 C_draw _ [some (.o true (.k kvs1)), some (.d (.str azT)), some (.d (.int (s : Int))), some (.o false (.l [])), none, none, none, none]
  unfold t_names_5
  pv_short
  show t_names_4 C_draw _ (nmE kvs1 s [] W8 none none)
  refine names_4 hs hf1 (fun kvs' NM Rst x5 x6 hf' hN => ⟨?_, trivial⟩) fun kvs' NM Rst x5 x6 hf' hN => ?_
  · exact ⟨_, rfl, _, rfl, k _ _ ⟨kvs', NM, rfl, hf', hN, rfl⟩⟩
  · unfold t_names_1
    pv_short
    exact k _ _ ⟨kvs', NM, rfl, hf', hN, rfl⟩
end V05
set_option Elab.async false
set_option linter.all false
set_option maxRecDepth 100000
set_option maxHeartbeats 1000000
set_option autoImplicit false
set_option exponentiation.threshold 20000
namespace V05
open PySem PySem.Spec PyProof.Rows L2 DL
local macro_rules | `(tactic| pv_short) => `(tactic| repeat first | refine Exists.intro _ (And.intro rfl ?_) | refine ifT rfl ?_ | refine ifF rfl ?_ | refine Exists.intro _ (And.intro (if_pos (by first | assumption | decide | exact ⟨by assumption, by decide⟩ | exact ⟨by assumption, by assumption⟩)) ?_) | refine And.intro (show List.length _ ≤ sizeLine from Nat.le_of_ble_eq_true rfl) ?_ | refine And.intro (Nat.le_of_ble_eq_true rfl) ?_)
abbrev Pl : Type := Int × Int × Str
def atP (p : Int) (x : Str) (q : Pl) : Prop := q.2.1 = p ∧ q.2.2 = x
abbrev noX : Int → Prop := fun _ => False
structure Wm (I D : Int → Prop) (P : Pl → Prop) (X : Int → Prop) : Prop where
  dI : ∀ n, D n → I n
  root : D 0
  ent : ∀ q, P q → I q.1
  src : ∀ q, P q → D q.2.1
  no0 : ∀ q, P q → q.1 ≠ 0
  par : ∀ n, I n → n ≠ 0 → ¬ X n → ∃ q, P q ∧ q.1 = n
  uni : ∀ a b, P a → P b → a.1 = b.1 → D a.1 → a = b
  fn : ∀ a b, P a → P b → a.2 = b.2 → a = b
  rank : ∃ ρ : Int → Nat, ∀ q, P q → D q.1 → ρ q.2.1 < ρ q.1
section
variable {I D : Int → Prop} {P : Pl → Prop} {X : Int → Prop}
theorem Wm.at (w : Wm I D P X) {n p : Int} {x : Str} (h : P (n, p, x)) {a : Pl} (ha : P a) (e : atP p x a) : a = (n, p, x) :=
  w.fn a (n, p, x) ha h (by rw [show a.2 = (a.2.1, a.2.2) from rfl, e.1, e.2])
theorem Wm.congr {I' D' : Int → Prop} {P' : Pl → Prop} {X' : Int → Prop} (w : Wm I D P X) (hI : ∀ n, I n ↔ I' n) (hD : ∀ n, D n ↔ D' n) (hP : ∀ q, P q ↔ P' q) (hX : ∀ n, X n ↔ X' n) : Wm I' D' P' X' := by
  have e1 : I = I' := funext fun n => propext (hI n)
  have e2 : D = D' := funext fun n => propext (hD n)
  have e3 : P = P' := funext fun n => propext (hP n)
  have e4 : X = X' := funext fun n => propext (hX n)
  subst e1 e2 e3 e4
  exact w
theorem Wm.drop {n p : Int} {x : Str} (w : Wm I D P noX) (h : P (n, p, x)) : Wm I D (fun q => P q ∧ ¬ atP p x q) (fun m => m = n) where
  dI := w.dI
  root := w.root
  ent := fun q hq => w.ent q hq.1
  src := fun q hq => w.src q hq.1
  no0 := fun q hq => w.no0 q hq.1
  par := fun m hm hm0 hx => by
    obtain ⟨q, hq, e⟩ := w.par m hm hm0 fun z => z
    refine ⟨q, ⟨hq, fun z => hx ?_⟩, e⟩
    rw [← e, w.at h hq z]
  uni := fun a b ha hb => w.uni a b ha.1 hb.1
  fn := fun a b ha hb => w.fn a b ha.1 hb.1
  rank := w.rank.imp fun _ h q hq => h q hq.1
theorem Wm.link {s q : Int} {y : Str} (w : Wm I D P noX) (hq : D q) (hs : I s) (hns : ¬ D s) (hf : ∀ a, P a → ¬ atP q y a) : Wm I D (fun a => (P a ∧ ¬ atP q y a) ∨ a = (s, q, y)) noX where
  dI := w.dI
  root := w.root
  ent := fun a h => by
    rcases h with h | rfl
    · exact w.ent a h.1
    · exact hs
  src := fun a h => by
    rcases h with h | rfl
    · exact w.src a h.1
    · exact hq
  no0 := fun a h => by
    rcases h with h | rfl
    · exact w.no0 a h.1
    · exact fun z => hns (by rw [show s = 0 from z]; exact w.root)
  par := fun m hm hm0 _ => by
    obtain ⟨a, ha, e⟩ := w.par m hm hm0 fun z => z
    exact ⟨a, .inl ⟨ha, hf a ha⟩, e⟩
  uni := fun a b ha hb e hd => by
    rcases ha with ha | rfl
    · rcases hb with hb | rfl
      · exact w.uni a b ha.1 hb.1 e hd
      · exact absurd (by rw [e] at hd; exact hd) hns
    · exact absurd hd hns
  fn := fun a b ha hb e => by
    rcases ha with ha | rfl <;> rcases hb with hb | rfl
    · exact w.fn a b ha.1 hb.1 e
    · exact absurd (show atP q y a from ⟨by rw [e], by rw [e]⟩) ha.2
    · exact absurd (show atP q y b from ⟨by rw [← e], by rw [← e]⟩) hb.2
    · rfl
  rank := w.rank.imp fun _ h a ha hd => by
    rcases ha with ha | rfl
    · exact h a ha.1 hd
    · exact absurd hd hns
theorem Wm.make {m p : Int} {x : Str} {b : Prop} (w : Wm I D P noX) (hp : D p) (hm : ¬ I m) (hf : ∀ a, P a → ¬ atP p x a) : Wm (fun k => I k ∨ k = m) (fun k => D k ∨ (k = m ∧ b)) (fun a => (P a ∧ ¬ atP p x a) ∨ a = (m, p, x)) noX where
  dI := fun k h => by
    rcases h with h | h
    · exact .inl (w.dI k h)
    · exact .inr h.1
  root := .inl w.root
  ent := fun a h => by
    rcases h with h | rfl
    · exact .inl (w.ent a h.1)
    · exact .inr rfl
  src := fun a h => by
    rcases h with h | rfl
    · exact .inl (w.src a h.1)
    · exact .inl hp
  no0 := fun a h => by
    rcases h with h | rfl
    · exact w.no0 a h.1
    · exact fun z => hm (by rw [show m = 0 from z]; exact w.dI 0 w.root)
  par := fun k hk hk0 _ => by
    rcases hk with hk | rfl
    · obtain ⟨a, ha, e⟩ := w.par k hk hk0 fun z => z
      exact ⟨a, .inl ⟨ha, hf a ha⟩, e⟩
    · exact ⟨_, .inr rfl, rfl⟩
  uni := fun a c ha hc e hd => by
    rcases ha with ha | rfl
    · rcases hc with hc | rfl
      · rcases hd with hd | ⟨hd, _⟩
        · exact w.uni a c ha.1 hc.1 e hd
        · exact absurd (by rw [← hd]; exact w.ent a ha.1) hm
      · exact absurd (by rw [← show a.1 = m from e]; exact w.ent a ha.1) hm
    · rcases hc with hc | rfl
      · exact absurd (by rw [show m = c.1 from e]; exact w.ent c hc.1) hm
      · rfl
  fn := fun a c ha hc e => by
    rcases ha with ha | rfl <;> rcases hc with hc | rfl
    · exact w.fn a c ha.1 hc.1 e
    · exact absurd (show atP p x a from ⟨by rw [e], by rw [e]⟩) ha.2
    · exact absurd (show atP p x c from ⟨by rw [← e], by rw [← e]⟩) hc.2
    · rfl
  rank := by
    classical
    obtain ⟨ρ, h⟩ := w.rank
    refine ⟨fun k => if k = m then ρ p + 1 else ρ k, fun a ha hd => ?_⟩
    rcases ha with ha | rfl
    · have h1 : a.1 ≠ m := fun z => hm (by rw [← z]; exact w.ent a ha.1)
      have h2 : a.2.1 ≠ m := fun z => hm (by rw [← z]; exact w.dI _ (w.src a ha.1))
      simp only [h1, h2, if_false]
      refine h a ha.1 ?_
      rcases hd with hd | hd
      · exact hd
      · exact absurd hd.1 h1
    · have h2 : p ≠ m := fun z => hm (by rw [← z]; exact w.dI _ hp)
      simp only [h2, if_false, if_true]
      omega
theorem Wm.swap {s t p q : Int} {x y : Str} (w : Wm I D P noX) (hs : P (s, p, x)) (ht : P (t, q, y)) (ne : s ≠ t) (hr : ∃ ρ : Int → Nat, (∀ a, P a → D a.1 → ¬ atP p x a → ¬ atP q y a → ρ a.2.1 < ρ a.1) ∧ (D s → ρ q < ρ s) ∧ (D t → ρ p < ρ t)) :
    Wm I D (fun a => (((P a ∧ ¬ atP p x a) ∨ a = (t, p, x)) ∧ ¬ atP q y a) ∨ a = (s, q, y)) noX := by
  have nat : ¬ atP q y (t, p, x) := fun z => by
    obtain ⟨z1, z2⟩ := z
    have := w.fn (s, p, x) (t, q, y) hs ht (by show (p, x) = (q, y); rw [show p = q from z1, show x = y from z2])
    exact ne (Prod.mk.inj this).1
  have ks : ∀ c : Pl, P c → ¬ atP p x c → c.1 = s → D s → False := fun c hc nc e hd => nc (by
      have := w.uni c (s, p, x) hc hs e (by rw [e]; exact hd)
      rw [this]; exact ⟨rfl, rfl⟩)
  have kt : ∀ c : Pl, P c → ¬ atP q y c → c.1 = t → D t → False := fun c hc nc e hd => nc (by
      have := w.uni c (t, q, y) hc ht e (by rw [e]; exact hd)
      rw [this]; exact ⟨rfl, rfl⟩)
  have cs : ∀ {a : Pl}, ((((P a ∧ ¬ atP p x a) ∨ a = (t, p, x)) ∧ ¬ atP q y a) ∨ a = (s, q, y)) → (P a ∧ ¬ atP p x a ∧ ¬ atP q y a) ∨ a = (t, p, x) ∨ a = (s, q, y) := fun {a} h => by
    rcases h with ⟨⟨h1, h2⟩ | h, h3⟩ | h
    · exact .inl ⟨h1, h2, h3⟩
    · exact .inr (.inl h)
    · exact .inr (.inr h)
  refine ⟨w.dI, w.root, fun a h => ?_, fun a h => ?_, fun a h => ?_, fun m hm hm0 _ => ?_, fun a b ha hb e hd => ?_, fun a b ha hb e => ?_, ?_⟩
  · rcases cs h with h | rfl | rfl
    · exact w.ent a h.1
    · exact (w.ent (t, q, y) ht : I t)
    · exact (w.ent (s, p, x) hs : I s)
  · rcases cs h with h | rfl | rfl
    · exact w.src a h.1
    · exact (w.src (s, p, x) hs : D p)
    · exact (w.src (t, q, y) ht : D q)
  · rcases cs h with h | rfl | rfl
    · exact w.no0 a h.1
    · exact (w.no0 (t, q, y) ht : t ≠ 0)
    · exact (w.no0 (s, p, x) hs : s ≠ 0)
  · by_cases c : m = s
    · exact ⟨_, .inr rfl, c.symm⟩
    · by_cases c2 : m = t
      · exact ⟨_, .inl ⟨.inr rfl, nat⟩, c2.symm⟩
      · obtain ⟨a, ha, e⟩ := w.par m hm hm0 fun z => z
        refine ⟨a, .inl ⟨.inl ⟨ha, fun z => c ?_⟩, fun z => c2 ?_⟩, e⟩
        · rw [← e, w.at hs ha z]
        · rw [← e, w.at ht ha z]
  · rcases cs ha with ha | rfl | rfl <;> rcases cs hb with hb | rfl | rfl
    · exact w.uni a b ha.1 hb.1 e hd
    · exact (kt a ha.1 ha.2.2 e (by rw [← show a.1 = t from e]; exact hd)).elim
    · exact (ks a ha.1 ha.2.1 e (by rw [← show a.1 = s from e]; exact hd)).elim
    · exact (kt b hb.1 hb.2.2 e.symm hd).elim
    · rfl
    · exact absurd e.symm ne
    · exact (ks b hb.1 hb.2.1 e.symm hd).elim
    · exact absurd e ne
    · rfl
  · have d1 : ∀ {c : Pl}, ¬ atP p x c → c.2 = (p, x) → False := fun h e => h ⟨by rw [e], by rw [e]⟩
    have d2 : ∀ {c : Pl}, ¬ atP q y c → c.2 = (q, y) → False := fun h e => h ⟨by rw [e], by rw [e]⟩
    rcases cs ha with ha | rfl | rfl <;> rcases cs hb with hb | rfl | rfl
    · exact w.fn a b ha.1 hb.1 e
    · exact (d1 ha.2.1 e).elim
    · exact (d2 ha.2.2 e).elim
    · exact (d1 hb.2.1 e.symm).elim
    · rfl
    · exact (d2 nat e).elim
    · exact (d2 hb.2.2 e.symm).elim
    · exact (d2 nat e.symm).elim
    · rfl
  · obtain ⟨ρ, h1, h2, h3⟩ := hr
    refine ⟨ρ, fun a ha hd => ?_⟩
    rcases cs ha with ha | rfl | rfl
    · exact h1 a ha.1 hd ha.2.1 ha.2.2
    · exact h3 hd
    · exact h2 hd
end
end V05
set_option Elab.async false
set_option linter.all false
set_option maxRecDepth 100000
set_option maxHeartbeats 1000000
set_option autoImplicit false
set_option exponentiation.threshold 20000
namespace V05
open PySem PySem.Spec PyProof.Rows L2 DL
local macro_rules | `(tactic| pv_short) => `(tactic| repeat first | refine Exists.intro _ (And.intro rfl ?_) | refine ifT rfl ?_ | refine ifF rfl ?_ | refine Exists.intro _ (And.intro (if_pos (by first | assumption | decide | exact ⟨by assumption, by decide⟩ | exact ⟨by assumption, by assumption⟩)) ?_) | refine And.intro (show List.length _ ≤ sizeLine from Nat.le_of_ble_eq_true rfl) ?_ | refine And.intro (Nat.le_of_ble_eq_true rfl) ?_)
structure Tn where
  id : Int
  a : Addr
  sh : Bool
  es : List (Str × Int)
abbrev kE (e : Str × Int) : Key × PyData := (.inr e.1, .int e.2)
abbrev tE (e : Str × Int) : Key × OT := (.inr e.1, .d (.int e.2))
abbrev tU (r : Tn) : OT := .n r.a true (r.es.map tE)
abbrev tO (r : Tn) : Key × OT := (.inl r.id, tU r)
abbrev kS (b : Bool) : PyData := match b with | true => .str "sheet" | false => .str "drawer"
abbrev tK (r : Tn) : Key × PyData := (.inl r.id, kS r.sh)
abbrev tT (a0 : Addr) (R : List Tn) : OT := .n a0 true (R.map tO)
def nm6 : List Str := (List.range 26).flatMap fun s => W8.map (shF s)
theorem datas_es : ∀ es : List (Str × Int), datas (es.map tE) = some (es.map kE)
  | [] => rfl
  | e :: es => by
    rw [List.map_cons, List.map_cons]
    show (some (PyData.int e.2)).bind (fun d => (datas (es.map tE)).map fun ds => ((Sum.inr e.1 : Key), d) :: ds) = _
    rw [datas_es es]; rfl
theorem vw_U (r : Tn) : (tU r).vw = some (.k (r.es.map kE)) := by
  show (match datas (r.es.map tE) with | some kvs => some (Vw.k kvs) | none => _) = _
  rw [datas_es]
theorem inl_ne {a b : Int} (h : a ≠ b) : ¬ (Sum.inl a : Key) = .inl b := fun e => h (by cases e; rfl)
theorem idx_at {R : List Tn} (nd : (R.map (·.id)).Nodup) {i : Nat} {r : Tn} (h : R[i]? = some r) : (R.map tO).findIdx? (fun q => decide (q.1 = (.inl r.id : Key))) = some i := by
  induction R generalizing i with
  | nil => simp at h
  | cons x R ih =>
    rw [List.map_cons, List.nodup_cons] at nd
    rw [List.map_cons, List.findIdx?_cons]
    cases i with
    | zero => simp at h; subst h; rw [if_pos (decide_eq_true rfl)]
    | succ i =>
      have h' : R[i]? = some r := by simpa using h
      have ne : x.id ≠ r.id := fun e => nd.1 (List.mem_map.mpr ⟨r, List.mem_of_getElem? h', e.symm⟩)
      rw [if_neg (by simpa using inl_ne ne), ih nd.2 h']; rfl
theorem look_K {R : List Tn} (nd : (R.map (·.id)).Nodup) {r : Tn} (h : r ∈ R) : lookD (R.map tK) (.inl r.id : Key) = some (kS r.sh) := by
  induction R with
  | nil => cases h
  | cons x R ih =>
    rw [List.map_cons, List.nodup_cons] at nd
    unfold lookD at *
    rw [List.map_cons]
    by_cases e : x.id = r.id
    · rw [List.find?_cons_of_pos (by simp [e])]
      rcases List.mem_cons.mp h with h | h
      · subst h; rfl
      · exact absurd (List.mem_map.mpr ⟨r, h, e.symm⟩) nd.1
    · rw [List.find?_cons_of_neg (by simpa using inl_ne e)]
      rcases List.mem_cons.mp h with h | h
      · subst h; exact absurd rfl e
      · exact ih nd.2 h
abbrev idT (R : List Tn) (n : Int) : Prop := n ∈ R.map (·.id)
def dwT (R : List Tn) (n : Int) : Prop := ∃ d ∈ R, d.id = n ∧ d.sh = false
def plT (R : List Tn) (q : Pl) : Prop := ∃ r ∈ R, ∃ e ∈ r.es, q = (e.2, r.id, e.1)
/-- names of a row differ, sheets are empty, who stands in whom -/
structure Gr (R : List Tn) : Prop where
  nm : ∀ r ∈ R, (r.es.map (·.1)).Nodup
  shd : ∀ r ∈ R, r.sh = true → r.es = []
  gr : Wm (idT R) (dwT R) (plT R) noX
structure Wf (N : List Str) (R : List Tn) (last : Int) (m : Nat) : Prop where
  root : ∃ a es R', R = ⟨0, a, false, es⟩ :: R'
  up : (R.map (·.id)).Pairwise (· < ·)
  le : ∀ r ∈ R, 0 ≤ r.id ∧ r.id ≤ last
  few : R.length ≤ m + 1
  big : last ≤ 2 * m
  ent : ∀ r ∈ R, r.es.length ≤ m ∧ ∀ e ∈ r.es, e.1 ∈ N ∧ e.2 ∈ R.map (·.id)
  g : Gr R
theorem Wf.ne {N : List Str} {R : List Tn} {last : Int} {m : Nat} (h : Wf N R last m) : R ≠ [] := by
  obtain ⟨a, es, R', rfl⟩ := h.root
  exact fun z => nomatch z
theorem Wf.nd {N : List Str} {R : List Tn} {last : Int} {m : Nat} (h : Wf N R last m) : (R.map (·.id)).Nodup := h.up.imp fun z e => by omega
theorem eq_str {neg : Bool} (x y : Str) : eqG neg (.d (.str x)) (.d (.str y)) = some (.val (.bool (if neg then !PyData.eqv (.str x) (.str y) else PyData.eqv (.str x) (.str y)))) := by
  show (if SeqAt.shaped (.str x) && SeqAt.shaped (.str y) || strs2 (.str x) (.str y) then _ else none) = _
  rw [if_pos (by rw [Bool.or_eq_true]; exact .inr rfl)]
theorem eq_kS {neg : Bool} (x b : Bool) : eqG neg (.d (kS x)) (.d (kS b)) = some (.val (.bool (if neg then !PyData.eqv (kS x) (kS b) else PyData.eqv (kS x) (kS b)))) := by
  cases x <;> cases b <;> exact eq_str _ _
theorem kS_eqv (x b : Bool) : PyData.eqv (kS x) (kS b) = (x == b) := by cases x <;> cases b <;> decide +kernel
abbrev dS (R : List Tn) (b : Bool) : List Tn := R.filter fun r => r.sh == b
theorem at_T {R : List Tn} {a0 : Addr} (nd : (R.map (·.id)).Nodup) {i : Nat} {r : Tn} (h : R[i]? = some r) : (tT a0 R).at [.inl r.id] = some (tU r) := by
  show (chN true (R.map tO) (.inl r.id)).bind _ = _
  rw [show chN true (R.map tO) (.inl r.id) = (R.map tO).findIdx? (fun q => decide (q.1 = (.inl r.id : Key))) from rfl, idx_at nd h]
  show ((R.map tO)[i]?).bind _ = _
  rw [List.getElem?_map, h]; rfl
theorem idx_map {α : Type} {f : α → PyData} {xs : List α} {j : Int} (h0 : 0 ≤ j) (h1 : j < (xs.length : Nat)) : ∃ x ∈ xs, idxF (.d (.list (xs.map f))) (.d (.int j)) = some (.val (f x)) := by
  obtain ⟨n, rfl⟩ := Int.eq_ofNat_of_zero_le h0
  have hn : n < xs.length := by omega
  refine ⟨xs[n], List.getElem_mem hn, ?_⟩
  show (atI (xs.map f) (n : Int)).map Rv.val = _
  rw [atI_nat (v := f xs[n]) (by rw [List.getElem?_map, List.getElem?_eq_getElem hn]; rfl)]; rfl
theorem any_es {nm : Str} : ∀ es : List (Str × Int), ((es.map tE).any fun q => decide (q.1 = (.inr nm : Key))) = (lookD (es.map kE) (.inr nm : Key)).isSome
  | [] => rfl
  | e :: es => by
    have ih := any_es (nm := nm) es
    unfold lookD at *
    rw [List.map_cons, List.map_cons, List.any_cons]
    by_cases h : (Sum.inr e.1 : Key) = .inr nm
    · rw [List.find?_cons_of_pos (by simpa using h), decide_eq_true h]; rfl
    · rw [List.find?_cons_of_neg (by simpa using h), decide_eq_false h, Bool.false_or]; exact ih
theorem put_T {R : List Tn} {a0 : Addr} (nd : (R.map (·.id)).Nodup) {i : Nat} {r r' : Tn} (h : R[i]? = some r) (e : r'.id = r.id) : (tT a0 R).put [.inl r.id] (tU r') = tT a0 (R.set i r') := by
  rw [put_cons (i := i) (q := tO r) (show chN true (R.map tO) (.inl r.id) = _ from idx_at nd h) (by rw [List.getElem?_map, h]; rfl), put_nil]
  show OT.n a0 true _ = OT.n a0 true _
  rw [List.map_set]
  show OT.n a0 true ((R.map tO).set i (.inl r.id, tU r')) = OT.n a0 true ((R.map tO).set i (.inl r'.id, tU r'))
  rw [e]
theorem set_same {α β : Type} {f : α → β} {xs : List α} {i : Nat} {x y : α} (h : xs[i]? = some x) (e : f y = f x) : (xs.set i y).map f = xs.map f := by
  rw [List.map_set, e]
  refine List.ext_getElem? fun j => ?_
  by_cases hj : j = i
  · subst hj
    rw [List.getElem?_set_self (by rw [List.length_map]; exact (List.getElem?_eq_some_iff.mp h).1), List.getElem?_map, h]; rfl
  · rw [List.getElem?_set_ne (Ne.symm hj)]
theorem in_set {α : Type} {R : List α} {i : Nat} {r r' r0 : α} (h : R[i]? = some r) (m : r0 ∈ R) : r0 = r ∨ r0 ∈ R.set i r' := by
  obtain ⟨j, hj⟩ := List.mem_iff_getElem?.mp m
  by_cases e : j = i
  · subst e; rw [h] at hj; cases hj; exact .inl rfl
  · exact .inr (List.mem_of_getElem? (by rw [List.getElem?_set_ne (fun z => e z.symm)]; exact hj))
theorem set_in {α : Type} {R : List α} {i : Nat} {r r' : α} (h : R[i]? = some r) : r' ∈ R.set i r' :=
  List.mem_of_getElem? (List.getElem?_set_self (List.getElem?_eq_some_iff.mp h).1)
theorem plT_set {R : List Tn} {i : Nat} {r : Tn} {nm : Str} {z : Int} (h : R[i]? = some r) {q : Pl} : plT (R.set i ⟨r.id, r.a, r.sh, r.es ++ [(nm, z)]⟩) q ↔ plT R q ∨ q = (z, r.id, nm) := by
  constructor
  · rintro ⟨r0, m, e, me, rfl⟩
    rcases List.mem_or_eq_of_mem_set m with m | rfl
    · exact .inl ⟨r0, m, e, me, rfl⟩
    · rcases List.mem_append.mp me with me | me
      · exact .inl ⟨r, List.mem_of_getElem? h, e, me, rfl⟩
      · rw [List.mem_singleton] at me; subst me; exact .inr rfl
  · rintro (⟨r0, m, e, me, rfl⟩ | rfl)
    · rcases in_set (r' := (⟨r.id, r.a, r.sh, r.es ++ [(nm, z)]⟩ : Tn)) h m with rfl | m
      · exact ⟨_, set_in h, e, List.mem_append_left _ me, rfl⟩
      · exact ⟨r0, m, e, me, rfl⟩
    · exact ⟨_, set_in h, (nm, z), List.mem_append_right _ (List.mem_singleton.mpr rfl), rfl⟩
theorem dwT_set {R : List Tn} {i : Nat} {r : Tn} {es : List (Str × Int)} (h : R[i]? = some r) {n : Int} : dwT (R.set i ⟨r.id, r.a, r.sh, es⟩) n ↔ dwT R n := by
  constructor
  · rintro ⟨r0, m, e1, e2⟩
    rcases List.mem_or_eq_of_mem_set m with m | rfl
    · exact ⟨r0, m, e1, e2⟩
    · exact ⟨r, List.mem_of_getElem? h, e1, e2⟩
  · rintro ⟨r0, m, e1, e2⟩
    rcases in_set (r' := (⟨r.id, r.a, r.sh, es⟩ : Tn)) h m with rfl | m
    · exact ⟨_, set_in h, e1, e2⟩
    · exact ⟨r0, m, e1, e2⟩
theorem row_one {R : List Tn} (nd : (R.map (·.id)).Nodup) {a b : Tn} (ha : a ∈ R) (hb : b ∈ R) (e : a.id = b.id) : a = b := by
  obtain ⟨i, hi⟩ := List.mem_iff_getElem?.mp ha
  obtain ⟨j, hj⟩ := List.mem_iff_getElem?.mp hb
  have h1 : (R.map (·.id))[i]? = some a.id := by rw [List.getElem?_map, hi]; rfl
  have h2 : (R.map (·.id))[j]? = some a.id := by rw [List.getElem?_map, hj, e]; rfl
  have := (List.getElem?_inj (List.getElem?_eq_some_iff.mp h1).1 nd).mp (h1.trans h2.symm)
  subst this
  rw [hi] at hj; cases hj; rfl
theorem no_at {R : List Tn} (nd : (R.map (·.id)).Nodup) {r : Tn} (m : r ∈ R) {nm : Str} (hn : nm ∉ r.es.map (·.1)) : ∀ a, plT R a → ¬ atP r.id nm a := by
  rintro _ ⟨r0, m0, e, me, rfl⟩ ⟨z1, z2⟩
  have := row_one nd m0 m z1
  subst this
  exact hn (List.mem_map.mpr ⟨e, me, z2⟩)
theorem nm_app {es : List (Str × Int)} {nm : Str} {z : Int} (h : (es.map (·.1)).Nodup) (hn : nm ∉ es.map (·.1)) : ((es ++ [(nm, z)]).map (·.1)).Nodup := by
  rw [List.map_append]
  refine List.nodup_append.mpr ⟨h, by simp, fun a ha b hb z => hn ?_⟩
  rw [List.map_singleton, List.mem_singleton] at hb
  subst hb z; exact ha
theorem Gr.more {R : List Tn} {i : Nat} {r : Tn} {nm : Str} {a : Addr} {x : Bool} {m : Int} (g : Gr R) (nd : (R.map (·.id)).Nodup) (h : R[i]? = some r) (hs : r.sh = false) (hn : nm ∉ r.es.map (·.1)) (hm : m ∉ R.map (·.id)) : Gr (R.set i ⟨r.id, r.a, r.sh, r.es ++ [(nm, m)]⟩ ++ [⟨m, a, x, []⟩]) := by
  have mr := List.mem_of_getElem? h
  refine ⟨fun q hq => ?_, fun q hq he => ?_, ?_⟩
  · rcases List.mem_append.mp hq with hq | hq
    · rcases List.mem_or_eq_of_mem_set hq with hq | rfl
      · exact g.nm q hq
      · exact nm_app (g.nm r mr) hn
    · rw [List.mem_singleton] at hq; subst hq; exact List.nodup_nil
  · rcases List.mem_append.mp hq with hq | hq
    · rcases List.mem_or_eq_of_mem_set hq with hq | rfl
      · exact g.shd q hq he
      · rw [hs] at he; cases he
    · rw [List.mem_singleton] at hq; subst hq; rfl
  · refine (g.gr.make (m := m) (p := r.id) (x := nm) (b := x = false) ⟨r, mr, rfl, hs⟩ hm (no_at nd mr hn)).congr (fun n => ?_) (fun n => ?_) (fun q => ?_) fun _ => Iff.rfl
    · show _ ↔ n ∈ List.map _ _
      rw [List.map_append, set_same (f := fun q : Tn => q.id) (y := ⟨r.id, r.a, r.sh, r.es ++ [(nm, m)]⟩) h rfl, List.mem_append]
      show _ ↔ _ ∨ n ∈ [m]
      rw [List.mem_singleton]
    · constructor
      · rintro (h1 | ⟨rfl, h1⟩)
        · obtain ⟨d, md, e1, e2⟩ := (dwT_set (es := r.es ++ [(nm, m)]) h).mpr h1
          exact ⟨d, List.mem_append_left _ md, e1, e2⟩
        · exact ⟨_, List.mem_append_right _ (List.mem_singleton.mpr rfl), rfl, h1⟩
      · rintro ⟨d, md, e1, e2⟩
        rcases List.mem_append.mp md with md | md
        · exact .inl ((dwT_set (es := r.es ++ [(nm, m)]) h).mp ⟨d, md, e1, e2⟩)
        · rw [List.mem_singleton] at md; subst md; exact .inr ⟨e1.symm, e2⟩
    · have hno := no_at nd mr hn
      constructor
      · rintro (h1 | h1)
        · obtain ⟨d, md, z⟩ := (plT_set (nm := nm) (z := m) h).mpr (.inl h1.1)
          exact ⟨d, List.mem_append_left _ md, z⟩
        · obtain ⟨d, md, z⟩ := (plT_set (nm := nm) (z := m) h).mpr (.inr h1)
          exact ⟨d, List.mem_append_left _ md, z⟩
      · rintro ⟨d, md, e, me, rfl⟩
        rcases List.mem_append.mp md with md | md
        · rcases (plT_set (nm := nm) (z := m) h).mp ⟨d, md, e, me, rfl⟩ with z | z
          · exact .inl ⟨z, hno _ z⟩
          · exact .inr z
        · rw [List.mem_singleton] at md; subst md; cases me
theorem Gr.link {R : List Tn} {i : Nat} {r s : Tn} {nm : Str} (g : Gr R) (nd : (R.map (·.id)).Nodup) (h : R[i]? = some r) (hs : r.sh = false) (hn : nm ∉ r.es.map (·.1)) (ms : s ∈ R) (hss : s.sh = true) : Gr (R.set i ⟨r.id, r.a, r.sh, r.es ++ [(nm, s.id)]⟩) := by
  have mr := List.mem_of_getElem? h
  refine ⟨fun q hq => ?_, fun q hq he => ?_, ?_⟩
  · rcases List.mem_or_eq_of_mem_set hq with hq | rfl
    · exact g.nm q hq
    · exact nm_app (g.nm r mr) hn
  · rcases List.mem_or_eq_of_mem_set hq with hq | rfl
    · exact g.shd q hq he
    · rw [hs] at he; cases he
  · have hno := no_at nd mr hn
    refine (g.gr.link (s := s.id) (q := r.id) (y := nm) ⟨r, mr, rfl, hs⟩ (List.mem_map.mpr ⟨s, ms, rfl⟩) ?_ hno).congr (fun n => ?_) (fun n => (dwT_set h).symm) (fun q => ?_) fun _ => Iff.rfl
    · rintro ⟨d, md, e1, e2⟩
      have := row_one nd md ms e1
      subst this
      rw [hss] at e2; cases e2
    · show _ ↔ n ∈ List.map _ _
      rw [set_same (f := fun q : Tn => q.id) (y := ⟨r.id, r.a, r.sh, r.es ++ [(nm, s.id)]⟩) h rfl]
    · rw [plT_set h]
      constructor
      · rintro (h1 | h1)
        · exact .inl h1.1
        · exact .inr h1
      · rintro (h1 | h1)
        · exact .inl ⟨h1, hno _ h1⟩
        · exact .inr h1
theorem look_no {es : List (Str × Int)} {nm : Str} (h : (!(lookD (es.map kE) (.inr nm : Key)).isSome) = true) : nm ∉ es.map (·.1) := by
  intro m
  obtain ⟨e, me, rfl⟩ := List.mem_map.mp m
  rw [← any_es] at h
  have : ((es.map tE).any fun q => decide (q.1 = (.inr e.1 : Key))) = true := List.any_eq_true.mpr ⟨tE e, List.mem_map.mpr ⟨e, me, rfl⟩, by simp⟩
  rw [this] at h; cases h
theorem Wf.more {N : List Str} {R : List Tn} {last last2 : Int} {m i : Nat} {r r' : Tn} {nm : Str} {a : Addr} {x : Bool} (w : Wf N R last m) (hr : R[i]? = some r) (er : r' = ⟨r.id, r.a, r.sh, r.es ++ [(nm, last2)]⟩) (hsh : r.sh = false) (hno : nm ∉ r.es.map (·.1)) (hn : nm ∈ N) (h1 : last < last2) (h2 : last2 ≤ last + 2) : Wf N (R.set i r' ++ [⟨last2, a, x, []⟩]) last2 (m + 1) := by
  have ids : (R.set i r').map (·.id) = R.map (·.id) := set_same hr (by rw [er])
  have ids2 : (R.set i r' ++ [(⟨last2, a, x, []⟩ : Tn)]).map (·.id) = R.map (·.id) ++ [last2] := by rw [List.map_append, ids]; rfl
  have hl2 : last2 ∉ R.map (·.id) := fun z => by
    obtain ⟨y, my, ey⟩ := List.mem_map.mp z
    have := w.le y my
    omega
  have gg : Gr (R.set i r' ++ [⟨last2, a, x, []⟩]) := by subst er; exact w.g.more w.nd hr hsh hno hl2
  refine ⟨?_, ?_, ?_, ?_, ?_, ?_, gg⟩
  · obtain ⟨a1, es, R', rfl⟩ := w.root
    cases i with
    | zero => simp at hr; subst hr er; exact ⟨_, _, R' ++ [⟨last2, a, x, []⟩], rfl⟩
    | succ i => exact ⟨a1, es, R'.set i r' ++ [⟨last2, a, x, []⟩], rfl⟩
  · rw [ids2, List.pairwise_append]
    refine ⟨w.up, by simp, fun y hy z hz => ?_⟩
    rw [List.mem_singleton] at hz; subst hz
    obtain ⟨q, mq, rfl⟩ := List.mem_map.mp hy
    have := w.le q mq
    omega
  · intro q hq
    have : q.id ∈ R.map (·.id) ++ [last2] := by rw [← ids2]; exact List.mem_map.mpr ⟨q, hq, rfl⟩
    rcases List.mem_append.mp this with z | z
    · obtain ⟨y, my, ey⟩ := List.mem_map.mp z
      have := w.le y my
      omega
    · rw [List.mem_singleton] at z
      obtain ⟨a1, es, R', e⟩ := w.root
      have := w.le ⟨0, a1, false, es⟩ (by rw [e]; exact List.mem_cons_self ..)
      have : 0 ≤ last := this.2
      omega
  · rw [List.length_append, List.length_set]
    have := w.few
    show R.length + 1 ≤ _
    omega
  · have := w.big
    omega
  · intro q hq
    rw [ids2]
    rcases List.mem_append.mp hq with hq | hq
    · rcases List.mem_or_eq_of_mem_set hq with hq | hq
      · obtain ⟨g1, g2⟩ := w.ent q hq
        exact ⟨by omega, fun e he => ⟨(g2 e he).1, List.mem_append_left _ (g2 e he).2⟩⟩
      · subst hq
        obtain ⟨g1, g2⟩ := w.ent r (List.mem_of_getElem? hr)
        subst er
        refine ⟨by rw [List.length_append]; show r.es.length + 1 ≤ _; omega, fun e he => ?_⟩
        rcases List.mem_append.mp he with he | he
        · exact ⟨(g2 e he).1, List.mem_append_left _ (g2 e he).2⟩
        · rw [List.mem_singleton] at he; subst he
          exact ⟨hn, List.mem_append_right _ (List.mem_singleton.mpr rfl)⟩
    · rw [List.mem_singleton] at hq; subst hq
      exact ⟨Nat.zero_le _, fun e he => by cases he⟩
abbrev rD (r : Tn) : PyData := .tuple [.int r.id, kS r.sh, .tuple (sortIt (r.es.map kE))]
abbrev trD (R : List Tn) (nx : Int) : PyData := .tuple [.tuple (R.map rD), .int nx]
theorem al_pairs (es : List (Str × Int)) : PySem.W.AllAlike ((es.map kE).map DL.pairD) := by
  rw [List.map_map]
  exact PySem.W.AllAlike.of (enc := DL.pairD ∘ kE) fun e e' => by
    show PySem.W.alike (.tuple [.str e.1, .int e.2]) (.tuple [.str e'.1, .int e'.2]) = true
    simp [PySem.W.alike, PySem.W.alikeAll]
theorem Wf.link {N N' : List Str} {R : List Tn} {last : Int} {m i : Nat} {r s : Tn} {nm : Str} (w : Wf N R last m) (hr : R[i]? = some r) (hsh : r.sh = false) (hno : nm ∉ r.es.map (·.1)) (hN : ∀ x ∈ N, x ∈ N') (hn : nm ∈ N') (ms : s ∈ R) (hss : s.sh = true) : Wf N' (R.set i ⟨r.id, r.a, r.sh, r.es ++ [(nm, s.id)]⟩) last (m + 1) := by
  have hz : s.id ∈ R.map (·.id) := List.mem_map.mpr ⟨s, ms, rfl⟩
  generalize hzz : s.id = z at hz ⊢
  have gg : Gr (R.set i ⟨r.id, r.a, r.sh, r.es ++ [(nm, z)]⟩) := by rw [← hzz]; exact w.g.link w.nd hr hsh hno ms hss
  have ids : (R.set i (⟨r.id, r.a, r.sh, r.es ++ [(nm, z)]⟩ : Tn)).map (·.id) = R.map (·.id) := set_same (f := fun q : Tn => q.id) (y := ⟨r.id, r.a, r.sh, r.es ++ [(nm, z)]⟩) hr rfl
  refine ⟨?_, by rw [ids]; exact w.up, fun q hq => ?_, by rw [List.length_set]; have := w.few; omega, by have := w.big; omega, fun q hq => ?_, gg⟩
  · obtain ⟨a1, es, R', rfl⟩ := w.root
    cases i with
    | zero => simp at hr; subst hr; exact ⟨_, _, R', rfl⟩
    | succ i => exact ⟨a1, es, R'.set i _, rfl⟩
  · have : q.id ∈ R.map (·.id) := by rw [← ids]; exact List.mem_map.mpr ⟨q, hq, rfl⟩
    obtain ⟨y, my, ey⟩ := List.mem_map.mp this
    have := w.le y my
    omega
  · rw [ids]
    rcases List.mem_or_eq_of_mem_set hq with hq | hq
    · obtain ⟨g1, g2⟩ := w.ent q hq
      exact ⟨by omega, fun e he => ⟨hN _ (g2 e he).1, (g2 e he).2⟩⟩
    · subst hq
      obtain ⟨g1, g2⟩ := w.ent r (List.mem_of_getElem? hr)
      refine ⟨by rw [List.length_append]; show r.es.length + 1 ≤ _; omega, fun e he => ?_⟩
      rcases List.mem_append.mp he with he | he
      · exact ⟨hN _ (g2 e he).1, (g2 e he).2⟩
      · rw [List.mem_singleton] at he; subst he
        exact ⟨hn, hz⟩
abbrev xI (xs : List Tn) : Option Sl := some (.o false (.l (xs.map fun r => .int r.id)))
theorem mergeD_new : ∀ {kvs acc : List (Key × PyData)}, ((acc ++ kvs).map (·.1)).Nodup → mergeD acc kvs = acc ++ kvs
  | [], acc, _ => by rw [List.append_nil]; rfl
  | q :: kvs, acc, h => by
    have hq : putD acc q.1 q.2 = acc ++ [q] := by
      unfold putD
      rw [if_neg]
      intro z
      obtain ⟨kv, m, e⟩ := List.any_eq_true.mp z
      rw [List.map_append, List.nodup_append] at h
      exact h.2.2 _ (List.mem_map.mpr ⟨kv, m, rfl⟩) _ (List.mem_map.mpr ⟨q, List.mem_cons_self .., rfl⟩) (of_decide_eq_true e)
    show mergeD (putD acc q.1 q.2) kvs = _
    rw [hq, mergeD_new (kvs := kvs) (acc := acc ++ [q]) (by rw [List.append_assoc]; exact h), List.append_assoc]; rfl
abbrev pE (e : Str × Int) : PyData := .tuple [.str e.1, .int e.2]
def srt (es : List (Str × Int)) : List (Str × Int) := es.mergeSort fun a b => PySem.W.dataLe false id (pE a) (pE b)
theorem srt_perm (es : List (Str × Int)) : (srt es).Perm es := List.mergeSort_perm _ _
theorem sortIt_es (es : List (Str × Int)) : sortIt (es.map kE) = (srt es).map pE := by
  unfold sortIt srt
  rw [List.map_mergeSort (r := fun a b => PySem.W.dataLe false id (pE a) (pE b)) (s := PySem.W.dataLe false id) (f := pE) (l := es) (fun a _ b _ => rfl), List.map_map]
  rfl
abbrev kW (r : Tn) : Key × PyData := (.inl r.id, .tuple ((srt r.es).map pE))
theorem rD_eq (r : Tn) : rD r = .tuple [.int r.id, kS r.sh, .tuple ((srt r.es).map pE)] := by
  show PyData.tuple [.int r.id, kS r.sh, .tuple (sortIt (r.es.map kE))] = _
  rw [sortIt_es]
theorem pairs_W : ∀ R : List Tn, pairsD (R.map fun r => .tuple [.int r.id, .tuple ((srt r.es).map pE)]) = some (R.map kW)
  | [] => rfl
  | r :: R => by
    show (some (Sum.inl r.id : Key)).bind (fun kk => (pairsD (R.map fun r => .tuple [.int r.id, .tuple ((srt r.es).map pE)])).map fun q => (kk, PyData.tuple ((srt r.es).map pE)) :: q) = _
    rw [pairs_W R]; rfl
theorem look_W {R : List Tn} (nd : (R.map (·.id)).Nodup) {r : Tn} (h : r ∈ R) : lookD (R.map kW) (.inl r.id : Key) = some (.tuple ((srt r.es).map pE)) := by
  induction R with
  | nil => cases h
  | cons x R ih =>
    rw [List.map_cons, List.nodup_cons] at nd
    unfold lookD at *
    rw [List.map_cons]
    by_cases e : x.id = r.id
    · rw [List.find?_cons_of_pos (by simp [e])]
      rcases List.mem_cons.mp h with h | h
      · subst h; rfl
      · exact absurd (List.mem_map.mpr ⟨r, h, e.symm⟩) nd.1
    · rw [List.find?_cons_of_neg (by simpa using inl_ne e)]
      rcases List.mem_cons.mp h with h | h
      · subst h; exact absurd rfl e
      · exact ih nd.2 h
theorem kW_nd {R : List Tn} (nd : (R.map (·.id)).Nodup) : ((R.map kW).map (·.1)).Nodup := by
  have e : (R.map kW).map (·.1) = (R.map (·.id)).map fun i => (.inl i : Key) := by rw [List.map_map, List.map_map]; rfl
  rw [e]
  exact List.Pairwise.map _ (fun a b h => inl_ne h) nd
abbrev wD (w : List Str) : PyData := .tuple (w.map .str)
theorem add_tup {xs ys : List PyData} (h : xs.length + ys.length ≤ sizeLine) : addF (.d (.tuple xs)) (.d (.tuple ys)) = some (.tup (xs ++ ys)) := if_pos h
theorem nd_row {R : List Tn} {z : Int} (h : z ∈ R.map (·.id)) : ∃ r ∈ R, r.id = z := by
  obtain ⟨r, m, e⟩ := List.mem_map.mp h
  exact ⟨r, m, e⟩
theorem ok6 {x : Str} (h : x ∈ nm6) : PyData.strOk x = true := by
  have : nm6.all PyData.strOk = true := by decide +kernel
  exact List.all_eq_true.mp this x h
theorem nd_wD {N : Nat} {w : List Str} (h : ∀ x ∈ w, x ∈ nm6) : Nd N 1 (wD w) := nd_tup fun y m => by
  obtain ⟨x, mx, rfl⟩ := List.mem_map.mp m
  exact nd_str (ok6 (h x mx))
theorem id_small {N : List Str} {R : List Tn} {last : Int} {m : Nat} (w : Wf N R last m) {z : Int} (h : z ∈ R.map (·.id)) : 0 ≤ z ∧ z ≤ 2 * m := by
  obtain ⟨r, mr, rfl⟩ := nd_row h
  have := w.le r mr
  have := w.big
  omega
structure WayOk (w : List Str) : Prop where
  few : w.length ≤ 4
  ok : ∀ x ∈ w, x ∈ nm6
inductive De where
  | one (w : Str) (p : List Str)
  | mk (p : List Str) (k : Bool)
  | two (w : Str) (p q : List Str)
abbrev De.D : De → PyData
  | .one w p => .tuple [.str w, wD p]
  | .mk p k => .tuple [.str "make", wD p, kS k]
  | .two w p q => .tuple [.str w, wD p, wD q]
def De.ok : De → Prop
  | .one w p => WayOk p ∧ (w = "look" ∨ w = "list" ∨ w = "drop" ∧ p ≠ [])
  | .mk p _ => WayOk p ∧ p ≠ []
  | .two w p q => WayOk p ∧ p ≠ [] ∧ WayOk q ∧ q ≠ [] ∧ (w = "link" ∨ w = "move" ∨ w = "swap")
theorem back_3 {δ : SEnv} {i : Nat} {b : Bool} {c c' : Cont} {s s2 : Sl} {d e : PyData} (h : δ[i]? = some (some (.o b c))) (hs : c.simple = true) (hs' : c'.simple = true) : back δ (DL.clear δ [.o i, .d d, .d e]) [.o i, .d d, .d e] [.o true c', s, s2] = some (δ.set i (some (.o b c'))) := by
  simp only [back, DL.clear, h, hs, hs']
  simp
theorem inT_w {neg b : Bool} {x : Str} {ys : List PyData} (h1 : SeqAt.shaped (.str x) = true) (h2 : SeqAt.shaped (.tuple ys) = true) (h : (if neg then !(ys.any fun z => PyData.eqv z (.str x)) else ys.any fun z => PyData.eqv z (.str x)) = b) : inT neg (.d (.str x)) (.d (.tuple ys)) = some (.val (.bool b)) := by
  rw [← h]
  exact if_pos (by rw [h1, h2]; rfl)
theorem Wf.upto {N : List Str} {R : List Tn} {last : Int} {m m' : Nat} (w : Wf N R last m) (h : m ≤ m') : Wf N R last m' :=
  ⟨w.root, w.up, w.le, by have := w.few; omega, by have := w.big; omega, fun r mr => ⟨by have := (w.ent r mr).1; omega, (w.ent r mr).2⟩, w.g⟩
theorem gr0 (a : Addr) : Gr [⟨0, a, false, []⟩] := by
  have nop : ∀ q, ¬ plT [⟨0, a, false, []⟩] q := by
    rintro _ ⟨r, m, e, me, rfl⟩
    rw [List.mem_singleton] at m; subst m; cases me
  refine ⟨fun r m => ?_, fun r m _ => ?_, ⟨fun n h => ?_, ⟨_, List.mem_singleton.mpr rfl, rfl, rfl⟩, fun q h => (nop q h).elim, fun q h => (nop q h).elim, fun q h => (nop q h).elim, fun n h h0 => ?_, fun a b h => (nop a h).elim, fun a b h => (nop a h).elim, ⟨fun _ => 0, fun q h => (nop q h).elim⟩⟩⟩
  · rw [List.mem_singleton] at m; subst m; exact List.nodup_nil
  · rw [List.mem_singleton] at m; subst m; rfl
  · obtain ⟨d, m, e, _⟩ := h
    exact List.mem_map.mpr ⟨d, m, e⟩
  · obtain ⟨d, m, e⟩ := List.mem_map.mp h
    rw [List.mem_singleton] at m; subst m; exact absurd e.symm h0
end V05
set_option Elab.async false
set_option linter.all false
set_option maxRecDepth 100000
set_option maxHeartbeats 1000000
set_option autoImplicit false
set_option exponentiation.threshold 20000
namespace V05
open PySem PySem.Spec PyProof.Rows L2 DL
local macro_rules | `(tactic| pv_short) => `(tactic| repeat first | refine Exists.intro _ (And.intro rfl ?_) | refine ifT rfl ?_ | refine ifF rfl ?_ | refine Exists.intro _ (And.intro (if_pos (by first | assumption | decide | exact ⟨by assumption, by decide⟩ | exact ⟨by assumption, by assumption⟩)) ?_) | refine And.intro (show List.length _ ≤ sizeLine from Nat.le_of_ble_eq_true rfl) ?_ | refine And.intro (Nat.le_of_ble_eq_true rfl) ?_)
theorem nm_n6 {NM : List Str} (h : NmOk NM) : ∀ x ∈ NM, x ∈ nm6 := fun x m => by
  obtain ⟨s, hs, h⟩ := h.sh
  obtain ⟨w, hw, rfl⟩ := h x m
  exact List.mem_flatMap.mpr ⟨s, List.mem_range.mpr hs, List.mem_map.mpr ⟨w, hw, rfl⟩⟩
theorem child_T3 {R : List Tn} {a0 : Addr} (nd : (R.map (·.id)).Nodup) {i : Nat} {r : Tn} (h : R[i]? = some r) : childR (tT a0 R) 3 [] (.inl r.id) = some (.n (.al r.a 3 [.inl r.id])) := by
  show (((R.map tO).findIdx? fun q => decide (q.1 = (.inl r.id : Key))).map fun i => ((.inl r.id : Key), i)).bind _ = _
  rw [idx_at nd h]
  show ((R.map tO)[i]?).map _ = _
  rw [List.getElem?_map, h]; rfl
theorem al_T3 {R : List Tn} {a0 : Addr} {b : Bool} {δ : SEnv} (nd : (R.map (·.id)).Nodup) {i : Nat} {r : Tn} (h : R[i]? = some r) (e : δ[3]? = some (some (.o b (.ot (tT a0 R))))) : alAt δ r.a 3 [.inl r.id] = some (tU r) := by
  unfold alAt
  rw [e]
  show ((tT a0 R).at [.inl r.id]).bind _ = _
  rw [at_T nd h]
  exact if_pos rfl
/-- rows under way: in any order -/
structure Wu (N : List Str) (R : List Tn) (k m : Nat) : Prop where
  root : ∃ a es R', R = ⟨0, a, false, es⟩ :: R'
  nd : (R.map (·.id)).Nodup
  le : ∀ r ∈ R, 0 ≤ r.id ∧ r.id ≤ 16
  few : R.length ≤ k
  ent : ∀ r ∈ R, r.es.length ≤ m ∧ ∀ e ∈ r.es, e.1 ∈ N ∧ e.2 ∈ R.map (·.id)
  g : Gr R
theorem Wu.upto {N : List Str} {R : List Tn} {k m k' m' : Nat} (w : Wu N R k m) (h : k ≤ k') (h2 : m ≤ m') : Wu N R k' m' :=
  ⟨w.root, w.nd, w.le, Nat.le_trans w.few h, fun r mr => ⟨Nat.le_trans (w.ent r mr).1 h2, (w.ent r mr).2⟩, w.g⟩
theorem Wu.more {N : List Str} {R : List Tn} {k m i : Nat} {r : Tn} {nm : Str} {a : Addr} {x : Bool} {z : Int} (w : Wu N R k m) (hr : R[i]? = some r) (hsh : r.sh = false) (hno : nm ∉ r.es.map (·.1)) (hn : nm ∈ N) (hz : z ∉ R.map (·.id)) (h0 : 0 ≤ z) (h1 : z ≤ 16) :
    Wu N (R.set i ⟨r.id, r.a, r.sh, r.es ++ [(nm, z)]⟩ ++ [⟨z, a, x, []⟩]) (k + 1) (m + 1) := by
  have ids : (R.set i (⟨r.id, r.a, r.sh, r.es ++ [(nm, z)]⟩ : Tn)).map (·.id) = R.map (·.id) := set_same (f := fun q : Tn => q.id) (y := ⟨r.id, r.a, r.sh, r.es ++ [(nm, z)]⟩) hr rfl
  have ids2 : (R.set i (⟨r.id, r.a, r.sh, r.es ++ [(nm, z)]⟩ : Tn) ++ [(⟨z, a, x, []⟩ : Tn)]).map (·.id) = R.map (·.id) ++ [z] := by rw [List.map_append, ids]; rfl
  refine ⟨?_, ?_, ?_, ?_, ?_, w.g.more w.nd hr hsh hno hz⟩
  · obtain ⟨a1, es, R', rfl⟩ := w.root
    cases i with
    | zero => simp at hr; subst hr; exact ⟨_, _, R' ++ [⟨z, a, x, []⟩], rfl⟩
    | succ i => exact ⟨a1, es, R'.set i _ ++ [⟨z, a, x, []⟩], rfl⟩
  · rw [ids2, List.nodup_append]
    refine ⟨w.nd, by simp, fun y hy q hq => ?_⟩
    rw [List.mem_singleton] at hq; subst hq
    exact fun e => hz (e ▸ hy)
  · intro q hq
    have : q.id ∈ R.map (·.id) ++ [z] := by rw [← ids2]; exact List.mem_map.mpr ⟨q, hq, rfl⟩
    rcases List.mem_append.mp this with h | h
    · obtain ⟨y, my, ey⟩ := List.mem_map.mp h
      rw [← ey]; exact w.le y my
    · rw [List.mem_singleton] at h; rw [h]; exact ⟨h0, h1⟩
  · rw [List.length_append, List.length_set]
    have := w.few
    show R.length + 1 ≤ _
    omega
  · intro q hq
    rw [ids2]
    rcases List.mem_append.mp hq with hq | hq
    · rcases List.mem_or_eq_of_mem_set hq with hq | hq
      · obtain ⟨g1, g2⟩ := w.ent q hq
        exact ⟨by omega, fun e he => ⟨(g2 e he).1, List.mem_append_left _ (g2 e he).2⟩⟩
      · subst hq
        obtain ⟨g1, g2⟩ := w.ent r (List.mem_of_getElem? hr)
        refine ⟨by rw [List.length_append]; show r.es.length + 1 ≤ _; omega, fun e he => ?_⟩
        rcases List.mem_append.mp he with he | he
        · exact ⟨(g2 e he).1, List.mem_append_left _ (g2 e he).2⟩
        · rw [List.mem_singleton] at he; subst he
          exact ⟨hn, List.mem_append_right _ (List.mem_singleton.mpr rfl)⟩
    · rw [List.mem_singleton] at hq; subst hq
      exact ⟨Nat.zero_le _, fun e he => by cases he⟩
theorem Wu.link {N : List Str} {R : List Tn} {k m i : Nat} {r s : Tn} {nm : Str} (w : Wu N R k m) (hr : R[i]? = some r) (hsh : r.sh = false) (hno : nm ∉ r.es.map (·.1)) (hn : nm ∈ N) (ms : s ∈ R) (hss : s.sh = true) : Wu N (R.set i ⟨r.id, r.a, r.sh, r.es ++ [(nm, s.id)]⟩) k (m + 1) := by
  have gg := w.g.link w.nd hr hsh hno ms hss
  have hz : s.id ∈ R.map (·.id) := List.mem_map.mpr ⟨s, ms, rfl⟩
  have ids : (R.set i (⟨r.id, r.a, r.sh, r.es ++ [(nm, s.id)]⟩ : Tn)).map (·.id) = R.map (·.id) := set_same (f := fun q : Tn => q.id) (y := ⟨r.id, r.a, r.sh, r.es ++ [(nm, s.id)]⟩) hr rfl
  refine ⟨?_, by rw [ids]; exact w.nd, fun q hq => ?_, by rw [List.length_set]; exact w.few, fun q hq => ?_, gg⟩
  · obtain ⟨a1, es, R', rfl⟩ := w.root
    cases i with
    | zero => simp at hr; subst hr; exact ⟨_, _, R', rfl⟩
    | succ i => exact ⟨a1, es, R'.set i _, rfl⟩
  · have : q.id ∈ R.map (·.id) := by rw [← ids]; exact List.mem_map.mpr ⟨q, hq, rfl⟩
    obtain ⟨y, my, ey⟩ := List.mem_map.mp this
    rw [← ey]; exact w.le y my
  · rw [ids]
    rcases List.mem_or_eq_of_mem_set hq with hq | hq
    · obtain ⟨g1, g2⟩ := w.ent q hq
      exact ⟨by omega, g2⟩
    · subst hq
      obtain ⟨g1, g2⟩ := w.ent r (List.mem_of_getElem? hr)
      refine ⟨by rw [List.length_append]; show r.es.length + 1 ≤ _; omega, fun e he => ?_⟩
      rcases List.mem_append.mp he with he | he
      · exact g2 e he
      · rw [List.mem_singleton] at he; subst he
        exact ⟨hn, hz⟩
theorem Wu.ne {N : List Str} {R : List Tn} {k m : Nat} (h : Wu N R k m) : R ≠ [] := by
  obtain ⟨a, es, R', rfl⟩ := h.root
  exact fun z => nomatch z
theorem Wu.dr {N : List Str} {R : List Tn} {k m : Nat} (h : Wu N R k m) : 0 < (dS R false).length := by
  obtain ⟨a, es, R', rfl⟩ := h.root
  show 0 < (List.filter _ (_ :: _)).length
  exact Nat.succ_pos _
abbrev gE (ds : List (Key × PyData)) (NM : List Str) (many : Int) (a0 : Addr) (R : List Tn) (x5 x6 x7 x8 x9 x10 x11 x12 : Option Sl) : SEnv := [some (.o true (.k ds)), some (.d (.list (NM.map .str))), some (.d (.int many)), some (.o false (.ot (tT a0 R))), some (.o false (.k (R.map tK))), x5, x6, x7, x8, x9, x10, x11, x12]
/-- a slot that is no locked dict -/
def Nf (x : Option Sl) : Prop := ∀ b c a, x = some (.o b c) → ¬ fkAt a c
theorem nf_none : Nf none := fun _ _ _ e => nomatch e
theorem nf_d {d : PyData} : Nf (some (.d d)) := fun _ _ _ e => nomatch e
theorem nf_l {b : Bool} {xs : List PyData} : Nf (some (.o b (.l xs))) := fun _ _ _ e f => by cases e; exact f.elim
def Un1 (x : Option Sl) : Prop := x = none ∨ ∃ d, x = some (.d d)
theorem Un1.nf {x : Option Sl} (h : Un1 x) : Nf x := by
  rcases h with rfl | ⟨d, rfl⟩
  · exact nf_none
  · exact nf_d
theorem un_d {d : PyData} : Un1 (some (.d d)) := .inr ⟨d, rfl⟩
theorem gE_only {ds : List (Key × PyData)} {NM : List Str} {many : Int} {a0 a : Addr} {R : List Tn} {kvs : List (Key × PyData)} {x5 x6 x7 x8 x9 x10 x11 x12 : Option Sl} (h5 : Nf x5) (h6 : Nf x6) (h7 : Nf x7) (h8 : Nf x8) (h9 : Nf x9) (h10 : Nf x10) (h11 : Nf x11) (h12 : Nf x12) :
    OnlyFk [some (.o true (.k ds)), some (.d (.list (NM.map .str))), some (.d (.int many)), some (.o false (.ot (tT a0 R))), some (.o false (.fk a kvs)), x5, x6, x7, x8, x9, x10, x11, x12] 4 a := by
  intro j b c e f
  match j, e with
  | 0, e => cases e; exact f.elim
  | 1, e => cases e
  | 2, e => cases e
  | 3, e => cases e; exact f.elim
  | 4, _ => rfl
  | 5, e => exact (h5 b c a (Option.some.inj e) f).elim
  | 6, e => exact (h6 b c a (Option.some.inj e) f).elim
  | 7, e => exact (h7 b c a (Option.some.inj e) f).elim
  | 8, e => exact (h8 b c a (Option.some.inj e) f).elim
  | 9, e => exact (h9 b c a (Option.some.inj e) f).elim
  | 10, e => exact (h10 b c a (Option.some.inj e) f).elim
  | 11, e => exact (h11 b c a (Option.some.inj e) f).elim
  | 12, e => exact (h12 b c a (Option.some.inj e) f).elim
  | n + 13, e => cases e
theorem numK_K : ∀ R : List Tn, numK ((R.map tK).map (·.1)) = some (R.map (·.id))
  | [] => rfl
  | r :: R => by
    show (numK ((R.map tK).map (·.1))).map (fun ns => r.id :: ns) = _
    rw [numK_K R]; rfl
theorem keys_K (R : List Tn) : (R.map tK).map (fun kv => keyP kv.1) = R.map fun r => .int r.id := by
  rw [List.map_map]; rfl
section
variable {ds : List (Key × PyData)} {NM : List Str} {many : Int} {a0 : Addr} {R : List Tn} {k m : Nat} {x5 x6 x7 x8 x9 x10 x11 x12 : Option Sl}
/-- the numbers of the drawers, of the sheets, in their order -/
theorem kinds_lc {Ex : XP} {P : DL.R → SEnv → Prop} {a : Addr} (b : Bool) (s : Str) (hs : kS b = .str s) (nd : (R.map (·.id)).Nodup) (few : R.length ≤ 60) (h9 : Un1 x9)
    (kk : P (.n (.l ((dS R b).map fun r => .int r.id))) [some (.o true (.k ds)), some (.d (.list (NM.map .str))), some (.d (.int many)), some (.o false (.ot (tT a0 R))), some (.o false (.fk a (R.map tK))), x5, x6, x7, x8, x9, x10, x11, x12]) :
    wLc (wItK 4) (gN 9) (wB (wOp eqF (wOp idxR (wVar 4) (wVar 9)) (wC (.str s)))) (wVar 9) [9] Ex [some (.o true (.k ds)), some (.d (.list (NM.map .str))), some (.d (.int many)), some (.o false (.ot (tT a0 R))), some (.o false (.fk a (R.map tK))), x5, x6, x7, x8, x9, x10, x11, x12] P := by
  refine Exists.intro (R.map tK) (And.intro rfl ?_)
  show wLcR (gN 9) (wB (wOp eqF (wOp idxR (wVar 4) (wVar 9)) (wC (.str s)))) (wVar 9) [9] ((R.map tK).map fun kv => keyP kv.1) [] [some (.o true (.k ds)), some (.d (.list (NM.map .str))), some (.d (.int many)), some (.o false (.ot (tT a0 R))), some (.o false (.fk a (R.map tK))), x5, x6, x7, x8, x9, x10, x11, x12] _
  rw [keys_K]
  refine lc_of (g := fun r : Tn => .int r.id) (δf := [some (.o true (.k ds)), some (.d (.list (NM.map .str))), some (.d (.int many)), some (.o false (.ot (tT a0 R))), some (.o false (.fk a (R.map tK))), x5, x6, x7, x8, none, x10, x11, x12]) (fun r => r.sh == b) (fun r => .int r.id) rfl (by rw [sizeLine_eq]; simp; omega) (fun r mr Q Q' h1 h2 => ?_) fun δ' h' => ?_
  · pv_short
    refine Exists.intro _ (And.intro (show idxR (.rk (R.map tK)) (.d (.int r.id)) = some (.val (kS r.sh)) from ?_) ?_)
    · show ((some (Sum.inl r.id : Key)).bind fun k => lookD (R.map tK) k).map Rv.val = _
      show (lookD (R.map tK) (Sum.inl r.id : Key)).map Rv.val = _
      rw [look_K nd mr]; rfl
    pv_short
    rw [← hs]
    refine Exists.intro _ (And.intro (eq_kS (neg := false) r.sh b) ?_)
    refine Exists.intro (r.sh == b) (And.intro (by show isB (.d (.bool (PyData.eqv (kS r.sh) (kS b)))) = _; rw [kS_eqv]; rfl) ?_)
    show if (r.sh == b) = true then wVar 9 Ex0 _ Q else Q' _
    refine ite2 (fun e => ?_) (fun e => ?_)
    · exact Exists.intro _ (And.intro rfl (Exists.intro _ (And.intro rfl (h1 e _ rfl))))
    · exact h2 (by simpa using e) _ rfl
  · rw [List.nil_append, h']
    rcases h9 with rfl | ⟨d9, rfl⟩
    · exact kk
    · exact kk
theorem last_at1 {α : Type} {g : α → PyData} (xs : List α) (t : α) : idxF (.d (.list ((xs ++ [t]).map g))) (.d (.int (-1))) = some (.val (g t)) := by
  show (atI ((xs ++ [t]).map g) (-1)).map Rv.val = _
  have e : atI ((xs ++ [t]).map g) (-1) = some (g t) := by
    unfold atI ixN
    simp
    rw [if_pos (by omega)]
    show (xs.map g ++ [g t])[(-1 + ((xs.length : Int) + 1)).toNat]? = _
    rw [show (-1 + ((xs.length : Int) + 1)).toNat = xs.length by omega, List.getElem?_append_right (by rw [List.length_map]; exact Nat.le_refl _), List.length_map, Nat.sub_self]; rfl
  rw [e]; rfl
theorem idx_last {xs : List Tn} (h : 0 < xs.length) : ∃ r ∈ xs, idxF (.d (.list (xs.map fun r => .int r.id))) (.d (.int (-1))) = some (.val (.int r.id)) := by
  rcases List.eq_nil_or_concat xs with rfl | ⟨ys, t, rfl⟩
  · cases h
  · rw [List.concat_eq_append]
    exact ⟨t, by simp, last_at1 ys t⟩
theorem kinds_set {d : DEnds} (nd : (R.map (·.id)).Nodup) (few : R.length ≤ 60) (h5 : Nf x5) (h6 : Nf x6) (h7 : Nf x7) (h9 : Un1 x9) (h10 : Nf x10) (h11 : Nf x11) (h12 : Nf x12)
    (kk : d.nx (gE ds NM many a0 R x5 x6 x7 (xI (dS R false)) x9 x10 x11 x12)) :
    wLock 4 (wSet 8 (wLc (wItK 4) (gN 9) (wB (wOp eqF (wOp idxR (wVar 4) (wVar 9)) (wC (.str "drawer")))) (wVar 9) [9])) d (gE ds NM many a0 R x5 x6 x7 x8 x9 x10 x11 x12) := by
  refine Exists.intro (false, R.map tK) (And.intro rfl fun a => ?_)
  unfold wSet
  refine kinds_lc (Ex := d.ex) (a := a) false "drawer" rfl nd few h9 ?_
  refine Exists.intro _ (And.intro rfl ?_)
  exact ⟨rfl, gE_only h5 h6 h7 nf_l h9.nf h10 h11 h12, kk⟩
theorem id_in {z : Int} : ((R.map tK).any fun q => decide (q.1 = (.inl z : Key))) = decide (z ∈ R.map (·.id)) := by
  rw [List.any_map, Bool.eq_iff_iff, List.any_eq_true, decide_eq_true_iff, List.mem_map]
  constructor
  · rintro ⟨r, m, e⟩
    exact ⟨r, m, Sum.inl.inj (of_decide_eq_true e)⟩
  · rintro ⟨r, m, rfl⟩
    exact ⟨r, m, decide_eq_true rfl⟩
theorem look_id {z : Int} : (lookD (R.map tK) (.inl z : Key)).isSome = decide (z ∈ R.map (·.id)) := by
  rw [← id_in]
  unfold lookD
  rw [Option.isSome_map]
  induction R.map tK with
  | nil => rfl
  | cons q qs ih =>
    rw [List.find?_cons, List.any_cons]
    cases decide (q.1 = (.inl z : Key)) with
    | true => rfl
    | false => rw [Bool.false_or]; exact ih
theorem new_k {z : Int} (h : z ∉ R.map (·.id)) (d : PyData) : putD (R.map tK) (.inl z : Key) d = R.map tK ++ [(.inl z, d)] := by
  unfold putD
  rw [if_neg]
  rw [id_in, decide_eq_false h]
  exact Bool.false_ne_true
theorem new_t {z : Int} (h : z ∉ R.map (·.id)) : ((R.map tO).any fun q => decide (q.1 = (.inl z : Key))) = false := by
  rw [List.any_eq_false]
  intro q hq
  obtain ⟨r, mr, rfl⟩ := List.mem_map.mp hq
  simpa using inl_ne (a := r.id) (b := z) fun e => h (e ▸ List.mem_map.mpr ⟨r, mr, rfl⟩)
/-- a node more, under a name of a drawer -/
theorem turn_12 {d : DEnds} {i : Nat} {r : Tn} {nm : Str} {z : Int} (hr : R[i]? = some r) (hs : r.sh = false) (hn : nm ∈ NM) (hno : nm ∉ r.es.map (·.1)) (hz : z ∉ R.map (·.id)) (z0 : 0 ≤ z) (z1 : z ≤ 16) (w : Wu NM R k m) (hk : k < 60) (hm : m < 60) (hf : Fd ds)
    (kk : ∀ ds' R', Fd ds' → Wu NM R' (k + 1) (m + 1) → d.nx (gE ds' NM many a0 R' x5 x6 x7 x8 (some (.d (.int z))) (some (.d (.int r.id))) (some (.d (.str nm))) x12)) :
    t_tree_12 C_draw d (gE ds NM many a0 R x5 x6 x7 x8 (some (.d (.int z))) (some (.d (.int r.id))) (some (.d (.str nm))) x12) := by
  have few := w.few
  have hel := (w.ent r (List.mem_of_getElem? hr)).1
  have hany : ((r.es.map tE).any fun q => decide (q.1 = (.inr nm : Key))) = false := by
    rw [List.any_eq_false]
    intro q hq
    obtain ⟨e, me, rfl⟩ := List.mem_map.mp hq
    simp only [decide_eq_true_eq]
    exact fun y => hno (List.mem_map.mpr ⟨e, me, by injection y⟩)
  unfold t_tree_12
  pv_short
  refine draw_at (i := 0) (m := 3) rfl hf (by decide) (by decide) (fun Q h => h) fun ds1 j hf1 h0 h1 => ?_
  pv_short
  obtain ⟨x, _, ex⟩ := idx_map (f := kS) (xs := [false, false, true]) h0 h1
  refine Exists.intro _ (And.intro ex ?_)
  pv_short
  refine Exists.intro _ (And.intro (show putF (.k (R.map tK)) (.int z) (kS x) = some (.k (R.map tK ++ [(.inl z, kS x)])) from ?_) ?_)
  · show (if (R.map tK).length < sizeLine then some (Cont.k (putD (R.map tK) (.inl z) (kS x))) else none) = _
    rw [if_pos (by rw [List.length_map, sizeLine_eq]; omega), new_k hz]
  pv_short
  unfold t_tree_11
  pv_short
  refine And.intro ⟨rfl, Nat.le_of_ble_eq_true rfl⟩ ?_
  refine And.intro (fun r' hr' => by rw [List.mem_singleton] at hr'; subst hr'; exact ⟨_, rfl⟩) ?_
  pv_short
  refine .inr ?_
  pv_short
  intro a
  pv_short
  refine Exists.intro _ (And.intro (show putN (tT a0 R) (.inl z) (.n a true []) = some (tT a0 (R ++ [⟨z, a, x, []⟩])) from ?_) ?_)
  · show (if (R.map tO).length < sizeLine then (if _ then _ else _) else none) = _
    rw [if_pos (by rw [List.length_map, sizeLine_eq]; omega), if_neg (by rw [new_t hz]; decide)]
    show some (OT.n a0 true _) = some (OT.n a0 true _)
    rw [List.map_append]; rfl
  have hi : i < R.length := (List.getElem?_eq_some_iff.mp hr).1
  have hr2 : (R ++ [(⟨z, a, x, []⟩ : Tn)])[i]? = some r := by rw [List.getElem?_append_left hi]; exact hr
  have nd2 : ((R ++ [(⟨z, a, x, []⟩ : Tn)]).map (·.id)).Nodup := by
    rw [List.map_append, List.nodup_append]
    refine ⟨w.nd, by simp, fun y hy q hq => ?_⟩
    rw [List.map_singleton, List.mem_singleton] at hq; subst hq
    exact fun e => hz (e ▸ hy)
  pv_short
  refine And.intro (fun _ h => by cases h) ?_
  pv_short
  refine Exists.intro _ (And.intro (child_T3 nd2 hr2) ?_)
  pv_short
  refine .inr ?_
  pv_short
  refine Exists.intro (3, [.inl r.id], tU r) (And.intro ?_ ?_)
  · show (alAt _ r.a 3 [.inl r.id]).map _ = _
    rw [al_T3 (b := false) nd2 hr2 rfl]; rfl
  intro a1
  pv_short
  refine Exists.intro _ (And.intro (show putN (tU r) (.inr nm) (.d (.int z)) = some (tU ⟨r.id, r.a, r.sh, r.es ++ [(nm, z)]⟩) from ?_) ?_)
  · show (if (r.es.map tE).length < sizeLine then (if _ then _ else _) else none) = _
    rw [if_pos (by rw [List.length_map, sizeLine_eq]; omega), if_neg (by rw [hany]; decide)]
    show some (OT.n r.a true _) = some (OT.n r.a true _)
    rw [List.map_append]; rfl
  have kk := kk ds1 (R.set i ⟨r.id, r.a, r.sh, r.es ++ [(nm, z)]⟩ ++ [⟨z, a, x, []⟩]) hf1 (w.more (a := a) (x := x) hr hs hno hn hz z0 z1)
  have hk2 : (R.set i (⟨r.id, r.a, r.sh, r.es ++ [(nm, z)]⟩ : Tn) ++ [(⟨z, a, x, []⟩ : Tn)]).map tK = R.map tK ++ [(.inl z, kS x)] := by
    rw [List.map_append, set_same (f := tK) (y := ⟨r.id, r.a, r.sh, r.es ++ [(nm, z)]⟩) hr rfl]; rfl
  have hp := put_T (a0 := a0) (r' := ⟨r.id, r.a, r.sh, r.es ++ [(nm, z)]⟩) nd2 hr2 rfl
  rw [List.set_append_left _ _ hi] at hp
  unfold gE at kk
  rw [hk2, ← hp] at kk
  pv_short
  exact kk
def PoolOk (pl : List PyData) : Prop := 0 < pl.length ∧ pl.length ≤ 20 ∧ ∀ d ∈ pl, ∃ z : Int, d = .int z ∧ 1 ≤ z ∧ z ≤ 16
theorem log_s {n : Nat} (h : n ≤ 1000) : ((n : Int)).natAbs.log2 < 9000 := Nat.lt_of_le_of_lt (Nat.log2_le_self _) (by omega)
/-- a turn from the name on -/
theorem turn_15 {d : DEnds} {i : Nat} {r : Tn} {pl : List PyData} (hP : PoolOk pl) (hN : NmOk NM) (hr : R[i]? = some r) (hs : r.sh = false) (w : Wu NM R k m) (hk : k < 60) (hm : m < 60) (hf : Fd ds)
    (kk : ∀ ds' R' x9 x11, Fd ds' → Wu NM R' (k + 1) (m + 1) → Un1 x9 → Un1 x11 → d.nx (gE ds' NM many a0 R' (some (.o false (.l pl))) x6 x7 x8 x9 (some (.d (.int r.id))) x11 x12)) :
    t_tree_15 C_draw d (gE ds NM many a0 R (some (.o false (.l pl))) x6 x7 x8 x9 (some (.d (.int r.id))) x11 x12) := by
  have lN := hN.len
  unfold t_tree_15
  pv_short
  refine draw_at (i := 0) (m := (((NM.map PyData.str).length : Nat) : Int)) rfl hf (by rw [List.length_map]; omega) (by rw [List.length_map]; exact log_s (by omega)) (fun Q h => by pv_short; exact h) fun ds1 j hf1 h0 h1 => ?_
  rw [List.length_map] at h1
  pv_short
  obtain ⟨nm, mn, en⟩ := idx_map (f := fun s : Str => PyData.str s) (xs := NM) h0 h1
  refine Exists.intro _ (And.intro en ?_)
  pv_short
  unfold t_tree_14
  pv_short
  refine draw_at (i := 0) (m := ((pl.length : Nat) : Int)) rfl hf1 (by have := hP.1; omega) (log_s (by have := hP.2.1; omega)) (fun Q h => by pv_short; exact h) fun ds2 j2 hf2 h02 h12 => ?_
  pv_short
  obtain ⟨n, rfl⟩ := Int.eq_ofNat_of_zero_le h02
  have hn : n < pl.length := by omega
  obtain ⟨z, ez, z1, z2⟩ := hP.2.2 pl[n] (List.getElem_mem hn)
  refine Exists.intro _ (And.intro (show idxF (.d (.list pl)) (.d (.int (n : Int))) = some (.val (.int z)) from ?_) ?_)
  · show (atI pl (n : Int)).map Rv.val = _
    rw [atI_nat (v := .int z) (by rw [List.getElem?_eq_getElem hn, ez])]; rfl
  pv_short
  unfold t_tree_13
  pv_short
  refine Exists.intro _ (And.intro (child_T3 w.nd hr) ?_)
  refine Exists.intro _ (And.intro rfl ?_)
  refine Exists.intro (Vw.k (r.es.map kE)) (And.intro ?_ ?_)
  · show (alAt _ r.a 3 [.inl r.id]).bind OT.vw = _
    rw [al_T3 (b := false) w.nd hr rfl]
    exact vw_U r
  refine Exists.intro _ (And.intro (show inT true _ _ = some (.val (.bool (!(lookD (r.es.map kE) (.inr nm : Key)).isSome))) from rfl) ?_)
  pv_short
  have no := kk ds2 R (some (.d (.int z))) (some (.d (.str nm))) hf2 (w.upto (Nat.le_succ _) (Nat.le_succ _)) un_d un_d
  refine ite2 (fun e => ?_) (fun e => ?_)
  · pv_short
    show (if (!(lookD (R.map tK) (.inl z : Key)).isSome) = true then _ else _)
    refine ite2 (fun e2 => ?_) (fun e2 => ?_)
    · rw [look_id] at e2
      exact turn_12 hr hs mn (look_no e) (by simpa using e2) (by omega) z2 w hk hm hf2 fun ds' R' f' w' => kk ds' R' _ _ f' w' un_d un_d
    · exact no
  · exact no
theorem turn_19 {d : DEnds} {pl : List PyData} {dp : Int} (hP : PoolOk pl) (hN : NmOk NM) (w : Wu NM R k m) (hk : k < 60) (hm : m < 60) (hf : Fd ds) (h7 : Un1 x7) (h9 : Un1 x9) (h10 : Un1 x10) (h11 : Un1 x11) (h12 : Un1 x12)
    (kk : ∀ ds' R' x8 x9 x10 x11, Fd ds' → Wu NM R' (k + 1) (m + 1) → Nf x8 → Un1 x9 → Un1 x10 → Un1 x11 → d.nx (gE ds' NM many a0 R' (some (.o false (.l pl))) (some (.d (.int dp))) x7 x8 x9 x10 x11 x12)) :
    t_tree_19 C_draw d (gE ds NM many a0 R (some (.o false (.l pl))) (some (.d (.int dp))) x7 x8 x9 x10 x11 x12) := by
  have few := w.few
  unfold t_tree_19 wSeq
  refine kinds_set w.nd (by omega) nf_l nf_d h7.nf h9 h10.nf h11.nf h12.nf ?_
  unfold t_tree_18
  pv_short
  obtain ⟨r0, m0, e0⟩ := idx_last (xs := dS R false) w.dr
  refine Exists.intro _ (And.intro e0 ?_)
  pv_short
  have go : ∀ {ds1 : List (Key × PyData)} {r : Tn}, Fd ds1 → r ∈ dS R false → t_tree_15 C_draw { d with nx := d.nx } (gE ds1 NM many a0 R (some (.o false (.l pl))) (some (.d (.int dp))) x7 (xI (dS R false)) x9 (some (.d (.int r.id))) x11 x12) := fun {ds1 r} hf1 m1 => by
    obtain ⟨mr, hs⟩ := List.mem_filter.mp m1
    obtain ⟨i, hi⟩ := List.mem_iff_getElem?.mp mr
    exact turn_15 hP hN hi (by simpa using hs) w hk hm hf1 fun ds' R' x9 x11 f' w' u9 u11 => kk ds' R' _ _ _ _ f' w' nf_l u9 un_d u11
  have pick : ∀ {ds1 : List (Key × PyData)}, Fd ds1 → t_tree_16 C_draw { d with nx := t_tree_15 C_draw { d with nx := d.nx } } (gE ds1 NM many a0 R (some (.o false (.l pl))) (some (.d (.int dp))) x7 (xI (dS R false)) x9 (some (.d (.int r0.id))) x11 x12) := fun {ds1} hf1 => by
    have l1 := w.dr
    have l2 : (dS R false).length ≤ 60 := Nat.le_trans (List.length_filter_le _ _) (by omega)
    unfold t_tree_16
    pv_short
    refine draw_at (i := 0) (m := (((dS R false).map fun r => PyData.int r.id).length : Nat)) rfl hf1 (by rw [List.length_map]; omega) (by rw [List.length_map]; exact log_s (by omega)) (fun Q q => by pv_short; exact q) fun ds2 j2 hf2 h02 h12 => ?_
    pv_short
    obtain ⟨r, mr, er⟩ := idx_map (f := fun r : Tn => PyData.int r.id) (xs := dS R false) h02 (by rw [List.length_map] at h12; exact h12)
    refine Exists.intro _ (And.intro er ?_)
    pv_short
    exact go hf2 mr
  unfold t_tree_17
  pv_short
  show (if PyData.eqv (.int dp) (.int 0) = true then _ else _)
  refine ite2 (fun e => ?_) (fun e => ?_)
  · exact pick hf
  · pv_short
    refine draw_at (i := 0) (m := 2) rfl hf (by decide) (by decide) (fun Q h => h) fun ds1 j hf1 h0 h1 => ?_
    pv_short
    show (if PyData.eqv (.int j) (.int 1) = true then _ else _)
    refine ite2 (fun e => ?_) (fun e => ?_)
    · exact pick hf1
    · exact go hf1 m0
/-- a sheet's further name -/
theorem link_6 {d : DEnds} {i : Nat} {r s0 : Tn} {nm : Str} (hr : R[i]? = some r) (hs : r.sh = false) (hn : nm ∈ NM) (ms : s0 ∈ R) (hss : s0.sh = true) (w : Wu NM R k m) (hk : k < 60) (hm : m < 60) (hf : Fd ds)
    (kk : ∀ ds' R', Fd ds' → Wu NM R' k (m + 1) → R'.map (fun q => (q.id, q.sh)) = R.map (fun q => (q.id, q.sh)) → d.nx (gE ds' NM many a0 R' x5 x6 x7 x8 (some (.d (.int s0.id))) (some (.d (.int r.id))) (some (.d (.str nm))) x12)) :
    t_tree_6 C_draw d (gE ds NM many a0 R x5 x6 x7 x8 (some (.d (.int s0.id))) (some (.d (.int r.id))) (some (.d (.str nm))) x12) := by
  have hel := (w.ent r (List.mem_of_getElem? hr)).1
  unfold t_tree_6
  pv_short
  refine Exists.intro _ (And.intro (child_T3 w.nd hr) ?_)
  refine Exists.intro _ (And.intro rfl ?_)
  refine Exists.intro (Vw.k (r.es.map kE)) (And.intro ?_ ?_)
  · show (alAt _ r.a 3 [.inl r.id]).bind OT.vw = _
    rw [al_T3 (b := false) w.nd hr rfl]
    exact vw_U r
  refine Exists.intro _ (And.intro (show inT true _ _ = some (.val (.bool (!(lookD (r.es.map kE) (.inr nm : Key)).isSome))) from rfl) ?_)
  pv_short
  refine ite2 (fun e => ?_) (fun e => ?_)
  · pv_short
    refine draw_at (i := 0) (m := 2) rfl hf (by decide) (by decide) (fun Q h => h) fun ds1 j hf1 h0 h1 => ?_
    pv_short
    show (if PyData.eqv (.int j) (.int 0) = true then _ else _)
    refine ite2 (fun e2 => ?_) (fun e2 => ?_)
    · have hno := look_no e
      have hany : ((r.es.map tE).any fun q => decide (q.1 = (.inr nm : Key))) = false := by
        rw [any_es]; simpa using e
      unfold t_tree_5
      pv_short
      refine Exists.intro _ (And.intro (child_T3 w.nd hr) ?_)
      pv_short
      refine .inr ?_
      pv_short
      refine Exists.intro (3, [.inl r.id], tU r) (And.intro ?_ ?_)
      · show (alAt _ r.a 3 [.inl r.id]).map _ = _
        rw [al_T3 (b := false) w.nd hr rfl]; rfl
      intro a1
      pv_short
      refine Exists.intro _ (And.intro (show putN (tU r) (.inr nm) (.d (.int s0.id)) = some (tU ⟨r.id, r.a, r.sh, r.es ++ [(nm, s0.id)]⟩) from ?_) ?_)
      · show (if (r.es.map tE).length < sizeLine then (if _ then _ else _) else none) = _
        rw [if_pos (by rw [List.length_map, sizeLine_eq]; omega), if_neg (by rw [hany]; decide)]
        show some (OT.n r.a true _) = some (OT.n r.a true _)
        rw [List.map_append]; rfl
      have hk2 : (R.set i (⟨r.id, r.a, r.sh, r.es ++ [(nm, s0.id)]⟩ : Tn)).map tK = R.map tK := set_same (f := tK) (y := ⟨r.id, r.a, r.sh, r.es ++ [(nm, s0.id)]⟩) hr rfl
      have kk := kk ds1 (R.set i ⟨r.id, r.a, r.sh, r.es ++ [(nm, s0.id)]⟩) hf1 (w.link hr hs hno hn ms hss) (set_same (f := fun q : Tn => (q.id, q.sh)) (y := ⟨r.id, r.a, r.sh, r.es ++ [(nm, s0.id)]⟩) hr rfl)
      have hp := put_T (a0 := a0) (r' := ⟨r.id, r.a, r.sh, r.es ++ [(nm, s0.id)]⟩) w.nd hr rfl
      unfold gE at kk
      rw [hk2, ← hp] at kk
      pv_short
      exact kk
    · exact kk ds1 R hf1 (w.upto (Nat.le_refl _) (Nat.le_succ _)) rfl
  · exact kk ds R hf (w.upto (Nat.le_refl _) (Nat.le_succ _)) rfl
theorem link_9 {d : DEnds} {pl : List PyData} {s0 : Tn} {dp : Int} (hN : NmOk NM) (ms : s0 ∈ R) (hss : s0.sh = true) (w : Wu NM R k m) (hk : k < 60) (hm : m < 60) (hf : Fd ds) (h7 : Un1 x7) (h10 : Un1 x10) (h11 : Un1 x11) (h12 : Un1 x12)
    (kk : ∀ ds' R' x8 x10 x11, Fd ds' → Wu NM R' k (m + 1) → R'.map (fun q => (q.id, q.sh)) = R.map (fun q => (q.id, q.sh)) → Nf x8 → Un1 x10 → Un1 x11 → d.nx (gE ds' NM many a0 R' (some (.o false (.l pl))) (some (.d (.int dp))) x7 x8 (some (.d (.int s0.id))) x10 x11 x12)) :
    t_tree_9 C_draw d (gE ds NM many a0 R (some (.o false (.l pl))) (some (.d (.int dp))) x7 x8 (some (.d (.int s0.id))) x10 x11 x12) := by
  have few := w.few
  have lN := hN.len
  have l1 := w.dr
  have l2 : (dS R false).length ≤ 60 := Nat.le_trans (List.length_filter_le _ _) (by omega)
  unfold t_tree_9 wSeq
  refine kinds_set w.nd (by omega) nf_l nf_d h7.nf un_d h10.nf h11.nf h12.nf ?_
  unfold t_tree_8
  pv_short
  refine draw_at (i := 0) (m := (((dS R false).map fun r => PyData.int r.id).length : Nat)) rfl hf (by rw [List.length_map]; omega) (by rw [List.length_map]; exact log_s (by omega)) (fun Q q => by pv_short; exact q) fun ds2 j2 hf2 h02 h12 => ?_
  pv_short
  obtain ⟨r, mr, er⟩ := idx_map (f := fun r : Tn => PyData.int r.id) (xs := dS R false) h02 (by rw [List.length_map] at h12; exact h12)
  refine Exists.intro _ (And.intro er ?_)
  obtain ⟨mr, hs⟩ := List.mem_filter.mp mr
  obtain ⟨i, hi⟩ := List.mem_iff_getElem?.mp mr
  pv_short
  unfold t_tree_7
  pv_short
  refine draw_at (i := 0) (m := (((NM.map PyData.str).length : Nat) : Int)) rfl hf2 (by rw [List.length_map]; omega) (by rw [List.length_map]; exact log_s (by omega)) (fun Q h => by pv_short; exact h) fun ds3 j3 hf3 h03 h13 => ?_
  rw [List.length_map] at h13
  pv_short
  obtain ⟨nm, mn, en⟩ := idx_map (f := fun s : Str => PyData.str s) (xs := NM) h03 h13
  refine Exists.intro _ (And.intro en ?_)
  pv_short
  exact link_6 hi (by simpa using hs) mn ms hss w hk hm hf3 fun ds' R' f' w' e' => kk ds' R' _ _ _ f' w' e' nf_l un_d un_d
end
theorem gr_perm {R S : List Tn} (p : S.Perm R) (g : Gr R) : Gr S := by
  refine ⟨fun r m => g.nm r (p.mem_iff.mp m), fun r m => g.shd r (p.mem_iff.mp m), g.gr.congr (fun n => (p.map (·.id)).mem_iff.symm) (fun n => ?_) (fun q => ?_) fun _ => Iff.rfl⟩
  · exact ⟨fun ⟨d, m, e⟩ => ⟨d, p.mem_iff.mpr m, e⟩, fun ⟨d, m, e⟩ => ⟨d, p.mem_iff.mp m, e⟩⟩
  · exact ⟨fun ⟨d, m, e⟩ => ⟨d, p.mem_iff.mpr m, e⟩, fun ⟨d, m, e⟩ => ⟨d, p.mem_iff.mp m, e⟩⟩
def srtT (R : List Tn) : List Tn := R.mergeSort fun a b => decide (a.id ≤ b.id)
theorem srtT_perm (R : List Tn) : (srtT R).Perm R := List.mergeSort_perm _ _
theorem srtT_ids (R : List Tn) : (srtT R).map (·.id) = sortI (R.map (·.id)) := by
  refine sortI_one ((srtT_perm R).map _) ?_
  have h := List.pairwise_mergeSort (le := fun (a b : Tn) => decide (a.id ≤ b.id)) (fun a b c h1 h2 => by simp only [decide_eq_true_eq] at *; omega) (fun a b => by simp only [Bool.or_eq_true, decide_eq_true_eq]; omega) R
  exact List.Pairwise.map _ (fun a b h => of_decide_eq_true h) h
theorem wu_wf {N : List Str} {R : List Tn} {k m : Nat} (w : Wu N R k m) (hk : k ≤ 14) (hm : m ≤ 28) : ∃ S0 t, srtT R = S0 ++ [t] ∧ Wf N (srtT R) t.id 28 := by
  have p := srtT_perm R
  have ne : srtT R ≠ [] := fun z => w.ne (List.length_eq_zero_iff.mp (by have := p.length_eq; rw [z] at this; exact this.symm))
  have nd : ((srtT R).map (·.id)).Nodup := (p.map (·.id)).nodup_iff.mpr w.nd
  have up0 : ((srtT R).map (·.id)).Pairwise (· ≤ ·) := by rw [srtT_ids]; exact sortI_up _
  have up : ((srtT R).map (·.id)).Pairwise (· < ·) := (List.pairwise_and_iff.mpr ⟨up0, nd⟩).imp fun ⟨a, b⟩ => by omega
  obtain ⟨a, es, R', eR⟩ := w.root
  have m0 : (⟨0, a, false, es⟩ : Tn) ∈ srtT R := p.mem_iff.mpr (by rw [eR]; exact List.mem_cons_self ..)
  have gg := gr_perm p w.g
  have le : ∀ r ∈ srtT R, 0 ≤ r.id ∧ r.id ≤ 16 := fun r m => w.le r (p.mem_iff.mp m)
  have few : (srtT R).length ≤ 14 := by rw [p.length_eq]; exact Nat.le_trans w.few hk
  have ent : ∀ r ∈ srtT R, r.es.length ≤ 28 ∧ ∀ e ∈ r.es, e.1 ∈ N ∧ e.2 ∈ (srtT R).map (·.id) := fun r m => by
    obtain ⟨h1, h2⟩ := w.ent r (p.mem_iff.mp m)
    exact ⟨by omega, fun e me => ⟨(h2 e me).1, (p.map (·.id)).mem_iff.mpr (h2 e me).2⟩⟩
  generalize srtT R = S at *
  rcases List.eq_nil_or_concat S with rfl | ⟨S0, t, rfl⟩
  · exact absurd rfl ne
  rw [List.concat_eq_append] at *
  refine ⟨S0, t, rfl, ?_, up, fun r m => ⟨(le r m).1, ?_⟩, by omega, by have := (le t (by simp)).2; omega, ent, gg⟩
  · cases hS : S0 ++ [t] with
    | nil => exact absurd hS ne
    | cons x xs =>
      rw [hS] at m0 up nd le
      rcases List.mem_cons.mp m0 with e | m0
      · exact ⟨a, es, xs, by rw [← e]⟩
      · rw [List.map_cons, List.pairwise_cons] at up
        have := up.1 0 (List.mem_map.mpr ⟨_, m0, rfl⟩)
        have := (le x (List.mem_cons_self ..)).1
        omega
  · rw [List.map_append, List.pairwise_append] at up0
    rcases List.mem_append.mp m with m | m
    · exact up0.2.2 r.id (List.mem_map.mpr ⟨r, m, rfl⟩) t.id (by simp)
    · rw [List.mem_singleton] at m; subst m; exact Int.le_refl _
def C_tree : FSpec := Ct (fun ss => ∃ ds NM many, ss = [.o true (.k ds), .d (.list (NM.map .str)), .d (.int many)] ∧ Fd ds ∧ NmOk NM ∧ 0 ≤ many ∧ many ≤ 13)
  fun ss r ss' => ∃ ds ds' NM many R last nx, ss = [.o true (.k ds), .d (.list (NM.map .str)), .d (.int many)] ∧ ss' = [.o true (.k ds'), .d (.list (NM.map .str)), .d (.int many)] ∧ Fd ds' ∧ r = .d (trD R nx) ∧ Wf NM R last 28 ∧ R.length ≤ 14 ∧ last < nx ∧ nx ≤ 100
theorem gr1 (a : Addr) : Gr [⟨0, a, false, []⟩] := gr0 a
section
variable {ds : List (Key × PyData)} {NM : List Str} {many : Int} {a0 : Addr} {R : List Tn} {k m : Nat} {x5 x6 x7 x8 x9 x10 x11 x12 : Option Sl}
/-- the rows, told in their order -/
theorem tree_4 {d : DEnds} (w : Wu NM R k m) (hk : k ≤ 14) (hm : m ≤ 28) (hf : Fd ds)
    (kk : ∀ ds' S last nx rest, Fd ds' → Wf NM S last 28 → S.length ≤ 14 → last < nx → nx ≤ 100 → d.rt (.d (trD S nx)) (some (.o true (.k ds')) :: some (.d (.list (NM.map .str))) :: some (.d (.int many)) :: rest)) :
    t_tree_4 C_draw d (gE ds NM many a0 R x5 x6 x7 x8 x9 x10 x11 x12) := by
  have few := w.few
  obtain ⟨S0, t, eS, wf⟩ := wu_wf w hk hm
  have p := srtT_perm R
  have ln : (srtT R).length ≤ 14 := by rw [p.length_eq]; omega
  unfold t_tree_4
  pv_short
  unfold t_tree_3
  pv_short
  refine Exists.intro _ (And.intro (show sortT [.k (R.map tK)] = some (.lst ((sortI (R.map (·.id))).map .int)) from ?_) ?_)
  · show ((numK ((R.map tK).map (·.1))).bind fun ns => if ns.length < 64 then some (Rv.lst ((sortI ns).map .int)) else none) = _
    rw [numK_K]
    exact if_pos (by rw [List.length_map]; omega)
  pv_short
  rw [← srtT_ids, List.map_map]
  show wForR (gN 9) (t_tree_2 C_draw) ((srtT R).map fun r => .int r.id) _ (gE ds NM many a0 R x5 x6 x7 x8 x9 x10 x11 (some (.o false (.l []))))
  refine for_of (g := fun r : Tn => .int r.id) (xs := srtT R) (I := fun pre δ => ∃ x9, δ = gE ds NM many a0 R x5 x6 x7 x8 x9 x10 x11 (some (.o false (.l (pre.map rD))))) (fun δ hI => ?_) (fun pre r post δ Q e hI hQ => ?_) ⟨x9, rfl⟩
  · obtain ⟨x9, rfl⟩ := hI
    show t_tree_1 C_draw _ _
    unfold t_tree_1
    pv_short
    have l0 : 0 < (srtT R).length := by rw [eS, List.length_append]; simp
    have e1 : idxF (.d (.list ((srtT R).map rD))) (.d (.int (-1))) = some (.val (rD t)) := by rw [eS]; exact last_at1 (g := rD) S0 t
    refine Exists.intro _ (And.intro e1 ?_)
    pv_short
    refine draw_at (i := 0) (m := 3) rfl hf (by decide) (by decide) (fun Q h => h) fun ds1 j hf1 h0 h1 => ?_
    pv_short
    have hb := wf.big
    refine kk ds1 (srtT R) t.id (t.id + 1 + j) _ hf1 wf ln (by omega) (by omega)
  · obtain ⟨x9, rfl⟩ := hI
    have mr : r ∈ R := p.mem_iff.mp (by rw [e]; simp)
    obtain ⟨i, hi⟩ := List.mem_iff_getElem?.mp mr
    have ent := (w.ent r mr).1
    have lp : pre.length ≤ 14 := by
      have := congrArg List.length e
      rw [List.length_append] at this
      omega
    pv_short
    unfold t_tree_2
    pv_short
    refine Exists.intro _ (And.intro (show ((some (lookD (R.map tK) (.inl r.id : Key))).bind id).map Rv.val = _ by rw [look_K w.nd mr]; rfl) ?_)
    pv_short
    refine Exists.intro _ (And.intro (child_T3 w.nd hi) ?_)
    refine Exists.intro (Vw.k (r.es.map kE)) (And.intro ?_ ?_)
    · show (alAt _ r.a 3 [.inl r.id]).bind OT.vw = _
      rw [al_T3 (b := false) w.nd hi rfl]
      exact vw_U r
    pv_short
    refine ⟨al_pairs r.es, fun q hq => ?_, by rw [List.length_map]; omega, ?_⟩
    · obtain ⟨e, _, rfl⟩ := List.mem_map.mp hq
      exact Nat.zero_le _
    pv_short
    refine And.intro (by rw [List.length_map, sizeLine_eq]; omega) ?_
    refine hQ _ ⟨some (.d (.int r.id)), ?_⟩
    rw [List.map_append]
    rfl
end
theorem tree_ok (ss : List Sl) (Ex : XP) (P : DL.R → List Sl → Prop) (h : C_tree ss Ex P) : fnW 3 13 (w_tree C_draw) ss Ex P := by
  obtain ⟨⟨ds, NM, many, rfl, hf, hN, t0, t1⟩, k⟩ := h
  have kk := fun ds' R last nx (q1 : Fd ds') q2 q3 q4 q5 => k (.d (trD R nx)) [.o true (.k ds'), .d (.list (NM.map .str)), .d (.int many)] ⟨ds, ds', NM, many, R, last, nx, rfl, rfl, q1, rfl, q2, q3, q4, q5⟩
  clear k
  refine And.intro rfl ?_
  rw [w_tree_eq]
  unfold t_tree_23
  pv_short
  intro a b
  pv_short
  show t_tree_22 C_draw (dEnd [.o true (.k ds), .d (.list (NM.map .str)), .d (.int many)] Ex P) (gE ds NM many b [⟨0, a, false, []⟩] none none none none none none none none)
  unfold t_tree_22
  pv_short
  refine draw_at (i := 0) (m := 3) rfl hf (by decide) (by decide) (fun Q h => h) fun ds1 j hf1 h0 h1 => ?_
  pv_short
  refine And.intro ⟨by decide, by decide, by omega, by omega⟩ ?_
  have hP : PoolOk (rgI 1 (many + 2 + j)) := by
    unfold rgI
    refine ⟨by rw [List.length_map, List.length_range]; omega, by rw [List.length_map, List.length_range]; omega, fun d m => ?_⟩
    obtain ⟨n, mn, rfl⟩ := List.mem_map.mp m
    rw [List.mem_range] at mn
    exact ⟨_, rfl, by omega, by omega⟩
  generalize rgI 1 (many + 2 + j) = pl at hP
  pv_short
  unfold t_tree_21
  pv_short
  refine draw_at (i := 0) (m := 2) rfl hf1 (by decide) (by decide) (fun Q h => h) fun ds2 dp hf2 h02 h12 => ?_
  pv_short
  unfold t_tree_20
  pv_short
  refine And.intro ⟨(by show -(2 ^ 62) ≤ (0 : Int); decide), (by show (0 : Int) < 2 ^ 62; decide), (by show -(2 ^ 62) ≤ many; omega), (by show many < 2 ^ 62; omega)⟩ ?_
  have hlr : (List.range (many - 0).toNat).length ≤ 13 := by rw [List.length_range]; omega
  refine for_of (g := fun i : Nat => .int (0 + (i : Int))) (xs := List.range (many - 0).toNat) (I := fun pre δ => ∃ R ds' x7 x8 x9 x10 x11, δ = gE ds' NM many b R (some (.o false (.l pl))) (some (.d (.int dp))) x7 x8 x9 x10 x11 none ∧ Wu NM R (pre.length + 1) pre.length ∧ Fd ds' ∧ Un1 x7 ∧ Nf x8 ∧ Un1 x9 ∧ Un1 x10 ∧ Un1 x11) ?_ ?_ ⟨[⟨0, a, false, []⟩], ds2, none, none, none, none, none, rfl, ?_, hf2, .inl rfl, nf_none, .inl rfl, .inl rfl, .inl rfl⟩
  · rintro δ ⟨R, ds', x7, x8, x9, x10, x11, rfl, w, hf', u7, u8, u9, u10, u11⟩
    generalize hm : (List.range (many - 0).toNat).length = m at w hlr
    show t_tree_10 C_draw _ _
    unfold t_tree_10 wSeq wFor
    refine Exists.intro _ (And.intro rfl fun a9 => ?_)
    refine kinds_lc (a := a9) true "sheet" rfl w.nd (by have := w.few; omega) u9 ?_
    refine ⟨rfl, gE_only nf_l nf_d u7.nf u8 u9.nf u10.nf u11.nf nf_none, rfl, ?_⟩
    have fw := w.few
    have ls : (dS R true).length ≤ 14 := Nat.le_trans (List.length_filter_le _ _) (by omega)
    refine Exists.intro _ (And.intro rfl ?_)
    show wForR (gN 9) (t_tree_9 C_draw) ((dS R true).map fun r => .int r.id) _ (gE ds' NM many b R (some (.o false (.l pl))) (some (.d (.int dp))) x7 x8 x9 x10 x11 none)
    refine for_of (g := fun r : Tn => .int r.id) (xs := dS R true) (I := fun pre δ => ∃ R' ds' x8 x9 x10 x11, δ = gE ds' NM many b R' (some (.o false (.l pl))) (some (.d (.int dp))) x7 x8 x9 x10 x11 none ∧ Wu NM R' 14 (m + pre.length) ∧ R'.map (fun q => (q.id, q.sh)) = R.map (fun q => (q.id, q.sh)) ∧ Fd ds' ∧ Nf x8 ∧ Un1 x9 ∧ Un1 x10 ∧ Un1 x11) ?_ ?_ ⟨R, ds', x8, x9, x10, x11, rfl, w.upto (by omega) (by simp), rfl, hf', u8, u9, u10, u11⟩
    · rintro δ ⟨R', ds', x8, x9, x10, x11, rfl, w', eR, hf', u8, u9, u10, u11⟩
      refine tree_4 w' (Nat.le_refl _) (by omega) hf' fun ds' S last nx rest f' wf' h14 h1 h2 => ?_
      refine Exists.intro _ (And.intro rfl ?_)
      exact Exists.intro _ (And.intro rfl (kk ds' S last nx f' wf' h14 h1 h2))
    · rintro pre r post δ Q e ⟨R', ds', x8, x9, x10, x11, rfl, w', eR, hf', u8, u9, u10, u11⟩ hQ
      have mr : r ∈ dS R true := by rw [e]; simp
      obtain ⟨mr, hs⟩ := List.mem_filter.mp mr
      have lp : pre.length ≤ 13 := by
        have := congrArg List.length e
        rw [List.length_append, List.length_cons] at this
        omega
      have mp : (r.id, r.sh) ∈ R'.map (fun q => (q.id, q.sh)) := by rw [eR]; exact List.mem_map.mpr ⟨r, mr, rfl⟩
      obtain ⟨s0, ms, es⟩ := List.mem_map.mp mp
      have e1 : s0.id = r.id := congrArg Prod.fst es
      have e2 : s0.sh = r.sh := congrArg Prod.snd es
      pv_short
      rw [← e1]
      refine link_9 hN ms (by rw [e2]; simpa using hs) w' (by omega) (by omega) hf' u7 u10 u11 (.inl rfl) fun ds' R2 x8 x10 x11 f' w2 e' u8 u10 u11 => hQ _ ⟨R2, ds', x8, _, x10, x11, rfl, ?_, e'.trans eR, f', u8, un_d, u10, u11⟩
      rw [List.length_append, List.length_singleton, ← Nat.add_assoc]; exact w2
  · rintro pre i post δ Q e ⟨R, ds', x7, x8, x9, x10, x11, rfl, w, hf', u7, u8, u9, u10, u11⟩ hQ
    have hp : pre.length ≤ 12 := by
      have := congrArg List.length e
      rw [List.length_append, List.length_cons] at this
      omega
    pv_short
    refine turn_19 hP hN w (by omega) (by omega) hf' un_d u9 u10 u11 (.inl rfl) fun ds' R' x8 x9 x10 x11 f' w' u8 u9 u10 u11 => hQ _ ⟨R', ds', _, x8, x9, x10, x11, rfl, ?_, f', un_d, u8, u9, u10, u11⟩
    rw [List.length_append]; exact w'
  · refine ⟨⟨a, [], [], rfl⟩, by simp, fun r hr => ?_, by simp, fun r hr => ?_, gr1 a⟩
    · rw [List.mem_singleton] at hr; subst hr; exact ⟨Int.le_refl _, by show (0 : Int) ≤ 16; decide⟩
    · rw [List.mem_singleton] at hr; subst hr; exact ⟨Nat.le_refl _, fun e he => by cases he⟩
end V05
set_option Elab.async false
set_option linter.all false
set_option maxRecDepth 100000
set_option maxHeartbeats 1000000
set_option autoImplicit false
set_option exponentiation.threshold 20000
namespace V05
open PySem PySem.Spec PyProof.Rows L2 DL
local macro_rules | `(tactic| pv_short) => `(tactic| repeat first | refine Exists.intro _ (And.intro rfl ?_) | refine ifT rfl ?_ | refine ifF rfl ?_ | refine Exists.intro _ (And.intro (if_pos (by first | assumption | decide | exact ⟨by assumption, by decide⟩ | exact ⟨by assumption, by assumption⟩)) ?_) | refine And.intro (show List.length _ ≤ sizeLine from Nat.le_of_ble_eq_true rfl) ?_ | refine And.intro (Nat.le_of_ble_eq_true rfl) ?_)
structure WayN (NM : List Str) (w : List Str) : Prop where
  few : w.length ≤ 4
  ok : ∀ x ∈ w, x ∈ NM
theorem WayN.w {NM : List Str} {w : List Str} (h : WayN NM w) (hN : NmOk NM) : WayOk w := ⟨h.few, fun x m => nm_n6 hN x (h.ok x m)⟩
def C_way : FSpec := Ct (fun ss => ∃ ds R last nx NM least, ss = [.o true (.k ds), .d (trD R nx), .d (.list (NM.map .str)), .d (.int least)] ∧ Fd ds ∧ NmOk NM ∧ Wf NM R last 28 ∧ R.length ≤ 14 ∧ 0 ≤ least ∧ least ≤ 1)
  fun ss r ss' => ∃ ds ds' R nx NM least w, ss = [.o true (.k ds), .d (trD R nx), .d (.list (NM.map .str)), .d (.int least)] ∧ ss' = [.o true (.k ds'), .d (trD R nx), .d (.list (NM.map .str)), .d (.int least)] ∧ Fd ds' ∧ r = .d (wD w) ∧ WayN NM w ∧ least ≤ (w.length : Int)
abbrev yE (ds : List (Key × PyData)) (R : List Tn) (nx : Int) (NM : List Str) (least h : Int) (w : List Str) (x7 x8 x9 x10 : Option Sl) : SEnv := [some (.o true (.k ds)), some (.d (trD R nx)), some (.d (.list (NM.map .str))), some (.d (.int least)), some (.o false (.k (R.map kW))), some (.d (.int h)), some (.o false (.l (w.map .str))), x7, x8, x9, x10]
theorem look_es {NM : List Str} {R : List Tn} {last : Int} {m : Nat} (w : Wf NM R last m) (h : Int) : ∃ es : List (Str × Int), (lookD (R.map kW) (.inl h : Key)).getD (.tuple []) = .tuple (es.map pE) ∧ (∀ e ∈ es, e.1 ∈ NM ∧ e.2 ∈ R.map (·.id)) ∧ es.length ≤ m := by
  by_cases c : h ∈ R.map (·.id)
  · obtain ⟨r, mr, rfl⟩ := List.mem_map.mp c
    refine ⟨srt r.es, by rw [look_W w.nd mr]; rfl, fun e me => (w.ent r mr).2 e ((srt_perm _).mem_iff.mp me), by rw [(srt_perm _).length_eq]; exact (w.ent r mr).1⟩
  · refine ⟨[], ?_, fun e me => absurd me List.not_mem_nil, Nat.zero_le _⟩
    have : lookD (R.map kW) (.inl h : Key) = none := by
      unfold lookD
      rw [List.find?_eq_none.mpr fun q hq => ?_]; rfl
      obtain ⟨r, mr, rfl⟩ := List.mem_map.mp hq
      simpa using inl_ne (a := r.id) (b := h) fun e => c (e ▸ List.mem_map.mpr ⟨r, mr, rfl⟩)
    rw [this]; rfl
theorem es_sh {NM : List Str} {R : List Tn} {last : Int} {es : List (Str × Int)} (hN : NmOk NM) (w : Wf NM R last 28) (h : ∀ e ∈ es, e.1 ∈ NM ∧ e.2 ∈ R.map (·.id)) : SeqAt.shaped (.tuple (es.map pE)) = true := by
  refine nd_shaped (N := 100) (D := 2) (nd_tup fun y m => ?_) (by decide)
  obtain ⟨e, me, rfl⟩ := List.mem_map.mp m
  obtain ⟨h1, h2⟩ := h e me
  have := id_small w h2
  exact nd_tup (nds_cons (nd_str (ok6 (nm_n6 hN _ h1))) (nds_cons (nd_int (by omega)) nds_nil))
section
variable {ds : List (Key × PyData)} {R : List Tn} {nx last least h : Int} {NM w : List Str} {x7 x8 x9 x10 : Option Sl}
theorem way_5 {d : DEnds} {es : List (Str × Int)} (hN : NmOk NM) (wf : Wf NM R last 28) (hf : Fd ds) (he : ∀ e ∈ es, e.1 ∈ NM ∧ e.2 ∈ R.map (·.id)) (le : es.length ≤ 28) (lw : w.length ≤ 3) (hw : ∀ x ∈ w, x ∈ NM)
    (kk : ∀ ds' nm h' x10, Fd ds' → nm ∈ NM → d.nx (yE ds' R nx NM least h' (w ++ [nm]) x7 x8 (some (.d (.tuple (es.map pE)))) x10)) :
    t_way_5 C_draw d (yE ds R nx NM least h w x7 x8 (some (.d (.tuple (es.map pE)))) x10) := by
  have lN := hN.len
  have two : ∀ {ds1 : List (Key × PyData)} {nm : Str} {h' : Int}, Fd ds1 → nm ∈ NM → t_way_2 C_draw d (yE ds1 R nx NM least h' w x7 x8 (some (.d (.tuple (es.map pE)))) (some (.d (.str nm)))) := fun {ds1 nm h'} hf1 mn => by
    unfold t_way_2
    pv_short
    refine And.intro (by rw [List.length_map, sizeLine_eq]; omega) ?_
    have kk := kk ds1 nm h' (some (.d (.str nm))) hf1 mn
    unfold yE at kk
    rw [List.map_append] at kk
    exact kk
  have other : ∀ {ds1 : List (Key × PyData)}, Fd ds1 → t_way_4 C_draw { d with nx := t_way_2 C_draw d } (yE ds1 R nx NM least h w x7 x8 (some (.d (.tuple (es.map pE)))) x10) := fun {ds1} hf1 => by
    unfold t_way_4
    pv_short
    refine draw_at (i := 0) (m := (((NM.map PyData.str).length : Nat) : Int)) rfl hf1 (by rw [List.length_map]; omega) (by rw [List.length_map]; exact log_s (by omega)) (fun Q h => by pv_short; exact h) fun ds3 j3 hf3 h03 h13 => ?_
    rw [List.length_map] at h13
    pv_short
    obtain ⟨nm, mn, en⟩ := idx_map (f := fun s : Str => PyData.str s) (xs := NM) h03 h13
    refine Exists.intro _ (And.intro en ?_)
    pv_short
    exact two hf3 mn
  unfold t_way_5
  pv_short
  refine Exists.intro _ (And.intro (eq_shaped (neg := true) (d := .tuple (es.map pE)) (e := .tuple []) (es_sh hN wf he) (by rfl)) ?_)
  pv_short
  refine ite2 (fun e => ?_) (fun e => ?_)
  · have ne : es ≠ [] := fun z => by rw [z] at e; exact absurd e (by decide)
    have l1 := List.length_pos_iff.mpr ne
    pv_short
    refine draw_at (i := 0) (m := 5) rfl hf (by decide) (by decide) (fun Q h => h) fun ds1 j1 hf1 h01 h11 => ?_
    pv_short
    show (if decide ((0 : Int) < j1) = true then _ else _)
    refine ite2 (fun e => ?_) (fun e => ?_)
    · unfold t_way_3
      pv_short
      refine draw_at (i := 0) (m := (((es.map pE).length : Nat) : Int)) rfl hf1 (by rw [List.length_map]; omega) (by rw [List.length_map]; exact log_s (by omega)) (fun Q h => by pv_short; exact h) fun ds3 j3 hf3 h03 h13 => ?_
      rw [List.length_map] at h13
      pv_short
      obtain ⟨n, rfl⟩ := Int.eq_ofNat_of_zero_le h03
      have hn : n < es.length := by omega
      refine Exists.intro _ (And.intro (show idxF (.d (.tuple (es.map pE))) (.d (.int (n : Int))) = some (.val (pE es[n])) from ?_) ?_)
      · show (atI (es.map pE) (n : Int)).map Rv.val = _
        rw [atI_nat (v := pE es[n]) (by rw [List.getElem?_map, List.getElem?_eq_getElem hn]; rfl)]; rfl
      pv_short
      exact two hf3 (he _ (List.getElem_mem hn)).1
    · exact other hf1
  · exact other hf
theorem way_8 {d : DEnds} {k : Int} (hN : NmOk NM) (wf : Wf NM R last 28) (hf : Fd ds) (lw : w.length ≤ 3) (hw : ∀ x ∈ w, x ∈ NM)
    (kk : ∀ ds' nm h' x9 x10, Fd ds' → nm ∈ NM → d.nx (yE ds' R nx NM least h' (w ++ [nm]) x7 (some (.d (.int k))) x9 x10))
    (kb : ∀ ds' x9 x10, Fd ds' → least ≤ k → d.bk (yE ds' R nx NM least h w x7 (some (.d (.int k))) x9 x10)) :
    t_way_8 C_draw d (yE ds R nx NM least h w x7 (some (.d (.int k))) x9 x10) := by
  obtain ⟨es, ee, he, le⟩ := look_es wf h
  unfold t_way_8
  pv_short
  show t_way_7 C_draw d (yE ds R nx NM least h w x7 (some (.d (.int k))) (some (.d ((lookD (R.map kW) (.inl h : Key)).getD (.tuple [])))) x10)
  rw [ee]
  have rest : ∀ {ds1 : List (Key × PyData)}, Fd ds1 → t_way_5 C_draw d (yE ds1 R nx NM least h w x7 (some (.d (.int k))) (some (.d (.tuple (es.map pE)))) x10) := fun hf1 =>
    way_5 hN wf hf1 he le lw hw fun ds' nm h' x10 f' mn => kk ds' nm h' _ x10 f' mn
  unfold t_way_7
  pv_short
  refine Exists.intro _ (And.intro (eq_shaped (neg := false) (d := .tuple (es.map pE)) (e := .tuple []) (es_sh hN wf he) (by rfl)) ?_)
  pv_short
  refine ite2 (fun e => ?_) (fun e => ?_)
  · pv_short
    show (if decide (least ≤ k) = true then _ else _)
    refine ite2 (fun e2 => ?_) (fun e2 => ?_)
    · pv_short
      refine draw_at (i := 0) (m := 4) rfl hf (by decide) (by decide) (fun Q h => h) fun ds1 j1 hf1 h01 h11 => ?_
      pv_short
      show (if decide ((0 : Int) < j1) = true then _ else _)
      refine ite2 (fun e => ?_) (fun e => ?_)
      · unfold t_way_6
        exact kb ds1 _ _ hf1 (of_decide_eq_true e2)
      · exact rest hf1
    · exact rest hf
  · exact rest hf
end
theorem way_ok (ss : List Sl) (Ex : XP) (P : DL.R → List Sl → Prop) (h : C_way ss Ex P) : fnW 4 11 (w_way C_draw) ss Ex P := by
  obtain ⟨⟨ds, R, last, nx, NM, least, rfl, hf, hN, w, l14, t0, t1⟩, k⟩ := h
  have kk := fun ds' p (q1 : Fd ds') q2 q3 => k (.d (wD p)) [.o true (.k ds'), .d (trD R nx), .d (.list (NM.map .str)), .d (.int least)] ⟨ds, ds', R, nx, NM, least, p, rfl, rfl, q1, rfl, q2, q3⟩
  clear k
  refine And.intro rfl ?_
  rw [w_way_eq]
  unfold t_way_10
  pv_short
  rw [show R.map rD = R.map fun r => .tuple [.int r.id, kS r.sh, .tuple ((srt r.es).map pE)] from List.map_congr_left fun r _ => rD_eq r]
  refine lc_of (g := fun r : Tn => .tuple [.int r.id, kS r.sh, .tuple ((srt r.es).map pE)]) (xs := R) (δf := _) (fun _ => true) (fun r => .tuple [.int r.id, .tuple ((srt r.es).map pE)]) rfl (by rw [sizeLine_eq]; simp only [List.length_nil]; omega) (fun r mr Q Q' g1 g2 => ?_) fun δ' h' => ?_
  · pv_short
    exact g1 rfl _ rfl
  rw [List.nil_append, h', show R.filter (fun _ => true) = R from List.filter_eq_self.mpr fun _ _ => rfl]
  pv_short
  refine Exists.intro _ (And.intro (show (pairsD (R.map fun r => .tuple [.int r.id, .tuple ((srt r.es).map pE)])).map (fun kvs => Rv.dk (mergeD [] kvs)) = some (.dk (R.map kW)) by rw [pairs_W]; show some (Rv.dk (mergeD [] (R.map kW))) = _; rw [mergeD_new (acc := []) (kW_nd w.nd)]; rfl) ?_)
  pv_short
  unfold t_way_9
  pv_short
  refine draw_at (i := 0) (m := 5) rfl hf (by decide) (by decide) (fun Q h => h) fun ds1 j hf1 h0 h1 => ?_
  pv_short
  have hM : (if j > least then j else least) = max least j := by split <;> omega
  rw [hM]
  refine And.intro ⟨(by show -(2 ^ 62) ≤ (0 : Int); decide), (by show (0 : Int) < 2 ^ 62; decide), (by show -(2 ^ 62) ≤ max least j; omega), (by show max least j < 2 ^ 62; omega)⟩ ?_
  have hlr : (List.range (max least j - 0).toNat).length ≤ 4 ∧ least ≤ ((List.range (max least j - 0).toNat).length : Int) := by rw [List.length_range]; omega
  rw [show trD R nx = trD R nx from rfl]
  have last : ∀ ds' h' w' x7 x8 x9 x10, Fd ds' → w'.length ≤ 4 → (∀ x ∈ w', x ∈ NM) → least ≤ (w'.length : Int) → t_way_1 C_draw (dEnd [.o true (.k ds), .d (trD R nx), .d (.list (NM.map .str)), .d (.int least)] Ex P) (yE ds' R nx NM least h' w' x7 x8 x9 x10) := fun ds' h' w' x7 x8 x9 x10 f' l' o' e' => by
    unfold t_way_1
    pv_short
    exact kk ds' w' f' ⟨l', o'⟩ e'
  refine for_of (g := fun i : Nat => .int (0 + (i : Int))) (xs := List.range (max least j - 0).toNat) (I := fun pre δ => ∃ ds' h' w' x7 x8 x9 x10, δ = yE ds' R nx NM least h' w' x7 x8 x9 x10 ∧ Fd ds' ∧ w'.length = pre.length ∧ ∀ x ∈ w', x ∈ NM) ?_ ?_ ⟨ds1, 0, [], none, none, none, none, rfl, hf1, rfl, fun x m => absurd m List.not_mem_nil⟩
  · rintro δ ⟨ds', h', w', x7, x8, x9, x10, rfl, f', l', o'⟩
    exact last ds' h' w' x7 x8 x9 x10 f' (by omega) o' (by omega)
  · rintro pre i post δ Q e ⟨ds', h', w', x7, x8, x9, x10, rfl, f', l', o'⟩ hQ
    have hp : pre.length ≤ 3 ∧ i = pre.length := by
      have h1 := congrArg List.length e
      rw [List.length_append, List.length_cons] at h1
      have h2 : (List.range (max least j - 0).toNat)[pre.length]? = some i := by rw [e, List.getElem?_append_right (Nat.le_refl _), Nat.sub_self]; rfl
      rw [List.getElem?_range (by rw [List.length_range] at h1; omega)] at h2
      exact ⟨by omega, (Option.some.inj h2).symm⟩
    pv_short
    refine way_8 hN w f' (by omega) o' (fun ds2 nm h2 x9 x10 f2 mn => hQ _ ⟨ds2, h2, w' ++ [nm], _, _, x9, x10, rfl, f2, by rw [List.length_append, List.length_append, l']; rfl, fun x m => ?_⟩) fun ds2 x9 x10 f2 hk => last ds2 h' w' _ _ x9 x10 f2 (by omega) o' (by omega)
    rcases List.mem_append.mp m with m | m
    · exact o' x m
    · rw [List.mem_singleton] at m; subst m; exact mn
end V05
set_option Elab.async false
set_option linter.all false
set_option maxRecDepth 100000
set_option maxHeartbeats 1000000
set_option autoImplicit false
set_option exponentiation.threshold 20000
namespace V05
open PySem PySem.Spec PyProof.Rows L2 DL
local macro_rules | `(tactic| pv_short) => `(tactic| repeat first | refine Exists.intro _ (And.intro rfl ?_) | refine ifT rfl ?_ | refine ifF rfl ?_ | refine Exists.intro _ (And.intro (if_pos (by first | assumption | decide | exact ⟨by assumption, by decide⟩ | exact ⟨by assumption, by assumption⟩)) ?_) | refine And.intro (show List.length _ ≤ sizeLine from Nat.le_of_ble_eq_true rfl) ?_ | refine And.intro (Nat.le_of_ble_eq_true rfl) ?_)
theorem cut_take {α : Type} (L : List α) (k : Nat) : cutL L none (some (k : Int)) = L.take k := by
  unfold cutL
  rw [HT.sIx_none, HT.sIx_nat, List.drop_zero, Nat.sub_zero]
  by_cases h : k ≤ L.length
  · rw [Nat.min_eq_left h]
  · rw [Nat.min_eq_right (by omega), List.take_length, List.take_of_length_le (by omega)]
theorem cut_dl {α : Type} (L : List α) : cutL L none (some (-1)) = L.dropLast := by
  unfold cutL
  have e1 : HT.sIx L.length L.length (some (-1)) = L.length - 1 := by
    unfold HT.sIx
    simp only
    rw [if_pos (by decide)]
    omega
  rw [HT.sIx_none, e1, List.drop_zero, Nat.sub_zero, List.dropLast_eq_take]
theorem wD_take (w : List Str) (k : Nat) (nm : Str) : PyData.tuple (cutL (w.map PyData.str) none (some (k : Int)) ++ [.str nm]) = wD (w.take k ++ [nm]) := by
  rw [cut_take, ← List.map_take]
  show _ = PyData.tuple ((w.take k ++ [nm]).map .str)
  rw [List.map_append]; rfl
theorem wD_dl (w : List Str) (nm : Str) : PyData.tuple (cutL (w.map PyData.str) none (some (-1)) ++ [.str nm]) = wD (w.dropLast ++ [nm]) := by
  rw [cut_dl, ← List.map_dropLast]
  show _ = PyData.tuple ((w.dropLast ++ [nm]).map .str)
  rw [List.map_append]; rfl
theorem wD_app4 (w : List Str) (nm : Str) : PyData.tuple (cutL (w.map PyData.str ++ [.str nm]) none (some (4 : Int))) = wD ((w ++ [nm]).take 4) := by
  show PyData.tuple (cutL _ none (some ((4 : Nat) : Int))) = _
  rw [cut_take, show w.map PyData.str ++ [.str nm] = (w ++ [nm]).map .str by rw [List.map_append]; rfl, ← List.map_take]
theorem WayN.snoc {NM w : List Str} {nm : Str} (h : ∀ x ∈ w, x ∈ NM) (l : w.length ≤ 3) (hn : nm ∈ NM) : WayN NM (w ++ [nm]) :=
  ⟨by rw [List.length_append, List.length_singleton]; omega, fun x m => by
    rcases List.mem_append.mp m with m | m
    · exact h x m
    · rw [List.mem_singleton] at m; subst m; exact hn⟩
theorem WayN.take3 {NM w : List Str} {nm : Str} (h : WayN NM w) (hn : nm ∈ NM) : WayN NM (w.take 3 ++ [nm]) := WayN.snoc (fun x m => h.ok x (List.mem_of_mem_take m)) (by rw [List.length_take]; omega) hn
theorem WayN.dl {NM w : List Str} {nm : Str} (h : WayN NM w) (hn : nm ∈ NM) : WayN NM (w.dropLast ++ [nm]) := WayN.snoc (fun x m => h.ok x ((List.dropLast_sublist w).mem m)) (by rw [List.length_dropLast]; have := h.few; omega) hn
theorem WayN.app4 {NM w : List Str} {nm : Str} (h : WayN NM w) (hn : nm ∈ NM) : WayN NM ((w ++ [nm]).take 4) ∧ (w ++ [nm]).take 4 ≠ [] := by
  refine ⟨⟨by rw [List.length_take]; omega, fun x m => ?_⟩, fun z => ?_⟩
  · rcases List.mem_append.mp (List.mem_of_mem_take m) with m | m
    · exact h.ok x m
    · rw [List.mem_singleton] at m; subst m; exact hn
  · have := congrArg List.length z
    rw [List.length_take, List.length_append, List.length_singleton, List.length_nil] at this
    omega
theorem map_str_inj {a b : List Str} (h : a.map PyData.str = b.map PyData.str) : a = b := (List.map_inj_right fun x y h => PyData.str.inj h).mp h
theorem back_4 {δ : SEnv} {i : Nat} {b : Bool} {c c' : Cont} {s s2 s3 : Sl} {d e f : PyData} (h : δ[i]? = some (some (.o b c))) (hs : c.simple = true) (hs' : c'.simple = true) : back δ (DL.clear δ [.o i, .d d, .d e, .d f]) [.o i, .d d, .d e, .d f] [.o true c', s, s2, s3] = some (δ.set i (some (.o b c'))) := by
  simp only [back, DL.clear, h, hs, hs']
  simp
theorem way_at {δ : SEnv} {ds : List (Key × PyData)} {b0 : Bool} {R : List Tn} {last nx least : Int} {NM : List Str} {wb : WE} {Ex : XP} {P : DL.R → SEnv → Prop} (hf : Fd ds) (hN : NmOk NM) (w : Wf NM R last 28) (l14 : R.length ≤ 14) (t0 : 0 ≤ least) (t1 : least ≤ 1) (e0 : δ[0]? = some (some (.o b0 (.k ds)))) (e1 : δ[1]? = some (some (.d (trD R nx)))) (e2 : δ[2]? = some (some (.d (.list (NM.map .str))))) (hm : ∀ Q : DL.R → SEnv → Prop, Q (.d (.int least)) δ → wb Ex δ Q)
    (k : ∀ ds' p, Fd ds' → WayN NM p → least ≤ (p.length : Int) → P (.d (wD p)) (δ.set 0 (some (.o b0 (.k ds'))))) : wCall 4 C_way [true, false, false, false] (wCons (wVar 0) (wCons (wVar 1) (wCons (wVar 2) (wCons wb wNil)))) Ex δ P := by
  unfold wCall
  refine ⟨_, e0, _, rfl, ?_⟩
  refine ⟨.o 0, rfl, ?_⟩
  refine ⟨_, e1, _, rfl, ?_⟩
  refine ⟨_, rfl, ?_⟩
  refine ⟨_, e2, _, rfl, ?_⟩
  refine ⟨_, rfl, ?_⟩
  refine hm _ ?_
  refine ⟨.d (.int least), rfl, ?_⟩
  refine ⟨([.o 0, .d (trD R nx), .d (.list (NM.map .str)), .d (.int least)], δ), rfl, rfl, ?_, ?_⟩
  · show ([0] : List Nat).Nodup
    exact List.nodup_cons.mpr ⟨by simp, List.nodup_nil⟩
  refine ⟨[.o true (.k ds), .d (trD R nx), .d (.list (NM.map .str)), .d (.int least)], ?_, ⟨ds, R, last, nx, NM, least, rfl, hf, hN, w, l14, t0, t1⟩, fun r ss' q _ => ?_⟩
  · simp only [slsOf, slOf, e0]
    rfl
  · obtain ⟨ds1, ds', R', nx', NM', least', p, e3, e4, f', e5, q1, q2⟩ := q
    have e9 := e3
    simp only [List.cons.injEq, Sl.o.injEq, Cont.k.injEq, Sl.d.injEq, PyData.int.injEq, PyData.list.injEq, true_and, and_true] at e9
    obtain ⟨_, _, e6, e7⟩ := e9
    have e6 : NM = NM' := map_str_inj e6
    subst e6 e7 e4 e5
    exact ⟨_, back_4 e0 rfl rfl, k ds' p f' q1 q2⟩
def C_deed : FSpec := Ct (fun ss => ∃ ds R last nx, ∃ NM : List Str, ss = [.o true (.k ds), .d (trD R nx), .d (.list (NM.map .str))] ∧ Fd ds ∧ NmOk NM ∧ Wf NM R last 28 ∧ R.length ≤ 14)
  fun ss r ss' => ∃ ds ds' R nx x, ∃ NM : List Str, ss = [.o true (.k ds), .d (trD R nx), .d (.list (NM.map .str))] ∧ ss' = [.o true (.k ds'), .d (trD R nx), .d (.list (NM.map .str))] ∧ Fd ds' ∧ r = .d (De.D x) ∧ De.ok x
def wd9 : List Str := ["look", "list", "make", "drop", "link", "move", "swap", "move", "make"]
section
variable {ds : List (Key × PyData)} {R : List Tn} {nx last : Int} {NM : List Str}
abbrev dE (ds : List (Key × PyData)) (R : List Tn) (nx : Int) (NM : List Str) (x4 : Str) (p : List Str) (x5 x6 x7 : Option Sl) : SEnv := [some (.o true (.k ds)), some (.d (trD R nx)), some (.d (.list (NM.map .str))), some (.d (.str x4)), some (.d (wD p)), x5, x6, x7]
theorem deed_9 {d : DEnds} {x nm : Str} {p q : List Str} {wh : Int} (hn : nm ∈ NM) (hp : WayN NM p) (np : p ≠ []) (hq : WayN NM q) (nq : q ≠ [])
    (kk : ∀ q' δ', WayN NM q' → q' ≠ [] → δ' = dE ds R nx NM x p (some (.d (.int wh))) (some (.d (.str nm))) (some (.d (wD q'))) → d.rt (.d (.tuple [.str x, wD p, wD q'])) δ') :
    t_deed_9 C_way C_draw d (dE ds R nx NM x p (some (.d (.int wh))) (some (.d (.str nm))) (some (.d (wD q)))) := by
  have fin : ∀ q', WayN NM q' → q' ≠ [] → t_deed_1 C_way C_draw d (dE ds R nx NM x p (some (.d (.int wh))) (some (.d (.str nm))) (some (.d (wD q')))) := fun q' h1 h2 => by
    unfold t_deed_1
    pv_short
    exact kk q' _ h1 h2 rfl
  have f3 : ∀ q', WayN NM q' → q' ≠ [] → t_deed_3 C_way C_draw d (dE ds R nx NM x p (some (.d (.int wh))) (some (.d (.str nm))) (some (.d (wD q')))) := fun q' h1 h2 => by
    unfold t_deed_3
    pv_short
    show (if decide ((3 : Int) < wh) = true then _ else _)
    refine ite2 (fun e => ?_) (fun e => ?_)
    · unfold t_deed_2
      pv_short
      refine Exists.intro _ (And.intro (add_tup (xs := cutL (q'.map PyData.str) none (some ((3 : Nat) : Int))) (ys := [.str nm]) (by rw [cut_take, List.length_take, sizeLine_eq, List.length_singleton]; omega)) ?_)
      pv_short
      rw [wD_take]
      exact fin _ (h1.take3 hn) (by simp)
    · exact fin q' h1 h2
  have f5 : ∀ q', WayN NM q' → q' ≠ [] → t_deed_5 C_way C_draw d (dE ds R nx NM x p (some (.d (.int wh))) (some (.d (.str nm))) (some (.d (wD q')))) := fun q' h1 h2 => by
    unfold t_deed_5
    pv_short
    show (if PyData.eqv (.int wh) (.int 2) = true then _ else _)
    refine ite2 (fun e => ?_) (fun e => ?_)
    · unfold t_deed_4
      pv_short
      exact f3 p hp np
    · exact f3 q' h1 h2
  have f7 : ∀ q', WayN NM q' → q' ≠ [] → t_deed_7 C_way C_draw d (dE ds R nx NM x p (some (.d (.int wh))) (some (.d (.str nm))) (some (.d (wD q')))) := fun q' h1 h2 => by
    unfold t_deed_7
    pv_short
    show (if PyData.eqv (.int wh) (.int 1) = true then _ else _)
    refine ite2 (fun e => ?_) (fun e => ?_)
    · unfold t_deed_6
      pv_short
      refine Exists.intro _ (And.intro (add_tup (xs := cutL (p.map PyData.str) none (some (-1))) (ys := [.str nm]) (by have := hp.few; rw [cut_dl, List.length_dropLast, List.length_map, sizeLine_eq, List.length_singleton]; omega)) ?_)
      pv_short
      rw [wD_dl]
      exact f5 _ (hp.dl hn) (by simp)
    · exact f5 q' h1 h2
  unfold t_deed_9
  pv_short
  show (if PyData.eqv (.int wh) (.int 0) = true then _ else _)
  refine ite2 (fun e => ?_) (fun e => ?_)
  · unfold t_deed_8
    pv_short
    refine Exists.intro _ (And.intro (add_tup (xs := p.map PyData.str) (ys := [.str nm]) (by have := hp.few; rw [List.length_map, sizeLine_eq, List.length_singleton]; omega)) ?_)
    pv_short
    rw [wD_app4]
    exact f7 _ (hp.app4 hn).1 (hp.app4 hn).2
  · exact f7 q hq nq
end
theorem deed_ok (ss : List Sl) (Ex : XP) (P : DL.R → List Sl → Prop) (h : C_deed ss Ex P) : fnW 3 8 (w_deed C_way C_draw) ss Ex P := by
  obtain ⟨⟨ds, R, last, nx, NM, rfl, hf, hN, w, l14⟩, k⟩ := h
  have kk := fun ds' x (q1 : Fd ds') (q3 : De.ok x) => k (.d (De.D x)) _ ⟨ds, ds', R, nx, x, NM, rfl, rfl, q1, rfl, q3⟩
  clear k
  have lN := hN.len
  refine And.intro rfl ?_
  rw [w_deed_eq]
  unfold t_deed_19
  pv_short
  refine draw_at (i := 0) (m := 9) rfl hf (by decide) (by decide) (fun Q h => h) fun ds1 j1 hf1 h01 h11 => ?_
  pv_short
  obtain ⟨x, mx, ex⟩ := idx_map (f := PyData.str) (xs := wd9) h01 h11
  refine Exists.intro _ (And.intro ex ?_)
  pv_short
  revert x
  generalize hd0 : dEnd [.o true (.k ds), .d (trD R nx), .d (.list (NM.map .str))] Ex P = D0
  suffices H : ∀ x ∈ wd9, t_deed_18 C_way C_draw (dEnd [.o true (.k ds), .d (trD R nx), .d (.list (NM.map .str))] Ex P) [some (.o true (.k ds1)), some (.d (trD R nx)), some (.d (.list (NM.map .str))), some (.d (.str x)), none, none, none, none] from fun x mx _ => H x mx
  clear hd0 D0
  have shp : ∀ x ∈ wd9, SeqAt.shaped (.str x) = true := by decide +kernel
  have six : ∀ (x : Str) (bb : Bool), inT true (.d (.str x)) (.d (.tuple [.str "look", .str "list"])) = some (.val (.bool bb)) →
      (∀ ds2 p, Fd ds2 → WayN NM p → (bb = true → p ≠ []) → t_deed_17 C_way C_draw (dEnd [.o true (.k ds), .d (trD R nx), .d (.list (NM.map .str))] Ex P) (dE ds2 R nx NM x p none none none)) →
      t_deed_18 C_way C_draw (dEnd [.o true (.k ds), .d (trD R nx), .d (.list (NM.map .str))] Ex P) [some (.o true (.k ds1)), some (.d (trD R nx)), some (.d (.list (NM.map .str))), some (.d (.str x)), none, none, none, none] := by
    intro x bb e K
    unfold t_deed_18 wSeq wSet
    refine way_at (last := last) (least := if bb then 1 else 0) hf1 hN w l14 (by cases bb <;> decide) (by cases bb <;> decide) rfl rfl rfl (fun Q q => ?_) fun ds2 p f2 okp hp => ?_
    · pv_short
      refine Exists.intro _ (And.intro e ?_)
      cases bb
      · pv_short; exact q
      · pv_short; exact q
    · pv_short
      refine K ds2 p f2 okp fun z => ?_
      subst z
      intro e
      subst e
      exact absurd hp (by decide)
  have one : ∀ (x : Str) (bb : Bool), inT true (.d (.str x)) (.d (.tuple [.str "look", .str "list"])) = some (.val (.bool bb)) → inT false (.d (.str x)) (.d (.tuple [.str "look", .str "list", .str "drop"])) = some (.val (.bool true)) → (∀ p, WayOk p → (bb = true → p ≠ []) → De.ok (.one x p)) →
      t_deed_18 C_way C_draw (dEnd [.o true (.k ds), .d (trD R nx), .d (.list (NM.map .str))] Ex P) [some (.o true (.k ds1)), some (.d (trD R nx)), some (.d (.list (NM.map .str))), some (.d (.str x)), none, none, none, none] := by
    intro x bb e e2 K
    refine six x bb e fun ds2 p t2 okp hp => ?_
    unfold t_deed_17
    pv_short
    refine Exists.intro _ (And.intro e2 ?_)
    pv_short
    unfold t_deed_16
    pv_short
    exact kk ds2 (.one x p) t2 (K p (okp.w hN) hp)
  have two : ∀ (x : Str), inT true (.d (.str x)) (.d (.tuple [.str "look", .str "list"])) = some (.val (.bool true)) → inT false (.d (.str x)) (.d (.tuple [.str "look", .str "list", .str "drop"])) = some (.val (.bool false)) → PyData.eqv (.str x) (.str "make") = false → (x = "link" ∨ x = "move" ∨ x = "swap") →
      t_deed_18 C_way C_draw (dEnd [.o true (.k ds), .d (trD R nx), .d (.list (NM.map .str))] Ex P) [some (.o true (.k ds1)), some (.d (trD R nx)), some (.d (.list (NM.map .str))), some (.d (.str x)), none, none, none, none] := by
    intro x e e2 e3 K
    refine six x true e fun ds2 p t2 okp hp => ?_
    unfold t_deed_17
    pv_short
    refine Exists.intro _ (And.intro e2 ?_)
    pv_short
    unfold t_deed_15
    pv_short
    refine Exists.intro _ (And.intro (eq_str (neg := false) x "make") ?_)
    refine Exists.intro false (And.intro (by show isB (.d (.bool (PyData.eqv (.str x) (.str "make")))) = _; rw [e3]; rfl) ?_)
    pv_short
    unfold t_deed_11
    pv_short
    refine draw_at (i := 0) (m := 6) rfl t2 (by decide) (by decide) (fun Q h => h) fun ds3 wh hf3 h03 h13 => ?_
    pv_short
    refine draw_at (i := 0) (m := (((NM.map PyData.str).length : Nat) : Int)) rfl hf3 (by rw [List.length_map]; omega) (by rw [List.length_map]; exact log_s (by omega)) (fun Q h => by pv_short; exact h) fun ds4 j4 hf4 h04 h14 => ?_
    rw [List.length_map] at h14
    pv_short
    obtain ⟨nm, mn, en⟩ := idx_map (f := fun s : Str => PyData.str s) (xs := NM) h04 h14
    refine Exists.intro _ (And.intro en ?_)
    pv_short
    unfold t_deed_10
    pv_short
    refine way_at (last := last) (least := 1) hf4 hN w l14 (by decide) (by decide) rfl rfl rfl (fun Q q => q) fun ds5 p2 t5 okp2 hp2 => ?_
    pv_short
    refine deed_9 mn okp (hp rfl) okp2 (fun e => by subst e; exact absurd hp2 (by decide)) fun q' δ' h1 h2 eδ => ?_
    subst eδ
    pv_short
    exact kk ds5 (.two x p q') t5 ⟨okp.w hN, hp rfl, h1.w hN, h2, K⟩
  have mk : t_deed_18 C_way C_draw (dEnd [.o true (.k ds), .d (trD R nx), .d (.list (NM.map .str))] Ex P) [some (.o true (.k ds1)), some (.d (trD R nx)), some (.d (.list (NM.map .str))), some (.d (.str "make")), none, none, none, none] := by
    refine six "make" true (inT_w (by decide +kernel) (by decide +kernel) (by decide +kernel)) fun ds2 p t2 okp hp => ?_
    have fin : ∀ (D : DEnds), D.rt = (dEnd [.o true (.k ds), .d (trD R nx), .d (.list (NM.map .str))] Ex P).rt → ∀ ds3 p', Fd ds3 → WayN NM p' → p' ≠ [] → t_deed_12 C_way C_draw D (dE ds3 R nx NM "make" p (some (.d (wD p'))) none none) := fun D hD ds3 p' f3 h1 h2 => by
      unfold t_deed_12
      pv_short
      refine draw_at (i := 0) (m := 2) rfl f3 (by decide) (by decide) (fun Q h => h) fun ds4 j4 hf4 h04 h14 => ?_
      pv_short
      obtain ⟨b, _, eb⟩ := idx_map (f := kS) (xs := [false, true]) h04 h14
      refine Exists.intro _ (And.intro eb ?_)
      pv_short
      show D.rt _ _
      rw [hD]
      pv_short
      exact kk ds4 (.mk p' b) hf4 ⟨h1.w hN, h2⟩
    unfold t_deed_17
    pv_short
    refine Exists.intro _ (And.intro (inT_w (b := false) (x := "make") (ys := [.str "look", .str "list", .str "drop"]) (by decide +kernel) (by decide +kernel) (by decide +kernel)) ?_)
    pv_short
    unfold t_deed_15
    pv_short
    refine Exists.intro _ (And.intro (eq_str (neg := false) "make" "make") ?_)
    refine Exists.intro true (And.intro (by show isB (.d (.bool (PyData.eqv (.str "make") (.str "make")))) = _; rw [show PyData.eqv (.str "make") (.str "make") = true by decide +kernel]; rfl) ?_)
    pv_short
    unfold t_deed_14 x_deed_13
    pv_short
    refine draw_at (i := 0) (m := 3) rfl t2 (by decide) (by decide) (fun Q h => h) fun ds3 j3 hf3 h03 h13 => ?_
    pv_short
    show (if PyData.eqv (.int j3) (.int 0) = true then _ else _)
    refine ite2 (fun e => ?_) (fun e => ?_)
    · pv_short
      refine fin _ ?_ ds3 p hf3 okp (hp rfl); rfl
    · pv_short
      refine draw_at (i := 0) (m := (((NM.map PyData.str).length : Nat) : Int)) rfl hf3 (by rw [List.length_map]; omega) (by rw [List.length_map]; exact log_s (by omega)) (fun Q h => by pv_short; exact h) fun ds4 j4 hf4 h04 h14 => ?_
      rw [List.length_map] at h14
      pv_short
      obtain ⟨nm, mn, en⟩ := idx_map (f := fun s : Str => PyData.str s) (xs := NM) h04 h14
      refine Exists.intro _ (And.intro en ?_)
      pv_short
      refine Exists.intro _ (And.intro (add_tup (xs := cutL (p.map PyData.str) none (some ((3 : Nat) : Int))) (ys := [.str nm]) (by rw [cut_take, List.length_take, sizeLine_eq, List.length_singleton]; omega)) ?_)
      pv_short
      rw [wD_take]
      refine fin _ ?_ ds4 _ hf4 (okp.take3 mn) (by simp); rfl
  intro x mx
  simp only [wd9, List.mem_cons, List.not_mem_nil, or_false] at mx
  rcases mx with rfl | rfl | rfl | rfl | rfl | rfl | rfl | rfl | rfl
  · exact one _ false (inT_w (by decide +kernel) (by decide +kernel) (by decide +kernel)) (inT_w (by decide +kernel) (by decide +kernel) (by decide +kernel)) fun p h _ => ⟨h, .inl rfl⟩
  · exact one _ false (inT_w (by decide +kernel) (by decide +kernel) (by decide +kernel)) (inT_w (by decide +kernel) (by decide +kernel) (by decide +kernel)) fun p h _ => ⟨h, .inr (.inl rfl)⟩
  · exact mk
  · exact one _ true (inT_w (by decide +kernel) (by decide +kernel) (by decide +kernel)) (inT_w (by decide +kernel) (by decide +kernel) (by decide +kernel)) fun p h z => ⟨h, .inr (.inr ⟨rfl, z rfl⟩)⟩
  · exact two _ (inT_w (by decide +kernel) (by decide +kernel) (by decide +kernel)) (inT_w (by decide +kernel) (by decide +kernel) (by decide +kernel)) (by decide +kernel) (.inl rfl)
  · exact two _ (inT_w (by decide +kernel) (by decide +kernel) (by decide +kernel)) (inT_w (by decide +kernel) (by decide +kernel) (by decide +kernel)) (by decide +kernel) (.inr (.inl rfl))
  · exact two _ (inT_w (by decide +kernel) (by decide +kernel) (by decide +kernel)) (inT_w (by decide +kernel) (by decide +kernel) (by decide +kernel)) (by decide +kernel) (.inr (.inr rfl))
  · exact two _ (inT_w (by decide +kernel) (by decide +kernel) (by decide +kernel)) (inT_w (by decide +kernel) (by decide +kernel) (by decide +kernel)) (by decide +kernel) (.inr (.inl rfl))
  · exact mk
end V05
set_option Elab.async false
set_option linter.all false
set_option maxRecDepth 100000
set_option maxHeartbeats 1000000
set_option autoImplicit false
set_option exponentiation.threshold 20000
namespace V05
open PySem PySem.Spec PyProof.Rows L2 DL
local macro_rules | `(tactic| pv_short) => `(tactic| repeat first | refine Exists.intro _ (And.intro rfl ?_) | refine ifT rfl ?_ | refine ifF rfl ?_ | refine Exists.intro _ (And.intro (if_pos (by first | assumption | decide | exact ⟨by assumption, by decide⟩ | exact ⟨by assumption, by assumption⟩)) ?_) | refine And.intro (show List.length _ ≤ sizeLine from Nat.le_of_ble_eq_true rfl) ?_ | refine And.intro (Nat.le_of_ble_eq_true rfl) ?_)
theorem feed_at {δ : SEnv} {ns : List Int} {s : Sl} {Ex : XP} {P : DL.R → SEnv → Prop} (hi : δ[0]? = some (some s)) (hs : Scr ns s) (k : ∀ ds, Fd ds → P (.n (.k ds)) δ) : wCall 1 C_feed [false] (wCons (wVar 0) wNil) Ex δ P := by
  rcases hs with rfl | rfl
  · unfold wCall
    refine ⟨_, hi, _, rfl, _, rfl, ([.d _], δ), rfl, rfl, List.nodup_nil, ?_⟩
    refine ⟨[.d (.list (ns.map .int))], rfl, ⟨_, ns, rfl, .inl rfl⟩, fun r ss' ⟨e1, ds, e2, hf⟩ _ => ?_⟩
    subst e1 e2
    exact ⟨_, rfl, k ds hf⟩
  · unfold wCall
    refine ⟨_, hi, _, rfl, _, rfl, ([.w _], δ), rfl, rfl, List.nodup_nil, ?_⟩
    refine ⟨[.w (.list (ns.map .int))], rfl, ⟨_, ns, rfl, .inr rfl⟩, fun r ss' ⟨e1, ds, e2, hf⟩ _ => ?_⟩
    subst e1 e2
    exact ⟨_, rfl, k ds hf⟩
theorem names_at {δ : SEnv} {ds : List (Key × PyData)} {b : Bool} {Ex : XP} {P : DL.R → SEnv → Prop} (hi : δ[1]? = some (some (.o b (.k ds)))) (hf : Fd ds) (k : ∀ ds' NM, Fd ds' → NmOk NM → P (.n (.l (NM.map .str))) (δ.set 1 (some (.o b (.k ds'))))) : wCall 1 C_names [true] (wCons (wVar 1) wNil) Ex δ P := by
  unfold wCall
  refine ⟨_, hi, _, rfl, ?_⟩
  refine ⟨.o 1, rfl, ([.o 1], δ), rfl, rfl, ?_, ?_⟩
  · show ([1] : List Nat).Nodup
    exact List.nodup_cons.mpr ⟨by simp, List.nodup_nil⟩
  refine ⟨[.o true (.k ds)], ?_, ⟨ds, rfl, hf⟩, fun r ss' ⟨ds', NM, e1, f', hN, e2⟩ _ => ?_⟩
  · simp only [slsOf, slOf, hi]
    rfl
  · subst e1 e2
    exact ⟨_, back_1o hi rfl rfl, k ds' NM f' hN⟩
def IsN (NM : List Str) (x : Option Sl) : Prop := x = some (.o false (.l (NM.map .str))) ∨ x = some (.d (.list (NM.map .str)))
theorem set_get1 {δ : SEnv} {i j : Nat} {x : Option Sl} {y : Option Sl} (h : δ[i]? = some y) (hij : j ≠ i) : (δ.set j x)[i]? = some y := by
  rw [List.getElem?_set_ne hij]; exact h
theorem tree_at {δ : SEnv} {ds : List (Key × PyData)} {b : Bool} {NM : List Str} {x2 : Option Sl} {wm : WE} {Ex : XP} {P : DL.R → SEnv → Prop} (hi : δ[1]? = some (some (.o b (.k ds)))) (hj : δ[2]? = some x2) (h2 : IsN NM x2) (hN : NmOk NM)
    (hm : ∀ Q : DL.R → SEnv → Prop, (∀ ds' many, Fd ds' → 0 ≤ many → many ≤ 13 → Q (.d (.int many)) (δ.set 1 (some (.o b (.k ds'))))) → wm Ex δ Q)
    (k : ∀ ds' R last nx, Fd ds' → Wf NM R last 28 → R.length ≤ 14 → last < nx → nx ≤ 100 → P (.d (trD R nx)) ((δ.set 2 (some (.d (.list (NM.map .str))))).set 1 (some (.o b (.k ds'))))) :
    wCall 3 C_tree [true, false, false] (wCons (wVar 1) (wCons (wVar 2) (wCons wm wNil))) Ex δ P := by
  unfold wCall
  have l1 : 1 < δ.length := (List.getElem?_eq_some_iff.mp hi).1
  have l2 : 2 < δ.length := (List.getElem?_eq_some_iff.mp hj).1
  have fin : ∀ (ds1 : List (Key × PyData)) (many : Int) (δ2 : SEnv), Fd ds1 → 0 ≤ many → many ≤ 13 → δ2 = (δ.set 2 (some (.d (.list (NM.map .str))))).set 1 (some (.o b (.k ds1))) →
      (([.o 1, .d (.list (NM.map .str)), .d (.int many)] : List CA).length = 3 ∧ (([.o 1, .d (.list (NM.map .str)), .d (.int many)] : List CA).filterMap CA.ix).Nodup ∧ ob (slsOf δ2 [.o 1, .d (.list (NM.map .str)), .d (.int many)]) fun ss => C_tree ss Ex fun r ss' => noO r = true → ob (back δ2 (DL.clear δ2 [.o 1, .d (.list (NM.map .str)), .d (.int many)]) [.o 1, .d (.list (NM.map .str)), .d (.int many)] ss') fun δ3 => P r δ3) := fun ds1 many δ2 f1 m0 m1 e => by
    have h1 : δ2[1]? = some (some (.o b (.k ds1))) := by rw [e, List.getElem?_set_self (by rw [List.length_set]; exact l1)]
    refine ⟨rfl, ?_, ?_⟩
    · show ([1] : List Nat).Nodup
      exact List.nodup_cons.mpr ⟨by simp, List.nodup_nil⟩
    refine ⟨[.o true (.k ds1), .d (.list (NM.map .str)), .d (.int many)], ?_, ⟨ds1, NM, many, rfl, f1, hN, m0, m1⟩, fun r ss' q _ => ?_⟩
    · simp only [slsOf, slOf, h1]
      rfl
    · obtain ⟨ds2, ds', NM', many', R, last, nx, e3, e4, f', e5, q1, q2, q3, q4⟩ := q
      simp only [List.cons.injEq, Sl.o.injEq, Cont.k.injEq, Sl.d.injEq, PyData.list.injEq, PyData.int.injEq, true_and, and_true] at e3
      obtain ⟨_, e6, e7⟩ := e3
      have e6 := map_str_inj e6
      subst e6 e7 e4 e5
      refine ⟨_, back_3 h1 rfl rfl, ?_⟩
      rw [e, List.set_set]
      exact k ds' R last nx f' q1 q2 q3 q4
  rcases h2 with rfl | rfl
  · refine ⟨_, hi, _, rfl, ?_⟩
    refine ⟨.o 1, rfl, ?_⟩
    refine ⟨_, hj, _, rfl, ?_⟩
    refine ⟨.o 2, rfl, ?_⟩
    refine hm _ fun ds1 many f1 m0 m1 => ?_
    refine ⟨.d (.int many), rfl, ?_⟩
    have hj1 : (δ.set 1 (some (.o b (.k ds1))))[2]? = some (some (.o false (.l (NM.map .str)))) := set_get1 hj (by decide)
    refine ⟨([.o 1, .d (.list (NM.map .str)), .d (.int many)], (δ.set 1 (some (.o b (.k ds1)))).set 2 (some (.d (.list (NM.map .str))))), ?_, fin ds1 many _ f1 m0 m1 (List.set_comm _ _ (by decide))⟩
    simp [lend, plainAt, frz, hj1]
  · refine ⟨_, hi, _, rfl, ?_⟩
    refine ⟨.o 1, rfl, ?_⟩
    refine ⟨_, hj, _, rfl, ?_⟩
    refine ⟨.d (.list (NM.map .str)), rfl, ?_⟩
    refine hm _ fun ds1 many f1 m0 m1 => ?_
    refine ⟨.d (.int many), rfl, ?_⟩
    refine ⟨([.o 1, .d (.list (NM.map .str)), .d (.int many)], δ.set 1 (some (.o b (.k ds1)))), by simp [lend, plainAt, frz], fin ds1 many _ f1 m0 m1 ?_⟩
    have : δ.set 2 (some (.d (.list (NM.map .str)))) = δ := by
      refine List.ext_getElem? fun n => ?_
      by_cases h : n = 2
      · subst h; rw [List.getElem?_set_self l2, hj]
      · rw [List.getElem?_set_ne (Ne.symm h)]
    rw [this]
/-- draw 14 -/
theorem draw14 {δ : SEnv} {ds : List (Key × PyData)} {b : Bool} {Ex : XP} {m : Int} (hm0 : 0 < m) (hm : m ≤ 14) (hi : δ[1]? = some (some (.o b (.k ds)))) (hf : Fd ds) : ∀ Q : DL.R → SEnv → Prop, (∀ ds' many, Fd ds' → 0 ≤ many → many ≤ 13 → Q (.d (.int many)) (δ.set 1 (some (.o b (.k ds'))))) → (wCall 2 C_draw [true, false] (wCons (wVar 1) (wCons (wC (.int m)) wNil))) Ex δ Q := fun Q hQ =>
  draw_at (i := 1) (m := m) hi hf hm0 (Nat.lt_of_le_of_lt (Nat.log2_le_self _) (by omega)) (fun Q h => h) fun ds' j f' h0 h1 => hQ ds' j f' h0 (by omega)
/-- a deed, a way: the feed in slot 1, the tree in slot t, the names, data, in slot 2 -/
theorem deed_at {δ : SEnv} {ds : List (Key × PyData)} {b : Bool} {R : List Tn} {last nx : Int} {NM : List Str} {t : Nat} {Ex : XP} {P : DL.R → SEnv → Prop} (hf : Fd ds) (hN : NmOk NM) (w : Wf NM R last 28) (l14 : R.length ≤ 14) (e0 : δ[1]? = some (some (.o b (.k ds)))) (e1 : δ[t]? = some (some (.d (trD R nx)))) (e2 : δ[2]? = some (some (.d (.list (NM.map .str)))))
    (k : ∀ ds' x, Fd ds' → De.ok x → P (.d (De.D x)) (δ.set 1 (some (.o b (.k ds'))))) : wCall 3 C_deed [true, false, false] (wCons (wVar 1) (wCons (wVar t) (wCons (wVar 2) wNil))) Ex δ P := by
  unfold wCall
  refine ⟨_, e0, _, rfl, ?_⟩
  refine ⟨.o 1, rfl, ?_⟩
  refine ⟨_, e1, _, rfl, ?_⟩
  refine ⟨_, rfl, ?_⟩
  refine ⟨_, e2, _, rfl, ?_⟩
  refine ⟨_, rfl, ?_⟩
  refine ⟨([.o 1, .d (trD R nx), .d (.list (NM.map .str))], δ), rfl, rfl, ?_, ?_⟩
  · show ([1] : List Nat).Nodup
    exact List.nodup_cons.mpr ⟨by simp, List.nodup_nil⟩
  refine ⟨[.o true (.k ds), .d (trD R nx), .d (.list (NM.map .str))], ?_, ⟨ds, R, last, nx, NM, rfl, hf, hN, w, l14⟩, fun r ss' q _ => ?_⟩
  · simp only [slsOf, slOf, e0]
    rfl
  · obtain ⟨ds1, ds', R', nx', x, NM', e3, e4, f', e5, q1⟩ := q
    simp only [List.cons.injEq, Sl.o.injEq, Cont.k.injEq, Sl.d.injEq, PyData.list.injEq, true_and, and_true] at e3
    obtain ⟨_, _, e6⟩ := e3
    have e6 : NM = NM' := map_str_inj e6
    subst e6 e4 e5
    exact ⟨_, back_3 e0 rfl rfl, k ds' x f' q1⟩
theorem sz8 {x : Str} (h : x ∈ nm6) : x.cps.size ≤ 8 := by
  have : nm6.all (fun x => decide (x.cps.size ≤ 8)) = true := by decide +kernel
  exact of_decide_eq_true (List.all_eq_true.mp this x h)
theorem smp6 {x : Str} (h : x ∈ nm6) : x.cps.toList.all smp = true := by
  have : nm6.all (fun x => x.cps.toList.all smp) = true := by decide +kernel
  exact List.all_eq_true.mp this x h
theorem wD_bulk {w : List Str} (h : WayOk w) : (wD w).bulk ≤ 36 := by
  have l : ∀ L : List Str, (∀ x ∈ L, x ∈ nm6) → PyData.bulkAll (L.map .str) ≤ 9 * L.length := fun L => by
    induction L with
    | nil => intro _; exact Nat.zero_le _
    | cons x L ih =>
      intro h
      have h1 := sz8 (h x (List.mem_cons_self ..))
      have h2 := ih fun y m => h y (List.mem_cons_of_mem _ m)
      rw [List.map_cons]
      simp only [PyData.bulkAll, PyData.bulk, List.length_cons]
      omega
  have := l w h.ok
  have := h.few
  simp only [PyData.bulk]
  omega
theorem wD_plain {w : List Str} (h : WayOk w) : plainD (wD w) = true := plain_all.mpr fun y m => by
  obtain ⟨x, mx, rfl⟩ := List.mem_map.mp m
  exact smp6 (h.ok x mx)
end V05
set_option Elab.async false
set_option linter.all false
set_option maxRecDepth 100000
set_option maxHeartbeats 1000000
set_option autoImplicit false
set_option exponentiation.threshold 20000
namespace V05
open PySem PySem.Spec PyProof.Rows L2 DL
local macro_rules | `(tactic| pv_short) => `(tactic| repeat first | refine Exists.intro _ (And.intro rfl ?_) | refine ifT rfl ?_ | refine ifF rfl ?_ | refine Exists.intro _ (And.intro (if_pos (by first | assumption | decide | exact ⟨by assumption, by decide⟩ | exact ⟨by assumption, by assumption⟩)) ?_) | refine And.intro (show List.length _ ≤ sizeLine from Nat.le_of_ble_eq_true rfl) ?_ | refine And.intro (Nat.le_of_ble_eq_true rfl) ?_)
def Th (N D b : Nat) (d : PyData) : Prop := Nd N D d ∧ d.bulk ≤ b
def thB (N D b : Nat) (d : PyData) : Bool := d.canLay0 && intsB N d && decide (d.depth ≤ D) && decide (d.bulk ≤ b)
theorem thB_ok {N D b : Nat} {d : PyData} (h : thB N D b d = true) : Th N D b d := by
  unfold thB at h
  simp only [Bool.and_eq_true, decide_eq_true_eq] at h
  exact ⟨⟨h.1.1.1, h.1.1.2, h.1.2⟩, h.2⟩
theorem idx_mem {ds : List PyData} {j : Int} (h0 : 0 ≤ j) (h1 : j < (ds.length : Nat)) : ∃ e, idxF (.d (.list ds)) (.d (.int j)) = some (.val e) ∧ e ∈ ds := by
  obtain ⟨e, ee, me⟩ := atI_ok h0 h1
  refine ⟨e, ?_, me⟩
  show (atI ds j).map Rv.val = _
  rw [ee]
  rfl
structure Bt (d d' : PyData) : Prop where
  blk : d'.bulk ≤ 2 * d.bulk + 210
  nd : ∀ N, 10 ^ 60 ≤ N → N < 10 ^ 195 → Nd N 50 d → Nd (N + 1) (d.depth + 1) d'
  pl : plainD d = true → plainD d' = true
structure Pb (n : Nat) (d : PyData) : Prop where
  nd : ∃ N, 10 ^ 60 ≤ N ∧ N < 10 ^ 195 ∧ Nd N 50 d
  blk : d.bulk ≤ 10000
  dep : d.depth < n
  pl : plainD d = true
def C_bent (n : Nat) : FSpec := Ct (fun ss => ∃ kvs d, ss = [.o true (.k kvs), .d d] ∧ Fd kvs ∧ Pb n d)
  fun ss r ss' => ∃ kvs kvs' d d', ss = [.o true (.k kvs), .d d] ∧ ss' = [.o true (.k kvs'), .d d] ∧ Fd kvs' ∧ r = .d d' ∧ Bt d d'
theorem bent_at {δ : SEnv} {i n : Nat} {b : Bool} {kvs0 : List (Key × PyData)} {wm : WE} {Ex : XP} {P : R → SEnv → Prop} (hi : δ[i]? = some (some (.o b (.k kvs0)))) (hm : ∀ Q : R → SEnv → Prop,
      (∀ d kvs δ2, δ2[i]? = some (some (.o b (.k kvs))) → Fd kvs → Pb n d → (∀ kvs' d', Fd kvs' → Bt d d' → P (.d d') (δ2.set i (some (.o b (.k kvs'))))) → Q (.d d) δ2) → wm Ex δ Q) : wCall 2 (C_bent n) [true, false] (wCons (wVar i) (wCons wm wNil)) Ex δ P := by
  unfold wCall
  refine ⟨_, hi, _, rfl, _, rfl, hm _ fun d kvs δ2 h2 hf hp k => ?_⟩
  refine ⟨_, rfl, ([.o i, .d d], δ2), rfl, rfl, ?_, ?_⟩
  · show ([i] : List Nat).Nodup
    exact List.nodup_cons.mpr ⟨by simp, List.nodup_nil⟩
  refine ⟨[.o true (.k kvs), .d d], ?_, ⟨kvs, d, rfl, hf, hp⟩, fun r ss' q _ => ?_⟩
  · simp only [slsOf, slOf, h2]
    rfl
  · obtain ⟨kvs1, kvs', d1, d', e1, e2, hf', e3, h3⟩ := q
    cases e1
    subst e2 e3
    exact ⟨_, back_2 h2 rfl rfl, k kvs' d' hf' h3⟩
theorem add_tupM {a b : List PyData} (h : a.length + b.length ≤ 1000000) : addF (.d (.tuple a)) (.d (.tuple b)) = some (.tup (a ++ b)) := by
  have e : sizeLine = 16777216 := by decide
  exact if_pos (by omega)
theorem idx_tup {ds : List PyData} {j : Int} (h0 : 0 ≤ j) (h1 : j < (ds.length : Nat)) : ∃ e, idxF (.d (.tuple ds)) (.d (.int j)) = some (.val e) ∧ ds[j.toNat]? = some e := by
  obtain ⟨k, rfl⟩ := Int.eq_ofNat_of_zero_le h0
  have hk : k < ds.length := by omega
  have e1 : ds[k]? = some ds[k] := List.getElem?_eq_getElem hk
  refine ⟨ds[k], ?_, by rw [Int.toNat_natCast]; exact e1⟩
  show (atI ds (k : Int)).map Rv.val = _
  rw [atI_nat e1]
  rfl
theorem cut_to {ds : List PyData} {j : Int} (h0 : 0 ≤ j) (h1 : j < (ds.length : Nat)) : cutL ds none (some j) = ds.take j.toNat := by
  obtain ⟨k, rfl⟩ := Int.eq_ofNat_of_zero_le h0
  unfold cutL
  rw [HT.sIx_none, HT.sIx_nat, List.drop_zero, Nat.sub_zero, Int.toNat_natCast, Nat.min_eq_left (by omega)]
theorem cut_from {ds : List PyData} {j : Int} (h0 : 0 ≤ j) (h1 : j ≤ (ds.length : Nat)) : cutL ds (some j) none = ds.drop j.toNat := by
  obtain ⟨k, rfl⟩ := Int.eq_ofNat_of_zero_le h0
  unfold cutL
  rw [HT.sIx_none, HT.sIx_nat, Int.toNat_natCast, Nat.min_eq_left (by omega), ← List.length_drop, List.take_length]
theorem bt_mid {xs : List PyData} {k : Nat} {x x' : PyData} (hx : xs[k]? = some x) (h : Bt x x') : Bt (.tuple xs) (.tuple (xs.take k ++ [x'] ++ xs.drop (k + 1))) := by
  have hk : k < xs.length := (List.getElem?_eq_some_iff.mp hx).1
  have ed : xs.drop k = x :: xs.drop (k + 1) := by
    rw [List.drop_eq_getElem_cons hk, (List.getElem?_eq_some_iff.mp hx).2]
  have mx : x ∈ xs := List.mem_of_getElem? hx
  constructor
  · have e1 := bulk_app (xs.take k) (xs.drop k)
    rw [List.take_append_drop, ed] at e1
    simp only [PyData.bulkAll] at e1
    have h1 := h.blk
    simp only [PyData.bulk, bulk_app, PyData.bulkAll]
    omega
  · intro N h0 h1 hn
    have hd : (PyData.tuple xs).depth = PyData.depthAll xs + 1 := by simp only [PyData.depth]
    have hs : Nds N 49 xs := hn.tup
    have hdep : ∀ y ∈ xs, y.depth ≤ PyData.depthAll xs := (dep_all (D := PyData.depthAll xs)).mp (Nat.le_refl _)
    rw [hd]
    have sub : ∀ y ∈ xs, Nd (N + 1) (PyData.depthAll xs + 1) y := fun y m => ⟨(hs y m).lay, intsB_mono (Nat.le_succ _) y (hs y m).nums, Nat.le_succ_of_le (hdep y m)⟩
    refine nd_tup (D := PyData.depthAll xs + 1) ((Nds.append (fun y m => sub y (List.mem_of_mem_take m)) (nds_cons ?_ nds_nil)).append fun y m => sub y (List.mem_of_mem_drop m))
    exact (h.nd N h0 h1 ((hs x mx).mono (Nat.le_refl _) (by decide))).mono (Nat.le_refl _) (Nat.succ_le_succ (hdep x mx))
  · intro hp
    have hp := plain_all.mp hp
    refine plain_all.mpr fun y m => ?_
    rcases List.mem_append.mp m with m | m
    · rcases List.mem_append.mp m with m | m
      · exact hp y (List.mem_of_mem_take m)
      · rw [List.mem_singleton] at m; subst m; exact h.pl (hp x mx)
    · exact hp y (List.mem_of_mem_drop m)
theorem cut_len {xs : List PyData} {lo hi : Option Int} : (cutL xs lo hi).length ≤ xs.length := by
  unfold cutL
  rw [List.length_take, List.length_drop]
  omega
theorem pb_len {n : Nat} {xs : List PyData} (h : Pb n (.tuple xs)) : xs.length ≤ 10000 := by
  have h1 := h.blk
  simp only [PyData.bulk] at h1
  have := bulk_len xs
  omega
theorem pb_mem {n : Nat} {xs : List PyData} (h : Pb (n + 1) (.tuple xs)) {x : PyData} (m : x ∈ xs) : Pb n x := by
  obtain ⟨N, h0, h1, hn⟩ := h.nd
  have hb := h.blk
  simp only [PyData.bulk] at hb
  have hm := bulk_mem m
  have hd := h.dep
  simp only [PyData.depth] at hd
  have := (dep_all (D := PyData.depthAll xs)).mp (Nat.le_refl _) x m
  exact ⟨⟨N, h0, h1, ((hn.tup (D := 49)) x m).mono (Nat.le_refl _) (by decide)⟩, by omega, by omega, plain_all.mp h.pl x m⟩
section
variable {e : DEnds} {kvs : List (Key × PyData)} {n : Nat}
abbrev BK (e : DEnds) (d : PyData) : Prop := ∀ kvs' d' δ, Fd kvs' → Bt d d' → δ[0]? = some (some (.o true (.k kvs'))) → δ[1]? = some (some (.d d)) → e.rt (.d d') δ
theorem bent_8 {xs : List PyData} {i : Int} (hf : Fd kvs) (hp : Pb (n + 1) (.tuple xs)) (h0 : 0 ≤ i) (h1 : i < (xs.length : Nat)) (k : BK e (.tuple xs)) :
    t_bent_8 C_draw (C_bent n) e [some (.o true (.k kvs)), some (.d (.tuple xs)), some (.d (.int i)), none, none] := by
  unfold t_bent_8
  obtain ⟨x, ex, mx⟩ := idx_tup h0 h1
  have hl := pb_len hp
  pv_short
  refine bent_at (kvs0 := kvs) rfl fun Q hQ => ?_
  pv_short
  refine Exists.intro _ (And.intro ex ?_)
  refine hQ x kvs _ rfl hf (pb_mem hp (List.mem_of_getElem? mx)) fun kvs1 x' hf1 hx => ?_
  pv_short
  have l1 : (cutL xs none (some i)).length ≤ xs.length := cut_len
  have l2 : (cutL xs (some (i + 1)) none).length ≤ xs.length := cut_len
  refine Exists.intro _ (And.intro (add_tupM (a := cutL xs none (some i)) (b := [x']) (by rw [List.length_singleton]; omega)) ?_)
  pv_short
  refine Exists.intro _ (And.intro (add_tupM (a := cutL xs none (some i) ++ [x']) (b := cutL xs (some (i + 1)) none) (by rw [List.length_append, List.length_singleton]; omega)) ?_)
  pv_short
  refine k kvs1 _ _ hf1 ?_ rfl rfl
  rw [cut_to h0 h1, cut_from (by omega) (by omega), show (i + 1).toNat = i.toNat + 1 by omega]
  exact bt_mid mx hx
theorem bent_9 {xs : List PyData} (hf : Fd kvs) (hp : Pb (n + 1) (.tuple xs)) (h0 : xs ≠ []) (k : BK e (.tuple xs)) :
    t_bent_9 C_draw (C_bent n) e [some (.o true (.k kvs)), some (.d (.tuple xs)), none, none, none] := by
  unfold t_bent_9
  have h1 := List.length_pos_iff.mpr h0
  have hl := pb_len hp
  pv_short
  refine draw_at (m := (xs.length : Int)) rfl hf (by omega) ?_ (fun Q h => ?_) fun kvs1 j hf1 h3 h4 => ?_
  · exact (Nat.log2_lt (by omega)).mpr (Nat.lt_of_lt_of_le (show _ < 2 ^ 20 by omega) (Nat.pow_le_pow_right (by decide) (by decide)))
  · pv_short
    exact h
  · pv_short
    exact bent_8 hf1 hp h3 h4 k
end
theorem ok_text (s : String) : PyData.strOk (Str.ofString s) = true := by
  refine ok_mem.mpr fun c m => ?_
  rw [Str.ofString_eq_toList, List.toList_toArray] at m
  obtain ⟨ch, _, rfl⟩ := List.mem_map.mp m
  have h := ch.valid
  show ch.val.toNat < _
  rcases h with h | ⟨_, h⟩
  · exact Nat.lt_trans h (by decide)
  · exact h
theorem bt_const {d d' : PyData} (h : thB 1 1 210 d' = true) (hp : plainD d' = true := by decide) : Bt d d' := by
  have h := thB_ok h
  exact ⟨by have := h.2; omega, fun N h0 h1 hn => h.1.mono (by omega) (by omega), fun _ => hp⟩
theorem bt_int {d : PyData} {i : Int} (h : ∀ N, 10 ^ 60 ≤ N → N < 10 ^ 195 → Nd N 50 d → i.natAbs ≤ N + 1) : Bt d (.int i) := ⟨Nat.zero_le _, fun N h0 h1 hn => nd_int (h N h0 h1 hn), fun _ => rfl⟩
theorem nds_self {N : Nat} {xs : List PyData} (hn : Nd N 50 (.tuple xs)) : Nds (N + 1) (PyData.depthAll xs) xs := fun y m => by
  have hs := (hn.tup (D := 49)) y m
  exact ⟨hs.lay, intsB_mono (Nat.le_succ _) y hs.nums, (dep_all (D := PyData.depthAll xs)).mp (Nat.le_refl _) y m⟩
theorem bt_seq {xs ys : List PyData} (h1 : ∀ y ∈ ys, y ∈ xs ∨ y = .none) (h2 : PyData.bulkAll ys ≤ 2 * PyData.bulkAll xs + 210) : Bt (.tuple xs) (.tuple ys) ∧ Bt (.tuple xs) (.list ys) := by
  have hd : (PyData.tuple xs).depth = PyData.depthAll xs + 1 := by simp only [PyData.depth]
  have key : ∀ N, 10 ^ 60 ≤ N → N < 10 ^ 195 → Nd N 50 (.tuple xs) → Nds (N + 1) (PyData.depthAll xs + 1) ys := fun N _ _ hn y m => by
    rcases h1 y m with m | rfl
    · exact (nds_self hn y m).mono (Nat.le_refl _) (Nat.le_succ _)
    · exact nd_none
  have pk : plainD (.tuple xs) = true → plainDs ys = true := fun hp => plain_all.mpr fun y m => by
    rcases h1 y m with m | rfl
    · exact plain_all.mp hp y m
    · rfl
  exact ⟨⟨by simp only [PyData.bulk]; exact h2, fun N a b hn => by rw [hd]; exact nd_tup (key N a b hn), pk⟩, ⟨by simp only [PyData.bulk]; exact h2, fun N a b hn => by rw [hd]; exact nd_lst (key N a b hn), pk⟩⟩
theorem bt_wrap {d : PyData} : Bt d (.tuple [d]) := ⟨by simp only [PyData.bulk, PyData.bulkAll]; omega, fun N a b hn => nd_tup (nds_cons ⟨hn.lay, intsB_mono (Nat.le_succ _) d hn.nums, Nat.le_refl _⟩ nds_nil), fun hp => plain_all.mpr fun y m => by rw [List.mem_singleton] at m; subst m; exact hp⟩
abbrev tupOdd (xs : List PyData) : List PyData := [.list xs, .tuple xs.reverse, .tuple [.tuple xs], .tuple (xs ++ xs), .tuple [], .none, .tuple (cutL xs (some 1) none), .tuple (cutL xs none (some (-1))), .tuple (xs ++ [.none])]
theorem tup_odd {xs : List PyData} : ∀ d ∈ tupOdd xs, Bt (.tuple xs) d := by
  intro d m
  simp only [tupOdd, List.mem_cons, List.not_mem_nil, or_false] at m
  rcases m with rfl | rfl | rfl | rfl | rfl | rfl | rfl | rfl | rfl
  · exact (bt_seq (fun y m => .inl m) (by omega)).2
  · exact (bt_seq (fun y m => .inl (List.mem_reverse.mp m)) (by rw [bulk_rev]; omega)).1
  · exact bt_wrap
  · exact (bt_seq (fun y m => .inl ((List.mem_append.mp m).elim id id)) (by rw [bulk_app]; omega)).1
  · exact bt_const (by decide)
  · exact bt_const (by decide)
  · exact (bt_seq (fun y m => .inl (cut_mem m)) (by have := bulk_cut xs (some 1) none; omega)).1
  · exact (bt_seq (fun y m => .inl (cut_mem m)) (by have := bulk_cut xs none (some (-1)); omega)).1
  · exact (bt_seq (fun y m => (List.mem_append.mp m).elim .inl fun m => .inr (List.mem_singleton.mp m)) (by rw [bulk_app]; simp only [PyData.bulkAll, PyData.bulk]; omega)).1
abbrev intOdd (i : Int) (q : Bool) (x : Str) (d : PyData) : List PyData := [.int (i + 1), .int (i - 1), .bool q, .str x, .none, .tuple [d], .int 0, .int (-1), .int (10 ^ 60)]
theorem int_odd {i : Int} {q : Bool} {x : Str} {d : PyData} (hi : ∀ N, 10 ^ 60 ≤ N → N < 10 ^ 195 → Nd N 50 d → i.natAbs ≤ N) (hx : Tx 210 x) (hxp : plainD (.str x) = true) : ∀ d' ∈ intOdd i q x d, Bt d d' := by
  intro d' m
  simp only [intOdd, List.mem_cons, List.not_mem_nil, or_false] at m
  rcases m with rfl | rfl | rfl | rfl | rfl | rfl | rfl | rfl | rfl
  · exact bt_int fun N a b hn => by have := hi N a b hn; omega
  · exact bt_int fun N a b hn => by have := hi N a b hn; omega
  · exact bt_const (by cases q <;> decide) (by cases q <;> rfl)
  · exact ⟨by have : x.cps.size ≤ 210 := hx.2
              simp only [PyData.bulk]; omega, fun N a b hn => nd_str hx.1, fun _ => hxp⟩
  · exact bt_const (by decide)
  · exact bt_wrap
  · exact bt_const (by decide)
  · exact bt_const (by decide)
  · exact bt_int fun N a b hn => by
      have e : ((10 : Int) ^ 60).natAbs = 10 ^ 60 := by decide +kernel
      omega
abbrev elseOdd : List PyData := [.none, .bool true, .int 0, .int 1, .str "", .tuple [], .list [], .int (-1), .str "a"]
theorem else_odd {d : PyData} : ∀ d' ∈ elseOdd, Bt d d' := fun d' m => bt_const (by
  have h : elseOdd.all (thB 1 1 210) = true := by decide +kernel
  exact List.all_eq_true.mp h d' m) (by
  have h : elseOdd.all plainD = true := by decide +kernel
  exact List.all_eq_true.mp h d' m)
theorem int_plain (i : Int) : plainD (.str (Str.ofString (toString i))) = true := by
  show (Str.ofString (toString i)).cps.toList.all smp = true
  rw [Str.ofString_eq_toList, List.toList_toArray]
  obtain ⟨c, s, e, h⟩ := int_tx i
  simp only [tx] at e
  rw [e]
  refine List.all_eq_true.mpr fun x m => ?_
  have := h x m
  unfold digC at this
  unfold smp
  simp only [Bool.and_eq_true, decide_eq_true_eq, Bool.not_eq_true', decide_eq_false_iff_not]
  omega
section
variable {e : DEnds} {kvs : List (Key × PyData)} {n : Nat}
theorem bent_1 {d : PyData} {j : Int} {s2 s4 : Option Sl} (hf : Fd kvs) (h0 : 0 ≤ j) (h1 : j < 9) (k : BK e d) :
    t_bent_1 C_draw (C_bent n) e [some (.o true (.k kvs)), some (.d d), s2, some (.d (.int j)), s4] := by
  unfold t_bent_1
  obtain ⟨d', ed, md⟩ := idx_mem (ds := elseOdd) h0 (by show j < 9; exact h1)
  pv_short
  refine Exists.intro _ (And.intro ed ?_)
  exact k kvs d' _ hf (else_odd d' md) rfl rfl
theorem nd_lim {n : Nat} {i : Int} (hp : Pb n (.int i)) : i.natAbs.log2 < 1920 ∧ Tx 210 (Str.ofString (toString i)) := by
  obtain ⟨N, h0, h1, hn⟩ := hp.nd
  have h2 := hn.int
  refine ⟨log_lt (Nat.lt_of_le_of_lt h2 (Nat.lt_trans (Nat.lt_trans h1 (Nat.pow_lt_pow_right (by decide) (by decide : 195 < 200))) ten_two)), ok_text _, ?_⟩
  rw [PySem.ofString_length]
  have := int_text_length_le10 (a := i) (k := 195) (by decide) (Nat.lt_of_le_of_lt h2 h1)
  omega
theorem bent_2i {i j : Int} {s2 s4 : Option Sl} (hf : Fd kvs) (hp : Pb (n + 1) (.int i)) (h0 : 0 ≤ j) (h1 : j < 9) (k : BK e (.int i)) :
    t_bent_2 C_draw (C_bent n) e [some (.o true (.k kvs)), some (.d (.int i)), s2, some (.d (.int j)), s4] := by
  unfold t_bent_2
  obtain ⟨hl, ht⟩ := nd_lim hp
  obtain ⟨d', ed, md⟩ := idx_mem (ds := intOdd i (PyData.eqv (.int i) (.int 1)) (toString i) (.int i)) h0 (by show j < 9; exact h1)
  pv_short
  refine Exists.intro _ (And.intro ed ?_)
  exact k kvs d' _ hf (int_odd (fun N _ _ hn => hn.int) ht (int_plain i) d' md) rfl rfl
theorem bent_2b {b : Bool} {j : Int} {s2 s4 : Option Sl} (hf : Fd kvs) (h0 : 0 ≤ j) (h1 : j < 9) (k : BK e (.bool b)) :
    t_bent_2 C_draw (C_bent n) e [some (.o true (.k kvs)), some (.d (.bool b)), s2, some (.d (.int j)), s4] := by
  unfold t_bent_2
  have ht : Tx 210 (if b then ("True" : Str) else "False") := by cases b <;> exact ⟨by decide +kernel, by decide +kernel⟩
  obtain ⟨d', ed, md⟩ := idx_mem (ds := intOdd (if b = true then (1 : Int) else 0) (PyData.eqv (.bool b) (.int 1)) (if b then ("True" : Str) else "False") (.bool b)) h0 (by show j < 9; exact h1)
  pv_short
  refine Exists.intro _ (And.intro ed ?_)
  exact k kvs d' _ hf (int_odd (fun N h _ _ => by
    have : (10 : Nat) ^ 60 ≥ 1 := Nat.one_le_pow _ _ (by decide)
    cases b
    · exact Nat.zero_le _
    · show (1 : Int).natAbs ≤ N
      show 1 ≤ N
      omega) ht (by cases b <;> decide) d' md) rfl rfl
theorem bent_5 {xs : List PyData} {j : Int} {s2 s4 : Option Sl} (hf : Fd kvs) (hp : Pb (n + 1) (.tuple xs)) (h0 : 0 ≤ j) (h1 : j < 9) (k : BK e (.tuple xs)) :
    t_bent_5 C_draw (C_bent n) e [some (.o true (.k kvs)), some (.d (.tuple xs)), s2, some (.d (.int j)), s4] := by
  unfold t_bent_5 t_bent_4
  have hl := pb_len hp
  have e0 : sizeLine = 16777216 := by decide
  have l1 : xs.length + xs.length ≤ sizeLine := by omega
  have l2 : xs.length + ([PyData.none] : List PyData).length ≤ sizeLine := by rw [List.length_singleton]; omega
  obtain ⟨d', ed, md⟩ := idx_mem (ds := tupOdd xs) h0 (by show j < 9; exact h1)
  pv_short
  refine Exists.intro _ (And.intro ed ?_)
  exact k kvs d' _ hf (tup_odd d' md) rfl rfl
theorem bent_7 {d : PyData} {s2 : Option Sl} (hf : Fd kvs) (hp : Pb (n + 1) d) (k : BK e d) :
    t_bent_7 C_draw (C_bent n) e [some (.o true (.k kvs)), some (.d d), s2, none, none] := by
  unfold t_bent_7 t_bent_6 t_bent_3
  pv_short
  refine draw_at (m := 9) rfl hf (by decide) (by decide) (fun Q h => h) fun kvs1 j hf1 h3 h4 => ?_
  cases d with
  | tuple xs => pv_short; exact bent_5 hf1 hp h3 h4 k
  | int i => pv_short; exact bent_2i hf1 hp h3 h4 k
  | bool b => pv_short; exact bent_2b hf1 h3 h4 k
  | _ => pv_short; exact bent_1 hf1 h3 h4 k
theorem bent_10 {d : PyData} (hf : Fd kvs) (hp : Pb (n + 1) d) (k : BK e d) :
    t_bent_10 C_draw (C_bent n) e [some (.o true (.k kvs)), some (.d d), none, none, none] := by
  unfold t_bent_10
  cases d with
  | tuple xs =>
    obtain ⟨N, h0, h1, hn⟩ := hp.nd
    pv_short
    refine Exists.intro _ (And.intro (eq_shaped (neg := true) (d := .tuple xs) (e := .tuple []) (nd_shaped hn (by decide)) (by rfl)) ?_)
    pv_short
    cases xs with
    | nil =>
      pv_short
      exact bent_7 hf hp k
    | cons x xs =>
      pv_short
      refine draw_at (m := 5) rfl hf (by decide) (by decide) (fun Q h => h) fun kvs1 j hf1 h3 h4 => ?_
      pv_short
      refine ite2 (fun w => ?_) (fun w => ?_)
      · exact bent_9 hf1 hp (by simp) k
      · exact bent_7 hf1 hp k
  | _ => pv_short; exact bent_7 hf hp k
end
theorem bent_ok (n : Nat) (ss : List Sl) (Ex : XP) (P : R → List Sl → Prop) (h : C_bent (n + 1) ss Ex P) : fnW 2 5 (w_bent C_draw (C_bent n)) ss Ex P := by
  obtain ⟨⟨kvs, d, rfl, hf, hp⟩, k⟩ := h
  refine And.intro rfl ?_
  rw [w_bent_eq]
  refine bent_10 hf hp fun kvs' d' δ hf' hb e0 e1 => ?_
  refine ⟨_, rfl, [.o true (.k kvs'), .d d], ?_, k _ _ ⟨kvs, kvs', d, d', rfl, rfl, hf', rfl, hb⟩⟩
  match δ, e0, e1 with
  | a :: b :: δ, e0, e1 =>
    cases e0
    cases e1
    rfl
end V05
set_option Elab.async false
set_option linter.all false
set_option maxRecDepth 100000
set_option maxHeartbeats 1000000
set_option autoImplicit false
set_option exponentiation.threshold 20000
namespace V05
open PySem PySem.Spec PyProof.Rows L2 DL
local macro_rules | `(tactic| pv_short) => `(tactic| repeat first | refine Exists.intro _ (And.intro rfl ?_) | refine ifT rfl ?_ | refine ifF rfl ?_ | refine Exists.intro _ (And.intro (if_pos (by first | assumption | decide | exact ⟨by assumption, by decide⟩ | exact ⟨by assumption, by assumption⟩)) ?_) | refine And.intro (show List.length _ ≤ sizeLine from Nat.le_of_ble_eq_true rfl) ?_ | refine And.intro (Nat.le_of_ble_eq_true rfl) ?_)
def Good (d : PyData) : Prop := Nd (10 ^ 195) 60 d ∧ d.bulk ≤ 80000
theorem good_str {x : Str} (h : Good (.str x)) : x.length ≤ sizeLine := by
  have h1 : x.cps.size ≤ 80000 := by have := h.2; simpa only [PyData.bulk] using this
  have e : sizeLine = 16777216 := by decide
  show x.cps.size ≤ _
  omega
theorem len_str {x : Str} (h : x.length ≤ sizeLine) : lenF [.d (.str x)] = some (.val (.int (x.length : Int))) := by
  show (if x.length ≤ sizeLine then some x.length else none).map _ = _
  rw [if_pos h]
  rfl
theorem good_tup {xs : List PyData} (h : Good (.tuple xs)) : ∀ x ∈ xs, Good x := fun x m => by
  have h1 := (h.1.tup (D := 59)) x m
  have h2 : PyData.bulkAll xs ≤ 80000 := by have := h.2; simpa only [PyData.bulk] using this
  have h3 := bulk_mem m
  exact ⟨h1.mono (Nat.le_refl _) (by decide), by omega⟩
theorem good_len {xs : List PyData} (h : Good (.tuple xs)) : xs.length ≤ 80000 := by
  have h2 : PyData.bulkAll xs ≤ 80000 := by have := h.2; simpa only [PyData.bulk] using this
  have := bulk_len xs
  omega
def One (f : PyData → Bool) : FSpec := Ct (fun ss => ∃ d, ss = [.d d] ∧ Good d) (fun ss r ss' => ss' = ss ∧ ∃ d, ss = [.d d] ∧ r = .d (.bool (f d)))
def nameC (n : Nat) : Bool := decide (97 ≤ n) && decide (n ≤ 122)
def isName : PyData → Bool
  | .str x => decide (1 ≤ x.length) && decide (x.length ≤ 8) && x.cps.toList.all nameC
  | _ => false
def isAz : PyData → Bool
  | .str x => match x.cps.toList with
    | [c] => nameC c
    | _ => false
  | _ => false
theorem az_all (x : Str) : (DL.signs x).all isAz = x.cps.toList.all nameC := by
  unfold DL.signs
  rw [List.all_map]
  rfl
theorem name_1 {x : Str} {d : DEnds} (hd : Good (.str x)) (k : ∀ δ, δ = [some (.d (.str x)), none] → d.rt (.d (.bool (x.cps.toList.all nameC))) δ) : t_is_name_1 d [some (.d (.str x)), none] := by
  unfold t_is_name_1
  pv_short
  refine lc_pure (δf := [some (.d (.str x)), none]) (fun _ => true) (fun y => .bool (isAz y)) rfl ?_ ?_ ?_
  · have := good_str hd
    show (DL.signs x).length ≤ _
    unfold DL.signs
    rw [List.length_map, Array.length_toList]
    exact this
  · intro y m Q Q' h1 _
    obtain ⟨c, _, rfl⟩ := List.mem_map.mp m
    have e1 := sign_le 97 c
    have e2 := sign_le c 122
    pv_short
    refine ite2 (fun e => ?_) (fun e => ?_)
    · pv_short
      have a := h1 rfl [some (.d (.str x)), some (.d (.str ⟨#[c]⟩))] rfl
      have ea : isAz (.str ⟨#[c]⟩) = (!decide (([122] : List Nat) < [c])) := by
        show (decide (97 ≤ c) && decide (c ≤ 122)) = _
        rw [e2, ← e1, show (!decide (([c] : List Nat) < [97])) = true from e, Bool.true_and]
      rw [ea] at a
      exact a
    · have a := h1 rfl [some (.d (.str x)), some (.d (.str ⟨#[c]⟩))] rfl
      have ea : isAz (.str ⟨#[c]⟩) = false := by
        show (decide (97 ≤ c) && decide (c ≤ 122)) = _
        rw [← e1, Bool.eq_false_iff.mpr (show ¬ (!decide (([c] : List Nat) < [97])) = true from e), Bool.false_and]
      rw [ea] at a
      exact a
  · intro δ' h'
    pv_short
    refine Exists.intro _ (And.intro (show allF [.d (.list (((DL.signs x).filter fun _ => true).map fun y => .bool (isAz y)))] = _ by
      rw [List.filter_eq_self.mpr (fun _ _ => rfl), all_map, az_all]) ?_)
    exact k _ (by rw [h']; rfl)
theorem name_ok (ss : List Sl) (Ex : XP) (P : R → List Sl → Prop) (h : One isName ss Ex P) : fnW 1 2 w_is_name ss Ex P := by
  obtain ⟨⟨d, rfl, hd⟩, k⟩ := h
  have kk := k (.d (.bool (isName d))) _ ⟨rfl, d, rfl, rfl⟩
  clear k
  refine And.intro rfl ?_
  rw [w_is_name_eq]
  unfold t_is_name_3 t_is_name_2
  cases d with
  | str x =>
    pv_short
    refine Exists.intro _ (And.intro (len_str (good_str hd)) ?_)
    pv_short
    refine ite2 (fun e => ?_) (fun e => ?_)
    · pv_short
      have e1 : 1 ≤ x.length := by have := of_decide_eq_true e; omega
      refine ite2 (fun e2 => ?_) (fun e2 => ?_)
      · pv_short
        have e3 : ¬ x.length ≤ 8 := fun z => absurd e2 (by show ¬ (!decide (((x.length : Nat) : Int) ≤ 8)) = true; rw [decide_eq_true (show ((x.length : Nat) : Int) ≤ 8 by omega)]; decide)
        rw [show isName (.str x) = false by simp [isName, e3]] at kk
        exact kk
      · have e3 : x.length ≤ 8 := by
          have := of_decide_eq_true (show decide (((x.length : Nat) : Int) ≤ 8) = true by
            cases q : decide (((x.length : Nat) : Int) ≤ 8) with
            | true => rfl
            | false => exact absurd (show (!decide (((x.length : Nat) : Int) ≤ 8)) = true by rw [q]; rfl) e2)
          omega
        refine name_1 hd fun δ e => ?_
        subst e
        rw [show isName (.str x) = x.cps.toList.all nameC by simp [isName, e1, e3]] at kk
        pv_short
        exact kk
    · pv_short
      have e3 : ¬ 1 ≤ x.length := fun z => e (decide_eq_true (show (1 : Int) ≤ ((x.length : Nat) : Int) by omega))
      rw [show isName (.str x) = false by simp [isName, e3]] at kk
      exact kk
  | _ => pv_short; exact kk
theorem one_call {f : PyData → Bool} {δ : SEnv} {i : Nat} {d : PyData} {Ex : XP} {P : R → SEnv → Prop} (h : δ[i]? = some (some (.d d))) (hd : Good d) (k : P (.d (.bool (f d))) δ) : wCall 1 (One f) [false] (wCons (wVar i) wNil) Ex δ P := by
  unfold wCall
  refine ⟨_, h, _, rfl, ?_⟩
  pv_short
  refine ⟨rfl, List.nodup_nil, ?_⟩
  pv_short
  refine ⟨⟨d, rfl, hd⟩, fun r ss' ⟨e1, d', e2, e3⟩ _ => ?_⟩
  cases e2
  subst e1 e3
  pv_short
  exact k
def isWay : PyData → Bool
  | .tuple xs => xs.all isName
  | _ => false
theorem isway_ok (ss : List Sl) (Ex : XP) (P : R → List Sl → Prop) (h : One isWay ss Ex P) : fnW 1 2 (w_is_way (One isName)) ss Ex P := by
  obtain ⟨⟨d, rfl, hd⟩, k⟩ := h
  have kk := k (.d (.bool (isWay d))) _ ⟨rfl, d, rfl, rfl⟩
  clear k
  refine And.intro rfl ?_
  rw [w_is_way_eq]
  unfold t_is_way_1
  cases d with
  | tuple xs =>
    pv_short
    refine lc_pure (δf := [some (.d (.tuple xs)), none]) (fun _ => true) (fun y => .bool (isName y)) rfl ?_ ?_ ?_
    · have := good_len hd
      have e : sizeLine = 16777216 := by decide
      show xs.length ≤ _
      omega
    · intro y m Q Q' h1 _
      refine Exists.intro _ (And.intro rfl ?_)
      show wCall 1 (One isName) [false] (wCons (wVar 1) wNil) Ex0 _ Q
      exact one_call rfl (good_tup hd y m) (h1 rfl _ rfl)
    · intro δ' h'
      pv_short
      refine Exists.intro _ (And.intro (show allF [.d (.list ((xs.filter fun _ => true).map fun y => .bool (isName y)))] = _ by
        rw [List.filter_eq_self.mpr (fun _ _ => rfl), all_map]) ?_)
      pv_short
      refine Exists.intro _ (And.intro (show finals _ (restore _ (DL.forgetAll δ' [1]) [1]) = _ by rw [h']; rfl) ?_)
      exact kk
  | _ => pv_short; exact kk
end V05
set_option Elab.async false
set_option linter.all false
set_option maxRecDepth 100000
set_option maxHeartbeats 1000000
set_option autoImplicit false
set_option exponentiation.threshold 20000
namespace V05
open PySem PySem.Spec PyProof.Rows L2 DL
local macro_rules | `(tactic| pv_short) => `(tactic| repeat first | refine Exists.intro _ (And.intro rfl ?_) | refine ifT rfl ?_ | refine ifF rfl ?_ | refine Exists.intro _ (And.intro (if_pos (by first | assumption | decide | exact ⟨by assumption, by decide⟩ | exact ⟨by assumption, by assumption⟩)) ?_) | refine And.intro (show List.length _ ≤ sizeLine from Nat.le_of_ble_eq_true rfl) ?_ | refine And.intro (Nat.le_of_ble_eq_true rfl) ?_)
abbrev FL : List (Str × PyData) := [("look", .tuple [.str "way"]), ("list", .tuple [.str "way"]), ("make", .tuple [.str "named", .str "kind"]), ("drop", .tuple [.str "named"]), ("link", .tuple [.str "named", .str "named"]), ("move", .tuple [.str "named", .str "named"]), ("swap", .tuple [.str "named", .str "named"])]
def formsOf (w : Str) : Option (List Str) :=
  if w = "look" then some ["way"] else if w = "list" then some ["way"] else if w = "make" then some ["named", "kind"] else if w = "drop" then some ["named"] else if w = "link" then some ["named", "named"] else if w = "move" then some ["named", "named"] else if w = "swap" then some ["named", "named"] else none
theorem forms_look (w : Str) : FL.lookup w = (formsOf w).map fun fs => .tuple (fs.map .str) := by
  unfold formsOf FL
  simp only [List.lookup_cons, List.lookup_nil]
  by_cases h1 : w = "look"
  · subst h1; rfl
  rw [show (w == ("look" : Str)) = false by simpa using h1, if_neg h1]
  by_cases h2 : w = "list"
  · subst h2; rfl
  rw [show (w == ("list" : Str)) = false by simpa using h2, if_neg h2]
  by_cases h3 : w = "make"
  · subst h3; rfl
  rw [show (w == ("make" : Str)) = false by simpa using h3, if_neg h3]
  by_cases h4 : w = "drop"
  · subst h4; rfl
  rw [show (w == ("drop" : Str)) = false by simpa using h4, if_neg h4]
  by_cases h5 : w = "link"
  · subst h5; rfl
  rw [show (w == ("link" : Str)) = false by simpa using h5, if_neg h5]
  by_cases h6 : w = "move"
  · subst h6; rfl
  rw [show (w == ("move" : Str)) = false by simpa using h6, if_neg h6]
  by_cases h7 : w = "swap"
  · subst h7; rfl
  rw [show (w == ("swap" : Str)) = false by simpa using h7, if_neg h7]
  rfl
def sorts : List Str := ["way", "named", "kind"]
theorem forms_in {w : Str} {fs : List Str} (h : formsOf w = some fs) : (∀ f ∈ fs, f ∈ sorts) ∧ fs.length ≤ 2 := by
  unfold formsOf at h
  repeat' split at h
  all_goals first
    | cases h; exact ⟨by decide +kernel, by decide⟩
    | cases h
def fitsF (f : Str) (d : PyData) : Bool := if f = "kind" then PyData.eqv (.str "drawer") d || PyData.eqv (.str "sheet") d else isWay d && (decide (f = "way") || !PyData.eqv d (.tuple []))
def isDeed : PyData → Bool
  | .tuple (.str w :: ps) => match formsOf w with
    | none => false
    | some fs => decide (ps.length = fs.length) && (fs.zip ps).all fun q => fitsF q.1 q.2
  | _ => false
def C_form_of : FSpec := Ct (fun ss => ∃ w : Str, ss = [.d (.str w)]) fun ss r ss' => ss' = ss ∧ ∃ w : Str, ss = [.d (.str w)] ∧ r = match formsOf w with | some fs => .w (.tuple (fs.map .str)) | none => .d .none
theorem form_of_ok (ss : List Sl) (Ex : XP) (P : R → List Sl → Prop) (h : C_form_of ss Ex P) : fnW 1 1 (w_form_of FL) ss Ex P := by
  obtain ⟨⟨w, rfl⟩, k⟩ := h
  have kk := k _ _ ⟨rfl, w, rfl, rfl⟩
  refine And.intro rfl ?_
  rw [w_form_of_eq]
  unfold t_form_of_1
  pv_short
  show ob (retR _ (match FL.lookup w with | some dd => R.w dd | none => .d .none)) _
  rw [forms_look]
  cases hw : formsOf w with
  | some fs => rw [hw] at kk; pv_short; exact kk
  | none => rw [hw] at kk; pv_short; exact kk
theorem eqv_s (a b : Str) : PyData.eqv (.str a) (.str b) = decide (a = b) := by
  show (a == b) = _
  by_cases h : a = b
  · subst h; simp
  · rw [decide_eq_false h]; simpa using h
theorem eq_strs (neg : Bool) (x y : Str) : eqG neg (.d (.str x)) (.d (.str y)) = some (.val (.bool (if neg then !decide (x = y) else decide (x = y)))) := by
  show (if SeqAt.shaped (.str x) && SeqAt.shaped (.str y) || strs2 (.str x) (.str y) then some (Rv.val (.bool (if neg then !PyData.eqv (.str x) (.str y) else PyData.eqv (.str x) (.str y)))) else none) = _
  rw [if_pos (by rw [Bool.or_eq_true]; exact .inr rfl), eqv_s]
theorem good_sh {d : PyData} (h : Good d) : SeqAt.shaped d = true := nd_shaped h.1 (by decide)
def C_fits : FSpec := Ct (fun ss => ∃ (f : Str) (d : PyData), ss = [.d (.str f), .d d] ∧ Good d) fun ss r ss' => ss' = ss ∧ ∃ (f : Str) (d : PyData), ss = [.d (.str f), .d d] ∧ r = .d (.bool (fitsF f d))
theorem fits_ok (ss : List Sl) (Ex : XP) (P : R → List Sl → Prop) (h : C_fits ss Ex P) : fnW 2 2 (w_fits (One isWay)) ss Ex P := by
  obtain ⟨⟨f, d, rfl, hd⟩, k⟩ := h
  have kk := k _ _ ⟨rfl, f, d, rfl, rfl⟩
  have e0 : eqF (.d (.str f)) (.d (.str "kind")) = _ := eq_strs false f "kind"
  have e1 : eqF (.d (.str f)) (.d (.str "way")) = _ := eq_strs false f "way"
  refine And.intro rfl ?_
  rw [w_fits_eq]
  unfold t_fits_3
  pv_short
  refine Exists.intro _ (And.intro e0 ?_)
  rw [if_neg Bool.false_ne_true]
  unfold fitsF at kk
  by_cases hk : f = "kind"
  · rw [if_pos hk] at kk
    rw [decide_eq_true hk]
    pv_short
    unfold t_fits_2
    pv_short
    refine Exists.intro _ (And.intro (show inT false (.d d) (.d (.tuple [.str "drawer", .str "sheet"])) = some (.val (.bool (PyData.eqv (.str "drawer") d || PyData.eqv (.str "sheet") d))) from ?_) ?_)
    · show (if SeqAt.shaped d && SeqAt.shaped (.tuple [.str "drawer", .str "sheet"]) then some (Rv.val (.bool (if false then _ else ([.str "drawer", .str "sheet"] : List PyData).any fun z => PyData.eqv z d))) else _) = _
      rw [if_pos (by rw [good_sh hd]; decide +kernel), if_neg Bool.false_ne_true, List.any_cons, List.any_cons, List.any_nil, Bool.or_false]
    · pv_short
      exact kk
  · rw [if_neg hk] at kk
    rw [decide_eq_false hk]
    pv_short
    unfold t_fits_1
    show wCall 1 (One isWay) [false] (wCons (wVar 1) wNil) _ _ _
    refine one_call rfl hd ?_
    cases hW : isWay d with
    | false =>
      rw [hW] at kk
      pv_short
      exact kk
    | true =>
      rw [hW, Bool.true_and] at kk
      pv_short
      refine Exists.intro _ (And.intro e1 ?_)
      rw [if_neg Bool.false_ne_true]
      by_cases hy : f = "way"
      · rw [decide_eq_true hy] at kk ⊢
        rw [Bool.true_or] at kk
        pv_short
        exact kk
      · rw [decide_eq_false hy] at kk ⊢
        rw [Bool.false_or] at kk
        pv_short
        refine Exists.intro _ (And.intro (eq_shaped (neg := true) (d := d) (e := .tuple []) (good_sh hd) (by decide +kernel)) ?_)
        pv_short
        exact kk
theorem eqv_i (a b : Int) : PyData.eqv (.int a) (.int b) = decide (a = b) := by
  show (a == b) = _
  by_cases h : a = b
  · subst h; simp
  · rw [decide_eq_false h]; simpa using h
theorem zip_fp : ∀ (fs : List Str) (ps : List PyData), zipD (fs.map .str) ps = (fs.zip ps).map fun q => .tuple [.str q.1, q.2]
  | [], _ => rfl
  | _ :: _, [] => rfl
  | f :: fs, p :: ps => by
    show PyData.tuple [.str f, p] :: zipD (fs.map .str) ps = _
    rw [zip_fp fs ps]; rfl
theorem all_mapG {α : Type} (g : α → Bool) (xs : List α) : allF [.d (.list (xs.map fun y => .bool (g y)))] = some (.val (.bool (xs.all g))) := by
  have h := all_bools (xs.map g)
  rw [List.map_map, List.all_map] at h
  exact h
theorem head_at {x : PyData} {xs : List PyData} : idxF (.d (.tuple (x :: xs))) (.d (.int 0)) = some (.val x) := by
  show (atI (x :: xs) (0 : Int)).map Rv.val = _
  rw [show (0 : Int) = ((0 : Nat) : Int) from rfl, atI_nat (v := x) rfl]; rfl
theorem is_deed_ok (ss : List Sl) (Ex : XP) (P : R → List Sl → Prop) (h : One isDeed ss Ex P) : fnW 1 4 (w_is_deed C_fits C_form_of) ss Ex P := by
  obtain ⟨⟨d, rfl, hd⟩, k⟩ := h
  have kk := k (.d (.bool (isDeed d))) _ ⟨rfl, d, rfl, rfl⟩
  clear k
  refine And.intro rfl ?_
  rw [w_is_deed_eq]
  unfold t_is_deed_6
  cases d with
  | tuple xs =>
    cases xs with
    | nil =>
      pv_short
      unfold t_is_deed_5
      pv_short
      exact kk
    | cons x ps =>
      have hl := good_len hd
      have gx := good_tup hd
      pv_short
      refine Exists.intro _ (And.intro (eq_shaped (neg := false) (d := .tuple (x :: ps)) (e := .tuple []) (good_sh hd) (by decide +kernel)) ?_)
      pv_short
      refine Exists.intro _ (And.intro head_at ?_)
      cases x with
      | str w =>
        pv_short
        unfold t_is_deed_4
        refine call_d (d := .str w) (δ1 := [some (.d (.tuple (.str w :: ps))), none, none, none]) (fun Q h => by pv_short; exact Exists.intro _ (And.intro head_at h)) ⟨w, rfl⟩ fun r ss' ⟨e1, w', e2, e3⟩ => ⟨e1, ?_⟩
        have e4 : w = w' := PyData.str.inj (Sl.d.inj (List.cons.inj e2).1)
        subst e4 e3
        have kd : isDeed (.tuple (.str w :: ps)) = match formsOf w with
          | none => false
          | some fs => decide (ps.length = fs.length) && (fs.zip ps).all fun q => fitsF q.1 q.2 := rfl
        rw [kd] at kk
        cases hw : formsOf w with
        | none =>
          rw [hw] at kk
          pv_short
          show t_is_deed_3 C_fits C_form_of _ [some (.d (.tuple (.str w :: ps))), some (.d .none), none, none]
          unfold t_is_deed_3
          pv_short
          unfold t_is_deed_2
          pv_short
          exact kk
        | some fs =>
          rw [hw] at kk
          have kk : P (.d (.bool (decide (ps.length = fs.length) && (fs.zip ps).all fun q => fitsF q.1 q.2))) [.d (.tuple (.str w :: ps))] := kk
          obtain ⟨hs, h2⟩ := forms_in hw
          pv_short
          show t_is_deed_3 C_fits C_form_of _ [some (.d (.tuple (.str w :: ps))), some (.w (.tuple (fs.map .str))), none, none]
          unfold t_is_deed_3
          pv_short
          show (if (!PyData.eqv (.int (((PyData.str w :: ps).length : Nat) : Int)) (.int (1 + (((fs.map PyData.str).length : Nat) : Int)))) = true then _ else _)
          rw [eqv_i, List.length_cons, List.length_map]
          by_cases hn : ps.length = fs.length
          · rw [decide_eq_true hn, Bool.true_and] at kk
            rw [if_neg (by rw [decide_eq_true (by omega)]; decide)]
            show t_is_deed_1 C_fits C_form_of _ [some (.d (.tuple (.str w :: ps))), some (.w (.tuple (fs.map .str))), none, none]
            unfold t_is_deed_1
            pv_short
            refine Exists.intro ((fs.map .str, ps), [some (.d (.tuple (.str w :: ps))), some (.w (.tuple (fs.map .str))), none, none]) (And.intro ?_ ?_)
            · show ((if (fs.map PyData.str).all scalar = true then some (fs.map PyData.str, _) else none).bind fun p => _) = _
              rw [if_pos (by rw [List.all_map]; exact List.all_eq_true.mpr fun _ _ => rfl)]
              show some ((fs.map PyData.str, cutL (PyData.str w :: ps) (some 1) none), _) = _
              rw [show cutL (PyData.str w :: ps) (some 1) none = ps from (cut_from (j := 1) (by decide) (by rw [List.length_cons]; omega)).trans rfl]
            show wLcR (gT 2 (gsC (gN 2) (gsC (gN 3) gsN))) wYes _ [2, 3] (zipD (fs.map .str) ps) [] [some (.d (.tuple (.str w :: ps))), some (.w (.tuple (fs.map .str))), none, none] _
            rw [zip_fp]
            show wLcR (gT 2 (gsC (gN 2) (gsC (gN 3) gsN))) wYes _ [2, 3] ((fs.zip ps).map fun q => .tuple [.str q.1, q.2]) [] [some (.d (.tuple (.str w :: ps))), some (.w (.tuple (fs.map .str))), none, none] _
            refine lc_of (g := fun q : Str × PyData => PyData.tuple [.str q.1, q.2]) (xs := fs.zip ps) (δf := [some (.d (.tuple (.str w :: ps))), some (.w (.tuple (fs.map .str))), none, none]) (fun _ => true) (fun q => .bool (fitsF q.1 q.2)) rfl (by rw [sizeLine_eq, List.length_nil, List.length_zip]; omega) (fun q m Q Q' g1 g2 => ?_) fun δ' h' => ?_
            · have mq := List.of_mem_zip m
              pv_short
              show wCall 2 C_fits [false, false] (wCons (wVar 2) (wCons (wVar 3) wNil)) _ [some (.d (.tuple (.str w :: ps))), some (.w (.tuple (fs.map .str))), some (.d (.str q.1)), some (.d q.2)] _
              refine call_dd (d := .str q.1) (e := q.2) (δ1 := [some (.d (.tuple (.str w :: ps))), some (.w (.tuple (fs.map .str))), some (.d (.str q.1)), some (.d q.2)]) (δ2 := [some (.d (.tuple (.str w :: ps))), some (.w (.tuple (fs.map .str))), some (.d (.str q.1)), some (.d q.2)]) (fun Q h => by pv_short; exact h) (fun Q h => by pv_short; exact h) ⟨q.1, q.2, rfl, gx _ (List.mem_cons_of_mem _ mq.2)⟩ fun r ss' ⟨e1, f', d', e2, e3⟩ => ⟨e1, ?_⟩
              have e4 : q.1 = f' := PyData.str.inj (Sl.d.inj (List.cons.inj e2).1)
              have e5 : q.2 = d' := Sl.d.inj (List.cons.inj (List.cons.inj e2).2).1
              rw [e3, ← e4, ← e5]
              exact g1 rfl _ rfl
            · rw [List.nil_append, h', show (fs.zip ps).filter (fun _ => true) = fs.zip ps from List.filter_eq_self.mpr fun _ _ => rfl]
              pv_short
              refine Exists.intro _ (And.intro (show allF [.d (.list ((fs.zip ps).map fun q => .bool (fitsF q.1 q.2)))] = some (.val (.bool ((fs.zip ps).all fun q => fitsF q.1 q.2))) from all_mapG ..) ?_)
              pv_short
              exact kk
          · rw [decide_eq_false hn, Bool.false_and] at kk
            rw [if_pos (by rw [decide_eq_false (by omega)]; rfl)]
            unfold t_is_deed_2
            pv_short
            exact kk
      | _ =>
        pv_short
        unfold t_is_deed_5
        pv_short
        exact kk
  | _ =>
    pv_short
    unfold t_is_deed_5
    pv_short
    exact kk
end V05
set_option Elab.async false
set_option linter.all false
set_option maxRecDepth 100000
set_option maxHeartbeats 1000000
set_option autoImplicit false
set_option exponentiation.threshold 20000
namespace V05
open PySem PySem.Spec PyProof.Rows L2 DL
local macro_rules | `(tactic| pv_short) => `(tactic| repeat first | refine Exists.intro _ (And.intro rfl ?_) | refine ifT rfl ?_ | refine ifF rfl ?_ | refine Exists.intro _ (And.intro (if_pos (by first | assumption | decide | exact ⟨by assumption, by decide⟩ | exact ⟨by assumption, by assumption⟩)) ?_) | refine And.intro (show List.length _ ≤ sizeLine from Nat.le_of_ble_eq_true rfl) ?_ | refine And.intro (Nat.le_of_ble_eq_true rfl) ?_)
def wdF : PyData → Int → Bool
  | .tuple xs, l => !decide ((xs.length : Int) < l) && xs.all isName
  | _, _ => false
def C_way_due : FSpec := Ct (fun ss => ∃ (d : PyData) (l : Int), ss = [.d d, .d (.int l)] ∧ Good d) fun ss r ss' => ss' = ss ∧ ∃ (d : PyData) (l : Int), ss = [.d d, .d (.int l)] ∧ r = .d (.bool (wdF d l))
theorem str_len {x : Str} (h : x.length ≤ sizeLine) : lenX [.d (.str x)] = some (.val (.int (x.length : Int))) := by
  show (if x.length ≤ sizeLine then some x.length else none).map _ = _
  rw [if_pos h]
  rfl
theorem fil_nil {α : Type} {p : α → Bool} {f : α → PyData} (xs : List α) : PyData.eqv (.list ((xs.filter p).map f)) (.list []) = xs.all fun x => !p x := by
  cases h : xs.all fun x => !p x with
  | true =>
    rw [List.filter_eq_nil_iff.mpr fun x m => by have := List.all_eq_true.mp h x m; simpa using this]; rfl
  | false =>
    cases e : xs.filter p with
    | nil =>
      rw [List.filter_eq_nil_iff] at e
      rw [List.all_eq_true.mpr fun x m => by simpa using e x m] at h; cases h
    | cons y ys => rfl
theorem for_ofI {G : WG} {body : WS} {xs : List PyData} {d : DEnds} (I : List PyData → SEnv → Prop) (fin : ∀ δ, I xs δ → d.nx δ)
    (step : ∀ (pre : List PyData) (x : PyData) (post : List PyData) (δ : SEnv) (Q : SEnv → Prop), xs = pre ++ x :: post → I pre δ → (∀ δ', I (pre ++ [x]) δ' → Q δ') → ob (G x δ) fun δ1 => body { d with nx := Q, bk := d.nx, ct := Q } δ1)
    {δ : SEnv} (h : I [] δ) : wForR G body xs d δ := by
  have := for_of (g := fun x : PyData => x) (G := G) (body := body) (xs := xs) (d := d) I fin step h
  rwa [List.map_id'] at this
theorem isName_str (x : Str) : isName (.str x) = (decide (1 ≤ x.length) && decide (x.length ≤ 8) && x.cps.toList.all nameC) := rfl
theorem way_due_ok (ss : List Sl) (Ex : XP) (P : R → List Sl → Prop) (h : C_way_due ss Ex P) : fnW 2 4 w_way_due ss Ex P := by
  obtain ⟨⟨d, l, rfl, hd⟩, k⟩ := h
  have kk := k (.d (.bool (wdF d l))) _ ⟨rfl, d, l, rfl, rfl⟩
  clear k
  refine And.intro rfl ?_
  rw [w_way_due_eq]
  unfold t_way_due_8
  cases d with
  | tuple xs =>
    have hl := good_len hd
    have ew : wdF (.tuple xs) l = (!decide ((xs.length : Int) < l) && xs.all isName) := rfl
    rw [ew] at kk
    pv_short
    show (if decide (((xs.length : Nat) : Int) < l) = true then _ else _)
    refine ite2 (fun e => ?_) (fun e => ?_)
    · rw [e] at kk
      unfold t_way_due_7
      pv_short
      exact kk
    · rw [Bool.eq_false_iff.mpr e, Bool.not_false, Bool.true_and] at kk
      pv_short
      unfold t_way_due_6
      pv_short
      refine for_ofI (fun pre δ => ∃ x2, δ = [some (.d (.tuple xs)), some (.d (.int l)), x2, none] ∧ pre.all isName = true) (fun δ hI => ?_) (fun pre x post δ Q eS hI hQ => ?_) ⟨none, rfl, rfl⟩
      · obtain ⟨x2, rfl, hp⟩ := hI
        rw [hp] at kk
        unfold t_way_due_1
        pv_short
        exact kk
      · obtain ⟨x2, rfl, hp⟩ := hI
        have eS : xs = pre ++ x :: post := eS
        have mx : x ∈ xs := by rw [eS]; simp
        have gx := good_tup hd x mx
        have no : isName x = false → P (.d (.bool false)) [.d (.tuple xs), .d (.int l)] := fun z => by
          have : xs.all isName = false := by rw [eS, List.all_append, List.all_cons, z, Bool.false_and, Bool.and_false]
          rwa [this] at kk
        have yes : isName x = true → Q [some (.d (.tuple xs)), some (.d (.int l)), some (.d x), none] := fun z => hQ _ ⟨_, rfl, by rw [List.all_append, hp, List.all_cons, z]; rfl⟩
        refine Exists.intro _ (And.intro rfl ?_)
        unfold t_way_due_5
        cases x with
        | str x =>
          have lx := good_str gx
          pv_short
          refine Exists.intro _ (And.intro (str_len lx) ?_)
          pv_short
          show (if (decide ((0 : Int) < ((x.length : Nat) : Int))) = true then _ else _)
          have wrong : ¬ (1 ≤ x.length ∧ x.length ≤ 8) → t_way_due_4 { nx := t_way_due_3 { nx := Q, rt := fun r δ => ob (retR δ r) fun r' => ob (finals [Sl.d (.tuple xs), .d (.int l)] δ) fun ss' => P r' ss', bk := t_way_due_1 { nx := fun δ => ob (retR δ (.d .none)) fun r' => ob (finals [Sl.d (.tuple xs), .d (.int l)] δ) fun ss' => P r' ss', rt := fun r δ => ob (retR δ r) fun r' => ob (finals [Sl.d (.tuple xs), .d (.int l)] δ) fun ss' => P r' ss', bk := fun _ => False, ct := fun _ => False, ex := Ex }, ct := Q, ex := Ex }, rt := fun r δ => ob (retR δ r) fun r' => ob (finals [Sl.d (.tuple xs), .d (.int l)] δ) fun ss' => P r' ss', bk := t_way_due_1 { nx := fun δ => ob (retR δ (.d .none)) fun r' => ob (finals [Sl.d (.tuple xs), .d (.int l)] δ) fun ss' => P r' ss', rt := fun r δ => ob (retR δ r) fun r' => ob (finals [Sl.d (.tuple xs), .d (.int l)] δ) fun ss' => P r' ss', bk := fun _ => False, ct := fun _ => False, ex := Ex }, ct := Q, ex := Ex } [some (.d (.tuple xs)), some (.d (.int l)), some (.d (.str x)), none] := fun z => by
            have := no (by
              rw [isName_str]
              by_cases a : 1 ≤ x.length
              · rw [decide_eq_true a, decide_eq_false (fun b => z ⟨a, b⟩)]; rfl
              · rw [decide_eq_false a]; rfl)
            unfold t_way_due_4
            pv_short
            exact this
          refine ite2 (fun e1 => ?_) (fun e1 => ?_)
          · pv_short
            show (if (!(decide (((x.length : Nat) : Int) < 9))) = true then _ else _)
            have a1 : 1 ≤ x.length := by have := of_decide_eq_true e1; omega
            refine ite2 (fun e2 => ?_) (fun e2 => ?_)
            · pv_short
              exact wrong fun z => by rw [decide_eq_true (show ((x.length : Nat) : Int) < 9 by omega)] at e2; cases e2
            · have a2 : x.length ≤ 8 := by
                cases z : decide (((x.length : Nat) : Int) < 9) with
                | true => have := of_decide_eq_true z; omega
                | false => rw [z] at e2; exact absurd rfl e2
              unfold t_way_due_3
              pv_short
              show wLcR (gN 3) _ _ [3] (x.cps.toList.map fun c => .str ⟨#[c]⟩) [] [some (.d (.tuple xs)), some (.d (.int l)), some (.d (.str x)), none] _
              refine lc_of (g := fun c : Nat => PyData.str ⟨#[c]⟩) (xs := x.cps.toList) (δf := [some (.d (.tuple xs)), some (.d (.int l)), some (.d (.str x)), none]) (fun c => !nameC c) (fun c : Nat => .str ⟨#[c]⟩) rfl (by rw [sizeLine_eq, List.length_nil, Array.length_toList]; show 0 + x.length ≤ _; omega) (fun c m Q1 Q2 g1 g2 => ?_) fun δ' h' => ?_
              · pv_short
                show (if decide (((c : Nat) : Int) < 97) = true then _ else _)
                refine ite2 (fun e3 => ?_) (fun e3 => ?_)
                · have : c < 97 := by have := of_decide_eq_true e3; omega
                  have : (!nameC c) = true := by unfold nameC; rw [decide_eq_false (show ¬ 97 ≤ c by omega)]; rfl
                  pv_short
                  exact g1 this _ rfl
                · have h3 : 97 ≤ c := by have : ¬ (((c : Nat) : Int) < 97) := fun z => e3 (decide_eq_true z); omega
                  pv_short
                  show (if decide ((122 : Int) < ((c : Nat) : Int)) = true then _ else _)
                  refine ite2 (fun e4 => ?_) (fun e4 => ?_)
                  · have : 122 < c := by have := of_decide_eq_true e4; omega
                    have : (!nameC c) = true := by unfold nameC; rw [decide_eq_false (show ¬ c ≤ 122 by omega), Bool.and_false]; rfl
                    pv_short
                    exact g1 this _ rfl
                  · have : ¬ 122 < c := fun z => e4 (decide_eq_true (by omega))
                    have : (!nameC c) = false := by unfold nameC; rw [decide_eq_true h3, decide_eq_true (show c ≤ 122 by omega)]; rfl
                    exact g2 this _ rfl
              · rw [List.nil_append, h']
                pv_short
                refine Exists.intro _ (And.intro (eq_shaped (neg := true) (d := .list ((x.cps.toList.filter fun c => !nameC c).map fun c : Nat => .str ⟨#[c]⟩)) (e := .list []) (nd_shaped (N := 1) (D := 1) (nd_lst fun y m => ?_) (by decide)) (by rfl)) ?_)
                · obtain ⟨c, mc, rfl⟩ := List.mem_map.mp m
                  have okx := gx.1.str
                  exact nd_str (ok_mem.mpr fun c' m' => by
                    have m' : c' ∈ [c] := m'
                    rw [List.mem_singleton] at m'; subst m'
                    exact ok_mem.mp okx _ (List.mem_filter.mp mc).1)
                · pv_short
                  rw [fil_nil]
                  have eA : (x.cps.toList.all fun c => !(!nameC c)) = x.cps.toList.all nameC := by congr 1; funext c; rw [Bool.not_not]
                  rw [eA]
                  have eN : isName (.str x) = x.cps.toList.all nameC := by rw [isName_str, decide_eq_true a1, decide_eq_true a2]; rfl
                  rw [← eN]
                  refine ite2 (fun e5 => ?_) (fun e5 => ?_)
                  · unfold t_way_due_2
                    have := no (by cases z : isName (.str x) with | false => rfl | true => rw [z] at e5; cases e5)
                    pv_short
                    exact this
                  · pv_short
                    exact yes (by cases z : isName (.str x) with | true => rfl | false => rw [z] at e5; exact absurd rfl e5)
          · pv_short
            exact wrong fun z => e1 (decide_eq_true (by omega))
        | _ =>
          have := no rfl
          pv_short
          unfold t_way_due_4
          pv_short
          exact this
  | _ =>
    pv_short
    unfold t_way_due_7
    pv_short
    exact kk
end V05
set_option Elab.async false
set_option linter.all false
set_option maxRecDepth 100000
set_option maxHeartbeats 1000000
set_option autoImplicit false
set_option exponentiation.threshold 20000
namespace V05
open PySem PySem.Spec PyProof.Rows L2 DL
local macro_rules | `(tactic| pv_short) => `(tactic| repeat first | refine Exists.intro _ (And.intro rfl ?_) | refine ifT rfl ?_ | refine ifF rfl ?_ | refine Exists.intro _ (And.intro (if_pos (by first | assumption | decide | exact ⟨by assumption, by decide⟩ | exact ⟨by assumption, by assumption⟩)) ?_) | refine And.intro (show List.length _ ≤ sizeLine from Nat.le_of_ble_eq_true rfl) ?_ | refine And.intro (Nat.le_of_ble_eq_true rfl) ?_)
def sortD (f : Str) : PyData := if f = "way" then .int 0 else if f = "named" then .int 1 else .str "kind"
abbrev i2 : PyData := .tuple [.int 1, .int 1]
abbrev fk : List (Key × PyData) := [(.inr "look", .tuple [.int 0]), (.inr "list", .tuple [.int 0]), (.inr "make", .tuple [.int 1, .str "kind"]), (.inr "drop", .tuple [.int 1]), (.inr "link", i2), (.inr "move", i2), (.inr "swap", i2)]
theorem inr_ne {a b : Str} (h : ¬ a = b) : (decide ((Sum.inr b : Key) = .inr a)) = false := decide_eq_false fun z => h (by injection z with z; exact z.symm)
theorem fk_look (w : Str) : lookD fk (.inr w) = (formsOf w).map fun fs => .tuple (fs.map sortD) := by
  unfold formsOf fk lookD
  by_cases h1 : w = "look"
  · subst h1; rfl
  rw [List.find?_cons, inr_ne h1, if_neg h1]
  by_cases h2 : w = "list"
  · subst h2; rfl
  rw [List.find?_cons, inr_ne h2, if_neg h2]
  by_cases h3 : w = "make"
  · subst h3; rfl
  rw [List.find?_cons, inr_ne h3, if_neg h3]
  by_cases h4 : w = "drop"
  · subst h4; rfl
  rw [List.find?_cons, inr_ne h4, if_neg h4]
  by_cases h5 : w = "link"
  · subst h5; rfl
  rw [List.find?_cons, inr_ne h5, if_neg h5]
  by_cases h6 : w = "move"
  · subst h6; rfl
  rw [List.find?_cons, inr_ne h6, if_neg h6]
  by_cases h7 : w = "swap"
  · subst h7; rfl
  rw [List.find?_cons, inr_ne h7, if_neg h7]
  rfl
theorem zip_fs : ∀ (fs : List Str) (ps : List PyData), zipD (fs.map sortD) ps = (fs.zip ps).map fun q => .tuple [sortD q.1, q.2]
  | [], _ => rfl
  | _ :: _, [] => rfl
  | f :: fs, p :: ps => by
    show PyData.tuple [sortD f, p] :: zipD (fs.map sortD) ps = _
    rw [zip_fs fs ps]; rfl
theorem inT_s {x : Str} {ys : List PyData} (hs : ys.all scalar = true) : inT true (.d (.str x)) (.d (.tuple ys)) = some (.val (.bool (!(ys.any fun z => PyData.eqv z (.str x))))) := by
  show (if _ then some _ else inN true (.d (.str x)) (.d (.tuple ys))) = _
  by_cases h : (SeqAt.shaped (.str x) && SeqAt.shaped (.tuple ys)) = true
  · rw [if_pos h]; rfl
  · rw [if_neg h]
    show (inB (.d (.str x)) (.d (.tuple ys))).map _ = _
    show (if scalar (.str x) && ys.all scalar then some (ys.any fun z => PyData.eqv z (.str x)) else none).map _ = _
    rw [hs]; rfl
theorem kind_shown {d : PyData} (hp : plainD d = true) : (PyData.eqv (.str "'drawer'") (.str d.shown) || PyData.eqv (.str "'sheet'") (.str d.shown)) = (PyData.eqv (.str "drawer") d || PyData.eqv (.str "sheet") d) := by
  have key : ∀ (a b : Str), plainD (.str a) = true → (PyData.str a).shown = b → PyData.eqv (.str b) (.str d.shown) = PyData.eqv (.str a) d := fun a b ha hb => by
    rw [eqv_s]
    by_cases h : d = .str a
    · subst h
      rw [hb, decide_eq_true rfl]
      show true = (a == a)
      simp
    · rw [decide_eq_false fun z => h (shown_inj hp ha (by rw [← z, hb]))]
      cases d with
      | str y =>
        show false = (a == y)
        have : a ≠ y := fun z => h (by rw [z])
        simpa using this
      | _ => rfl
  rw [key "drawer" "'drawer'" (by decide +kernel) (by decide +kernel), key "sheet" "'sheet'" (by decide +kernel) (by decide +kernel)]
theorem wd_way (d : PyData) : wdF d 0 = isWay d := by
  cases d with
  | tuple xs =>
    show (!decide ((xs.length : Int) < 0) && xs.all isName) = xs.all isName
    rw [decide_eq_false (by omega)]; rfl
  | _ => rfl
theorem wd_named (d : PyData) : wdF d 1 = (isWay d && !PyData.eqv d (.tuple [])) := by
  cases d with
  | tuple xs =>
    show (!decide ((xs.length : Int) < 1) && xs.all isName) = (xs.all isName && _)
    cases xs with
    | nil => rfl
    | cons x xs =>
      rw [decide_eq_false (show ¬ (((x :: xs).length : Nat) : Int) < 1 by rw [List.length_cons]; omega)]
      show (true && _) = (_ && true)
      rw [Bool.true_and, Bool.and_true]
  | _ => rfl
theorem good_show {d : PyData} (h : Good d) : showOk d = true := nd_show h.1 (Nat.pow_lt_pow_right (by decide) (by decide)) (by decide) h.2 (by decide)
theorem repr_ok {d : PyData} (h : showOk d = true) : reprF [.d d] = some (.val (.str d.shown)) := by
  unfold reprF
  show (if showOk d = true then some (Rv.val (.str d.shown)) else none) = _
  rw [if_pos h]
def C_due : FSpec := Ct (fun ss => ∃ d, ss = [.d d] ∧ Good d ∧ plainD d = true) fun ss r ss' => ss' = ss ∧ ∃ d, ss = [.d d] ∧ r = .d (.bool (isDeed d))
theorem forms_mem {w : Str} {fs : List Str} (h : formsOf w = some fs) : ∀ f ∈ fs, f = "way" ∨ f = "named" ∨ f = "kind" := fun f m => by
  have := (forms_in h).1 f m
  simpa [sorts] using this
theorem due_5 {d : DEnds} {f : Str} {p t : PyData} {kvs : List (Key × PyData)} (hf : f = "way" ∨ f = "named" ∨ f = "kind") (hp : Good p) (pl : plainD p = true)
    (yes : fitsF f p = true → d.nx [some (.d t), some (.o false (.k kvs)), some (.d (sortD f)), some (.d p)])
    (no : fitsF f p = false → d.rt (.d (.bool false)) [some (.d t), some (.o false (.k kvs)), some (.d (sortD f)), some (.d p)]) :
    t_due_5 C_way_due d [some (.d t), some (.o false (.k kvs)), some (.d (sortD f)), some (.d p)] := by
  have t3 : f = "way" ∨ f = "named" → t_due_3 C_way_due d [some (.d t), some (.o false (.k kvs)), some (.d (sortD f)), some (.d p)] := fun h => by
    obtain ⟨l, el, ef⟩ : ∃ l : Int, sortD f = .int l ∧ fitsF f p = wdF p l := by
      rcases h with rfl | rfl
      · exact ⟨0, rfl, by rw [wd_way]; unfold fitsF; rw [if_neg (by decide +kernel), decide_eq_true rfl, Bool.true_or, Bool.and_true]⟩
      · exact ⟨1, rfl, by rw [wd_named]; unfold fitsF; rw [if_neg (by decide +kernel), decide_eq_false (by decide +kernel), Bool.false_or]⟩
    rw [ef] at yes no
    rw [el] at yes no ⊢
    unfold t_due_3
    pv_short
    refine Exists.intro _ (And.intro (eq_shaped (neg := true) (d := .int l) (e := .str "kind") (by rfl) (by decide +kernel)) ?_)
    pv_short
    refine call_dd (d := p) (e := .int l) (δ1 := [some (.d t), some (.o false (.k kvs)), some (.d (.int l)), some (.d p)]) (δ2 := [some (.d t), some (.o false (.k kvs)), some (.d (.int l)), some (.d p)]) (fun Q h => by pv_short; exact h) (fun Q h => by pv_short; exact h) ⟨p, l, rfl, hp⟩ fun r ss' ⟨e1, d', l', e2, e3⟩ => ⟨e1, ?_⟩
    simp only [List.cons.injEq, Sl.d.injEq, PyData.int.injEq, and_true] at e2
    obtain ⟨rfl, rfl⟩ := e2
    subst e3
    cases hw : wdF p l with
    | true =>
      pv_short
      exact yes hw
    | false =>
      pv_short
      unfold t_due_2
      pv_short
      exact no hw
  unfold t_due_5
  rcases hf with rfl | rfl | rfl
  · pv_short
    refine Exists.intro _ (And.intro (eq_shaped (neg := false) (d := sortD "way") (e := .str "kind") (by decide +kernel) (by decide +kernel)) ?_)
    pv_short
    exact t3 (.inl rfl)
  · pv_short
    refine Exists.intro _ (And.intro (eq_shaped (neg := false) (d := sortD "named") (e := .str "kind") (by decide +kernel) (by decide +kernel)) ?_)
    pv_short
    exact t3 (.inr rfl)
  · have ek : sortD "kind" = .str "kind" := rfl
    have ef : fitsF "kind" p = (PyData.eqv (.str "drawer") p || PyData.eqv (.str "sheet") p) := by unfold fitsF; rw [if_pos rfl]
    rw [ef] at yes no
    rw [ek] at yes no ⊢
    pv_short
    refine Exists.intro _ (And.intro (eq_shaped (neg := false) (d := .str "kind") (e := .str "kind") (by decide +kernel) (by decide +kernel)) ?_)
    rw [show (if false = true then !PyData.eqv (.str "kind") (.str "kind") else PyData.eqv (.str "kind") (.str "kind")) = true by decide +kernel]
    pv_short
    refine Exists.intro _ (And.intro (repr_ok (good_show hp)) ?_)
    pv_short
    refine Exists.intro _ (And.intro (inT_s (x := p.shown) (ys := [.str "'drawer'", .str "'sheet'"]) rfl) ?_)
    have ea : ([.str "'drawer'", .str "'sheet'"] : List PyData).any (fun z => PyData.eqv z (.str p.shown)) = (PyData.eqv (.str "drawer") p || PyData.eqv (.str "sheet") p) := by
      rw [List.any_cons, List.any_cons, List.any_nil, Bool.or_false, kind_shown pl]
    rw [ea]
    cases hw : (PyData.eqv (.str "drawer") p || PyData.eqv (.str "sheet") p) with
    | true =>
      pv_short
      unfold t_due_3
      pv_short
      refine Exists.intro _ (And.intro (eq_shaped (neg := true) (d := .str "kind") (e := .str "kind") (by decide +kernel) (by decide +kernel)) ?_)
      rw [show (if true = true then !PyData.eqv (.str "kind") (.str "kind") else PyData.eqv (.str "kind") (.str "kind")) = false by decide +kernel]
      pv_short
      exact yes hw
    | false =>
      pv_short
      unfold t_due_4
      pv_short
      exact no hw
theorem due_ok (ss : List Sl) (Ex : XP) (P : R → List Sl → Prop) (h : C_due ss Ex P) : fnW 1 4 (w_due C_way_due) ss Ex P := by
  obtain ⟨⟨d, rfl, hd, pl⟩, k⟩ := h
  have kk := k (.d (.bool (isDeed d))) _ ⟨rfl, d, rfl, rfl⟩
  clear k
  refine And.intro rfl ?_
  rw [w_due_eq]
  unfold t_due_12
  cases d with
  | tuple xs =>
    cases xs with
    | nil =>
      pv_short
      unfold t_due_11
      pv_short
      exact kk
    | cons x ps =>
      have hl := good_len hd
      have gx := good_tup hd
      have px := plain_all.mp (show plainDs (x :: ps) = true from pl)
      pv_short
      refine Exists.intro _ (And.intro (eq_shaped (neg := false) (d := .tuple (x :: ps)) (e := .tuple []) (good_sh hd) (by decide +kernel)) ?_)
      pv_short
      refine Exists.intro _ (And.intro head_at ?_)
      cases x with
      | str w =>
        pv_short
        unfold t_due_10
        pv_short
        unfold t_due_9
        pv_short
        show t_due_8 C_way_due _ [some (.d (.tuple (.str w :: ps))), some (.o false (.k fk)), none, none]
        unfold t_due_8
        pv_short
        refine Exists.intro _ (And.intro head_at ?_)
        pv_short
        show (if (!(lookD fk (.inr w)).isSome) = true then _ else _)
        rw [fk_look]
        have kd : isDeed (.tuple (.str w :: ps)) = match formsOf w with
          | none => false
          | some fs => decide (ps.length = fs.length) && (fs.zip ps).all fun q => fitsF q.1 q.2 := rfl
        rw [kd] at kk
        cases hw : formsOf w with
        | none =>
          rw [hw] at kk
          pv_short
          unfold t_due_7
          pv_short
          exact kk
        | some fs =>
          rw [hw] at kk
          have kk : P (.d (.bool (decide (ps.length = fs.length) && (fs.zip ps).all fun q => fitsF q.1 q.2))) [.d (.tuple (.str w :: ps))] := kk
          obtain ⟨hs, h2⟩ := forms_in hw
          have fm := forms_mem hw
          have hk : idxF (.k fk) (.d (.str w)) = some (.val (.tuple (fs.map sortD))) := by
            show ((some (lookD fk (.inr w))).bind id).map Rv.val = _
            rw [fk_look, hw]; rfl
          pv_short
          refine Exists.intro _ (And.intro head_at ?_)
          pv_short
          refine Exists.intro _ (And.intro hk ?_)
          pv_short
          show (if (!PyData.eqv (.int (((PyData.str w :: ps).length : Nat) : Int)) (.int (1 + (((fs.map sortD).length : Nat) : Int)))) = true then _ else _)
          rw [eqv_i, List.length_cons, List.length_map]
          by_cases hn : ps.length = fs.length
          · rw [decide_eq_true hn, Bool.true_and] at kk
            rw [if_neg (by rw [decide_eq_true (by omega)]; decide)]
            show t_due_6 C_way_due _ [some (.d (.tuple (.str w :: ps))), some (.o false (.k fk)), none, none]
            unfold t_due_6
            pv_short
            refine Exists.intro _ (And.intro head_at ?_)
            pv_short
            refine Exists.intro _ (And.intro hk ?_)
            pv_short
            show wForR (gT 2 (gsC (gN 2) (gsC (gN 3) gsN))) (t_due_5 C_way_due) (zipD (fs.map sortD) (cutL (PyData.str w :: ps) (some 1) none)) _ [some (.d (.tuple (.str w :: ps))), some (.o false (.k fk)), none, none]
            rw [show cutL (PyData.str w :: ps) (some 1) none = ps from (cut_from (j := 1) (by decide) (by rw [List.length_cons]; omega)).trans rfl, zip_fs]
            refine for_of (g := fun q : Str × PyData => PyData.tuple [sortD q.1, q.2]) (xs := fs.zip ps) (I := fun pre δ => ∃ x2 x3, δ = [some (.d (.tuple (.str w :: ps))), some (.o false (.k fk)), x2, x3] ∧ (pre.all fun q => fitsF q.1 q.2) = true) (fun δ hI => ?_) (fun pre q post δ Q eS hI hQ => ?_) ⟨none, none, rfl, rfl⟩
            · obtain ⟨x2, x3, rfl, hp⟩ := hI
              rw [hp] at kk
              unfold t_due_1
              pv_short
              exact kk
            · obtain ⟨x2, x3, rfl, hp⟩ := hI
              have mq : q ∈ fs.zip ps := by rw [eS]; simp
              have mz := List.of_mem_zip mq
              pv_short
              refine due_5 (fm _ mz.1) (gx _ (List.mem_cons_of_mem _ mz.2)) (px _ (List.mem_cons_of_mem _ mz.2)) (fun z => hQ _ ⟨_, _, rfl, by rw [List.all_append, hp, List.all_cons, z]; rfl⟩) fun z => ?_
              have : ((fs.zip ps).all fun q => fitsF q.1 q.2) = false := by rw [eS, List.all_append, List.all_cons, z, Bool.false_and, Bool.and_false]
              rw [this] at kk
              pv_short
              exact kk
          · rw [decide_eq_false hn, Bool.false_and] at kk
            rw [if_pos (by rw [decide_eq_false (by omega)]; rfl)]
            unfold t_due_7
            pv_short
            exact kk
      | _ =>
        pv_short
        unfold t_due_11
        pv_short
        exact kk
  | _ =>
    pv_short
    unfold t_due_11
    pv_short
    exact kk
end V05
set_option Elab.async false
set_option linter.all false
set_option maxRecDepth 100000
set_option maxHeartbeats 1000000
set_option autoImplicit false
set_option exponentiation.threshold 20000
namespace V05
open PySem PySem.Spec PyProof.Rows L2 DL
local macro_rules | `(tactic| pv_short) => `(tactic| repeat first | refine Exists.intro _ (And.intro rfl ?_) | refine ifT rfl ?_ | refine ifF rfl ?_ | refine Exists.intro _ (And.intro (if_pos (by first | assumption | decide | exact ⟨by assumption, by decide⟩ | exact ⟨by assumption, by assumption⟩)) ?_) | refine And.intro (show List.length _ ≤ sizeLine from Nat.le_of_ble_eq_true rfl) ?_ | refine And.intro (Nat.le_of_ble_eq_true rfl) ?_)
def ThP (d : PyData) : Prop := Nd 1000 3 d ∧ plainD d = true
def ThE (b : Nat) (d : PyData) : Prop := Nd 1000 4 d ∧ plainD d = true ∧ d.bulk ≤ b
theorem th_tup {b : Nat} {ys : List PyData} (h : ∀ y ∈ ys, ThP y) (hb : PyData.bulkAll ys ≤ b) : ThE b (.tuple ys) := ⟨nd_tup fun y m => (h y m).1, plain_all.mpr fun y m => (h y m).2, by simp only [PyData.bulk]; exact hb⟩
theorem th_lst {b : Nat} {ys : List PyData} (h : ∀ y ∈ ys, ThP y) (hb : PyData.bulkAll ys ≤ b) : ThE b (.list ys) := ⟨nd_lst fun y m => (h y m).1, plain_all.mpr fun y m => (h y m).2, by simp only [PyData.bulk]; exact hb⟩
structure Dx (xs : List PyData) : Prop where
  lo : 2 ≤ xs.length
  hi : xs.length ≤ 3
  ok : ∀ y ∈ xs, Nd 1000 2 y ∧ plainD y = true
  bk : PyData.bulkAll xs ≤ 80
theorem Dx.p {xs : List PyData} (h : Dx xs) : ∀ y ∈ xs, ThP y := fun y m => ⟨(h.ok y m).1.mono (Nat.le_refl _) (by decide), (h.ok y m).2⟩
def C_near : FSpec := Ct (fun ss => ∃ kvs xs, ss = [.o true (.k kvs), .d (.tuple xs)] ∧ Fd kvs ∧ Dx xs)
  fun ss r ss' => ∃ kvs kvs' xs L, ss = [.o true (.k kvs), .d (.tuple xs)] ∧ ss' = [.o true (.k kvs'), .d (.tuple xs)] ∧ Fd kvs' ∧ r = .n (.l L) ∧ L.length ≤ 30 ∧ PyData.bulkAll L ≤ 6000 ∧ ∀ d ∈ L, Nd (10 ^ 61) 8 d ∧ plainD d = true
abbrev nE (kvs : List (Key × PyData)) (xs L : List PyData) (x3 x4 x5 x6 : Option Sl) : SEnv := [some (.o true (.k kvs)), some (.d (.tuple xs)), some (.o false (.l L)), x3, x4, x5, x6]
def odd8 : List PyData := [.tuple [], .tuple [.str ""], .tuple [.str "a", .int 1], .list [.str "a"], .str "a", .tuple [.str "A"], .tuple [.str "abcdefghi"], .tuple [.str "abcdefgh", .str "abcdefgh", .str "abcdefgh", .str "abcdefgh", .str "abcdefgh"]]
def odd11 : List PyData := odd8 ++ [.str "drawer", .str "sheet", .str "Sheet"]
def w10 : List PyData := [.str "look", .str "list", .str "make", .str "drop", .str "link", .str "move", .str "swap", .str "Look", .str "", .none]
def thPB (b : Nat) (d : PyData) : Bool := d.canLay0 && intsB 1000 d && decide (d.depth ≤ 3) && decide (d.bulk ≤ b) && plainD d
theorem thPB_ok {b : Nat} {d : PyData} (h : thPB b d = true) : ThP d ∧ d.bulk ≤ b := by
  unfold thPB at h
  simp only [Bool.and_eq_true, decide_eq_true_eq] at h
  exact ⟨⟨⟨h.1.1.1.1, h.1.1.1.2, h.1.1.2⟩, h.2⟩, h.1.2⟩
theorem odd11_ok : ∀ d ∈ odd11, ThP d ∧ d.bulk ≤ 45 := fun d m => thPB_ok (by
  have : odd11.all (thPB 45) = true := by decide +kernel
  exact List.all_eq_true.mp this d m)
theorem w10_ok : ∀ d ∈ w10, ThP d ∧ d.bulk ≤ 6 := fun d m => thPB_ok (by
  have : w10.all (thPB 6) = true := by decide +kernel
  exact List.all_eq_true.mp this d m)
theorem ba_one (d : PyData) : PyData.bulkAll [d] = d.bulk + 1 := by simp [PyData.bulkAll]
theorem ba_le {b : Nat} : ∀ {L : List PyData}, (∀ d ∈ L, d.bulk ≤ b) → PyData.bulkAll L ≤ (b + 1) * L.length
  | [], _ => Nat.zero_le _
  | d :: L, h => by
    have h1 := h d (List.mem_cons_self ..)
    have h2 := ba_le (L := L) fun y m => h y (List.mem_cons_of_mem _ m)
    simp only [PyData.bulkAll, List.length_cons, Nat.mul_succ]
    omega
theorem pb_of {xs : List PyData} (h : Dx xs) : Pb 10 (.tuple xs) := by
  have hn : Nd 1000 3 (.tuple xs) := nd_tup fun y m => (h.ok y m).1
  refine ⟨⟨10 ^ 60, Nat.le_refl _, Nat.pow_lt_pow_right (by decide) (by decide), hn.mono (Nat.le_trans (by decide : 1000 ≤ 10 ^ 3) (Nat.pow_le_pow_right (by decide) (by decide))) (by decide)⟩, ?_, ?_, plain_all.mpr fun y m => (h.ok y m).2⟩
  · simp only [PyData.bulk]; have := h.bk; omega
  · have := hn.dep; omega
theorem near_1 {d : DEnds} {kvs : List (Key × PyData)} {xs L : List PyData} {x3 x4 x5 x6 : Option Sl} (hf : Fd kvs) (hx : Dx xs) (lL : L.length ≤ 28) (bL : PyData.bulkAll L ≤ 3700) (hL : ∀ d ∈ L, Nd (10 ^ 61) 8 d ∧ plainD d = true)
    (kk : ∀ kvs' L' x3 x4 x5 x6, Fd kvs' → L'.length ≤ 30 → PyData.bulkAll L' ≤ 6000 → (∀ d ∈ L', Nd (10 ^ 61) 8 d ∧ plainD d = true) → d.rt (.n (.l L')) (nE kvs' xs L x3 x4 x5 x6)) :
    t_near_1 (C_bent 10) C_draw d (nE kvs xs L x3 x4 x5 x6) := by
  have hp := pb_of hx
  unfold t_near_1
  pv_short
  refine bent_at (kvs0 := kvs) rfl fun Q hQ => ?_
  pv_short
  refine hQ (.tuple xs) kvs _ rfl hf hp fun kvs1 d1 hf1 b1 => ?_
  pv_short
  refine bent_at (kvs0 := kvs1) rfl fun Q2 hQ2 => ?_
  refine bent_at (kvs0 := kvs1) rfl fun Q3 hQ3 => ?_
  pv_short
  refine hQ3 (.tuple xs) kvs1 _ rfl hf1 hp fun kvs2 d2 hf2 b2 => ?_
  have hn : Nd (10 ^ 60) 3 (.tuple xs) := (nd_tup fun y m => (hx.ok y m).1).mono (Nat.le_trans (by decide : 1000 ≤ 10 ^ 3) (Nat.pow_le_pow_right (by decide) (by decide))) (Nat.le_refl _)
  have dx : (PyData.tuple xs).depth ≤ 3 := hn.dep
  have lt : (10 : Nat) ^ 60 < 10 ^ 195 := Nat.pow_lt_pow_right (by decide) (by decide)
  have z : (10 : Nat) ^ 60 + 2 ≤ 10 ^ 61 := by decide
  have n1 := b1.nd _ (Nat.le_refl _) lt (hn.mono (Nat.le_refl _) (by decide))
  have n2 := b2.nd _ (Nat.le_refl _) lt (hn.mono (Nat.le_refl _) (by decide))
  have pl : plainD (.tuple xs) = true := hp.pl
  have bx : (PyData.tuple xs).bulk ≤ 80 := by simp only [PyData.bulk]; exact hx.bk
  have hp2 : Pb 10 d2 := ⟨⟨10 ^ 60 + 1, Nat.le_succ _, Nat.lt_of_lt_of_le (show 10 ^ 60 + 1 < 10 ^ 61 by decide) (Nat.pow_le_pow_right (by decide) (by decide)), n2.mono (Nat.le_refl _) (by omega)⟩, by have := b2.blk; omega, by have := n2.dep; omega, b2.pl pl⟩
  pv_short
  refine hQ2 d2 kvs2 _ rfl hf2 hp2 fun kvs3 d3 hf3 b3 => ?_
  have n3 := b3.nd _ (Nat.le_succ _) (Nat.lt_of_lt_of_le (show 10 ^ 60 + 1 < 10 ^ 61 by decide) (Nat.pow_le_pow_right (by decide) (by decide))) (n2.mono (Nat.le_refl _) (by omega))
  pv_short
  refine Exists.intro _ (And.intro (show addF (.d (.list L)) (.d (.list [d1, d3])) = some (.lst (L ++ [d1, d3])) from if_pos (by rw [sizeLine_eq]; simp only [List.length_cons, List.length_nil]; omega)) ?_)
  pv_short
  refine kk kvs3 (L ++ [d1, d3]) _ _ _ _ hf3 (by rw [List.length_append]; simp only [List.length_cons, List.length_nil]; omega) ?_ fun y m => ?_
  · rw [bulk_app]
    have := b1.blk
    have := b2.blk
    have := b3.blk
    simp only [PyData.bulkAll]
    omega
  · rcases List.mem_append.mp m with m | m
    · exact hL y m
    · simp only [List.mem_cons, List.not_mem_nil, or_false] at m
      have := n2.dep
      rcases m with rfl | rfl
      · exact ⟨n1.mono (by omega) (by omega), b1.pl pl⟩
      · exact ⟨n3.mono (by omega) (by omega), b3.pl (b2.pl pl)⟩
theorem th_mid {xs : List PyData} (h : Dx xs) {k : Nat} (hk : k < xs.length) {t : PyData} (ht : ThP t) (hb : t.bulk ≤ 45) : ThE 126 (.tuple (xs.take k ++ [t] ++ xs.drop (k + 1))) := by
  refine th_tup (fun y m => ?_) ?_
  · rcases List.mem_append.mp m with m | m
    · rcases List.mem_append.mp m with m | m
      · exact h.p y (List.mem_of_mem_take m)
      · rw [List.mem_singleton] at m; subst m; exact ht
    · exact h.p y (List.mem_of_mem_drop m)
  · have e1 := bulk_app (xs.take k) (xs.drop k)
    rw [List.take_append_drop, List.drop_eq_getElem_cons hk] at e1
    simp only [PyData.bulkAll] at e1
    have := h.bk
    rw [bulk_app, bulk_app, ba_one]
    omega
theorem near_ok (ss : List Sl) (Ex : XP) (P : R → List Sl → Prop) (h : C_near ss Ex P) : fnW 2 7 (w_near (C_bent 10) C_draw) ss Ex P := by
  obtain ⟨⟨kvs, xs, rfl, hf, hx⟩, k⟩ := h
  have kk := fun kvs' L (q1 : Fd kvs') q2 q3 q4 => k (.n (.l L)) _ ⟨kvs, kvs', xs, L, rfl, rfl, q1, rfl, q2, q3, q4⟩
  clear k
  have lo := hx.lo
  have hi := hx.hi
  have bk := hx.bk
  have ea : ThP (.str "a") := (odd11_ok (.str "a") (by unfold odd11 odd8; simp)).1
  refine And.intro rfl ?_
  rw [w_near_eq]
  unfold t_near_8
  pv_short
  refine Exists.intro _ (And.intro (add_tupM (a := xs) (b := [.tuple [.str "a"]]) (by rw [List.length_singleton]; omega)) ?_)
  pv_short
  show t_near_7 (C_bent 10) C_draw _ (nE kvs xs [.tuple xs, .list xs, .tuple (cutL xs (some 1) none), .tuple (xs ++ [.tuple [.str "a"]]), .tuple (cutL xs none (some (-1))), .tuple xs.reverse, .tuple [.tuple xs]] none none none none)
  have h7 : ∀ d ∈ ([.tuple xs, .list xs, .tuple (cutL xs (some 1) none), .tuple (xs ++ [.tuple [.str "a"]]), .tuple (cutL xs none (some (-1))), .tuple xs.reverse, .tuple [.tuple xs]] : List PyData), ThE 126 d := fun d m => by
    simp only [List.mem_cons, List.not_mem_nil, or_false] at m
    rcases m with rfl | rfl | rfl | rfl | rfl | rfl | rfl
    · exact th_tup hx.p (by omega)
    · exact th_lst hx.p (by omega)
    · exact th_tup (fun y m => hx.p y (cut_mem m)) (by have := bulk_cut xs (some 1) none; omega)
    · refine th_tup (fun y m => ?_) (by rw [bulk_app, ba_one]; simp only [PyData.bulk, ba_one]; have : ("a" : Str).cps.size = 1 := by decide +kernel
                                        omega)
      rcases List.mem_append.mp m with m | m
      · exact hx.p y m
      · rw [List.mem_singleton] at m; subst m
        exact ⟨nd_tup fun y m => by rw [List.mem_singleton] at m; subst m; exact nd_str (by decide +kernel), by decide +kernel⟩
    · exact th_tup (fun y m => hx.p y (cut_mem m)) (by have := bulk_cut xs none (some (-1)); omega)
    · exact th_tup (fun y m => hx.p y (List.mem_reverse.mp m)) (by rw [bulk_rev]; omega)
    · exact th_tup (fun y m => by rw [List.mem_singleton] at m; subst m; exact ⟨nd_tup fun y m => (hx.ok y m).1, plain_all.mpr fun y m => (hx.ok y m).2⟩) (by rw [ba_one]; simp only [PyData.bulk]; omega)
  generalize hL0 : ([.tuple xs, .list xs, .tuple (cutL xs (some 1) none), .tuple (xs ++ [.tuple [.str "a"]]), .tuple (cutL xs none (some (-1))), .tuple xs.reverse, .tuple [.tuple xs]] : List PyData) = L0 at h7
  have l0 : L0.length = 7 := by rw [← hL0]; rfl
  clear hL0
  unfold t_near_7
  first
    | ((iterate 11 (refine Exists.intro _ (And.intro rfl ?_))); refine And.intro (show List.length _ ≤ sizeLine from Nat.le_of_ble_eq_true rfl) ?_; (iterate 1 (refine Exists.intro _ (And.intro rfl ?_))); show wForR (gN 3) (t_near_6 (C_bent 10) C_draw) w10 _ (nE kvs xs L0 none none none none))
    | ((iterate 11 (refine Exists.intro _ (And.intro rfl ?_))); refine And.intro (show List.length _ ≤ sizeLine from Nat.le_of_ble_eq_true rfl) ?_; (iterate 2 (refine Exists.intro _ (And.intro rfl ?_))); show wForR (gN 3) (t_near_6 (C_bent 10) C_draw) w10 _ (nE kvs xs L0 none none none none))
  refine for_ofI (xs := w10) (fun pre δ => ∃ L x3, δ = nE kvs xs L x3 none none none ∧ L.length = 7 + pre.length ∧ ∀ d ∈ L, ThE 126 d) (fun δ hI => ?_) (fun pre x post δ Q eS hI hQ => ?_) ⟨L0, none, rfl, by rw [l0]; rfl, h7⟩
  · obtain ⟨L1, x3, rfl, l1, h1⟩ := hI
    have l1 : L1.length = 17 := l1
    show t_near_5 (C_bent 10) C_draw _ _
    unfold t_near_5
    pv_short
    refine draw_at (i := 0) (m := ((xs.length : Nat) : Int) - 1) rfl hf (by omega) ?_ (fun Q h => by pv_short; exact h) fun ds1 j hf1 h01 h11 => ?_
    · exact Nat.lt_of_le_of_lt (Nat.log2_le_self _) (by omega)
    obtain ⟨n, rfl⟩ := Int.eq_ofNat_of_zero_le h01
    pv_short
    unfold t_near_4
    pv_short
    show t_near_3 (C_bent 10) C_draw _ (nE ds1 xs L1 x3 (some (.d (.int (1 + (n : Int))))) (some (.o false (.l odd8))) none)
    unfold t_near_3
    first
      | ((iterate 6 (refine Exists.intro _ (And.intro rfl ?_))); refine And.intro (show List.length _ ≤ sizeLine from Nat.le_of_ble_eq_true rfl) ?_; (iterate 4 (refine Exists.intro _ (And.intro rfl ?_))); show wForR (gN 6) (t_near_2 (C_bent 10) C_draw) odd11 _ (nE ds1 xs L1 x3 (some (.d (.int (1 + (n : Int))))) (some (.o false (.l odd8))) none))
      | ((iterate 6 (refine Exists.intro _ (And.intro rfl ?_))); refine And.intro (show List.length _ ≤ sizeLine from Nat.le_of_ble_eq_true rfl) ?_; (iterate 3 (refine Exists.intro _ (And.intro rfl ?_))); show wForR (gN 6) (t_near_2 (C_bent 10) C_draw) odd11 _ (nE ds1 xs L1 x3 (some (.d (.int (1 + (n : Int))))) (some (.o false (.l odd8))) none))
      | ((iterate 6 (refine Exists.intro _ (And.intro rfl ?_))); refine And.intro (show List.length _ ≤ sizeLine from Nat.le_of_ble_eq_true rfl) ?_; (iterate 5 (refine Exists.intro _ (And.intro rfl ?_))); show wForR (gN 6) (t_near_2 (C_bent 10) C_draw) odd11 _ (nE ds1 xs L1 x3 (some (.d (.int (1 + (n : Int))))) (some (.o false (.l odd8))) none))
      | ((iterate 5 (refine Exists.intro _ (And.intro rfl ?_))); refine And.intro (show List.length _ ≤ sizeLine from Nat.le_of_ble_eq_true rfl) ?_; (iterate 4 (refine Exists.intro _ (And.intro rfl ?_))); show wForR (gN 6) (t_near_2 (C_bent 10) C_draw) odd11 _ (nE ds1 xs L1 x3 (some (.d (.int (1 + (n : Int))))) (some (.o false (.l odd8))) none))
      | ((iterate 5 (refine Exists.intro _ (And.intro rfl ?_))); refine And.intro (show List.length _ ≤ sizeLine from Nat.le_of_ble_eq_true rfl) ?_; (iterate 3 (refine Exists.intro _ (And.intro rfl ?_))); show wForR (gN 6) (t_near_2 (C_bent 10) C_draw) odd11 _ (nE ds1 xs L1 x3 (some (.d (.int (1 + (n : Int))))) (some (.o false (.l odd8))) none))
      | ((iterate 5 (refine Exists.intro _ (And.intro rfl ?_))); refine And.intro (show List.length _ ≤ sizeLine from Nat.le_of_ble_eq_true rfl) ?_; (iterate 5 (refine Exists.intro _ (And.intro rfl ?_))); show wForR (gN 6) (t_near_2 (C_bent 10) C_draw) odd11 _ (nE ds1 xs L1 x3 (some (.d (.int (1 + (n : Int))))) (some (.o false (.l odd8))) none))
      | ((iterate 7 (refine Exists.intro _ (And.intro rfl ?_))); refine And.intro (show List.length _ ≤ sizeLine from Nat.le_of_ble_eq_true rfl) ?_; (iterate 4 (refine Exists.intro _ (And.intro rfl ?_))); show wForR (gN 6) (t_near_2 (C_bent 10) C_draw) odd11 _ (nE ds1 xs L1 x3 (some (.d (.int (1 + (n : Int))))) (some (.o false (.l odd8))) none))
      | ((iterate 7 (refine Exists.intro _ (And.intro rfl ?_))); refine And.intro (show List.length _ ≤ sizeLine from Nat.le_of_ble_eq_true rfl) ?_; (iterate 3 (refine Exists.intro _ (And.intro rfl ?_))); show wForR (gN 6) (t_near_2 (C_bent 10) C_draw) odd11 _ (nE ds1 xs L1 x3 (some (.d (.int (1 + (n : Int))))) (some (.o false (.l odd8))) none))
      | ((iterate 7 (refine Exists.intro _ (And.intro rfl ?_))); refine And.intro (show List.length _ ≤ sizeLine from Nat.le_of_ble_eq_true rfl) ?_; (iterate 5 (refine Exists.intro _ (And.intro rfl ?_))); show wForR (gN 6) (t_near_2 (C_bent 10) C_draw) odd11 _ (nE ds1 xs L1 x3 (some (.d (.int (1 + (n : Int))))) (some (.o false (.l odd8))) none))
    refine for_ofI (xs := odd11) (fun pre δ => ∃ L x6, δ = nE ds1 xs L x3 (some (.d (.int (1 + (n : Int))))) (some (.o false (.l odd8))) x6 ∧ L.length = 17 + pre.length ∧ ∀ d ∈ L, ThE 126 d) (fun δ hI => ?_) (fun pre x post δ Q eS hI hQ => ?_) ⟨L1, none, rfl, by rw [l1]; rfl, h1⟩
    · obtain ⟨L2, x6, rfl, l2, h2⟩ := hI
      have l2 : L2.length = 28 := l2
      have bb := ba_le (b := 126) fun y m => (h2 y m).2.2
      rw [l2] at bb
      refine near_1 hf1 hx (by omega) (by omega) (fun y m => ⟨(h2 y m).1.mono (Nat.le_trans (by decide : 1000 ≤ 10 ^ 3) (Nat.pow_le_pow_right (by decide) (by decide))) (by decide), (h2 y m).2.1⟩) fun kvs' L' x3 x4 x5 x6 f' q1 q2 q3 => ?_
      pv_short
      exact kk kvs' L' f' q1 q2 q3
    · obtain ⟨L2, x6, rfl, l2, h2⟩ := hI
      have eS : odd11 = pre ++ x :: post := eS
      have mx : x ∈ odd11 := by rw [eS]; simp
      obtain ⟨px, bx⟩ := odd11_ok x mx
      have lp : pre.length ≤ 11 := by
        have := congrArg List.length eS
        rw [List.length_append, List.length_cons] at this
        have e11 : odd11.length = 11 := rfl
        omega
      pv_short
      unfold t_near_2
      pv_short
      have c1 : cutL xs none (some (1 + (n : Int))) = xs.take (n + 1) := by rw [show (1 + (n : Int)) = ((n + 1 : Nat) : Int) by omega, cut_take]
      have c2 : cutL xs (some (1 + (n : Int) + 1)) none = xs.drop (n + 1 + 1) := by
        by_cases hc : n + 1 + 1 ≤ xs.length
        · rw [cut_from (by omega) (by omega)]
          congr 1
          omega
        · omega
      refine Exists.intro _ (And.intro (add_tupM (a := cutL xs none (some (1 + (n : Int)))) (b := [x]) (by rw [c1, List.length_take, List.length_singleton]; omega)) ?_)
      pv_short
      refine Exists.intro _ (And.intro (add_tupM (a := cutL xs none (some (1 + (n : Int))) ++ [x]) (b := cutL xs (some (1 + (n : Int) + 1)) none) (by rw [c1, c2, List.length_append, List.length_take, List.length_drop, List.length_singleton]; omega)) ?_)
      pv_short
      refine And.intro (by show L2.length < sizeLine; rw [sizeLine_eq]; omega) ?_
      rw [c1, c2]
      refine hQ _ ⟨_, _, rfl, by rw [List.length_append, List.length_append, l2]; rfl, fun y m => ?_⟩
      rcases List.mem_append.mp m with m | m
      · exact h2 y m
      · rw [List.mem_singleton] at m; subst m
        exact th_mid hx (by omega) px bx
  · obtain ⟨L1, x3, rfl, l1, h1⟩ := hI
    have eS : w10 = pre ++ x :: post := eS
    have mx : x ∈ w10 := by rw [eS]; simp
    obtain ⟨px, bx⟩ := w10_ok x mx
    have lp : pre.length ≤ 10 := by
      have := congrArg List.length eS
      rw [List.length_append, List.length_cons] at this
      have e11 : w10.length = 10 := rfl
      omega
    pv_short
    unfold t_near_6
    pv_short
    have lc : (cutL xs (some 1) none).length ≤ xs.length := cut_len
    refine Exists.intro _ (And.intro (add_tupM (a := [x]) (b := cutL xs (some 1) none) (by rw [List.length_singleton]; omega)) ?_)
    pv_short
    refine And.intro (by show L1.length < sizeLine; rw [sizeLine_eq]; omega) ?_
    refine hQ _ ⟨_, _, rfl, by rw [List.length_append, List.length_append, l1]; rfl, fun y m => ?_⟩
    rcases List.mem_append.mp m with m | m
    · exact h1 y m
    · rw [List.mem_singleton] at m; subst m
      refine th_tup (fun y m => ?_) ?_
      · rcases List.mem_append.mp m with m | m
        · rw [List.mem_singleton] at m; subst m; exact px
        · exact hx.p y (cut_mem m)
      · rw [bulk_app, ba_one]
        have := bulk_cut xs (some 1) none
        omega
end V05
set_option Elab.async false
set_option linter.all false
set_option maxRecDepth 100000
set_option maxHeartbeats 1000000
set_option autoImplicit false
set_option exponentiation.threshold 20000
namespace V05
open PySem PySem.Spec PyProof.Rows L2 DL
local macro_rules | `(tactic| pv_short) => `(tactic| repeat first | refine Exists.intro _ (And.intro rfl ?_) | refine ifT rfl ?_ | refine ifF rfl ?_ | refine Exists.intro _ (And.intro (if_pos (by first | assumption | decide | exact ⟨by assumption, by decide⟩ | exact ⟨by assumption, by assumption⟩)) ?_) | refine And.intro (show List.length _ ≤ sizeLine from Nat.le_of_ble_eq_true rfl) ?_ | refine And.intro (Nat.le_of_ble_eq_true rfl) ?_)
theorem de_dx {x : De} (h : De.ok x) : ∃ xs, x.D = .tuple xs ∧ Dx xs := by
  have kb : ∀ b : Bool, (kS b).bulk ≤ 6 ∧ Nd 1000 2 (kS b) ∧ plainD (kS b) = true := fun b => by cases b <;> exact ⟨by decide +kernel, nd_str (by decide +kernel), by decide +kernel⟩
  have ok : ∀ (w : Str), plainD (.str w) = true → PyData.strOk w = true → w.cps.size ≤ 4 → ∀ {ys : List PyData}, 1 ≤ ys.length → ys.length ≤ 2 → (∀ y ∈ ys, Nd 1000 2 y ∧ plainD y = true ∧ y.bulk ≤ 36) → Dx (.str w :: ys) := fun w h1 h2 h3 ys l1 l2 hy => by
    have := ba_le fun y m => (hy y m).2.2
    have l3 : (36 + 1) * ys.length ≤ (36 + 1) * 2 := Nat.mul_le_mul_left _ l2
    refine ⟨by rw [List.length_cons]; omega, by rw [List.length_cons]; omega, fun y m => ?_, ?_⟩
    · rcases List.mem_cons.mp m with rfl | m
      · exact ⟨nd_str h2, h1⟩
      · exact ⟨(hy y m).1, (hy y m).2.1⟩
    · show (PyData.str w).bulk + 1 + PyData.bulkAll ys ≤ 80
      simp only [PyData.bulk]
      omega
  have wd : ∀ p, WayOk p → Nd 1000 2 (wD p) ∧ plainD (wD p) = true ∧ (wD p).bulk ≤ 36 := fun p h => ⟨(nd_wD h.ok).mono (Nat.le_refl _) (by decide), wD_plain h, wD_bulk h⟩
  cases x with
  | one w p =>
    obtain ⟨hp, hw⟩ := h
    refine ⟨_, rfl, ?_⟩
    have one : ∀ y ∈ [wD p], Nd 1000 2 y ∧ plainD y = true ∧ y.bulk ≤ 36 := fun y m => by rw [List.mem_singleton] at m; subst m; exact wd p hp
    rcases hw with rfl | rfl | ⟨rfl, _⟩
    · exact ok _ (by decide +kernel) (by decide +kernel) (by decide +kernel) (Nat.le_refl _) (Nat.le_of_ble_eq_true rfl) one
    · exact ok _ (by decide +kernel) (by decide +kernel) (by decide +kernel) (Nat.le_refl _) (Nat.le_of_ble_eq_true rfl) one
    · exact ok _ (by decide +kernel) (by decide +kernel) (by decide +kernel) (Nat.le_refl _) (Nat.le_of_ble_eq_true rfl) one
  | mk p b =>
    refine ⟨_, rfl, ?_⟩
    refine ok _ (by decide +kernel) (by decide +kernel) (by decide +kernel) (Nat.le_of_ble_eq_true rfl) (Nat.le_refl _) fun y m => ?_
    simp only [List.mem_cons, List.not_mem_nil, or_false] at m
    rcases m with rfl | rfl
    · exact wd p h.1
    · obtain ⟨k1, k2, k3⟩ := kb b
      exact ⟨k2, k3, by omega⟩
  | two w p q =>
    obtain ⟨hp, _, hq, _, hw⟩ := h
    refine ⟨_, rfl, ?_⟩
    have two : ∀ y ∈ [wD p, wD q], Nd 1000 2 y ∧ plainD y = true ∧ y.bulk ≤ 36 := fun y m => by
      simp only [List.mem_cons, List.not_mem_nil, or_false] at m
      rcases m with rfl | rfl
      · exact wd p hp
      · exact wd q hq
    rcases hw with rfl | rfl | rfl
    · exact ok _ (by decide +kernel) (by decide +kernel) (by decide +kernel) (Nat.le_of_ble_eq_true rfl) (Nat.le_refl _) two
    · exact ok _ (by decide +kernel) (by decide +kernel) (by decide +kernel) (Nat.le_of_ble_eq_true rfl) (Nat.le_refl _) two
    · exact ok _ (by decide +kernel) (by decide +kernel) (by decide +kernel) (Nat.le_of_ble_eq_true rfl) (Nat.le_refl _) two
theorem near_at {δ : SEnv} {i : Nat} {b : Bool} {kvs0 : List (Key × PyData)} {wm : WE} {Ex : XP} {P : R → SEnv → Prop} (hi : δ[i]? = some (some (.o b (.k kvs0)))) (hm : ∀ Q : R → SEnv → Prop,
      (∀ xs kvs δ2, δ2[i]? = some (some (.o b (.k kvs))) → Fd kvs → Dx xs → (∀ kvs' L, Fd kvs' → L.length ≤ 30 → PyData.bulkAll L ≤ 6000 → (∀ d ∈ L, Nd (10 ^ 61) 8 d ∧ plainD d = true) → P (.n (.l L)) (δ2.set i (some (.o b (.k kvs'))))) → Q (.d (.tuple xs)) δ2) → wm Ex δ Q) : wCall 2 C_near [true, false] (wCons (wVar i) (wCons wm wNil)) Ex δ P := by
  unfold wCall
  refine ⟨_, hi, _, rfl, _, rfl, hm _ fun xs kvs δ2 h2 hf hp k => ?_⟩
  refine ⟨_, rfl, ([.o i, .d (.tuple xs)], δ2), rfl, rfl, ?_, ?_⟩
  · show ([i] : List Nat).Nodup
    exact List.nodup_cons.mpr ⟨by simp, List.nodup_nil⟩
  refine ⟨[.o true (.k kvs), .d (.tuple xs)], ?_, ⟨kvs, xs, rfl, hf, hp⟩, fun r ss' q _ => ?_⟩
  · simp only [slsOf, slOf, h2]
    rfl
  · obtain ⟨kvs1, kvs', xs', L, e1, e2, hf', e3, h3, h4, h5⟩ := q
    cases e1
    subst e2 e3
    exact ⟨_, back_2 h2 rfl rfl, k kvs' L hf' h3 h4 h5⟩
abbrev cT (f : FSpec → FSpec → FSpec → FSpec → FSpec → FSpec → FSpec → FSpec → WS) : WS := f (One isDeed) C_due C_near C_deed C_tree C_draw C_names C_feed
abbrev lE (s0 : Sl) (ds : List (Key × PyData)) (x2 : Option Sl) (t : PyData) (L : List PyData) (x5 x6 x7 : Option Sl) : SEnv := [some s0, some (.o false (.k ds)), x2, some (.d t), some (.o false (.l L)), x5, x6, x7]
def th8 : List PyData := [.none, .tuple [], .int 0, .str "look", .tuple [.str "look"], .tuple [.str "make", .tuple [.str "a"], .none], .tuple [.str "make", .tuple [.str "a"], .bool true], .tuple [.str "move", .tuple [.str "a"], .tuple [.str "b"]]]
theorem th8_ok : ∀ d ∈ th8, Nd (10 ^ 61) 8 d ∧ plainD d = true := fun d m => by
  have : th8.all (thPB 45) = true := by decide +kernel
  obtain ⟨⟨h1, h2⟩, _⟩ := thPB_ok (List.all_eq_true.mp this d m)
  exact ⟨h1.mono (Nat.le_trans (by decide : 1000 ≤ 10 ^ 3) (Nat.pow_le_pow_right (by decide) (by decide))) (by decide), h2⟩
section
variable {e : DEnds} {s0 : Sl} {ds : List (Key × PyData)} {NM : List Str} {x2 x3 x5 x6 x7 : Option Sl}
theorem law_4 {t : PyData} {L : List PyData} {S : Str} (h1 : PyData.bulkAll L ≤ 70000) (h2 : ∀ d ∈ L, Nd (10 ^ 61) 8 d ∧ plainD d = true) (hS : reprF [.d (.list L)] = some (.val (.str S))) (k : ∀ δ, δ[0]? = some (some s0) → e.rt (.d (.bool true)) δ) :
    cT t_law_4 e (lE s0 ds x2 t L x5 (some (.d (.str S))) none) := by
  unfold t_law_4
  pv_short
  refine for_ofI (xs := L) (I := fun pre δ => ∃ x7 x4, δ = [some s0, some (.o false (.k ds)), x2, some (.d t), x4, x5, some (.d (.str S)), x7] ∧ (x4 = some (.o false (.l L)) ∨ x4 = some (.d (.list L)))) (fun δ hI => ?_) (fun pre x post δ Q eS hI hQ => ?_) ⟨none, _, rfl, ?_⟩
  · obtain ⟨x7, x4, rfl, h4⟩ := hI
    unfold t_law_1
    have fin : e.rt (.d (.bool (PyData.eqv (.str S) (.str S)))) [some s0, some (.o false (.k ds)), x2, some (.d t), x4, x5, some (.d (.str S)), x7] := by
      rw [show PyData.eqv (.str S) (.str S) = true by rw [eqv_s, decide_eq_true rfl]]
      exact k _ rfl
    rcases h4 with rfl | rfl
    all_goals
      pv_short
      refine Exists.intro _ (And.intro hS ?_)
      pv_short
      refine Exists.intro _ (And.intro (eq_str (neg := false) S S) ?_)
      exact fin
  · obtain ⟨x7, x4, rfl, h4⟩ := hI
    have eS : L = pre ++ x :: post := eS
    have mx : x ∈ L := by rw [eS]; simp
    obtain ⟨nx, px⟩ := h2 x mx
    have gx : Good x := ⟨nx.mono (Nat.pow_le_pow_right (by decide) (by decide)) (by decide), by have := bulk_mem mx; omega⟩
    refine Exists.intro _ (And.intro rfl ?_)
    unfold t_law_3
    pv_short
    refine one_call rfl gx ?_
    pv_short
    have sb : showOk (.bool (isDeed x)) = true := nd_show (N := 1) (D := 1) (b := 1) nd_bool (by decide) (by decide) (Nat.zero_le _) (by decide)
    refine Exists.intro _ (And.intro (repr_ok sb) ?_)
    pv_short
    refine call_d (d := x) (δ1 := [some s0, some (.o false (.k ds)), x2, some (.d t), x4, x5, some (.d (.str S)), some (.d x)]) (fun Q h => by pv_short; exact h) ⟨x, rfl, gx, px⟩ fun r ss' ⟨e1, d', e2, e3⟩ => ⟨e1, ?_⟩
    have e4 : x = d' := Sl.d.inj (List.cons.inj e2).1
    subst e4 e3
    pv_short
    refine Exists.intro _ (And.intro (repr_ok sb) ?_)
    pv_short
    refine Exists.intro _ (And.intro (eq_str (neg := true) _ _) ?_)
    rw [show PyData.eqv (.str (PyData.bool (isDeed x)).shown) (.str (PyData.bool (isDeed x)).shown) = true by rw [eqv_s, decide_eq_true rfl]]
    pv_short
    exact hQ _ ⟨_, x4, rfl, h4⟩
  · first | exact .inl rfl | exact .inr rfl
theorem law_7 {R : List Tn} {last nx : Int} (hN : NmOk NM) (w : Wf NM R last 28) (l14 : R.length ≤ 14) (hf : Fd ds) (k : ∀ δ, δ[0]? = some (some s0) → e.rt (.d (.bool true)) δ) :
    cT t_law_7 e (lE s0 ds (some (.d (.list (NM.map .str)))) (trD R nx) th8 none none none) := by
  unfold t_law_7
  pv_short
  refine And.intro ⟨(by show -(2 ^ 62) ≤ (0 : Int); decide), (by show (0 : Int) < 2 ^ 62; decide), (by show -(2 ^ 62) ≤ (10 : Int); decide), (by show (10 : Int) < 2 ^ 62; decide)⟩ ?_
  show wForR (gN 5) (cT t_law_6) ((List.range 10).map fun (i : Nat) => .int (0 + (i : Int))) _ (lE s0 ds (some (.d (.list (NM.map .str)))) (trD R nx) th8 none none none)
  refine for_of (g := fun i : Nat => .int (0 + (i : Int))) (xs := List.range 10) (I := fun pre δ => ∃ ds' L x5, δ = lE s0 ds' (some (.d (.list (NM.map .str)))) (trD R nx) L x5 none none ∧ Fd ds' ∧ L.length ≤ 8 + 30 * pre.length ∧ PyData.bulkAll L ≤ 400 + 6000 * pre.length ∧ ∀ d ∈ L, Nd (10 ^ 61) 8 d ∧ plainD d = true) (fun δ hI => ?_) (fun pre i post δ Q eS hI hQ => ?_) ⟨ds, th8, none, rfl, hf, by decide, by decide +kernel, th8_ok⟩
  · obtain ⟨ds', L, x5, rfl, f', l1, b1, h1⟩ := hI
    rw [List.length_range] at l1 b1
    have sh : showOk (.list L) = true := nd_show (N := 10 ^ 61) (D := 9) (b := 80000) (nd_lst fun y m => (h1 y m).1) (Nat.pow_lt_pow_right (by decide) (by decide)) (by decide) (by simp only [PyData.bulk]; omega) (by decide)
    unfold t_law_5
    pv_short
    refine Exists.intro _ (And.intro (repr_ok sh) ?_)
    have hS := repr_ok sh
    generalize (PyData.list L).shown = S at hS
    pv_short
    exact law_4 (by omega) h1 hS k
  · obtain ⟨ds', L, x5, rfl, f', l1, b1, h1⟩ := hI
    have lp : pre.length ≤ 9 := by
      have := congrArg List.length eS
      rw [List.length_range, List.length_append, List.length_cons] at this
      omega
    pv_short
    unfold t_law_6
    pv_short
    refine near_at (i := 1) (kvs0 := ds') rfl fun Q1 hQ1 => ?_
    refine deed_at (t := 3) f' hN w l14 rfl rfl rfl fun ds2 x f2 okx => ?_
    obtain ⟨xs, ex, dx⟩ := de_dx okx
    rw [ex]
    refine hQ1 xs ds2 _ rfl f2 dx fun ds3 L' f3 l3 b3 h3 => ?_
    pv_short
    refine And.intro (by rw [sizeLine_eq]; show L.length + L'.length ≤ _; omega) ?_
    refine hQ _ ⟨ds3, L ++ L', _, rfl, f3, ?_, ?_, fun d m => ?_⟩
    · rw [List.length_append, List.length_append, List.length_singleton]; omega
    · rw [bulk_app, List.length_append, List.length_singleton]; omega
    · rcases List.mem_append.mp m with m | m
      · exact h1 d m
      · exact h3 d m
theorem law_12 {ns : List Int} (hs : Scr ns s0) (k : ∀ δ, δ[0]? = some (some s0) → e.rt (.d (.bool true)) δ) :
    cT t_law_12 e [some s0, none, none, none, none, none, none, none] := by
  unfold t_law_12
  refine feed_at rfl hs fun ds hf => ?_
  pv_short
  show cT t_law_11 e [some s0, some (.o false (.k ds)), none, none, none, none, none, none]
  unfold t_law_11
  refine names_at rfl hf fun ds1 NM hf1 hN => ?_
  pv_short
  show cT t_law_10 e [some s0, some (.o false (.k ds1)), some (.o false (.l (NM.map .str))), none, none, none, none, none]
  unfold t_law_10
  refine tree_at rfl rfl (.inl rfl) hN (draw14 (m := 14) (by decide) (by decide) rfl hf1) fun ds2 R last nx hf2 w l14 h1 h2 => ?_
  pv_short
  show cT t_law_9 e [some s0, some (.o false (.k ds2)), some (.d (.list (NM.map .str))), some (.d (trD R nx)), none, none, none, none]
  unfold t_law_9
  pv_short
  unfold t_law_8
  pv_short
  exact law_7 hN w l14 hf2 k
end
theorem law_ok (ns : List Int) (s : Sl) (hs : Scr ns s) : fnW 1 8 (cT w_law) [s] (fun _ => False) fun r _ => r = .d (.bool true) := by
  refine And.intro rfl ?_
  show cT w_law _ _
  rw [show cT w_law = cT t_law_12 from w_law_eq ..]
  refine law_12 hs fun δ h0 => ?_
  refine ⟨_, rfl, ?_⟩
  cases δ with
  | nil => cases h0
  | cons a δ =>
    cases h0
    rcases hs with rfl | rfl
    · exact ⟨_, rfl, rfl⟩
    · exact ⟨_, rfl, rfl⟩
end V05
set_option Elab.async false
set_option linter.all false
set_option maxRecDepth 100000
set_option maxHeartbeats 4000000
set_option autoImplicit false
namespace V05
open PySem PySem.Spec PyProof.Rows L2 DL
theorem law_df {g : Gx} (g1 : Got g "is_name" s_is_name) (g2 : Got g "is_way" s_is_way) (g3 : Got g "form_of" s_form_of) (g4 : Got g "fits" s_fits) (g5 : Got g "is_deed" s_is_deed) (g6 : Got g "_law_feed" s_feed) (g7 : Got g "_law_draw" s_draw) (g8 : Got g "_law_names" s_names) (g9 : Got g "_law_tree" s_tree) (g10 : Got g "_law_way" s_way) (g11 : Got g "_law_deed" s_deed) (g12 : Got g "_law_bent" s_bent) (g13 : Got g "_law_way_due" s_way_due) (g14 : Got g "_law_due" s_due) (g15 : Got g "_law_near" s_near)
    (m_all : g.mg "all" = none) (m_len : g.mg "len" = none) (m_isinstance : g.mg "isinstance" = none) (m_str : g.mg "str" = none) (m_tuple : g.mg "tuple" = none) (m_zip : g.mg "zip" = none) (m_list : g.mg "list" = none) (m_range : g.mg "range" = none) (m_sorted : g.mg "sorted" = none) (m_max : g.mg "max" = none) (m_dict : g.mg "dict" = none) (m_int : g.mg "int" = none) (m_ord : g.mg "ord" = none) (m_repr : g.mg "repr" = none)
    (K_FORMS : GloK g "FORMS" FL) {f : Addr} {fd : FuncData} (F : Fun g.K "law" "law" s_law f fd) :
    FnG g CX0 14 f fd ["_law_script"] (DL.spOf g.K 1 (fnW 1 8 (cT w_law))) := by
  have h_is_name := cal_is_name (k := 0)    (W := (One isName)) m_all m_len m_isinstance m_str g1 name_ok
  have h_is_way := cal_is_way (k := 1)    (W := (One isWay)) ct_mono (h_is_name.mono (by first | decide | omega)) m_all m_isinstance m_tuple g2 isway_ok
  have h_form_of := cal_form_of (k := 0)  (LFORMS := FL)  (W := C_form_of) K_FORMS g3 form_of_ok
  have h_fits := cal_fits (k := 2)    (W := C_fits) ct_mono (h_is_way.mono (by first | decide | omega)) g4 fits_ok
  have h_is_deed := cal_is_deed (k := 3)    (W := (One isDeed)) ct_mono (h_fits.mono (by first | decide | omega)) ct_mono (h_form_of.mono (by first | decide | omega)) m_zip m_all m_len m_isinstance m_str m_tuple g5 is_deed_ok
  have h_feed := cal_feed (k := 0)    (W := C_feed) m_list g6 feed_ok
  have h_draw := cal_draw (k := 0)    (W := C_draw) m_len g7 draw_ok
  have h_names := cal_names (k := 1)    (W := C_names) ct_mono (h_draw.mono (by first | decide | omega)) m_range m_len g8 names_ok
  have h_tree := cal_tree (k := 1)    (W := C_tree) ct_mono (h_draw.mono (by first | decide | omega)) m_tuple m_sorted m_len m_range m_list g9 tree_ok
  have h_way := cal_way (k := 1)    (W := C_way) ct_mono (h_draw.mono (by first | decide | omega)) m_tuple m_max m_range m_len m_dict g10 way_ok
  have h_deed := cal_deed (k := 2)    (W := C_deed) ct_mono (h_way.mono (by first | decide | omega)) ct_mono (h_draw.mono (by first | decide | omega)) m_len m_int g11 deed_ok
  have h_bent : ∀ n, Cal g CX0 (n + 2) "_law_bent" ["_law_feed_here", "_law_thing"] (C_bent n) := by
    intro n
    induction n with
    | zero => exact cal_void g12 (fun f fd F => bd_bent F) fun ss Ex P ⟨⟨_, d, _, _, h⟩, _⟩ => absurd h.dep (Nat.not_lt_zero _)
    | succ n ih => exact cal_bent (k := n + 2) (W := C_bent (n + 1)) ct_mono (h_draw.mono (by first | decide | omega)) ct_mono ih m_isinstance m_int m_str m_tuple m_list m_len g12 (bent_ok n)
  have h_way_due := cal_way_due (k := 0)    (W := C_way_due) m_ord m_len m_isinstance m_str m_tuple g13 way_due_ok
  have h_due := cal_due (k := 1)    (W := C_due) ct_mono (h_way_due.mono (by first | decide | omega)) m_zip m_repr m_len m_dict m_isinstance m_str m_tuple g14 due_ok
  have h_near := cal_near (k := 12)    (W := C_near) ct_mono ((h_bent 10).mono (by first | decide | omega)) ct_mono (h_draw.mono (by first | decide | omega)) m_len m_list g15 near_ok
  exact df_law (k := 13) ct_mono (h_is_deed.mono (by first | decide | omega)) ct_mono (h_due.mono (by first | decide | omega)) ct_mono (h_near.mono (by first | decide | omega)) ct_mono (h_deed.mono (by first | decide | omega)) ct_mono (h_tree.mono (by first | decide | omega)) ct_mono (h_draw.mono (by first | decide | omega)) ct_mono (h_names.mono (by first | decide | omega)) ct_mono (h_feed.mono (by first | decide | omega)) m_repr m_range F
end V05
set_option Elab.async false
set_option linter.all false
set_option maxRecDepth 100000
set_option maxHeartbeats 4000000
set_option autoImplicit false
namespace V05
open PySem PySem.Spec PyProof.Rows L2 DL
theorem all_mk {l : PySem.W.OpenLaw} {w : World} {K : PySem.W.Frag} {h : Heap} {mg : Str → Option Value} {fa : Addr} (X : K.In h) (G : h.Ns mainGlobals mg) (hfa : mg "law" = some (.ref fa))
    {f1 : Addr} {od1 an1 : Option Addr} {sl1 : Array (Option Value)} {oc1 kV1 dc1 pm1 cd1 ct1 : Value} (a1 : PySem.W.nsIn K mainGlobals "is_name" = some (some (.ref f1)))
    (l1 : K.lookup f1 = some ⟨oc1, od1, .func (PySem.W.fnOf "is_name" "is_name" (defArgs s_is_name) (defBody s_is_name) (defScope s_is_name) .none kV1 dc1 pm1 an1 cd1 ct1), sl1⟩) (c1 : PySem.W.codeIn K cd1 "is_name" = true) (k1 : PySem.W.keepIn K (.ref f1) = true)
    {f2 : Addr} {od2 an2 : Option Addr} {sl2 : Array (Option Value)} {oc2 kV2 dc2 pm2 cd2 ct2 : Value} (a2 : PySem.W.nsIn K mainGlobals "is_way" = some (some (.ref f2)))
    (l2 : K.lookup f2 = some ⟨oc2, od2, .func (PySem.W.fnOf "is_way" "is_way" (defArgs s_is_way) (defBody s_is_way) (defScope s_is_way) .none kV2 dc2 pm2 an2 cd2 ct2), sl2⟩) (c2 : PySem.W.codeIn K cd2 "is_way" = true) (k2 : PySem.W.keepIn K (.ref f2) = true)
    {f3 : Addr} {od3 an3 : Option Addr} {sl3 : Array (Option Value)} {oc3 kV3 dc3 pm3 cd3 ct3 : Value} (a3 : PySem.W.nsIn K mainGlobals "form_of" = some (some (.ref f3)))
    (l3 : K.lookup f3 = some ⟨oc3, od3, .func (PySem.W.fnOf "form_of" "form_of" (defArgs s_form_of) (defBody s_form_of) (defScope s_form_of) .none kV3 dc3 pm3 an3 cd3 ct3), sl3⟩) (c3 : PySem.W.codeIn K cd3 "form_of" = true) (k3 : PySem.W.keepIn K (.ref f3) = true)
    {f4 : Addr} {od4 an4 : Option Addr} {sl4 : Array (Option Value)} {oc4 kV4 dc4 pm4 cd4 ct4 : Value} (a4 : PySem.W.nsIn K mainGlobals "fits" = some (some (.ref f4)))
    (l4 : K.lookup f4 = some ⟨oc4, od4, .func (PySem.W.fnOf "fits" "fits" (defArgs s_fits) (defBody s_fits) (defScope s_fits) .none kV4 dc4 pm4 an4 cd4 ct4), sl4⟩) (c4 : PySem.W.codeIn K cd4 "fits" = true) (k4 : PySem.W.keepIn K (.ref f4) = true)
    {f5 : Addr} {od5 an5 : Option Addr} {sl5 : Array (Option Value)} {oc5 kV5 dc5 pm5 cd5 ct5 : Value} (a5 : PySem.W.nsIn K mainGlobals "is_deed" = some (some (.ref f5)))
    (l5 : K.lookup f5 = some ⟨oc5, od5, .func (PySem.W.fnOf "is_deed" "is_deed" (defArgs s_is_deed) (defBody s_is_deed) (defScope s_is_deed) .none kV5 dc5 pm5 an5 cd5 ct5), sl5⟩) (c5 : PySem.W.codeIn K cd5 "is_deed" = true) (k5 : PySem.W.keepIn K (.ref f5) = true)
    {f6 : Addr} {od6 an6 : Option Addr} {sl6 : Array (Option Value)} {oc6 kV6 dc6 pm6 cd6 ct6 : Value} (a6 : PySem.W.nsIn K mainGlobals "_law_feed" = some (some (.ref f6)))
    (l6 : K.lookup f6 = some ⟨oc6, od6, .func (PySem.W.fnOf "_law_feed" "_law_feed" (defArgs s_feed) (defBody s_feed) (defScope s_feed) .none kV6 dc6 pm6 an6 cd6 ct6), sl6⟩) (c6 : PySem.W.codeIn K cd6 "_law_feed" = true) (k6 : PySem.W.keepIn K (.ref f6) = true)
    {f7 : Addr} {od7 an7 : Option Addr} {sl7 : Array (Option Value)} {oc7 kV7 dc7 pm7 cd7 ct7 : Value} (a7 : PySem.W.nsIn K mainGlobals "_law_draw" = some (some (.ref f7)))
    (l7 : K.lookup f7 = some ⟨oc7, od7, .func (PySem.W.fnOf "_law_draw" "_law_draw" (defArgs s_draw) (defBody s_draw) (defScope s_draw) .none kV7 dc7 pm7 an7 cd7 ct7), sl7⟩) (c7 : PySem.W.codeIn K cd7 "_law_draw" = true) (k7 : PySem.W.keepIn K (.ref f7) = true)
    {f8 : Addr} {od8 an8 : Option Addr} {sl8 : Array (Option Value)} {oc8 kV8 dc8 pm8 cd8 ct8 : Value} (a8 : PySem.W.nsIn K mainGlobals "_law_names" = some (some (.ref f8)))
    (l8 : K.lookup f8 = some ⟨oc8, od8, .func (PySem.W.fnOf "_law_names" "_law_names" (defArgs s_names) (defBody s_names) (defScope s_names) .none kV8 dc8 pm8 an8 cd8 ct8), sl8⟩) (c8 : PySem.W.codeIn K cd8 "_law_names" = true) (k8 : PySem.W.keepIn K (.ref f8) = true)
    {f9 : Addr} {od9 an9 : Option Addr} {sl9 : Array (Option Value)} {oc9 kV9 dc9 pm9 cd9 ct9 : Value} (a9 : PySem.W.nsIn K mainGlobals "_law_tree" = some (some (.ref f9)))
    (l9 : K.lookup f9 = some ⟨oc9, od9, .func (PySem.W.fnOf "_law_tree" "_law_tree" (defArgs s_tree) (defBody s_tree) (defScope s_tree) .none kV9 dc9 pm9 an9 cd9 ct9), sl9⟩) (c9 : PySem.W.codeIn K cd9 "_law_tree" = true) (k9 : PySem.W.keepIn K (.ref f9) = true)
    {f10 : Addr} {od10 an10 : Option Addr} {sl10 : Array (Option Value)} {oc10 kV10 dc10 pm10 cd10 ct10 : Value} (a10 : PySem.W.nsIn K mainGlobals "_law_way" = some (some (.ref f10)))
    (l10 : K.lookup f10 = some ⟨oc10, od10, .func (PySem.W.fnOf "_law_way" "_law_way" (defArgs s_way) (defBody s_way) (defScope s_way) .none kV10 dc10 pm10 an10 cd10 ct10), sl10⟩) (c10 : PySem.W.codeIn K cd10 "_law_way" = true) (k10 : PySem.W.keepIn K (.ref f10) = true)
    {f11 : Addr} {od11 an11 : Option Addr} {sl11 : Array (Option Value)} {oc11 kV11 dc11 pm11 cd11 ct11 : Value} (a11 : PySem.W.nsIn K mainGlobals "_law_deed" = some (some (.ref f11)))
    (l11 : K.lookup f11 = some ⟨oc11, od11, .func (PySem.W.fnOf "_law_deed" "_law_deed" (defArgs s_deed) (defBody s_deed) (defScope s_deed) .none kV11 dc11 pm11 an11 cd11 ct11), sl11⟩) (c11 : PySem.W.codeIn K cd11 "_law_deed" = true) (k11 : PySem.W.keepIn K (.ref f11) = true)
    {f12 : Addr} {od12 an12 : Option Addr} {sl12 : Array (Option Value)} {oc12 kV12 dc12 pm12 cd12 ct12 : Value} (a12 : PySem.W.nsIn K mainGlobals "_law_bent" = some (some (.ref f12)))
    (l12 : K.lookup f12 = some ⟨oc12, od12, .func (PySem.W.fnOf "_law_bent" "_law_bent" (defArgs s_bent) (defBody s_bent) (defScope s_bent) .none kV12 dc12 pm12 an12 cd12 ct12), sl12⟩) (c12 : PySem.W.codeIn K cd12 "_law_bent" = true) (k12 : PySem.W.keepIn K (.ref f12) = true)
    {f13 : Addr} {od13 an13 : Option Addr} {sl13 : Array (Option Value)} {oc13 kV13 dc13 pm13 cd13 ct13 : Value} (a13 : PySem.W.nsIn K mainGlobals "_law_way_due" = some (some (.ref f13)))
    (l13 : K.lookup f13 = some ⟨oc13, od13, .func (PySem.W.fnOf "_law_way_due" "_law_way_due" (defArgs s_way_due) (defBody s_way_due) (defScope s_way_due) .none kV13 dc13 pm13 an13 cd13 ct13), sl13⟩) (c13 : PySem.W.codeIn K cd13 "_law_way_due" = true) (k13 : PySem.W.keepIn K (.ref f13) = true)
    {f14 : Addr} {od14 an14 : Option Addr} {sl14 : Array (Option Value)} {oc14 kV14 dc14 pm14 cd14 ct14 : Value} (a14 : PySem.W.nsIn K mainGlobals "_law_due" = some (some (.ref f14)))
    (l14 : K.lookup f14 = some ⟨oc14, od14, .func (PySem.W.fnOf "_law_due" "_law_due" (defArgs s_due) (defBody s_due) (defScope s_due) .none kV14 dc14 pm14 an14 cd14 ct14), sl14⟩) (c14 : PySem.W.codeIn K cd14 "_law_due" = true) (k14 : PySem.W.keepIn K (.ref f14) = true)
    {f15 : Addr} {od15 an15 : Option Addr} {sl15 : Array (Option Value)} {oc15 kV15 dc15 pm15 cd15 ct15 : Value} (a15 : PySem.W.nsIn K mainGlobals "_law_near" = some (some (.ref f15)))
    (l15 : K.lookup f15 = some ⟨oc15, od15, .func (PySem.W.fnOf "_law_near" "_law_near" (defArgs s_near) (defBody s_near) (defScope s_near) .none kV15 dc15 pm15 an15 cd15 ct15), sl15⟩) (c15 : PySem.W.codeIn K cd15 "_law_near" = true) (k15 : PySem.W.keepIn K (.ref f15) = true)
    {f16 : Addr} {od16 an16 : Option Addr} {sl16 : Array (Option Value)} {oc16 kV16 dc16 pm16 cd16 ct16 : Value} (a16 : PySem.W.nsIn K mainGlobals "law" = some (some (.ref f16)))
    (l16 : K.lookup f16 = some ⟨oc16, od16, .func (PySem.W.fnOf "law" "law" (defArgs s_law) (defBody s_law) (defScope s_law) .none kV16 dc16 pm16 an16 cd16 ct16), sl16⟩) (c16 : PySem.W.codeIn K cd16 "law" = true) (k16 : PySem.W.keepIn K (.ref f16) = true)
    (z1 : PySem.W.nsIn K mainGlobals "all" = some none) (z2 : PySem.W.nsIn K mainGlobals "len" = some none) (z3 : PySem.W.nsIn K mainGlobals "isinstance" = some none) (z4 : PySem.W.nsIn K mainGlobals "str" = some none) (z5 : PySem.W.nsIn K mainGlobals "tuple" = some none) (z6 : PySem.W.nsIn K mainGlobals "zip" = some none) (z7 : PySem.W.nsIn K mainGlobals "list" = some none) (z8 : PySem.W.nsIn K mainGlobals "range" = some none) (z9 : PySem.W.nsIn K mainGlobals "sorted" = some none) (z10 : PySem.W.nsIn K mainGlobals "max" = some none) (z11 : PySem.W.nsIn K mainGlobals "dict" = some none) (z12 : PySem.W.nsIn K mainGlobals "int" = some none) (z13 : PySem.W.nsIn K mainGlobals "ord" = some none) (z14 : PySem.W.nsIn K mainGlobals "repr" = some none)
    {d_FORMS : Addr} {es_FORMS : Array DictEntry} {n_FORMS : Nat} (aT_FORMS : PySem.W.nsIn K mainGlobals "FORMS" = some (some (.ref d_FORMS))) (lT_FORMS : K.lookup d_FORMS = some ⟨.type "dict", none, .dict es_FORMS n_FORMS, #[]⟩) (kT_FORMS : PySem.W.KeysLit w.params es_FORMS.toList) (sT_FORMS : (d_FORMS == sysModules) = false) (eT_FORMS : EsL K es_FORMS.toList FL)
    (pN : PySem.W.specialIn K (.builtin "object.__class__") "__get__" = some (some (.builtin "getset_descriptor.__get__"))) (kN : PySem.W.takesIn K (.builtin "object.__class__") = some true) :
    ∃ fd : FuncData, (∀ (s : Shared) (u : Value), BindsTo s fd ⟨[u], []⟩ [("_law_script", u)]) ∧ ∀ base : Heap, K.In base → base.Ns mainGlobals mg → FnG ⟨l.prog, w, K, mg, base⟩ CX0 14 fa fd ["_law_script"] (DL.spOf K 1 (fnW 1 8 (cT w_law))) := by
  have e := hfa.symm.trans (PySem.W.mg_of X G a16)
  cases e
  have F := fun_mk (st := s_law) l16 c16 k16
  refine ⟨_, fun s v => .of_eq rfl, fun base _ _ => law_df (got_mk X G a1 l1 c1 k1) (got_mk X G a2 l2 c2 k2) (got_mk X G a3 l3 c3 k3) (got_mk X G a4 l4 c4 k4) (got_mk X G a5 l5 c5 k5) (got_mk X G a6 l6 c6 k6) (got_mk X G a7 l7 c7 k7) (got_mk X G a8 l8 c8 k8) (got_mk X G a9 l9 c9 k9) (got_mk X G a10 l10 c10 k10) (got_mk X G a11 l11 c11 k11) (got_mk X G a12 l12 c12 k12) (got_mk X G a13 l13 c13 k13) (got_mk X G a14 l14 c14 k14) (got_mk X G a15 l15 c15 k15) (PySem.W.mg_none_of X G z1) (PySem.W.mg_none_of X G z2) (PySem.W.mg_none_of X G z3) (PySem.W.mg_none_of X G z4) (PySem.W.mg_none_of X G z5) (PySem.W.mg_none_of X G z6) (PySem.W.mg_none_of X G z7) (PySem.W.mg_none_of X G z8) (PySem.W.mg_none_of X G z9) (PySem.W.mg_none_of X G z10) (PySem.W.mg_none_of X G z11) (PySem.W.mg_none_of X G z12) (PySem.W.mg_none_of X G z13) (PySem.W.mg_none_of X G z14) ⟨d_FORMS, es_FORMS, n_FORMS, PySem.W.mg_of X G aT_FORMS, sT_FORMS, lT_FORMS, kT_FORMS, eT_FORMS⟩ F⟩
theorem walk {l : PySem.W.OpenLaw} {q : Program} {loose : List Str} {XP : (Str → Option Value) → Heap → Prop} {YP : World → Heap → Prop} {d : DefRec} {K : Params → PySem.W.Frag} (hn : l.most = some 63) (hdf : d.params.defaults = [])
    (hY : ∀ (w : World) (h : Heap), YP w h → (K w.params).In h)
    (F : ∀ (w : World) (mg : Str → Option Value) (fa : Addr) (h : Heap), (K w.params).In h → h.Ns mainGlobals mg → mg d.name = some (.ref fa) →
      ∃ fd : FuncData, (∀ (s : Shared) (u : Value), BindsTo s fd ⟨[u], []⟩ [("_law_script", u)]) ∧ ∀ base : Heap, (K w.params).In base → base.Ns mainGlobals mg → FnG ⟨l.prog, w, K w.params, mg, base⟩ CX0 14 fa fd ["_law_script"] (DL.spOf (K w.params) 1 (fnW 1 8 (cT w_law)))) :
    PySem.W.WalkO q loose XP YP l.row.toRowW d [] (fun f vs => PySem.call f vs) :=
  law_walk (n := 63) (k := 14) (x := "_law_script") (CX := CX0) hn (by decide) hdf ⟨rfl, by decide, by decide⟩ cx0_ok hY F fun ns s _ hs => law_ok ns s hs
end V05
open PySem PySem.W PyProof.Rows
set_option maxRecDepth 100000 in
set_option maxHeartbeats 0 in
theorem PySem.Challenge.cw_drawerways_k05_deeds_by_kind_holds : PySem.Challenge.rw_drawerways_k05_deeds_by_kind.Holds := by
  w_on; o_law; k_head; (case hw => w_witness2)
  k_fill
  refine V05.walk (l := PySem.Challenge.rw_drawerways_k05_deeds_by_kind) rfl rfl (fun w h Y => PySem.W.kIn_of Y) ?F
  case F =>
    intro w mg fa h KX G hmg
    refine' V05.all_mk KX G hmg ?a1 ?l1 ?c1 ?k1 ?a2 ?l2 ?c2 ?k2 ?a3 ?l3 ?c3 ?k3 ?a4 ?l4 ?c4 ?k4 ?a5 ?l5 ?c5 ?k5 ?a6 ?l6 ?c6 ?k6 ?a7 ?l7 ?c7 ?k7 ?a8 ?l8 ?c8 ?k8 ?a9 ?l9 ?c9 ?k9 ?a10 ?l10 ?c10 ?k10 ?a11 ?l11 ?c11 ?k11 ?a12 ?l12 ?c12 ?k12 ?a13 ?l13 ?c13 ?k13 ?a14 ?l14 ?c14 ?k14 ?a15 ?l15 ?c15 ?k15 ?a16 ?l16 ?c16 ?k16 ?z1 ?z2 ?z3 ?z4 ?z5 ?z6 ?z7 ?z8 ?z9 ?z10 ?z11 ?z12 ?z13 ?z14 ?aT_FORMS ?lT_FORMS ?kT_FORMS ?sT_FORMS ?eT_FORMS ?pN ?kN
    (case a1 => k_is); (case l1 => k_is); (case c1 => k_is); (case k1 => k_is)
    (case a2 => k_is); (case l2 => k_is); (case c2 => k_is); (case k2 => k_is)
    (case a3 => k_is); (case l3 => k_is); (case c3 => k_is); (case k3 => k_is)
    (case a4 => k_is); (case l4 => k_is); (case c4 => k_is); (case k4 => k_is)
    (case a5 => k_is); (case l5 => k_is); (case c5 => k_is); (case k5 => k_is)
    (case a6 => k_is); (case l6 => k_is); (case c6 => k_is); (case k6 => k_is)
    (case a7 => k_is); (case l7 => k_is); (case c7 => k_is); (case k7 => k_is)
    (case a8 => k_is); (case l8 => k_is); (case c8 => k_is); (case k8 => k_is)
    (case a9 => k_is); (case l9 => k_is); (case c9 => k_is); (case k9 => k_is)
    (case a10 => k_is); (case l10 => k_is); (case c10 => k_is); (case k10 => k_is)
    (case a11 => k_is); (case l11 => k_is); (case c11 => k_is); (case k11 => k_is)
    (case a12 => k_is); (case l12 => k_is); (case c12 => k_is); (case k12 => k_is)
    (case a13 => k_is); (case l13 => k_is); (case c13 => k_is); (case k13 => k_is)
    (case a14 => k_is); (case l14 => k_is); (case c14 => k_is); (case k14 => k_is)
    (case a15 => k_is); (case l15 => k_is); (case c15 => k_is); (case k15 => k_is)
    (case a16 => k_is); (case l16 => k_is); (case c16 => k_is); (case k16 => k_is)
    (case z1 => k_is)
    (case z2 => k_is)
    (case z3 => k_is)
    (case z4 => k_is)
    (case z5 => k_is)
    (case z6 => k_is)
    (case z7 => k_is)
    (case z8 => k_is)
    (case z9 => k_is)
    (case z10 => k_is)
    (case z11 => k_is)
    (case z12 => k_is)
    (case z13 => k_is)
    (case z14 => k_is)
    (case aT_FORMS => k_is)
    (case lT_FORMS => k_is)
    (case kT_FORMS => k_keys)
    (case sT_FORMS => first | rfl | decide)
    (case eT_FORMS => exact ⟨⟨_, rfl⟩, ⟨.ref _, rfl, DL.dw_words (xs := ["way"]) (by k_is) rfl rfl (Nat.le_of_ble_eq_true rfl) (.cons ⟨_, rfl⟩ .nil)⟩, ⟨⟨_, rfl⟩, ⟨.ref _, rfl, DL.dw_words (xs := ["way"]) (by k_is) rfl rfl (Nat.le_of_ble_eq_true rfl) (.cons ⟨_, rfl⟩ .nil)⟩, ⟨⟨_, rfl⟩, ⟨.ref _, rfl, DL.dw_words (xs := ["named", "kind"]) (by k_is) rfl rfl (Nat.le_of_ble_eq_true rfl) (.cons ⟨_, rfl⟩ (.cons ⟨_, rfl⟩ .nil))⟩, ⟨⟨_, rfl⟩, ⟨.ref _, rfl, DL.dw_words (xs := ["named"]) (by k_is) rfl rfl (Nat.le_of_ble_eq_true rfl) (.cons ⟨_, rfl⟩ .nil)⟩, ⟨⟨_, rfl⟩, ⟨.ref _, rfl, DL.dw_words (xs := ["named", "named"]) (by k_is) rfl rfl (Nat.le_of_ble_eq_true rfl) (.cons ⟨_, rfl⟩ (.cons ⟨_, rfl⟩ .nil))⟩, ⟨⟨_, rfl⟩, ⟨.ref _, rfl, DL.dw_words (xs := ["named", "named"]) (by k_is) rfl rfl (Nat.le_of_ble_eq_true rfl) (.cons ⟨_, rfl⟩ (.cons ⟨_, rfl⟩ .nil))⟩, ⟨⟨_, rfl⟩, ⟨.ref _, rfl, DL.dw_words (xs := ["named", "named"]) (by k_is) rfl rfl (Nat.le_of_ble_eq_true rfl) (.cons ⟨_, rfl⟩ (.cons ⟨_, rfl⟩ .nil))⟩, trivial⟩⟩⟩⟩⟩⟩⟩)
    (case pN => k_is)
    (case kN => k_is)
#print axioms PySem.Challenge.cw_drawerways_k05_deeds_by_kind_holds
