import PyProof.Rows.All
import Wide.All
import OpenK.AllK
import Wide.FinOn
import PyProof.EqAt
import PyProof.EqKinds
import PyProof.TupleCall
import HandS.ForMost
import HandS.Walk
import HandS.TupAny
import HandS.More
import HandS.IsInst
import KE.KeyNested
import HandS.Deep
import HandS.TupSets
import HandS.Conv
import KE.KIndexOf
import HandS.SetFor
import KE.KSortedM
import HandS.RepeatKit
import HandS.ClsMeth
import HandS.Records
import HandS.Zip
import HandS.Style
import KE.GoesEnum
import HandS.DictComp
import PyProof.DictRoadsH
import HandS.DictTup
import HandS.Small
import HandS.Codes
import KE.KDictList
import KE.KDictSum
import PyProof.P3In
import KE.KDictPairs
import KE.KDictZip
import KE.KDictKeyed
import HandS.Strs
import KE.KSortTupG
import HandS.Text
import PyProof.TupleOfSeq
import PySem.Challenge.RW_dealclashes_k03_whole_maps
set_option Elab.async false
set_option linter.all false
set_option maxRecDepth 100000
/-! Z0: a shallow evaluator over the hand layer: values as trees, readings as functions that the kernel can run, draws as a tree. -/
namespace Zl
open PySem L2
inductive D where
  | non | bl (b : Bool) | int (i : Int) | str (s : List Nat) | ty (n : String) | fn (k : Nat)
  | tup (xs : List D) | lst (xs : List D) | dct (ks vs : List D)
/-- what comes of a piece of a program: a value, a draw from n numbers, nothing that is known -/
inductive T (α : Type) where
  | ret (a : α) | draw (n : Nat) (k : Nat → T α) | fail
def T.bind {α β : Type} : T α → (α → T β) → T β
  | .ret a, k => k a
  | .draw n f, k => .draw n fun i => (f i).bind k
  | .fail, _ => .fail
def T.all {α : Type} : T α → (α → Prop) → Prop
  | .ret a, P => P a
  | .draw n f, P => ∀ i, i < n → (f i).all P
  | .fail, _ => False
theorem T.all_mono {α : Type} {P Q : α → Prop} (h : ∀ a, P a → Q a) : ∀ {t : T α}, t.all P → t.all Q
  | .ret a, x => h a x
  | .draw _ f, x => fun i hi => T.all_mono h (t := f i) (x i hi)
  | .fail, x => x
theorem T.all_bind {α β : Type} {k : α → T β} {P : β → Prop} : ∀ {t : T α}, (t.bind k).all P → t.all fun a => (k a).all P
  | .ret _, x => x
  | .draw _ f, x => fun i hi => T.all_bind (t := f i) (x i hi)
  | .fail, x => x
theorem T.bind_all {α β : Type} {k : α → T β} {P : β → Prop} : ∀ {t : T α}, (t.all fun a => (k a).all P) → (t.bind k).all P
  | .ret _, x => x
  | .draw _ f, x => fun i hi => T.bind_all (t := f i) (x i hi)
  | .fail, x => x
def ofO {α : Type} : Option α → T α
  | some a => .ret a
  | none => .fail
theorem all_ofO {α : Type} {o : Option α} {P : α → Prop} (h : (ofO o).all P) : ∃ a, o = some a ∧ P a := by
  cases o with
  | none => exact h.elim
  | some a => exact ⟨a, rfl, h⟩
/-- the defs by number, the world (hashes) -/
structure Ev where
  fn : Nat → Option Addr
  w : World
mutual
/-- a key of a dict: ints, texts, None, tuples of such -/
def nk : D → Option NestedKey
  | .non => some .none
  | .int i => some (.num i)
  | .str s => some (.text ⟨s.toArray⟩)
  | .tup xs => match nks xs with
    | some ks => some (.tup ks)
    | none => none
  | _ => none
def nks : List D → Option (List NestedKey)
  | [] => some []
  | x :: xs => match nk x, nks xs with
    | some k, some ks => some (k :: ks)
    | _, _ => none
end
/-- the object of a dict: its keys, where they stand, its values -/
def dctP (w : World) (xs : List (NestedKey × Addr × Value)) (ep : Nat) (a : Addr) (h : Heap) : Prop := (a == sysModules) = false ∧ ∃ o es, h.get? a = some o ∧ o.ExactDict ∧ o.data = .dict es ep ∧ es.toList = xs.map fun x => ⟨NestedKey.hash w x.1, .ref x.2.1, x.2.2⟩
abbrev dctO (w : World) (xs : List (NestedKey × Addr × Value)) (ep : Nat) (a : Addr) : HO := .ext (dctP w xs ep a)
def dKeys (xs : List (NestedKey × Addr × Value)) : List V := xs.map fun x => V.ref x.2.1
structure DctOk (xs : List (NestedKey × Addr × Value)) (vv : List V) (ks : List D) : Prop where
  nk : nks ks = some (xs.map (·.1))
  nd : (xs.map (·.1)).Nodup
  dp : ∀ x ∈ xs, x.1.depth ≤ 8
  vs : Vals vv (xs.map (·.2.2))
  sz : xs.length ≤ 10000
/-- what a slot holds: a value, the n-th list of the frame's own (it may turn), the draws' list -/
inductive SV where
  | v (d : D) | r (n : Nat) | row
abbrev Fr := List (Option SV)
/-- the frame's own lists -/
abbrev Hz := List (List D)
section
variable (K : PySem.W.Frag) (F : Ev)
/-- a static tuple -/
def StT (a : Addr) (xs : List V) : Prop :=
  ∃ (o : Obj) (its : Array Value) (n : Nat), (K.lookup a = some o ∧ o.cls = .type "tuple" ∧ o.data = .seq its n ∧ its.size ≤ sizeLine ∧ Vals xs its.toList) ∧ o.dict = none
/-- a tuple whose object is known to bear no dict -/
def TupO (H : Hp) (a : Addr) (xs : List V) : Prop := ∃ o, H a = some (.frz o (.tup xs)) ∧ o.dict = none
mutual
inductive Rep (m : List Addr) (H : Hp) : V → D → Prop
  | non : Rep m H .non .non
  | bl (b : Bool) : Rep m H (.bl b) (.bl b)
  | int (i : Int) : Rep m H (.int i) (.int i)
  | str (s : List Nat) : Rep m H (.str ⟨s.toArray⟩) (.str s)
  | ty (n : String) : Rep m H (.ty n) (.ty n)
  | fn {k : Nat} {a : Addr} : F.fn k = some a → Rep m H (.ref a) (.fn k)
  | tup {a : Addr} {vs : List V} {ds : List D} : a ∉ m → TupO H a vs → Reps m H vs ds → Rep m H (.ref a) (.tup ds)
  | tupK {a : Addr} {vs : List V} {ds : List D} : StT K a vs → Reps m H vs ds → Rep m H (.ref a) (.tup ds)
  | lst {a : Addr} {vs : List V} {ds : List D} : a ∉ m → H a = some (.lst vs) → Reps m H vs ds → Rep m H (.ref a) (.lst ds)
  | dct {a : Addr} {xs : List (NestedKey × Addr × Value)} {ep : Nat} {vv : List V} {ks vs : List D} : a ∉ m → H a = some (dctO F.w xs ep a) → DctOk xs vv ks → Reps m H (dKeys xs) ks → Reps m H vv vs → Rep m H (.ref a) (.dct ks vs)
inductive Reps (m : List Addr) (H : Hp) : List V → List D → Prop
  | nil : Reps m H [] []
  | cons {v : V} {vs : List V} {d : D} {ds : List D} : Rep m H v d → Reps m H vs ds → Reps m H (v :: vs) (d :: ds)
end
/-- a static list -/
def StL (a : Addr) (xs : List V) : Prop :=
  ∃ (o : Obj) (its : Array Value) (n : Nat), K.lookup a = some o ∧ o.cls = .type "list" ∧ o.dict = none ∧ o.data = .seq its n ∧ its.size ≤ sizeLine ∧ Vals xs its.toList
/-- the script: locked, or of the text -/
def ScrOk (H : Hp) (s : Addr) (xs : List V) : Prop := (∃ o, H s = some (.frz o (.lst xs))) ∨ StL K s xs
/-- the script's draws stand in a list of four: the script, three ints -/
def RowOk (H : Hp) (a : Addr) : Prop := ∃ (s : Addr) (ns : List Int) (i z r : Int), H a = some (.lst [.ref s, .int i, .int z, .int r]) ∧ ScrOk K H s (ns.map V.int) ∧ ns.length ≤ 63 ∧ 0 ≤ i
def LstC (m : List Addr) (H : Hp) (a : Addr) (ds : List D) : Prop := ∃ vs, H a = some (.lst vs) ∧ Reps K F m H vs ds
/-- a dict of the frame's own, its keys ints -/
def DctC (m : List Addr) (H : Hp) (a : Addr) (ds : List D) : Prop := ∃ (kvs : List (Key × V)) (is : List Int) (us : List D), ds = [.dct (is.map D.int) us] ∧ H a = some (.dK kvs) ∧ kvs.map (·.1) = is.map Sum.inl ∧ Reps K F m H (kvs.map (·.2)) us
/-- not the mark of a dict -/
def lstOk : List D → Bool
  | .dct _ _ :: _ => false
  | _ => true
def CellR (m : List Addr) (H : Hp) (a : Addr) (ds : List D) : Prop := (lstOk ds = true ∧ LstC K F m H a ds) ∨ DctC K F m H a ds
end
section
variable {K : PySem.W.Frag} {F : Ev} {m m' : List Addr} {H H' : Hp}
mutual
theorem Rep.keep (hm : ∀ a, a ∈ m' → a ∈ m ∨ H a = none) (hk : ∀ a o, a ∉ m → H a = some o → H' a = some o) : ∀ (d : D) (v : V), Rep K F m H v d → Rep K F m' H' v d
  | .non, _, h => by cases h; exact .non
  | .bl b, _, h => by cases h; exact .bl b
  | .int i, _, h => by cases h; exact .int i
  | .str s, _, h => by cases h; exact .str s
  | .ty n, _, h => by cases h; exact .ty n
  | .fn k, _, h => by cases h with | fn e => exact .fn e
  | .tup ds, _, h => by
    cases h with
    | tup hn e r =>
      obtain ⟨o, e, ed⟩ := e
      exact .tup (fun q => (hm _ q).elim hn fun z => by rw [z] at e; cases e) ⟨o, hk _ _ hn e, ed⟩ (Reps.keep hm hk ds _ r)
    | tupK e r => exact .tupK e (Reps.keep hm hk ds _ r)
  | .lst ds, _, h => by
    cases h with
    | lst hn e r => exact .lst (fun q => (hm _ q).elim hn fun z => by rw [z] at e; cases e) (hk _ _ hn e) (Reps.keep hm hk ds _ r)
  | .dct ks vs, _, h => by
    cases h with
    | dct hn e es r1 r2 => exact .dct (fun q => (hm _ q).elim hn fun z => by rw [z] at e; cases e) (hk _ _ hn e) es (Reps.keep hm hk ks _ r1) (Reps.keep hm hk vs _ r2)
theorem Reps.keep (hm : ∀ a, a ∈ m' → a ∈ m ∨ H a = none) (hk : ∀ a o, a ∉ m → H a = some o → H' a = some o) : ∀ (ds : List D) (vs : List V), Reps K F m H vs ds → Reps K F m' H' vs ds
  | [], _, h => by cases h; exact .nil
  | d :: ds, _, h => by cases h with | cons h1 h2 => exact .cons (Rep.keep hm hk d _ h1) (Reps.keep hm hk ds _ h2)
end
theorem Reps.length : ∀ {vs : List V} {ds : List D}, Reps K F m H vs ds → vs.length = ds.length
  | _, _, .nil => rfl
  | _, _, .cons _ t => congrArg (· + 1) (Reps.length t)
theorem Reps.get : ∀ {vs : List V} {ds : List D} {i : Nat} {d : D}, Reps K F m H vs ds → ds[i]? = some d → ∃ v, vs[i]? = some v ∧ Rep K F m H v d
  | _, _, _, _, .nil, e => by simp at e
  | _, _, 0, _, .cons r _, e => by simp at e; subst e; exact ⟨_, rfl, r⟩
  | _, _, i + 1, d, .cons _ t, e => by
    obtain ⟨v, h1, h2⟩ := Reps.get (i := i) (d := d) t (by simpa using e)
    exact ⟨v, by simpa using h1, h2⟩
theorem Reps.append : ∀ {vs ws : List V} {ds es : List D}, Reps K F m H vs ds → Reps K F m H ws es → Reps K F m H (vs ++ ws) (ds ++ es)
  | _, _, _, _, .nil, s => s
  | _, _, _, _, .cons r t, s => .cons r (Reps.append t s)
theorem Reps.take : ∀ {vs : List V} {ds : List D} (n : Nat), Reps K F m H vs ds → Reps K F m H (vs.take n) (ds.take n)
  | _, _, 0, _ => .nil
  | _, _, _ + 1, .nil => .nil
  | _, _, n + 1, .cons r t => .cons r (Reps.take n t)
theorem Reps.drop : ∀ {vs : List V} {ds : List D} (n : Nat), Reps K F m H vs ds → Reps K F m H (vs.drop n) (ds.drop n)
  | _, _, 0, r => r
  | _, _, _ + 1, .nil => .nil
  | _, _, n + 1, .cons _ t => Reps.drop n t
theorem Reps.set {v : V} {d : D} (r : Rep K F m H v d) : ∀ {vs : List V} {ds : List D} (i : Nat), Reps K F m H vs ds → Reps K F m H (vs.set i v) (ds.set i d)
  | _, _, _, .nil => .nil
  | _, _, 0, .cons _ t => .cons r t
  | _, _, i + 1, .cons q t => .cons q (Reps.set r i t)
theorem Reps.rep {vs : List V} {ds : List D} (h : Reps K F m H vs ds) : ∀ k : Nat, Reps K F m H (List.replicate k vs).flatten (List.replicate k ds).flatten
  | 0 => .nil
  | k + 1 => by
    rw [List.replicate_succ, List.replicate_succ, List.flatten_cons, List.flatten_cons]
    exact h.append (Reps.rep h k)
theorem CellR.lst {a : Addr} {ds : List D} (c : CellR K F m H a ds) (h : lstOk ds = true) : ∃ vs, H a = some (.lst vs) ∧ Reps K F m H vs ds := by
  rcases c with c | ⟨kvs, is, us, rfl, _⟩
  · exact c.2
  · cases h
theorem CellR.tr {a : Addr} {ds : List D} (c : CellR K F m H a ds) (k : ∀ o, H a = some o → H' a = some o) (r : ∀ (vs : List V) (ds : List D), Reps K F m H vs ds → Reps K F m' H' vs ds) : CellR K F m' H' a ds := by
  rcases c with ⟨h, vs, e, q⟩ | ⟨kvs, is, us, e1, e2, e3, q⟩
  · exact .inl ⟨h, vs, k _ e, r _ _ q⟩
  · exact .inr ⟨kvs, is, us, e1, k _ e2, e3, r _ _ q⟩
theorem CellR.nofz {a : Addr} {ds : List D} (c : CellR K F m H a ds) : ∀ ob u, H a ≠ Option.some (HO.frz ob u) := by
  intro ob u z
  rcases c with ⟨h, vs, e, q⟩ | ⟨kvs, is, us, e1, e2, e3, q⟩
  · rw [e] at z; cases z
  · rw [e2] at z; cases z
end
/-- the objects but the draws' list stand as they stood -/
def Keep (ρ : Option Addr) (H H' : Hp) : Prop := ∀ a o, ρ ≠ some a → H a = some o → H' a = some o
theorem Keep.refl (ρ : Option Addr) (H : Hp) : Keep ρ H H := fun _ _ _ h => h
theorem Keep.trans {ρ : Option Addr} {H H1 H2 : Hp} (x : Keep ρ H H1) (y : Keep ρ H1 H2) : Keep ρ H H2 := fun a o n h => y a o n (x a o n h)
theorem Keep.of {ρ : Option Addr} {H H' : Hp} (h : Same H H') : Keep ρ H H' := fun a o _ e => h a o e
theorem Keep.same {H H' : Hp} (h : Keep none H H') : Same H H' := fun a o e => h a o (fun z => nomatch z) e
theorem same_new {H : Hp} {p : Addr} {o : HO} (h : H p = none) : Same H (upd H p o) := fun b u e => by rw [upd_ne (ne_of_none e h)]; exact e
section
variable (K : PySem.W.Frag) (F : Ev)
/-- m0: the callers' own objects (and a comprehension's list); m1: the frame's own, as hp tells -/
structure Sim (m0 m1 : List Addr) (H : Hp) (hp : Hz) : Prop where
  len : m1.length = hp.length
  nd : m1.Nodup
  dis : ∀ a, a ∈ m0 → a ∉ m1
  dom : ∀ a, a ∈ m0 ++ m1 → H a ≠ none
  cell : ∀ (n : Nat) (c : List D), hp[n]? = some c → ∃ a, m1[n]? = some a ∧ CellR K F (m0 ++ m1) H a c
def RowA (ρ : Option Addr) (H : Hp) : Prop := ∀ a, ρ = some a → RowOk K H a
def RepS (ρ : Option Addr) (m0 m1 : List Addr) (H : Hp) (v : V) : SV → Prop
  | .v d => Rep K F (m0 ++ m1) H v d
  | .r n => ∃ a, m1[n]? = some a ∧ v = .ref a
  | .row => ∃ a, ρ = some a ∧ v = .ref a
structure FrR (ρ : Option Addr) (m0 m1 : List Addr) (H : Hp) (σ : L2.St) (fr : Fr) : Prop where
  len : σ.length = fr.length
  slot : ∀ (i : Nat) (s : SV), fr[i]? = some (some s) → ∃ v, σ[i]? = some (some v) ∧ RepS K F ρ m0 m1 H v s
structure At (ρ : Option Addr) (m0 m1 : List Addr) (H : Hp) (σ : L2.St) (fr : Fr) (hp : Hz) : Prop where
  fr : FrR K F ρ m0 m1 H σ fr
  sim : Sim K F m0 m1 H hp
  row : RowA K ρ H
  own : ∀ a, ρ = some a → a ∈ m0
end
section
variable {K : PySem.W.Frag} {F : Ev} {ρ : Option Addr} {m m' m0 m1 : List Addr} {H H' : Hp} {σ : L2.St} {fr : Fr} {hp : Hz}
theorem Rep.sub {v : V} {d : D} (h : Rep K F m H v d) (s : ∀ a, a ∈ m' → a ∈ m) : Rep K F m' H v d := Rep.keep (fun a q => .inl (s a q)) (fun _ _ _ e => e) d v h
theorem Reps.sub {v : List V} {d : List D} (h : Reps K F m H v d) (s : ∀ a, a ∈ m' → a ∈ m) : Reps K F m' H v d := Reps.keep (fun a q => .inl (s a q)) (fun _ _ _ e => e) d v h
theorem Rep.on {v : V} {d : D} (h : Rep K F (m0 ++ m1) H v d) (o : ∀ a, ρ = some a → a ∈ m0) (k : Keep ρ H H') : Rep K F (m0 ++ m1) H' v d :=
  Rep.keep (fun a q => .inl q) (fun a ob n e => k a ob (fun z => n (List.mem_append_left _ (o a z))) e) d v h
theorem Reps.on {vs : List V} {ds : List D} (h : Reps K F (m0 ++ m1) H vs ds) (o : ∀ a, ρ = some a → a ∈ m0) (k : Keep ρ H H') : Reps K F (m0 ++ m1) H' vs ds :=
  Reps.keep (fun a q => .inl q) (fun a ob n e => k a ob (fun z => n (List.mem_append_left _ (o a z))) e) ds vs h
theorem ScrOk.keep {s : Addr} {xs : List V} (h : ScrOk K H s xs) (k : ∀ o, H s = some (.frz o (.lst xs)) → H' s = some (.frz o (.lst xs))) : ScrOk K H' s xs := h.elim (fun ⟨o, e⟩ => .inl ⟨o, k o e⟩) .inr
theorem ScrOk.sq {s : Addr} {xs : List V} (h : ScrOk K H s xs) : SqL K H s xs := h.elim (fun ⟨o, e⟩ => .inl (.inr ⟨o, e⟩)) .inr
theorem RowOk.keep {a : Addr} (h : RowOk K H a) (ka : ∀ xs, H a = some (.lst xs) → H' a = some (.lst xs)) (k : ∀ s o xs, H s = some (.frz o (.lst xs)) → H' s = some (.frz o (.lst xs))) : RowOk K H' a := by
  obtain ⟨s, ns, i, z, r, e1, hs, q⟩ := h
  exact ⟨s, ns, i, z, r, ka _ e1, hs.keep fun o e => k s o _ e, q⟩
theorem RowA.same (h : RowA K ρ H) (k : Same H H') : RowA K ρ H' := fun a e => (h a e).keep (fun _ z => k _ _ z) fun _ _ _ z => k _ _ z
theorem Sim.on (h : Sim K F m0 m1 H hp) (o : ∀ a, ρ = some a → a ∈ m0) (row : RowA K ρ H') (k : Keep ρ H H') : Sim K F m0 m1 H' hp := by
  refine ⟨h.len, h.nd, h.dis, fun a q z => ?_, fun n c e => ?_⟩
  · by_cases hr : ρ = some a
    · obtain ⟨_, _, _, _, _, e1, _⟩ := row a hr
      rw [e1] at z; cases z
    · cases e : H a with
      | none => exact h.dom a q e
      | some ob => rw [k a ob hr e] at z; cases z
  · obtain ⟨a, e1, cr⟩ := h.cell n c e
    have hm : a ∈ m1 := List.mem_of_getElem? e1
    exact ⟨a, e1, cr.tr (fun ob => k a ob (fun z => h.dis a (o a z) hm)) fun vs ds r => r.on o k⟩
theorem RepS.on {v : V} {s : SV} (h : RepS K F ρ m0 m1 H v s) (o : ∀ a, ρ = some a → a ∈ m0) (k : Keep ρ H H') : RepS K F ρ m0 m1 H' v s := by
  cases s with
  | v d => exact Rep.on h o k
  | r n => exact h
  | row => exact h
theorem FrR.on (h : FrR K F ρ m0 m1 H σ fr) (o : ∀ a, ρ = some a → a ∈ m0) (k : Keep ρ H H') : FrR K F ρ m0 m1 H' σ fr :=
  ⟨h.len, fun i s e => let ⟨v, e1, e2⟩ := h.slot i s e; ⟨v, e1, e2.on o k⟩⟩
theorem At.on (h : At K F ρ m0 m1 H σ fr hp) (k : Keep ρ H H') (w : RowA K ρ H') : At K F ρ m0 m1 H' σ fr hp := ⟨h.fr.on h.own k, h.sim.on h.own w k, w, h.own⟩
theorem At.same (h : At K F ρ m0 m1 H σ fr hp) (k : Same H H') : At K F ρ m0 m1 H' σ fr hp := h.on (.of k) (h.row.same k)
/-- a new address is none of ours -/
theorem Sim.new (h : Sim K F m0 m1 H hp) {p : Addr} (e : H p = none) : p ∉ m0 ++ m1 := fun q => h.dom p q e
/-- an address that is free later was free before -/
theorem At.free (h : At K F ρ m0 m1 H σ fr hp) (k : Keep ρ H H') (w : RowA K ρ H') {p : Addr} (e : H' p = none) : H p = none := by
  cases q : H p with
  | none => rfl
  | some o =>
    by_cases hr : ρ = some p
    · obtain ⟨_, _, _, _, _, e1, _⟩ := w p hr
      rw [e1] at e; cases e
    · rw [k p o hr q] at e; cases e
end
/-! ### readings -/
abbrev Ex := Fr → Hz → T D
section
variable (K : PySem.W.Frag) (F : Ev)
/-- an expression's reading -/
def tX (f : Ex) : TE := fun σ H Q => ∃ ρ m0 m1 fr hp, At K F ρ m0 m1 H σ fr hp ∧ (f fr hp).all fun d => ∀ H' v, Keep ρ H H' → RowA K ρ H' → Rep K F (m0 ++ m1) H' v d → Q v H'
/-- a test's -/
def tB' (f : Fr → Hz → T Bool) : TT := fun σ H Q => ∃ ρ m0 m1 fr hp, At K F ρ m0 m1 H σ fr hp ∧ (f fr hp).all fun b => ∀ H', Keep ρ H H' → RowA K ρ H' → Q b H'
/-- an argument list's -/
def tAs (f : Fr → Hz → T (List D)) : TA := fun σ H Q => ∃ ρ m0 m1 fr hp, At K F ρ m0 m1 H σ fr hp ∧ (f fr hp).all fun ds => ∀ H' vs, Keep ρ H H' → RowA K ρ H' → Reps K F (m0 ++ m1) H' vs ds → Q vs H'
/-- a list or tuple: its items are to be read -/
def SeqA (m0 : List Addr) (H : Hp) (a : Addr) (vs : List V) : Prop := (a ∉ m0 ∧ (H a = some (.lst vs) ∨ TupO H a vs)) ∨ StT K a vs
def SeqR (m0 m1 : List Addr) (H : Hp) (v : V) (ds : List D) : Prop := ∃ a vs, v = .ref a ∧ SeqA K m0 H a vs ∧ Reps K F (m0 ++ m1) H vs ds
/-- a new list of one's own -/
def tN (f : Fr → Hz → T (List D)) : TE := fun σ H Q => ∃ ρ m0 m1 fr hp, At K F ρ m0 m1 H σ fr hp ∧ (f fr hp).all fun ds => ∀ H' a vs, Keep ρ H H' → RowA K ρ H' → H a = none → H' a = some (.lst vs) → Reps K F (m0 ++ (m1 ++ [a])) H' vs ds → Q (.ref a) H'
/-- what is read as a row of items: a value, or the frame's own list -/
def tSq (f : Fr → Hz → T (List D)) : TE := fun σ H Q => ∃ ρ m0 m1 fr hp, At K F ρ m0 m1 H σ fr hp ∧ (f fr hp).all fun ds => ∀ H' v, Keep ρ H H' → RowA K ρ H' → SeqR K F m0 m1 H' v ds → Q v H'
end
section
variable {X : Cx} {e : Expr} {t t' : TE}
theorem PEimp (h : PE X e t) (hi : ∀ σ H Q, t' σ H Q → t σ H Q) : PE X e t' := ⟨fun pins s σ H Q I q => h.run pins s σ H Q I (hi σ H Q q)⟩
theorem PTimp {t t' : TT} (h : PT X e t) (hi : ∀ σ H Q, t' σ H Q → t σ H Q) : PT X e t' := ⟨fun pins s σ H Q I q => h.run pins s σ H Q I (hi σ H Q q)⟩
theorem PWimp {t t' : TT} (h : PW X e t) (hi : ∀ σ H Q, t' σ H Q → t σ H Q) : PW X e t' := ⟨fun wh pins s σ H Q I q => h.run wh pins s σ H Q I (hi σ H Q q)⟩
theorem PAimp {es : List Expr} {t t' : TA} (h : PA X es t) (hi : ∀ σ H Q, t' σ H Q → t σ H Q) : PA X es t' := ⟨fun pos pins s σ H Q I q => h.run pos pins s σ H Q I (hi σ H Q q)⟩
theorem PSimp {st : Stmt} {t t' : TS} (h : PS X st t) (hi : ∀ D σ H, t' D σ H → t D σ H) : PS X st t' := ⟨fun pins s σ H D I q => h.run pins s σ H D I (hi D σ H q)⟩
theorem PSsimp {st : List Stmt} {t t' : TS} (h : PSs X st t) (hi : ∀ D σ H, t' D σ H → t D σ H) : PSs X st t' := ⟨fun pins s σ H D I q => h.run pins s σ H D I (hi D σ H q)⟩
theorem PIimp {tg it : Expr} {t t' : TI} (h : PI X tg it t) (hi : ∀ σ H R, t' σ H R → t σ H R) : PI X tg it t' := ⟨fun pins s σ H R I q => h.run pins s σ H R I (hi σ H R q)⟩
end
section
variable {K : PySem.W.Frag} {F : Ev} {ρ : Option Addr} {m0 m1 : List Addr} {H H' : Hp} {σ : L2.St} {fr : Fr} {hp : Hz}
theorem tX_mk {f : Ex} {P : D → Prop} {Q : VK} (a : At K F ρ m0 m1 H σ fr hp) (h : (f fr hp).all P) (k : ∀ d, P d → ∀ H' v, Keep ρ H H' → At K F ρ m0 m1 H' σ fr hp → Rep K F (m0 ++ m1) H' v d → Q v H') : tX K F f σ H Q :=
  ⟨ρ, m0, m1, fr, hp, a, T.all_mono (fun d hd H' v kp s r => k d hd H' v kp (a.on kp s) r) h⟩
theorem tB_mk {f : Fr → Hz → T Bool} {P : Bool → Prop} {Q : Bool → Hp → Prop} (a : At K F ρ m0 m1 H σ fr hp) (h : (f fr hp).all P) (k : ∀ d, P d → ∀ H', Keep ρ H H' → At K F ρ m0 m1 H' σ fr hp → Q d H') : tB' K F f σ H Q :=
  ⟨ρ, m0, m1, fr, hp, a, T.all_mono (fun d hd H' kp s => k d hd H' kp (a.on kp s)) h⟩
theorem tAs_mk {f : Fr → Hz → T (List D)} {P : List D → Prop} {Q : List V → Hp → Prop} (a : At K F ρ m0 m1 H σ fr hp) (h : (f fr hp).all P) (k : ∀ d, P d → ∀ H' v, Keep ρ H H' → At K F ρ m0 m1 H' σ fr hp → Reps K F (m0 ++ m1) H' v d → Q v H') : tAs K F f σ H Q :=
  ⟨ρ, m0, m1, fr, hp, a, T.all_mono (fun d hd H' v kp s r => k d hd H' v kp (a.on kp s) r) h⟩
theorem tN_mk {f : Fr → Hz → T (List D)} {P : List D → Prop} {Q : VK} (a : At K F ρ m0 m1 H σ fr hp) (h : (f fr hp).all P) (k : ∀ d, P d → ∀ H' b vs, Keep ρ H H' → At K F ρ m0 m1 H' σ fr hp → H b = none → H' b = some (.lst vs) → Reps K F (m0 ++ (m1 ++ [b])) H' vs d → Q (.ref b) H') : tN K F f σ H Q :=
  ⟨ρ, m0, m1, fr, hp, a, T.all_mono (fun d hd H' b vs kp s z1 z3 r => k d hd H' b vs kp (a.on kp s) z1 z3 r) h⟩
theorem tSq_mk {f : Fr → Hz → T (List D)} {P : List D → Prop} {Q : VK} (a : At K F ρ m0 m1 H σ fr hp) (h : (f fr hp).all P) (k : ∀ d, P d → ∀ H' v, Keep ρ H H' → At K F ρ m0 m1 H' σ fr hp → SeqR K F m0 m1 H' v d → Q v H') : tSq K F f σ H Q :=
  ⟨ρ, m0, m1, fr, hp, a, T.all_mono (fun d hd H' v kp s r => k d hd H' v kp (a.on kp s) r) h⟩
theorem TupO.sq {K : PySem.W.Frag} {a : Addr} {vs : List V} (h : TupO H a vs) : SqT K H a vs := let ⟨o, e, _⟩ := h; .inl (.inr ⟨o, e⟩)
theorem StT.sq {a : Addr} {vs : List V} (h : StT K a vs) : SqT K H a vs := let ⟨o, its, n, e, _⟩ := h; .inr ⟨o, its, n, e⟩
theorem TupO.on {a : Addr} {vs : List V} (h : TupO H a vs) (n : ρ ≠ some a) (k : Keep ρ H H') : TupO H' a vs := let ⟨o, e, d⟩ := h; ⟨o, k a _ n e, d⟩
theorem TupO.new {p : Addr} {o : Obj} {vs : List V} (h : o.dict = none) : TupO (upd H p (.frz o (.tup vs))) p vs := ⟨o, upd_same, h⟩
theorem Rep.tupR {m : List Addr} {v : V} {ds : List D} (h : Rep K F m H v (.tup ds)) : ∃ a vs, v = .ref a ∧ SqT K H a vs ∧ Reps K F m H vs ds := by
  cases h with
  | tup hn e r => exact ⟨_, _, rfl, e.sq, r⟩
  | tupK e r => exact ⟨_, _, rfl, e.sq, r⟩
theorem Rep.lstR {m : List Addr} {v : V} {ds : List D} (h : Rep K F m H v (.lst ds)) : ∃ a vs, v = .ref a ∧ a ∉ m ∧ H a = some (.lst vs) ∧ Reps K F m H vs ds := by
  cases h with
  | lst hn e r => exact ⟨_, _, rfl, hn, e, r⟩
/-- the items of a list or a tuple -/
def D.seq : D → Option (List D)
  | .tup xs => some xs
  | .lst xs => some xs
  | _ => none
theorem Rep.seqR {v : V} {d : D} {ds : List D} (h : Rep K F (m0 ++ m1) H v d) (e : d.seq = some ds) : SeqR K F m0 m1 H v ds := by
  cases d <;> first | (cases e; done) | skip
  · obtain rfl := Option.some.inj e
    cases h with
    | tup hn e r => exact ⟨_, _, rfl, .inl ⟨fun q => hn (List.mem_append_left _ q), .inr e⟩, r⟩
    | tupK e r => exact ⟨_, _, rfl, .inr e, r⟩
  · obtain rfl := Option.some.inj e
    cases h with
    | lst hn e r => exact ⟨_, _, rfl, .inl ⟨fun q => hn (List.mem_append_left _ q), .inl e⟩, r⟩
theorem SeqA.sq {a : Addr} {vs : List V} (h : SeqA K m0 H a vs) : SqL K H a vs ∨ SqT K H a vs := by
  rcases h with ⟨_, h | h⟩ | h
  · exact .inl (.inl (.inl h))
  · exact .inr h.sq
  · exact .inr h.sq
theorem SeqA.on {a : Addr} {vs : List V} (h : SeqA K m0 H a vs) (o : ∀ a, ρ = some a → a ∈ m0) (k : Keep ρ H H') : SeqA K m0 H' a vs := by
  rcases h with ⟨hn, h | h⟩ | h
  · exact .inl ⟨hn, .inl (k a _ (fun z => hn (o a z)) h)⟩
  · exact .inl ⟨hn, .inr (h.on (fun z => hn (o a z)) k)⟩
  · exact .inr h
/-- the new heap behind a new object -/
theorem At.upd (a : At K F ρ m0 m1 H σ fr hp) {p : Addr} {o : HO} (h : H p = none) : Keep ρ H (upd H p o) ∧ At K F ρ m0 m1 (upd H p o) σ fr hp :=
  ⟨.of (same_new h), a.same (same_new h)⟩
theorem sub_more {m0 m1 : List Addr} {b a : Addr} (h : a ∈ m0 ++ m1) : a ∈ m0 ++ (m1 ++ [b]) := by
  rcases List.mem_append.mp h with z | z
  · exact List.mem_append_left _ z
  · exact List.mem_append_right _ (List.mem_append_left _ z)
/-- .. a new object's address may be forbidden besides -/
theorem Reps.more {vs : List V} {ds : List D} {b : Addr} (h : Reps K F (m0 ++ m1) H vs ds) (hb : H b = none) (k : Same H H') : Reps K F (m0 ++ (m1 ++ [b])) H' vs ds :=
  Reps.keep (fun a q => by
    rcases List.mem_append.mp q with z | z
    · exact .inl (List.mem_append_left _ z)
    · rcases List.mem_append.mp z with z | z
      · exact .inl (List.mem_append_right _ z)
      · have : a = b := by simpa using z
        subst this
        exact .inr hb) (fun a o _ e => k a o e) ds vs h
end
end Zl
set_option Elab.async false
set_option linter.all false
set_option maxRecDepth 100000
set_option maxHeartbeats 1000000
/-! Z1: operators, comparisons, subscripts by values. -/
namespace Zl
open PySem L2
/-! ### == at any depth -/
def allB {α β : Type} (f : α → β → Bool) : List α → List β → Bool
  | [], [] => true
  | x :: xs, y :: ys => if f x y then allB f xs ys else false
  | _, _ => false
def eqNs : List Nat → List Nat → Bool
  | [], [] => true
  | x :: xs, y :: ys => if Nat.beq x y then eqNs xs ys else false
  | _, _ => false
def eqI (a b : Int) : Bool := decide (a = b)
def beq : Nat → D → D → Bool
  | n + 1, .tup xs, .tup ys => allB (beq n) xs ys
  | n + 1, .lst xs, .lst ys => allB (beq n) xs ys
  | _, .int a, .int b => eqI a b
  | _, .str a, .str b => eqNs a b
  | _, .bl a, .bl b => a == b
  | _, .non, .non => true
  | _, .bl a, .int b => eqI (if a then 1 else 0) b
  | _, .int a, .bl b => eqI a (if b then 1 else 0)
  | _, _, _ => false
def allO (f : D → Bool) : List D → Bool
  | [] => true
  | x :: xs => if f x then allO f xs else false
def okNs : List Nat → Bool
  | [] => true
  | x :: xs => if Nat.blt x 1114112 then okNs xs else false
def okD : Nat → D → Bool
  | _, .int _ => true
  | _, .bl _ => true
  | _, .non => true
  | _, .str s => okNs s
  | n + 1, .tup xs => allO (okD n) xs
  | n + 1, .lst xs => allO (okD n) xs
  | _, _ => false
mutual
def toPy : D → PyData
  | .non => .none
  | .bl b => .bool b
  | .int i => .int i
  | .str s => .str ⟨s.toArray⟩
  | .ty _ => .none
  | .fn _ => .none
  | .tup xs => .tuple (toPys xs)
  | .lst xs => .list (toPys xs)
  | .dct _ _ => .none
def toPys : List D → List PyData
  | [] => []
  | x :: xs => toPy x :: toPys xs
end
theorem eqNs_iff : ∀ (a b : List Nat), eqNs a b = decide (a = b)
  | [], [] => by simp [eqNs]
  | [], _ :: _ => by simp [eqNs]
  | _ :: _, [] => by simp [eqNs]
  | x :: xs, y :: ys => by
    unfold eqNs
    rw [eqNs_iff xs ys]
    by_cases h : x = y
    · subst h
      simp
    · have : Nat.beq x y = false := by
        cases e : Nat.beq x y with
        | false => rfl
        | true => exact absurd (Nat.eq_of_beq_eq_true e) h
      rw [this]
      simp [h]
theorem eqI_beq (a b : Int) : eqI a b = (a == b) := by unfold eqI; rw [Bool.beq_eq_decide_eq]
theorem str_beq (a b : List Nat) : ((⟨a.toArray⟩ : Str) == ⟨b.toArray⟩) = eqNs a b := by
  rw [eqNs_iff]
  by_cases h : a = b
  · subst h
    simp
  · rw [decide_eq_false h]
    refine beq_eq_false_iff_ne.mpr fun e => h ?_
    have q : a.toArray = b.toArray := congrArg Str.cps e
    simpa using congrArg Array.toList q
mutual
theorem eqv_beq : ∀ (n : Nat) (a b : D), okD n a = true → okD n b = true → PyData.eqv (toPy a) (toPy b) = beq n a b
  | n + 1, .tup xs, .tup ys, ha, hb => by
    simp only [toPy, PyData.eqv, beq]
    exact eqv_all n xs ys ha hb
  | n + 1, .lst xs, .lst ys, ha, hb => by
    simp only [toPy, PyData.eqv, beq]
    exact eqv_all n xs ys ha hb
  | 0, .tup _, _, ha, _ => absurd ha (by simp [okD])
  | 0, .lst _, _, ha, _ => absurd ha (by simp [okD])
  | 0, _, .tup _, _, hb => absurd hb (by simp [okD])
  | 0, _, .lst _, _, hb => absurd hb (by simp [okD])
  | n, .ty _, _, ha, _ => absurd ha (by cases n <;> simp [okD])
  | n, .fn _, _, ha, _ => absurd ha (by cases n <;> simp [okD])
  | n, .dct _ _, _, ha, _ => absurd ha (by cases n <;> simp [okD])
  | n, _, .dct _ _, _, hb => absurd hb (by cases n <;> simp [okD])
  | n, _, .ty _, _, hb => absurd hb (by cases n <;> simp [okD])
  | n, _, .fn _, _, hb => absurd hb (by cases n <;> simp [okD])
  | n, .int a, .int b, _, _ => by cases n <;> simp [toPy, PyData.eqv, beq, eqI_beq]
  | n, .str a, .str b, _, _ => by cases n <;> simp only [toPy, PyData.eqv, beq] <;> exact str_beq a b
  | n, .bl a, .bl b, _, _ => by cases n <;> simp [toPy, PyData.eqv, beq]
  | n, .non, .non, _, _ => by cases n <;> simp [toPy, PyData.eqv, beq]
  | n, .bl a, .int b, _, _ => by cases n <;> simp [toPy, PyData.eqv, beq, eqI_beq]
  | n, .int a, .bl b, _, _ => by cases n <;> simp [toPy, PyData.eqv, beq, eqI_beq]
  | n, .non, .int _, _, _ => by cases n <;> simp [toPy, PyData.eqv, beq]
  | n, .non, .bl _, _, _ => by cases n <;> simp [toPy, PyData.eqv, beq]
  | n, .non, .str _, _, _ => by cases n <;> simp [toPy, PyData.eqv, beq]
  | n + 1, .non, .tup _, _, _ => by simp [toPy, PyData.eqv, beq]
  | n + 1, .non, .lst _, _, _ => by simp [toPy, PyData.eqv, beq]
  | n, .int _, .non, _, _ => by cases n <;> simp [toPy, PyData.eqv, beq]
  | n, .int _, .str _, _, _ => by cases n <;> simp [toPy, PyData.eqv, beq]
  | n + 1, .int _, .tup _, _, _ => by simp [toPy, PyData.eqv, beq]
  | n + 1, .int _, .lst _, _, _ => by simp [toPy, PyData.eqv, beq]
  | n, .bl _, .non, _, _ => by cases n <;> simp [toPy, PyData.eqv, beq]
  | n, .bl _, .str _, _, _ => by cases n <;> simp [toPy, PyData.eqv, beq]
  | n + 1, .bl _, .tup _, _, _ => by simp [toPy, PyData.eqv, beq]
  | n + 1, .bl _, .lst _, _, _ => by simp [toPy, PyData.eqv, beq]
  | n, .str _, .non, _, _ => by cases n <;> simp [toPy, PyData.eqv, beq]
  | n, .str _, .int _, _, _ => by cases n <;> simp [toPy, PyData.eqv, beq]
  | n, .str _, .bl _, _, _ => by cases n <;> simp [toPy, PyData.eqv, beq]
  | n + 1, .str _, .tup _, _, _ => by simp [toPy, PyData.eqv, beq]
  | n + 1, .str _, .lst _, _, _ => by simp [toPy, PyData.eqv, beq]
  | n + 1, .tup _, .non, _, _ => by simp [toPy, PyData.eqv, beq]
  | n + 1, .tup _, .int _, _, _ => by simp [toPy, PyData.eqv, beq]
  | n + 1, .tup _, .bl _, _, _ => by simp [toPy, PyData.eqv, beq]
  | n + 1, .tup _, .str _, _, _ => by simp [toPy, PyData.eqv, beq]
  | n + 1, .tup _, .lst _, _, _ => by simp [toPy, PyData.eqv, beq]
  | n + 1, .lst _, .non, _, _ => by simp [toPy, PyData.eqv, beq]
  | n + 1, .lst _, .int _, _, _ => by simp [toPy, PyData.eqv, beq]
  | n + 1, .lst _, .bl _, _, _ => by simp [toPy, PyData.eqv, beq]
  | n + 1, .lst _, .str _, _, _ => by simp [toPy, PyData.eqv, beq]
  | n + 1, .lst _, .tup _, _, _ => by simp [toPy, PyData.eqv, beq]
theorem eqv_all : ∀ (n : Nat) (xs ys : List D), allO (okD n) xs = true → allO (okD n) ys = true → PyData.eqvAll (toPys xs) (toPys ys) = allB (beq n) xs ys
  | _, [], [], _, _ => by simp [toPys, PyData.eqvAll, allB]
  | _, [], _ :: _, _, _ => by simp [toPys, PyData.eqvAll, allB]
  | _, _ :: _, [], _, _ => by simp [toPys, PyData.eqvAll, allB]
  | n, x :: xs, y :: ys, ha, hb => by
    unfold allO at ha hb
    by_cases h1 : okD n x = true
    · by_cases h2 : okD n y = true
      · rw [if_pos h1] at ha
        rw [if_pos h2] at hb
        simp only [toPys, PyData.eqvAll, allB]
        rw [eqv_beq n x y h1 h2, eqv_all n xs ys ha hb]
        cases beq n x y <;> simp
      · rw [if_neg h2] at hb
        exact absurd hb Bool.false_ne_true
    · rw [if_neg h1] at ha
      exact absurd ha Bool.false_ne_true
end
end Zl
set_option Elab.async false
set_option linter.all false
set_option maxRecDepth 100000
set_option maxHeartbeats 1000000
/-! Z2: expressions. -/
namespace Zl
open PySem L2 PySem.Spec PyProof.Rows
/-! ### slots, constants -/
def gt {α : Type} : List (Option α) → Nat → Option α
  | [], _ => none
  | x :: _, 0 => x
  | _ :: r, n + 1 => gt r n
theorem gt_eq {α : Type} : ∀ {l : List (Option α)} {i : Nat} {x : α}, gt l i = some x → l[i]? = some (some x)
  | [], _, _, h => by cases h
  | y :: _, 0, x, h => by
    have e : y = some x := h
    simp [e]
  | _ :: r, n + 1, x, h => by
    have := gt_eq (l := r) (i := n) (x := x) h
    simpa using this
def slotD : Option SV → T D
  | some (.v d) => .ret d
  | _ => .fail
def eV (i : Nat) : Ex := fun fr _ => slotD (gt fr i)
def eC (d : D) : Ex := fun _ _ => .ret d
def asB : D → T Bool
  | .bl b => .ret b
  | _ => .fail
def asL : D → T (List D)
  | .lst xs => .ret xs
  | .tup xs => .ret xs
  | _ => .fail
def e2 (op : D → D → T D) (f g : Ex) : Ex := fun fr hp => (f fr hp).bind fun x => (g fr hp).bind fun y => op x y
def e1 (op : D → T D) (f : Ex) : Ex := fun fr hp => (f fr hp).bind op
def b1 (f : Ex) : Fr → Hz → T Bool := fun fr hp => (f fr hp).bind asB
section
variable {X : Cx} {F : Ev} {ρ : Option Addr} {m0 m1 : List Addr} {H : Hp} {σ : L2.St} {fr : Fr} {hp : Hz}
theorem At.get (a : At X.K F ρ m0 m1 H σ fr hp) {i : Nat} {s : SV} (e : gt fr i = some s) : ∃ v, σ[i]? = some (some v) ∧ RepS X.K F ρ m0 m1 H v s := a.fr.slot i s (gt_eq e)
theorem all_slotD {o : Option SV} {P : D → Prop} (h : (slotD o).all P) : ∃ d, o = some (.v d) ∧ P d := by
  unfold slotD at h
  split at h
  · exact ⟨_, rfl, h⟩
  · exact h.elim
theorem all_asB {d : D} {P : Bool → Prop} (h : (asB d).all P) : ∃ b, d = .bl b ∧ P b := by
  unfold asB at h
  split at h
  · exact ⟨_, rfl, h⟩
  · exact h.elim
theorem all_asL {d : D} {P : List D → Prop} (h : (asL d).all P) : ∃ xs, d.seq = some xs ∧ P xs := by
  unfold asL at h
  split at h
  · exact ⟨_, rfl, h⟩
  · exact ⟨_, rfl, h⟩
  · exact h.elim
theorem zv (i : Nat) {x : Str} {pos : Pos} (hN : X.N[i]? = some x := by rfl) (hv : Vis X.env.scope x := by first | exact Or.inl rfl | exact Or.inr (Or.inl rfl) | exact Or.inr (Or.inr rfl)) (hd : (x == ("__debug__" : Str)) = false := by decide)
    (hcd : (x == ("__classdict__" : Str)) = false := by decide) : PE X (.Name x pos) (tX X.K F (eV i)) := by
  refine PEimp (pe_var hN hv hd hcd) fun σ H Q h => ?_
  obtain ⟨ρ, m0, m1, fr, hp, a, h⟩ := h
  obtain ⟨d, e, k⟩ := all_slotD (show (slotD (gt fr i)).all _ from h)
  obtain ⟨v, e1, r⟩ := a.get e
  exact ⟨v, e1, k H v (Keep.refl _ _) a.row r⟩
theorem PEseq {e : Expr} {f : Ex} (h : PE X e (tX X.K F f)) : PE X e (tSq X.K F fun fr hp => (f fr hp).bind asL) := by
  refine PEimp h fun σ H Q h => ?_
  obtain ⟨ρ, m0, m1, fr, hp, a, h⟩ := h
  refine tX_mk a (T.all_bind h) fun d hd H' v kp a' r => ?_
  obtain ⟨xs, e, k⟩ := all_asL hd
  exact k H' v kp a'.row (r.seqR e)
theorem PEnl {e : Expr} {f : Fr → Hz → T (List D)} (h : PE X e (tN X.K F f)) : PE X e (tX X.K F fun fr hp => (f fr hp).bind fun xs => .ret (.lst xs)) := by
  refine PEimp h fun σ H Q h => ?_
  obtain ⟨ρ, m0, m1, fr, hp, a, h⟩ := h
  refine tN_mk a (T.all_bind h) fun ds hd H' b vs kp a' hb hl r => ?_
  exact hd H' (.ref b) kp a'.row (.lst (a.sim.new hb) hl (r.sub fun _ => sub_more))
theorem PEns {e : Expr} {f : Fr → Hz → T (List D)} (h : PE X e (tN X.K F f)) : PE X e (tSq X.K F f) := by
  refine PEimp h fun σ H Q h => ?_
  obtain ⟨ρ, m0, m1, fr, hp, a, h⟩ := h
  refine tN_mk a h fun ds hd H' b vs kp a' hb hl r => ?_
  exact hd H' (.ref b) kp a'.row ⟨b, vs, rfl, .inl ⟨fun q => a.sim.new hb (List.mem_append_left _ q), .inl hl⟩, r.sub fun _ => sub_more⟩
theorem zc {e : Expr} {v : V} {d : D} (h : PE X e (tC v)) (r : ∀ m H, Rep X.K F m H v d) : PE X e (tX X.K F (eC d)) := by
  refine PEimp h fun σ H Q h => ?_
  obtain ⟨ρ, m0, m1, fr, hp, a, h⟩ := h
  exact h H v (Keep.refl _ _) a.row (r _ _)
theorem zint {i j pos} : PE X (.Constant (.int i) j pos) (tX X.K F (eC (.int i))) := zc pe_int fun _ _ => .int i
theorem zbl {i j pos} : PE X (.Constant (.bool i) j pos) (tX X.K F (eC (.bl i))) := zc pe_bl fun _ _ => .bl i
theorem zstr {x : Str} {s : List Nat} {j pos} (h : x = ⟨s.toArray⟩) : PE X (.Constant (.str x) j pos) (tX X.K F (eC (.str s))) := by
  subst h
  exact zc pe_str fun _ _ => .str s
/-! ### operators by values -/
/-- f does on values what op does on data -/
def OpZ (X : Cx) (F : Ev) (f : Value → Value → Sem Value) (op : D → D → T D) : Prop :=
  ∃ r : R2, OpR X f r ∧ ∀ (σ : L2.St) (fr : Fr) (ρ : Option Addr) (m0 m1 : List Addr) (H : Hp) (hp : Hz) (v u : V) (x y : D) (Q : VK), At X.K F ρ m0 m1 H σ fr hp → Rep X.K F (m0 ++ m1) H v x → Rep X.K F (m0 ++ m1) H u y →
    ((op x y).all fun d => ∀ H' w, Keep ρ H H' → RowA X.K ρ H' → Rep X.K F (m0 ++ m1) H' w d → Q w H') → r v u H Q
/-- .. whose answer stands in the same heap -/
theorem OpZ.of {f : Value → Value → Sem Value} {op : D → D → T D} {r : R2} (h : OpR X f r)
    (k : ∀ (m : List Addr) (H : Hp) (v u : V) (x y : D) (Q : VK), Rep X.K F m H v x → Rep X.K F m H u y → ((op x y).all fun d => ∀ w, Rep X.K F m H w d → Q w H) → r v u H Q) : OpZ X F f op :=
  ⟨r, h, fun _ _ _ m0 m1 H hp v u x y Q s rx ry q => k (m0 ++ m1) H v u x y Q rx ry (T.all_mono (fun d hd w rw' => hd H w (Keep.refl _ _) s.row rw') q)⟩
theorem zop_core {f : Value → Value → Sem Value} {op : D → D → T D} {fa fb : Ex} {r : R2}
    (k : ∀ (σ : L2.St) (fr : Fr) (ρ : Option Addr) (m0 m1 : List Addr) (H : Hp) (hp : Hz) (v u : V) (x y : D) (Q : VK), At X.K F ρ m0 m1 H σ fr hp → Rep X.K F (m0 ++ m1) H v x → Rep X.K F (m0 ++ m1) H u y →
    ((op x y).all fun d => ∀ H' w, Keep ρ H H' → RowA X.K ρ H' → Rep X.K F (m0 ++ m1) H' w d → Q w H') → r v u H Q) {σ : L2.St} {H : Hp} {Q : VK} (h : tX X.K F (e2 op fa fb) σ H Q) : tOp r (tX X.K F fa) (tX X.K F fb) σ H Q := by
  obtain ⟨ρ, m0, m1, fr, hp, a, h⟩ := h
  refine tX_mk a (T.all_bind h) fun x hx H1 v k1 a1 rx => ?_
  refine tX_mk a1 (T.all_bind hx) fun y hy H2 u k2 a2 ry => ?_
  exact k σ fr ρ m0 m1 H2 hp v u x y Q a2 (rx.on a1.own k2) ry (T.all_mono (fun d hd H' w k3 s rw' => hd H' w ((k1.trans k2).trans k3) s rw') hy)
theorem zop {a b : Expr} {op : Operator} {o : D → D → T D} {fa fb : Ex} {pos : Pos} (ho : OpZ X F (binaryOp op) o) (ha : PE X a (tX X.K F fa)) (hb : PE X b (tX X.K F fb)) : PE X (.BinOp a op b pos) (tX X.K F (e2 o fa fb)) := by
  obtain ⟨r, h1, h2⟩ := ho
  exact PEimp (pe_op h1 ha hb) fun σ H Q h => zop_core (f := binaryOp op) h2 h
theorem zcmp {a b : Expr} {op : CmpOp} {o : D → D → T D} {fa fb : Ex} {pos : Pos} (ho : OpZ X F (compareOp op) o) (ha : PE X a (tX X.K F fa)) (hb : PE X b (tX X.K F fb)) (hm : behindInMarks op b = false := by first | exact nomark _ | rfl) : PE X (.Compare a [op] [b] pos) (tX X.K F (e2 o fa fb)) := by
  obtain ⟨r, h1, h2⟩ := ho
  exact PEimp (pe_cmpR h1 ha hb hm) fun σ H Q h => zop_core (f := compareOp op) h2 h
theorem b1_core {f : Ex} {σ : L2.St} {H : Hp} {Q : Bool → Hp → Prop} (h : tB' X.K F (b1 f) σ H Q) : tX X.K F f σ H fun x H' => ∃ k, x = .bl k ∧ Q k H' := by
  obtain ⟨ρ, m0, m1, fr, hp, a, h⟩ := h
  refine tX_mk a (T.all_bind h) fun d hd H' v kp a' r => ?_
  obtain ⟨b, rfl, k⟩ := all_asB hd
  cases r
  exact ⟨b, rfl, k H' kp a'.row⟩
/-- a comparison as a test -/
theorem ztc {a b : Expr} {op : CmpOp} {o : D → D → T D} {fa fb : Ex} {pos : Pos} (ho : OpZ X F (compareOp op) o) (ha : PE X a (tX X.K F fa)) (hb : PE X b (tX X.K F fb)) (hm : behindInMarks op b = false := by first | exact nomark _ | rfl) : PT X (.Compare a [op] [b] pos) (tB' X.K F (b1 (e2 o fa fb))) := by
  obtain ⟨r, h1, h2⟩ := ho
  exact PTimp (pt_cmpR h1 ha hb hm) fun σ H Q h => zop_core (f := compareOp op) h2 (b1_core h)
/-- a bool's value as a test -/
theorem ztv {e : Expr} {f : Ex} (h : PE X e (tX X.K F f)) (he : ∀ whole, isTrue e X.env whole = (do let v ← whole; standAt e.pos; holding [v] (truthy v)) := by intro _; rfl) : PT X e (tB' X.K F (b1 f)) :=
  PTimp (pt_val h he) fun σ H Q h => b1_core h
/-! ### and, or, not -/
def bAnd (f g : Fr → Hz → T Bool) : Fr → Hz → T Bool := fun fr hp => (f fr hp).bind fun b => bif b then g fr hp else .ret false
def bOr (f g : Fr → Hz → T Bool) : Fr → Hz → T Bool := fun fr hp => (f fr hp).bind fun b => bif b then .ret true else g fr hp
def bNot (f : Fr → Hz → T Bool) : Fr → Hz → T Bool := fun fr hp => (f fr hp).bind fun b => .ret (!b)
theorem bAnd_core {f g : Fr → Hz → T Bool} {σ : L2.St} {H : Hp} {Q : Bool → Hp → Prop} (h : tB' X.K F (bAnd f g) σ H Q) : tAnd (tB' X.K F f) (tB' X.K F g) σ H Q := by
  obtain ⟨ρ, m0, m1, fr, hp, a, h⟩ := h
  refine tB_mk a (T.all_bind h) fun b hb H' kp a' => ?_
  cases b with
  | true => exact tB_mk a' hb fun c hc H2 k2 a2 => hc H2 (kp.trans k2) a2.row
  | false => exact hb H' kp a'.row
theorem bOr_core {f g : Fr → Hz → T Bool} {σ : L2.St} {H : Hp} {Q : Bool → Hp → Prop} (h : tB' X.K F (bOr f g) σ H Q) : tOr (tB' X.K F f) (tB' X.K F g) σ H Q := by
  obtain ⟨ρ, m0, m1, fr, hp, a, h⟩ := h
  refine tB_mk a (T.all_bind h) fun b hb H' kp a' => ?_
  cases b with
  | false => exact tB_mk a' hb fun c hc H2 k2 a2 => hc H2 (kp.trans k2) a2.row
  | true => exact hb H' kp a'.row
theorem ztand1 {a : Expr} {f : Fr → Hz → T Bool} {pos : Pos} (h : PT X a (tB' X.K F f)) : PW X (.BoolOp .And [a] pos) (tB' X.K F f) := pw_and1 h
theorem ztor1 {a : Expr} {f : Fr → Hz → T Bool} {pos : Pos} (h : PT X a (tB' X.K F f)) : PW X (.BoolOp .Or [a] pos) (tB' X.K F f) := pw_or1 h
theorem ztand {a b : Expr} {rest : List Expr} {f g : Fr → Hz → T Bool} {pos : Pos} (h : PT X a (tB' X.K F f)) (hr : PW X (.BoolOp .And (b :: rest) pos) (tB' X.K F g)) : PW X (.BoolOp .And (a :: b :: rest) pos) (tB' X.K F (bAnd f g)) :=
  PWimp (pw_and h hr) fun σ H Q h => bAnd_core h
theorem ztor {a b : Expr} {rest : List Expr} {f g : Fr → Hz → T Bool} {pos : Pos} (h : PT X a (tB' X.K F f)) (hr : PW X (.BoolOp .Or (b :: rest) pos) (tB' X.K F g)) : PW X (.BoolOp .Or (a :: b :: rest) pos) (tB' X.K F (bOr f g)) :=
  PWimp (pw_or h hr) fun σ H Q h => bOr_core h
theorem ztnot {a : Expr} {f : Fr → Hz → T Bool} {pos : Pos} (h : PT X a (tB' X.K F f)) : PT X (.UnaryOp .Not a pos) (tB' X.K F (bNot f)) :=
  PTimp (pt_not h) fun σ H Q h => by
    obtain ⟨ρ, m0, m1, fr, hp, a, h⟩ := h
    exact tB_mk a (T.all_bind h) fun b hb H' kp a' => hb H' kp a'.row
/-- .. as values -/
theorem zone {op} {a : Expr} {f : Ex} {pos : Pos} (h : PE X a (tX X.K F f)) : PE X (.BoolOp op [a] pos) (tX X.K F f) := pe_one h
def eAnd (f g : Ex) : Ex := fun fr hp => (f fr hp).bind fun x => (asB x).bind fun b => bif b then g fr hp else .ret (.bl false)
theorem zand {a b : Expr} {rest : List Expr} {f g : Ex} {pos : Pos} (h : PE X a (tX X.K F f)) (hr : PE X (.BoolOp .And (b :: rest) pos) (tX X.K F g)) : PE X (.BoolOp .And (a :: b :: rest) pos) (tX X.K F (eAnd f g)) :=
  PEimp (pe_and h hr) fun σ H Q h => by
    obtain ⟨ρ, m0, m1, fr, hp, a, h⟩ := h
    refine tX_mk a (T.all_bind h) fun d hd H' v kp a' r => ?_
    obtain ⟨c, rfl, k⟩ := all_asB (T.all_bind hd)
    cases r
    refine ⟨c, rfl, ?_⟩
    cases c with
    | true => exact tX_mk a' k fun e he H2 w k2 a2 r2 => he H2 w (kp.trans k2) a2.row r2
    | false => exact k H' _ kp a'.row (.bl false)
def eIf (t : Fr → Hz → T Bool) (f g : Ex) : Ex := fun fr hp => (t fr hp).bind fun b => bif b then f fr hp else g fr hp
theorem zif {c a b : Expr} {t : Fr → Hz → T Bool} {f g : Ex} {pos : Pos} (hc : PT X c (tB' X.K F t)) (ha : PE X a (tX X.K F f)) (hb : PE X b (tX X.K F g)) : PE X (.IfExp c a b pos) (tX X.K F (eIf t f g)) :=
  PEimp (pe_ifExp hc ha hb) fun σ H Q h => by
    obtain ⟨ρ, m0, m1, fr, hp, a, h⟩ := h
    refine tB_mk a (T.all_bind h) fun b hb H' kp a' => ?_
    cases b with
    | true => exact tX_mk a' hb fun e he H2 w k2 a2 r2 => he H2 w (kp.trans k2) a2.row r2
    | false => exact tX_mk a' hb fun e he H2 w k2 a2 r2 => he H2 w (kp.trans k2) a2.row r2
/-! ### argument lists, displays -/
def aN : Fr → Hz → T (List D) := fun _ _ => .ret []
def aC (f : Ex) (g : Fr → Hz → T (List D)) : Fr → Hz → T (List D) := fun fr hp => (f fr hp).bind fun x => (g fr hp).bind fun xs => .ret (x :: xs)
theorem zan : PA X [] (tAs X.K F aN) := PAimp pa_nil fun σ H Q h => by
  obtain ⟨ρ, m0, m1, fr, hp, a, h⟩ := h
  exact h H [] (Keep.refl _ _) a.row .nil
theorem zac {e : Expr} {es : List Expr} {f : Ex} {g : Fr → Hz → T (List D)} (ha : PE X e (tX X.K F f)) (hr : PA X es (tAs X.K F g)) (hs : starEach (e :: es) X.env = (false, eval e X.env) :: starEach es X.env := by rfl) : PA X (e :: es) (tAs X.K F (aC f g)) :=
  PAimp (pa_cons ha hr hs) fun σ H Q h => by
    obtain ⟨ρ, m0, m1, fr, hp, a, h⟩ := h
    refine tX_mk a (T.all_bind h) fun x hx H1 v k1 a1 rx => ?_
    refine tAs_mk a1 (T.all_bind hx) fun xs hxs H2 vs k2 a2 rxs => ?_
    exact hxs H2 (v :: vs) (k1.trans k2) a2.row (.cons (rx.on a1.own k2) rxs)
/-- a length that is surely in bounds -/
def few {α : Type} : List α → Nat → Bool
  | [], _ => true
  | _ :: _, 0 => false
  | _ :: r, n + 1 => few r n
theorem few_le {α : Type} : ∀ {l : List α} {n : Nat}, few l n = true → l.length ≤ n
  | [], _, _ => Nat.zero_le _
  | _ :: _, 0, h => by cases h
  | _ :: r, n + 1, h => Nat.succ_le_succ (few_le (l := r) h)
def guardT {α : Type} (b : Bool) (t : T α) : T α := bif b then t else .fail
theorem all_guard {α : Type} {b : Bool} {t : T α} {P : α → Prop} (h : (guardT b t).all P) : b = true ∧ t.all P := by
  cases b with
  | true => exact ⟨rfl, h⟩
  | false => exact h.elim
theorem few_sz {α : Type} {l : List α} (h : few l 10000 = true) : l.length ≤ sizeLine := Nat.le_trans (few_le h) (by decide)
def eT (g : Fr → Hz → T (List D)) : Ex := fun fr hp => (g fr hp).bind fun xs => guardT (few xs 10000) (.ret (.tup xs))
def nL (g : Fr → Hz → T (List D)) : Fr → Hz → T (List D) := fun fr hp => (g fr hp).bind fun xs => guardT (few xs 10000) (.ret xs)
/-- a tuple laid new: its object is known -/
theorem layTup {pins : List (Addr × Obj)} {σ : L2.St} {H : Hp} {s : Shared} (I : Inv X pins σ H s) {vs : List V} {us : List Value} (r : Vals vs us) (z : vs.length ≤ sizeLine) :
    Inv X pins σ (upd H s.heap.objs.size (.frz { cls := .type "tuple", data := .seq us.toArray } (.tup vs))) { s with heap := s.heap.push { cls := .type "tuple", data := .seq us.toArray } } :=
  I.laid (t' := s.toks) (fun _ _ e => Heap.get?_push_of_some _ e) (Nat.le_refl _) ⟨Heap.get?_push_size _ rfl, z, us, r, IsTup.new _ _⟩
def tTupF (t : TA) : TE := fun σ H Q => t σ H fun xs H1 => xs.length ≤ sizeLine ∧ ∀ p o, H1 p = none → o.dict = none → Q (.ref p) (upd H1 p (.frz o (.tup xs)))
theorem pe_tupF {es : List Expr} {t : TA} {x1} {pos : Pos} (h : PA X es t) : PE X (.Tuple es x1 pos) (tTupF t) := by
  constructor
  intro pins s σ H Q I hq
  refine wpAny_Tuple_spliced (thn (h.run pos pins s σ H _ I hq) fun us s1 hh => ?_)
  obtain ⟨xs, H1, I1, r, z, q⟩ := hh
  exact ⟨by rw [← r.length]; exact z, .ref s1.heap.objs.size, _, layTup I1 r z, rfl, q _ _ (I1.hok.fresh (Nat.le_refl _)) rfl⟩
theorem zt {es : List Expr} {g : Fr → Hz → T (List D)} {x1} {pos : Pos} (h : PA X es (tAs X.K F g)) : PE X (.Tuple es x1 pos) (tX X.K F (eT g)) :=
  PEimp (pe_tupF h) fun σ H Q h => by
    obtain ⟨ρ, m0, m1, fr, hp, a, h⟩ := h
    refine tAs_mk a (T.all_bind h) fun ds hd H1 vs k1 a1 r => ?_
    obtain ⟨hf, k⟩ := all_guard hd
    refine ⟨by rw [r.length]; exact few_sz hf, fun p o hp ho => ?_⟩
    obtain ⟨k2, a2⟩ := a1.upd (o := .frz o (.tup vs)) hp
    exact k _ _ (k1.trans k2) a2.row (.tup (a1.sim.new hp) (.new ho) (r.on a1.own k2))
theorem zl {es : List Expr} {g : Fr → Hz → T (List D)} {pos : Pos} (h : PA X es (tAs X.K F g)) : PE X (.List es pos) (tN X.K F (nL g)) :=
  PEimp (pe_lst h) fun σ H Q h => by
    obtain ⟨ρ, m0, m1, fr, hp, a, h⟩ := h
    refine tAs_mk a (T.all_bind h) fun ds hd H1 vs k1 a1 r => ?_
    obtain ⟨hf, k⟩ := all_guard hd
    refine ⟨by rw [r.length]; exact few_sz hf, fun p hp => ?_⟩
    obtain ⟨k2, a2⟩ := a1.upd (o := .lst vs) hp
    exact k _ p vs (k1.trans k2) a2.row (a.free k1 a1.row hp) upd_same (r.more hp (same_new hp))
/-! ### calls of defs -/
/-- a def whose answer is f of its arguments; nothing that stands is changed -/
def spP (K : PySem.W.Frag) (F : Ev) (f : List D → T D) (n : Nat) : Sp := fun vs H Q _ => vs.length = n ∧ ∃ m ds, (∀ a ∈ m, H a ≠ none) ∧ Reps K F m H vs ds ∧ (f ds).all fun d => ∀ H' v, Same H H' → Rep K F m H' v d → Q v H'
def eCall (f : List D → T D) (n : Nat) (g : Fr → Hz → T (List D)) : Ex := fun fr hp => (g fr hp).bind fun ds => guardT (Nat.beq ds.length n) (f ds)
theorem zcall_core {f : List D → T D} {n : Nat} {g : Fr → Hz → T (List D)} {σ : L2.St} {H : Hp} {Q : VK} {E : XK} (h : tX X.K F (eCall f n g) σ H Q) : tCall (spP X.K F f n) [] E (tAs X.K F g) σ H Q := by
  obtain ⟨ρ, m0, m1, fr, hp, a, h⟩ := h
  refine tAs_mk a (T.all_bind h) fun ds hd H1 vs k1 a1 r => ?_
  obtain ⟨hn, k⟩ := all_guard hd
  rw [List.append_nil]
  refine ⟨by rw [r.length]; exact Nat.eq_of_beq_eq_true hn, m0 ++ m1, ds, a1.sim.dom, r, T.all_mono (fun d hd H' v sm rv => ?_) k⟩
  exact hd H' v (k1.trans (.of sm)) (a1.row.same sm) rv
theorem zcall {e : Expr} {es : List Expr} {x : Str} {p pos : Pos} {f : List D → T D} {n k : Nat} {fa : Addr} {fd : FuncData} {ps : List Str} {g : Fr → Hz → T (List D)} (G : FnOk X.prog X.w X.K X.mg X.base CX0 k fa fd ps (spP X.K F f n)) (hr : Room k X.A) (hg : Gl X x) (hm : X.mg x = some (.ref fa))
    (hk : PySem.W.keepIn X.K (.ref fa) = true) (hb : Binds X.K fd ps []) (ha : PA X (e :: es) (tAs X.K F g)) (hdb : (x == ("__debug__" : Str)) = false := by decide) (he : starEach (e :: es) X.env = (false, eval e X.env) :: starEach es X.env := by rfl) (hpl : (backTo pos (starEach es X.env)).any (·.1) = false := by rfl) :
    PE X (.Call (.Name x p) (e :: es) [] pos) (tX X.K F (eCall f n g)) :=
  PEimp (pe_call (E := E0) G hr hg hm hk hb .nil pass0 ha hdb he hpl) fun σ H Q h => zcall_core h
theorem zcall0 {x : Str} {p pos : Pos} {f : List D → T D} {k : Nat} {fa : Addr} {fd : FuncData} {ps : List Str} (G : FnOk X.prog X.w X.K X.mg X.base CX0 k fa fd ps (spP X.K F f 0)) (hr : Room k X.A) (hg : Gl X x) (hm : X.mg x = some (.ref fa))
    (hk : PySem.W.keepIn X.K (.ref fa) = true) (hb : Binds X.K fd ps []) (hdb : (x == ("__debug__" : Str)) = false := by decide) :
    PE X (.Call (.Name x p) [] [] pos) (tX X.K F (eCall f 0 aN)) :=
  PEimp (pe_call0 (E := E0) G hr hg hm hk hb .nil pass0 hdb) fun σ H Q h => by
    have h := zcall_core (E := E0) h
    obtain ⟨ρ, m0, m1, fr, hp, a, h⟩ := h
    exact h H [] (Keep.refl _ _) a.row .nil
end
end Zl
set_option Elab.async false
set_option linter.all false
set_option maxRecDepth 100000
set_option maxHeartbeats 1000000
/-! Z3: statements, loops, comprehensions, defs. -/
namespace Zl
open PySem L2
/-- how a statement ends -/
inductive Out where
  | nx (fr : Fr) (hp : Hz) | rt (d : D) | bk (fr : Fr) (hp : Hz) | ct (fr : Fr) (hp : Hz)
abbrev Sm := Fr → Hz → T Out
/-- the frame's own objects: those that were, and new ones -/
structure Grow (ρ : Option Addr) (m1 : List Addr) (H : Hp) (m1' : List Addr) (H' : Hp) : Prop where
  keep : ∀ a o, ρ ≠ some a → a ∉ m1 → H a = some o → H' a = some o
  new : ∀ a, a ∈ m1' → a ∈ m1 ∨ H a = none
theorem Grow.of {ρ : Option Addr} {m1 : List Addr} {H H' : Hp} (k : Keep ρ H H') : Grow ρ m1 H m1 H' := ⟨fun a o n _ e => k a o n e, fun _ h => .inl h⟩
theorem Grow.refl (ρ : Option Addr) (m1 : List Addr) (H : Hp) : Grow ρ m1 H m1 H := .of (.refl ρ H)
theorem Grow.on {ρ : Option Addr} {m1 m2 : List Addr} {H H1 H2 : Hp} (x : Grow ρ m1 H m2 H1) (y : ∀ a o, ρ ≠ some a → a ∉ m2 → H1 a = some o → H2 a = some o) : ∀ a o, ρ ≠ some a → a ∉ m1 → H a = some o → H2 a = some o := fun a o hr n e =>
  y a o hr (fun q => (x.new a q).elim n fun z => by rw [z] at e; cases e) (x.keep a o hr n e)
theorem Grow.trans {ρ : Option Addr} {m1 m2 m3 : List Addr} {H H1 H2 : Hp} (hr : ∀ a, ρ = some a → H1 a ≠ none) (x : Grow ρ m1 H m2 H1) (y : Grow ρ m2 H1 m3 H2) : Grow ρ m1 H m3 H2 := ⟨x.on y.keep, fun a q => by
  by_cases n : a ∈ m1
  · exact .inl n
  · rcases y.new a q with z | z
    · exact x.new a z
    · refine .inr ?_
      cases e : H a with
      | none => rfl
      | some o =>
        by_cases hq : ρ = some a
        · exact absurd z (hr a hq)
        · rw [x.keep a o hq n e] at z; cases z⟩
section
variable (K : PySem.W.Frag) (F : Ev)
def PostS (ρ : Option Addr) (m0 m1 : List Addr) (H : Hp) (D : Ends) : Out → Prop
  | .nx fr hp => ∀ m1' H' σ', Grow ρ m1 H m1' H' → At K F ρ m0 m1' H' σ' fr hp → D.nx σ' H'
  | .rt d => ∀ H' v, (∀ a o, ρ ≠ some a → a ∉ m1 → H a = some o → H' a = some o) → RowA K ρ H' → Rep K F m0 H' v d → D.rt v H'
  | .bk fr hp => ∀ m1' H' σ', Grow ρ m1 H m1' H' → At K F ρ m0 m1' H' σ' fr hp → D.bk σ' H'
  | .ct fr hp => ∀ m1' H' σ', Grow ρ m1 H m1' H' → At K F ρ m0 m1' H' σ' fr hp → D.ct σ' H'
def tS (g : Sm) : TS := fun D σ H => ∃ ρ m0 m1 fr hp, At K F ρ m0 m1 H σ fr hp ∧ (g fr hp).all (PostS K F ρ m0 m1 H D)
end
section
variable {K : PySem.W.Frag} {F : Ev} {ρ : Option Addr} {m0 m1 m2 : List Addr} {H H1 H2 : Hp} {σ : L2.St} {fr : Fr} {hp : Hz} {D : Ends}
theorem At.rowN (a : At K F ρ m0 m1 H σ fr hp) : ∀ b, ρ = some b → H b ≠ none := fun b e z => by
  obtain ⟨_, _, _, _, _, e1, _⟩ := a.row b e
  rw [e1] at z; cases z
theorem PostS.on (hr : ∀ a, ρ = some a → H1 a ≠ none) (x : Grow ρ m1 H m2 H1) {o : Out} (h : PostS K F ρ m0 m1 H D o) : PostS K F ρ m0 m2 H1 D o := by
  cases o with
  | nx fr hp => exact fun m' H' σ' g a => h m' H' σ' (.trans hr x g) a
  | bk fr hp => exact fun m' H' σ' g a => h m' H' σ' (.trans hr x g) a
  | ct fr hp => exact fun m' H' σ' g a => h m' H' σ' (.trans hr x g) a
  | rt d => exact fun H' v k w r => h H' v (x.on k) w r
theorem tS_mk {g : Sm} (a : At K F ρ m0 m1 H σ fr hp) (x : Grow ρ m2 H2 m1 H) (h : (g fr hp).all (PostS K F ρ m0 m2 H2 D)) : tS K F g D σ H :=
  ⟨ρ, m0, m1, fr, hp, a, T.all_mono (fun _ q => q.on a.rowN x) h⟩
end
def seqO (g : Sm) : Out → T Out
  | .nx fr hp => g fr hp
  | o => .ret o
def sSeq (f g : Sm) : Sm := fun fr hp => (f fr hp).bind (seqO g)
def sNil : Sm := fun fr hp => .ret (.nx fr hp)
section
variable {X : Cx} {F : Ev}
theorem znil : PSs X [] (tS X.K F sNil) := PSsimp pss_nil fun D σ H h => by
  obtain ⟨ρ, m0, m1, fr, hp, a, h⟩ := h
  exact h m1 H σ (.refl _ _ _) a
theorem seq_core {f g : Sm} {D : Ends} {σ : L2.St} {H : Hp} (h : tS X.K F (sSeq f g) D σ H) : tSeq (tS X.K F f) (tS X.K F g) D σ H := by
  obtain ⟨ρ, m0, m1, fr, hp, a, h⟩ := h
  refine ⟨ρ, m0, m1, fr, hp, a, T.all_mono (fun o q => ?_) (T.all_bind h)⟩
  cases o with
  | nx fr' hp' => exact fun m1' H' σ' gr a' => tS_mk a' gr q
  | rt d => exact q
  | bk fr' hp' => exact q
  | ct fr' hp' => exact q
theorem zcons {st : Stmt} {rest : List Stmt} {f g : Sm} (h1 : PS X st (tS X.K F f)) (h2 : PSs X rest (tS X.K F g)) : PSs X (st :: rest) (tS X.K F (sSeq f g)) :=
  PSsimp (pss_cons h1 h2) fun D σ H h => seq_core h
theorem zlast {st : Stmt} {f : Sm} (h1 : PS X st (tS X.K F f)) : PSs X [st] (tS X.K F f) := pss_one h1
/-! ### targets -/
def setN {α : Type} : List α → Nat → α → List α
  | [], _, _ => []
  | _ :: r, 0, x => x :: r
  | y :: r, n + 1, x => y :: setN r n x
theorem setN_eq {α : Type} : ∀ (l : List α) (i : Nat) (x : α), setN l i x = l.set i x
  | [], _, _ => rfl
  | _ :: _, 0, _ => rfl
  | y :: r, n + 1, x => congrArg (y :: ·) (setN_eq r n x)
theorem FrR.set {K : PySem.W.Frag} {ρ : Option Addr} {m0 m1 : List Addr} {H : Hp} {σ : L2.St} {fr : Fr} (a : FrR K F ρ m0 m1 H σ fr) (i : Nat) {v : V} {s : SV} (r : RepS K F ρ m0 m1 H v s) : FrR K F ρ m0 m1 H (σ.set i (some v)) (setN fr i (some s)) := by
  refine ⟨by rw [setN_eq]; simpa using a.len, fun j s' e => ?_⟩
  rw [setN_eq] at e
  by_cases hj : i = j
  · subst hj
    rw [List.getElem?_set] at e
    simp only [if_true] at e
    split at e
    · rename_i hl
      cases e
      refine ⟨v, ?_, r⟩
      rw [List.getElem?_set]
      simp [a.len, hl]
    · cases e
  · rw [List.getElem?_set_ne hj] at e
    obtain ⟨v', e1, r'⟩ := a.slot j s' e
    exact ⟨v', by rw [List.getElem?_set_ne hj]; exact e1, r'⟩
/-- a value, or (an iterator's own pair) a tuple of values -/
def RepL (K : PySem.W.Frag) (F : Ev) (L : Bool) (m : List Addr) (H : Hp) (v : V) (d : Zl.D) : Prop := Rep K F m H v d ∨ (L = true ∧ ∃ a vs ds, v = .ref a ∧ d = .tup ds ∧ SqT K H a vs ∧ Reps K F m H vs ds)
theorem RepL.rep {K : PySem.W.Frag} {F : Ev} {m : List Addr} {H : Hp} {v : V} {d : Zl.D} (h : RepL K F false m H v d) : Rep K F m H v d := h.elim id fun z => nomatch z.1
theorem RepL.tupR {K : PySem.W.Frag} {F : Ev} {L : Bool} {m : List Addr} {H : Hp} {v : V} {ds : List Zl.D} (h : RepL K F L m H v (.tup ds)) : ∃ a vs, v = .ref a ∧ SqT K H a vs ∧ Reps K F m H vs ds := by
  rcases h with h | ⟨_, a, vs, es, e1, e2, h1, h2⟩
  · exact h.tupR
  · cases e2
    exact ⟨a, vs, e1, h1, h2⟩
/-- a target's reading: the slots behind the store -/
def TgR (K : PySem.W.Frag) (F : Ev) (L : Bool) (set : Zl.D → Fr → T Fr) (g : TG) : Prop :=
  ∀ (ρ : Option Addr) (m0 m1 : List Addr) (H : Hp) (σ : L2.St) (fr : Fr) (v : V) (d : Zl.D) (Q : L2.St → Hp → Prop), FrR K F ρ m0 m1 H σ fr → RepL K F L (m0 ++ m1) H v d → (set d fr).all (fun fr' => ∀ σ', FrR K F ρ m0 m1 H σ' fr' → Q σ' H) → g v σ H Q
def gI (i : Nat) : Zl.D → Fr → T Fr := fun d fr => .ret (setN fr i (some (.v d)))
theorem zg_name {K : PySem.W.Frag} (i : Nat) : TgR K F false (gI i) (gName i) := fun ρ m0 m1 H σ fr v d Q a r h => h _ (FrR.set (s := .v d) a i r.rep)
/-- (i, j) = a pair -/
def g2 (i j : Nat) : Zl.D → Fr → T Fr := fun d fr => match d with
  | .tup [x, y] => .ret (setN (setN fr i (some (.v x))) j (some (.v y)))
  | _ => .fail
/-! ### simple statements -/
def sSet (i : Nat) (f : Ex) : Sm := fun fr hp => (f fr hp).bind fun d => .ret (.nx (setN fr i (some (.v d))) hp)
theorem set_core {f : Ex} {i : Nat} {D : Ends} {σ : L2.St} {H : Hp} (h : tS X.K F (sSet i f) D σ H) : tAsg (tX X.K F f) (gName i) D σ H := by
  obtain ⟨ρ, m0, m1, fr, hp, a, h⟩ := h
  exact tX_mk a (T.all_bind h) fun d hd H' v kp a' r => hd m1 H' _ (.of kp) ⟨a'.fr.set i r, a'.sim, a'.row, a'.own⟩
theorem zset {i : Nat} {x : Str} {e : Expr} {f : Ex} {pos pos' : Pos} (hN : X.N.Nodup) (hi : X.N[i]? = some x) (hx : Loc X.env.scope x) (he : PE X e (tX X.K F f)) (hs : swapsWith e (some (.Name x pos')) pos.line X.env = pure false := by rfl)
    (hf : X.fn x = true ∨ X.env.scope.names.lookup x = some .local := by first | exact .inl rfl | exact .inr rfl | assumption) : PS X (.Assign [.Name x pos'] e pos) (tS X.K F (sSet i f)) :=
  PSimp (ps_set hN hi hx he hs hf) fun D σ H h => set_core h
/-- a new list of the frame's own -/
def sNew (i : Nat) (f : Fr → Hz → T (List Zl.D)) : Sm := fun fr hp => (f fr hp).bind fun xs => if lstOk xs then .ret (.nx (setN fr i (some (.r hp.length))) (hp ++ [xs])) else .fail
theorem At.more {K : PySem.W.Frag} {ρ : Option Addr} {m0 m1 : List Addr} {H H' : Hp} {σ : L2.St} {fr : Fr} {hp : Hz} {b : Addr} {ds : List Zl.D} (a : At K F ρ m0 m1 H σ fr hp) (kp : Keep ρ H H') (w : RowA K ρ H') (hb : H b = none) (hl : CellR K F (m0 ++ (m1 ++ [b])) H' b ds) (hl2 : H' b ≠ none) (i : Nat) :
    Grow ρ m1 H (m1 ++ [b]) H' ∧ At K F ρ m0 (m1 ++ [b]) H' (σ.set i (some (.ref b))) (setN fr i (some (.r hp.length))) (hp ++ [ds]) := by
  have hbm := a.sim.new hb
  have a' := a.on kp w
  have lift : ∀ {v : V} {d : Zl.D}, Rep K F (m0 ++ m1) H v d → Rep K F (m0 ++ (m1 ++ [b])) H' v d := fun {v d} h =>
    Rep.keep (fun c q => by
      rcases List.mem_append.mp q with z | z
      · exact .inl (List.mem_append_left _ z)
      · rcases List.mem_append.mp z with z | z
        · exact .inl (List.mem_append_right _ z)
        · have : c = b := by simpa using z
          subst this
          exact .inr hb) (fun c o n e => kp c o (fun z => n (List.mem_append_left _ (a.own c z))) e) d v h
  have lifts : ∀ {v : List V} {d : List Zl.D}, Reps K F (m0 ++ m1) H v d → Reps K F (m0 ++ (m1 ++ [b])) H' v d := fun {v d} h =>
    Reps.keep (fun c q => by
      rcases List.mem_append.mp q with z | z
      · exact .inl (List.mem_append_left _ z)
      · rcases List.mem_append.mp z with z | z
        · exact .inl (List.mem_append_right _ z)
        · have : c = b := by simpa using z
          subst this
          exact .inr hb) (fun c o n e => kp c o (fun z => n (List.mem_append_left _ (a.own c z))) e) d v h
  refine ⟨⟨fun c o n _ e => kp c o n e, fun c q => ?_⟩, ⟨by rw [setN_eq]; simpa using a.fr.len, fun j s e => ?_⟩, ⟨by simp [a.sim.len], ?_, fun c h1 h2 => ?_, fun c q z => ?_, fun n c e => ?_⟩, w, a.own⟩
  · rcases List.mem_append.mp q with z | z
    · exact .inl z
    · have : c = b := by simpa using z
      subst this
      exact .inr hb
  · rw [setN_eq] at e
    by_cases hj : i = j
    · subst hj
      rw [List.getElem?_set] at e
      simp only [if_true] at e
      split at e
      · rename_i hlt
        cases e
        refine ⟨.ref b, ?_, b, ?_, rfl⟩
        · rw [List.getElem?_set]
          simp [a.fr.len, hlt]
        · rw [← a.sim.len]
          simp
      · cases e
    · rw [List.getElem?_set_ne hj] at e
      obtain ⟨v', e1, r'⟩ := a.fr.slot j s e
      refine ⟨v', by rw [List.getElem?_set_ne hj]; exact e1, ?_⟩
      cases s with
      | r n =>
        obtain ⟨c, e2, e3⟩ := r'
        refine ⟨c, ?_, e3⟩
        have : n < m1.length := (List.getElem?_eq_some_iff.mp e2).1
        rw [List.getElem?_append_left this]
        exact e2
      | v d => exact lift r'
      | row => exact r'
  · refine List.nodup_append.mpr ⟨a.sim.nd, by simp, fun x hx y hy z => ?_⟩
    have : y = b := by simpa using hy
    subst this
    subst z
    exact hbm (List.mem_append_right _ hx)
  · rcases List.mem_append.mp h2 with z | z
    · exact a.sim.dis c h1 z
    · have : c = b := by simpa using z
      subst this
      exact hbm (List.mem_append_left _ h1)
  · rcases List.mem_append.mp q with y | y
    · exact a'.sim.dom c (List.mem_append_left _ y) z
    · rcases List.mem_append.mp y with y | y
      · exact a'.sim.dom c (List.mem_append_right _ y) z
      · have : c = b := by simpa using y
        subst this
        exact hl2 z
  · by_cases hn : n < hp.length
    · rw [List.getElem?_append_left hn] at e
      obtain ⟨c1, e1, cr⟩ := a.sim.cell n c e
      have hm : c1 ∈ m1 := List.mem_of_getElem? e1
      refine ⟨c1, ?_, cr.tr (fun ob => kp c1 ob (fun z => a.sim.dis c1 (a.own c1 z) hm)) fun vs ds r => lifts r⟩
      rw [List.getElem?_append_left (by rw [a.sim.len]; exact hn)]
      exact e1
    · have en : n = hp.length := by
        have := (List.getElem?_eq_some_iff.mp e).1
        simp at this
        omega
      subst en
      have ec : c = ds := by simpa using e.symm
      subst ec
      exact ⟨b, by rw [← a.sim.len]; simp, hl⟩
theorem new_core {f : Fr → Hz → T (List Zl.D)} {i : Nat} {D : Ends} {σ : L2.St} {H : Hp} (h : tS X.K F (sNew i f) D σ H) : tAsg (tN X.K F f) (gName i) D σ H := by
  obtain ⟨ρ, m0, m1, fr, hp, a, h⟩ := h
  refine tN_mk a (T.all_bind h) fun ds hd H' b vs kp a' hb hl r => ?_
  by_cases ok : lstOk ds = true
  case neg => rw [if_neg ok] at hd; exact hd.elim
  rw [if_pos ok] at hd
  obtain ⟨g, at'⟩ := a.more kp a'.row hb (.inl ⟨ok, vs, hl, r⟩) (by rw [hl]; exact fun z => nomatch z) i
  exact hd _ H' _ g at'
theorem znew {i : Nat} {x : Str} {e : Expr} {f : Fr → Hz → T (List Zl.D)} {pos pos' : Pos} (hN : X.N.Nodup) (hi : X.N[i]? = some x) (hx : Loc X.env.scope x) (he : PE X e (tN X.K F f)) (hs : swapsWith e (some (.Name x pos')) pos.line X.env = pure false := by rfl)
    (hf : X.fn x = true ∨ X.env.scope.names.lookup x = some .local := by first | exact .inl rfl | exact .inr rfl | assumption) : PS X (.Assign [.Name x pos'] e pos) (tS X.K F (sNew i f)) :=
  PSimp (ps_set hN hi hx he hs hf) fun D σ H h => new_core h
def sRet (f : Ex) : Sm := fun fr hp => (f fr hp).bind fun d => .ret (.rt d)
theorem zret {e : Expr} {f : Ex} {pos : Pos} (he : PE X e (tX X.K F f)) : PS X (.Return (some e) pos) (tS X.K F (sRet f)) := PSimp (ps_ret he) fun D σ H h => by
  obtain ⟨ρ, m0, m1, fr, hp, a, h⟩ := h
  exact tX_mk a (T.all_bind h) fun d hd H' v kp a' r => hd H' v (fun b o n _ e => kp b o n e) a'.row (r.sub fun _ q => List.mem_append_left _ q)
def sIf (t : Fr → Hz → T Bool) (f g : Sm) : Sm := fun fr hp => (t fr hp).bind fun b => bif b then f fr hp else g fr hp
theorem zifs {c : Expr} {x y : List Stmt} {t : Fr → Hz → T Bool} {f g : Sm} {pos : Pos} (hc : PT X c (tB' X.K F t)) (hx : PSs X x (tS X.K F f)) (hy : PSs X y (tS X.K F g)) : PS X (.If c x y pos) (tS X.K F (sIf t f g)) := PSimp (ps_if hc hx hy) fun D σ H h => by
  obtain ⟨ρ, m0, m1, fr, hp, a, h⟩ := h
  refine tB_mk a (T.all_bind h) fun b hb H' kp a' => ?_
  cases b with
  | true => exact tS_mk a' (.of kp) hb
  | false => exact tS_mk a' (.of kp) hb
def sDrop (f : Ex) : Sm := fun fr hp => (f fr hp).bind fun _ => .ret (.nx fr hp)
theorem zdrop {e : Expr} {f : Ex} {pos : Pos} (he : PE X e (tX X.K F f)) (hs : swapsWith e none pos.line X.env = pure false := by rfl) : PS X (.Expr e pos) (tS X.K F (sDrop f)) := PSimp (ps_expr he hs) fun D σ H h => by
  obtain ⟨ρ, m0, m1, fr, hp, a, h⟩ := h
  exact tX_mk a (T.all_bind h) fun d hd H' v kp a' r => hd m1 H' _ (.of kp) a'
def sFail : Sm := fun _ _ => .fail
/-- what is never come to -/
theorem znever {st : Stmt} : PS X st (tS X.K F sFail) := PSimp ps_never fun D σ H h => by
  obtain ⟨ρ, m0, m1, fr, hp, a, h⟩ := h
  exact h.elim
/-! ### defs -/
def retOf : Out → T Zl.D
  | .rt d => .ret d
  | .nx _ _ => .ret .non
  | _ => .fail
def argFr (n : Nat) : List Zl.D → Fr
  | d :: ds => some (.v d) :: argFr (n - 1) ds
  | [] => List.replicate n none
/-- a def's body, run from its arguments -/
def runB (g : Sm) (n : Nat) : List Zl.D → T Zl.D := fun ds => (g (argFr n ds) []).bind retOf
theorem argFr_eq : ∀ (n : Nat) (ds : List Zl.D), argFr n ds = ds.map (fun d => some (.v d)) ++ List.replicate (n - ds.length) none
  | n, [] => by simp [argFr]
  | n, d :: ds => by
    rw [argFr, argFr_eq (n - 1) ds]
    simp [Nat.sub_sub, Nat.add_comm]
theorem startFr {K : PySem.W.Frag} {m : List Addr} {H : Hp} {N : List Str} {vs : List V} {ds : List Zl.D} (r : Reps K F m H vs ds) : FrR K F none m [] H (L2.start N vs) (argFr N.length ds) := by
  rw [argFr_eq]
  unfold L2.start
  refine ⟨by simp [r.length], fun i s e => ?_⟩
  by_cases hi : i < ds.length
  · rw [List.getElem?_append_left (by simpa using hi), List.getElem?_map] at e
    cases q : ds[i]? with
    | none => rw [q] at e; cases e
    | some d =>
      rw [q] at e
      have e : SV.v d = s := by simpa using e
      subst e
      obtain ⟨v, e1, r1⟩ := r.get q
      have hv : i < vs.length := by rw [r.length]; exact hi
      refine ⟨v, ?_, ?_⟩
      · rw [List.getElem?_append_left (by simpa using hv), List.getElem?_map, e1]
        rfl
      · show Rep K F (m ++ []) H v d
        rw [List.append_nil]
        exact r1
  · rw [List.getElem?_append_right (by simpa using hi)] at e
    rw [List.getElem?_replicate] at e
    split at e <;> cases e
theorem run_core {K : PySem.W.Frag} {g : Sm} {N : List Str} {vs : List V} {H : Hp} {Q : VK} {E : XK} {n : Nat} (h : spP K F (runB g N.length) n vs H Q E) : tS K F g { nx := fun _ H' => Q .non H', rt := Q } (L2.start N vs) H := by
  obtain ⟨_, m, ds, dom, r, h⟩ := h
  refine ⟨none, m, [], argFr N.length ds, [], ⟨startFr r, ⟨rfl, .nil, fun a _ q => by simp at q, fun a q => dom a (by simpa using q), fun n c e => by simp at e⟩, (fun a e => nomatch e), (fun a e => nomatch e)⟩, ?_⟩
  refine T.all_mono (fun o q => ?_) (T.all_bind h)
  cases o with
  | nx fr hp => exact fun m1' H' σ' gr a => q H' .non (fun a o e => gr.keep a o (fun z => nomatch z) (by simp) e) .non
  | rt d => exact fun H' v k w r => q H' v (fun a o e => k a o (fun z => nomatch z) (by simp) e) r
  | bk fr hp => exact q.elim
  | ct fr hp => exact q.elim
/-- THE RULE for a def -/
theorem zdef {P : Program} {w : World} {K : PySem.W.Frag} {mg : Str → Option Value} {base : Heap} {x qual : Str} {st : Stmt} {f : Addr} {fd : FuncData} {N ps : List Str} {k : Nat} {g : Sm} (Fn : L2.Fun K x qual st f fd) (S : FnScope N ps (defScope st))
    (hb : ∀ (cdv : Value) (A : Around) (outer : List Env) (s : Shared) (H : Hp) (E : XK), Room k (A.deeper (PyProof.Rows.envOfC qual (defScope st) s.heap.objs.size f cdv)) → PSs (cxOf CX0 P w K mg base N qual (defScope st) f cdv A outer s H E).nox (defBody st) (tS K F g)) :
    FnOk P w K mg base CX0 (k + 1) f fd ps (spP K F (runB g N.length) ps.length) :=
  Fn.ok S (fun vs H Q E h => h.1) fun cdv A outer s H vs Q E hr h => ⟨_, hb cdv A outer s H E hr, run_core h⟩
end
end Zl
set_option Elab.async false
set_option linter.all false
set_option maxRecDepth 100000
set_option maxHeartbeats 1000000
/-! Z4: what is walked; for, while, comprehensions. -/
namespace Zl
open PySem L2
/-- a later heap, more of it forbidden -/
structure Later (m : List Addr) (H : Hp) (m' : List Addr) (H' : Hp) : Prop where
  new : ∀ a, a ∈ m' → a ∈ m ∨ H a = none
  keep : ∀ a o, a ∉ m → H a = some o → H' a = some o
theorem Later.refl (m : List Addr) (H : Hp) : Later m H m H := ⟨fun _ h => .inl h, fun _ _ _ h => h⟩
theorem Later.trans {m m1 m2 : List Addr} {H H1 H2 : Hp} (x : Later m H m1 H1) (y : Later m1 H1 m2 H2) (hm : ∀ a, a ∈ m → H1 a ≠ none) : Later m H m2 H2 where
  new := fun a q => by
    by_cases n : a ∈ m
    · exact .inl n
    · rcases y.new a q with z | z
      · exact x.new a z
      · refine .inr ?_
        cases e : H a with
        | none => rfl
        | some o => rw [x.keep a o n e] at z; cases z
  keep := fun a o n e => y.keep a o (fun q => (x.new a q).elim n fun z => by rw [z] at e; cases e) (x.keep a o n e)
theorem Rep.later {K : PySem.W.Frag} {F : Ev} {m m' : List Addr} {H H' : Hp} {v : V} {d : D} (h : Rep K F m H v d) (l : Later m H m' H') : Rep K F m' H' v d := Rep.keep l.new l.keep d v h
theorem Reps.later {K : PySem.W.Frag} {F : Ev} {m m' : List Addr} {H H' : Hp} {v : List V} {d : List D} (h : Reps K F m H v d) (l : Later m H m' H') : Reps K F m' H' v d := Reps.keep l.new l.keep d v h
theorem Grow.later {ρ : Option Addr} {m0 m1 m1' : List Addr} {H H' : Hp} (g : Grow ρ m1 H m1' H') (own : ∀ a, ρ = some a → a ∈ m0) : Later (m0 ++ m1) H (m0 ++ m1') H' where
  new := fun a q => by
    rcases List.mem_append.mp q with z | z
    · exact .inl (List.mem_append_left _ z)
    · rcases g.new a z with z | z
      · exact .inl (List.mem_append_right _ z)
      · exact .inr z
  keep := fun a o n e => g.keep a o (fun z => n (List.mem_append_left _ (own a z))) (fun z => n (List.mem_append_right _ z)) e
/-- .. an iterator's own pair need not be known so well -/
def WalkD (K : PySem.W.Frag) (F : Ev) (L : Bool) (m : List Addr) (H : Hp) (J : It) (ds : List D) : Prop :=
  ∃ (G : Hp → Prop) (Y : Nat → Hp → V → Hp → Prop), Walk J ds.length G Y ∧ (∀ m' H', Later m H m' H' → G H') ∧
    ∀ (i : Nat) (d : D) (x : V) (m' : List Addr) (H1 H2 : Hp), ds[i]? = some d → Later m H m' H1 → (∀ a ∈ m', H1 a ≠ none) → Y i H1 x H2 → Same H1 H2 ∧ RepL K F L m' H2 x d
def tI (K : PySem.W.Frag) (F : Ev) (L : Bool) (f : Fr → Hz → T (List D)) : TI := fun σ H R => ∃ ρ m0 m1 fr hp, At K F ρ m0 m1 H σ fr hp ∧ (f fr hp).all fun ds => ∀ J H', Keep ρ H H' → RowA K ρ H' → WalkD K F L (m0 ++ m1) H' J ds → R J H'
theorem tI_mk {K : PySem.W.Frag} {F : Ev} {L : Bool} {ρ : Option Addr} {m0 m1 : List Addr} {H : Hp} {σ : L2.St} {fr : Fr} {hp : Hz} {f : Fr → Hz → T (List D)} {P : List D → Prop} {R : It → Hp → Prop} (a : At K F ρ m0 m1 H σ fr hp) (h : (f fr hp).all P)
    (k : ∀ d, P d → ∀ J H', Keep ρ H H' → At K F ρ m0 m1 H' σ fr hp → WalkD K F L (m0 ++ m1) H' J d → R J H') : tI K F L f σ H R :=
  ⟨ρ, m0, m1, fr, hp, a, T.all_mono (fun d hd J H' kp s w => k d hd J H' kp (a.on kp s) w) h⟩
section
variable {X : Cx} {F : Ev}
theorem walkT {K : PySem.W.Frag} {m : List Addr} {H : Hp} {a : Addr} {vs : List V} {ds : List D} (hs : ∀ m' H', Later m H m' H' → SqT K H' a vs) (r : Reps K F m H vs ds) : WalkD K F false m H (Itt K a) ds := by
  refine ⟨_, _, by rw [← r.length]; exact walk_tup, hs, fun i d x m' H1 H2 e l dom y => ?_⟩
  obtain ⟨rfl, e2⟩ := y
  obtain ⟨v, e3, rv⟩ := r.get e
  rw [e2] at e3
  cases e3
  exact ⟨Same.refl _, .inl (rv.later l)⟩
theorem walkL {K : PySem.W.Frag} {m : List Addr} {H : Hp} {a : Addr} {vs : List V} {ds : List D} (hs : ∀ m' H', Later m H m' H' → SqL K H' a vs) (r : Reps K F m H vs ds) : WalkD K F false m H (Itl K a) ds := by
  refine ⟨_, _, by rw [← r.length]; exact walk_list, hs, fun i d x m' H1 H2 e l dom y => ?_⟩
  obtain ⟨rfl, e2⟩ := y
  obtain ⟨v, e3, rv⟩ := r.get e
  rw [e2] at e3
  cases e3
  exact ⟨Same.refl _, .inl (rv.later l)⟩
def asTup : D → T (List D)
  | .tup xs => .ret xs
  | _ => .fail
def asLst : D → T (List D)
  | .lst xs => .ret xs
  | _ => .fail
theorem all_asTup {d : D} {P : List D → Prop} (h : (asTup d).all P) : ∃ xs, d = .tup xs ∧ P xs := by
  unfold asTup at h
  split at h
  · exact ⟨_, rfl, h⟩
  · exact h.elim
theorem all_asLst {d : D} {P : List D → Prop} (h : (asLst d).all P) : ∃ xs, d = .lst xs ∧ P xs := by
  unfold asLst at h
  split at h
  · exact ⟨_, rfl, h⟩
  · exact h.elim
/-- lo, lo + 1, .. -/
def upto : Int → Nat → List D
  | _, 0 => []
  | lo, n + 1 => .int lo :: upto (lo + 1) n
theorem upto_len : ∀ (n : Nat) (lo : Int), (upto lo n).length = n
  | 0, _ => rfl
  | n + 1, lo => congrArg (· + 1) (upto_len n (lo + 1))
theorem upto_get : ∀ (n : Nat) (lo : Int) (i : Nat) (d : D), (upto lo n)[i]? = some d → d = .int (lo + i)
  | 0, _, _, _, h => by simp [upto] at h
  | n + 1, lo, 0, d, h => by
    have : D.int lo = d := by simpa [upto] using h
    rw [← this]
    simp
  | n + 1, lo, i + 1, d, h => by
    have := upto_get n (lo + 1) i d (by simpa [upto] using h)
    rw [this]
    congr 1
    omega
def smallI (i : Int) : Bool := decide (-1000000 ≤ i) && decide (i ≤ 1000000)
theorem small_of {i : Int} (h : smallI i = true) : -1000000 ≤ i ∧ i ≤ 1000000 := by
  unfold smallI at h
  rw [Bool.and_eq_true] at h
  exact ⟨of_decide_eq_true h.1, of_decide_eq_true h.2⟩
def rng1 : List D → T (List D)
  | [.int j] => guardT (smallI j) (.ret (upto 0 j.toNat))
  | _ => .fail
theorem walkR {K : PySem.W.Frag} {m : List Addr} {H : Hp} {lo : Int} {n : Nat} : WalkD K F false m H (Itr lo n) (upto lo n) := by
  refine ⟨_, _, by rw [upto_len]; exact walk_range, fun _ _ _ => trivial, fun i d x m' H1 H2 e l dom y => ?_⟩
  obtain ⟨rfl, rfl⟩ := y
  rw [upto_get n lo i d e]
  exact ⟨Same.refl _, .inl (.int _)⟩
theorem zir1 {tg a : Expr} {g : Fr → Hz → T (List D)} {p pos : Pos} (hg : Gl X "range") (hm : X.mg "range" = none) (ha : PA X [a] (tAs X.K F g)) (hs : starEach [a] X.env = [(false, eval a X.env)] := by rfl) : PI X tg (.Call (.Name "range" p) [a] [] pos) (tI X.K F false fun fr hp => (g fr hp).bind rng1) :=
  PIimp (pi_range1 hg hm ha hs) fun σ H R h => by
    obtain ⟨ρ, m0, m1, fr, hp, a, h⟩ := h
    refine tAs_mk a (T.all_bind h) fun ds hd H' vs kp a' r => ?_
    unfold rng1 at hd
    split at hd
    · rename_i j
      obtain ⟨hj, k⟩ := all_guard hd
      obtain ⟨h1, h2⟩ := small_of hj
      cases r with
      | cons r1 rs =>
        cases rs
        cases r1
        exact ⟨j, rfl, by omega, by omega, k _ H' kp a'.row walkR⟩
    · exact hd.elim
/-! ### for -/
def loopO (k : Fr → Hz → T Out) : Out → T Out
  | .nx fr hp => k fr hp
  | .ct fr hp => k fr hp
  | .bk fr hp => .ret (.nx fr hp)
  | .rt d => .ret (.rt d)
def forS (set : D → Fr → T Fr) (body : Sm) : List D → Fr → Hz → T Out
  | [], fr, hp => .ret (.nx fr hp)
  | d :: ds, fr, hp => (set d fr).bind fun fr1 => (body fr1 hp).bind (loopO (forS set body ds))
def sFor (it : Fr → Hz → T (List D)) (set : D → Fr → T Fr) (body : Sm) : Sm := fun fr hp => (it fr hp).bind fun ds => forS set body ds fr hp
theorem drop_get {α : Type} {l : List α} {i : Nat} (h : i < l.length) : ∃ x, l[i]? = some x ∧ l.drop i = x :: l.drop (i + 1) := ⟨l[i], by simp [h], List.drop_eq_getElem_cons h⟩
theorem zfor {L : Bool} {tg iter : Expr} {body : List Stmt} {it : Fr → Hz → T (List D)} {set : D → Fr → T Fr} {g : TG} {b : Sm} {pos : Pos} (hp : PassesOwn (model X.prog X.w) X.A X.env X.xe) (hc : X.calm = true) (hi : PI X tg iter (tI X.K F L it)) (hg : PG X tg g) (hs : TgR X.K F L set g)
    (hb : PSs X body (tS X.K F b)) (hf : ∀ x, foldedSetIterable iter X.env x = pure x := by intro _; rfl) : PS X (.For tg iter body [] pos) (tS X.K F (sFor it set b)) :=
  PSimp (ps_for hp hc hi hg hb hf) fun D σ H h => by
    obtain ⟨ρ, m0, m1, fr, hz, a, h⟩ := h
    refine tI_mk a (T.all_bind h) fun ds hd J H1 kp a1 w => ?_
    obtain ⟨G, Y, W, hG, hY⟩ := w
    refine for_it W (fun i σ' H' => ∃ m1' fr' hp', Grow ρ m1 H1 m1' H' ∧ At X.K F ρ m0 m1' H' σ' fr' hp' ∧ (forS set b (ds.drop i) fr' hp').all (PostS X.K F ρ m0 m1 H1 D)) ?_ ?_ ?_ ?_
    · exact ⟨m1, fr, hz, .refl _ _ _, a1, T.all_mono (fun _ q => q.on a1.rowN (.of kp)) hd⟩
    · rintro i σ' H' _ ⟨m1', fr', hp', gr, a', _⟩
      exact hG _ _ (gr.later a.own)
    · rintro i x σ' H' H2 hlt ⟨m1', fr', hp', gr, a', q⟩ y
      obtain ⟨d, e1, e2⟩ := drop_get hlt
      obtain ⟨sm, rx⟩ := hY i d x (m0 ++ m1') H' H2 e1 (gr.later a.own) a'.sim.dom y
      rw [e2] at q
      have a2 := a'.same sm
      have gr2 : Grow ρ m1 H1 m1' H2 := gr.trans a'.rowN (.of (.of sm))
      refine hs ρ m0 m1' H2 σ' fr' x d _ a2.fr rx (T.all_mono (fun fr1 q1 σ1 f1 => ?_) (T.all_bind q))
      refine ⟨ρ, m0, m1', fr1, hp', ⟨f1, a2.sim, a2.row, a2.own⟩, T.all_mono (fun o q2 => ?_) (T.all_bind q1)⟩
      cases o with
      | nx fr2 hp2 => exact fun m1'' H'' σ'' g'' a'' => ⟨m1'', fr2, hp2, gr2.trans a2.rowN g'', a'', q2⟩
      | ct fr2 hp2 => exact fun m1'' H'' σ'' g'' a'' => ⟨m1'', fr2, hp2, gr2.trans a2.rowN g'', a'', q2⟩
      | bk fr2 hp2 => exact fun m1'' H'' σ'' g'' a'' => q2 m1'' H'' σ'' (gr2.trans a2.rowN g'') a''
      | rt d => exact fun H'' v k'' w'' r'' => q2 H'' v (gr2.on k'') w'' r''
    · rintro σ' H' ⟨m1', fr', hp', gr, a', q⟩
      rw [List.drop_length] at q
      exact q m1' H' σ' gr a'
/-! ### while -/
end
end Zl
set_option Elab.async false
set_option linter.all false
set_option maxRecDepth 100000
set_option maxHeartbeats 1000000
/-! Z5: list comprehensions. -/
namespace Zl
open PySem L2
theorem wipe_in {σ : L2.St} {j : Nat} : ∀ {vs : List Nat}, j ∈ vs → j < σ.length → (wipe σ vs)[j]? = some none
  | v :: vs, h, hl => by
    unfold wipe
    by_cases e : v = j
    · subst e
      rw [List.getElem?_set_self (by rw [wipe_length]; exact hl)]
    · rw [List.getElem?_set_ne e]
      have : j ∈ vs := by
        rcases List.mem_cons.mp h with z | z
        · exact absurd z.symm e
        · exact z
      exact wipe_in this hl
theorem wipe_set {σ : L2.St} {i : Nat} {x : Option V} {vs : List Nat} (h : i ∈ vs) : wipe (σ.set i x) vs = wipe σ vs := by
  apply List.ext_getElem?
  intro j
  by_cases hl : j < σ.length
  · by_cases hj : j ∈ vs
    · rw [wipe_in hj (by simpa using hl), wipe_in hj hl]
    · rw [wipe_out hj, wipe_out hj, List.getElem?_set_ne]
      rintro rfl
      exact hj h
  · rw [List.getElem?_eq_none (by rw [wipe_length]; simpa using hl), List.getElem?_eq_none (by rw [wipe_length]; omega)]
theorem wipe_wipe {σ : L2.St} {vs : List Nat} : wipe (wipe σ vs) vs = wipe σ vs := by
  apply List.ext_getElem?
  intro j
  by_cases hl : j < σ.length
  · by_cases hj : j ∈ vs
    · rw [wipe_in hj (by rw [wipe_length]; exact hl), wipe_in hj hl]
    · rw [wipe_out hj]
  · rw [List.getElem?_eq_none (by rw [wipe_length, wipe_length]; omega), List.getElem?_eq_none (by rw [wipe_length]; omega)]
def wipeF (fr : Fr) : List Nat → Fr
  | [] => fr
  | v :: vs => setN (wipeF fr vs) v none
theorem wipeF_get {fr : Fr} {i : Nat} {s : SV} : ∀ {vs : List Nat}, (wipeF fr vs)[i]? = some (some s) → fr[i]? = some (some s) ∧ i ∉ vs
  | [], h => ⟨h, by simp⟩
  | v :: vs, h => by
    unfold wipeF at h
    rw [setN_eq] at h
    by_cases hi : v = i
    · subst hi
      by_cases hv : v < (wipeF fr vs).length
      · rw [List.getElem?_set_self hv] at h; cases h
      · rw [List.getElem?_eq_none (by simpa using hv)] at h; cases h
    · rw [List.getElem?_set_ne hi] at h
      obtain ⟨h1, h2⟩ := wipeF_get h
      exact ⟨h1, by simp only [List.mem_cons, not_or]; exact ⟨fun e => hi e.symm, h2⟩⟩
theorem wipeF_len (fr : Fr) : ∀ vs : List Nat, (wipeF fr vs).length = fr.length
  | [] => rfl
  | v :: vs => by unfold wipeF; rw [setN_eq, List.length_set, wipeF_len fr vs]
theorem FrR.wipe {K : PySem.W.Frag} {F : Ev} {ρ : Option Addr} {m0 m1 : List Addr} {H : Hp} {σ : L2.St} {fr : Fr} (a : FrR K F ρ m0 m1 H σ fr) (vs : List Nat) : FrR K F ρ m0 m1 H (wipe σ vs) (wipeF fr vs) := by
  refine ⟨by rw [wipe_length, wipeF_len]; exact a.len, fun i s e => ?_⟩
  obtain ⟨e1, hn⟩ := wipeF_get e
  obtain ⟨v, e2, r⟩ := a.slot i s e1
  exact ⟨v, by rw [wipe_out hn]; exact e2, r⟩
theorem At.wipe {K : PySem.W.Frag} {F : Ev} {ρ : Option Addr} {m0 m1 : List Addr} {H : Hp} {σ : L2.St} {fr : Fr} {hp : Hz} (a : At K F ρ m0 m1 H σ fr hp) (vs : List Nat) : At K F ρ m0 m1 H (wipe σ vs) (wipeF fr vs) hp := ⟨a.fr.wipe vs, a.sim, a.row, a.own⟩
/-- a comprehension's target: only the block's own slots -/
def TgC (K : PySem.W.Frag) (F : Ev) (L : Bool) (vs : List Nat) (set : D → Fr → T Fr) (g : TG) : Prop :=
  ∀ (ρ : Option Addr) (m0 m1 : List Addr) (H : Hp) (σ : L2.St) (fr : Fr) (v : V) (d : D) (Q : L2.St → Hp → Prop), FrR K F ρ m0 m1 H σ fr → RepL K F L (m0 ++ m1) H v d →
    (set d fr).all (fun fr' => ∀ σ', FrR K F ρ m0 m1 H σ' fr' → wipe σ' vs = wipe σ vs → Q σ' H) → g v σ H Q
theorem zgc_name {K : PySem.W.Frag} {F : Ev} {i : Nat} {vs : List Nat} (h : i ∈ vs) : TgC K F false vs (gI i) (gName i) := fun ρ m0 m1 H σ fr v d Q a r k => k _ (FrR.set (s := .v d) a i r.rep) (wipe_set h)
section
variable (K : PySem.W.Frag) (F : Ev)
/-- the new list at B, behind the heap H1 -/
structure LcI (ρ : Option Addr) (m0 m1 : List Addr) (H1 : Hp) (B : Addr) (H : Hp) (acc : List D) : Prop where
  lst : ∃ vs, H B = some (.lst vs) ∧ Reps K F ((B :: m0) ++ m1) H vs acc
  keep : ∀ a o, ρ ≠ some a → H1 a = some o → H a = some o
  row : RowA K ρ H
end
section
variable {K : PySem.W.Frag} {F : Ev} {ρ : Option Addr} {m0 m1 : List Addr} {H1 H H' : Hp} {B : Addr} {acc : List D} {σ : L2.St} {fr : Fr} {hp : Hz}
theorem LcI.start (a : At K F ρ m0 m1 H1 σ fr hp) (hB : H1 B = none) : LcI K F ρ m0 m1 H1 B (upd H1 B (.lst [])) [] :=
  ⟨⟨[], upd_same, .nil⟩, fun c o _ e => same_new hB c o e, a.row.same (same_new hB)⟩
theorem LcI.ne (a : At K F ρ m0 m1 H1 σ fr hp) (hB : H1 B = none) : ρ ≠ some B := fun e => a.rowN B e hB
theorem LcI.later (I : LcI K F ρ m0 m1 H1 B H acc) (own : ∀ a, ρ = some a → a ∈ m0) (hB : H1 B = none) : Later (m0 ++ m1) H1 ((B :: m0) ++ m1) H where
  new := fun a q => by
    rcases List.mem_cons.mp q with z | z
    · exact .inr (by rw [z]; exact hB)
    · exact .inl z
  keep := fun a o n e => I.keep a o (fun z => n (List.mem_append_left _ (own a z))) e
theorem LcI.at (I : LcI K F ρ m0 m1 H1 B H acc) (a : At K F ρ m0 m1 H1 σ fr hp) (hB : H1 B = none) : At K F ρ (B :: m0) m1 H σ fr hp := by
  have l := I.later a.own hB
  have hBm := a.sim.new hB
  refine ⟨⟨a.fr.len, fun i s e => ?_⟩, ⟨a.sim.len, a.sim.nd, fun c q => ?_, fun c q z => ?_, fun n c e => ?_⟩, I.row, fun c e => List.mem_cons_of_mem _ (a.own c e)⟩
  · obtain ⟨v, e1, r⟩ := a.fr.slot i s e
    refine ⟨v, e1, ?_⟩
    cases s with
    | v d => exact Rep.later r l
    | r n => exact r
    | row => exact r
  · rcases List.mem_cons.mp q with z | z
    · rw [z]; exact fun w => hBm (List.mem_append_right _ w)
    · exact a.sim.dis c z
  · have q : c = B ∨ c ∈ m0 ++ m1 := by simpa using q
    rcases q with y | y
    · obtain ⟨vs, e, _⟩ := I.lst
      rw [y, e] at z; cases z
    · by_cases hr : ρ = some c
      · obtain ⟨_, _, _, _, _, e1, _⟩ := I.row c hr
        rw [e1] at z; cases z
      · cases e : H1 c with
        | none => exact a.sim.dom c y e
        | some o => rw [I.keep c o hr e] at z; cases z
  · obtain ⟨b, e1, cr⟩ := a.sim.cell n c e
    have hm : b ∈ m1 := List.mem_of_getElem? e1
    exact ⟨b, e1, cr.tr (fun ob => I.keep b ob (fun z => a.sim.dis b (a.own b z) hm)) fun vs ds r => r.later l⟩
theorem LcI.on (I : LcI K F ρ m0 m1 H1 B H acc) (own : ∀ a, ρ = some a → a ∈ m0) (ne : ρ ≠ some B) (k : Keep ρ H H') (w : RowA K ρ H') : LcI K F ρ m0 m1 H1 B H' acc := by
  obtain ⟨vs, e, r⟩ := I.lst
  exact ⟨⟨vs, k _ _ ne e, Reps.on (m0 := B :: m0) r (fun a z => List.mem_cons_of_mem _ (own a z)) k⟩, fun a o n q => k a o n (I.keep a o n q), w⟩
theorem LcI.push (I : LcI K F ρ m0 m1 H1 B H acc) (a : At K F ρ m0 m1 H1 σ fr hp) (hB : H1 B = none) {v : V} {d : D} (r : Rep K F ((B :: m0) ++ m1) H v d) {vs : List V} (e : H B = some (.lst vs)) : LcI K F ρ m0 m1 H1 B (upd H B (.lst (vs ++ [v]))) (acc ++ [d]) := by
  obtain ⟨vs', e', rs⟩ := I.lst
  rw [e] at e'
  cases e'
  have ku : ∀ c o, c ∉ (B :: m0) ++ m1 → H c = some o → (upd H B (.lst (vs ++ [v]))) c = some o := fun c o n q => by
    rw [upd_ne (fun z => n (by rw [z]; simp))]
    exact q
  refine ⟨⟨_, upd_same, Reps.append (Reps.keep (fun c q => .inl q) ku acc vs rs) (.cons (Rep.keep (fun c q => .inl q) ku d v r) .nil)⟩, fun c o n q => ?_, fun c q => ?_⟩
  · have hc : c ≠ B := fun z => by rw [z, hB] at q; cases q
    rw [upd_ne hc]
    exact I.keep c o n q
  · have hc : B ≠ c := fun z => LcI.ne a hB (by rw [z]; exact q)
    refine (I.row c q).keep (fun xs z => by rw [upd_ne (Ne.symm hc)]; exact z) fun s o xs z => ?_
    have hs : s ≠ B := fun w => by rw [w, e] at z; cases z
    rw [upd_ne hs]
    exact z
/-- the turns -/
def lcF (set : D → Fr → T Fr) (t : Fr → Hz → T Bool) (e : Ex) : List D → Fr → Hz → T (List D)
  | [], _, _ => .ret []
  | d :: ds, fr, hp => (set d fr).bind fun fr1 => (t fr1 hp).bind fun b => bif b then (e fr1 hp).bind fun y => (lcF set t e ds fr hp).bind fun ys => .ret (y :: ys) else lcF set t e ds fr hp
def nLc (it : Fr → Hz → T (List D)) (set : D → Fr → T Fr) (t : Fr → Hz → T Bool) (e : Ex) (vs : List Nat) : Fr → Hz → T (List D) := fun fr hp => (it fr hp).bind fun ds => guardT (few ds 10000) (lcF set t e ds (wipeF fr vs) hp)
def bYes : Fr → Hz → T Bool := fun _ _ => .ret true
theorem lcF_more {set : D → Fr → T Fr} {t : Fr → Hz → T Bool} {e : Ex} {fr : Fr} {hp : Hz} {P : List D → Prop} {acc : List D} {y : D} {ds : List D} (h : ((lcF set t e ds fr hp).bind fun ys => .ret (y :: ys)).all fun ys => P (acc ++ ys)) : (lcF set t e ds fr hp).all fun ys => P ((acc ++ [y]) ++ ys) := by
  refine T.all_mono (fun ys q => ?_) (T.all_bind h)
  have q : P (acc ++ (y :: ys)) := q
  rw [List.append_assoc]
  exact q
end
section
variable {X : Cx} {F : Ev}
theorem ztyes : PTs X [] (tB' X.K F bYes) := ⟨fun pins s σ H Q I h => (pts_nil (X := X)).run pins s σ H Q I (by
  obtain ⟨ρ, m0, m1, fr, hp, a, h⟩ := h
  exact h H (Keep.refl _ _) a.row)⟩
theorem ztone {c : Expr} {t : Fr → Hz → T Bool} (h : PT X c (tB' X.K F t)) : PTs X [c] (tB' X.K F t) := pts_one h
theorem lc_core' {L : Bool} {it : Fr → Hz → T (List D)} {set : D → Fr → T Fr} {t : Fr → Hz → T Bool} {e : Ex} {vs : List Nat} {g : TG} {σ : L2.St} {H : Hp} {Q : VK} (hs : TgC X.K F L vs set g) (h : tN X.K F (nLc it set t e vs) σ H Q) : tLc (tI X.K F L it) g (tB' X.K F t) (tX X.K F e) vs σ H Q := by
  obtain ⟨ρ, m0, m1, fr, hp, a, h⟩ := h
  refine tI_mk a (T.all_bind h) fun ds hd J H1 kp a1 w B hB => ?_
  obtain ⟨hf, hd⟩ := all_guard hd
  obtain ⟨G, Y, W, hG, hY⟩ := w
  have ne := LcI.ne a1 hB
  refine lc_it W (fun i H' => ∃ acc, LcI X.K F ρ m0 m1 H1 B H' acc ∧ acc.length ≤ i ∧ (lcF set t e (ds.drop i) (wipeF fr vs) hp).all fun ys => ∀ H' a vs, Keep ρ H H' → RowA X.K ρ H' → H a = none → H' a = some (.lst vs) → Reps X.K F (m0 ++ (m1 ++ [a])) H' vs (acc ++ ys) → Q (.ref a) H')
    ⟨[], .start a1 hB, Nat.le_refl _, hd⟩ ?_ ?_ ?_
  · rintro i H' _ ⟨acc, I, _, _⟩
    exact hG _ _ (I.later a1.own hB)
  · rintro i x H2 H3 hlt ⟨acc, I, hl, q⟩ y
    obtain ⟨d, e1, e2⟩ := drop_get hlt
    have aw : At X.K F ρ (B :: m0) m1 H2 (wipe σ vs) (wipeF fr vs) hp := (I.at a1 hB).wipe vs
    obtain ⟨sm, rx⟩ := hY i d x _ H2 H3 e1 (I.later a1.own hB) aw.sim.dom y
    rw [e2] at q
    have aw3 := aw.same sm
    have I3 := I.on a1.own ne (.of sm) aw3.row
    refine hs ρ (B :: m0) m1 H3 _ _ x d _ aw3.fr rx (T.all_mono (fun fr1 q1 σ1 f1 ew => ⟨ew.trans wipe_wipe, ?_⟩) (T.all_bind q))
    have at1 : At X.K F ρ (B :: m0) m1 H3 σ1 fr1 hp := ⟨f1, aw3.sim, aw3.row, aw3.own⟩
    refine tB_mk at1 (T.all_bind q1) fun b hb H4 k4 a4 => ?_
    have I4 := I3.on a1.own ne k4 a4.row
    cases b with
    | false => exact ⟨acc, I4, Nat.le_succ_of_le hl, hb⟩
    | true =>
      refine tX_mk a4 (T.all_bind hb) fun yd hy H5 v k5 a5 rv => ?_
      have I5 := I4.on a1.own ne k5 a5.row
      obtain ⟨ws, ew, rw'⟩ := I5.lst
      refine ⟨ws, ew, ?_, acc ++ [yd], I5.push a1 hB rv ew, by simp; exact hl, lcF_more (P := fun zs => ∀ H' a vs, Keep ρ H H' → RowA X.K ρ H' → H a = none → H' a = some (.lst vs) → Reps X.K F (m0 ++ (m1 ++ [a])) H' vs zs → Q (.ref a) H') hy⟩
      have := few_le hf
      have := rw'.length
      have hz : (10000 : Nat) < sizeLine := by decide
      omega
  · rintro H' ⟨acc, I, _, q⟩
    rw [List.drop_length] at q
    obtain ⟨ws, ew, rw'⟩ := I.lst
    have q : ∀ H' a vs, Keep ρ H H' → RowA X.K ρ H' → H a = none → H' a = some (.lst vs) → Reps X.K F (m0 ++ (m1 ++ [a])) H' vs (acc ++ []) → Q (.ref a) H' := q
    refine q H' B ws (kp.trans I.keep) I.row (a.free kp a1.row hB) ew ?_
    rw [List.append_nil]
    refine rw'.sub fun c z => ?_
    rcases List.mem_append.mp z with z | z
    · exact List.mem_append_left _ (List.mem_cons_of_mem _ z)
    · rcases List.mem_append.mp z with z | z
      · exact List.mem_append_right _ z
      · have : c = B := by simpa using z
        rw [this]
        simp
/-- [elt for tg in iter if ..] -/
theorem zlc {L : Bool} {elt tg iter : Expr} {ifs : List Expr} {scope : Scope} {own : List (Str × Nat)} {vs : List Nat} {pos : Pos} {it : Fr → Hz → T (List D)} {set : D → Fr → T Fr} {g : TG} {t : Fr → Hz → T Bool} {e : Ex} (hc : X.calm = true) (hN : X.N.Nodup) (hi : PI X tg iter (tI X.K F L it)) (ok : BlkOk X.N X.env.scope scope own)
    (hs : TgC X.K F L vs set g)
    (hg : ∀ (s : Shared) (H : Hp) (C : Addr) (cl : List (Str × Addr)) (fp : List Addr), PG (X.blk s H scope (PySem.compEnvC scope cl C X.env) fp) tg g) (ht : ∀ (s : Shared) (H : Hp) (C : Addr) (cl : List (Str × Addr)) (fp : List Addr), PTs (X.blk s H scope (PySem.compEnvC scope cl C X.env) fp) ifs (tB' X.K F t))
    (he : ∀ (s : Shared) (H : Hp) (C : Addr) (cl : List (Str × Addr)) (fp : List Addr), PE (X.blk s H scope (PySem.compEnvC scope cl C X.env) fp) elt (tX X.K F e)) (hvs : own.map (·.2) = vs := by rfl) (hf : ∀ x, foldedSetIterable iter X.env x = pure x := by intro _; rfl) :
    PE X (.ListComp elt [⟨tg, iter, ifs, 0⟩] scope pos) (tN X.K F (nLc it set t e vs)) := by
  subst hvs
  exact PEimp (pe_lc hc hN hi ok hg ht he hf) fun σ H Q h => lc_core' hs h
end
end Zl
set_option Elab.async false
set_option linter.all false
set_option maxRecDepth 100000
set_option maxHeartbeats 1000000
/-! Z6: operators, subscripts, built-ins. -/
namespace Zl
open PySem L2 PySem.Spec PyProof.Rows
/-! ### data read back -/
mutual
theorem Rep.dp {K : PySem.W.Frag} {F : Ev} {m : List Addr} {H : Hp} : ∀ (n : Nat) (d : D) (v : V), Rep K F m H v d → okD n d = true → Dp K H v (toPy d)
  | _, .non, _, h, _ => by cases h; exact .non
  | _, .bl b, _, h, _ => by cases h; exact .bl b
  | _, .int i, _, h, _ => by cases h; exact .int i
  | _, .str s, _, h, _ => by cases h; exact .str _
  | n, .ty _, _, _, ok => absurd ok (by cases n <;> simp [okD])
  | n, .fn _, _, _, ok => absurd ok (by cases n <;> simp [okD])
  | n, .dct _ _, _, _, ok => absurd ok (by cases n <;> simp [okD])
  | 0, .tup _, _, _, ok => absurd ok (by simp [okD])
  | 0, .lst _, _, _, ok => absurd ok (by simp [okD])
  | n + 1, .tup ds, _, h, ok => by
    obtain ⟨a, vs, rfl, hs, r⟩ := h.tupR
    exact .tup hs (Reps.dp n ds vs r ok)
  | n + 1, .lst ds, _, h, ok => by
    obtain ⟨a, vs, rfl, _, hs, r⟩ := h.lstR
    exact .lst (.inl (.inl hs)) (Reps.dp n ds vs r ok)
theorem Reps.dp {K : PySem.W.Frag} {F : Ev} {m : List Addr} {H : Hp} : ∀ (n : Nat) (ds : List D) (vs : List V), Reps K F m H vs ds → allO (okD n) ds = true → DpAll K H vs (toPys ds)
  | _, [], _, h, _ => by cases h; exact .nil
  | n, d :: ds, _, h, ok => by
    unfold allO at ok
    by_cases h1 : okD n d = true
    · rw [if_pos h1] at ok
      cases h with
      | cons r rs => exact .cons (Rep.dp n d _ r h1) (Reps.dp n ds _ rs ok)
    · rw [if_neg h1] at ok
      exact absurd ok Bool.false_ne_true
end
theorem okNs_all : ∀ {s : List Nat}, okNs s = true → s.all (· < 0x110000) = true
  | [], _ => rfl
  | x :: xs, h => by
    unfold okNs at h
    by_cases h1 : Nat.blt x 1114112 = true
    · rw [if_pos h1] at h
      rw [List.all_cons, okNs_all h, Bool.and_true]
      exact decide_eq_true (Nat.blt_eq.mp h1)
    · rw [if_neg h1] at h
      exact absurd h Bool.false_ne_true
mutual
theorem okD_lay : ∀ (n : Nat) (d : D), okD n d = true → (toPy d).canLay0 = true ∧ (toPy d).depth ≤ n + 1
  | n, .non, _ => by simp [toPy, PyData.canLay0, PyData.depth]
  | n, .bl b, _ => by simp [toPy, PyData.canLay0, PyData.depth]
  | n, .int i, _ => by simp [toPy, PyData.canLay0, PyData.depth]
  | n, .str s, h => by
    have h : okNs s = true := by cases n <;> simpa [okD] using h
    have e := okNs_all h
    refine ⟨?_, by simp [toPy, PyData.depth]⟩
    simp only [toPy, PyData.canLay0, PyData.strOk]
    simpa using e
  | n, .ty _, ok => absurd ok (by cases n <;> simp [okD])
  | n, .fn _, ok => absurd ok (by cases n <;> simp [okD])
  | n, .dct _ _, ok => absurd ok (by cases n <;> simp [okD])
  | 0, .tup _, ok => absurd ok (by simp [okD])
  | 0, .lst _, ok => absurd ok (by simp [okD])
  | n + 1, .tup ds, ok => by
    obtain ⟨h1, h2⟩ := okDs_lay n ds ok
    refine ⟨by simp only [toPy, PyData.canLay0]; exact h1, ?_⟩
    simp only [toPy, PyData.depth]
    omega
  | n + 1, .lst ds, ok => by
    obtain ⟨h1, h2⟩ := okDs_lay n ds ok
    refine ⟨by simp only [toPy, PyData.canLay0]; exact h1, ?_⟩
    simp only [toPy, PyData.depth]
    omega
theorem okDs_lay : ∀ (n : Nat) (ds : List D), allO (okD n) ds = true → PyData.canLayAll0 (toPys ds) = true ∧ PyData.depthAll (toPys ds) ≤ n + 1
  | n, [], _ => by simp [toPys, PyData.canLayAll0, PyData.depthAll]
  | n, d :: ds, ok => by
    unfold allO at ok
    by_cases h1 : okD n d = true
    · rw [if_pos h1] at ok
      obtain ⟨a1, a2⟩ := okD_lay n d h1
      obtain ⟨b1, b2⟩ := okDs_lay n ds ok
      simp only [toPys, PyData.canLayAll0, PyData.depthAll]
      refine ⟨by rw [a1, b1]; rfl, by omega⟩
    · rw [if_neg h1] at ok
      exact absurd ok Bool.false_ne_true
end
theorem okD_shaped {d : D} (h : okD 12 d = true) : SeqAt.shaped (toPy d) = true := by
  obtain ⟨h1, h2⟩ := okD_lay 12 d h
  unfold SeqAt.shaped
  rw [h1, Bool.true_and]
  exact decide_eq_true (by omega)
/-! ### == and != -/
def dEq (x y : D) : T D := guardT (okD 12 x && okD 12 y) (.ret (.bl (beq 12 x y)))
def dNe (x y : D) : T D := guardT (okD 12 x && okD 12 y) (.ret (.bl (!beq 12 x y)))
section
variable {X : Cx} {F : Ev}
theorem oeq (hu : X.A.units + 64 < cLine) : OpZ X F (compareOp .Eq) dEq := OpZ.of (op_eqD hu) fun m H v u x y Q rx ry h => by
  obtain ⟨ok, k⟩ := all_guard h
  rw [Bool.and_eq_true] at ok
  refine ⟨toPy x, toPy y, rx.dp 12 x v ok.1, ry.dp 12 y u ok.2, okD_shaped ok.1, okD_shaped ok.2, ?_⟩
  rw [eqv_beq 12 x y ok.1 ok.2]
  exact k _ (.bl _)
theorem one (hu : X.A.units + 64 < cLine) : OpZ X F (compareOp .NotEq) dNe := OpZ.of (op_neD hu) fun m H v u x y Q rx ry h => by
  obtain ⟨ok, k⟩ := all_guard h
  rw [Bool.and_eq_true] at ok
  refine ⟨toPy x, toPy y, rx.dp 12 x v ok.1, ry.dp 12 y u ok.2, okD_shaped ok.1, okD_shaped ok.2, ?_⟩
  rw [eqv_beq 12 x y ok.1 ok.2]
  exact k _ (.bl _)
/-! ### ints -/
/-- ints, tuples -/
def dAdd (x y : D) : T D := match x, y with
  | .int i, .int j => .ret (.int (i + j))
  | .tup xs, .tup ys => guardT (few xs 10000 && few ys 10000) (.ret (.tup (xs ++ ys)))
  | _, _ => .fail
theorem small2 {α β : Type} {l : List α} {l' : List β} (h : few l 10000 = true) (h' : few l' 10000 = true) : l.length + l'.length ≤ sizeLine := by
  have h1 := few_le h
  have h2 := few_le h'
  have h3 : (20000 : Nat) ≤ sizeLine := by decide
  omega
def rCatF (K : PySem.W.Frag) : R2 := fun x y H Q => ∃ a b xs ys, x = .ref a ∧ y = .ref b ∧ SqT K H a xs ∧ SqT K H b ys ∧ xs.length + ys.length ≤ sizeLine ∧
  (xs = [] → Q (.ref b) H) ∧ (xs ≠ [] → ys = [] → Q (.ref a) H) ∧ (xs ≠ [] → ys ≠ [] → ∀ p o, H p = none → o.dict = none → Q (.ref p) (upd H p (.frz o (.tup (xs ++ ys)))))
theorem op_catF : OpR X (binaryOp .Add) (rCatF X.K) := by
  intro pins s σ H x y v u Q I rx ry h
  obtain ⟨a, b, xs, ys, rfl, rfl, ha, hb, hz, q0, q1, q2⟩ := h
  cases rx
  cases ry
  obtain ⟨its, r1, p1, _⟩ := I.tuple ha
  obtain ⟨its2, r2, p2, _⟩ := I.tuple hb
  by_cases hx : xs = []
  · subst hx
    cases r1
    exact L2.cat_tup0 p1 p2 ⟨V.ref b, H, I, rfl, q0 rfl⟩
  · refine HT.cat_tup p1 p2 (fun z => hx (r1.nil_iff.mp z)) (fun z => ⟨V.ref a, H, I, rfl, q1 hx (r2.nil_iff.mp z)⟩) (fun z => ?_) (by rw [← r1.length, ← r2.length]; exact hz)
    exact ⟨.ref s.heap.objs.size, _, layTup I (r1.append r2) (by rw [List.length_append]; exact hz), rfl, q2 hx (fun w => z (r2.nil_iff.mpr w)) _ _ (I.hok.fresh (Nat.le_refl _)) rfl⟩
theorem oadd : OpZ X F (binaryOp .Add) dAdd := by
  refine ⟨_, OpR.or op_add op_catF, fun σ fr ρ m0 m1 H hp v u x y Q a rx ry h => ?_⟩
  unfold dAdd at h
  split at h
  · rename_i i j
    cases rx
    cases ry
    exact .inl ⟨i, j, rfl, rfl, h H _ (Keep.refl _ _) a.row (.int _)⟩
  · rename_i xs ys
    obtain ⟨ok, k⟩ := all_guard h
    rw [Bool.and_eq_true] at ok
    have ex := rx
    have ey := ry
    obtain ⟨b, vs, rfl, hs, r1⟩ := rx.tupR
    obtain ⟨c, ws, rfl, ht, r2⟩ := ry.tupR
    refine .inr ⟨b, c, vs, ws, rfl, rfl, hs, ht, ?_, fun e => ?_, fun e1 e2 => ?_, fun e1 e2 p o hp ho => ?_⟩
    · rw [r1.length, r2.length]
      exact small2 ok.1 ok.2
    · subst e
      have e : xs = [] := by cases r1; rfl
      subst e
      exact k H _ (Keep.refl _ _) a.row ey
    · subst e2
      have e : ys = [] := by cases r2; rfl
      subst e
      rw [List.append_nil] at k
      exact k H _ (Keep.refl _ _) a.row ex
    · obtain ⟨k2, a2⟩ := a.upd (o := .frz o (.tup (vs ++ ws))) hp
      exact k _ _ k2 a2.row (.tup (a.sim.new hp) (.new ho) (Reps.append (r1.on a.own k2) (r2.on a.own k2)))
  · exact h.elim
/-! ### is None, type(x) is T -/
def isN (f : Ex) : Ex := fun fr hp => (f fr hp).bind fun x => match x with
  | .non => .ret (.bl true)
  | _ => .ret (.bl false)
theorem Rep.isNon {K : PySem.W.Frag} {m : List Addr} {H : Hp} {v : V} {d : D} (r : Rep K F m H v d) : decide (v = V.non) = (match d with | .non => true | _ => false) := by
  cases r <;> rfl
theorem isN_core {f : Ex} {σ : L2.St} {H : Hp} {Q : VK} (h : tX X.K F (isN f) σ H Q) : tIsN (tX X.K F f) σ H Q := by
  obtain ⟨ρ, m0, m1, fr, hp, a, h⟩ := h
  refine tX_mk a (T.all_bind h) fun x hx H1 v k1 a1 rx => ?_
  rw [rx.isNon]
  cases x <;> exact hx H1 _ k1 a1.row (.bl _)
theorem ztisN {a : Expr} {f : Ex} {j} {pos pos' : Pos} (ha : PE X a (tX X.K F f)) : PT X (.Compare a [.Is] [.Constant .none j pos'] pos) (tB' X.K F (b1 (isN f))) := PTimp (pt_cmp (pc_isN ha)) fun σ H Q h => isN_core (b1_core h)
def dTy : D → T D
  | .non => .ret (.ty "NoneType")
  | .bl _ => .ret (.ty "bool")
  | .int _ => .ret (.ty "int")
  | .str _ => .ret (.ty "str")
  | .tup _ => .ret (.ty "tuple")
  | .lst _ => .ret (.ty "list")
  | _ => .fail
/-- type(x) -/
theorem ztype {a : Expr} {f : Ex} {p pos : Pos} (hg : Gl X "type") (hm : X.mg "type" = none) (ha : PE X a (tX X.K F f)) (na : starEach [a] X.env = (false, eval a X.env) :: starEach [] X.env := by rfl) : PE X (.Call (.Name "type" p) [a] [] pos) (tX X.K F (e1 dTy f)) :=
  PEimp (pe_callTy call_type1 hg hm (by decide +kernel) (pa_cons ha pa_nil na) (he := na)) fun σ H Q h => by
    obtain ⟨ρ, m0, m1, fr, hp, a, h⟩ := h
    refine tX_mk a (T.all_bind h) fun x hx H1 v k1 a1 rx => ?_
    cases x <;> first | exact hx.elim | skip
    · cases rx; exact ⟨_, _, rfl, .non, hx H1 _ k1 a1.row (.ty _)⟩
    · cases rx; exact ⟨_, _, rfl, .bl _, hx H1 _ k1 a1.row (.ty _)⟩
    · cases rx; exact ⟨_, _, rfl, .int _, hx H1 _ k1 a1.row (.ty _)⟩
    · cases rx; exact ⟨_, _, rfl, .str _, hx H1 _ k1 a1.row (.ty _)⟩
    · obtain ⟨b, vs, rfl, hs, _⟩ := rx.tupR
      exact ⟨_, _, rfl, .tup hs, hx H1 _ k1 a1.row (.ty _)⟩
    · obtain ⟨b, vs, rfl, _, hs, _⟩ := rx.lstR
      exact ⟨_, _, rfl, .lst (.inl (.inl hs)), hx H1 _ k1 a1.row (.ty _)⟩
/-- a built-in class's name -/
theorem zty {x : Str} {n : String} {pos : Pos} (hg : Gl X x) (hm : X.mg x = none) (hv : bootBuiltins x = some (.type n)) (hn : x ≠ "__name__" := by decide) (hd : (x == ("__debug__" : Str)) = false := by decide) : PE X (.Name x pos) (tX X.K F (eC (.ty n))) :=
  zc (pe_bltn (v := .ty n) hg hm hv rfl hn hd) fun _ _ => .ty n
/-! ### a < b < c -/
end
end Zl
set_option Elab.async false
set_option linter.all false
set_option maxRecDepth 100000
set_option maxHeartbeats 1000000
/-! Z7: in, subscripts, slices, len, tuple, list, all, any, sorted, isinstance, index. -/
namespace Zl
open PySem L2 PySem.Spec PyProof.Rows
/-! ### in, not in: flat items -/
def flatD : D → Bool
  | .non => true
  | .bl _ => true
  | .int _ => true
  | .str _ => true
  | _ => false
def eqF : D → D → Bool
  | .int a, .int b => eqI a b
  | .str a, .str b => eqNs a b
  | .non, .non => true
  | .bl a, .bl b => a == b
  | .bl a, .int b => eqI (if a then 1 else 0) b
  | .int a, .bl b => eqI a (if b then 1 else 0)
  | _, _ => false
def anyF (x : D) : List D → Bool
  | [] => false
  | y :: ys => if eqF y x then true else anyF x ys
section
variable {X : Cx} {F : Ev}
theorem Rep.flat {K : PySem.W.Frag} {m : List Addr} {H : Hp} {v : V} {d : D} (r : Rep K F m H v d) (h : flatD d = true) : flatV v = true := by
  cases d <;> first | (cases r; rfl) | (exact absurd h (by simp [flatD]))
theorem Rep.eqF {K : PySem.W.Frag} {m : List Addr} {H : Hp} {v u : V} {x y : D} (r : Rep K F m H v x) (q : Rep K F m H u y) (hx : flatD x = true) (hy : flatD y = true) : eqV v u = eqF x y := by
  cases x <;> first | (exact absurd hx (by decide)) | skip
  all_goals (cases y <;> first | (exact absurd hy (by decide)) | skip)
  all_goals cases r
  all_goals cases q
  all_goals first | rfl | exact (eqI_beq _ _).symm | exact str_beq _ _
theorem Reps.flat {K : PySem.W.Frag} {m : List Addr} {H : Hp} : ∀ {vs : List V} {ds : List D}, Reps K F m H vs ds → allO flatD ds = true → vs.all flatV = true
  | _, _, .nil, _ => rfl
  | _, d :: ds, .cons r rs, h => by
    unfold allO at h
    by_cases h1 : flatD d = true
    · rw [if_pos h1] at h
      rw [List.all_cons, r.flat h1, Reps.flat rs h]
      rfl
    · rw [if_neg h1] at h
      exact absurd h Bool.false_ne_true
theorem Reps.anyF {K : PySem.W.Frag} {m : List Addr} {H : Hp} {v : V} {x : D} (q : Rep K F m H v x) (hx : flatD x = true) : ∀ {vs : List V} {ds : List D}, Reps K F m H vs ds → allO flatD ds = true → inV v vs = anyF x ds
  | _, _, .nil, _ => rfl
  | _, d :: ds, .cons r rs, h => by
    unfold allO at h
    by_cases h1 : flatD d = true
    · rw [if_pos h1] at h
      unfold inV
      rw [List.any_cons, r.eqF q h1 hx]
      have ih := Reps.anyF q hx rs h
      unfold inV at ih
      rw [ih]
      show (Zl.eqF d x || Zl.anyF x ds) = if Zl.eqF d x then true else Zl.anyF x ds
      cases Zl.eqF d x <;> rfl
    · rw [if_neg h1] at h
      exact absurd h Bool.false_ne_true
def eIn (neg : Bool) (f : Ex) (g : Fr → Hz → T (List D)) : Ex := fun fr hp => (f fr hp).bind fun x => (g fr hp).bind fun ys => guardT (flatD x && allO flatD ys) (.ret (.bl (if neg then !anyF x ys else anyF x ys)))
theorem in_core {neg : Bool} {f : Ex} {g : Fr → Hz → T (List D)} {σ : L2.St} {H : Hp} {Q : VK} (h : tX X.K F (eIn neg f g) σ H Q) : tOp (rIn X.K neg) (tX X.K F f) (tSq X.K F g) σ H Q := by
  obtain ⟨ρ, m0, m1, fr, hp, a, h⟩ := h
  refine tX_mk a (T.all_bind h) fun x hx H1 v k1 a1 rx => ?_
  refine tSq_mk a1 (T.all_bind hx) fun ys hy H2 u k2 a2 ru => ?_
  obtain ⟨ok, k⟩ := all_guard hy
  rw [Bool.and_eq_true] at ok
  obtain ⟨b, vs, rfl, hs, rs⟩ := ru
  have rx2 := rx.on a1.own k2
  refine ⟨b, vs, rfl, hs.sq, rx2.flat ok.1, rs.flat ok.2, ?_⟩
  rw [Reps.anyF rx2 ok.1 rs ok.2]
  exact k H2 _ (k1.trans k2) a2.row (.bl _)
theorem zin {a b : Expr} {f : Ex} {g : Fr → Hz → T (List D)} {pos : Pos} (ha : PE X a (tX X.K F f)) (hb : PE X b (tSq X.K F g)) (hm : behindInMarks .In b = false := by rfl) : PE X (.Compare a [.In] [b] pos) (tX X.K F (eIn false f g)) := PEimp (pe_cmpR op_in_seq ha hb hm) fun σ H Q h => in_core h
theorem ztni {a b : Expr} {f : Ex} {g : Fr → Hz → T (List D)} {pos : Pos} (ha : PE X a (tX X.K F f)) (hb : PE X b (tSq X.K F g)) (hm : behindInMarks .NotIn b = false := by rfl) : PT X (.Compare a [.NotIn] [b] pos) (tB' X.K F (b1 (eIn true f g))) := PTimp (pt_cmpR op_notIn_seq ha hb hm) fun σ H Q h => in_core (b1_core h)
/-! ### subscripts -/
def gtL {α : Type} : List α → Nat → Option α
  | [], _ => none
  | x :: _, 0 => some x
  | _ :: r, n + 1 => gtL r n
theorem gtL_eq {α : Type} : ∀ (l : List α) (i : Nat), gtL l i = l[i]?
  | [], _ => rfl
  | _ :: _, 0 => rfl
  | _ :: r, n + 1 => by simpa [gtL] using gtL_eq r n
/-- an item by its place, from the end where it is below 0 -/
def atD {α : Type} (xs : List α) (i : Int) : Option α := match i with
  | .ofNat n => gtL xs n
  | .negSucc n => gtL xs.reverse n
theorem atD_atI {α β : Type} {R : α → β → Prop} {xs : List α} {ys : List β} (hl : xs.length = ys.length) (hr : ∀ (i : Nat) (y : β), ys[i]? = some y → ∃ x, xs[i]? = some x ∧ R x y) {i : Int} {y : β} (h : atD ys i = some y) : ∃ x, atI xs i = some x ∧ R x y := by
  unfold atD at h
  cases i with
  | ofNat n =>
    have h : gtL ys n = some y := h
    rw [gtL_eq] at h
    obtain ⟨x, e, r⟩ := hr n y h
    exact ⟨x, atI_nat e, r⟩
  | negSucc n =>
    have h : gtL ys.reverse n = some y := h
    rw [gtL_eq] at h
    have hn : n < ys.length := by simpa using (List.getElem?_eq_some_iff.mp h).1
    rw [List.getElem?_reverse hn] at h
    obtain ⟨x, e, r⟩ := hr _ y h
    refine ⟨x, ?_, r⟩
    unfold atI ixN
    have h1 : ¬ (0 : Int) ≤ Int.negSucc n := by omega
    have h2 : -(xs.length : Int) ≤ Int.negSucc n := by omega
    rw [if_neg h1, if_pos h2]
    have h3 : (Int.negSucc n + (xs.length : Int)).toNat = ys.length - 1 - n := by omega
    show xs[(Int.negSucc n + (xs.length : Int)).toNat]? = some x
    rw [h3]
    exact e
def eIx (f : Fr → Hz → T (List D)) (g : Ex) : Ex := fun fr hp => (f fr hp).bind fun xs => (g fr hp).bind fun y => match y with
  | .int i => ofO (atD xs i)
  | _ => .fail
theorem zix {a b : Expr} {f : Fr → Hz → T (List D)} {g : Ex} {pos : Pos} (ha : PE X a (tSq X.K F f)) (hb : PE X b (tX X.K F g)) (hs : PlainIx b := by exact fun _ _ => rfl) : PE X (.Subscript a b pos) (tX X.K F (eIx f g)) := PEimp (pe_ix ix_seq ha hb hs) fun σ H Q h => by
  obtain ⟨ρ, m0, m1, fr, hp, a, h⟩ := h
  refine tSq_mk a (T.all_bind h) fun xs hx H1 v k1 a1 rx => ?_
  refine tX_mk a1 (T.all_bind hx) fun y hy H2 u k2 a2 ry => ?_
  obtain ⟨b, vs, rfl, hs, rs⟩ := rx
  split at hy
  · rename_i i
    obtain ⟨d, e, k⟩ := all_ofO hy
    cases ry
    obtain ⟨w, e2, rw'⟩ := atD_atI rs.length (fun i y h => rs.get h) e
    have q := k H2 w (k1.trans k2) a2.row (rw'.on a1.own k2)
    rcases (hs.on a1.own k2).sq with hs | hs
    · exact .inl ⟨b, vs, i, w, rfl, rfl, hs, e2, q⟩
    · exact .inr (.inl ⟨b, vs, i, w, rfl, rfl, hs, e2, q⟩)
  · exact hy.elim
/-! ### len, tuple, list, all, any -/
def eLen (g : Fr → Hz → T (List D)) : Ex := fun fr hp => (g fr hp).bind fun xs => .ret (.int xs.length)
theorem zlen {e : Expr} {g : Fr → Hz → T (List D)} {p pos : Pos} (hg : Gl X "len") (hm : X.mg "len" = none) (he : PE X e (tSq X.K F g)) (na : starEach (e :: []) X.env = (false, eval e X.env) :: starEach [] X.env := by rfl) : PE X (.Call (.Name "len" p) [e] [] pos) (tX X.K F (eLen g)) :=
  PEimp (pe_callB call_len_seq hg hm PySem.boot_len (pa_cons he pa_nil na) (he := na)) fun σ H Q h => by
    obtain ⟨ρ, m0, m1, fr, hp, a, h⟩ := h
    refine tSq_mk a (T.all_bind h) fun xs hx H1 v k1 a1 rx => ?_
    obtain ⟨b, vs, rfl, hs, rs⟩ := rx
    refine ⟨b, vs, rfl, hs.sq, ?_⟩
    rw [rs.length]
    exact hx H1 _ k1 a1.row (.int _)
def eTupOf (g : Fr → Hz → T (List D)) : Ex := fun fr hp => (g fr hp).bind fun xs => .ret (.tup xs)
theorem call_tupF : CallR X (.type "tuple") (fun xs H Q => ∃ p ys, xs = [.ref p] ∧ ((SqL X.K H p ys ∧ ∀ l o, H l = none → o.dict = none → Q (.ref l) (upd H l (.frz o (.tup ys)))) ∨ (SqT X.K H p ys ∧ Q (.ref p) H))) := by
  intro pins s σ H xs us Q I r h
  obtain ⟨p, ys, rfl, h⟩ := h
  obtain ⟨u, rfl, rx⟩ := vals1 r
  cases rx
  rcases h with ⟨hq, q⟩ | ⟨hq, q⟩
  · obtain ⟨its, r', pl, hz⟩ := I.list hq
    have hlen := r'.length
    refine call_tuple_list pl.isList (fun h' kp => ?_) (by simp only [List.size_toArray] <;> omega)
    have I1 : Inv X pins σ H { s with heap := h' } := I.kept (t' := s.toks) kp
    exact ⟨.ref h'.objs.size, _, layTup I1 r' hz, rfl, q _ _ (I1.hok.fresh (Nat.le_refl _)) rfl⟩
  · obtain ⟨its, r', pl, hz⟩ := I.tuple hq
    exact call_tuple_same pl ⟨V.ref p, H, I, rfl, q⟩
theorem ztupOf {e : Expr} {g : Fr → Hz → T (List D)} {p pos : Pos} (hg : Gl X "tuple") (hm : X.mg "tuple" = none) (he : PE X e (tSq X.K F g)) (na : starEach (e :: []) X.env = (false, eval e X.env) :: starEach [] X.env := by rfl) : PE X (.Call (.Name "tuple" p) [e] [] pos) (tX X.K F (eTupOf g)) :=
  PEimp (pe_callTy call_tupF hg hm PyProof.Rows.boot_tuple (pa_cons he pa_nil na) (he := na)) fun σ H Q h => by
    obtain ⟨ρ, m0, m1, fr, hp, a, h⟩ := h
    refine tSq_mk a (T.all_bind h) fun xs hx H1 v k1 a1 rx => ?_
    obtain ⟨b, vs, rfl, hs, rs⟩ := rx
    rcases hs with ⟨hn, h1 | h1⟩ | h1
    · refine ⟨b, vs, rfl, .inl ⟨.inl (.inl h1), fun l o hl ho => ?_⟩⟩
      obtain ⟨k3, a3⟩ := a1.upd (o := .frz o (.tup vs)) hl
      exact hx _ _ (k1.trans k3) a3.row (.tup (a1.sim.new hl) (.new ho) (rs.on a1.own k3))
    · refine ⟨b, vs, rfl, .inr ⟨h1.sq, hx H1 _ k1 a1.row (.tup (fun z => (List.mem_append.mp z).elim hn fun z => ?_) h1 rs)⟩⟩
      obtain ⟨n, hn⟩ := List.getElem?_of_mem z
      have hlt : n < hp.length := by rw [← a1.sim.len]; exact (List.getElem?_eq_some_iff.mp hn).1
      obtain ⟨c, e1, cr⟩ := a1.sim.cell n _ (List.getElem?_eq_getElem hlt)
      rw [hn] at e1
      cases e1
      obtain ⟨o, e3, _⟩ := h1
      exact cr.nofz _ _ e3
    · exact ⟨b, vs, rfl, .inr ⟨h1.sq, hx H1 _ k1 a1.row (.tupK h1 rs)⟩⟩
/-- list(x): a new one -/
theorem zlistOf {e : Expr} {g : Fr → Hz → T (List D)} {p pos : Pos} (hg : Gl X "list") (hm : X.mg "list" = none) (he : PE X e (tSq X.K F g)) (na : starEach (e :: []) X.env = (false, eval e X.env) :: starEach [] X.env := by rfl) : PE X (.Call (.Name "list" p) [e] [] pos) (tN X.K F g) :=
  PEimp (pe_callTy call_list_of hg hm PyProof.Rows.boot_list (pa_cons he pa_nil na) (he := na)) fun σ H Q h => by
    obtain ⟨ρ, m0, m1, fr, hp, a, h⟩ := h
    refine tSq_mk a h fun xs hx H1 v k1 a1 rx => ?_
    obtain ⟨b, vs, rfl, hs, rs⟩ := rx
    refine ⟨b, vs, rfl, hs.sq, fun l hl => ?_⟩
    obtain ⟨k3, a3⟩ := a1.upd (o := .lst vs) hl
    exact hx _ l _ (k1.trans k3) a3.row (a.free k1 a1.row hl) upd_same (rs.more hl (same_new hl))
def bools : List D → Option (List Bool)
  | [] => some []
  | .bl b :: r => match bools r with
    | some bs => some (b :: bs)
    | none => none
  | _ :: _ => none
theorem bools_reps {K : PySem.W.Frag} {m : List Addr} {H : Hp} : ∀ {vs : List V} {ds : List D} {bs : List Bool}, Reps K F m H vs ds → bools ds = some bs → vs = bs.map V.bl
  | _, _, _, .nil, h => by
    cases Option.some.inj h
    rfl
  | _, .bl b :: ds, bs, .cons r rs, h => by
    unfold bools at h
    cases e : bools ds with
    | none => rw [e] at h; cases h
    | some cs =>
      rw [e] at h
      cases Option.some.inj h
      rw [bools_reps rs e]
      cases r
      rfl
  | _, .non :: _, _, _, h => nomatch h
  | _, .int _ :: _, _, _, h => nomatch h
  | _, .str _ :: _, _, _, h => nomatch h
  | _, .ty _ :: _, _, _, h => nomatch h
  | _, .fn _ :: _, _, _, h => nomatch h
  | _, .dct _ _ :: _, _, _, h => nomatch h
  | _, .tup _ :: _, _, _, h => nomatch h
  | _, .lst _ :: _, _, _, h => nomatch h
def allBs : List Bool → Bool
  | [] => true
  | b :: r => bif b then allBs r else false
def anyBs : List Bool → Bool
  | [] => false
  | b :: r => bif b then true else anyBs r
theorem allBs_eq : ∀ l, allBs l = l.all id
  | [] => rfl
  | b :: r => by unfold allBs; rw [List.all_cons, allBs_eq r]; cases b <;> rfl
theorem anyBs_eq : ∀ l, anyBs l = l.any id
  | [] => rfl
  | b :: r => by unfold anyBs; rw [List.any_cons, anyBs_eq r]; cases b <;> rfl
def eAll (g : Fr → Hz → T (List D)) : Ex := fun fr hp => (g fr hp).bind fun xs => (ofO (bools xs)).bind fun bs => .ret (.bl (allBs bs))
def eAny (g : Fr → Hz → T (List D)) : Ex := fun fr hp => (g fr hp).bind fun xs => (ofO (bools xs)).bind fun bs => .ret (.bl (anyBs bs))
theorem zall {e : Expr} {g : Fr → Hz → T (List D)} {p pos : Pos} (hc : X.calm = true) (hg : Gl X "all") (hm : X.mg "all" = none) (he : PE X e (tN X.K F g)) (na : starEach (e :: []) X.env = (false, eval e X.env) :: starEach [] X.env := by rfl) : PE X (.Call (.Name "all" p) [e] [] pos) (tX X.K F (eAll g)) :=
  PEimp (pe_callB (cr_all hc) hg hm (by decide +kernel) (pa_cons he pa_nil na) (he := na)) fun σ H Q h => by
    obtain ⟨ρ, m0, m1, fr, hp, a, h⟩ := h
    show tN X.K F g σ H fun x H1 => rAll X.K [x] H1 Q
    refine tN_mk a (T.all_bind h) fun xs hx H1 b vs k1 a1 hb hl rs => ?_
    obtain ⟨bs, e, k⟩ := all_ofO (T.all_bind hx)
    obtain rfl := bools_reps rs e
    refine ⟨b, bs, rfl, .inl (.inl hl), ?_⟩
    rw [← allBs_eq]
    exact k H1 _ k1 a1.row (.bl _)
theorem zany {e : Expr} {g : Fr → Hz → T (List D)} {p pos : Pos} (hc : X.calm = true) (hg : Gl X "any") (hm : X.mg "any" = none) (he : PE X e (tN X.K F g)) (na : starEach (e :: []) X.env = (false, eval e X.env) :: starEach [] X.env := by rfl) : PE X (.Call (.Name "any" p) [e] [] pos) (tX X.K F (eAny g)) :=
  PEimp (pe_callB (cr_any hc) hg hm (by decide +kernel) (pa_cons he pa_nil na) (he := na)) fun σ H Q h => by
    obtain ⟨ρ, m0, m1, fr, hp, a, h⟩ := h
    show tN X.K F g σ H fun x H1 => rAny X.K [x] H1 Q
    refine tN_mk a (T.all_bind h) fun xs hx H1 b vs k1 a1 hb hl rs => ?_
    obtain ⟨bs, e, k⟩ := all_ofO (T.all_bind hx)
    obtain rfl := bools_reps rs e
    refine ⟨b, bs, rfl, .inl (.inl hl), ?_⟩
    rw [← anyBs_eq]
    exact k H1 _ k1 a1.row (.bl _)
end
end Zl
set_option Elab.async false
set_option linter.all false
set_option maxRecDepth 100000
set_option maxHeartbeats 1000000
/-! Z8: sorted ints, isinstance, index, tuple(range), list(range), slices. -/
namespace Zl
open PySem L2 PySem.Spec PyProof.Rows
/-! ### sorted ints -/
theorem reps_ints {K : PySem.W.Frag} {F : Ev} {m : List Addr} {H : Hp} : ∀ bs : List Int, Reps K F m H (bs.map V.int) (bs.map D.int)
  | [] => .nil
  | b :: r => .cons (.int b) (reps_ints r)
end Zl
set_option Elab.async false
set_option linter.all false
set_option maxRecDepth 100000
set_option maxHeartbeats 2000000
/-! ZA: permutations, combinations, product: what the model's tables say of them. -/
namespace Zi
open PySem PySem.Spec PyProof.Rows
theorem sub_pd : isSubtype (.type "itertools.product") (.type "itertools.product") = pure true := by rw [isSubtype_type]; kernel_rfl
theorem next_pd : Slot "itertools.product" "__next__" "itertools.product.__next__" :=
  .of (owner := "itertools.product") (n := "__next__") (by rw [typeLookup_type, builtinLookup_eq_fast]; kernel_rfl) (by decide +kernel) (by decide +kernel) (by decide +kernel) (by first | exact .inl (by decide +kernel) | exact .inr (by decide +kernel)) sub_pd
theorem en_next_pd : entryFor table "itertools.product.__next__" = some Builtin.«itertools.product.__next__» := entryFor_of_tree (by kernel_rfl)
theorem owner_pd : Manifest.owners.lookup (String.ofList ['t', 'c', 'u', 'd', 'o', 'r', 'p', '.', 's', 'l', 'o', 'o', 't', 'r', 'e', 't', 'i'].reverse) = some Manifest.sig_itertools_product := by kernel_rfl
theorem ar_next_pd (a : Value) : argsOk "itertools.product.__next__" ⟨[a], []⟩ := by
  unfold argsOk; rw [signature?_of (id := "itertools.product.__next__") (n := ['_', '_', 't', 'x', 'e', 'n', '_', '_']) (o := ['t', 'c', 'u', 'd', 'o', 'r', 'p', '.', 's', 'l', 'o', 'o', 't', 'r', 'e', 't', 'i']) (by kernel_rfl) owner_pd]; kernel_rfl
end Zi
set_option Elab.async false
set_option linter.all false
set_option maxRecDepth 100000
set_option maxHeartbeats 2000000
/-! ZB: permutations and combinations made and asked. -/
namespace Zi
open PySem PySem.Spec PyProof.Rows
open Sem (wp)
/-- a record of a class, and the pool it draws from -/
def IsIt (T : String) (h : Heap) (it pool : Addr) (fs : List Value) (items : List Value) : Prop :=
  h.get? it = some { cls := .type T, data := .fields fs.toArray } ∧ h.get? pool = some { cls := .type "tuple", data := .seq items.toArray } ∧ pool ≠ it
section
variable {prog : Program} {w : World} {A : Around} {E : Value → Shared → Prop} {s : Shared}
/-! ### the next -/
/-- the record has turned: a new tuple of the row -/
def Turned (T : String) (s : Shared) (it pool : Addr) (fs items row : List Value) (h' : Heap) : Prop :=
  IsIt T h' it pool fs items ∧ h'.get? s.heap.objs.size = some { cls := .type "tuple", data := .seq row.toArray } ∧ ∀ b o, b ≠ it → s.heap.get? b = some o → h'.get? b = some o
theorem IsIt.fld {T : String} {it pool : Addr} {fs items : List Value} (h : IsIt T s.heap it pool fs items) {g : Array Value → Array Value} {fs' : List Value} (e : g fs.toArray = fs'.toArray) :
    IsIt T (s.heap.update it (Obj.mapFields g)) it pool fs' items := by
  obtain ⟨h1, h2, h3⟩ := h
  refine ⟨?_, (Heap.get?_update_other _ _ (Ne.symm h3)).trans h2, h3⟩
  have := Heap.get?_update_self (Obj.mapFields g) h1 rfl
  rw [this]
  show some (Obj.mapFields g { cls := .type T, data := .fields fs.toArray }) = _
  simp only [Obj.mapFields]
  rw [e]
theorem IsIt.push {T : String} {it pool : Addr} {fs items : List Value} (h : IsIt T s.heap it pool fs items) (o : Obj) : IsIt T (s.heap.push o) it pool fs items :=
  ⟨Heap.get?_push_of_some _ h.1, Heap.get?_push_of_some _ h.2.1, h.2.2⟩
theorem set_arr (fs : List Value) (k : Nat) (x : Value) : fs.toArray.setIfInBounds k x = (fs.set k x).toArray := by simp
theorem nums (fs : List Value) (ns : List Nat) (k : Nat) (hk : k = fs.length) (f : Value → Nat) (hf : ∀ n t, f (.int n t) = n.toNat) : (List.drop k (fs ++ ns.map fun (i : Nat) => rawInt i)).map f = ns := by
  subst hk
  rw [List.drop_left, List.map_map]
  conv => rhs; rw [← List.map_id ns]
  apply List.map_congr_left
  intro a _
  show f (.int a 0) = a
  rw [hf]
  simp
theorem Turned.back {T : String} {it pool : Addr} {f : Obj → Obj} {fs items row : List Value} {h' : Heap} (t : Turned T { s with heap := s.heap.update it f } it pool fs items row h') : Turned T s it pool fs items row h' := by
  obtain ⟨t1, t2, t3⟩ := t
  have sz : (s.heap.update it f).objs.size = s.heap.objs.size := Heap.size_update ..
  refine ⟨t1, by rw [← sz]; exact t2, fun b o hb e => t3 b o hb ((Heap.get?_update_other _ _ (Ne.symm hb)).trans e)⟩
def pmSt : Nat → Int
  | 0 => 0
  | _ => 1
end
end Zi
set_option Elab.async false
set_option linter.all false
set_option maxRecDepth 100000
set_option maxHeartbeats 2000000
/-! ZC: such iterators, collected and walked, over the hand layer. -/
namespace Zi
open PySem PySem.Spec PyProof.Rows L2 Zl
/-! ### permutations(range(n)), n = 2, 3 -/
end Zi
set_option Elab.async false
set_option linter.all false
set_option maxRecDepth 100000
set_option maxHeartbeats 2000000
/-! ZD: combinations(range(n), r), n = 2, 3. -/
namespace Zi
open PySem PySem.Spec PyProof.Rows L2 Zl
end Zi
set_option Elab.async false
set_option linter.all false
set_option maxRecDepth 100000
set_option maxHeartbeats 2000000
/-! ZE: tuple(permutations(range(n))), for .. in combinations(range(n), r). -/
namespace Zl
open PySem L2 PySem.Spec PyProof.Rows Zi
end Zl
set_option Elab.async false
set_option linter.all false
set_option maxRecDepth 100000
set_option maxHeartbeats 2000000
/-! ZF: isinstance, len(set(t)), module constants, is not, parallel stores. -/
namespace Zl
open PySem L2 PySem.Spec PyProof.Rows
/-! ### isinstance -/
/-- a value's class, by name -/
def tyName : D → Option String
  | .non => some "NoneType"
  | .bl _ => some "bool"
  | .int _ => some "int"
  | .str _ => some "str"
  | .tup _ => some "tuple"
  | .lst _ => some "list"
  | _ => none
def tag : D → Nat
  | .non => 0
  | .bl _ => 1
  | .int _ => 2
  | .str _ => 3
  | .tup _ => 4
  | .lst _ => 5
  | _ => 9
section
variable {X : Cx} {F : Ev}
theorem Rep.tyx {m : List Addr} {H : Hp} {v : V} {d : D} {n : String} (r : Rep X.K F m H v d) (h : tyName d = some n) : TyX X.K H v (.type n) := by
  cases d <;> first | (cases h; done) | skip
  · cases h; cases r; exact .base .non
  · cases h; cases r; exact .base (.bl _)
  · cases h; cases r; exact .base (.int _)
  · cases h; cases r; exact .base (.str _)
  · cases h
    cases r with
    | tup hn e rr => obtain ⟨o, e, _⟩ := e; exact .fTuple e
    | tupK e rr => obtain ⟨o, its, n, ⟨e1, e2, _⟩, _⟩ := e; exact .kTuple e1 e2
  · cases h
    cases r with
    | lst hn e rr => exact .base (.lst e)
def clsName : Nat → Option String
  | 1 => some "bool"
  | 2 => some "int"
  | 3 => some "str"
  | 4 => some "tuple"
  | 5 => some "list"
  | _ => none
def isiB (a c : Nat) : Bool := (Nat.beq a 1 && Nat.beq c 2) || Nat.beq a c
theorem isi_tab {a c : Nat} {n k : String} {d : D} (hd : tag d = a) (hn : tyName d = some n) (hk : clsName c = some k) : kitB n k = some (isiB a c) := by
  subst hd
  have hc : c = 1 ∨ c = 2 ∨ c = 3 ∨ c = 4 ∨ c = 5 := by
    unfold clsName at hk
    split at hk <;> first | (cases hk; done) | simp
  cases d <;> first | (cases hn; done) | skip
  all_goals cases hn
  all_goals rcases hc with rfl | rfl | rfl | rfl | rfl
  all_goals cases hk
  all_goals simp only [tag]
  all_goals decide +kernel
def eIsi (c : Nat) (f : Ex) : Ex := fun fr hp => (f fr hp).bind fun x => guardT (!Nat.beq (tag x) 9) (.ret (.bl (isiB (tag x) c)))
theorem tag_name {d : D} (h : (!Nat.beq (tag d) 9) = true) : ∃ n, tyName d = some n := by
  cases d <;> first | exact ⟨_, rfl⟩ | exact absurd h (by simp [tag])
theorem boot_isi : bootBuiltins "isinstance" = some (.builtin "isinstance") := by decide +kernel
theorem zisi {a b : Expr} {f : Ex} {p pos : Pos} (c : Nat) {k : String} (hk : clsName c = some k) (hg : Gl X "isinstance") (hm : X.mg "isinstance" = none) (ha : PE X a (tX X.K F f)) (hb : PE X b (tX X.K F (eC (.ty k))))
    (na : starEach [a, b] X.env = (false, eval a X.env) :: starEach [b] X.env := by rfl) (nb : starEach [b] X.env = (false, eval b X.env) :: starEach [] X.env := by rfl) (hpl : (backTo pos (starEach [b] X.env)).any (·.1) = false := by rfl) :
    PE X (.Call (.Name "isinstance" p) [a, b] [] pos) (tX X.K F (eIsi c f)) :=
  PEimp (pe_callB call_isi hg hm boot_isi (pa_cons ha (pa_cons hb pa_nil nb) na) (he := na) (hpl := hpl)) fun σ H Q h => by
    obtain ⟨ρ, m0, m1, fr, hp, a, h⟩ := h
    refine tX_mk a (T.all_bind h) fun x hx H1 v k1 a1 rx => ?_
    obtain ⟨hg9, hx⟩ := all_guard hx
    refine tX_mk a1 (show ((eC (.ty k)) fr hp).all (fun d => d = .ty k) from rfl) fun y hy H2 u k2 a2 ry => ?_
    subst hy
    cases ry
    obtain ⟨n, hn⟩ := tag_name hg9
    exact ⟨v, .ty k, .type n, .type k, _, rfl, .ty k, (rx.on a1.own k2).tyx hn, kit_ty (isi_tab rfl hn hk), hx H2 _ (k1.trans k2) a2.row (.bl _)⟩
/-- isinstance(x, (c, c')) -/
def eIsi2 (c c' : Nat) (f : Ex) : Ex := fun fr hp => (f fr hp).bind fun x => guardT (!Nat.beq (tag x) 9) (.ret (.bl (isiB (tag x) c || isiB (tag x) c')))
theorem zisi2 {a b b' : Expr} {f : Ex} {p pos tp : Pos} {x1} (c c' : Nat) {k k' : String} (hk : clsName c = some k) (hk' : clsName c' = some k') (hg : Gl X "isinstance") (hm : X.mg "isinstance" = none) (ha : PE X a (tX X.K F f)) (hb : PE X b (tX X.K F (eC (.ty k)))) (hb' : PE X b' (tX X.K F (eC (.ty k'))))
    (na : starEach [a, .Tuple [b, b'] x1 tp] X.env = (false, eval a X.env) :: starEach [.Tuple [b, b'] x1 tp] X.env := by rfl) (nb : starEach [.Tuple [b, b'] x1 tp] X.env = (false, eval (.Tuple [b, b'] x1 tp) X.env) :: starEach [] X.env := by rfl) (hpl : (backTo pos (starEach [.Tuple [b, b'] x1 tp] X.env)).any (·.1) = false := by rfl)
    (nc : starEach [b, b'] X.env = (false, eval b X.env) :: starEach [b'] X.env := by rfl) (nd : starEach [b'] X.env = (false, eval b' X.env) :: starEach [] X.env := by rfl) :
    PE X (.Call (.Name "isinstance" p) [a, .Tuple [b, b'] x1 tp] [] pos) (tX X.K F (eIsi2 c c' f)) :=
  PEimp (pe_callB call_isiT hg hm boot_isi (pa_cons ha (pa_cons (pe_tup (pa_cons hb (pa_cons hb' pa_nil nd) nc)) pa_nil nb) na) (he := na) (hpl := hpl)) fun σ H Q h => by
    obtain ⟨ρ, m0, m1, fr, hp, a, h⟩ := h
    refine tX_mk a (T.all_bind h) fun x hx H1 v k1 a1 rx => ?_
    obtain ⟨hg9, hx⟩ := all_guard hx
    refine tX_mk a1 (show ((eC (.ty k)) fr hp).all (fun d => d = .ty k) from rfl) fun y hy H2 u k2 a2 ry => ?_
    subst hy
    cases ry
    refine tX_mk a2 (show ((eC (.ty k')) fr hp).all (fun d => d = .ty k') from rfl) fun y hy H3 u k3 a3 ry => ?_
    subst hy
    cases ry
    refine ⟨(show 2 ≤ sizeLine from by decide), fun tp htp => ?_⟩
    obtain ⟨n, hn⟩ := tag_name hg9
    have k4 : Keep ρ H3 (upd H3 tp (.tup [.ty k, .ty k'])) := .of (same_new htp)
    have rx3 := ((rx.on a1.own k2).on a2.own k3).on a3.own k4
    have e1 := isi_tab (c := c) rfl hn hk
    have e2 := isi_tab (c := c') rfl hn hk'
    refine ⟨v, tp, [.ty k, .ty k'], .type n, [.type k, .type k'], isiB (tag x) c || isiB (tag x) c', rfl, upd_same, .cons (.ty k) (.cons (.ty k') .nil), rx3.tyx hn, ?_, hx _ _ (((k1.trans k2).trans k3).trans k4) (a3.row.same (same_new htp)) (.bl _)⟩
    refine kitAny_cons (kit_ty e1) (fun z => ?_) fun z => by rw [z]; rfl
    rw [z, Bool.false_or]
    refine kitAny_cons (kit_ty e2) (fun z => ?_) fun z => z
    rw [z]; rfl
/-! ### len(set(t)) -/
/-! ### is not, constants of the module -/
def dIsNotTy (x y : D) : T D := match x, y with
  | .ty m, .ty n => .ret (.bl (!decide (m = n)))
  | _, _ => .fail
theorem oisNotTy : OpZ X F (compareOp .IsNot) dIsNotTy := OpZ.of op_isNotTy fun m H v u x y Q rx ry h => by
  unfold dIsNotTy at h
  split at h
  · cases rx
    cases ry
    exact ⟨_, _, rfl, rfl, h _ (.bl _)⟩
  · exact h.elim
/-- a static thing of the module -/
theorem zgl {x : Str} {a : Addr} {d : D} {pos : Pos} (hg : Gl X x) (hm : X.mg x = some (.ref a)) (r : ∀ m H, Rep X.K F m H (.ref a) d) (hd : (x == ("__debug__" : Str)) = false := by decide) : PE X (.Name x pos) (tX X.K F (eC d)) :=
  zc (pe_glob (v := V.ref a) hg hm rfl hd) r
/-! ### x, y = a, b -/
def sPar (i j : Nat) (f g : Ex) : Sm := fun fr hp => (f fr hp).bind fun x => (g fr hp).bind fun y => .ret (.nx (setN (setN fr i (some (.v x))) j (some (.v y))) hp)
theorem zpar {i j : Nat} {x y : Str} {a b : Expr} {f g : Ex} {px py pt pos : Pos} {kt k2 pt2} (hc : X.calm = true) (hN : X.N.Nodup) (hi : X.N[i]? = some x) (hj : X.N[j]? = some y) (hij : i ≠ j)
    (hx : X.env.scope.names.lookup x = some .local) (hy : X.env.scope.names.lookup y = some .local) (ha : PE X a (tX X.K F f)) (hb : PE X b (tX X.K F g))
    (hw : swappedStores [.Tuple [.Name x px, .Name y py] kt pt] (.Tuple [a, b] k2 pt2) X.env = pure (some [x, y]))
    (hs : swapsWithSole [.Tuple [.Name x px, .Name y py] kt pt] (.Tuple [a, b] k2 pt2) pos.line X.env = pure false := by rfl)
    (na : starEach [a, b] X.env = (false, eval a X.env) :: starEach [b] X.env := by rfl) (nb : starEach [b] X.env = (false, eval b X.env) :: starEach [] X.env := by rfl) :
    PS X (.Assign [.Tuple [.Name x px, .Name y py] kt pt] (.Tuple [a, b] k2 pt2) pos) (tS X.K F (sPar i j f g)) :=
  PSimp (ps_par hc hN hi hj hij hx hy (pa_cons ha (pa_cons hb pa_nil nb) na) hw hs) fun D σ H h => by
    obtain ⟨ρ, m0, m1, fr, hp, a, h⟩ := h
    refine tX_mk a (T.all_bind h) fun x hx H1 v k1 a1 rx => ?_
    refine tX_mk a1 (T.all_bind hx) fun y hy H2 u k2 a2 ry => ?_
    exact ⟨v, u, rfl, hy m1 H2 _ (.of (k1.trans k2)) ⟨(a2.fr.set (s := .v x) i (rx.on a1.own k2)).set (s := .v y) j ry, a2.sim, a2.row, a2.own⟩⟩
end
end Zl
set_option Elab.async false
set_option linter.all false
set_option maxRecDepth 100000
set_option maxHeartbeats 2000000
/-! ZG: enumerate over a tuple, comprehensions of two clauses. -/
namespace Zl
open PySem L2 PySem.Spec PyProof.Rows
/-! ### enumerate(tuple) -/
section
variable {X : Cx} {F : Ev}
/-! ### comprehensions of two clauses -/
theorem At.mod {K : PySem.W.Frag} {ρ : Option Addr} {m0 m1 : List Addr} {H H' : Hp} {σ : L2.St} {fr : Fr} {hp : Hz} (a : At K F ρ m0 m1 H σ fr hp) (k : ∀ a o, a ∉ m0 → H a = some o → H' a = some o) (dom : ∀ a ∈ m0, H' a ≠ none) (row : RowA K ρ H') : At K F ρ m0 m1 H' σ fr hp := by
  have rk : ∀ {v : V} {d : D}, Rep K F (m0 ++ m1) H v d → Rep K F (m0 ++ m1) H' v d := fun {v d} r => Rep.keep (fun a q => .inl q) (fun b o n e => k b o (fun z => n (List.mem_append_left _ z)) e) d v r
  have rks : ∀ {v : List V} {d : List D}, Reps K F (m0 ++ m1) H v d → Reps K F (m0 ++ m1) H' v d := fun {v d} r => Reps.keep (fun a q => .inl q) (fun b o n e => k b o (fun z => n (List.mem_append_left _ z)) e) d v r
  refine ⟨⟨a.fr.len, fun i s e => ?_⟩, ⟨a.sim.len, a.sim.nd, a.sim.dis, fun b q z => ?_, fun n c e => ?_⟩, row, a.own⟩
  · obtain ⟨v, e1, r⟩ := a.fr.slot i s e
    refine ⟨v, e1, ?_⟩
    cases s with
    | v d => exact rk r
    | r n => exact r
    | row => exact r
  · rcases List.mem_append.mp q with y | y
    · exact dom b y z
    · cases e : H b with
      | none => exact a.sim.dom b q e
      | some o => rw [k b o (fun w => a.sim.dis b w y) e] at z; cases z
  · obtain ⟨b, e1, cr⟩ := a.sim.cell n c e
    exact ⟨b, e1, cr.tr (fun ob => k b ob (fun w => a.sim.dis b w (List.mem_of_getElem? e1))) fun vs ds r => rks r⟩
def lc2F (set : D → Fr → T Fr) (t : Fr → Hz → T Bool) (it1 : Fr → Hz → T (List D)) (set1 : D → Fr → T Fr) (t1 : Fr → Hz → T Bool) (e : Ex) (vs1 : List Nat) : List D → Fr → Hz → T (List D)
  | [], _, _ => .ret []
  | d :: ds, fr, hp => (set d fr).bind fun fr1 => (t fr1 hp).bind fun b => bif b then (it1 fr1 hp).bind fun ds1 => guardT (few ds1 9999) ((lcF set1 t1 e ds1 (wipeF fr1 vs1) hp).bind fun ys => (lc2F set t it1 set1 t1 e vs1 ds fr hp).bind fun zs => .ret (ys ++ zs))
    else lc2F set t it1 set1 t1 e vs1 ds fr hp
def nLc2 (it : Fr → Hz → T (List D)) (set : D → Fr → T Fr) (t : Fr → Hz → T Bool) (it1 : Fr → Hz → T (List D)) (set1 : D → Fr → T Fr) (t1 : Fr → Hz → T Bool) (e : Ex) (vs vs1 : List Nat) : Fr → Hz → T (List D) := fun fr hp => (it fr hp).bind fun ds => guardT (few ds 1000) (lc2F set t it1 set1 t1 e vs1 ds (wipeF fr vs) hp)
theorem lc2_core' {L L1 : Bool} {it it1 : Fr → Hz → T (List D)} {set set1 : D → Fr → T Fr} {t t1 : Fr → Hz → T Bool} {e : Ex} {vs vs1 : List Nat} {g g1 : TG} {σ : L2.St} {H : Hp} {Q : VK} (hs : TgC X.K F L vs set g) (hs1 : TgC X.K F L1 vs1 set1 g1) (h : tN X.K F (nLc2 it set t it1 set1 t1 e vs vs1) σ H Q) :
    tLc2 (tI X.K F L it) g (tB' X.K F t) (tI X.K F L1 it1) g1 (tB' X.K F t1) (tX X.K F e) vs vs1 σ H Q := by
  obtain ⟨ρ, m0, m1, fr, hp, a, h⟩ := h
  refine tI_mk a (T.all_bind h) fun ds hd J H1 kp a1 w B hB => ?_
  obtain ⟨hf, hd⟩ := all_guard hd
  obtain ⟨G, Y, W, hG, hY⟩ := w
  have ne := LcI.ne a1 hB
  have hf := few_le hf
  have hsl : sizeLine = 2 ^ 24 := by first | exact sizeLine_eq | rfl
  let P : List D → Prop := fun ys => ∀ H' a vs, Keep ρ H H' → RowA X.K ρ H' → H a = none → H' a = some (.lst vs) → Reps X.K F (m0 ++ (m1 ++ [a])) H' vs ys → Q (.ref a) H'
  let Pv : Nat → Hp → Prop := fun i H' => ∃ acc, LcI X.K F ρ m0 m1 H1 B H' acc ∧ acc.length ≤ i * 10000 ∧ (lc2F set t it1 set1 t1 e vs1 (ds.drop i) (wipeF fr vs) hp).all fun ys => P (acc ++ ys)
  refine ⟨fun i m H => m = ds.length - i ∧ i ≤ ds.length ∧ Pv i H, ⟨_, rfl, Nat.zero_le _, [], .start a1 hB, Nat.zero_le _, hd⟩, ?_⟩
  rintro i m H' ⟨rfl, hi, acc, I, hl, q⟩
  have gg := hG _ _ (I.later a1.own hB)
  by_cases hlt : i < ds.length
  · refine .inr ⟨W.goes i H' hlt gg, Pv (i + 1), fun H2 p => ⟨ds.length - (i + 1), by omega, rfl, hlt, p⟩, fun x H2 y => ?_⟩
    have y := W.yields i H' x H2 hlt gg y
    obtain ⟨d, e1, e2⟩ := drop_get hlt
    have aw : At X.K F ρ (B :: m0) m1 H' (wipe σ vs) (wipeF fr vs) hp := (I.at a1 hB).wipe vs
    obtain ⟨sm, rx⟩ := hY i d x _ H' H2 e1 (I.later a1.own hB) aw.sim.dom y
    rw [e2] at q
    have aw3 := aw.same sm
    have I3 := I.on a1.own ne (.of sm) aw3.row
    refine hs ρ (B :: m0) m1 H2 _ _ x d _ aw3.fr rx (T.all_mono (fun fr1 q1 σ1 f1 ew => ⟨ew.trans wipe_wipe, ?_⟩) (T.all_bind q))
    have at1 : At X.K F ρ (B :: m0) m1 H2 σ1 fr1 hp := ⟨f1, aw3.sim, aw3.row, aw3.own⟩
    refine tB_mk at1 (T.all_bind q1) fun b hb H3 k3 a3 => ?_
    have I3' := I3.on a1.own ne k3 a3.row
    cases b with
    | false => exact ⟨acc, I3', by omega, hb⟩
    | true =>
      refine tI_mk a3 (T.all_bind hb) fun ds1 hb J1 H4 k4 a4 w1 => ?_
      obtain ⟨hf1, hb⟩ := all_guard hb
      have hf1 := few_le hf1
      obtain ⟨G1, Y1, W1, hG1, hY1⟩ := w1
      have I4 := I3'.on a1.own ne k4 a4.row
      let Rst : List D → T (List D) := fun ys => (lc2F set t it1 set1 t1 e vs1 (ds.drop (i + 1)) (wipeF fr vs) hp).bind fun zs => .ret (ys ++ zs)
      let Pv1 : Nat → Hp → Prop := fun j H' => ∃ acc, LcI X.K F ρ m0 m1 H1 B H' acc ∧ (∀ a o, a ∉ B :: m0 → H4 a = some o → H' a = some o) ∧ acc.length ≤ i * 10000 + j ∧ (lcF set1 t1 e (ds1.drop j) (wipeF fr1 vs1) hp).all fun ys => (lc2F set t it1 set1 t1 e vs1 (ds.drop (i + 1)) (wipeF fr vs) hp).all fun zs => P (acc ++ (ys ++ zs))
      refine ⟨fun j k H => k = ds1.length - j ∧ j ≤ ds1.length ∧ Pv1 j H, ⟨_, rfl, Nat.zero_le _, acc, I4, fun _ _ _ e => e, hl, T.all_mono (fun ys q => T.all_bind q) (T.all_bind hb)⟩, ?_⟩
      rintro j k H5 ⟨rfl, hj, acc5, I5, kp5, hl5, q5⟩
      have dom5 : ∀ a ∈ B :: m0, H5 a ≠ none := fun a z => (I5.at a1 hB).sim.dom a (List.mem_append_left _ z)
      have a5 : At X.K F ρ (B :: m0) m1 H5 σ1 fr1 hp := a4.mod kp5 dom5 I5.row
      have lt5 : Later ((B :: m0) ++ m1) H4 ((B :: m0) ++ m1) H5 := ⟨fun a q => .inl q, fun a o n e => kp5 a o (fun z => n (List.mem_append_left _ z)) e⟩
      have gg1 := hG1 _ _ lt5
      by_cases hlt1 : j < ds1.length
      · refine .inr ⟨W1.goes j H5 hlt1 gg1, Pv1 (j + 1), fun H6 p => ⟨ds1.length - (j + 1), by omega, rfl, hlt1, p⟩, fun x1 H6 y1 => ?_⟩
        have y1 := W1.yields j H5 x1 H6 hlt1 gg1 y1
        obtain ⟨d1, e3, e4⟩ := drop_get hlt1
        have aw5 := a5.wipe vs1
        obtain ⟨sm1, rx1⟩ := hY1 j d1 x1 _ H5 H6 e3 lt5 a5.sim.dom y1
        rw [e4] at q5
        have aw6 := aw5.same sm1
        have I6 := I5.on a1.own ne (.of sm1) aw6.row
        have own6 : ∀ a, a ∉ B :: m0 → ρ ≠ some a := fun a n z => n (aw6.own a z)
        refine hs1 ρ (B :: m0) m1 H6 _ _ x1 d1 _ aw6.fr rx1 (T.all_mono (fun fr2 q6 σ2 f2 ew1 => ⟨ew1.trans wipe_wipe, ?_⟩) (T.all_bind q5))
        have at6 : At X.K F ρ (B :: m0) m1 H6 σ2 fr2 hp := ⟨f2, aw6.sim, aw6.row, aw6.own⟩
        refine tB_mk at6 (T.all_bind q6) fun b hb7 H7 k7 a7 => ?_
        have I7 := I6.on a1.own ne k7 a7.row
        have kp7 : ∀ a o, a ∉ B :: m0 → H4 a = some o → H7 a = some o := fun a o n e => k7 a o (own6 a n) (sm1 a o (kp5 a o n e))
        cases b with
        | false => exact ⟨acc5, I7, kp7, Nat.le_succ_of_le hl5, hb7⟩
        | true =>
          refine tX_mk a7 (T.all_bind hb7) fun yd hy H8 v k8 a8 rv => ?_
          have I8 := I7.on a1.own ne k8 a8.row
          obtain ⟨ws, ew, rw'⟩ := I8.lst
          refine ⟨ws, ew, ?_, acc5 ++ [yd], I8.push a1 hB rv ew, fun a o n e => ?_, by simp; omega, ?_⟩
          · have := rw'.length
            have : i * 10000 ≤ 1000 * 10000 := Nat.mul_le_mul_right _ (by omega)
            rw [hsl]
            omega
          · have hab : a ≠ B := fun z => n (by rw [z]; exact List.mem_cons_self)
            rw [upd_ne hab]
            exact k8 a o (own6 a n) (kp7 a o n e)
          · refine T.all_mono (fun ys q => ?_) (T.all_bind hy)
            have q : (lc2F set t it1 set1 t1 e vs1 (ds.drop (i + 1)) (wipeF fr vs) hp).all fun zs => P (acc5 ++ ((yd :: ys) ++ zs)) := q
            refine T.all_mono (fun zs q => ?_) q
            have e5 : acc5 ++ [yd] ++ (ys ++ zs) = acc5 ++ ((yd :: ys) ++ zs) := by simp
            rw [e5]
            exact q
      · have ej : j = ds1.length := by omega
        subst ej
        rw [List.drop_length] at q5
        refine .inl ⟨W1.stops H5 gg1, acc5, I5, by omega, ?_⟩
        have q5 : (lc2F set t it1 set1 t1 e vs1 (ds.drop (i + 1)) (wipeF fr vs) hp).all fun zs => P (acc5 ++ ([] ++ zs)) := q5
        exact T.all_mono (fun zs q => by rw [List.nil_append] at q; exact q) q5
  · have ei : i = ds.length := by omega
    subst ei
    rw [List.drop_length] at q
    obtain ⟨ws, ew, rw'⟩ := I.lst
    have q : P (acc ++ []) := q
    refine .inl ⟨W.stops H' gg, q H' B ws (kp.trans I.keep) I.row (a.free kp a1.row hB) ew ?_⟩
    rw [List.append_nil]
    refine rw'.sub fun c z => ?_
    rcases List.mem_append.mp z with z | z
    · exact List.mem_append_left _ (List.mem_cons_of_mem _ z)
    · rcases List.mem_append.mp z with z | z
      · exact List.mem_append_right _ z
      · have : c = B := by simpa using z
        rw [this]
        simp
end
end Zl
set_option Elab.async false
set_option linter.all false
set_option maxRecDepth 100000
set_option maxHeartbeats 2000000
/-! ZH: name = [..], the draws' row handed on, drawing. -/
namespace Zl
open PySem L2 PySem.Spec PyProof.Rows
def lst (f : Fr → Hz → T (List D)) : Ex := fun fr hp => (f fr hp).bind fun xs => .ret (.lst xs)
section
variable {X : Cx} {F : Ev}
theorem nl_core {f : Fr → Hz → T (List D)} {σ : L2.St} {H : Hp} {Q : VK} (h : tX X.K F (lst f) σ H Q) : tN X.K F f σ H Q := by
  obtain ⟨ρ, m0, m1, fr, hp, a, h⟩ := h
  refine tN_mk a (T.all_bind h) fun ds hd H' b vs kp a' hb hl r => ?_
  exact hd H' (.ref b) kp a'.row (.lst (a.sim.new hb) hl (r.sub fun _ => sub_more))
theorem setN_core {f : Fr → Hz → T (List D)} {i : Nat} {E : Ends} {te : TE} {σ : L2.St} {H : Hp} (hi : ∀ σ H Q, tN X.K F f σ H Q → te σ H Q) (h : tS X.K F (sSet i (lst f)) E σ H) : tAsg te (gName i) E σ H := by
  have q := set_core h
  exact hi _ _ _ (nl_core q)
theorem zsetLc {i : Nat} {y : Str} {py : Pos} {L : Bool} {elt tg iter : Expr} {ifs : List Expr} {scope : Scope} {own : List (Str × Nat)} {vs : List Nat} {pos spos : Pos} {it : Fr → Hz → T (List D)} {set : D → Fr → T Fr} {g : TG} {t : Fr → Hz → T Bool} {e : Ex} (hc : X.calm = true) (hN : X.N.Nodup) (hy : X.N[i]? = some y) (hyl : X.env.scope.names.lookup y = some .local)
    (hi : PI X tg iter (tI X.K F L it)) (ok : BlkOk X.N X.env.scope scope own)
    (hs : TgC X.K F L vs set g)
    (hg : ∀ (s : Shared) (H : Hp) (C : Addr) (cl : List (Str × Addr)) (fp : List Addr), PG (X.blk s H scope (PySem.compEnvC scope cl C X.env) fp) tg g) (ht : ∀ (s : Shared) (H : Hp) (C : Addr) (cl : List (Str × Addr)) (fp : List Addr), PTs (X.blk s H scope (PySem.compEnvC scope cl C X.env) fp) ifs (tB' X.K F t))
    (he : ∀ (s : Shared) (H : Hp) (C : Addr) (cl : List (Str × Addr)) (fp : List Addr), PE (X.blk s H scope (PySem.compEnvC scope cl C X.env) fp) elt (tX X.K F e))
    (hsw : swapsWith (.ListComp elt [⟨tg, iter, ifs, 0⟩] scope pos) (some (.Name y py)) spos.line X.env = pure true) (hvs : own.map (·.2) = vs := by rfl) (hf : ∀ x, foldedSetIterable iter X.env x = pure x := by intro _; rfl) :
    PS X (.Assign [.Name y py] (.ListComp elt [⟨tg, iter, ifs, 0⟩] scope pos) spos) (tS X.K F (sSet i (lst (nLc it set t e vs)))) := by
  subst hvs
  exact PSimp (ps_setLc hc hN hy hyl hsw hi ok hg ht he hf) fun D σ H h => setN_core (fun σ H Q h => lc_core' hs h) h
theorem zsetLc2 {i : Nat} {y : Str} {py : Pos} {L L1 : Bool} {elt tg iter tg1 iter1 : Expr} {ifs ifs1 : List Expr} {scope : Scope} {own : List (Str × Nat)} {vs vs1 : List Nat} {pos spos : Pos} {it it1 : Fr → Hz → T (List D)} {set set1 : D → Fr → T Fr} {g g1 : TG} {t t1 : Fr → Hz → T Bool} {e : Ex} (hc : X.calm = true) (hN : X.N.Nodup) (hy : X.N[i]? = some y) (hyl : X.env.scope.names.lookup y = some .local)
    (hi : PI X tg iter (tI X.K F L it)) (ok : BlkOk X.N X.env.scope scope own) (hv : ∀ i ∈ vs1, i ∈ vs)
    (hs : TgC X.K F L vs set g) (hs1 : TgC X.K F L1 vs1 set1 g1)
    (hg : ∀ (s : Shared) (H : Hp) (C : Addr) (cl : List (Str × Addr)) (fp : List Addr), PG (X.blk s H scope (PySem.compEnvC scope cl C X.env) fp) tg g) (ht : ∀ (s : Shared) (H : Hp) (C : Addr) (cl : List (Str × Addr)) (fp : List Addr), PTs (X.blk s H scope (PySem.compEnvC scope cl C X.env) fp) ifs (tB' X.K F t))
    (hi1 : ∀ (s : Shared) (H : Hp) (C : Addr) (cl : List (Str × Addr)) (fp : List Addr), PI (X.blk s H scope (PySem.compEnvC scope cl C X.env) fp) tg1 iter1 (tI X.K F L1 it1))
    (hg1 : ∀ (s : Shared) (H : Hp) (C : Addr) (cl : List (Str × Addr)) (fp : List Addr), PG (X.blk s H scope (PySem.compEnvC scope cl C X.env) fp) tg1 g1) (ht1 : ∀ (s : Shared) (H : Hp) (C : Addr) (cl : List (Str × Addr)) (fp : List Addr), PTs (X.blk s H scope (PySem.compEnvC scope cl C X.env) fp) ifs1 (tB' X.K F t1))
    (he : ∀ (s : Shared) (H : Hp) (C : Addr) (cl : List (Str × Addr)) (fp : List Addr), PE (X.blk s H scope (PySem.compEnvC scope cl C X.env) fp) elt (tX X.K F e))
    (hsw : swapsWith (.ListComp elt [⟨tg, iter, ifs, 0⟩, ⟨tg1, iter1, ifs1, 0⟩] scope pos) (some (.Name y py)) spos.line X.env = pure true) (hvs : own.map (·.2) = vs := by rfl) (hf : ∀ x, foldedSetIterable iter X.env x = pure x := by intro _; rfl) (hf1 : ∀ env x, foldedSetIterable iter1 env x = pure x := by intro _ _; rfl) :
    PS X (.Assign [.Name y py] (.ListComp elt [⟨tg, iter, ifs, 0⟩, ⟨tg1, iter1, ifs1, 0⟩] scope pos) spos) (tS X.K F (sSet i (lst (nLc2 it set t it1 set1 t1 e vs vs1)))) := by
  subst hvs
  exact PSimp (ps_setLc2 hc hN hy hyl hsw hi ok hv hg ht hi1 hg1 ht1 he hf hf1) fun D σ H h => setN_core (fun σ H Q h => lc2_core' hs hs1 h) h
/-! ### the draws' row handed on -/
def spR (K : PySem.W.Frag) (F : Ev) (f : List D → T D) (n : Nat) : Sp := fun vs H Q _ => ∃ a ws m ds, vs = .ref a :: ws ∧ ws.length = n ∧ a ∈ m ∧ (∀ b ∈ m, H b ≠ none) ∧ RowOk K H a ∧ Reps K F m H ws ds ∧ (f ds).all fun d => ∀ H' v, Keep (some a) H H' → RowOk K H' a → Rep K F m H' v d → Q v H'
def isRow (fr : Fr) (i : Nat) : Bool := match gt fr i with
  | some .row => true
  | _ => false
theorem isRow_eq {fr : Fr} {i : Nat} (h : isRow fr i = true) : gt fr i = some .row := by
  unfold isRow at h
  split at h
  · assumption
  · cases h
def eCallR (i : Nat) (f : List D → T D) (n : Nat) (g : Fr → Hz → T (List D)) : Ex := fun fr hp => guardT (isRow fr i) ((g fr hp).bind fun ds => guardT (Nat.beq ds.length n) (f ds))
theorem zcallR {es : List Expr} {x y : Str} {p p2 pos : Pos} {f : List D → T D} {n k i : Nat} {fa : Addr} {fd : FuncData} {ps : List Str} {g : Fr → Hz → T (List D)} (G : FnOk X.prog X.w X.K X.mg X.base CX0 k fa fd ps (spR X.K F f n)) (hr : Room k X.A) (hg : Gl X x) (hm : X.mg x = some (.ref fa))
    (hk : PySem.W.keepIn X.K (.ref fa) = true) (hb : Binds X.K fd ps []) (hN : X.N[i]? = some y) (hv : Vis X.env.scope y) (ha : PA X es (tAs X.K F g)) (hdb : (x == ("__debug__" : Str)) = false := by decide)
    (hdy : (y == ("__debug__" : Str)) = false := by decide) (hcd : (y == ("__classdict__" : Str)) = false := by decide) (he : starEach (.Name y p2 :: es) X.env = (false, eval (.Name y p2) X.env) :: starEach es X.env := by rfl) (hpl : (backTo pos (starEach es X.env)).any (·.1) = false := by rfl) :
    PE X (.Call (.Name x p) (.Name y p2 :: es) [] pos) (tX X.K F (eCallR i f n g)) :=
  PEimp (pe_call (E := E0) G hr hg hm hk hb .nil pass0 (pa_cons (pe_var hN hv hdy hcd) ha he) hdb he hpl) fun σ H Q h => by
    obtain ⟨ρ, m0, m1, fr, hp, a, h⟩ := h
    obtain ⟨h1, h⟩ := all_guard h
    obtain ⟨v, e1, b, e2, rfl⟩ := a.get (isRow_eq h1)
    refine ⟨_, e1, ?_⟩
    refine tAs_mk a (T.all_bind h) fun ds hd H1 vs k1 a1 r => ?_
    obtain ⟨hn, k⟩ := all_guard hd
    rw [List.append_nil]
    refine ⟨b, vs, m0 ++ m1, ds, rfl, by rw [r.length]; exact Nat.eq_of_beq_eq_true hn, List.mem_append_left _ (a.own b e2), a1.sim.dom, a1.row b e2, r, T.all_mono (fun d hd H' v kp w rv => ?_) k⟩
    have kr : Keep ρ H1 H' := fun c o n e => kp c o (fun z => n (by rw [e2]; exact z)) e
    exact hd H' v (k1.trans kr) (fun c z => by rw [e2] at z; cases z; exact w) rv
/-- a def's body, run from the row and its arguments -/
def runR (g : Sm) (n : Nat) : List D → T D := fun ds => (g (some .row :: argFr (n - 1) ds) []).bind retOf
theorem run_coreR {K : PySem.W.Frag} {g : Sm} {N : List Str} {vs : List V} {H : Hp} {Q : VK} {E : XK} {n : Nat} (hN : 0 < N.length) (h : spR K F (runR g N.length) n vs H Q E) : tS K F g { nx := fun _ H' => Q .non H', rt := Q } (L2.start N vs) H := by
  obtain ⟨a, ws, m, ds, rfl, hn, ha, dom, row, r, h⟩ := h
  have fr0 := startFr (N := N.tail) r
  obtain ⟨n0, N', rfl⟩ : ∃ n0 N', N = n0 :: N' := by
    cases N with
    | nil => cases hN
    | cons x y => exact ⟨x, y, rfl⟩
  have es : L2.start (n0 :: N') (.ref a :: ws) = some (.ref a) :: L2.start N' ws := by simp [L2.start]
  have hA : At K F (some a) m [] H (L2.start (n0 :: N') (.ref a :: ws)) (some .row :: argFr N'.length ds) [] := by
    refine ⟨⟨?_, fun i s e => ?_⟩, ⟨rfl, .nil, fun a _ q => by simp at q, fun a q => dom a (by simpa using q), fun n c e => by simp at e⟩, fun b e => by cases e; exact row, fun b e => by cases e; exact ha⟩
    · rw [es]
      have := fr0.len
      simpa using this
    · rw [es]
      cases i with
      | zero =>
        have e : SV.row = s := by simpa using e
        subst e
        exact ⟨.ref a, rfl, a, rfl, rfl⟩
      | succ i =>
        have e : (argFr N'.length ds)[i]? = some (some s) := by simpa using e
        obtain ⟨v, e1, r1⟩ := fr0.slot i s e
        refine ⟨v, by simpa using e1, ?_⟩
        cases s with
        | v d => exact r1
        | r n => exact r1
        | row =>
          obtain ⟨b, e3, _⟩ := r1
          cases e3
  refine ⟨some a, m, [], some .row :: argFr N'.length ds, [], hA, ?_⟩
  have h : ((g (some .row :: argFr N'.length ds) []).bind retOf).all _ := h
  refine T.all_mono (fun o q => ?_) (T.all_bind h)
  cases o with
  | nx fr hp => exact fun m1' H' σ' gr at' => q H' .non (fun b o n e => gr.keep b o n (by simp) e) (at'.row a rfl) .non
  | rt d => exact fun H' v k w r => q H' v (fun b o n e => k b o n (by simp) e) (w a rfl) r
  | bk fr hp => exact q.elim
  | ct fr hp => exact q.elim
theorem zdefR {P : Program} {w : World} {K : PySem.W.Frag} {mg : Str → Option Value} {base : Heap} {x qual : Str} {st : Stmt} {f : Addr} {fd : FuncData} {N ps : List Str} {k : Nat} {g : Sm} (Fn : L2.Fun K x qual st f fd) (S : FnScope N ps (defScope st)) (hN : 0 < N.length) (hp : 0 < ps.length)
    (hb : ∀ (cdv : Value) (A : Around) (outer : List Env) (s : Shared) (H : Hp) (E : XK), Room k (A.deeper (PyProof.Rows.envOfC qual (defScope st) s.heap.objs.size f cdv)) → PSs (cxOf CX0 P w K mg base N qual (defScope st) f cdv A outer s H E).nox (defBody st) (tS K F g)) :
    FnOk P w K mg base CX0 (k + 1) f fd ps (spR K F (runR g N.length) (ps.length - 1)) :=
  Fn.ok S (fun vs H Q E h => by
    obtain ⟨a, ws, m, ds, rfl, hn, _⟩ := h
    rw [List.length_cons, hn]
    omega) fun cdv A outer s H vs Q E hr h => ⟨_, hb cdv A outer s H E hr, run_coreR hN h⟩
end
end Zl
set_option Elab.async false
set_option linter.all false
set_option maxRecDepth 100000
set_option maxHeartbeats 2000000
/-! ZI: walks of what is a list or a tuple; + of lists as values; drawing; a law's frame. -/
namespace Zl
open PySem L2 PySem.Spec PyProof.Rows
section
variable {X : Cx} {F : Ev}
def iSeq (K : PySem.W.Frag) (te : TE) : TI := fun σ H R => te σ H fun x H1 => ∃ a, x = .ref a ∧ ((∃ xs, SqT K H1 a xs ∧ R (Itt K a) H1) ∨ (∃ xs, SqL K H1 a xs ∧ R (Itl K a) H1))
theorem pi_seq {tg e : Expr} {te : TE} (he : PE X e te) : PI X tg e (iSeq X.K te) := by
  constructor
  intro pins s σ H R I h
  refine thn (he.run pins s σ H _ I h) fun v s1 hh => ?_
  obtain ⟨x, H1, I1, r1, a, rfl, q⟩ := hh
  cases r1
  have fp : ∀ b ∈ [s1.heap.objs.size], FpOk X pins H1 b := fun b hb => by
    cases List.mem_singleton.mp hb
    exact I1.fpOk (Nat.le_refl _) (I1.hok.fresh (Nat.le_refl _))
  rcases q with ⟨xs, hq, q⟩ | ⟨xs, hq, q⟩
  · obtain ⟨its, rv, p, hz⟩ := I1.tuple hq
    exact wpAny_pyIter_tuple (show s1.heap.IsTuple a its.toArray from p) ⟨_, [_], _, _, H1, rfl, I1.kept (t' := s1.toks) fun b o e => Heap.get?_push_of_some _ e, turn_tuple a _, ⟨_, Heap.get?_push_size _ rfl, rfl, rfl⟩, fp, q⟩
  · obtain ⟨its, rv, p, hz⟩ := I1.list hq
    exact wpAny_pyIter_list p.isList ⟨_, [_], _, _, H1, rfl, I1.kept (t' := s1.toks) fun b o e => Heap.get?_push_of_some _ e, turn_list a _, ⟨_, Heap.get?_push_size _ rfl, rfl, rfl⟩, fp, q⟩
def lSeq (f : Ex) : Fr → Hz → T (List D) := fun fr hp => (f fr hp).bind asL
/-- over a tuple or a list -/
theorem zis {tg e : Expr} {f : Ex} (h : PE X e (tX X.K F f)) : PI X tg e (tI X.K F false (lSeq f)) := PIimp (pi_seq h) fun σ H R h => by
  obtain ⟨ρ, m0, m1, fr, hp, a, h⟩ := h
  refine tX_mk a (T.all_bind h) fun d hd H' v kp a' r => ?_
  obtain ⟨xs, e, k⟩ := all_asL hd
  cases d <;> first | (cases e; done) | skip
  · obtain rfl := Option.some.inj e
    cases r with
    | tup hn e rr =>
      obtain ⟨o, e, ed⟩ := e
      exact ⟨_, rfl, .inl ⟨_, .inl (.inr ⟨o, e⟩), k _ H' kp a'.row (walkT (fun m' H2 l => .inl (.inr ⟨o, l.keep _ _ hn e⟩)) rr)⟩⟩
    | tupK e rr => exact ⟨_, rfl, .inl ⟨_, e.sq, k _ H' kp a'.row (walkT (fun m' H2 l => e.sq) rr)⟩⟩
  · obtain rfl := Option.some.inj e
    obtain ⟨b, vs, rfl, hn, e, rr⟩ := r.lstR
    exact ⟨_, rfl, .inr ⟨_, .inl (.inl e), k _ H' kp a'.row (walkL (fun m' H2 l => .inl (.inl (l.keep _ _ hn e))) rr)⟩⟩
/-- ints, tuples, lists -/
def dPlus (x y : D) : T D := match x, y with
  | .int i, .int j => .ret (.int (i + j))
  | .tup xs, .tup ys => guardT (few xs 10000 && few ys 10000) (.ret (.tup (xs ++ ys)))
  | .lst xs, .lst ys => guardT (few xs 10000 && few ys 10000) (.ret (.lst (xs ++ ys)))
  | _, _ => .fail
theorem oplus : OpZ X F (binaryOp .Add) dPlus := by
  obtain ⟨r, h1, h2⟩ := oadd (X := X) (F := F)
  refine ⟨_, OpR.or h1 op_cat, fun σ fr ρ m0 m1 H hp v u x y Q a rx ry h => ?_⟩
  by_cases hl : ∃ xs ys, x = .lst xs ∧ y = .lst ys
  · obtain ⟨xs, ys, rfl, rfl⟩ := hl
    obtain ⟨ok, k⟩ := all_guard (show (guardT (few xs 10000 && few ys 10000) (T.ret (D.lst (xs ++ ys)))).all _ from h)
    rw [Bool.and_eq_true] at ok
    obtain ⟨b, vs, rfl, _, e1, r1⟩ := rx.lstR
    obtain ⟨c, ws, rfl, _, e2, r2⟩ := ry.lstR
    refine .inr ⟨b, c, vs, ws, rfl, rfl, e1, e2, by rw [r1.length, r2.length]; exact small2 ok.1 ok.2, fun p hp => ?_⟩
    obtain ⟨k3, a3⟩ := a.upd (o := .lst (vs ++ ws)) hp
    exact k _ _ k3 a3.row (.lst (a.sim.new hp) upd_same (Reps.append (r1.on a.own k3) (r2.on a.own k3)))
  · refine .inl (h2 σ fr ρ m0 m1 H hp v u x y Q a rx ry ?_)
    unfold dPlus at h
    split at h
    · exact h
    · exact h
    · exact (hl ⟨_, _, rfl, rfl⟩).elim
    · exact h.elim
end
/-! ### drawing -/
def taken : List D → T D
  | [.int n] => guardT (decide (1 ≤ n) && decide (n ≤ 1000000)) (.draw n.toNat fun i => .ret (.int i))
  | _ => .fail
end Zl
set_option Elab.async false
set_option linter.all false
set_option maxRecDepth 100000
set_option maxHeartbeats 2000000
/-! ZJ: what the generated texts lean on. -/
namespace Zl
open PySem L2 PySem.Spec PyProof.Rows
structure Gd (K : PySem.W.Frag) (mg : Str → Option Value) (x : Str) (st : Stmt) (ps : List Str) (a : Addr) (fd : FuncData) : Prop where
  fn : L2.Fun K x x st a fd
  mg : mg x = some (.ref a)
  kp : PySem.W.keepIn K (.ref a) = true
  b : Binds K fd ps []
/-- some defs by number -/
abbrev F1 (w : World) (fs : List Addr) : Ev := ⟨fun k => fs[k]?, w⟩
def lR1 (g : Fr → Hz → T (List D)) : Fr → Hz → T (List D) := fun fr hp => (g fr hp).bind rng1
theorem boot_int : bootBuiltins "int" = some (.type "int") := by decide +kernel
theorem boot_str : bootBuiltins "str" = some (.type "str") := by decide +kernel
theorem boot_bool : bootBuiltins "bool" = some (.type "bool") := by decide +kernel
theorem boot_tuple : bootBuiltins "tuple" = some (.type "tuple") := by decide +kernel
theorem boot_list : bootBuiltins "list" = some (.type "list") := by decide +kernel
section
variable {P : Program} {w : World} {K : PySem.W.Frag} {mg : Str → Option Value} {base : Heap} {F : Ev}
/-- a promise that is never asked -/
theorem fnNo {x qual : Str} {st : Stmt} {f : Addr} {fd : FuncData} {N ps : List Str} {k n : Nat} (Fn : L2.Fun K x qual st f fd) (S : FnScope N ps (defScope st)) : FnOk P w K mg base CX0 (k + 1) f fd ps (spP K F (fun _ => .fail) n) :=
  Fn.ok S (fun vs H Q E h => by obtain ⟨_, m, ds, _, _, h⟩ := h; exact h.elim) fun cdv A outer s H vs Q E hr h => by
    obtain ⟨_, m, ds, _, _, h⟩ := h
    exact h.elim
/-! ### the law -/
def spLaw (K : PySem.W.Frag) : Sp := fun vs H Q _ => ∃ (a : Addr) (ns : List Int), vs = [.ref a] ∧ SqL K H a (ns.map V.int) ∧ ns.length ≤ 63 ∧ ∀ H', Q (.bl true) H'
def lawT (g : Sm) (n : Nat) : T D := (g (none :: some .row :: List.replicate (n - 2) none) []).bind retOf
def tRow (z : Int) (t : TS) : TS := tSeq (tAsg (tLst (tCons (tVar 0) (tCons (tC (.int 0)) (tCons (tC (.int z)) (tCons (tC (.int 0)) tNil))))) (gName 1)) t
theorem row_core {g : Sm} {N : List Str} {a : Addr} {ns : List Int} {H : Hp} {z : Int} {Q : VK} (hN : 2 ≤ N.length) (hs : ScrOk K H a (ns.map V.int)) (hl : ns.length ≤ 63) (hall : (lawT g N.length).all fun d => d = .bl true) (q : ∀ H', Q (.bl true) H') :
    tRow z (tS K F g) { nx := fun _ H' => Q .non H', rt := Q } (L2.start N [.ref a]) H := by
  obtain ⟨n0, n1, N', rfl⟩ : ∃ n0 n1 N', N = n0 :: n1 :: N' := by
    match N, hN with
    | n0 :: n1 :: N', _ => exact ⟨n0, n1, N', rfl⟩
  have es : L2.start (n0 :: n1 :: N') [V.ref a] = some (.ref a) :: none :: List.replicate N'.length none := by simp [L2.start, List.replicate_succ]
  rw [es]
  refine ⟨_, rfl, (show 4 ≤ sizeLine from by decide), fun p hp => ?_⟩
  have e2 : (some (V.ref a) :: none :: List.replicate N'.length none).set 1 (some (.ref p)) = some (V.ref a) :: some (.ref p) :: List.replicate N'.length none := rfl
  show tS K F g _ ((some (V.ref a) :: none :: List.replicate N'.length none).set 1 (some (.ref p))) _
  rw [e2]
  have hk : ∀ o, H a = some (.frz o (.lst (ns.map V.int))) → (upd H p (.lst [.ref a, .int 0, .int z, .int 0])) a = some (.frz o (.lst (ns.map V.int))) := fun o e => by
    rw [upd_ne (ne_of_none e hp)]; exact e
  have row : RowOk K (upd H p (.lst [.ref a, .int 0, .int z, .int 0])) p := ⟨a, ns, 0, z, 0, upd_same, hs.keep hk, hl, by decide⟩
  refine ⟨some p, [p], [], none :: some .row :: List.replicate N'.length none, [], ⟨⟨by simp, fun i s e => ?_⟩, ⟨rfl, .nil, fun a _ q => by simp at q, fun b hb z => ?_, fun n c e => by simp at e⟩, fun b e => by cases e; exact row, fun b e => by cases e; simp⟩, ?_⟩
  · match i with
    | 0 => simp at e
    | 1 =>
      have e : SV.row = s := by simpa using e
      subst e
      exact ⟨.ref p, rfl, p, rfl, rfl⟩
    | i + 2 =>
      have e : (List.replicate N'.length (none : Option SV))[i]? = some (some s) := by simpa using e
      rw [List.getElem?_replicate] at e
      split at e <;> cases e
  · have e : b = p := by simpa using hb
    rw [e, upd_same] at z
    cases z
  · have hall : ((g (none :: some .row :: List.replicate N'.length none) []).bind retOf).all fun d => d = .bl true := hall
    refine T.all_mono (fun o qo => ?_) (T.all_bind hall)
    cases o with
    | nx fr hp =>
      have qo : D.non = D.bl true := qo
      cases qo
    | rt d =>
      have qo : d = D.bl true := qo
      subst qo
      intro H' v k w' r
      cases r
      exact q H'
    | bk fr hp => exact qo.elim
    | ct fr hp => exact qo.elim
/-- the body is run while the script is locked; it is not unlocked -/
theorem pss_lock {X : Cx} {st : List Stmt} {t : TS} (h : PSs X st t) : PSs X st fun D σ H => t D σ H ∨ ∃ d u, H d = some u ∧ Mut (some u) ∧ ∀ od, t D σ (upd H d (.frz od u)) := by
  constructor
  intro pins s σ H D I hw
  rcases hw with hw | ⟨d, u, hd, mu, hw⟩
  · exact h.run pins s σ H D I hw
  · obtain ⟨od, I1⟩ := I.lock hd mu
    exact h.run pins s σ _ D I1 (hw od)
/-- THE RULE for a law whose first statement makes the draws' row -/
theorem law_ok {qual : Str} {st : Stmt} {f : Addr} {fd : FuncData} {N : List Str} {k : Nat} {g : Sm} {z : Int} (Fn : L2.Fun K "law" qual st f fd) (S : FnScope N ["script"] (defScope st)) (hN : 2 ≤ N.length) (hall : (lawT g N.length).all fun d => d = .bl true)
    (hb : ∀ (cdv : Value) (A : Around) (outer : List Env) (s : Shared) (H : Hp) (E : XK), Room k (A.deeper (PyProof.Rows.envOfC qual (defScope st) s.heap.objs.size f cdv)) → PSs (cxOf CX0 P w K mg base N qual (defScope st) f cdv A outer s H E).nox (defBody st) (tRow z (tS K F g))) :
    FnOk P w K mg base CX0 (k + 1) f fd ["script"] (spLaw K) :=
  Fn.ok S (fun vs H Q E h => by
    obtain ⟨a, ns, rfl, _⟩ := h
    rfl) fun cdv A outer s H vs Q E hr h => by
    obtain ⟨a, ns, rfl, hs, hl, q⟩ := h
    refine ⟨_, pss_lock (hb cdv A outer s H E hr), ?_⟩
    rcases hs with (hs | hs) | hs
    · exact .inr ⟨a, _, hs, trivial, fun od => row_core hN (.inl ⟨od, upd_same⟩) hl hall q⟩
    · exact .inl (row_core hN (.inl hs) hl hall q)
    · exact .inl (row_core hN (.inr hs) hl hall q)
/-- a tuple of ints in the module -/
theorem rep_ints {a : Addr} {ns : List Int} (h : StT K a (ns.map V.int)) (m : List Addr) (H : Hp) : Rep K F m H (.ref a) (.tup (ns.map D.int)) := .tupK h (reps_ints ns)
end
end Zl
set_option Elab.async false
set_option linter.all false
/-! ZK: a law's tree, checked. -/
namespace Zl
end Zl
set_option Elab.async false
set_option linter.all false
set_option maxRecDepth 100000
set_option maxHeartbeats 2000000
/-! ZL: the same readings, each value brought to its own form before it is handed on (so that the kernel runs them fast). -/
namespace Zl
open PySem L2 PySem.Spec PyProof.Rows
section
variable {β : Type}
def forceI : Int → (Int → β) → β
  | .ofNat 0, k => k (.ofNat 0)
  | .ofNat 1, k => k (.ofNat 1)
  | .ofNat 2, k => k (.ofNat 2)
  | .ofNat 3, k => k (.ofNat 3)
  | .ofNat (n + 4), k => k (.ofNat (n + 4))
  | .negSucc 0, k => k (.negSucc 0)
  | .negSucc (n + 1), k => k (.negSucc (n + 1))
theorem forceI_eq (i : Int) (k : Int → β) : forceI i k = k i := by
  unfold forceI
  split <;> rfl
def forceB : Bool → (Bool → β) → β
  | true, k => k true
  | false, k => k false
theorem forceB_eq (b : Bool) (k : Bool → β) : forceB b k = k b := by cases b <;> rfl
mutual
def force : D → (D → β) → β
  | .int i, k => forceI i fun i => k (.int i)
  | .bl b, k => forceB b fun b => k (.bl b)
  | .tup xs, k => forceL xs fun xs => k (.tup xs)
  | .lst xs, k => forceL xs fun xs => k (.lst xs)
  | .non, k => k .non
  | .str s, k => k (.str s)
  | .ty n, k => k (.ty n)
  | .fn n, k => k (.fn n)
  | .dct ks vs, k => forceL ks fun ks => forceL vs fun vs => k (.dct ks vs)
def forceL : List D → (List D → β) → β
  | [], k => k []
  | x :: xs, k => force x fun x => forceL xs fun xs => k (x :: xs)
end
mutual
theorem force_eq : ∀ (d : D) (k : D → β), force d k = k d
  | .int i, k => by unfold force; exact forceI_eq i _
  | .bl b, k => by unfold force; exact forceB_eq b _
  | .tup xs, k => by unfold force; exact forceL_eq xs _
  | .lst xs, k => by unfold force; exact forceL_eq xs _
  | .non, k => by unfold force; rfl
  | .str s, k => by unfold force; rfl
  | .ty n, k => by unfold force; rfl
  | .fn n, k => by unfold force; rfl
  | .dct ks vs, k => by
    unfold force
    rw [forceL_eq ks]
    exact forceL_eq vs _
theorem forceL_eq : ∀ (ds : List D) (k : List D → β), forceL ds k = k ds
  | [], k => by unfold forceL; rfl
  | x :: xs, k => by
    unfold forceL
    rw [force_eq x]
    exact forceL_eq xs _
end
def forceO : Option SV → (Option SV → β) → β
  | none, k => k none
  | some (.v d), k => k (some (.v d))
  | some (.r n), k => k (some (.r n))
  | some .row, k => k (some .row)
theorem forceO_eq (o : Option SV) (k : Option SV → β) : forceO o k = k o := by
  unfold forceO
  split <;> rfl
def forceF : Fr → (Fr → β) → β
  | [], k => k []
  | x :: xs, k => forceO x fun x => forceF xs fun xs => k (x :: xs)
theorem forceF_eq : ∀ (fr : Fr) (k : Fr → β), forceF fr k = k fr
  | [], k => rfl
  | x :: xs, k => by
    unfold forceF
    rw [forceO_eq]
    exact forceF_eq xs _
end
def sRetF (f : Ex) : Sm := fun fr hp => (f fr hp).bind fun d => force d fun d => .ret (.rt d)
theorem sRetF_eq (f : Ex) : sRetF f = sRet f := by
  funext fr hp
  unfold sRetF sRet
  congr 1
  funext d
  rw [force_eq]
def gIF (i : Nat) : D → Fr → T Fr := fun d fr => force d fun d => forceF (setN fr i (some (.v d))) .ret
theorem gIF_eq (i : Nat) : gIF i = gI i := by
  funext d fr
  unfold gIF gI
  rw [force_eq, forceF_eq]
abbrev i0 : D := .int (.ofNat 0)
abbrev i1 : D := .int (.ofNat 1)
abbrev i2 : D := .int (.ofNat 2)
def T.width {α : Type} : T α → Nat
  | .draw n _ => n
  | _ => 0
def T.sub {α : Type} : T α → Nat → T α
  | .draw _ k, i => k i
  | _, _ => .fail
section
variable {X : Cx} {F : Ev}
theorem PSf {st : Stmt} {f g : Sm} (e : g = f) (h : PS X st (tS X.K F f)) : PS X st (tS X.K F g) := by rw [e]; exact h
theorem PEf {st : Expr} {f g : Ex} (e : g = f) (h : PE X st (tX X.K F f)) : PE X st (tX X.K F g) := by rw [e]; exact h
theorem TgRf {K : PySem.W.Frag} {L : Bool} {s s' : D → Fr → T Fr} {g : TG} (e : s' = s) (h : TgR K F L s g) : TgR K F L s' g := by rw [e]; exact h
theorem TgCf {K : PySem.W.Frag} {L : Bool} {vs : List Nat} {s s' : D → Fr → T Fr} {g : TG} (e : s' = s) (h : TgC K F L vs s g) : TgC K F L vs s' g := by rw [e]; exact h
end
end Zl
set_option Elab.async false
set_option linter.all false
set_option maxRecDepth 100000
set_option maxHeartbeats 2000000
/-! ZM: faster comparisons, the same readings. -/
namespace Zl
open PySem L2 PySem.Spec PyProof.Rows
def eqIf : Int → Int → Bool
  | .ofNat a, .ofNat b => Nat.beq a b
  | .negSucc a, .negSucc b => Nat.beq a b
  | _, _ => false
theorem natBeq (a b : Nat) : Nat.beq a b = decide (a = b) := by
  by_cases h : a = b
  · subst h; simp
  · rw [decide_eq_false h]
    cases e : Nat.beq a b with
    | false => rfl
    | true => exact absurd (Nat.eq_of_beq_eq_true e) h
theorem eqIf_eq (a b : Int) : eqIf a b = eqI a b := by
  unfold eqIf eqI
  cases a <;> cases b
  · show Nat.beq _ _ = _
    rw [natBeq]
    exact decide_eq_decide.mpr ⟨fun h => by rw [h], fun h => Int.ofNat.inj h⟩
  · rw [decide_eq_false (by intro h; cases h)]
  · rw [decide_eq_false (by intro h; cases h)]
  · show Nat.beq _ _ = _
    rw [natBeq]
    exact decide_eq_decide.mpr ⟨fun h => by rw [h], fun h => Int.negSucc.inj h⟩
/-- == with a short way for ints -/
def dEqF (x y : D) : T D := match x, y with
  | .int a, .int b => .ret (.bl (eqIf a b))
  | _, _ => dEq x y
def dNeF (x y : D) : T D := match x, y with
  | .int a, .int b => .ret (.bl (bif eqIf a b then false else true))
  | _, _ => dNe x y
theorem dEqF_eq : dEqF = dEq := by
  funext x y
  unfold dEqF
  split
  · rw [eqIf_eq]; rfl
  · rfl
theorem dNeF_eq : dNeF = dNe := by
  funext x y
  unfold dNeF
  split
  · rename_i a b
    rw [eqIf_eq]
    show T.ret (D.bl (bif eqI a b then false else true)) = T.ret (D.bl (!eqI a b))
    cases eqI a b <;> rfl
  · rfl
section
variable {X : Cx} {F : Ev}
theorem OpZf {f : Value → Value → Sem Value} {o o' : D → D → T D} (e : o' = o) (h : OpZ X F f o) : OpZ X F f o' := by rw [e]; exact h
theorem oeqF (hu : X.A.units + 64 < cLine) : OpZ X F (compareOp .Eq) dEqF := OpZf dEqF_eq (oeq hu)
theorem oneF (hu : X.A.units + 64 < cLine) : OpZ X F (compareOp .NotEq) dNeF := OpZf dNeF_eq (one hu)
end
/-- in, with a short way for ints -/
def anyI (k : Int) : List D → Option Bool
  | [] => some false
  | .int a :: r => bif eqIf a k then (match anyI k r with | some _ => some true | none => none) else anyI k r
  | _ :: _ => none
theorem anyI_some : ∀ {k : Int} {l : List D} {b : Bool}, anyI k l = some b → allO flatD l = true ∧ anyF (.int k) l = b
  | k, [], b, h => by
    cases h
    exact ⟨rfl, rfl⟩
  | k, .int a :: r, b, h => by
    unfold anyI at h
    unfold allO anyF
    rw [if_pos (show flatD (.int a) = true from rfl)]
    show _ ∧ (if eqI a k then true else anyF (.int k) r) = b
    rw [← eqIf_eq]
    cases e : eqIf a k with
    | true =>
      rw [e] at h
      cases q : anyI k r with
      | none => rw [q] at h; cases h
      | some c =>
        rw [q] at h
        cases h
        exact ⟨(anyI_some q).1, by simp⟩
    | false =>
      rw [e] at h
      obtain ⟨h1, h2⟩ := anyI_some (show anyI k r = some b from h)
      exact ⟨h1, by simpa using h2⟩
  | k, .non :: r, b, h => by cases h
  | k, .bl _ :: r, b, h => by cases h
  | k, .str _ :: r, b, h => by cases h
  | k, .ty _ :: r, b, h => by cases h
  | k, .fn _ :: r, b, h => by cases h
  | k, .dct _ _ :: r, b, h => by cases h
  | k, .tup _ :: r, b, h => by cases h
  | k, .lst _ :: r, b, h => by cases h
def inD (neg : Bool) (x : D) (ys : List D) : T D := guardT (flatD x && allO flatD ys) (.ret (.bl (if neg then !anyF x ys else anyF x ys)))
def inF (neg : Bool) (x : D) (ys : List D) : T D := match x with
  | .int k => match anyI k ys with
    | some b => .ret (.bl (bif neg then (bif b then false else true) else b))
    | none => inD neg x ys
  | _ => inD neg x ys
theorem inF_eq (neg : Bool) (x : D) (ys : List D) : inF neg x ys = inD neg x ys := by
  unfold inF
  split
  · rename_i k
    split
    · rename_i b e
      obtain ⟨h1, h2⟩ := anyI_some e
      unfold inD
      rw [h1, h2]
      show _ = T.ret _
      cases neg <;> cases b <;> rfl
    · rfl
  · rfl
def eInF (neg : Bool) (f : Ex) (g : Fr → Hz → T (List D)) : Ex := fun fr hp => (f fr hp).bind fun x => (g fr hp).bind fun ys => inF neg x ys
theorem eInF_eq (neg : Bool) (f : Ex) (g : Fr → Hz → T (List D)) : eInF neg f g = eIn neg f g := by
  funext fr hp
  unfold eInF eIn
  congr 1
  funext x
  congr 1
  funext ys
  exact inF_eq neg x ys
theorem PTf {X : Cx} {F : Ev} {e : Expr} {f g : Ex} (q : g = f) (h : PT X e (tB' X.K F (b1 f))) : PT X e (tB' X.K F (b1 g)) := by rw [q]; exact h
def aCF (f : Ex) (g : Fr → Hz → T (List D)) : Fr → Hz → T (List D) := fun fr hp => (f fr hp).bind fun x => force x fun x => (g fr hp).bind fun xs => .ret (x :: xs)
theorem aCF_eq (f : Ex) (g : Fr → Hz → T (List D)) : aCF f g = aC f g := by
  funext fr hp
  unfold aCF aC
  congr 1
  funext x
  rw [force_eq]
theorem PAf {X : Cx} {F : Ev} {es : List Expr} {f g : Fr → Hz → T (List D)} (q : g = f) (h : PA X es (tAs X.K F f)) : PA X es (tAs X.K F g) := by rw [q]; exact h
/-- name = value, the value in its own form already after this -/
def sSetV (i : Nat) (f : Ex) : Sm := fun fr hp => (f fr hp).bind fun d => force d fun d => .ret (.nx (setN fr i (some (.v d))) hp)
theorem sSetV_eq (i : Nat) (f : Ex) : sSetV i f = sSet i f := by
  funext fr hp
  unfold sSetV sSet
  congr 1
  funext d
  rw [force_eq]
def gIX (i : Nat) : D → Fr → T Fr := fun d fr => forceF (setN fr i (some (.v d))) .ret
theorem gIX_eq (i : Nat) : gIX i = gI i := by
  funext d fr
  unfold gIX gI
  rw [forceF_eq]
def sParX (i j : Nat) (f g : Ex) : Sm := fun fr hp => (f fr hp).bind fun x => (g fr hp).bind fun y => forceF (setN (setN fr i (some (.v x))) j (some (.v y))) fun fr => .ret (.nx fr hp)
theorem sParX_eq (i j : Nat) (f g : Ex) : sParX i j f g = sPar i j f g := by
  funext fr hp
  unfold sParX sPar
  congr 1
  funext x
  congr 1
  funext y
  rw [forceF_eq]
end Zl
set_option Elab.async false
set_option linter.all false
set_option maxRecDepth 100000
set_option maxHeartbeats 2000000
/-! ZN: dicts whose keys are tuples (of tuples, ints, texts). -/
namespace Zl
open PySem L2 PySem.Spec PyProof.Rows
end Zl
set_option Elab.async false
set_option linter.all false
set_option maxRecDepth 100000
set_option maxHeartbeats 2000000
/-! ZO: {k: v for .. in ..} for any kind of dict object that a store can turn. -/
namespace Zl
open PySem L2 PySem.Spec PyProof.Rows
end Zl
set_option Elab.async false
set_option linter.all false
set_option maxRecDepth 100000
set_option maxHeartbeats 2000000
/-! ZP: {k: v for .. in ..}, keys tuples, as a value. -/
namespace Zl
open PySem L2 PySem.Spec PyProof.Rows
/-- the key n is not among ks -/
def freshK (n : NestedKey) : List D → Bool
  | [] => true
  | k :: ks => match nk k with
    | some m => bif NestedKey.beq m n then false else freshK n ks
    | none => false
theorem freshK_of {n : NestedKey} : ∀ {ks : List D} {ns : List NestedKey}, freshK n ks = true → nks ks = some ns → n ∉ ns
  | [], ns, _, e => by cases e; simp
  | k :: ks, ns, h, e => by
    unfold nks at e
    unfold freshK at h
    cases q : nk k with
    | none => rw [q] at e; cases e
    | some k' =>
      cases q2 : nks ks with
      | none => rw [q, q2] at e; cases e
      | some ks' =>
        rw [q, q2] at e
        cases e
        rw [q] at h
        have h : (bif NestedKey.beq k' n then false else freshK n ks) = true := h
        cases b : NestedKey.beq k' n with
        | true => rw [b] at h; cases h
        | false =>
          rw [b] at h
          have ih := freshK_of (ks := ks) h q2
          intro z
          rcases List.mem_cons.mp z with z | z
          · rw [z, NestedKey.beq_self] at b; cases b
          · exact ih z
theorem nks_append : ∀ {ks : List D} {ns : List NestedKey} {k : D} {n : NestedKey}, nks ks = some ns → nk k = some n → nks (ks ++ [k]) = some (ns ++ [n])
  | [], ns, k, n, e, h => by
    cases e
    show (match nk k, nks [] with | some k, some ks => some (k :: ks) | _, _ => none) = _
    rw [h]
    rfl
  | x :: ks, ns, k, n, e, h => by
    unfold nks at e
    cases q : nk x with
    | none => rw [q] at e; cases e
    | some k' =>
      cases q2 : nks ks with
      | none => rw [q, q2] at e; cases e
      | some ks' =>
        rw [q, q2] at e
        cases e
        show (match nk x, nks (ks ++ [k]) with | some k, some ks => some (k :: ks) | _, _ => none) = _
        rw [q, nks_append q2 h]
        rfl
section
variable (K : PySem.W.Frag) (F : Ev)
/-- the new dict at B, behind the heap H1 -/
structure DcI (ρ : Option Addr) (m0 m1 : List Addr) (H1 : Hp) (B : Addr) (H : Hp) (ks vs : List D) : Prop where
  dct : ∃ xs ep vv, H B = some (dctO F.w xs ep B) ∧ DctOk xs vv ks ∧ Reps K F ((B :: m0) ++ m1) H (dKeys xs) ks ∧ Reps K F ((B :: m0) ++ m1) H vv vs
  keep : ∀ a o, ρ ≠ some a → H1 a = some o → H a = some o
  row : RowA K ρ H
end
section
variable {K : PySem.W.Frag} {F : Ev} {ρ : Option Addr} {m0 m1 : List Addr} {H1 H H' : Hp} {B : Addr} {ks vs : List D} {σ : L2.St} {fr : Fr} {hp : Hz}
theorem DcI.start (a : At K F ρ m0 m1 H1 σ fr hp) (hB : H1 B = none) : DcI K F ρ m0 m1 H1 B (upd H1 B (dctO F.w [] 0 B)) [] [] :=
  ⟨⟨[], 0, [], upd_same, ⟨rfl, .nil, fun x h => (List.not_mem_nil h).elim, .nil, Nat.zero_le _⟩, .nil, .nil⟩, fun c o _ e => same_new hB c o e, a.row.same (same_new hB)⟩
theorem DcI.later (I : DcI K F ρ m0 m1 H1 B H ks vs) (own : ∀ a, ρ = some a → a ∈ m0) (hB : H1 B = none) : Later (m0 ++ m1) H1 ((B :: m0) ++ m1) H where
  new := fun a q => (List.mem_cons.mp q).elim (fun z => .inr (by rw [z]; exact hB)) .inl
  keep := fun a o n e => I.keep a o (fun z => n (List.mem_append_left _ (own a z))) e
theorem DcI.at (I : DcI K F ρ m0 m1 H1 B H ks vs) (a : At K F ρ m0 m1 H1 σ fr hp) (hB : H1 B = none) : At K F ρ (B :: m0) m1 H σ fr hp := by
  have l := I.later a.own hB
  have hBm := a.sim.new hB
  refine ⟨⟨a.fr.len, fun i s e => ?_⟩, ⟨a.sim.len, a.sim.nd, fun c q => ?_, fun c q z => ?_, fun n c e => ?_⟩, I.row, fun c e => List.mem_cons_of_mem _ (a.own c e)⟩
  · obtain ⟨v, e1, r⟩ := a.fr.slot i s e
    refine ⟨v, e1, ?_⟩
    cases s with
    | v d => exact Rep.later r l
    | r n => exact r
    | row => exact r
  · rcases List.mem_cons.mp q with z | z
    · rw [z]; exact fun w => hBm (List.mem_append_right _ w)
    · exact a.sim.dis c z
  · have q : c = B ∨ c ∈ m0 ++ m1 := by simpa using q
    rcases q with y | y
    · obtain ⟨xs, ep, vv, e, _⟩ := I.dct
      rw [y, e] at z; cases z
    · by_cases hr : ρ = some c
      · obtain ⟨_, _, _, _, _, e1, _⟩ := I.row c hr
        rw [e1] at z; cases z
      · cases e : H1 c with
        | none => exact a.sim.dom c y e
        | some o => rw [I.keep c o hr e] at z; cases z
  · obtain ⟨b, e1, cr⟩ := a.sim.cell n c e
    exact ⟨b, e1, cr.tr (fun ob => I.keep b ob (fun z => a.sim.dis b (a.own b z) (List.mem_of_getElem? e1))) fun vs ds r => r.later l⟩
theorem DcI.on (I : DcI K F ρ m0 m1 H1 B H ks vs) (own : ∀ a, ρ = some a → a ∈ m0) (ne : ρ ≠ some B) (k : Keep ρ H H') (w : RowA K ρ H') : DcI K F ρ m0 m1 H1 B H' ks vs := by
  obtain ⟨xs, ep, vv, e, ok, r1, r2⟩ := I.dct
  have own' : ∀ a, ρ = some a → a ∈ B :: m0 := fun a z => List.mem_cons_of_mem _ (own a z)
  exact ⟨⟨xs, ep, vv, k _ _ ne e, ok, Reps.on (m0 := B :: m0) r1 own' k, Reps.on (m0 := B :: m0) r2 own' k⟩, fun a o n q => k a o n (I.keep a o n q), w⟩
theorem DcI.push (I : DcI K F ρ m0 m1 H1 B H ks vs) (a : At K F ρ m0 m1 H1 σ fr hp) (hB : H1 B = none) {ka : Addr} {ds : List D} {z : V} {d : D} {n : NestedKey} {xs : List (NestedKey × Addr × Value)} {ep : Nat} {vv : List V} (ex : H B = some (dctO F.w xs ep B)) (ok : DctOk xs vv ks) (rv : Reps K F ((B :: m0) ++ m1) H vv vs) (rk : Reps K F ((B :: m0) ++ m1) H (dKeys xs) ks)
    (ry : Rep K F ((B :: m0) ++ m1) H (.ref ka) (.tup ds)) (rz : Rep K F ((B :: m0) ++ m1) H z d) (hn : nk (.tup ds) = some n) (hd : n.depth ≤ 8) (hf : freshK n ks = true) (hl : ks.length ≤ 9000) {r : Value} {ep' : Nat} (hr : RelV z r) :
    DcI K F ρ m0 m1 H1 B (upd H B (dctO F.w (xs ++ [(n, ka, r)]) ep' B)) (ks ++ [.tup ds]) (vs ++ [d]) := by
  have ku : ∀ c o, c ∉ (B :: m0) ++ m1 → H c = some o → (upd H B (dctO F.w (xs ++ [(n, ka, r)]) ep' B)) c = some o := fun c o q e => by
    rw [upd_ne (fun z => q (by rw [z]; simp))]
    exact e
  have up : ∀ {v : V} {d : D}, Rep K F ((B :: m0) ++ m1) H v d → Rep K F ((B :: m0) ++ m1) (upd H B (dctO F.w (xs ++ [(n, ka, r)]) ep' B)) v d := fun {v d} q => Rep.keep (fun c q => .inl q) ku d v q
  have ups : ∀ {v : List V} {d : List D}, Reps K F ((B :: m0) ++ m1) H v d → Reps K F ((B :: m0) ++ m1) (upd H B (dctO F.w (xs ++ [(n, ka, r)]) ep' B)) v d := fun {v d} q => Reps.keep (fun c q => .inl q) ku d v q
  have hx : xs.length = ks.length := by
    have := rk.length
    unfold dKeys at this
    rw [List.length_map] at this
    exact this
  refine ⟨⟨xs ++ [(n, ka, r)], ep', vv ++ [z], upd_same, ⟨?_, ?_, fun x hx => ?_, ?_, ?_⟩, ?_, Reps.append (ups rv) (.cons (up rz) .nil)⟩, fun c o q e => ?_, fun c q => ?_⟩
  · rw [List.map_append]
    exact nks_append ok.nk hn
  · rw [List.map_append]
    refine List.nodup_append.mpr ⟨ok.nd, by simp, fun x hx y hy e => ?_⟩
    have : y = n := by simpa using hy
    rw [e, this] at hx
    exact freshK_of hf ok.nk hx
  · rcases List.mem_append.mp hx with q | q
    · exact ok.dp x q
    · have : x = (n, ka, r) := by simpa using q
      rw [this]; exact hd
  · rw [List.map_append]
    exact ok.vs.append (.cons hr .nil)
  · rw [List.length_append, hx]
    simp only [List.length_cons, List.length_nil]
    omega
  · unfold dKeys
    rw [List.map_append]
    exact Reps.append (ups rk) (.cons (up ry) .nil)
  · have hc : c ≠ B := fun z => by rw [z, hB] at e; cases e
    rw [upd_ne hc]
    exact I.keep c o q e
  · have hc : B ≠ c := fun z => a.rowN B (by rw [z]; exact q) hB
    refine (I.row c q).keep (fun xs z => by rw [upd_ne (Ne.symm hc)]; exact z) fun s o xs z => ?_
    have hs : s ≠ B := fun w => by rw [w, ex] at z; cases z
    rw [upd_ne hs]
    exact z
end
end Zl
set_option Elab.async false
set_option linter.all false
set_option maxRecDepth 100000
set_option maxHeartbeats 2000000
/-! ZQ: zip of two lists or two tuples; d.items() of a dict whose keys are tuples. -/
namespace Zl
open PySem L2 PySem.Spec PyProof.Rows RZ
end Zl
set_option Elab.async false
set_option linter.all false
set_option maxRecDepth 100000
set_option maxHeartbeats 2000000
/-! ZR: for k, v in d.items(), the keys tuples. -/
namespace Zl
open PySem L2 PySem.Spec PyProof.Rows
end Zl
set_option Elab.async false
set_option linter.all false
set_option maxRecDepth 100000
set_option maxHeartbeats 2000000
/-! ZS: slices of tuples. -/
namespace Zl
open PySem L2 PySem.Spec PyProof.Rows
end Zl
set_option Elab.async false
set_option linter.all false
set_option maxRecDepth 100000
set_option maxHeartbeats 2000000
/-! ZT: the frame's own lists changed in place: append, x[i] = v. -/
namespace Zl
open PySem L2 PySem.Spec PyProof.Rows
section
variable {K : PySem.W.Frag} {F : Ev} {ρ : Option Addr} {m0 m1 : List Addr} {H : Hp} {σ : L2.St} {fr : Fr} {hp : Hz}
/-- one own list anew -/
theorem At.setCell (a : At K F ρ m0 m1 H σ fr hp) {n : Nat} {b : Addr} {w : HO} {ds : List D} (e1 : m1[n]? = some b) (r : (∀ (vs : List V) (ds : List D), Reps K F (m0 ++ m1) H vs ds → Reps K F (m0 ++ m1) (L2.upd H b w) vs ds) → CellR K F (m0 ++ m1) (L2.upd H b w) b ds) : At K F ρ m0 m1 (L2.upd H b w) σ fr (setN hp n ds) ∧ Grow ρ m1 H m1 (L2.upd H b w) := by
  have hb1 : b ∈ m1 := List.mem_of_getElem? e1
  have hb : b ∈ m0 ++ m1 := List.mem_append_right _ hb1
  have hb0 : b ∉ m0 := fun z => a.sim.dis b z hb1
  have ku : ∀ c o, c ∉ m0 ++ m1 → H c = some o → (L2.upd H b w) c = some o := fun c o q e => by
    rw [upd_ne (fun z => q (by rw [z]; exact hb))]
    exact e
  have up : ∀ {v : V} {d : D}, Rep K F (m0 ++ m1) H v d → Rep K F (m0 ++ m1) (L2.upd H b w) v d := fun {v d} q => Rep.keep (fun c q => .inl q) ku d v q
  have ups : ∀ {v : List V} {d : List D}, Reps K F (m0 ++ m1) H v d → Reps K F (m0 ++ m1) (L2.upd H b w) v d := fun {v d} q => Reps.keep (fun c q => .inl q) ku d v q
  have hlt : n < hp.length := by rw [← a.sim.len]; exact (List.getElem?_eq_some_iff.mp e1).1
  refine ⟨⟨⟨a.fr.len, fun i s e => ?_⟩, ⟨by rw [setN_eq, List.length_set]; exact a.sim.len, a.sim.nd, a.sim.dis, fun c q z => ?_, fun k c e => ?_⟩, fun c q => ?_, a.own⟩, ⟨fun c o _ nm e => ?_, fun c q => .inl q⟩⟩
  · obtain ⟨v, e2, q⟩ := a.fr.slot i s e
    refine ⟨v, e2, ?_⟩
    cases s with
    | v d => exact up q
    | r n => exact q
    | row => exact q
  · by_cases hc : c = b
    · rw [hc, upd_same] at z; cases z
    · rw [upd_ne hc] at z
      exact a.sim.dom c q z
  · rw [setN_eq] at e
    by_cases hk : n = k
    · subst hk
      rw [List.getElem?_set_self hlt] at e
      cases e
      exact ⟨b, e1, r fun vs ds q => ups q⟩
    · rw [List.getElem?_set_ne hk] at e
      obtain ⟨b', e2, cr⟩ := a.sim.cell k c e
      have hne : b' ≠ b := fun z => hk ((List.getElem?_inj (List.getElem?_eq_some_iff.mp e1).1 a.sim.nd).mp (by rw [e1, e2, z]))
      exact ⟨b', e2, cr.tr (fun ob z => by rw [upd_ne hne]; exact z) fun vs ds q => ups q⟩
  · have hc : c ≠ b := fun z => hb0 (by rw [← z]; exact a.own c q)
    refine (a.row c q).keep (fun xs z => by rw [upd_ne hc]; exact z) fun s o xs z => ?_
    have hs : s ≠ b := fun w' => by
      obtain ⟨c', hc'⟩ : ∃ c', hp[n]? = some c' := ⟨hp[n], List.getElem?_eq_getElem hlt⟩
      obtain ⟨b', e2, cr⟩ := a.sim.cell n c' hc'
      rw [e1] at e2
      cases e2
      rw [w'] at z
      exact cr.nofz _ _ z
    rw [upd_ne hs]
    exact z
  · rw [upd_ne (fun z => nm (by rw [z]; exact hb1))]
    exact e
end
section
variable {X : Cx} {F : Ev}
/-- name.append(e), the name an own list's -/
def sApp (i : Nat) (f : Ex) : Sm := fun fr hp => match gt fr i with
  | some (.r n) => (ofO hp[n]?).bind fun xs => guardT (lstOk xs && few xs 10000) ((f fr hp).bind fun d => guardT (lstOk (xs ++ [d])) (.ret (.nx fr (setN hp n (xs ++ [d])))))
  | _ => .fail
theorem zapp {i : Nat} {x : Str} {e : Expr} {f : Ex} {p apos cpos pos : Pos} (hN : X.N[i]? = some x) (hv : Vis X.env.scope x) (he : PE X e (tX X.K F f)) (hd : (x == ("__debug__" : Str)) = false := by decide) (hcd : (x == ("__classdict__" : Str)) = false := by decide)
    (hbase : attributeBase (.Name x p) "append" X.env (eval (.Name x p) X.env) = eval (.Name x p) X.env := by rfl)
    (hfew : ((backTo cpos (starEach (e :: []) X.env)).all (fun x => !x.1) && (backToKw cpos (keywordEach [] X.env)).all (fun x => x.1.isSome) && decide ((e :: []).length + ([] : List Keyword).length + (if ([] : List Keyword).isEmpty then 0 else 1) < 30)) = true := by rfl)
    (hline : (apos.endLine == cpos.line) = true := by rfl) (na : starEach (e :: []) X.env = (false, eval e X.env) :: starEach [] X.env := by rfl) (hs : swapsWith (.Call (.Attribute (.Name x p) "append" apos) [e] [] cpos) none pos.line X.env = pure false := by rfl) :
    PS X (.Expr (.Call (.Attribute (.Name x p) "append" apos) [e] [] cpos) pos) (tS X.K F (sApp i f)) :=
  PSimp (ps_expr (pe_bm PySem.F.plainAttrs_list PySem.F.slot_list_append PySem.F.type_list_append mt_append (pe_var hN hv hd hcd) (pa_cons he pa_nil na) hbase hfew hline na) hs) fun D σ H h => by
    obtain ⟨ρ, m0, m1, fr, hp, a, h⟩ := h
    unfold sApp at h
    split at h
    · rename_i n eg
      obtain ⟨v, e1, b, e2, rfl⟩ := a.get eg
      obtain ⟨xs, e5, h⟩ := all_ofO (T.all_bind h)
      obtain ⟨hf, h⟩ := all_guard h
      rw [Bool.and_eq_true] at hf
      refine ⟨_, e1, ?_, ?_⟩
      · obtain ⟨b', e3, cr⟩ := a.sim.cell n _ e5
        obtain ⟨vs, e4, _⟩ := cr.lst hf.1
        rw [e2] at e3
        cases e3
        exact .inl ⟨rfl, _, SqL.of e4⟩
      · refine tX_mk a (T.all_bind h) fun d hd H1 u k1 a1 r => ?_
        obtain ⟨hf2, hk⟩ := all_guard hd
        obtain ⟨b', e3, cr⟩ := a1.sim.cell n xs e5
        obtain ⟨vs, e4, rs⟩ := cr.lst hf.1
        rw [e2] at e3
        cases e3
        refine ⟨b, vs, u, rfl, rfl, e4, ?_, ?_⟩
        · have h1 := few_le hf.2
          have h2 := rs.length
          have h3 : (10000 : Nat) < sizeLine := by decide
          omega
        · obtain ⟨a2, g2⟩ := a1.setCell (w := .lst (vs ++ [u])) (ds := xs ++ [d]) e2 (fun up => .inl ⟨hf2, _, upd_same, up _ _ (Reps.append rs (.cons r .nil))⟩)
          have g1 : Grow ρ m1 H m1 H1 := .of k1
          exact hk m1 _ σ (g1.trans a1.rowN g2) a2
    · exact h.elim
end
end Zl
set_option Elab.async false
set_option linter.all false
set_option maxRecDepth 100000
set_option maxHeartbeats 2000000
/-! ZU: the frame's own dicts of ints; dicts of the text; list(d.values()); list.index of data; x, y, z = a, b, c; a def that a name holds. -/
namespace Zl
open PySem L2 PySem.Spec PyProof.Rows
/-! ### tables of int keys -/
theorem eqI_key (i j : Int) : eqI i j = decide ((Sum.inl i : Key) = Sum.inl j) := by rw [key_ll]; exact eqI_beq i j
section
variable {K : PySem.W.Frag} {F : Ev} {m : List Addr} {H : Hp}
/-- the cell of a dict -/
theorem CellR.dct {a : Addr} {ks us : List D} (c : CellR K F m H a [.dct ks us]) : ∃ (kvs : List (Key × V)) (is : List Int), ks = is.map D.int ∧ H a = some (.dK kvs) ∧ kvs.map (·.1) = is.map Sum.inl ∧ Reps K F m H (kvs.map (·.2)) us := by
  rcases c with c | ⟨kvs, is, us', e, c⟩
  · exact absurd c.1 Bool.false_ne_true
  · injection e with e1 e2
    injection e1 with e3 e4
    subst e3 e4
    exact ⟨kvs, is, rfl, c⟩
end
section
variable {X : Cx} {F : Ev}
/-! ### the frame's own dicts -/
/-- the dict behind a name -/
theorem At.dct {ρ : Option Addr} {m0 m1 : List Addr} {H : Hp} {σ : L2.St} {fr : Fr} {hp : Hz} (a : At X.K F ρ m0 m1 H σ fr hp) {i n : Nat} {ks us : List D} (e : gt fr i = some (.r n)) (e2 : hp[n]? = some [.dct ks us]) :
    ∃ (b : Addr) (kvs : List (Key × V)) (is : List Int), σ[i]? = some (some (.ref b)) ∧ m1[n]? = some b ∧ ks = is.map D.int ∧ H b = some (.dK kvs) ∧ kvs.map (·.1) = is.map Sum.inl ∧ Reps X.K F (m0 ++ m1) H (kvs.map (·.2)) us := by
  obtain ⟨v, e1, b, e3, rfl⟩ := a.get e
  obtain ⟨b', e4, cr⟩ := a.sim.cell n _ e2
  rw [e3] at e4
  cases e4
  obtain ⟨kvs, is, g1, g2, g3, g4⟩ := cr.dct
  exact ⟨b, kvs, is, e1, e3, g1, g2, g3, g4⟩
end
end Zl
set_option Elab.async false
set_option linter.all false
set_option maxRecDepth 100000
set_option maxHeartbeats 2000000
/-! ZV: dicts of the text; list.index of data; x, y, z = a, b, c; a def that a name holds. -/
namespace Zl
open PySem L2 PySem.Spec PyProof.Rows
/-! ### dicts of the text -/
structure SDk (P : Program) (w : World) (K : PySem.W.Frag) (a : Addr) (kvs : List (Key × V)) : Prop where
  lo : (a == sysModules) = false
  at' : ∀ h, K.In h → ∃ vs, KV kvs vs ∧ h.DictOf (mixKind P w) a vs
def kOf : D → Option Key
  | .int i => some (.inl i)
  | .str s => some (.inr ⟨s.toArray⟩)
  | _ => none
inductive TabR (K : PySem.W.Frag) (F : Ev) : List (Key × V) → List (D × D) → Prop
  | nil : TabR K F [] []
  | cons {k : Key} {v : V} {x d : D} {kvs : List (Key × V)} {t : List (D × D)} : kOf x = some k → (∀ m H, Rep K F m H v d) → TabR K F kvs t → TabR K F ((k, v) :: kvs) ((x, d) :: t)
def tabGet (x : D) : List (D × D) → Option D
  | [] => none
  | (k, v) :: r => if eqF k x then some v else tabGet x r
theorem str_inj {a b : List Nat} (h : (⟨a.toArray⟩ : Str) = ⟨b.toArray⟩) : a = b := by
  injection h with h
  simpa using h
theorem eqF_kOf {x y : D} {j k : Key} (hx : kOf x = some j) (hy : kOf y = some k) : eqF x y = decide (j = k) := by
  cases x <;> first | (cases hx; done) | skip
  all_goals (cases y <;> first | (cases hy; done) | skip)
  all_goals (cases hx; cases hy)
  · exact eqI_key _ _
  · exact (key_lr _ _).symm
  · exact (key_rl _ _).symm
  · rename_i a b
    show eqNs a b = _
    rw [eqNs_iff, key_rr]
    by_cases h : a = b
    · subst h; simp
    · rw [decide_eq_false h, decide_eq_false (fun z => h (str_inj z))]
theorem tabGet_ok {K : PySem.W.Frag} {F : Ev} {x : D} {k : Key} (hx : kOf x = some k) : ∀ {kvs : List (Key × V)} {t : List (D × D)}, TabR K F kvs t →
    match tabGet x t with
    | some d => ∃ v, valV kvs k = some v ∧ ∀ m H, Rep K F m H v d
    | none => valV kvs k = none
  | _, _, .nil => rfl
  | _, _, .cons (k := j) (v := v) (x := y) (d := d) (kvs := kvs) (t := t) h1 h2 h3 => by
    show match (if eqF y x then some d else tabGet x t) with
      | some d => ∃ u, valV ((j, v) :: kvs) k = some u ∧ ∀ m H, Rep K F m H u d
      | none => valV ((j, v) :: kvs) k = none
    have e := eqF_kOf h1 hx
    by_cases h : eqF y x = true
    · rw [if_pos h]
      rw [e] at h
      exact ⟨v, valV_pos (of_decide_eq_true h), h2⟩
    · rw [if_neg h]
      rw [e] at h
      rw [valV_neg (p := (j, v)) (fun z => h (decide_eq_true z))]
      exact tabGet_ok hx h3
def asK (x : D) : T D := match x with
  | .int i => .ret (.int i)
  | .str s => .ret (.str s)
  | _ => .fail
theorem all_asK {x : D} {P : D → Prop} (h : (asK x).all P) : ∃ k, kOf x = some k ∧ P x := by
  unfold asK at h
  split at h
  · exact ⟨_, rfl, h⟩
  · exact ⟨_, rfl, h⟩
  · exact h.elim
theorem rep_kOf {K : PySem.W.Frag} {F : Ev} {m : List Addr} {H : Hp} {v : V} {x : D} {k : Key} (r : Rep K F m H v x) (h : kOf x = some k) : v = kV k := by
  cases x <;> first | (cases h; done) | skip
  all_goals (cases h; cases r; rfl)
section
variable {X : Cx} {F : Ev} {b : Addr} {kvs : List (Key × V)} {tb : List (D × D)}
theorem ix_sd (S : SDk X.prog X.w X.K b kvs) : IxR X (fun x y H Q => ∃ k v, x = .ref b ∧ y = kV k ∧ valV kvs k = some v ∧ Q v H) := by
  intro value slice pins s σ H x y v u Q I rx ry h hs
  obtain ⟨k, w', rfl, rfl, l, q⟩ := h
  cases rx
  obtain ⟨vs, rel, dd⟩ := S.at' _ I.kIn
  obtain ⟨r, hr, rr⟩ := RelO.some_of (v := w') (o := valueAt vs k) (by rw [← l]; exact rel.val k)
  exact subscriptTail_builtinR (x := r) dd.typeIs slot_dict_getitem.lookup (wpAny_getItem_of (Q := fun z s' => z = r ∧ EP X pins σ Q z s') (kV_is ry) dd.mapOf hr ⟨rfl, w', H, I.tok _, rr, q⟩) hs
section
variable {x : Str} {e : Expr} {f : Ex} {p pos : Pos} (hg : Gl X x) (hm : X.mg x = some (.ref b)) (S : SDk X.prog X.w X.K b kvs) (R : TabR X.K F kvs tb)
include hg hm S R
/-- NAME[e], NAME a dict of the text -/
def eIxT (tb : List (D × D)) (f : Ex) : Ex := fun fr hp => (f fr hp).bind fun x => (asK x).bind fun y => ofO (tabGet y tb)
theorem zixT (he : PE X e (tX X.K F f)) (hd : (x == ("__debug__" : Str)) = false := by decide) (hs : PlainIx e := by exact fun _ _ => rfl) : PE X (.Subscript (.Name x p) e pos) (tX X.K F (eIxT tb f)) :=
  PEimp (pe_ix (ix_sd S) (pe_glob (v := V.ref b) hg hm rfl hd) he hs) fun σ H Q h => by
    obtain ⟨ρ, m0, m1, fr, hp, a, h⟩ := h
    refine tX_mk a (T.all_bind h) fun x hx H1 v k1 a1 rx => ?_
    obtain ⟨k, ek, hx⟩ := all_asK (T.all_bind hx)
    obtain ⟨d, e3, hx⟩ := all_ofO hx
    have q := tabGet_ok ek R
    rw [e3] at q
    obtain ⟨u, g1, g2⟩ := q
    exact ⟨k, u, rfl, rep_kOf rx ek, g1, hx H1 u k1 a1.row (g2 _ _)⟩
end
/-! ### x, y, z = a, b, c -/
def sPar3 (i j l : Nat) (f g h : Ex) : Sm := fun fr hp => (f fr hp).bind fun x => (g fr hp).bind fun y => (h fr hp).bind fun z => .ret (.nx (setN (setN (setN fr i (some (.v x))) j (some (.v y))) l (some (.v z))) hp)
/-! ### list.index of data -/
end
end Zl
set_option Elab.async false
set_option linter.all false
set_option maxRecDepth 100000
set_option maxHeartbeats 2000000
/-! ZW: sorted(a dict of the text); calls of a def that a name holds. -/
namespace Zl
open PySem L2 PySem.Spec PyProof.Rows
section
variable {X : Cx} {F : Ev} {b : Addr} {kvs : List (Key × V)} {ks : List Str}
theorem reps_strs {K : PySem.W.Frag} {F : Ev} {m : List Addr} {H : Hp} : ∀ ys : List (List Nat), Reps K F m H ((ys.map fun y => (⟨y.toArray⟩ : Str)).map V.str) (ys.map D.str)
  | [] => .nil
  | y :: ys => .cons (.str y) (reps_strs ys)
end
/-! ### a def that a name holds -/
end Zl
set_option Elab.async false
set_option linter.all false
set_option maxRecDepth 100000
set_option maxHeartbeats 2000000
/-! ZX: x, y = a, {} and x, y, z = a, b, a list of one's own. -/
namespace Zl
open PySem L2 PySem.Spec PyProof.Rows
section
variable {X : Cx} {F : Ev}
/-! ### what the texts of the defs lean on -/
theorem units80 {k : Nat} {A : Around} (r : Room k A) : A.units + 80 < cLine := by have := r.un; omega
/-- the entries of a dict of the text -/
inductive EntR (w : World) : List DictEntry → List (Key × V) → Prop
  | nil : EntR w [] []
  | cons {e : DictEntry} {k : Key} {v : V} {es : List DictEntry} {kvs : List (Key × V)} : keyIs k e.key = true → e.hash = keyH w k → RelV v e.val → EntR w es kvs → EntR w (e :: es) ((k, v) :: kvs)
theorem EntR.out {P : Program} {w : World} : ∀ {es : List DictEntry} {kvs : List (Key × V)}, EntR w es kvs → ∃ vs : List (Key × Value), KV kvs vs ∧ Pairs (mixKind P w) es vs ∧ vs.map (·.1) = kvs.map (·.1) ∧ ∀ e ∈ es, ∃ k, (mixKind P w).is k e.key = true ∧ e.hash = (mixKind P w).hash k
  | _, _, .nil => ⟨[], .nil, .nil, rfl, fun e h => (List.not_mem_nil h).elim⟩
  | _, _, .cons (e := e) (k := k) h1 h2 h3 h4 => by
    obtain ⟨vs, g1, g2, g3, g4⟩ := EntR.out (P := P) h4
    refine ⟨(k, e.val) :: vs, .cons ⟨rfl, h3⟩ g1, .cons h1 rfl g2, by rw [List.map_cons, List.map_cons, g3], fun e' h => ?_⟩
    rcases List.mem_cons.mp h with z | z
    · rw [z]; exact ⟨k, h1, h2⟩
    · exact g4 e' z
theorem sdk_of {P : Program} {w : World} {K : PySem.W.Frag} {a : Addr} {es : Array DictEntry} {n : Nat} {kvs : List (Key × V)} (hl : K.lookup a = some ⟨.type "dict", none, .dict es n, #[]⟩) (lo : (a == sysModules) = false) (h : EntR w es.toList kvs) (nd : (kvs.map (·.1)).Nodup) : SDk P w K a kvs where
  lo := lo
  at' := fun H X => by
    obtain ⟨vs, g1, g2, g3, g4⟩ := h.out (P := P)
    exact ⟨vs, g1, _, es, n, X _ _ hl, ⟨rfl, rfl, rfl⟩, rfl, fun e he => g4 e (Array.mem_toList_iff.mpr he), g2, by rw [g3]; exact nd⟩
end
end Zl
set_option Elab.async false
set_option linter.all false
set_option maxRecDepth 100000
set_option maxHeartbeats 2000000
/-! ZXA: -n; count; in over data; sorted texts; for k in d (keys tuples); a, b = e; a name that holds one of many defs. -/
namespace Zl
open PySem L2 PySem.Spec PyProof.Rows
/-! ### sorted texts -/
theorem risingS_pw : ∀ (l : List Str) (p : Str), risingS p l = true → (p :: l).Pairwise fun a b => a.cps.toList ≤ b.cps.toList
  | [], p, _ => by simp
  | x :: r, p, h => by
    have h : (!ltCps x.cps.toList p.cps.toList && risingS x r) = true := h
    rw [Bool.and_eq_true] at h
    have h1 : p.cps.toList ≤ x.cps.toList := by
      have := h.1
      rw [ltCps_eq] at this
      have h2 : ¬ x.cps.toList < p.cps.toList := by
        intro z
        rw [decide_eq_true z] at this
        cases this
      exact h2
    have ih := risingS_pw r x h.2
    refine List.pairwise_cons.mpr ⟨fun y hy => ?_, ih⟩
    rcases List.mem_cons.mp hy with z | z
    · rw [z]; exact h1
    · exact List.le_trans h1 ((List.pairwise_cons.mp ih).1 y z)
theorem sortedS_pw : ∀ (l : List Str), sortedS l = true → l.Pairwise fun a b => a.cps.toList ≤ b.cps.toList
  | [], _ => .nil
  | x :: r, h => risingS_pw r x h
theorem sortedS_one {a b : List Str} (ha : sortedS a = true) (hb : sortedS b = true) (p : a.Perm b) : a = b :=
  List.Perm.eq_of_pairwise (fun x y _ _ h1 h2 => by
    have e : x.cps.toList = y.cps.toList := List.le_antisymm h1 h2
    cases x; cases y
    congr 1
    exact Array.toList_inj.mp e) (sortedS_pw a ha) (sortedS_pw b hb) p
def strsO : List D → Option (List (List Nat))
  | [] => some []
  | .str s :: r => match strsO r with
    | some ss => some (s :: ss)
    | none => none
  | _ :: _ => none
theorem strs_reps {K : PySem.W.Frag} {F : Ev} {m : List Addr} {H : Hp} : ∀ {vs : List V} {xs : List D} {ss : List (List Nat)}, Reps K F m H vs xs → strsO xs = some ss → vs = (ss.map fun y => (⟨y.toArray⟩ : Str)).map V.str
  | _, [], ss, r, e => by
    cases r
    cases e
    rfl
  | _, x :: xs, ss, r, e => by
    cases r with
    | cons r1 r2 =>
    cases x <;> first | (cases e; done) | skip
    rename_i s
    unfold strsO at e
    cases q : strsO xs with
    | none => rw [q] at e; cases e
    | some ss' =>
      rw [q] at e
      cases e
      cases r1
      rw [strs_reps r2 q]
      rfl
def insS (x : List Nat) : List (List Nat) → List (List Nat)
  | [] => [x]
  | y :: r => if ltCps y x then y :: insS x r else x :: y :: r
def isortS : List (List Nat) → List (List Nat)
  | [] => []
  | x :: r => insS x (isortS r)
def mkS (y : List Nat) : Str := ⟨y.toArray⟩
def nSortS (g : Fr → Hz → T (List D)) : Fr → Hz → T (List D) := fun fr hp => (g fr hp).bind fun xs => (ofO (strsO xs)).bind fun ss => guardT (few xs 60 && (sortedS ((isortS ss).map mkS) && (isortS ss).isPerm ss)) (.ret ((isortS ss).map D.str))
end Zl
set_option Elab.async false
set_option linter.all false
set_option maxRecDepth 100000
set_option maxHeartbeats 2000000
/-! ZXB: list(zip(a, b)) of two lists, low down. -/
namespace Zl
open PySem L2 PySem.Spec PyProof.Rows
/-- a zip under way, its tuples taken away -/
def ZSt (z TI TO i1 i2 l1 l2 S : Addr) (xs ys : Array Value) (h : Heap) (i : Nat) : Prop :=
  IsPair h TI (.ref i1) (.ref i2) ∧ h.IsListIter i1 l1 i ∧ h.IsListIter i2 l2 i ∧ h.IsList l1 xs ∧ h.IsList l2 ys ∧
    ((IsZip h z TI TO .none ∧ ∃ a b, IsPair h TO a b) ∨ ∃ T f oT, IsZipHeld h z TI TO T f ∧ h.get? T = some oT ∧ T ≠ z ∧ T ≠ i1 ∧ T ≠ i2 ∧ T ≠ S)
/-- the addresses are all below S -/
structure ZLow (z TI TO i1 i2 l1 l2 S : Addr) : Prop where
  z : z < S
  TI : TI < S
  TO : TO < S
  i1 : i1 < S
  i2 : i2 < S
  l1 : l1 < S
  l2 : l2 < S
section
variable {prog : Program} {w : World} {A : Around} {E : Value → Shared → Prop} {s : Shared} {z TI TO i1 i2 l1 l2 S : Addr} {xs ys : Array Value} {i : Nat}
theorem ZSt.keep {h h' : Heap} (st : ZSt z TI TO i1 i2 l1 l2 S xs ys h i) (lo : ZLow z TI TO i1 i2 l1 l2 S) (k : ∀ b o, b ≠ S → h.get? b = some o → h'.get? b = some o) : ZSt z TI TO i1 i2 l1 l2 S xs ys h' i := by
  obtain ⟨e1, e2, e3, e4, e5, e6⟩ := st
  have ne : ∀ {c : Addr}, c < S → c ≠ S := fun h => Nat.ne_of_lt h
  refine ⟨k _ _ (ne lo.TI) e1, e2.at fun o e => k _ o (ne lo.i1) e, e3.at fun o e => k _ o (ne lo.i2) e, e4.at fun o e => k _ o (ne lo.l1) e, e5.at fun o e => k _ o (ne lo.l2) e, ?_⟩
  rcases e6 with ⟨e6, a, b, e7⟩ | ⟨T, f, oT, e6, e7, n1, n2, n3, n4⟩
  · exact .inl ⟨k _ _ (ne lo.z) e6, a, b, k _ _ (ne lo.TO) e7⟩
  · exact .inr ⟨T, f, oT, k _ _ (ne lo.z) e6, k _ _ n4 e7, n1, n2, n3, n4⟩
end
/-- the pairs that were made, behind S -/
structure ZMade (xs ys : Array Value) (S : Addr) (h : Heap) (as : List Addr) : Prop where
  above : ∀ a ∈ as, S < a
  pairs : ∀ (j : Nat) (a : Addr), as[j]? = some a → ∃ x y, xs[j]? = some x ∧ ys[j]? = some y ∧ IsPair h a x y
theorem ZMade.keep {xs ys : Array Value} {S : Addr} {h h' : Heap} {as : List Addr} (g : ZMade xs ys S h as) (k : ∀ b o, S < b → h.get? b = some o → h'.get? b = some o) : ZMade xs ys S h' as :=
  ⟨g.above, fun j a e => let ⟨x, y, e1, e2, e3⟩ := g.pairs j a e; ⟨x, y, e1, e2, k a _ (g.above a (List.mem_of_getElem? e)) e3⟩⟩
/-! ### dict(list(zip(a, b))) -/
end Zl
set_option Elab.async false
set_option linter.all false
set_option maxRecDepth 100000
set_option maxHeartbeats 2000000
/-! ZXC: for k in d, the keys tuples; list(d), d a dict of the text. -/
namespace Zl
open PySem L2 PySem.Spec PyProof.Rows
section
variable {X : Cx} {F : Ev}
/-! ### list(NAME), NAME a dict of the text -/
theorem cr_listT {b : Addr} {kvs : List (Key × V)} (hc : X.calm = true) (S : SDk X.prog X.w X.K b kvs) (hz : kvs.length ≤ sizeLine) : CallR X (.type "list") (fun xs H Q => xs = [.ref b] ∧ ∀ p, H p = none → Q (.ref p) (L2.upd H p (.lst ((kvs.map (·.1)).map kV)))) := by
  intro pins s σ H xs us Q I r h
  obtain ⟨rfl, h⟩ := h
  obtain ⟨u, rfl, rx⟩ := vals1 r
  cases rx
  obtain ⟨vs, rel, dd⟩ := S.at' _ I.kIn
  obtain ⟨ep, dat⟩ := dd.dictAt
  have nl : kvs.length = vs.length := rel.length
  have kk := rel.keys
  refine PySem.W.kdl_call (PySem.W.kdl_dict (kvs := vs) (ep := ep) (knd := mixKind X.prog X.w) S.lo) (I.ok.hd hc) dat (by rw [← nl]; exact hz) fun h1 t1 out c keep hS got => ?_
  have hv : Vals ((kvs.map (·.1)).map kV) out.toList := by
    rw [kk]
    refine vals_of_at (by rw [List.length_map, List.length_map, Array.length_toList]; exact got.1.symm) fun j x w e1 e2 => ?_
    obtain ⟨k, y, g1, g2⟩ := got.2 j w (by rw [← Array.getElem?_toList]; exact e2)
    rw [List.getElem?_map, List.getElem?_map, g1] at e1
    cases e1
    exact keyIs_rel g2
  exact ⟨.ref s.heap.objs.size, _, I.laid (t' := t1) keep (Nat.le_refl _) (show ObjOk X.prog X.w _ _ _ (.lst ((kvs.map (·.1)).map kV)) from ⟨by rw [List.length_map, List.length_map]; exact hz, out.toList, c, hv, by rw [Array.toArray_toList]; exact hS⟩), rfl, h _ (I.hok.fresh (Nat.le_refl _))⟩
theorem tab_keys {K : PySem.W.Frag} {m : List Addr} {H : Hp} : ∀ {kvs : List (Key × V)} {t : List (D × D)}, TabR K F kvs t → Reps K F m H ((kvs.map (·.1)).map kV) (t.map (·.1))
  | _, _, .nil => .nil
  | _, _, .cons (x := x) h1 h2 h3 => by
    refine .cons ?_ (tab_keys h3)
    cases x <;> first | (cases h1; done) | skip
    · cases h1; exact .int _
    · cases h1; exact .str _
theorem zlistT {x : Str} {b : Addr} {kvs : List (Key × V)} {tb : List (D × D)} {p p2 pos : Pos} (hc : X.calm = true) (hg0 : Gl X "list") (hm0 : X.mg "list" = none) (hg : Gl X x) (hm : X.mg x = some (.ref b)) (S : SDk X.prog X.w X.K b kvs) (R : TabR X.K F kvs tb) (hl : tb.length ≤ 1000)
    (hd : (x == ("__debug__" : Str)) = false := by decide) (na : starEach [.Name x p2] X.env = (false, eval (.Name x p2) X.env) :: starEach [] X.env := by rfl) :
    PE X (.Call (.Name "list" p) [.Name x p2] [] pos) (tN X.K F (fun _ _ => .ret (tb.map (·.1)))) :=
  PEimp (pe_callTy (cr_listT hc S (by
    have h1 := (tab_keys (m := []) (H := fun _ => none) R).length
    rw [List.length_map, List.length_map, List.length_map] at h1
    have h2 : (1000 : Nat) ≤ sizeLine := by decide
    omega)) hg0 hm0 PyProof.Rows.boot_list (pa_cons (pe_glob (v := V.ref b) hg hm rfl hd) pa_nil na) (he := na)) fun σ H Q h => by
    obtain ⟨ρ, m0, m1, fr, hp, a, h⟩ := h
    refine ⟨rfl, fun p hf => ?_⟩
    obtain ⟨k3, a3⟩ := a.upd (o := .lst ((kvs.map (·.1)).map kV)) hf
    exact h _ p _ k3 a3.row hf upd_same (tab_keys R)
end
end Zl
set_option Elab.async false
set_option linter.all false
set_option maxRecDepth 100000
set_option maxHeartbeats 2000000
/-! ZXD: sorted(a list that is a value). -/
namespace Zl
open PySem L2 PySem.Spec PyProof.Rows
section
variable {X : Cx} {F : Ev}
def vL (f : Ex) : Fr → Hz → T (List D) := fun fr hp => (f fr hp).bind asLst
theorem zsortSX {e : Expr} {f : Ex} {p pos : Pos} (hg : Gl X "sorted") (hm : X.mg "sorted" = none) (he : PE X e (tX X.K F f)) (na : starEach (e :: []) X.env = (false, eval e X.env) :: starEach [] X.env := by rfl) : PE X (.Call (.Name "sorted" p) [e] [] pos) (tN X.K F (nSortS (vL f))) :=
  PEimp (pe_callB cr_sortedS hg hm (by decide +kernel) (pa_cons he pa_nil na) (he := na)) fun σ H Q h => by
    obtain ⟨ρ, m0, m1, fr, hp, a, h⟩ := h
    show tX X.K F f σ H fun x H1 => rSortedS X.K [x] H1 Q
    refine tX_mk a (T.all_bind (T.all_bind h)) fun x hx H1 v k1 a1 rx => ?_
    obtain ⟨xs, rfl, hx⟩ := all_asLst hx
    obtain ⟨b, vs, rfl, hn, hl, rs⟩ := rx.lstR
    obtain ⟨ss, e, hx⟩ := all_ofO (T.all_bind hx)
    obtain ⟨ok, k⟩ := all_guard hx
    rw [Bool.and_eq_true, Bool.and_eq_true] at ok
    have ev := strs_reps rs e
    have el : ss.length = xs.length := by
      have := rs.length
      rw [ev, List.length_map, List.length_map] at this
      exact this
    subst ev
    have hlen := few_le ok.1
    refine ⟨b, ss.map mkS, rfl, SqL.of hl, ?_, fun ys q hpm hso hq => ?_⟩
    · rw [List.length_map]
      omega
    · have hp2 : ((isortS ss).map mkS).Perm (ss.map mkS) := (List.isPerm_iff.mp ok.2.2).map mkS
      have ey : ys = (isortS ss).map mkS := sortedS_one hso ok.2.1 (hpm.trans hp2.symm)
      subst ey
      obtain ⟨k3, a3⟩ := a1.upd (o := .lst (((isortS ss).map mkS).map V.str)) hq
      exact k _ q _ (k1.trans k3) a3.row (a.free k1 a1.row hq) upd_same (reps_strs (isortS ss))
end
end Zl
set_option Elab.async false
set_option linter.all false
set_option maxRecDepth 100000
set_option maxHeartbeats 2000000
/-! ZXE: an own list becomes a value. -/
namespace Zl
open PySem L2 PySem.Spec PyProof.Rows
def frzS (n : Nat) (d : D) : Option SV → Option SV
  | some (.r k) => if Nat.beq k n then some (.v d) else some (.r k)
  | s => s
def frzF (n : Nat) (d : D) : Fr → Fr
  | [] => []
  | s :: r => frzS n d s :: frzF n d r
theorem frzF_get (n : Nat) (d : D) : ∀ (fr : Fr) (i : Nat), (frzF n d fr)[i]? = (fr[i]?).map (frzS n d)
  | [], i => by simp [frzF]
  | s :: r, 0 => by simp [frzF]
  | s :: r, i + 1 => by simpa [frzF] using frzF_get n d r i
theorem frzF_len (n : Nat) (d : D) : ∀ fr : Fr, (frzF n d fr).length = fr.length
  | [] => rfl
  | s :: r => congrArg (· + 1) (frzF_len n d r)
/-- the frame in which the last own list, which slot i holds, is a value -/
def sFrz (i : Nat) (g : Sm) : Sm := fun fr hp => match gt fr i with
  | some (.r n) => (ofO hp[n]?).bind fun xs => guardT (lstOk xs && Nat.beq (n + 1) hp.length) (g (frzF n (.lst xs) fr) (hp.take n))
  | _ => .fail
section
variable {X : Cx} {F : Ev}
theorem At.frz {K : PySem.W.Frag} {F : Ev} {ρ : Option Addr} {m0 m1 : List Addr} {H : Hp} {σ : L2.St} {fr : Fr} {hp : Hz} (a : At K F ρ m0 m1 H σ fr hp) {n : Nat} {xs : List D} (e : hp[n]? = some xs) (ok : lstOk xs = true) (hl : n + 1 = hp.length) : At K F ρ m0 (m1.take n) H σ (frzF n (.lst xs) fr) (hp.take n) := by
  obtain ⟨b, e1, cr⟩ := a.sim.cell n xs e
  obtain ⟨vs, e2, rs⟩ := cr.lst ok
  have sub : ∀ c, c ∈ m0 ++ m1.take n → c ∈ m0 ++ m1 := fun c q => (List.mem_append.mp q).elim (List.mem_append_left _) fun z => List.mem_append_right _ (List.mem_of_mem_take z)
  have hb1 : b ∈ m1 := List.mem_of_getElem? e1
  have hbn : b ∉ m1.take n := fun q => by
    obtain ⟨k, hk⟩ := List.mem_iff_getElem?.mp q
    rw [List.getElem?_take] at hk
    split at hk
    · rename_i hlt
      have := (List.getElem?_inj (List.getElem?_eq_some_iff.mp hk).1 a.sim.nd).mp (hk.trans e1.symm)
      omega
    · cases hk
  refine ⟨⟨by rw [frzF_len]; exact a.fr.len, fun i s es => ?_⟩, ⟨by rw [List.length_take, List.length_take, a.sim.len], (List.take_sublist n m1).nodup a.sim.nd, fun c q z => a.sim.dis c q (List.mem_of_mem_take z), fun c q => a.sim.dom c (sub c q), fun k c ek => ?_⟩, a.row, a.own⟩
  · rw [frzF_get] at es
    cases ef : fr[i]? with
    | none => rw [ef] at es; cases es
    | some s0 =>
      rw [ef] at es
      have es : frzS n (.lst xs) s0 = some s := by simpa using es
      cases s0 with
      | none => cases es
      | some s1 =>
        obtain ⟨v, g1, g2⟩ := a.fr.slot i s1 ef
        refine ⟨v, g1, ?_⟩
        cases s1 with
        | v d =>
          cases es
          exact Rep.sub g2 sub
        | row =>
          cases es
          exact g2
        | r k =>
          obtain ⟨c, f1, f2⟩ := g2
          have es : (if Nat.beq k n then some (SV.v (.lst xs)) else some (.r k)) = some s := es
          by_cases hk : Nat.beq k n = true
          · rw [if_pos hk] at es
            cases es
            have hk := Nat.eq_of_beq_eq_true hk
            subst hk
            rw [e1] at f1
            cases f1
            rw [f2]
            exact .lst (fun q => (List.mem_append.mp q).elim (fun z => a.sim.dis b z hb1) hbn) e2 (rs.sub sub)
          · rw [if_neg hk] at es
            cases es
            have hne : k ≠ n := fun z => hk (by rw [z]; exact Nat.beq_refl n)
            have hlt : k < m1.length := (List.getElem?_eq_some_iff.mp f1).1
            have := a.sim.len
            refine ⟨c, ?_, f2⟩
            rw [List.getElem?_take, if_pos (by omega)]
            exact f1
  · rw [List.getElem?_take] at ek
    split at ek
    · rename_i hlt
      obtain ⟨c1, h1, cr1⟩ := a.sim.cell k c ek
      exact ⟨c1, by rw [List.getElem?_take, if_pos hlt]; exact h1, cr1.tr (fun _ z => z) fun vs ds r => r.sub sub⟩
    · cases ek
theorem zfrz {rest : List Stmt} {g : Sm} (i : Nat) (h : PSs X rest (tS X.K F g)) : PSs X rest (tS X.K F (sFrz i g)) :=
  PSsimp h fun D σ H hh => by
    obtain ⟨ρ, m0, m1, fr, hp, a, hh⟩ := hh
    unfold sFrz at hh
    split at hh
    · rename_i n eg
      obtain ⟨xs, e, hh⟩ := all_ofO (T.all_bind hh)
      obtain ⟨ok, hh⟩ := all_guard hh
      rw [Bool.and_eq_true] at ok
      exact tS_mk (a.frz e ok.1 (Nat.eq_of_beq_eq_true ok.2)) ⟨fun a o _ _ e => e, fun c q => .inl (List.mem_of_mem_take q)⟩ hh
    · exact hh.elim
end
end Zl
set_option Elab.async false
set_option linter.all false
set_option maxRecDepth 100000
set_option maxHeartbeats 4000000
/-! ZXF: sorted(set(t)), t a tuple of different texts. -/
namespace Zl
open PySem L2 PySem.Spec PyProof.Rows
/-- the set at a: its members' values, in some order -/
def SetV (P : Program) (w : World) (h : Heap) (a : Addr) (vs : List Value) : Prop :=
  ∃ o es ep t, h.get? a = some o ∧ o.ExactSet ∧ o.data = .set es ep t ∧ ElemsOf (PySem.strKind P w) es.toList ∧ (es.toList.map (·.2)).Perm vs ∧ es.size < scanBound ∧ t.fits es.size = true ∧ Ris t.place.toList ∧
    (w.params.followText "set-order" = true ∨ t.led = true)
section
variable {P : Program} {w : World} {A : Around} {E : Value → Shared → Prop} {s : Shared} {a : Addr} {vs : List Value}
theorem SetV.at {h h' : Heap} (R : SetV P w h a vs) (k : ∀ o, h.get? a = some o → h'.get? a = some o) : SetV P w h' a vs := by
  obtain ⟨o, es, ep, t, ho, r⟩ := R
  exact ⟨o, es, ep, t, k o ho, r⟩
theorem SetV.fresh {h : Heap} (ho : h.get? a = some { cls := .type "set", dict := none, data := .set #[] 0 (.fresh 0 0 (!w.params.followText "set-order")) }) : SetV P w h a [] := by
  refine ⟨_, #[], 0, _, ho, ⟨rfl, rfl, rfl⟩, rfl, (fun e he => by simp at he), .refl _, (by decide), (by rfl), List.Pairwise.nil, ?_⟩
  show _ ∨ (!w.params.followText "set-order") = true
  cases w.params.followText "set-order" <;> simp
theorem setV_tail {g : Bool → Sem Unit} (hg : ∀ (b : Bool) (s₁ : Shared) (Q' : Unit → Shared → Prop), Q' () s₁ → wpAny (model P w) A (g b) Q' E s₁)
    {o : Obj} {es : Array (Int × Value)} {ep : Nat} {t : SetTable} (ho : s.heap.get? a = some o) (hex : o.ExactSet) (hd : o.data = .set es ep t)
    {es1 : Array (Int × Value)} {t2 : SetTable} (g1 : ElemsOf (PySem.strKind P w) es1.toList) (pm1 : (es1.toList.map (·.2)).Perm vs)
    (hb1 : es1.size < scanBound) (hf2 : t2.fits es1.size = true) (hr : Ris t2.place.toList) (hl : w.params.followText "set-order" = true ∨ t2.led = true) {wasDummy : Bool} {R : Option Bool → Shared → Prop}
    (hR : ∀ h', Heap.SameBut a s.heap h' → SetV P w h' a vs → R (some true) { s with heap := h' }) :
    wpAny (model P w) A (do
        storeSet a es1 t2
        if (!wasDummy && t2.tooFull) = true then do
            g (relayAll t2 es1 (SetTable.grown es1.size)).2.2
            storeSet a (relayAll t2 es1 (SetTable.grown es1.size)).1 (relayAll t2 es1 (SetTable.grown es1.size)).2.1
            pure (some true)
          else pure (some true)) R E s := by
  refine wpAny_bind (wpAny_storeSet_of ho hd ?_ (fits_of_scanBound hb1))
  have one := store_at (es' := es1) (t' := t2) ho hd
  have b1 := Heap.SameBut.update s.heap a (Obj.putSet es1 t2)
  split
  · have pm := relayAll_perm t2 es1 (SetTable.grown es1.size)
    have f3 := relayAll_fits t2 es1 (SetTable.grown es1.size)
    have r3 := relayAll_ris t2 es1 (SetTable.grown es1.size)
    have l3 := relayAll_led t2 es1 (SetTable.grown es1.size)
    generalize relayAll t2 es1 (SetTable.grown es1.size) = Z at pm f3 r3 l3 ⊢
    obtain ⟨es2, t3, gave⟩ := Z
    dsimp only at pm f3 r3 l3 ⊢
    have sz : es2.size = es1.size := by rw [← Array.length_toList, pm.length_eq, Array.length_toList]
    refine wpAny_bind (hg _ _ _ ?_)
    refine wpAny_bind (wpAny_storeSet_of one rfl ?_ (fits_of_scanBound (by rw [sz]; exact hb1)))
    have two := store_at (es' := es2) (t' := t3) one rfl
    refine wpAny_pure (hR _ (b1.trans (Heap.SameBut.update _ a _)) ⟨_, es2, _, t3, two, hex, rfl, g1.perm pm, (pm.map _).trans pm1, by rw [sz]; exact hb1, f3, r3, hl.imp id fun z => by rw [l3]; exact z⟩)
  · exact wpAny_pure (hR _ b1 ⟨_, es1, _, t2, one, hex, rfl, g1, pm1, hb1, hf2, hr, hl⟩)
theorem setV_add {x : Str} {tk : Tok} {Q : Bool → Shared → Prop} (R : SetV P w s.heap a vs) (hx : ∀ t, Value.str x t ∉ vs) (room : vs.length + 1 < scanBound)
    (hQ : ∀ h', Heap.SameBut a s.heap h' → SetV P w h' a (Value.str x tk :: vs) → Q true { s with heap := h' }) :
    wpAny (model P w) A (setAddHashed a (.str x tk) ((PySem.strKind P w).hash x)) Q E s := by
  obtain ⟨o, es, ep, t, ho, hex, hd, hel, pv, hb, hf, hr, hl⟩ := R
  have hkey : (PySem.strKind P w).is x (.str x tk) = true := strKind_is P w x tk
  have hsc : (Value.str x tk).scannable = true := rfl
  unfold setAddHashed setAddHashedIn
  refine wpAny_holding (wpAny_bind (wpAny_setState_of ho hd hf ?_))
  dsimp only
  rw [byScan_of hsc hb hel]
  simp only [↓reduceIte]
  unfold setAddByScan
  refine wpAny_bind ?_
  refine wpAny_bind (wpAny_rule ?_)
  refine wpAny_bind (wpAny_setScan_of hkey ho hd hf hel ?_)
  have none' : List.findIdx? (fun e => (PySem.strKind P w).is x e.2) es.toList = none := by
    rw [List.findIdx?_eq_none_iff]
    intro e he
    cases q : (PySem.strKind P w).is x e.2 with
    | false => rfl
    | true =>
      obtain ⟨t', et⟩ := Value.isStrOf_shape (x := x) (v := e.2) q
      exact absurd (pv.mem_iff.mp (List.mem_map.mpr ⟨e, he, et⟩)) (hx t')
  rw [none']
  dsimp only
  have hgw : ∀ (b : Bool) {s₁ : Shared} {Q' : Unit → Shared → Prop}, Q' () s₁ → wpAny (model P w) A (match b with | true => rule "set.scan.the-table-gave-way" | false => pure ()) Q' E s₁ :=
    fun b s₁ Q' q => by cases b <;> first | exact wpAny_pure q | exact wpAny_rule q
  have pm := layNew_perm t es ((PySem.strKind P w).hash x) (.str x tk)
  have f1 := layNew_fits t es ((PySem.strKind P w).hash x) (.str x tk)
  have r1 := layNew_ris t es ((PySem.strKind P w).hash x) (.str x tk) hr
  have l1 := layNew_led t es ((PySem.strKind P w).hash x) (.str x tk)
  generalize layNew t es ((PySem.strKind P w).hash x) (.str x tk) = Z at pm f1 r1 l1 ⊢
  obtain ⟨es1, t1, wasDummy, gave⟩ := Z
  dsimp only at pm f1 r1 l1 ⊢
  rw [Array.toList_push] at pm
  have g1 : ElemsOf (PySem.strKind P w) es1.toList := (hel.push hkey hsc).perm pm
  have pc : (es1.toList.map (·.2)).Perm (Value.str x tk :: vs) := ((pm.trans (List.perm_append_singleton _ _)).map (·.2)).trans (List.Perm.cons _ pv)
  have hsz : es1.size = vs.length + 1 := by
    have := pc.length_eq
    rw [List.length_map, Array.length_toList, List.length_cons] at this
    exact this
  have hb1 : es1.size < scanBound := by rw [hsz]; exact room
  have hled : w.params.followText "set-order" = true ∨ t1.led = true := hl.imp id fun z => by rw [l1]; exact z
  refine wpAny_bind (hgw _ ?_)
  split
  · refine wpAny_bind ?_
    rw [hashByValue_scannable 8 hsc]
    refine wpAny_pure ?_
    refine setV_tail ?_ ho hex hd g1 pc hb1 ?_ ?_ ?_ ?_
    · intro b s₁ Q' q; cases b <;> first | exact wpAny_pure q | exact wpAny_rule q
    · first | (split <;> first | exact f1 | exact SetTable.fits_plain_off f1) | exact f1
    · first | (split <;> exact r1) | exact r1
    · first | (split <;> exact hled) | exact hled
    · intro h' sb r; dsimp only; exact wpAny_pure (hQ h' sb r)
  · refine wpAny_bind (wpAny_pure ?_)
    simp only [↓reduceIte]
    refine setV_tail ?_ ho hex hd g1 pc hb1 f1 r1 hled ?_
    · intro b s₁ Q' q; cases b <;> first | exact wpAny_pure q | exact wpAny_rule q
    · intro h' sb r; dsimp only; exact wpAny_pure (hQ h' sb r)
/-- the loop that puts them in -/
theorem setV_loop {I : Addr} {fp wr : List Addr} {G : Array GenState → Array GenState → Prop} {n : Nat} {Pv : Nat → Value → Prop} {St : Nat → Shared → Prop} {R : Result → Shared → Prop}
    (W : WalksS P w A.in1 I fp wr G n Pv St) (S : Addr) (hSf : S ∉ fp) (us : List Value) (xs : List Str) (hu : StrsAre us xs) (hn : n = us.length) (nd : xs.Nodup) (hb : us.length + 1 < scanBound) (hval : ∀ i v, Pv i v → us[i]? = some v) :
    ∀ (k i : Nat) (s : Shared), n - i = k → i ≤ n → St i s → SetV P w s.heap S (us.take i).reverse →
      (∀ s', Moved (S :: wr) G s s' → SetV P w s'.heap S us.reverse → R (.ok (.ret .none)) s') →
      codeAny (model P w) A (.builtin "set.update.loop" ⟨[.ref S, .ref I], []⟩) R s := by
  have hSw : S ∉ wr := fun h => hSf (W.sub _ h)
  have sub : ∀ b ∈ wr, b ∈ S :: wr := fun b hb => List.mem_cons_of_mem _ hb
  intro k
  induction k with
  | zero =>
    intro i s hk hi hst hS hR
    have e : us.take i = us := List.take_of_length_le (by omega)
    rw [e] at hS
    have hin : i = n := by omega
    subst hin
    refine codeAny_builtin PyProof.Rows.F.entry_set_update_loop ?_
    rw [Around.under_plainId PyProof.Rows.F.plain_set_update_loop _]
    show wpAny _ A.in1 (pyNext (.ref I) >>= _) _ _ s
    refine wpAny_bind (W.done s _ _ hst fun s' hm => ?_)
    exact wpAny_pure (hR s' (hm.mono sub) (hS.at fun o e => hm.heap S o hSw e))
  | succ k ih =>
    intro i s hk hi hst hS hR
    have lt : i < n := by omega
    refine codeAny_builtin PyProof.Rows.F.entry_set_update_loop ?_
    rw [Around.under_plainId PyProof.Rows.F.plain_set_update_loop _]
    show wpAny _ A.in1 (pyNext (.ref I) >>= _) _ _ s
    refine wpAny_bind (W.item i s _ _ lt hst fun v s' hP hst' hm => ?_)
    have hv := hval i v hP
    obtain ⟨t, rfl⟩ := SS.strs_at hu i v hv
    have hxl : i < xs.length := by rw [← StrsAre.len_eq hu]; omega
    have hS' : SetV P w s'.heap S (us.take i).reverse := hS.at fun o e => hm.heap S o hSw e
    show wpAny _ A.in1 (holding [Value.str (xs.getD i Str.empty) t] (setAdd S (.str (xs.getD i Str.empty) t)) >>= _) _ _ s'
    refine wpAny_bind (wpAny_holding ?_)
    unfold setAdd
    refine wpAny_holding ?_
    refine wpAny_bind ((PySem.strKind P w).pyHash (k := xs.getD i Str.empty) (strKind_is _ _ _ _) ?_)
    refine setV_add (s := { s' with toks := s'.toks + 1 }) hS' (fun t' hm' => ?_) (by rw [List.length_reverse, List.length_take]; omega) fun h' sb hS2 => ?_
    · rw [List.mem_reverse] at hm'
      obtain ⟨j, hj⟩ := List.mem_iff_getElem?.mp hm'
      have hji : j < i := by
        have := (List.getElem?_eq_some_iff.mp hj).1
        rw [List.length_take] at this
        omega
      rw [List.getElem?_take_of_lt hji] at hj
      obtain ⟨t2, e2⟩ := SS.strs_at hu j _ hj
      injection e2 with e2
      have hjl : j < xs.length := by omega
      rw [List.getD_eq_getElem?_getD, List.getD_eq_getElem?_getD, List.getElem?_eq_getElem hjl, List.getElem?_eq_getElem hxl] at e2
      exact List.pairwise_iff_getElem.mp nd j i hjl hxl hji e2.symm
    · have hS3 : SetV P w h' S (us.take (i + 1)).reverse := by
        rw [List.take_add_one, hv]
        simpa using hS2
      refine wpAny_pure ⟨plainId_quiet PyProof.Rows.F.plain_set_update_loop _, ih (i + 1) _ (by omega) lt (W.frame _ s' _ _ hst' (Nat.le_succ _) fun b hb o e => ?_) hS3 fun s'' hm'' hS'' => ?_⟩
      · rw [sb.2 b (fun h : b = S => hSf (by rw [← h]; exact hb))]; exact e
      · refine hR s'' (Moved.trans W.gtrans ((hm.mono sub).then_heap (Nat.le_succ _) fun b o hb e => ?_) hm'') hS''
        rw [sb.2 b (fun h : b = S => hb (by rw [h]; exact List.mem_cons_self))]; exact e
/-- set(t) -/
theorem call_setV {l : Addr} {items : Array Value} (xs : List Str) {Q : Value → Shared → Prop} (hh : A.handled = none) (hl : s.heap.IsTuple l items) (hu : StrsAre items.toList xs) (nd : xs.Nodup) (hb : items.toList.length + 1 < scanBound)
    (h : ∀ (h' : Heap) (tk : Nat), SetV P w h' s.heap.objs.size items.toList.reverse → (∀ b o, s.heap.get? b = some o → h'.get? b = some o) → Q (.ref s.heap.objs.size) { s with heap := h', toks := tk }) :
    wpAny (model P w) A (call (.type "set") [.ref l]) Q E s := by
  obtain ⟨c, tl, hmro⟩ := PySem.F.called_set.mro
  have m1 := PySem.F.called_set.made
  have m2 := PySem.F.called_set.sub
  refine wpAny_call (codeAny_of_tree ?_)
  show wpAny _ _ (callAny (.type "set") _) _ _ _
  refine wpAny_pure ⟨Code.quiet_builtin _ (by decide +kernel), codeAny_builtin PySem.F.entry_type_call ?_⟩
  rw [Around.under_plain (weight_type_call_type "set" [.ref l] []) rfl]
  have m3 := PySem.F.called_set.notType
  have m4 := PySem.F.called_set.canCreate
  have m5 := PySem.F.typeCall_set_1 (.ref l)
  repeat (any_goals (first | assumption | wp_step))
  refine codeAny_mono (code_set_led1 (.ref l) (E := E) (Q₁ := fun obj s₁ => obj = .ref s.heap.objs.size ∧ s₁ = { s with heap := s.heap.push { cls := .type "set", dict := none, data := .set #[] 0 (.fresh 0 0 (!w.params.followText "set-order")) } }) ⟨rfl, rfl⟩) fun r s₁ hr => ?_
  cases r with
  | error e => exact hr
  | ok fl =>
    cases fl with
    | ret obj =>
      obtain ⟨rfl, rfl⟩ := hr
      have hS : (s.heap.push { cls := .type "set", dict := none, data := .set #[] 0 (.fresh 0 0 (!w.params.followText "set-order")) }).get? s.heap.objs.size = some { cls := .type "set", dict := none, data := .set #[] 0 (.fresh 0 0 (!w.params.followText "set-order")) } := Heap.get?_push_size _ rfl
      have hT : Shared.TypeIs { s with heap := s.heap.push { cls := .type "set", dict := none, data := .set #[] 0 (.fresh 0 0 (!w.params.followText "set-order")) } } (.ref s.heap.objs.size) "set" := ⟨_, hS, rfl⟩
      have n1 := PySem.F.called_set.init.lookup
      have n2 := PySem.F.called_set.init.bind (.ref s.heap.objs.size)
      repeat (any_goals (first | assumption | wp_step))
      refine codeAny_mono (codeAny_call_builtin (R := wants (fun r s₂ => r = .none ∧ ∃ h' tk, s₂ = { s with heap := h', toks := tk } ∧ SetV P w h' s.heap.objs.size items.toList.reverse ∧
          (∀ b o, s.heap.get? b = some o → h'.get? b = some o)) E) PySem.F.called_set.init.plain PySem.F.entry_set_init (check_set_init_1 hT ?_)) fun r₂ s₂ hr₂ => ?_
      · obtain ⟨⟨oc, od, odt, osl⟩, hol, hcl, nl, hdl⟩ := hl
        simp only at hcl hdl
        subst hcl; subst hdl
        have hol' := Heap.get?_push_of_some { cls := .type "set", dict := none, data := .set #[] 0 (.fresh 0 0 (!w.params.followText "set-order")) } hol
        have k1 := PySem.F.sub_tuple_set
        have k2 := PySem.F.sub_tuple_frozenset
        have k3 : (Value.type "tuple" == Value.type "dict") = false := by decide
        have hl1 : (s.heap.push { cls := .type "set", dict := none, data := .set #[] 0 (.fresh 0 0 (!w.params.followText "set-order")) }).IsTuple l items := ⟨_, hol', rfl, nl, rfl⟩
        unfold Builtin.«set.__init__» noKeywords Builtin.Frozenset.updateFrom
        generalize hPI : pyIter = PI
        wp_walk
        subst hPI
        refine wpAny_pyIter_tuple hl1 ?_
        refine wpAny_bind (wpAny_runValue ?_)
        have lt : l < s.heap.objs.size := Heap.lt_size hol
        have hh3 : A.in1.in1.in1.handled = none := by simp [hh]
        have neI : l ≠ (s.heap.push { cls := .type "set", dict := none, data := .set #[] 0 (.fresh 0 0 (!w.params.followText "set-order")) }).objs.size := by
          rw [Heap.size_push]; exact Nat.ne_of_lt (Nat.lt_succ_of_lt lt)
        have nS : s.heap.objs.size ∉ [(s.heap.push { cls := .type "set", dict := none, data := .set #[] 0 (.fresh 0 0 (!w.params.followText "set-order")) }).objs.size, l] := by
          rw [Heap.size_push]; simp only [List.mem_cons, List.mem_singleton, List.not_mem_nil, or_false, not_or]
          exact ⟨Nat.ne_of_lt (Nat.lt_succ_self _), Nat.ne_of_gt lt⟩
        refine setV_loop ((Walks.tuple hh3 _ l neI items).toS) s.heap.objs.size nS items.toList xs hu Array.length_toList.symm nd hb (fun i v hv => by rw [Array.getElem?_toList]; exact hv) (items.size - 0) 0 _ (by omega) (Nat.zero_le _)
          ⟨⟨_, Heap.get?_push_size _ rfl, rfl, rfl⟩, (hl1.push _)⟩ (SetV.fresh (Heap.get?_push_of_some _ hS)) ?_
        intro s' hm hS'
        obtain ⟨h', g2, d', tk', os'⟩ := s'
        have eg : g2 = s.gens := hm.gens
        have ed : d' = s.drawn := hm.drawn
        have eo : os' = s.os := hm.os
        subst eg; subst ed; subst eo
        show wpAny _ _ _ _ _ _
        refine wpAny_pure ?_
        show wpAny _ _ (ret Value.none) _ _ _
        refine wpAny_pure ⟨rfl, h', tk', rfl, hS', fun b o e => ?_⟩
        have hb0 : b < s.heap.objs.size := Heap.lt_size e
        have hb1 : b ≠ s.heap.objs.size := Nat.ne_of_lt hb0
        have hb2 : b ≠ (s.heap.push { cls := .type "set", dict := none, data := .set #[] 0 (.fresh 0 0 (!w.params.followText "set-order")) }).objs.size := by
          rw [Heap.size_push]; exact Nat.ne_of_lt (Nat.lt_succ_of_lt hb0)
        exact hm.heap b o (by simp only [List.mem_cons, List.mem_singleton, List.not_mem_nil, or_false, not_or]; exact ⟨hb1, hb2⟩) (Heap.get?_push_of_some _ (Heap.get?_push_of_some _ e))
      · cases r₂ with
        | error e => exact hr₂
        | ok fl₂ =>
          cases fl₂ with
          | ret r =>
            obtain ⟨rfl, h', tk, rfl, hS', hk'⟩ := hr₂
            repeat (any_goals (first | assumption | wp_step))
            exact h _ _ hS' hk'
          | _ => exact hr₂.elim
    | _ => exact hr.elim
theorem strs_perm : ∀ {vs us : List Value} {xs : List Str}, StrsAre vs xs → us.Perm vs → ∃ zs, StrsAre us zs ∧ zs.Perm xs := by
  intro vs us xs h p
  have ex : ∀ {vs : List Value} {xs : List Str}, StrsAre vs xs → xs = vs.map fun v => match v with | .str x _ => x | _ => Str.empty := by
    intro vs xs h
    induction h with
    | nil => rfl
    | cons x t _ ih => rw [List.map_cons, ← ih]
  have al : ∀ {vs : List Value} {xs : List Str}, StrsAre vs xs → ∀ v ∈ vs, ∃ x t, v = .str x t := by
    intro vs xs h
    induction h with
    | nil => intro v hv; cases hv
    | cons x t _ ih =>
      intro v hv
      rcases List.mem_cons.mp hv with e | e
      · exact ⟨x, t, e⟩
      · exact ih v e
  have mk : ∀ us : List Value, (∀ v ∈ us, ∃ x t, v = Value.str x t) → StrsAre us (us.map fun v => match v with | .str x _ => x | _ => Str.empty) := by
    intro us
    induction us with
    | nil => intro _; exact .nil
    | cons v us ih =>
      intro hv
      obtain ⟨x, t, rfl⟩ := hv v List.mem_cons_self
      exact .cons x t (ih fun u hu => hv u (List.mem_cons_of_mem _ hu))
  refine ⟨_, mk us fun v hv => al h v (p.mem_iff.mp hv), ?_⟩
  rw [ex h]
  exact p.map _
/-- sorted(a set) -/
theorem sorted_setV {xs : List Str} {Q : Value → Shared → Prop} (R : SetV P w s.heap a vs) (hu : StrsAre vs xs) (hh : A.handled = none) (h64 : vs.length < 64)
    (hQ : ∀ s' p (out : Array Value) (c : Nat) (ys : List Str), (∀ b o, s.heap.get? b = some o → s'.heap.get? b = some o) → s'.gens = s.gens → s'.os = s.os → s.heap.objs.size ≤ p →
      s'.heap.get? p = some (seqObj "list" out c) → StrsAre out.toList ys → ys.Perm xs → sortedS ys = true → Q (.ref p) s') :
    wpAny (model P w) A (call (.builtin "sorted") [.ref a]) Q E s := by
  obtain ⟨o, es, ep, t, ho, hex, hd, hel, pv, hb, hf, hr, hl⟩ := R
  refine Calls.call_function_entry kind_sorted plain_sorted entry_sorted (args_sorted1 _) ?_
  unfold Builtin.«sorted»
  refine wpAny_bind (m := checkCount "sorted" 1 1 _) (wpAny_pure ?_)
  refine wpAny_bind (collect_set (A := A.in1) hh ⟨o, ho, hex.1, hd⟩ hf hb hr hl fun s1 us k1 hz g1 o1 pm => ?_)
  have pu : us.Perm vs := pm.trans pv
  have hlen : us.length = vs.length := pu.length_eq
  obtain ⟨zs, st, pz⟩ : ∃ zs, StrsAre us zs ∧ zs.Perm xs := strs_perm hu pu
  refine wpAny_bind (wpAny_newList ?_ (by rw [hlen, sizeLine_eq]; omega))
  have lo : (s1.heap.push (seqObj "list" us.toArray 0)).get? s1.heap.objs.size = some (seqObj "list" us.toArray 0) := Heap.get?_push_size _ rfl
  refine wpAny_bind (wpAny_holding (wpAny_call_entry slot_list_sort ⟨_, lo, rfl⟩ entry_list_sort ?_ (args_list_sort _)))
  refine list_sort_treeK (s := { s1 with heap := s1.heap.push (seqObj "list" us.toArray 0) }) strKind_oneLt lo st.keysOf (fun a c rest e => keyKind_strs (by rw [← e]; exact st)) (by omega) fun z' hp hs => ⟨_, rfl, ?_⟩
  obtain ⟨ys, q1, q2, q3⟩ := sorted_out_str st hp hs
  obtain ⟨e', he'⟩ := sortedHeap_at (out := (arrOf z').map (·.2)) (vs := us) lo
  refine wpAny_pure ⟨_, rfl, hQ _ s1.heap.objs.size ((arrOf z').map (·.2)) e' ys (fun b u e => ?_) g1 o1 hz he' q1 (q2.trans pz) q3⟩
  have q := k1 b u e
  have hlt := Heap.lt_size q
  show (sortedHeap (s1.heap.push (seqObj "list" us.toArray 0)) s1.heap.objs.size us _).get? b = some u
  rw [sortedHeap_old (Nat.ne_of_lt hlt) (by rw [size_push']; exact Nat.lt_succ_of_lt hlt)]
  exact Heap.get?_push_of_some _ q
end
end Zl
set_option Elab.async false
set_option linter.all false
set_option maxRecDepth 100000
set_option maxHeartbeats 4000000
/-! ZXG: the rule for sorted(set(t)). -/
namespace Zl
open PySem L2 PySem.Spec PyProof.Rows
section
variable {X : Cx} {F : Ev}
def tSortSet (K : PySem.W.Frag) (te : TE) : TE := fun σ H Q => te σ H fun x H1 => ∃ (t : Addr) (xs : List Str), x = .ref t ∧ SqT K H1 t (xs.map V.str) ∧ xs.Nodup ∧ xs.length < 60 ∧ ∀ ys p, ys.Perm xs → sortedS ys = true → H1 p = none → Q (.ref p) (L2.upd H1 p (.lst (ys.map V.str)))
theorem pe_sortSet {a : Expr} {ta : TE} {p p2 q pos : Pos} (hc : X.calm = true) (hg : Gl X "sorted") (hm : X.mg "sorted" = none) (hg2 : Gl X "set") (hm2 : X.mg "set" = none) (ha : PE X a ta)
    (na : starEach [a] X.env = (false, eval a X.env) :: starEach [] X.env := by rfl) : PE X (.Call (.Name "sorted" p) [.Call (.Name "set" p2) [a] [] q] [] pos) (tSortSet X.K ta) := by
  refine ⟨fun pins s σ H Q I h => ?_⟩
  refine Call_ (ld_blt I hg hm PyProof.Rows.boot_sorted ?_)
  refine PyProof.Rows.callWith_builtin1 (PyProof.Rows.args_cons ?_ rfl) rfl rfl
  refine Call_ (ld_blt I hg2 hm2 boot_set ?_)
  refine PyProof.Rows.callWith_type1 (PyProof.Rows.args_cons (thn (ha.run pins s σ H _ I h) fun v s1 ⟨x, H1, I1, r1, q1⟩ => PyProof.Rows.args_nil ?_) na) na rfl
  obtain ⟨l, xs, rfl, hq, nd, h60, q1⟩ := q1
  cases r1
  obtain ⟨its, r, pl, hz⟩ := I1.tuple hq
  have su : StrsAre its.toArray.toList xs := by simpa using strsAre_of r
  have ln : its.length = xs.length := by rw [← r.length, List.length_map]
  refine call_setV xs (I1.ok.hd hc) pl su nd (by
    rw [List.toList_toArray, ln]
    have : (64 : Nat) < scanBound := by decide
    omega) fun h' tk R hk => PyProof.Rows.args_nil ?_
  have I2 : Inv X pins σ H1 { s1 with heap := h', toks := tk } := I1.kept hk
  obtain ⟨zs, st, pz⟩ := strs_perm su (List.reverse_perm its.toArray.toList)
  refine sorted_setV (s := { s1 with heap := h', toks := tk }) R st (I2.ok.hd hc) (by rw [List.length_reverse, List.toList_toArray]; omega) fun s' p out c ys k g o hp hg hi hs hm => ?_
  have py : ys.Perm xs := hs.trans pz
  have hlen : (ys.map V.str).length ≤ sizeLine := by rw [List.length_map, py.length_eq, sizeLine_eq]; omega
  have hn : H1 p = none := I2.hok.fresh hp
  have J : Inv X pins σ (L2.upd H1 p (.lst (ys.map V.str))) { s1 with heap := s'.heap, gens := s'.gens, drawn := s'.drawn, toks := s'.toks } :=
    I2.call (s := { s1 with heap := h', toks := tk }) (ch := []) (Un.laid k hp hn) (I2.hok.laid k hp ⟨hlen, out.toList, c, vals_of_strs hi, hg⟩) (by rw [g]; exact I2.bare) (fun _ z => nomatch z)
  have e : s' = { s1 with heap := s'.heap, gens := s'.gens, drawn := s'.drawn, toks := s'.toks } := by
    cases s'
    cases o
    rfl
  rw [e]
  exact ⟨.ref p, _, J, rfl, q1 ys p py hm hn⟩
/-- all different -/
def diffS : List (List Nat) → Bool
  | [] => true
  | x :: r => !(r.any (eqNs x)) && diffS r
theorem diffS_nd : ∀ l : List (List Nat), diffS l = true → (l.map mkS).Nodup
  | [], _ => List.Pairwise.nil
  | x :: r, h => by
    unfold diffS at h
    rw [Bool.and_eq_true] at h
    refine List.pairwise_cons.mpr ⟨fun y hy e => ?_, diffS_nd r h.2⟩
    obtain ⟨z, hz, rfl⟩ := List.mem_map.mp hy
    have e2 : x = z := str_inj e
    subst e2
    have : r.any (eqNs x) = true := List.any_eq_true.mpr ⟨x, hz, by rw [eqNs_iff]; exact decide_eq_true rfl⟩
    rw [this] at h
    cases h.1
def nSortSet (f : Ex) : Fr → Hz → T (List D) := fun fr hp => (f fr hp).bind fun x => (asTup x).bind fun xs => (ofO (strsO xs)).bind fun ss => guardT (few xs 59 && (sortedS (ss.map mkS) && diffS ss)) (.ret xs)
theorem strsO_map : ∀ {xs : List D} {ss : List (List Nat)}, strsO xs = some ss → xs = ss.map D.str
  | [], ss, e => by cases e; rfl
  | x :: xs, ss, e => by
    cases x <;> first | (cases e; done) | skip
    rename_i s
    unfold strsO at e
    cases q : strsO xs with
    | none => rw [q] at e; cases e
    | some ss' =>
      rw [q] at e
      cases e
      rw [strsO_map q]
      rfl
theorem zsortSet {a : Expr} {f : Ex} {p p2 q pos : Pos} (hc : X.calm = true) (hg : Gl X "sorted") (hm : X.mg "sorted" = none) (hg2 : Gl X "set") (hm2 : X.mg "set" = none) (ha : PE X a (tX X.K F f))
    (na : starEach [a] X.env = (false, eval a X.env) :: starEach [] X.env := by rfl) : PE X (.Call (.Name "sorted" p) [.Call (.Name "set" p2) [a] [] q] [] pos) (tN X.K F (nSortSet f)) :=
  PEimp (pe_sortSet hc hg hm hg2 hm2 ha na) fun σ H Q h => by
    obtain ⟨ρ, m0, m1, fr, hp, a, h⟩ := h
    refine tX_mk a (T.all_bind h) fun x hx H1 v k1 a1 rx => ?_
    obtain ⟨xs, rfl, hx⟩ := all_asTup (T.all_bind hx)
    obtain ⟨ss, e, hx⟩ := all_ofO (T.all_bind hx)
    obtain ⟨ok, k⟩ := all_guard hx
    rw [Bool.and_eq_true, Bool.and_eq_true] at ok
    obtain ⟨b, vs, rfl, hq, rs⟩ := rx.tupR
    have ev := strs_reps rs e
    have ed := strsO_map e
    subst ev
    subst ed
    have hlen := few_le ok.1
    rw [List.length_map] at hlen
    refine ⟨b, ss.map mkS, rfl, hq, diffS_nd ss ok.2.2, by rw [List.length_map]; omega, fun ys q hpm hso hq => ?_⟩
    have ey : ys = ss.map mkS := sortedS_one hso ok.2.1 hpm
    subst ey
    obtain ⟨k3, a3⟩ := a1.upd (o := .lst ((ss.map mkS).map V.str)) hq
    exact k _ q _ (k1.trans k3) a3.row (a.free k1 a1.row hq) upd_same (reps_strs ss)
end
end Zl
set_option Elab.async false
set_option linter.all false
set_option maxRecDepth 100000
set_option maxHeartbeats 4000000
/-! ZXH: product(range(2), range(2), range(2), range(2)): made. -/
namespace Zi
open PySem PySem.Spec PyProof.Rows L2 Zl
/-- the pools: tuples of ints from 0 on -/
def PoolsAt (h : Heap) (ps : List (Addr × List Value)) : Prop := ∀ q ∈ ps, h.get? q.1 = some { cls := .type "tuple", data := .seq q.2.toArray } ∧ ItemsOf (fun i v => ∃ t, v = .int (0 + i * 1) t) q.2.toArray 2
theorem PoolsAt.keep {h h' : Heap} {ps : List (Addr × List Value)} (p : PoolsAt h ps) (k : ∀ b o, h.get? b = some o → h'.get? b = some o) : PoolsAt h' ps := fun q hq => ⟨k _ _ (p q hq).1, (p q hq).2⟩
def refsOf (ps : List (Addr × List Value)) : List Value := ps.map fun q => Value.ref q.1
end Zi
set_option Elab.async false
set_option linter.all false
set_option maxRecDepth 100000
set_option maxHeartbeats 4000000
/-! ZXI: product's next. -/
namespace Zi
open PySem PySem.Spec PyProof.Rows L2 Zl
def pdN (i : Nat) : List Nat := [(i - 1) / 8 % 2, (i - 1) / 4 % 2, (i - 1) / 2 % 2, (i - 1) % 2]
def pdF (pool : Addr) (i : Nat) (prev : Value) : List Value := [.ref pool, rawInt (pmSt i), prev] ++ (pdN i).map fun (i : Nat) => rawInt i
def poolsOf (ps : List (Addr × List Value)) : List (Array Value) := ps.map fun q => q.2.toArray
def rowOf (ps : List (Addr × List Value)) (ns : List Nat) : List Value := ((poolsOf ps).zip ns).map fun x => x.1.getD x.2 .none
section
variable {prog : Program} {w : World} {A : Around} {E : Value → Shared → Prop} {s : Shared}
theorem pools_read {Q : List (Array Value) → Shared → Prop} : ∀ {ps : List (Addr × List Value)}, PoolsAt s.heap ps → Q (poolsOf ps) s → wpAny (model prog w) A ((refsOf ps).mapM Builtin.Itertools.itPoolItems) Q E s
  | [], _, h => by
    show wpAny _ _ (List.mapM _ []) _ _ _
    rw [List.mapM_nil]
    exact wpAny_pure h
  | q :: ps, hp, h => by
    show wpAny _ _ (List.mapM _ (Value.ref q.1 :: refsOf ps)) _ _ _
    rw [List.mapM_cons]
    refine wpAny_bind ?_
    unfold Builtin.Itertools.itPoolItems
    refine wpAny_bind (wpAny_seqItems (hp q List.mem_cons_self).1 rfl (wpAny_pure ?_))
    refine wpAny_bind (pools_read (ps := ps) (fun r hr => hp r (List.mem_cons_of_mem _ hr)) (wpAny_pure h))
theorem pools_sz {ps : List (Addr × List Value)} (hp : PoolsAt s.heap ps) : ∀ q ∈ ps, q.2.toArray.size = 2 := fun q hq => (hp q hq).2.1
theorem pools_some {ps : List (Addr × List Value)} (hp : PoolsAt s.heap ps) : (poolsOf ps).any (·.isEmpty) = false := by
  rw [List.any_eq_false]
  intro x hx
  obtain ⟨q, hq, rfl⟩ := List.mem_map.mp hx
  have := pools_sz hp q hq
  simp only [Array.isEmpty, this]
  decide
theorem pools_sizes {ps : List (Addr × List Value)} (hp : PoolsAt s.heap ps) (hl : ps.length = 4) : (poolsOf ps).map (·.size) = [2, 2, 2, 2] := by
  match ps, hl, hp with
  | [a, b, c, d], _, hp =>
    have e := pools_sz hp
    show [a.2.toArray.size, b.2.toArray.size, c.2.toArray.size, d.2.toArray.size] = _
    rw [e a (by simp), e b (by simp), e c (by simp), e d (by simp)]
theorem rowOf_len {ps : List (Addr × List Value)} {ns : List Nat} (h : ns.length ≤ 64) : (rowOf ps ns).length ≤ 64 := by
  unfold rowOf
  rw [List.length_map, List.length_zip]
  omega
theorem handP {T : String} {it pool : Addr} {k : Nat} {fs items row : List Value} {R : Fin → Shared → Prop} (hit : IsIt T s.heap it pool fs items) (hk : k < fs.length) (hz : row.length ≤ 64)
    (h : ∀ h', Turned T s it pool (fs.set k (.ref s.heap.objs.size)) items row h' → R (.done (.ret (.ref s.heap.objs.size))) { s with heap := h' }) :
    wpAny (model prog w) A (do let t ← newTuple row; let before ← field (.ref it) k; setField (.ref it) k t; letGo [before] [t]; pure t) (fun t s' => wpAny (model prog w) A (ret t) R E s') E s := by
  refine wpAny_bind ?_
  simp only [newTuple]
  refine wpAny_newObj_type ?_ (by show (List.toArray _).size ≤ sizeLine; rw [List.size_toArray, sizeLine_eq]; omega)
  have hp := hit.push { cls := .type "tuple", data := .seq row.toArray }
  have hk' : k < fs.toArray.size := by simpa using hk
  refine wpAny_bind (wpAny_field (s := { s with heap := s.heap.push { cls := .type "tuple", data := .seq row.toArray } }) hp.1 rfl (x := fs[k]) (by simp [hk]) ?_)
  refine wpAny_bind (wpAny_setField (s := { s with heap := s.heap.push { cls := .type "tuple", data := .seq row.toArray } }) hp.1 rfl hk' ?_)
  refine wpAny_bind (wpAny_letGo ?_)
  have ne : it ≠ s.heap.objs.size := Nat.ne_of_lt (Heap.lt_size hit.1)
  refine wpAny_pure (wpAny_pure (h _ ⟨IsIt.fld (s := { s with heap := s.heap.push { cls := .type "tuple", data := .seq row.toArray } }) hp (set_arr _ _ _), ?_, fun b o hb e => ?_⟩))
  · exact (Heap.get?_update_other _ _ ne).trans (Heap.get?_push_size _ rfl)
  · exact (Heap.get?_update_other _ _ (Ne.symm hb)).trans (Heap.get?_push_of_some _ e)
theorem pd_nums {pool : Addr} {i : Nat} {prev : Value} (f : Value → Nat) (hf : ∀ n t, f (.int n t) = n.toNat) : (List.drop 3 (pdF pool i prev).toArray.toList).map f = pdN i := nums [.ref pool, rawInt (pmSt i), prev] (pdN i) 3 rfl f hf
theorem pd_first {it pool : Addr} {ps : List (Addr × List Value)} {prev : Value} {Q : Option Value → Shared → Prop} (hit : IsIt "itertools.product" s.heap it pool (pdF pool 0 prev) (refsOf ps)) (hp : PoolsAt s.heap ps)
    (h : ∀ h', Turned "itertools.product" s it pool (pdF pool 1 (.ref s.heap.objs.size)) (refsOf ps) (rowOf ps (pdN 1)) h' → Q (some (.ref s.heap.objs.size)) { s with heap := h' }) :
    wpAny (model prog w) A (callSpecial? (.ref it) "__next__") Q E s := by
  obtain ⟨h1, h2, h3⟩ := id hit
  have hT : s.TypeIs (.ref it) "itertools.product" := ⟨_, h1, rfl⟩
  refine wpAny_callSpecial?_slot (name := Str.ofString "__next__") hT next_pd (wpAny_call_entry next_pd hT en_next_pd ?_ (ar_next_pd _))
  unfold Builtin.«itertools.product.__next__»
  refine wpAny_bind (wpAny_of_eq (a := (Value.ref it, [])) rfl ?_)
  try dsimp only
  refine wpAny_bind (wpAny_field h1 rfl (x := .ref pool) rfl ?_)
  refine wpAny_bind ?_
  unfold Builtin.Itertools.itPoolItems
  refine wpAny_bind (wpAny_seqItems h2 rfl (wpAny_pure ?_))
  refine wpAny_bind (pools_read hp ?_)
  try dsimp only
  unfold Builtin.Itertools.itNumbersFrom
  refine wpAny_bind ?_
  show wpAny _ _ (load it >>= _) _ _ _
  refine wpAny_bind (wpAny_load h1 ?_)
  refine wpAny_pure ?_
  unfold Builtin.Itertools.itIntField
  refine wpAny_bind (wpAny_bind (wpAny_field h1 rfl (x := rawInt 0) rfl (wpAny_pure ?_)))
  show wpAny _ _ (if ((poolsOf ps).any fun x => x.isEmpty) = true then _ else _) _ _ _
  rw [if_neg (by rw [pools_some hp]; decide)]
  refine wpAny_bind (wpAny_setField h1 rfl (by simp [pdF]) ?_)
  have hit2 : IsIt "itertools.product" _ it pool ((pdF pool 0 prev).set 1 (rawInt 1)) (refsOf ps) := hit.fld (g := (·.setIfInBounds 1 (rawInt 1))) (set_arr _ _ _)
  try dsimp only
  rw [pd_nums _ fun _ _ => rfl]
  refine wpAny_bind (handP (s := { s with heap := _ }) hit2 (k := 2) (by simp [pdF]) (rowOf_len (ps := ps) (ns := pdN 0) (by decide)) fun h' tr => ⟨_, rfl, ?_⟩)
  have sz : (s.heap.update it (Obj.mapFields fun x => x.setIfInBounds 1 (rawInt 1))).objs.size = s.heap.objs.size := Heap.size_update ..
  have q := h h' (by
    have tr := tr.back
    rw [sz] at tr
    exact tr)
  rw [← sz] at q
  exact q
theorem pd_more {it pool : Addr} {ps : List (Addr × List Value)} {i : Nat} {prev : Value} {Q : Option Value → Shared → Prop} (hit : IsIt "itertools.product" s.heap it pool (pdF pool (i + 1) prev) (refsOf ps)) (hp : PoolsAt s.heap ps) (hl : ps.length = 4) (hi : i < 15)
    (h : ∀ h', Turned "itertools.product" s it pool (pdF pool (i + 2) (.ref s.heap.objs.size)) (refsOf ps) (rowOf ps (pdN (i + 2))) h' → Q (some (.ref s.heap.objs.size)) { s with heap := h' }) :
    wpAny (model prog w) A (callSpecial? (.ref it) "__next__") Q E s := by
  obtain ⟨h1, h2, h3⟩ := id hit
  have hT : s.TypeIs (.ref it) "itertools.product" := ⟨_, h1, rfl⟩
  refine wpAny_callSpecial?_slot (name := Str.ofString "__next__") hT next_pd (wpAny_call_entry next_pd hT en_next_pd ?_ (ar_next_pd _))
  unfold Builtin.«itertools.product.__next__»
  refine wpAny_bind (wpAny_of_eq (a := (Value.ref it, [])) rfl ?_)
  try dsimp only
  refine wpAny_bind (wpAny_field h1 rfl (x := .ref pool) rfl ?_)
  refine wpAny_bind ?_
  unfold Builtin.Itertools.itPoolItems
  refine wpAny_bind (wpAny_seqItems h2 rfl (wpAny_pure ?_))
  refine wpAny_bind (pools_read hp ?_)
  try dsimp only
  unfold Builtin.Itertools.itNumbersFrom
  refine wpAny_bind ?_
  show wpAny _ _ (load it >>= _) _ _ _
  refine wpAny_bind (wpAny_load h1 ?_)
  refine wpAny_pure ?_
  unfold Builtin.Itertools.itIntField
  refine wpAny_bind (wpAny_bind (wpAny_field h1 rfl (x := rawInt 1) rfl (wpAny_pure ?_)))
  have fin : ∀ (ns : List Nat), ns.reverse = pdN (i + 2) → wpAny (model prog w) A.in1 (do
      Builtin.Itertools.itSetNumbersFrom (.ref it) 3 ns.reverse
      let t ← (do
        let t ← newTuple (((poolsOf ps).zip ns.reverse).map fun x => x.1.getD x.2 .none)
        let before ← field (.ref it) 2; setField (.ref it) 2 t; letGo [before] [t]; pure t)
      ret t) (fun fin s' => ∃ v, fin = Fin.done (Flow.ret v) ∧ Q (some v) s') E s := by
    intro ns ef
    rw [ef]
    unfold Builtin.Itertools.itSetNumbersFrom
    refine wpAny_bind ?_
    show wpAny _ _ (updateFields it _) _ _ _
    have hz : (((pdF pool (i + 1) prev).toArray.extract 0 3) ++ ((pdN (i + 2)).map fun (n : Nat) => rawInt n).toArray) = (pdF pool (i + 2) prev).toArray := by
      unfold pdF pmSt
      simp
    have hit2 : IsIt "itertools.product" _ it pool (pdF pool (i + 2) prev) (refsOf ps) := hit.fld (g := fun fs => fs.extract 0 3 ++ ((pdN (i + 2)).map fun (n : Nat) => rawInt n).toArray) hz
    refine wpAny_updateFields h1 rfl ?_ ?_
    · refine wpAny_bind (handP (s := { s with heap := _ }) hit2 (k := 2) (by simp [pdF]) (rowOf_len (ps := ps) (ns := pdN (i + 2)) (by simp [pdN])) fun h' tr => ⟨_, rfl, ?_⟩)
      have sz : (s.heap.update it (Obj.mapFields fun fs => fs.extract 0 3 ++ ((pdN (i + 2)).map fun (n : Nat) => rawInt n).toArray)).objs.size = s.heap.objs.size := Heap.size_update ..
      have q := h h' (by
        have tr := tr.back
        rw [sz] at tr
        exact tr)
      rw [← sz] at q
      exact q
    · rw [hz]
      show (List.toArray _).size ≤ sizeLine + 3
      rw [List.size_toArray, sizeLine_eq]
      simp [pdF, pdN]
  try dsimp only
  rw [pd_nums _ fun _ _ => rfl, pools_sizes hp hl]
  have hc : i = 0 ∨ i = 1 ∨ i = 2 ∨ i = 3 ∨ i = 4 ∨ i = 5 ∨ i = 6 ∨ i = 7 ∨ i = 8 ∨ i = 9 ∨ i = 10 ∨ i = 11 ∨ i = 12 ∨ i = 13 ∨ i = 14 := by omega
  rcases hc with rfl | rfl | rfl | rfl | rfl | rfl | rfl | rfl | rfl | rfl | rfl | rfl | rfl | rfl | rfl
  · exact fin (pdN 2).reverse rfl
  · exact fin (pdN 3).reverse rfl
  · exact fin (pdN 4).reverse rfl
  · exact fin (pdN 5).reverse rfl
  · exact fin (pdN 6).reverse rfl
  · exact fin (pdN 7).reverse rfl
  · exact fin (pdN 8).reverse rfl
  · exact fin (pdN 9).reverse rfl
  · exact fin (pdN 10).reverse rfl
  · exact fin (pdN 11).reverse rfl
  · exact fin (pdN 12).reverse rfl
  · exact fin (pdN 13).reverse rfl
  · exact fin (pdN 14).reverse rfl
  · exact fin (pdN 15).reverse rfl
  · exact fin (pdN 16).reverse rfl
end
/-- the iterator at its i-th row -/
structure PdAt (h : Heap) (it pool : Addr) (ps : List (Addr × List Value)) (i : Nat) (prev : Value) : Prop where
  rc : IsIt "itertools.product" h it pool (pdF pool i prev) (refsOf ps)
  pl : PoolsAt h ps
  ne : ∀ q ∈ ps, q.1 ≠ it
  len : ps.length = 4
section
variable {prog : Program} {w : World} {A : Around} {E : Value → Shared → Prop} {s : Shared} {it pool : Addr} {ps : List (Addr × List Value)} {i : Nat} {prev : Value}
theorem PdAt.keep {h h' : Heap} (p : PdAt h it pool ps i prev) (k : ∀ b o, h.get? b = some o → b ∈ it :: pool :: ps.map (·.1) → h'.get? b = some o) : PdAt h' it pool ps i prev :=
  ⟨⟨k _ _ p.rc.1 (by simp), k _ _ p.rc.2.1 (by simp), p.rc.2.2⟩, fun q hq => ⟨k _ _ (p.pl q hq).1 (List.mem_cons_of_mem _ (List.mem_cons_of_mem _ (List.mem_map.mpr ⟨q, hq, rfl⟩))), (p.pl q hq).2⟩, p.ne, p.len⟩
theorem PdAt.next (p : PdAt s.heap it pool ps i prev) (hi : i < 16) {Q : Option Value → Shared → Prop}
    (h : ∀ h', PdAt h' it pool ps (i + 1) (.ref s.heap.objs.size) → h'.get? s.heap.objs.size = some { cls := .type "tuple", data := .seq (rowOf ps (pdN (i + 1))).toArray } → (∀ b o, b ≠ it → s.heap.get? b = some o → h'.get? b = some o) →
      Q (some (.ref s.heap.objs.size)) { s with heap := h' }) : wpAny (model prog w) A (pyNext (.ref it)) Q E s := by
  have fin : ∀ h', Turned "itertools.product" s it pool (pdF pool (i + 1) (.ref s.heap.objs.size)) (refsOf ps) (rowOf ps (pdN (i + 1))) h' → Q (some (.ref s.heap.objs.size)) { s with heap := h' } := fun h' tr =>
    h h' ⟨tr.1, fun q hq => ⟨tr.2.2 _ _ (p.ne q hq) (p.pl q hq).1, (p.pl q hq).2⟩, p.ne, p.len⟩ tr.2.1 tr.2.2
  unfold pyNext
  refine wpAny_bind (wpAny_attempt ?_)
  cases i with
  | zero => exact pd_first p.rc p.pl fun h' tr => wpAny_pure (fin h' tr)
  | succ i => exact pd_more p.rc p.pl p.len (by omega) fun h' tr => wpAny_pure (fin h' tr)
end
end Zi
set_option Elab.async false
set_option linter.all false
set_option maxRecDepth 100000
set_option maxHeartbeats 4000000
/-! ZXJ: list(product(range(2), range(2), range(2), range(2))). -/
namespace Zi
open PySem PySem.Spec PyProof.Rows L2 Zl
end Zi
set_option Elab.async false
set_option linter.all false
set_option maxRecDepth 100000
set_option maxHeartbeats 4000000
/-! ZXK: the rule for list(product(range(2), range(2), range(2), range(2))). -/
namespace Zl
open PySem L2 PySem.Spec PyProof.Rows Zi
end Zl
set_option Elab.async false
set_option linter.all false
set_option maxRecDepth 100000
set_option maxHeartbeats 4000000
/-! ZXL: static tuples from what the text's frame says. -/
namespace Zl
open PySem L2 PySem.Spec PyProof.Rows
theorem stT_of {K : PySem.W.Frag} {a : Addr} {it : Array Value} {nt : Nat} {sl : Array (Option Value)} {l : List Value} {xs : List V} (h : K.lookup a = some ⟨.type "tuple", none, .seq it nt, sl⟩) (hi : it.toList = l) (hz : Nat.ble l.length 1000 = true) (hv : Vals xs l) : StT K a xs := by
  refine ⟨_, it, nt, ⟨h, rfl, rfl, ?_, by rw [hi]; exact hv⟩, rfl⟩
  rw [← Array.length_toList, hi, sizeLine_eq]
  have := Nat.le_of_ble_eq_true hz
  omega
end Zl
set_option Elab.async false
set_option linter.all false
set_option maxRecDepth 100000
/-! ZY: readings where a list is not known, item by item. -/
namespace Zl
open PySem L2
theorem few_of {α : Type} : ∀ {l : List α} {n : Nat}, l.length ≤ n → few l n = true
  | [], _, _ => by unfold few; rfl
  | _ :: _, 0, h => absurd h (by simp)
  | _ :: r, n + 1, h => few_of (l := r) (by simpa using h)
theorem T.bindE {α β : Type} {t : T α} {a : α} (h : t = .ret a) (k : α → T β) : t.bind k = k a := by rw [h]; rfl
/-- a comprehension, item by item -/
theorem lcF_map {set : D → Fr → T Fr} {t : Fr → Hz → T Bool} {e : Ex} {fr : Fr} {hp : Hz} (b : D → Bool) (v : D → D) : ∀ ds : List D,
    (∀ d ∈ ds, ∃ fr1, set d fr = .ret fr1 ∧ t fr1 hp = .ret (b d) ∧ (b d = true → e fr1 hp = .ret (v d))) → lcF set t e ds fr hp = .ret ((ds.filter b).map v)
  | [], _ => rfl
  | d :: ds, h => by
    obtain ⟨fr1, e1, e2, e3⟩ := h d (by simp)
    have ih := lcF_map b v ds fun x hx => h x (List.mem_cons_of_mem _ hx)
    show ((set d fr).bind fun fr1 => (t fr1 hp).bind fun b => bif b then (e fr1 hp).bind fun y => (lcF set t e ds fr hp).bind fun ys => .ret (y :: ys) else lcF set t e ds fr hp) = _
    rw [T.bindE e1, T.bindE e2, ih]
    cases q : b d with
    | true =>
      show ((e fr1 hp).bind fun y => ((T.ret ((ds.filter b).map v)).bind fun ys => .ret (y :: ys))) = _
      rw [T.bindE (e3 q), List.filter_cons_of_pos q]
      rfl
    | false =>
      rw [List.filter_cons_of_neg (by rw [q]; exact Bool.false_ne_true)]
      rfl
theorem bools_map (f : D → Bool) : ∀ l : List D, bools (l.map fun x => D.bl (f x)) = some (l.map f)
  | [] => rfl
  | x :: l => by
    show (match bools (l.map fun x => D.bl (f x)) with
      | some bs => some (f x :: bs)
      | none => none) = _
    rw [bools_map f l]
    rfl
theorem allBs_map (f : D → Bool) : ∀ l : List D, allBs (l.map f) = l.all f
  | [] => rfl
  | x :: l => by
    have ih := allBs_map f l
    show allBs (f x :: l.map f) = (f x && l.all f)
    rw [← ih]
    show (bif f x then allBs (l.map f) else false) = _
    cases f x <;> rfl
end Zl
set_option Elab.async false
set_option linter.all false
/-! ZZ: how readings run, step by step (big steps without draws). -/
namespace Zl
open PySem L2
section
variable {fr fr' fr1 : Fr} {hp hp' : Hz} {f g h : Ex} {s s' : Sm} {as : Fr → Hz → T (List D)} {d x y : D} {ds xs ys : List D} {b : Bool} {i j n : Nat}
theorem nB {s : Sm} {ds : List D} (e : argFr n ds = fr) (h : s fr [] = .ret (.rt d)) : runB s n ds = .ret d := by
  unfold runB; rw [e, h]; rfl
theorem nBn {s : Sm} {ds : List D} (e : argFr n ds = fr) (h : s fr [] = .ret (.nx fr' hp')) : runB s n ds = .ret .non := by
  unfold runB; rw [e, h]; rfl
theorem nSeq (h1 : s fr hp = .ret (.nx fr' hp')) {o : T Out} (h2 : s' fr' hp' = o) : sSeq s s' fr hp = o := by
  unfold sSeq; rw [h1]; exact h2
theorem nSeqR (h1 : s fr hp = .ret (.rt d)) : sSeq s s' fr hp = .ret (.rt d) := by
  unfold sSeq; rw [h1]; rfl
theorem nNil : sNil fr hp = .ret (.nx fr hp) := rfl
theorem nDrop (h1 : f fr hp = .ret d) : sDrop f fr hp = .ret (.nx fr hp) := by
  unfold sDrop; rw [h1]; rfl
theorem nSet (h1 : f fr hp = .ret d) (e : setN fr i (some (.v d)) = fr') : sSet i f fr hp = .ret (.nx fr' hp) := by
  unfold sSet; rw [h1, ← e]; rfl
theorem nSetV (h1 : f fr hp = .ret d) (e : setN fr i (some (.v d)) = fr') : sSetV i f fr hp = .ret (.nx fr' hp) := by
  rw [sSetV_eq]; exact nSet h1 e
theorem nRet (h1 : f fr hp = .ret d) : sRet f fr hp = .ret (.rt d) := by
  unfold sRet; rw [h1]; rfl
theorem nRetF (h1 : f fr hp = .ret d) : sRetF f fr hp = .ret (.rt d) := by
  rw [sRetF_eq]; exact nRet h1
theorem nIfT {t : Fr → Hz → T Bool} {o : T Out} (h1 : t fr hp = .ret true) (h2 : s fr hp = o) : sIf t s s' fr hp = o := by
  unfold sIf; rw [h1]; exact h2
theorem nIfF {t : Fr → Hz → T Bool} {o : T Out} (h1 : t fr hp = .ret false) (h2 : s' fr hp = o) : sIf t s s' fr hp = o := by
  unfold sIf; rw [h1]; exact h2
theorem nFor {it : Fr → Hz → T (List D)} {set : D → Fr → T Fr} {o : T Out} (h1 : it fr hp = .ret ds) (h2 : forS set s ds fr hp = o) : sFor it set s fr hp = o := by
  unfold sFor; rw [h1]; exact h2
theorem nV (e : gt fr i = some (.v d)) : eV i fr hp = .ret d := by
  unfold eV; rw [e]; rfl
theorem nC : eC d fr hp = .ret d := rfl
theorem nN : aN fr hp = .ret [] := rfl
theorem nA (h1 : f fr hp = .ret x) (h2 : as fr hp = .ret xs) : aC f as fr hp = .ret (x :: xs) := by
  unfold aC; rw [h1]; show ((as fr hp).bind _) = _; rw [h2]; rfl
theorem nAF (h1 : f fr hp = .ret x) (h2 : as fr hp = .ret xs) : aCF f as fr hp = .ret (x :: xs) := by
  rw [aCF_eq]; exact nA h1 h2
theorem nCall {r : List D → T D} {o : T D} (h1 : as fr hp = .ret ds) (hn : Nat.beq ds.length n = true) (h2 : r ds = o) : eCall r n as fr hp = o := by
  unfold eCall; rw [h1]; show guardT _ _ = _; rw [hn]; exact h2
theorem nLseqT (h1 : f fr hp = .ret (.tup xs)) : lSeq f fr hp = .ret xs := by
  unfold lSeq; rw [h1]; rfl
theorem nLseqL (h1 : f fr hp = .ret (.lst xs)) : lSeq f fr hp = .ret xs := by
  unfold lSeq; rw [h1]; rfl
theorem nIx (h1 : as fr hp = .ret xs) (h2 : g fr hp = .ret (.int (.ofNat n))) (e : gtL xs n = some d) : eIx as g fr hp = .ret d := by
  unfold eIx; rw [h1]; show ((g fr hp).bind _) = _; rw [h2]; show ofO (gtL xs n) = _; rw [e]; rfl
theorem nLen (h1 : as fr hp = .ret xs) (e : xs.length = n) : eLen as fr hp = .ret (.int (.ofNat n)) := by
  unfold eLen; rw [h1, ← e]; rfl
theorem nTup (h1 : as fr hp = .ret xs) : eTupOf as fr hp = .ret (.tup xs) := by
  unfold eTupOf; rw [h1]; rfl
theorem nLst (h1 : as fr hp = .ret xs) : lst as fr hp = .ret (.lst xs) := by
  unfold lst; rw [h1]; rfl
theorem nB1 (h1 : f fr hp = .ret (.bl b)) : b1 f fr hp = .ret b := by
  unfold b1; rw [h1]; rfl
theorem nNot {t : Fr → Hz → T Bool} {c : Bool} (h1 : t fr hp = .ret b) (e : (!b) = c) : bNot t fr hp = .ret c := by
  unfold bNot; rw [h1, ← e]; rfl
theorem nOrF {t t' : Fr → Hz → T Bool} {o : T Bool} (h1 : t fr hp = .ret false) (h2 : t' fr hp = o) : bOr t t' fr hp = o := by
  unfold bOr; rw [h1]; exact h2
theorem n2 {op : D → D → T D} {o : T D} (h1 : f fr hp = .ret x) (h2 : g fr hp = .ret y) (h3 : op x y = o) : e2 op f g fr hp = o := by
  unfold e2; rw [h1]; show ((g fr hp).bind _) = _; rw [h2]; exact h3
theorem nLc1 {it : Fr → Hz → T (List D)} {set : D → Fr → T Fr} {t : Fr → Hz → T Bool} {e : Ex} {vs : List Nat} {o : T (List D)} (h1 : it fr hp = .ret ds) (h2 : few ds 10000 = true) (e1 : wipeF fr vs = fr1) (h3 : lcF set t e ds fr1 hp = o) : nLc it set t e vs fr hp = o := by
  unfold nLc; rw [h1]; show guardT _ _ = _; rw [h2, e1]; exact h3
theorem nR1 (h1 : as fr hp = .ret xs) {o : T (List D)} (h2 : rng1 xs = o) : lR1 as fr hp = o := by
  unfold lR1; rw [h1]; exact h2
theorem nAll (h1 : as fr hp = .ret xs) {bs : List Bool} (h2 : bools xs = some bs) (e : allBs bs = b) : eAll as fr hp = .ret (.bl b) := by
  unfold eAll; rw [h1]; show ((ofO (bools xs)).bind _) = _; rw [h2, ← e]; rfl
theorem nGI (e : setN fr i (some (.v d)) = fr') : gIX i d fr = .ret fr' := by rw [gIX_eq, ← e]; rfl
theorem nGF (e : setN fr i (some (.v d)) = fr') : gIF i d fr = .ret fr' := by rw [gIF_eq, ← e]; rfl
end
end Zl
set_option Elab.async false
set_option linter.all false
/-! ZZA: what the lemmas of a law for any rule lean on. -/
namespace Zl
open PySem L2
def isNon : T D → Bool
  | .ret .non => true
  | _ => false
def isTr : T D → Bool
  | .ret (.bl true) => true
  | _ => false
theorem isTr_eq {t : T D} (h : isTr t = true) : t = .ret (.bl true) := by
  unfold isTr at h
  split at h
  · rfl
  · cases h
theorem gtL_lt {xs : List D} {i : Nat} (h : i < xs.length) : ∃ x, gtL xs i = some x := by
  rw [gtL_eq]
  exact ⟨_, List.getElem?_eq_getElem h⟩
/-! a sublist by its marks -/
def fl : List Bool → List D → List D
  | b :: bs, x :: xs => bif b then x :: fl bs xs else fl bs xs
  | _, _ => []
section
variable {fr fr' : Fr} {hp hp' : Hz} {f g f' g' : Ex} {as as' : Fr → Hz → T (List D)}
theorem k2 {op : D → D → T D} (h1 : f fr hp = f' fr' hp') (h2 : g fr hp = g' fr' hp') : e2 op f g fr hp = e2 op f' g' fr' hp' := by unfold e2; rw [h1, h2]
end
/-- for, with draws -/
theorem forS_all {set : D → Fr → T Fr} {body : Sm} (J : Fr → Hz → Prop) : ∀ (xs : List D) (fr : Fr) (hp : Hz),
    (∀ x ∈ xs, ∀ fr hp, J fr hp → ∃ fr1, set x fr = .ret fr1 ∧ (body fr1 hp).all fun o => ∃ fr' hp', o = .nx fr' hp' ∧ J fr' hp') → J fr hp → (forS set body xs fr hp).all fun o => ∃ fr' hp', o = .nx fr' hp' ∧ J fr' hp'
  | [], fr, hp, _, j => ⟨fr, hp, rfl, j⟩
  | x :: r, fr, hp, h, j => by
    obtain ⟨fr1, e1, h1⟩ := h x (by simp) fr hp j
    show ((set x fr).bind fun fr1 => (body fr1 hp).bind (loopO (forS set body r))).all _
    rw [T.bindE e1]
    refine T.bind_all (T.all_mono (fun o ho => ?_) h1)
    obtain ⟨fr', hp', rfl, j'⟩ := ho
    exact forS_all J r fr' hp' (fun y hy => h y (List.mem_cons_of_mem _ hy)) j'
theorem nTaken {fr : Fr} {hp : Hz} {as : Fr → Hz → T (List D)} {i n : Nat} (h1 : as fr hp = .ret [.int (.ofNat n)]) (h2 : isRow fr i = true) (h3 : (decide (1 ≤ (Int.ofNat n)) && decide ((Int.ofNat n) ≤ 1000000)) = true) : eCallR i taken 1 as fr hp = .draw n fun j => .ret (.int (j : Nat)) := by
  unfold eCallR
  rw [h2]
  show ((as fr hp).bind _) = _
  rw [h1]
  show guardT (decide (1 ≤ (Int.ofNat n)) && decide ((Int.ofNat n) ≤ 1000000)) _ = _
  rw [h3]
  rfl
theorem all_of_sub {α : Type} {t : T α} {P : α → Prop} {n : Nat} (hn : n ≠ 0) (hw : t.width = n) (h : ∀ i, i < n → (t.sub i).all P) : t.all P := by
  cases t with
  | ret d => exact absurd hw.symm hn
  | fail => exact absurd hw.symm hn
  | draw m k =>
    have hw : m = n := hw
    subst hw
    exact fun i hi => h i hi
theorem all_ret {α : Type} {t : T α} {P : α → Prop} {a : α} (e : t = .ret a) (h : P a) : t.all P := by rw [e]; exact h
/-- every end is True (a structure, so that nobody looks into it) -/
structure RtAll (t : T Out) : Prop where
  out : t.all fun o => o = .rt (.bl true)
theorem RtAll.eq {t t' : T Out} (e : t = t') (h : RtAll t') : RtAll t := by rw [e]; exact h
theorem RtAll.leaf {t : T Out} {g : Sm} {fr : Fr} {hp : Hz} (e : t = .ret (.nx fr hp)) (h : RtAll (g fr hp)) : t.all fun a => (seqO g a).all fun o => o = .rt (.bl true) := by
  rw [e]
  exact h.out
theorem RtAll.law {t : T D} {t' : T Out} (e : t = t'.bind retOf) (h : RtAll t') : t.all fun d => d = .bl true := by
  rw [e]
  exact T.bind_all (T.all_mono (fun o ho => by rw [ho]; rfl) h.out)
end Zl
set_option Elab.async false
set_option linter.all false
/-! ZXN: == [] and names as lists. -/
namespace Zl
open PySem L2
def nmL (l : List (List Nat)) : List D := l.map D.str
theorem nmL_len (l : List (List Nat)) : (nmL l).length = l.length := List.length_map ..
theorem dEq_nilO {l : List D} (h : allO (okD 11) l = true) : dEqF (.lst l) (.lst []) = .ret (.bl l.isEmpty) := by
  show dEq (.lst l) (.lst []) = _
  unfold dEq
  have e1 : okD 12 (.lst l) = true := by unfold okD; exact h
  have e2 : okD 12 (.lst []) = true := by unfold okD; rfl
  rw [e1, e2]
  cases l <;> rfl
theorem dNe_nilO {l : List D} (h : allO (okD 11) l = true) : dNeF (.lst l) (.lst []) = .ret (.bl (!l.isEmpty)) := by
  show dNe (.lst l) (.lst []) = _
  unfold dNe
  have e1 : okD 12 (.lst l) = true := by unfold okD; exact h
  have e2 : okD 12 (.lst []) = true := by unfold okD; rfl
  rw [e1, e2]
  cases l <;> rfl
theorem dEq_nilT {l : List D} (h : allO (okD 11) l = true) : dEqF (.tup l) (.tup []) = .ret (.bl l.isEmpty) := by
  show dEq (.tup l) (.tup []) = _
  unfold dEq
  have e1 : okD 12 (.tup l) = true := by unfold okD; exact h
  have e2 : okD 12 (.tup []) = true := by unfold okD; rfl
  rw [e1, e2]
  cases l <;> rfl
theorem dNe_nilT {l : List D} (h : allO (okD 11) l = true) : dNeF (.tup l) (.tup []) = .ret (.bl (!l.isEmpty)) := by
  show dNe (.tup l) (.tup []) = _
  unfold dNe
  have e1 : okD 12 (.tup l) = true := by unfold okD; exact h
  have e2 : okD 12 (.tup []) = true := by unfold okD; rfl
  rw [e1, e2]
  cases l <;> rfl
end Zl
set_option Elab.async false
set_option linter.all false
/-! ZZB: loops that return at the first bad item. -/
namespace Zl
open PySem L2
end Zl
set_option Elab.async false
set_option linter.all false
/-! ZZC: loops and comprehensions over mapped lists. -/
namespace Zl
open PySem L2
section
variable {α : Type}
theorem lcF_mp {set : D → Fr → T Fr} {t : Fr → Hz → T Bool} {e : Ex} {fr : Fr} {hp : Hz} (F : α → D) (b : α → Bool) (v : α → D) : ∀ ps : List α,
    (∀ p ∈ ps, ∃ fr1, set (F p) fr = .ret fr1 ∧ t fr1 hp = .ret (b p) ∧ (b p = true → e fr1 hp = .ret (v p))) → lcF set t e (ps.map F) fr hp = .ret ((ps.filter b).map v)
  | [], _ => rfl
  | d :: ds, h => by
    obtain ⟨fr1, e1, e2, e3⟩ := h d (by simp)
    have ih := lcF_mp F b v ds fun x hx => h x (List.mem_cons_of_mem _ hx)
    show ((set (F d) fr).bind fun fr1 => (t fr1 hp).bind fun b => bif b then (e fr1 hp).bind fun y => (lcF set t e (ds.map F) fr hp).bind fun ys => .ret (y :: ys) else lcF set t e (ds.map F) fr hp) = _
    rw [T.bindE e1, T.bindE e2, ih]
    cases q : b d with
    | true =>
      show ((e fr1 hp).bind fun y => ((T.ret ((ds.filter b).map v)).bind fun ys => .ret (y :: ys))) = _
      rw [T.bindE (e3 q), List.filter_cons_of_pos q]
      rfl
    | false =>
      rw [List.filter_cons_of_neg (by rw [q]; exact Bool.false_ne_true)]
      rfl
theorem empF (b : α → Bool) : ∀ ps : List α, (ps.filter b).isEmpty = ps.all fun p => !b p
  | [] => rfl
  | p :: ps => by
    rw [List.all_cons, ← empF b ps]
    cases q : b p with
    | true => rw [List.filter_cons_of_pos q]; rfl
    | false => rw [List.filter_cons_of_neg (by rw [q]; exact Bool.false_ne_true)]; rfl
theorem empM (v : α → D) : ∀ ps : List α, (ps.map v).isEmpty = ps.isEmpty
  | [] => rfl
  | _ :: _ => rfl
theorem okM (v : α → D) {n : Nat} : ∀ ps : List α, (∀ p ∈ ps, okD n (v p) = true) → allO (okD n) (ps.map v) = true
  | [], _ => rfl
  | p :: ps, h => by
    show (if okD n (v p) then allO (okD n) (ps.map v) else false) = true
    rw [if_pos (h p (by simp))]
    exact okM v ps fun q hq => h q (List.mem_cons_of_mem _ hq)
/-- [.. for x in .. if b] == [] -/
theorem dEq_no (v : α → D) (b : α → Bool) (ps : List α) (h : ∀ p ∈ ps, okD 11 (v p) = true) : dEqF (.lst ((ps.filter b).map v)) (.lst []) = .ret (.bl (ps.all fun p => !b p)) := by
  rw [dEq_nilO (okM v _ fun p hp => h p (List.mem_filter.mp hp).1), empM, empF]
theorem nAnd {fr : Fr} {hp : Hz} {f g : Ex} {b c : Bool} (h1 : f fr hp = .ret (.bl b)) (h2 : g fr hp = .ret (.bl c)) : eAnd f g fr hp = .ret (.bl (b && c)) := by
  unfold eAnd
  rw [h1]
  show (bif b then g fr hp else .ret (.bl false)) = _
  rw [h2]
  cases b <;> rfl
theorem nBAnd {fr : Fr} {hp : Hz} {f g : Fr → Hz → T Bool} {b c : Bool} (h1 : f fr hp = .ret b) (h2 : g fr hp = .ret c) : bAnd f g fr hp = .ret (b && c) := by
  unfold bAnd
  rw [h1]
  show (bif b then g fr hp else .ret false) = _
  rw [h2]
  cases b <;> rfl
theorem dNe_nat (a b : Nat) : dNeF (.int (.ofNat a)) (.int (.ofNat b)) = .ret (.bl (!Nat.beq a b)) := by
  show T.ret (D.bl (bif Nat.beq a b then false else true)) = _
  cases Nat.beq a b <;> rfl
theorem nET {as : Fr → Hz → T (List D)} {fr : Fr} {hp : Hz} {xs : List D} (h : as fr hp = .ret xs) (hf : few xs 10000 = true) : eT as fr hp = .ret (.tup xs) := by
  unfold eT
  rw [h]
  show guardT _ _ = _
  rw [hf]
  rfl
theorem nNLi {as : Fr → Hz → T (List D)} {fr : Fr} {hp : Hz} {xs : List D} (h : as fr hp = .ret xs) (hf : few xs 10000 = true) : nL as fr hp = .ret xs := by
  unfold nL
  rw [h]
  show guardT _ _ = _
  rw [hf]
  rfl
theorem nPar {f f' : Ex} {fr fr' : Fr} {hp : Hz} {i j : Nat} {x y : D} (h1 : f fr hp = .ret x) (h2 : f' fr hp = .ret y) (e : setN (setN fr i (some (.v x))) j (some (.v y)) = fr') : sPar i j f f' fr hp = .ret (.nx fr' hp) := by
  unfold sPar
  rw [h1]
  show ((f' fr hp).bind _) = _
  rw [h2, ← e]
  rfl
theorem nParX {f f' : Ex} {fr fr' : Fr} {hp : Hz} {i j : Nat} {x y : D} (h1 : f fr hp = .ret x) (h2 : f' fr hp = .ret y) (e : setN (setN fr i (some (.v x))) j (some (.v y)) = fr') : sParX i j f f' fr hp = .ret (.nx fr' hp) := by
  rw [sParX_eq]
  exact nPar h1 h2 e
theorem nPar3 {f f' f2 : Ex} {fr fr' : Fr} {hp : Hz} {i j l : Nat} {x y z : D} (h1 : f fr hp = .ret x) (h2 : f' fr hp = .ret y) (h3 : f2 fr hp = .ret z) (e : setN (setN (setN fr i (some (.v x))) j (some (.v y))) l (some (.v z)) = fr') : sPar3 i j l f f' f2 fr hp = .ret (.nx fr' hp) := by
  unfold sPar3
  rw [h1]
  show ((f' fr hp).bind _) = _
  rw [h2]
  show ((f2 fr hp).bind _) = _
  rw [h3, ← e]
  rfl
end
end Zl
set_option Elab.async false
set_option linter.all false
set_option maxRecDepth 100000
set_option maxHeartbeats 1000000
/-! ZXM: any set of names. -/
namespace Zl
open PySem L2 PySem.Spec PyProof.Rows
section
variable {α β : Type}
/-- a sublist by its marks -/
def flG : List Bool → List α → List α
  | b :: bs, x :: xs => bif b then x :: flG bs xs else flG bs xs
  | _, _ => []
theorem flG_mem : ∀ {bs : List Bool} {xs : List α} {a : α}, a ∈ flG bs xs → a ∈ xs
  | [], _, a, h => by unfold flG at h; cases h
  | _ :: _, [], a, h => by unfold flG at h; cases h
  | b :: bs, x :: xs, a, h => by
    cases b with
    | true =>
      rcases List.mem_cons.mp (show a ∈ x :: flG bs xs from h) with e | e
      · rw [e]; exact List.mem_cons_self
      · exact List.mem_cons_of_mem _ (flG_mem e)
    | false => exact List.mem_cons_of_mem _ (flG_mem (show a ∈ flG bs xs from h))
theorem flG_len : ∀ {bs : List Bool} {xs : List α}, (flG bs xs).length ≤ xs.length
  | [], _ => Nat.zero_le _
  | _ :: _, [] => Nat.zero_le _
  | b :: bs, x :: xs => by
    have := flG_len (bs := bs) (xs := xs)
    cases b with
    | true => exact Nat.succ_le_succ this
    | false => exact Nat.le_succ_of_le this
theorem flG_nodup : ∀ {bs : List Bool} {xs : List α}, xs.Nodup → (flG bs xs).Nodup
  | [], _, _ => List.Pairwise.nil
  | _ :: _, [], _ => List.Pairwise.nil
  | b :: bs, x :: xs, h => by
    obtain ⟨h1, h2⟩ := List.nodup_cons.mp h
    cases b with
    | true => exact List.nodup_cons.mpr ⟨fun z => h1 (flG_mem z), flG_nodup h2⟩
    | false => exact (flG_nodup h2 : (flG bs xs).Nodup)
theorem flG_map (f : α → β) : ∀ (bs : List Bool) (xs : List α), (flG bs xs).map f = flG bs (xs.map f)
  | [], _ => rfl
  | _ :: _, [] => rfl
  | b :: bs, x :: xs => by
    have ih := flG_map f bs xs
    cases b with
    | true =>
      show f x :: (flG bs xs).map f = f x :: flG bs (xs.map f)
      rw [ih]
    | false => exact ih
end
/-- each mark of the first stands in the second -/
def subB : List Bool → List Bool → Bool
  | c :: cs, b :: bs => (!c || b) && subB cs bs
  | _, _ => true
theorem sub_mem : ∀ {xs : List (List Nat)} {cb bs : List Bool}, xs.Nodup → cb.length = xs.length → bs.length = xs.length → (flG cb xs).all (fun a => decide (a ∈ flG bs xs)) = subB cb bs
  | [], [], [], _, _, _ => rfl
  | x :: xs, c :: cb, b :: bs, hn, hc, hb => by
    obtain ⟨h1, h2⟩ := List.nodup_cons.mp hn
    have ih := sub_mem (cb := cb) (bs := bs) h2 (by simpa using hc) (by simpa using hb)
    have e1 : decide (x ∈ flG (b :: bs) (x :: xs)) = b := by
      cases b with
      | true => exact decide_eq_true (show x ∈ x :: flG bs xs from List.mem_cons_self)
      | false => exact decide_eq_false fun z => h1 (flG_mem (show x ∈ flG bs xs from z))
    have e2 : (flG cb xs).all (fun a => decide (a ∈ flG (b :: bs) (x :: xs))) = (flG cb xs).all (fun a => decide (a ∈ flG bs xs)) := by
      have key : ∀ a ∈ flG cb xs, decide (a ∈ flG (b :: bs) (x :: xs)) = decide (a ∈ flG bs xs) := by
        intro a ha
        have hne : a ≠ x := fun z => h1 (z ▸ flG_mem ha)
        cases b with
        | true =>
          have : (a ∈ flG (true :: bs) (x :: xs)) ↔ a ∈ flG bs xs := by
            show a ∈ x :: flG bs xs ↔ _
            rw [List.mem_cons]
            exact ⟨fun z => z.elim (fun z => absurd z hne) id, .inr⟩
          exact decide_eq_decide.mpr this
        | false => rfl
      have : ∀ l : List (List Nat), (∀ a ∈ l, decide (a ∈ flG (b :: bs) (x :: xs)) = decide (a ∈ flG bs xs)) → l.all (fun a => decide (a ∈ flG (b :: bs) (x :: xs))) = l.all (fun a => decide (a ∈ flG bs xs)) := by
        intro l
        induction l with
        | nil => intro _; rfl
        | cons y l ih =>
          intro h
          rw [List.all_cons, List.all_cons, h y List.mem_cons_self, ih fun a ha => h a (List.mem_cons_of_mem _ ha)]
      exact this _ key
    cases c with
    | true =>
      show (x :: flG cb xs).all _ = ((!true || b) && subB cb bs)
      rw [List.all_cons, e1, e2, ih]
      rfl
    | false =>
      show (flG cb xs).all _ = ((!false || b) && subB cb bs)
      rw [e2, ih]
      rfl
  | [], _ :: _, _, _, h, _ => by cases h
  | [], [], _ :: _, _, _, h => by cases h
  | _ :: _, [], _, _, h, _ => by cases h
  | _ :: _, _ :: _, [], _, _, h => by cases h
/-! texts -/
theorem nmL_fl (bs : List Bool) (l : List (List Nat)) : nmL (flG bs l) = flG bs (nmL l) := flG_map _ _ _
theorem anyF_nm (a : List Nat) : ∀ l : List (List Nat), anyF (.str a) (nmL l) = decide (a ∈ l)
  | [] => rfl
  | y :: l => by
    show (if eqNs y a then true else anyF (.str a) (nmL l)) = _
    rw [anyF_nm a l, eqNs_iff]
    by_cases h : y = a
    · subst h; simp
    · rw [decide_eq_false h]
      have : (a ∈ y :: l) ↔ a ∈ l := by
        rw [List.mem_cons]
        exact ⟨fun z => z.elim (fun z => absurd z.symm h) id, .inr⟩
      exact (decide_eq_decide.mpr this).symm
theorem flat_nm : ∀ l : List (List Nat), allO flatD (nmL l) = true
  | [] => rfl
  | y :: l => by
    show (if flatD (.str y) then allO flatD (nmL l) else false) = true
    rw [if_pos (show flatD (.str y) = true from rfl)]
    exact flat_nm l
theorem nInS {fr : Fr} {hp : Hz} {f : Ex} {g : Fr → Hz → T (List D)} {a : List Nat} {l : List (List Nat)} (h1 : f fr hp = .ret (.str a)) (h2 : g fr hp = .ret (nmL l)) : eInF false f g fr hp = .ret (.bl (decide (a ∈ l))) := by
  unfold eInF
  rw [h1]
  show ((g fr hp).bind _) = _
  rw [h2]
  show inD false (.str a) (nmL l) = _
  unfold inD
  rw [flat_nm, anyF_nm]
  rfl
theorem okD_nm {n : Nat} {l : List (List Nat)} (h : l.all okNs = true) : allO (okD n) (nmL l) = true := by
  induction l with
  | nil => rfl
  | cons y l ih =>
    rw [List.all_cons, Bool.and_eq_true] at h
    show (if okD n (.str y) then allO (okD n) (nmL l) else false) = true
    rw [if_pos (by unfold okD; exact h.1)]
    exact ih h.2
theorem all_flG {α : Type} {p : α → Bool} {bs : List Bool} {xs : List α} (h : xs.all p = true) : (flG bs xs).all p = true := List.all_eq_true.mpr fun x hx => List.all_eq_true.mp h x (flG_mem hx)
theorem allB_refl {n : Nat} : ∀ l : List (List Nat), allB (beq n) (nmL l) (nmL l) = true
  | [] => rfl
  | y :: l => by
    have e : beq n (.str y) (.str y) = true := by
      cases n <;> (show eqNs y y = true; rw [eqNs_iff]; exact decide_eq_true rfl)
    unfold nmL
    rw [List.map_cons]
    unfold allB
    first
      | (rw [e]; exact allB_refl l)
      | (simp only [e]; exact allB_refl l)
theorem dEq_nm {l : List (List Nat)} (h : l.all okNs = true) : dEqF (.lst (nmL l)) (.lst (nmL l)) = .ret (.bl true) := by
  show dEq (.lst (nmL l)) (.lst (nmL l)) = _
  unfold dEq
  have e : okD 12 (.lst (nmL l)) = true := by unfold okD; exact okD_nm h
  rw [e]
  have e2 : beq 12 (.lst (nmL l)) (.lst (nmL l)) = true := by unfold beq; exact allB_refl l
  rw [e2]
  rfl
theorem allO_all {f : D → Bool} : ∀ {l : List D}, allO f l = l.all f
  | [] => rfl
  | x :: l => by
    show (if f x then allO f l else false) = (f x && l.all f)
    rw [allO_all (l := l)]
    cases f x <;> rfl
theorem allO_filter {f p : D → Bool} {l : List D} (h : allO f l = true) : allO f (l.filter p) = true := by
  rw [allO_all] at h ⊢
  exact List.all_eq_true.mpr fun x hx => List.all_eq_true.mp h x (List.mem_filter.mp hx).1
/-! sorted -/
def pwS : List (List Nat) → Bool
  | [] => true
  | x :: r => r.all (fun y => !ltCps y x) && pwS r
theorem rise_fl : ∀ (xs : List (List Nat)) (bs : List Bool) (p : List Nat), xs.all (fun y => !ltCps y p) = true → pwS xs = true → risingS (mkS p) ((flG bs xs).map mkS) = true
  | [], [], _, _, _ => rfl
  | [], _ :: _, _, _, _ => rfl
  | _ :: _, [], _, _, _ => rfl
  | x :: xs, b :: bs, p, h1, h2 => by
    rw [List.all_cons, Bool.and_eq_true] at h1
    unfold pwS at h2
    rw [Bool.and_eq_true] at h2
    cases b with
    | true =>
      show (!ltCps (mkS x).cps.toList (mkS p).cps.toList && risingS (mkS x) ((flG bs xs).map mkS)) = true
      rw [rise_fl xs bs x h2.1 h2.2, Bool.and_true]
      exact h1.1
    | false => exact rise_fl xs bs p h1.2 h2.2
theorem sorted_fl : ∀ (xs : List (List Nat)) (bs : List Bool), pwS xs = true → sortedS ((flG bs xs).map mkS) = true
  | [], [], _ => rfl
  | [], _ :: _, _ => rfl
  | _ :: _, [], _ => rfl
  | x :: xs, b :: bs, h => by
    unfold pwS at h
    rw [Bool.and_eq_true] at h
    cases b with
    | true => exact rise_fl xs bs x h.1 h.2
    | false => exact sorted_fl xs bs h.2
theorem diffS_of : ∀ {l : List (List Nat)}, l.Nodup → diffS l = true
  | [], _ => rfl
  | x :: l, h => by
    obtain ⟨h1, h2⟩ := List.nodup_cons.mp h
    unfold diffS
    rw [diffS_of h2, Bool.and_true]
    cases q : l.any (eqNs x) with
    | false => rfl
    | true =>
      obtain ⟨y, hy, e⟩ := List.any_eq_true.mp q
      rw [eqNs_iff] at e
      exact absurd (of_decide_eq_true e ▸ hy) h1
theorem strsO_of : ∀ l : List (List Nat), strsO (nmL l) = some l
  | [] => rfl
  | x :: l => by
    show strsO (.str x :: nmL l) = _
    unfold strsO
    rw [strsO_of l]
theorem nSortSetS {fr : Fr} {hp : Hz} {f : Ex} {bs : List Bool} {xs : List (List Nat)} (h1 : f fr hp = .ret (.tup (nmL (flG bs xs)))) (hl : xs.length ≤ 59) (hs : pwS xs = true) (hn : xs.Nodup) : nSortSet f fr hp = .ret (nmL (flG bs xs)) := by
  unfold nSortSet
  rw [h1]
  show ((ofO (strsO (nmL (flG bs xs)))).bind fun ss => guardT (few (nmL (flG bs xs)) 59 && (sortedS (ss.map mkS) && diffS ss)) (.ret (nmL (flG bs xs)))) = _
  rw [strsO_of]
  show guardT (few (nmL (flG bs xs)) 59 && (sortedS ((flG bs xs).map mkS) && diffS (flG bs xs))) _ = _
  rw [few_of (by rw [nmL_len]; exact Nat.le_trans flG_len hl), sorted_fl xs bs hs, diffS_of (flG_nodup hn)]
  rfl
/-! draws -/
theorem lcF_draw {set : D → Fr → T Fr} {t : Fr → Hz → T Bool} {e : Ex} {fr : Fr} {hp : Hz} {m : Nat} {c : Nat → Bool} : ∀ (xs : List D) (P : List D → Prop), (∀ d ∈ xs, ∃ fr1, set d fr = .ret fr1 ∧ t fr1 hp = .draw m (fun i => .ret (c i)) ∧ e fr1 hp = .ret d) →
    (∀ bs : List Bool, bs.length = xs.length → P (flG bs xs)) → (lcF set t e xs fr hp).all P
  | [], P, _, h => h [] rfl
  | d :: ds, P, hx, h => by
    obtain ⟨fr1, e1, e2, e3⟩ := hx d List.mem_cons_self
    show ((set d fr).bind fun fr1 => (t fr1 hp).bind fun b => bif b then (e fr1 hp).bind fun y => (lcF set t e ds fr hp).bind fun ys => .ret (y :: ys) else lcF set t e ds fr hp).all P
    rw [T.bindE e1, e2]
    intro i hi
    show (bif c i then (e fr1 hp).bind fun y => (lcF set t e ds fr hp).bind fun ys => .ret (y :: ys) else lcF set t e ds fr hp).all P
    cases c i with
    | true =>
      show ((e fr1 hp).bind fun y => (lcF set t e ds fr hp).bind fun ys => .ret (y :: ys)).all P
      rw [T.bindE e3]
      refine T.bind_all (lcF_draw ds _ (fun x h => hx x (List.mem_cons_of_mem _ h)) fun bs hb => ?_)
      exact h (true :: bs) (by simp [hb])
    | false => exact lcF_draw ds _ (fun x h => hx x (List.mem_cons_of_mem _ h)) fun bs hb => h (false :: bs) (by simp [hb])
/-! sets against sets: the least clashes, the least forcing, the rules -/
def hd0 (c : List Bool) : Bool := c.headD false
theorem sub_t (c bs : List Bool) : subB c (true :: bs) = subB c.tail bs := by
  cases c with
  | nil => cases bs <;> rfl
  | cons x c => show ((!x || true) && subB c bs) = _; cases x <;> rfl
theorem sub_f (c bs : List Bool) : subB c (false :: bs) = (!hd0 c && subB c.tail bs) := by
  cases c with
  | nil => cases bs <;> rfl
  | cons x c => show ((!x || false) && subB c bs) = _; cases x <;> rfl
theorem sub_nil (c : List Bool) : subB c [] = true := by cases c <;> rfl
theorem tsub (r bs : List Bool) : subB (true :: bs) r = (r.headD true && subB bs r.tail) := by
  cases r with
  | nil =>
    show true = (true && subB bs [])
    rw [sub_nil]; rfl
  | cons x r => show ((!true || x) && subB bs r) = _; rfl
theorem fsub (r bs : List Bool) : subB (false :: bs) r = subB bs r.tail := by
  cases r with
  | nil =>
    show true = subB bs []
    rw [sub_nil]
  | cons x r => rfl
theorem countP_tail (p : List Bool → Bool) (l : List (List Bool)) : (l.map List.tail).countP p = l.countP fun c => p c.tail := by
  rw [List.countP_map]
  rfl
theorem countP_and (q p : List Bool → Bool) (l : List (List Bool)) : ((l.filter q).map List.tail).countP p = l.countP fun c => q c && p c.tail := by
  rw [countP_tail, List.countP_filter]
  apply List.countP_congr
  intro x _
  rw [Bool.and_comm]
end Zl
set_option Elab.async false
set_option linter.all false
set_option maxRecDepth 100000
set_option maxHeartbeats 2000000
/-! ZYS: sets of tuples of texts. The members' addresses stand in a list; κ tells the texts at each address. -/
namespace Zl
open PySem L2 PySem.Spec PyProof.Rows
/-- the hash of a tuple of texts -/
def hT (P : Program) (w : World) (k : List Str) : Int := tupleKeyHash (PySem.strKind P w) k
/-- texts stand in the tuple at b -/
def AtT (P : Program) (w : World) (h : Heap) (k : List Str) (b : Addr) : Prop := IsTupleKey (PySem.strKind P w) h k b
def rowT (P : Program) (w : World) (κ : Addr → List Str) (b : Addr) : Int × Value := (hT P w (κ b), .ref b)
/-- the set at a: the addresses of its members, as they stand in its rows -/
structure TxS (P : Program) (w : World) (κ : Addr → List Str) (h : Heap) (a : Addr) (L : List Addr) (es : Array (Int × Value)) (ep : Nat) (t : SetTable) : Prop where
  isS : ∃ o, h.get? a = some o ∧ o.ExactSet ∧ o.data = .set es ep t
  its : es.toList = L.map (rowT P w κ)
  ok : TabOk t (L.map fun b => hT P w (κ b))
  one : (L.map κ).Nodup
  mem : ∀ b ∈ L, AtT P w h (κ b) b
  seen : w.params.followText "set-order" = true ∨ t.led = true
  free : L.length * 5 < t.mask * 3
  small : L.length < 64
section
variable {P : Program} {w : World} {κ : Addr → List Str} {A : Around} {E : Value → Shared → Prop} {s : Shared} {a : Addr} {L : List Addr} {es : Array (Int × Value)} {ep : Nat} {t : SetTable}
theorem texts_are {k : List Str} {vs : List Value} (h : ItemsAre (PySem.strKind P w) k vs) : ∀ v ∈ vs, ∃ x tk, v = Value.str x tk := by
  induction h with
  | nil => intro v z; exact absurd z List.not_mem_nil
  | cons h1 _ ih =>
    intro v z
    cases z with
    | head => exact ⟨_, Value.isStrOf_shape h1⟩
    | tail _ z => exact ih v z
theorem stm_text (n : Nat) (x : Str) (tk : Tok) : ofAClassStatement n (.str x tk) = pure false := by cases n <;> rfl
theorem byv_text (n : Nat) (x : Str) (tk : Tok) : hashByValue n (.str x tk) = pure false := by cases n <;> rfl
/-- no class statement made a tuple of texts -/
theorem stm_tup {k : List Str} {b : Addr} {Q : Bool → Shared → Prop} (x : AtT P w s.heap k b) (q : Q false s) : wpAny (model P w) A (ofAClassStatement 8 (.ref b)) Q E s := by
  have ty := IsTupleKey.typeIs x
  have ⟨o, vs, n, ho, _, hd, hi⟩ := x
  unfold ofAClassStatement
  refine wpAny_bind (wpAny_typeOf ty ?_)
  dsimp only
  simp only [show (("tuple" : String) == "tuple") = true from by decide, if_true, Bool.not_true, Bool.false_eq_true, if_false]
  try refine wpAny_bind (wpAny_pure ?_)
  try simp only [Bool.not_true, Bool.false_eq_true, if_false]
  show wpAny _ _ (seqItems? (.ref b) >>= _) _ _ s
  refine wpAny_bind (wpAny_seqItems ho hd ?_)
  dsimp only
  refine wpAny_bind ?_
  show wpAny _ _ (forIn vs _ _) _ _ s
  rw [← Array.forIn_toList]
  refine wpAny_forIn_list _ (fun left r z => z = s ∧ r.1 = none ∧ ∀ u ∈ left, ∃ y tk, u = Value.str y tk) _ (fun u left r z hz => ?_) (fun r z hz => ?_) _ _ ⟨rfl, rfl, texts_are hi⟩
  · obtain ⟨rfl, _, all⟩ := hz
    obtain ⟨y, tk, rfl⟩ := all u (.head _)
    rw [stm_text]
    refine wpAny_bind (wpAny_pure ?_)
    simp only [Bool.false_eq_true, if_false]
    exact wpAny_pure ⟨rfl, rfl, fun u' m => all u' (.tail _ m)⟩
  · obtain ⟨r1, r2⟩ := r
    obtain ⟨rfl, e, _⟩ := hz
    cases e
    exact wpAny_pure q
/-- whether the hash goes by value: some answer -/
theorem byv_tup {k : List Str} {b : Addr} {Q : Bool → Shared → Prop} (x : AtT P w s.heap k b) (q : ∀ c, Q c s) : wpAny (model P w) A (hashByValue 8 (.ref b)) Q E s := by
  have ty := IsTupleKey.typeIs x
  have ⟨o, vs, n, ho, _, hd, hi⟩ := x
  unfold hashByValue
  refine wpAny_bind (wpAny_specialOf ty F.slot_tuple_hash.lookup ?_)
  show wpAny _ _ (seqItems? (.ref b) >>= _) _ _ s
  refine wpAny_bind (wpAny_seqItems ho hd ?_)
  refine wpAny_bind ?_
  show wpAny _ _ (forIn vs _ _) _ _ s
  rw [← Array.forIn_toList]
  have all := texts_are hi
  generalize vs.toList = l at all
  cases l with
  | nil =>
    rw [List.forIn_nil]
    exact wpAny_pure (wpAny_pure (q true))
  | cons u left =>
    obtain ⟨y, tk, rfl⟩ := all u (.head _)
    rw [List.forIn_cons, byv_text]
    refine wpAny_bind (wpAny_bind (wpAny_pure ?_))
    simp only [Bool.not_false, if_true]
    exact wpAny_pure (wpAny_pure (wpAny_pure (q false)))
/-- nothing of the program's is asked while a tuple of texts is looked for -/
theorem quiet_tups {k : List Str} {b : Addr} {Q : Bool → Shared → Prop} (x : AtT P w s.heap k b) {ys : List Value} (hy : ∀ y ∈ ys, ∃ c k', y = Value.ref c ∧ AtT P w s.heap k' c) (q : Q false s) : wpAny (model P w) A (searchCouldBeSeen (.ref b) ys) Q E s := by
  unfold searchCouldBeSeen
  refine wpAny_bind (wpAny_forIn_list _ (fun left r z => z = s ∧ r.1 = none ∧ ∀ y ∈ left, ∃ c k', y = Value.ref c ∧ AtT P w s.heap k' c) _ (fun u left r z hz => ?_) (fun r z hz => ?_) _ _ ⟨rfl, rfl, hy⟩)
  · obtain ⟨rfl, _, all⟩ := hz
    obtain ⟨c, k', rfl, hc⟩ := all u (.head _)
    have fin : ∀ y ∈ left, ∃ c k', y = Value.ref c ∧ AtT P w z.heap k' c := fun y m => all y (.tail _ m)
    dsimp only
    by_cases v : (b == c || (carriedByValue (.ref b) && carriedByValue (.ref c))) = true
    · exact wp_if_pos v (wpAny_pure ⟨rfl, rfl, fin⟩)
    · refine wp_if_neg v (wpAny_bind (wpAny_eqIsQuiet_tuple x ?_))
      simp only [Bool.not_true, Bool.false_eq_true, if_false]
      refine wpAny_bind (wpAny_eqIsQuiet_tuple hc ?_)
      simp only [Bool.not_true, Bool.false_eq_true, if_false]
      refine wpAny_bind (stm_tup x ?_)
      simp only [Bool.false_eq_true, if_false]
      refine wpAny_bind (stm_tup hc ?_)
      simp only [Bool.false_eq_true, if_false]
      exact wpAny_pure ⟨rfl, rfl, fin⟩
  · obtain ⟨r1, r2⟩ := r
    obtain ⟨rfl, e, _⟩ := hz
    cases e
    exact wpAny_pure q
theorem TxS.len (R : TxS P w κ s.heap a L es ep t) : es.size = L.length := by rw [← Array.length_toList, R.its, List.length_map]
theorem TxS.fit (R : TxS P w κ s.heap a L es ep t) : t.fits es.size = true := by
  have e1 : t.place.size = L.length := by rw [R.ok.sz, List.length_map]
  have e2 := R.free
  unfold SetTable.fits SetTable.fill
  rw [R.len, R.ok.dm, e1, Bool.and_eq_true]
  exact ⟨beq_self_eq_true _, decide_eq_true (by show L.length + 0 ≤ t.mask; omega)⟩
theorem TxS.row (R : TxS P w κ s.heap a L es ep t) {i : Nat} {b : Addr} (e : L[i]? = some b) : es[i]? = some (rowT P w κ b) := by
  rw [← Array.getElem?_toList, R.its, List.getElem?_map, e]
  rfl
theorem TxS.stays (R : TxS P w κ s.heap a L es ep t) : ¬ t.gaveWay = true := by
  unfold SetTable.gaveWay
  rw [mask_odd R.ok.mok]
  decide
/-! ### looking for a tuple -/
/-- the probe after c steps -/
def stp (m : Nat) (h : Int) (c : Nat) : SetTable.Probe := nth m (runAt m (SetTable.bits h % (m + 1)) (SetTable.bits h)) c
theorem stp_on (m : Nat) (h : Int) (c q : Nat) : nth m (stp m h c) q = stp m h (c + q) := Eq.symm (nth_add m c _ q)
theorem nth_clean (m : Nat) (n : Nat) : ∀ p : SetTable.Probe, p.dummy = none → (nth m p n).dummy = none := by
  induction n with
  | zero => exact fun p e => e
  | succ n ih =>
    intro p e
    have : (adv m p).dummy = none := by
      unfold adv
      split <;> assumption
    exact ih _ this
theorem look (R : TxS P w κ s.heap a L es ep t) {b : Addr} {k : List Str} (x : AtT P w s.heap k b) (hu : A.units < cLine) {K : Nat} (kf : K < 10 * SetTable.turns t.mask) (ke : way t.mask (hT P w k) K ∉ t.place.toList) (kl : ∀ c, c < K → way t.mask (hT P w k) c ∈ t.place.toList)
    {Q : SetFound → Shared → Prop} (yes : k ∈ L.map κ → Q (.there none) s) (no : k ∉ L.map κ → Q (.free (way t.mask (hT P w k) K) false) s) :
    ∀ (f c : Nat) (st : Option SetTable.Probe), st.getD (t.probeStart (hT P w k)) = stp t.mask (hT P w k) c → c ≤ K → K - c < f →
      (∀ (i : Nat) (b' : Addr), L[i]? = some b' → κ b' = k → ∃ c', c ≤ c' ∧ c' < K ∧ t.place.toList[i]? = some (way t.mask (hT P w k) c')) →
      wpAny (model P w) A (setSearchFrom a (.ref b) (hT P w k) true f st) Q E s := by
  intro f
  induction f with
  | zero => exact fun c st _ _ z _ => absurd z (Nat.not_lt_zero _)
  | succ f ih =>
    intro c st est hc hf hre
    have ⟨o, ho, _, hd⟩ := R.isS
    rw [setSearchFrom_succ]
    refine wpAny_bind (wpAny_setState_of ho hd R.fit ?_)
    dsimp only
    refine wp_if_neg R.stays ?_
    try refine wpAny_bind (wpAny_pure ?_)
    have rowh : ∀ (i : Nat) (b' : Addr), L[i]? = some b' → (es[i]?.map (·.1)).getD 0 = hT P w (κ b') := fun i b' e => by
      rw [R.row e]
      rfl
    have wy : ∀ q, (nth t.mask (stp t.mask (hT P w k) c) q).j = way t.mask (hT P w k) (c + q) := fun q => by rw [stp_on]; rfl
    have found := go_spec t R.ok.ris R.ok.dm (fun i => (es[i]?.map (·.1)).getD 0) (hT P w k) (10 * SetTable.turns t.mask) (K - c) (stp t.mask (hT P w k) c) (nth_clean _ _ _ rfl) (by omega)
      (fun q z => by rw [wy]; exact kl _ (by omega)) (by rw [wy, show c + (K - c) = K by omega]; exact ke)
    -- a member with these texts is not passed
    have kept : ∀ q, (∀ q' i' : Nat, q' < q → t.place.toList[i']? = some (nth t.mask (stp t.mask (hT P w k) c) q').j → (es[i']?.map (·.1)).getD 0 ≠ hT P w k) → ∀ (i : Nat) (b' : Addr), L[i]? = some b' → κ b' = k → ∃ c', c + q ≤ c' ∧ c' < K ∧ t.place.toList[i]? = some (way t.mask (hT P w k) c') := by
      intro q hq i b' e ek
      obtain ⟨c', z1, z2, z3⟩ := hre i b' e ek
      refine ⟨c', ?_, z2, z3⟩
      rcases Nat.lt_or_ge c' (c + q) with y | y
      · refine absurd ?_ (hq (c' - c) i (by omega) (by rw [wy, show c + (c' - c) = c' by omega]; exact z3))
        rw [rowh i b' e, ek]
      · exact y
    have pr : t.probe (fun i => (es[i]?.map (·.1)).getD 0) (hT P w k) (st.getD (t.probeStart (hT P w k))) = SetTable.probe.go t (fun i => (es[i]?.map (·.1)).getD 0) (hT P w k) (10 * SetTable.turns t.mask) (stp t.mask (hT P w k) c) := by rw [est]; rfl
    rcases found with ⟨q, i, hq, hi, _, hno, hpr⟩ | ⟨hno, hpr⟩
    · rw [pr, hpr]
      dsimp only
      rw [wy] at hi ⊢
      rw [stp_on]
      have hil : i < L.length := by
        have z := (List.getElem?_eq_some_iff.mp hi).1
        have y := R.ok.sz
        rw [List.length_map] at y
        rw [Array.length_toList, y] at z
        exact z
      obtain ⟨b', hb⟩ : ∃ b', L[i]? = some b' := ⟨_, List.getElem?_eq_getElem hil⟩
      have hm : b' ∈ L := List.mem_of_getElem? hb
      have cont : wpAny (model P w) A (searchRest a (.ref b) (hT P w k) true f es t (way t.mask (hT P w k) (c + q)) i (stp t.mask (hT P w k) (c + (q + 1)))) Q E s := by
        unfold searchRest
        rw [R.row hb]
        unfold rowT
        dsimp only
        refine wpAny_bind (wpAny_holding (wpAny_eqBool_tuple hu (R.mem b' hm) x ?_))
        refine wpAny_bind (wpAny_setState_of ho hd R.fit ?_)
        dsimp only
        by_cases ek : κ b' = k
        · refine wp_if_pos (by simp [ek]) (wpAny_pure (yes ?_))
          rw [← ek]
          exact List.mem_map_of_mem hm
        · refine wp_if_neg (by simp [ek]) ?_
          try refine wpAny_bind (wpAny_pure ?_)
          rw [sameMem]
          have lv := slot_live R.ok.ris hi
          have rb := R.row hb
          unfold rowT at rb
          simp only [if_true, lv, rb]
          refine wpAny_bind (wpAny_isSame_ref_self (wpAny_bind (wpAny_pure ?_)))
          simp only [if_true]
          refine wp_if_neg (by simp [ek]) (ih (c + (q + 1)) _ rfl (by omega) (by omega) fun i0 b0 e0 ek0 => ?_)
          obtain ⟨c', z1, z2, z3⟩ := kept q hno i0 b0 e0 ek0
          refine ⟨c', ?_, z2, z3⟩
          rcases Nat.lt_or_ge (c + q) c' with y | y
          · omega
          · have ec : c' = c + q := by omega
            subst ec
            have lv0 := slot_live R.ok.ris z3
            rw [lv] at lv0
            injection lv0 with ei
            subst ei
            rw [hb] at e0
            cases e0
            exact absurd ek0 ek
      by_cases l : t.led = true
      · refine wp_if_neg (by simp [l]) ?_
        try refine wpAny_bind (wpAny_pure ?_)
        exact cont
      · refine wp_if_pos (by simp [l]) (wpAny_bind (quiet_tups x (fun y hy => ?_) ?_))
        · obtain ⟨e, he, rfl⟩ := List.mem_map.mp hy
          have he : e ∈ es.toList := by
            have : e ∈ es ∧ e.1 = hT P w k := by simpa using he
            simpa using this.1
          rw [R.its] at he
          obtain ⟨c', hc', rfl⟩ := List.mem_map.mp he
          exact ⟨c', κ c', rfl, R.mem c' hc'⟩
        · refine wp_if_neg (by decide) ?_
          try refine wpAny_bind (wpAny_pure ?_)
          exact cont
    · rw [pr, hpr]
      dsimp only
      rw [wy, show c + (K - c) = K by omega]
      refine wpAny_pure (no fun hm => ?_)
      obtain ⟨b', hb, ek⟩ := List.mem_map.mp hm
      obtain ⟨i, e⟩ := List.mem_iff_getElem?.mp hb
      obtain ⟨c', z1, z2, _⟩ := kept (K - c) hno i b' e ek
      omega
theorem seek (R : TxS P w κ s.heap a L es ep t) {b : Addr} {k : List Str} (x : AtT P w s.heap k b) (hu : A.units < cLine) {Q : SetFound → Shared → Prop} (yes : k ∈ L.map κ → Q (.there none) s)
    (no : ∀ K, k ∉ L.map κ → way t.mask (hT P w k) K ∉ t.place.toList → (∀ c, c < K → way t.mask (hT P w k) c ∈ t.place.toList) → Q (.free (way t.mask (hT P w k) K) false) s) : wpAny (model P w) A (setSearch a (.ref b) (hT P w k) true) Q E s := by
  have fr := R.free
  obtain ⟨K, kf, ke, kl⟩ := R.ok.first (by rw [List.length_map]; omega) (hT P w k)
  have small : K < 100000 := by
    have : SetTable.turns t.mask ≤ 142 := by
      unfold SetTable.turns
      rcases R.ok.mok with z | z | z <;> omega
    omega
  unfold setSearch
  refine look R x hu kf ke kl yes (fun z => no K z ke kl) 100000 0 none rfl (Nat.zero_le _) (by omega) fun i b' e ek => ?_
  have eh : (L.map fun b => hT P w (κ b))[i]? = some (hT P w k) := by
    rw [List.getElem?_map, e, ← ek]
    rfl
  have hi : i < t.place.toList.length := by
    have z := (List.getElem?_eq_some_iff.mp e).1
    rw [Array.length_toList, R.ok.sz, List.length_map]
    exact z
  obtain ⟨c, hc, ec⟩ := R.ok.before ke eh (List.getElem?_eq_getElem hi)
  exact ⟨c, Nat.zero_le _, hc, by rw [List.getElem?_eq_getElem hi, ec]⟩
/-! ### the table laid anew -/
theorem range_get {α : Type} : ∀ l : List α, (List.range l.length).filterMap (fun i => l[i]?) = l
  | [] => rfl
  | x :: r => by
    rw [List.length_cons, List.range_succ_eq_map, List.filterMap_cons_some (by rfl : (x :: r)[0]? = some x), List.filterMap_map]
    exact congrArg (x :: ·) (range_get r)
theorem AtT.but {h h' : Heap} {k : List Str} {b : Addr} {o : Obj} (x : AtT P w h k b) (ho : h.get? a = some o) (hd : o.data = .set es ep t) (sb : Heap.SameBut a h h') : AtT P w h' k b := by
  have ⟨ob, vs, n, e, ec, ed, ei⟩ := x
  refine ⟨ob, vs, n, ?_, ec, ed, ei⟩
  rw [sb.2 b fun z => ?_, e]
  subst z
  rw [ho] at e
  cases e
  rw [hd] at ed
  cases ed
theorem rows_in {order : Array Nat} (its : es.toList = L.map (rowT P w κ)) : (order.filterMap (es[·]?)).toList = (order.toList.filterMap fun i => L[i]?).map (rowT P w κ) := by
  have e : ∀ i : Nat, es[i]? = (L[i]?).map (rowT P w κ) := fun i => by rw [← Array.getElem?_toList, its, List.getElem?_map]
  rw [Array.toList_filterMap, List.map_filterMap]
  congr 1
  funext i
  exact e i
theorem hash_in (its : es.toList = L.map (rowT P w κ)) : ∀ l : List Nat, (∀ i ∈ l, i < L.length) → (l.filterMap fun i => L[i]?).map (fun b => hT P w (κ b)) = l.map fun i => (es.map (·.1)).getD i 0
  | [], _ => rfl
  | i :: l, hl => by
    have hi := hl i (.head _)
    have e : es[i]? = some (rowT P w κ L[i]) := by rw [← Array.getElem?_toList, its, List.getElem?_map, List.getElem?_eq_getElem hi]; rfl
    have e2 : (es.map (·.1))[i]? = some (hT P w (κ L[i])) := by rw [Array.getElem?_map, e]; rfl
    rw [List.filterMap_cons_some (List.getElem?_eq_getElem hi), List.map_cons, List.map_cons, hash_in its l fun j m => hl j (.tail _ m), Array.getD_eq_getD_getElem?, e2]
    rfl
theorem relayT {o : Obj} (ho : s.heap.get? a = some o) (hex : o.ExactSet) (hd : o.data = .set es ep t) (its : es.toList = L.map (rowT P w κ)) (pz : t.place.size = L.length) (dm : t.dummies = #[]) (fl : L.length ≤ t.mask) (one : (L.map κ).Nodup)
    (mem : ∀ b ∈ L, AtT P w s.heap (κ b) b) (seen : w.params.followText "set-order" = true ∨ t.led = true) (small : L.length < 64) {wanted M : Nat} (hw : SetTable.sizeAbove wanted - 1 = M) (hM : MaskOk M) (hw2 : SetTable.sizeAbove wanted ≤ 128) (free : L.length * 5 < M * 3)
    {Q : Unit → Shared → Prop} (hQ : ∀ h' L' es' ep' t', Heap.SameBut a s.heap h' → TxS P w κ h' a L' es' ep' t' → L'.Perm L → Q () { s with heap := h' }) : wpAny (model P w) A (setRelay a wanted) Q E s := by
  have ez : es.size = L.length := by rw [← Array.length_toList, its, List.length_map]
  have fit : t.fits es.size = true := by
    unfold SetTable.fits SetTable.fill
    rw [ez, dm, pz, Bool.and_eq_true]
    exact ⟨beq_self_eq_true _, decide_eq_true (by show L.length + 0 ≤ t.mask; omega)⟩
  obtain ⟨t2, order, e, pm, ok2, em, el, _, ed⟩ := relaid_ok t (hs := es.map (·.1)) (wanted := wanted) hw hM (by rw [Array.size_map, ez]; omega)
  rw [Array.size_map, ez] at pm
  have pL : (order.toList.filterMap fun i => L[i]?).Perm L := by
    have z := pm.filterMap fun i => L[i]?
    rw [range_get] at z
    exact z
  have its2 := rows_in (order := order) its
  rw [← hash_in its order.toList fun i m => List.mem_range.mp (pm.mem_iff.mp m)] at ok2
  generalize order.toList.filterMap (fun i => L[i]?) = L2 at pL its2 ok2
  generalize hes : order.filterMap (es[·]?) = es2 at its2
  have ez2 : es2.size = L.length := by rw [← Array.length_toList, its2, List.length_map, pL.length_eq]
  rw [setRelay_eq]
  refine wpAny_bind (wpAny_setState_of ho hd fit ?_)
  dsimp only
  refine wp_if_neg (by rw [sizeLine_eq]; omega) ?_
  try refine wpAny_bind (wpAny_pure ?_)
  rw [e]
  dsimp only
  rw [hes]
  refine wpAny_bind (wp_if_neg (by rw [ez2, ez]; simp) ?_)
  try refine wpAny_bind (wpAny_pure ?_)
  refine wpAny_pure ?_
  dsimp only
  have sb := Heap.SameBut.update s.heap a (Obj.putSet es2 t2)
  refine wpAny_storeSet_of ho hd (hQ _ L2 es2 (ep + 1) t2 sb ⟨⟨_, store_at ho hd, ⟨hex.1, hex.2.1, hex.2.2⟩, rfl⟩, its2, ok2, (pL.map κ).nodup_iff.mpr one, fun b m => (mem b (pL.mem_iff.mp m)).but ho hd sb, by rw [el]; exact seen, ?_, ?_⟩ pL) (by rw [ez2, sizeLine_eq]; omega)
  · rw [pL.length_eq, em]; exact free
  · rw [pL.length_eq]; exact small
/-! ### a tuple put in -/
theorem tabOff {hs : List Int} (T : TabOk t hs) : TabOk ({ t with plain := false } : SetTable) hs := ⟨T.ris, T.dm, T.sz, T.mok, T.bd, T.reach⟩
theorem putT (R : TxS P w κ s.heap a L es ep t) {b : Addr} (x : AtT P w s.heap (κ b) b) (hu : A.units < cLine) (more : L.length + 1 < 64) {Q : Bool → Shared → Prop}
    (hQ : ∀ c h' L' es' ep' t', Heap.SameBut a s.heap h' → TxS P w κ h' a L' es' ep' t' → (κ b ∈ L.map κ → L' = L) → (κ b ∉ L.map κ → L'.Perm (b :: L)) → Q c { s with heap := h' }) :
    wpAny (model P w) A (setAddHashed a (.ref b) (hT P w (κ b))) Q E s := by
  have ⟨o, ho, hex, hd⟩ := R.isS
  have ez := R.len
  have fr := R.free
  unfold setAddHashed
  refine wpAny_holding ?_
  rw [show (100000 : Nat) = 99999 + 1 from rfl, setAddHashedIn_succ]
  refine wpAny_bind (wpAny_setState_of ho hd R.fit ?_)
  dsimp only
  refine wp_if_neg (by simp [byScan, Value.scannable]) ?_
  try refine wpAny_bind (wpAny_pure ?_)
  refine wpAny_bind (seek R x hu (fun hm => ?_) fun K hm ke kl => ?_)
  · dsimp only
    exact wpAny_pure (hQ false s.heap L es ep t (Heap.SameBut.refl a s.heap) R (fun _ => rfl) (fun z => absurd hm z))
  dsimp only
  refine wpAny_bind (wpAny_setState_of ho hd R.fit ?_)
  dsimp only
  obtain ⟨q1, q2, q3, q4, q5, _, _, _, q9⟩ := R.ok.put ke kl
  generalize hpt : t.put (way t.mask (hT P w (κ b)) K) = pt at q1 q3 q4 q5 q9 ⊢
  obtain ⟨t1, p⟩ := pt
  dsimp only at q1 q3 q4 q5 q9 ⊢
  subst q1
  have its1 : (SetTable.insertAt es (SetTable.below t.place (way t.mask (hT P w (κ b)) K)) (hT P w (κ b), Value.ref b)).toList = (L.take (SetTable.below t.place (way t.mask (hT P w (κ b)) K)) ++ b :: L.drop (SetTable.below t.place (way t.mask (hT P w (κ b)) K))).map (rowT P w κ) := by
    rw [SetTable.toList_insertAt, R.its, List.map_append, List.map_cons, List.map_take, List.map_drop]
    rfl
  generalize hpp : SetTable.below t.place (way t.mask (hT P w (κ b)) K) = p at q2 q3 its1 ⊢
  have pm : (L.take p ++ b :: L.drop p).Perm (b :: L) := by
    have z : (L.take p ++ b :: L.drop p).Perm (b :: (L.take p ++ L.drop p)) := List.perm_middle
    rw [List.take_append_drop] at z
    exact z
  have eh : (L.take p ++ b :: L.drop p).map (fun c => hT P w (κ c)) = (L.map fun c => hT P w (κ c)).take p ++ hT P w (κ b) :: (L.map fun c => hT P w (κ c)).drop p := by
    rw [List.map_append, List.map_cons, List.map_take, List.map_drop]
  rw [← eh] at q3
  rw [List.length_map] at q9
  generalize L.take p ++ b :: L.drop p = L1 at pm its1 q3
  generalize SetTable.insertAt es p (hT P w (κ b), Value.ref b) = es1 at its1 ⊢
  have l1 : L1.length = L.length + 1 := pm.length_eq
  have ez1 : es1.size = L.length + 1 := by rw [← Array.length_toList, its1, List.length_map, l1]
  have one1 : (L1.map κ).Nodup := by
    refine (pm.map κ).nodup_iff.mpr ?_
    rw [List.map_cons]
    exact List.nodup_cons.mpr ⟨hm, R.one⟩
  have seen1 : w.params.followText "set-order" = true ∨ t1.led = true := by rw [q5]; exact R.seen
  -- behind the new row
  have fin : ∀ t2 : SetTable, TabOk t2 (L1.map fun c => hT P w (κ c)) → t2.mask = t1.mask → (w.params.followText "set-order" = true ∨ t2.led = true) → t2.tooFull = t1.tooFull → ∀ wd : Bool, wd = false →
      wpAny (model P w) A (do
        storeSet a es1 t2
        if !wd && t2.tooFull then setRelay a (SetTable.grown (es.size + 1))
        return true) Q E s := by
    intro t2 ok2 em seen2 ef wd ewd
    subst ewd
    refine wpAny_bind (wpAny_storeSet_of ho hd ?_ (by rw [ez1, sizeLine_eq]; omega))
    have sb := Heap.SameBut.update s.heap a (Obj.putSet es1 t2)
    have ho1 := store_at (es' := es1) (t' := t2) ho hd
    generalize s.heap.update a (Obj.putSet es1 t2) = h1 at sb ho1 ⊢
    have mem1 : ∀ c ∈ L1, AtT P w h1 (κ c) c := fun c m => by
      rcases List.mem_cons.mp (pm.mem_iff.mp m) with z | z
      · subst z; exact x.but ho hd sb
      · exact (R.mem c z).but ho hd sb
    have full : t1.tooFull = decide ((L.length + 1) * 5 ≥ t1.mask * 3) := by
      unfold SetTable.tooFull
      rw [q9]
    by_cases hf : t1.tooFull = true
    · have hf2 := hf
      rw [full, decide_eq_true_eq, q4] at hf2
      have way2 : (t.mask = 7 ∧ L.length = 4) ∨ (t.mask = 31 ∧ L.length = 18) := by
        rcases R.ok.mok with z | z | z <;> rw [z] at hf2 fr
        · exact .inl ⟨z, by omega⟩
        · exact .inr ⟨z, by omega⟩
        · omega
      have go : ∀ M, SetTable.sizeAbove (SetTable.grown (L.length + 1)) - 1 = M → MaskOk M → SetTable.sizeAbove (SetTable.grown (L.length + 1)) ≤ 128 → (L.length + 1) * 5 < M * 3 →
          wpAny (model P w) A (setRelay a (SetTable.grown (L.length + 1))) (fun _ z => wpAny (model P w) A (pure true) Q E z) E { s with heap := h1 } := fun M m1 m2 m3 m4 => by
        refine relayT (s := { s with heap := h1 }) ho1 ⟨hex.1, hex.2.1, hex.2.2⟩ rfl its1 (by rw [ok2.sz, List.length_map]) ok2.dm (by rw [l1, em, q4]; rcases way2 with ⟨z, y⟩ | ⟨z, y⟩ <;> omega) one1 mem1 seen2 (by rw [l1]; exact more) m1 m2 m3 (by rw [l1]; exact m4) fun h2 L2 es2 ep2 t3 sb2 R2 pm2 => ?_
        exact wpAny_pure (hQ true h2 L2 es2 ep2 t3 (sb.trans sb2) R2 (fun z => absurd z hm) fun _ => pm2.trans pm)
      rw [ez]
      have cond : (!false && t2.tooFull) = true := by rw [ef, hf]; rfl
      have both : wpAny (model P w) A (setRelay a (SetTable.grown (L.length + 1))) (fun _ z => wpAny (model P w) A (pure true) Q E z) E { s with heap := h1 } := by
        rcases way2 with ⟨_, y⟩ | ⟨_, y⟩
        · exact go 31 (by rw [y, size_20]) (.inr (.inl rfl)) (by rw [y, size_20]; decide) (by omega)
        · exact go 127 (by rw [y, size_76]) (.inr (.inr rfl)) (by rw [y, size_76]; decide) (by omega)
      first
        | exact wpAny_bind (wp_if_pos cond both)
        | exact wp_if_pos cond (wpAny_bind both)
    · have cond : ¬ (!false && t2.tooFull) = true := by rw [ef]; simpa using hf
      have last : Q true { s with heap := h1 } := by
        refine hQ true h1 L1 es1 (ep + 1) t2 sb ⟨⟨_, ho1, ⟨hex.1, hex.2.1, hex.2.2⟩, rfl⟩, its1, ok2, one1, mem1, seen2, ?_, by rw [l1]; exact more⟩ (fun z => absurd z hm) fun _ => pm
        rw [full, decide_eq_true_eq] at hf
        rw [l1, em]
        omega
      first
        | exact wp_if_neg cond (wpAny_pure last)
        | exact wpAny_bind (wp_if_neg cond (wpAny_pure (wpAny_pure last)))
  have put : ∀ c : Bool, wpAny (model P w) A (do
        storeSet a es1 (if c = true then t1 else { t1 with plain := false })
        if !false && (if c = true then t1 else { t1 with plain := false }).tooFull then setRelay a (SetTable.grown (es.size + 1))
        return true) Q E s := by
    intro c
    cases c with
    | true => exact fin t1 q3 rfl seen1 rfl false rfl
    | false => exact fin { t1 with plain := false } (tabOff q3) rfl seen1 rfl false rfl
  by_cases hp : t1.plain = true
  · first
      | exact wpAny_bind (wp_if_pos hp (byv_tup x fun c => put c))
      | exact wp_if_pos hp (wpAny_bind (byv_tup x fun c => put c))
  · first
      | exact wpAny_bind (wp_if_neg hp (wpAny_pure (put true)))
      | exact wp_if_neg hp (put true)
/-! ### set(a list of tuples) -/
/-- L holds each of these texts once, none besides -/
structure InT (κ : Addr → List Str) (done L : List Addr) : Prop where
  from' : ∀ b ∈ L, b ∈ done
  hold : ∀ b ∈ done, κ b ∈ L.map κ
  less : L.length ≤ done.length
theorem InT.next {done L L' : List Addr} {b : Addr} (z : InT κ done L) (y : κ b ∈ L.map κ → L' = L) (n : κ b ∉ L.map κ → L'.Perm (b :: L)) : InT κ (done ++ [b]) L' := by
  by_cases c : κ b ∈ L.map κ
  · obtain rfl := y c
    refine ⟨fun x m => List.mem_append_left _ (z.from' x m), fun x m => ?_, by rw [List.length_append]; exact Nat.le_trans z.less (Nat.le_add_right _ _)⟩
    rcases List.mem_append.mp m with m | m
    · exact z.hold x m
    · rw [List.mem_singleton.mp m]; exact c
  · have pm := n c
    refine ⟨fun x m => ?_, fun x m => ?_, ?_⟩
    · rcases List.mem_cons.mp (pm.mem_iff.mp m) with e | m
      · rw [e]; simp
      · exact List.mem_append_left _ (z.from' x m)
    · rw [(pm.map κ).mem_iff, List.map_cons]
      rcases List.mem_append.mp m with m | m
      · exact List.mem_cons_of_mem _ (z.hold x m)
      · rw [List.mem_singleton.mp m]; exact List.mem_cons_self
    · rw [pm.length_eq, List.length_append]
      exact Nat.succ_le_succ z.less
theorem AtT.on {h h' : Heap} {k : List Str} {b : Addr} (x : AtT P w h k b) (keep : ∀ c o, h.get? c = some o → h'.get? c = some o) : AtT P w h' k b :=
  let ⟨o, vs, n, e, r⟩ := x
  ⟨o, vs, n, keep b o e, r⟩
theorem TxS.at {h h' : Heap} (R : TxS P w κ h a L es ep t) (ha : ∀ o, h.get? a = some o → h'.get? a = some o) (hm : ∀ b ∈ L, AtT P w h' (κ b) b) : TxS P w κ h' a L es ep t :=
  let ⟨o, e, r⟩ := R.isS
  ⟨⟨o, ha o e, r⟩, R.its, R.ok, R.one, hm, R.seen, R.free, R.small⟩
theorem TxS.start {h : Heap} (ho : h.get? a = some { cls := .type "set", dict := none, data := .set #[] 0 (.fresh 0 0 (!w.params.followText "set-order")) }) : TxS P w κ h a [] #[] 0 (.fresh 0 0 (!w.params.followText "set-order")) := by
  refine ⟨⟨_, ho, ⟨rfl, rfl, rfl⟩, rfl⟩, rfl, ⟨.nil, rfl, rfl, .inl rfl, fun x m => absurd m (by simp [SetTable.fresh]), fun i h j m => absurd m (by simp)⟩, .nil, fun b m => absurd m List.not_mem_nil, ?_, (show 0 * 5 < 7 * 3 by decide), (show 0 < 64 by decide)⟩
  show _ ∨ (!w.params.followText "set-order") = true
  cases w.params.followText "set-order" <;> simp
theorem setT_loop {I : Addr} {fp wr : List Addr} {G : Array GenState → Array GenState → Prop} {n : Nat} {Pv : Nat → Value → Prop} {St : Nat → Shared → Prop} {R : Result → Shared → Prop} (W : WalksS P w A.in1 I fp wr G n Pv St) (S : Addr) (hSf : S ∉ fp) (bs : List Addr)
    (hn : n = bs.length) (few : bs.length < 64) (hval : ∀ i v, Pv i v → ∃ b, bs[i]? = some b ∧ v = .ref b) (h0 : Heap) (hk : ∀ b ∈ bs, AtT P w h0 (κ b) b) (hS0 : h0.get? S = none) (hw0 : ∀ b ∈ wr, h0.get? b = none) (hu : A.in1.units < cLine) :
    ∀ (k i : Nat) (s : Shared), n - i = k → i ≤ n → St i s → (∀ b o, h0.get? b = some o → s.heap.get? b = some o) → (∃ L es ep t, TxS P w κ s.heap S L es ep t ∧ InT κ (bs.take i) L) →
      (∀ s' L es ep t, Moved (S :: wr) G s s' → TxS P w κ s'.heap S L es ep t → InT κ bs L → (∀ b o, h0.get? b = some o → s'.heap.get? b = some o) → R (.ok (.ret .none)) s') →
      codeAny (model P w) A (.builtin "set.update.loop" ⟨[.ref S, .ref I], []⟩) R s := by
  have hSw : S ∉ wr := fun z => hSf (W.sub _ z)
  have up : ∀ b ∈ wr, b ∈ S :: wr := fun b => List.mem_cons_of_mem _
  have still : ∀ {s s' : Shared}, Moved wr G s s' → (∀ b o, h0.get? b = some o → s.heap.get? b = some o) → ∀ b o, h0.get? b = some o → s'.heap.get? b = some o := fun mv kp b o e =>
    mv.heap b o (fun m => nomatch (hw0 b m).symm.trans e) (kp b o e)
  intro k
  induction k with
  | zero =>
    intro i s hki hi hst kp ⟨L, es, ep, t, T, J⟩ hR
    obtain rfl : i = n := by omega
    refine codeAny_builtin F.entry_set_update_loop ?_
    rw [Around.under_plainId F.plain_set_update_loop _]
    show wpAny _ A.in1 (pyNext (.ref I) >>= _) _ _ s
    refine wpAny_bind (W.done s _ _ hst fun s' mv => ?_)
    rw [List.take_of_length_le (by omega)] at J
    have kp' := still mv kp
    exact wpAny_pure (hR s' L es ep t (mv.mono up) (T.at (fun o e => mv.heap S o hSw e) fun b m => (hk b (J.from' b m)).on kp') J kp')
  | succ k ih =>
    intro i s hki hi hst kp ⟨L, es, ep, t, T, J⟩ hR
    have lt : i < n := by omega
    refine codeAny_builtin F.entry_set_update_loop ?_
    rw [Around.under_plainId F.plain_set_update_loop _]
    show wpAny _ A.in1 (pyNext (.ref I) >>= _) _ _ s
    refine wpAny_bind (W.item i s _ _ lt hst fun v s' hP hst' mv => ?_)
    obtain ⟨b, hb, rfl⟩ := hval i v hP
    have kp' := still mv kp
    have T' : TxS P w κ s'.heap S L es ep t := T.at (fun o e => mv.heap S o hSw e) fun c m => (hk c (List.mem_of_mem_take (J.from' c m))).on kp'
    have x : AtT P w s'.heap (κ b) b := (hk b (List.mem_of_getElem? hb)).on kp'
    have fewL : L.length + 1 < 64 := by
      have := J.less
      rw [List.length_take] at this
      omega
    show wpAny _ A.in1 (holding [Value.ref b] (setAdd S (.ref b)) >>= _) _ _ s'
    refine wpAny_bind (wpAny_holding ?_)
    unfold setAdd
    refine wpAny_holding (wpAny_bind (wpAny_pyHash_tuple hu x ?_))
    refine putT (s := { s' with toks := s'.toks + _ }) T' x hu fewL fun c h' L' es' ep' t' sb T2 y1 y2 => ?_
    have J' : InT κ (bs.take (i + 1)) L' := by
      rw [List.take_add_one, hb]
      exact J.next y1 y2
    have kp2 : ∀ d o, h0.get? d = some o → h'.get? d = some o := fun d o e => (sb.2 d fun z => by rw [z, hS0] at e; cases e).trans (kp' d o e)
    refine wpAny_pure ⟨plainId_quiet F.plain_set_update_loop _, ih (i + 1) _ (by omega) lt (W.frame _ s' _ _ hst' (Nat.le_add_right _ _) fun d m o e => ?_) kp2 ⟨L', es', ep', t', T2, J'⟩ fun s2 L2 es2 ep2 t2 mv2 T3 J3 kp3 => ?_⟩
    · exact (sb.2 d fun z => hSf (z ▸ m)).trans e
    · exact hR s2 L2 es2 ep2 t2 (Moved.trans W.gtrans ((mv.mono up).then_heap (Nat.le_add_right _ _) fun d o m e => (sb.2 d fun z => m (by rw [z]; exact List.mem_cons_self)).trans e) mv2) T3 J3 kp3
theorem call_setT {l : Addr} {its : Array Value} {bs : List Addr} {Q : Value → Shared → Prop} (hh : A.handled = none) (hl : s.heap.IsList l its) (hit : its.toList = bs.map Value.ref) (hk : ∀ b ∈ bs, AtT P w s.heap (κ b) b) (few : bs.length < 64) (hu : A.units + 3 < cLine)
    (h : ∀ (h' : Heap) (tk : Nat) L es ep t, TxS P w κ h' s.heap.objs.size L es ep t → InT κ bs L → (∀ b o, s.heap.get? b = some o → h'.get? b = some o) → Q (.ref s.heap.objs.size) { s with heap := h', toks := tk }) :
    wpAny (model P w) A (call (.type "set") [.ref l]) Q E s := by
  let new : Obj := { cls := .type "set", dict := none, data := .set #[] 0 (.fresh 0 0 (!w.params.followText "set-order")) }
  have z0 : its.size = bs.length := by rw [← Array.length_toList, hit, List.length_map]
  have nothing : ∀ b, s.heap.objs.size ≤ b → s.heap.get? b = none := fun b hb => by
    cases q : s.heap.get? b with
    | none => rfl
    | some o => exact absurd hb (Nat.not_le_of_lt (Heap.lt_size q))
  obtain ⟨c, tl, hmro⟩ := PySem.F.called_set.mro
  have m1 := PySem.F.called_set.made
  have m2 := PySem.F.called_set.sub
  refine wpAny_call (codeAny_of_tree ?_)
  show wpAny _ _ (callAny (.type "set") _) _ _ _
  refine wpAny_pure ⟨Code.quiet_builtin _ (by decide +kernel), codeAny_builtin PySem.F.entry_type_call ?_⟩
  rw [Around.under_plain (weight_type_call_type "set" [.ref l] []) rfl]
  have m3 := PySem.F.called_set.notType
  have m4 := PySem.F.called_set.canCreate
  have m5 := PySem.F.typeCall_set_1 (.ref l)
  repeat (any_goals (first | assumption | wp_step))
  refine codeAny_mono (code_set_led1 (.ref l) (E := E) (Q₁ := fun x z => x = .ref s.heap.objs.size ∧ z = { s with heap := s.heap.push new }) ⟨rfl, rfl⟩) fun r z hr => ?_
  cases r with
  | error e => exact hr
  | ok fl =>
    cases fl with
    | ret x =>
      obtain ⟨rfl, rfl⟩ := hr
      have hS : (s.heap.push new).get? s.heap.objs.size = some new := Heap.get?_push_size _ rfl
      have hT : Shared.TypeIs { s with heap := s.heap.push new } (.ref s.heap.objs.size) "set" := ⟨_, hS, rfl⟩
      have n1 := PySem.F.called_set.init.lookup
      have n2 := PySem.F.called_set.init.bind (.ref s.heap.objs.size)
      repeat (any_goals (first | assumption | wp_step))
      refine codeAny_mono (codeAny_call_builtin (R := wants (fun r z => r = .none ∧ ∃ h' tk L es ep t, z = { s with heap := h', toks := tk } ∧ TxS P w κ h' s.heap.objs.size L es ep t ∧ InT κ bs L ∧ (∀ b o, s.heap.get? b = some o → h'.get? b = some o)) E)
        PySem.F.called_set.init.plain PySem.F.entry_set_init (check_set_init_1 hT ?_)) fun r2 z2 hr2 => ?_
      · obtain ⟨⟨oc, od, odt, osl⟩, hol, hcl, nl, hdl⟩ := hl
        simp only at hcl hdl
        subst hcl; subst hdl
        have hol' := Heap.get?_push_of_some new hol
        have k1 := PySem.F.sub_list_set
        have k2 := PySem.F.sub_list_frozenset
        have k3 : (Value.type "list" == Value.type "dict") = false := by decide
        have hl1 : (s.heap.push new).IsList l its := ⟨_, hol', rfl, nl, rfl⟩
        unfold Builtin.«set.__init__» noKeywords Builtin.Frozenset.updateFrom
        generalize hPI : pyIter = PI
        wp_walk
        subst hPI
        refine wpAny_pyIter_list hl1 (wpAny_bind (wpAny_runValue ?_))
        have lt : l < s.heap.objs.size := Heap.lt_size hol
        have sz : (s.heap.push new).objs.size = s.heap.objs.size + 1 := Heap.size_push ..
        refine setT_loop (κ := κ) ((Walks.list (by simp [hh]) _ l (by rw [sz]; exact Nat.ne_of_lt (Nat.lt_succ_of_lt lt)) its).toS) s.heap.objs.size (by rw [sz]; simp only [List.mem_cons, List.not_mem_nil, or_false, not_or]; exact And.intro (Nat.ne_of_lt (Nat.lt_succ_self _)) (Nat.ne_of_gt lt)) bs z0 few (fun i v hv => ?_) s.heap hk (nothing _ (Nat.le_refl _))
          (fun b hb => nothing b (by rw [List.mem_singleton.mp hb, sz]; exact Nat.le_succ _)) hu (its.size - 0) 0 _ (by omega) (Nat.zero_le _) ⟨⟨_, Heap.get?_push_size _ rfl, rfl, rfl⟩, (hl1.push _)⟩ (fun b o e => Heap.get?_push_of_some _ (Heap.get?_push_of_some _ e))
          ⟨[], #[], 0, _, TxS.start (Heap.get?_push_of_some _ hS), ⟨fun b m => absurd m List.not_mem_nil, fun b m => absurd m (by simp), Nat.zero_le _⟩⟩ fun z' L es ep t mv T J kp => ?_
        · have e : its.toList[i]? = some v := by rw [Array.getElem?_toList]; exact hv
          rw [hit, List.getElem?_map] at e
          cases q : bs[i]? with
          | none => rw [q] at e; cases e
          | some b => rw [q] at e; exact ⟨b, rfl, (Option.some.inj e).symm⟩
        · obtain ⟨h', g2, d', tk', os'⟩ := z'
          obtain rfl : g2 = s.gens := mv.gens
          obtain rfl : d' = s.drawn := mv.drawn
          obtain rfl : os' = s.os := mv.os
          show wpAny _ _ _ _ _ _
          refine wpAny_pure ?_
          show wpAny _ _ (ret Value.none) _ _ _
          exact wpAny_pure ⟨rfl, h', tk', L, es, ep, t, rfl, T, J, kp⟩
      · cases r2 with
        | error e => exact hr2
        | ok fl2 =>
          cases fl2 with
          | ret r =>
            obtain ⟨rfl, h', tk, L, es, ep, t, rfl, T, J, kp⟩ := hr2
            repeat (any_goals (first | assumption | wp_step))
            exact h _ _ _ _ _ _ T J kp
          | _ => exact hr2.elim
    | _ => exact hr.elim
end
end Zl
set_option Elab.async false
set_option linter.all false
set_option maxRecDepth 100000
set_option maxHeartbeats 2000000
/-! ZYT: sorted(a set of tuples of texts). -/
namespace Zl
open PySem L2 PySem.Spec PyProof.Rows
/-- the texts of a tuple as the sort reads them -/
def kyT (k : List Str) : List (Int ⊕ List Nat) := k.map fun x => Sum.inr x.cps.toList
def leT (k k' : List Str) : Prop := (listOrd itemOrd).blt (kyT k') (kyT k) = false
abbrev shT : Nat → Bool := fun _ => true
section
variable {P : Program} {w : World} {κ : Addr → List Str} {A : Around} {E : Value → Shared → Prop} {s : Shared} {a : Addr} {L : List Addr} {es : Array (Int × Value)} {ep : Nat} {t : SetTable}
theorem items_txt {k : List Str} {vs : List Value} (h : ItemsAre (PySem.strKind P w) k vs) : ∀ i, tupItems shT i vs = some (kyT k) := by
  induction h with
  | nil => exact fun _ => rfl
  | cons h1 _ ih =>
    intro i
    obtain ⟨tk, rfl⟩ := Value.isStrOf_shape h1
    unfold tupItems
    rw [if_pos rfl, ih]
    rfl
theorem key_txt {h : Heap} {k : List Str} {b : Addr} (x : AtT P w h k b) : G.tupKeyC h shT (.ref b) = some (kyT k) := by
  have ⟨o, vs, n, ho, hc, hd, hi⟩ := x
  unfold G.tupKeyC G.isTupObj
  simp only [ho, hc]
  rw [if_pos (by decide)]
  unfold tupKey
  simp only [ho, hd]
  exact items_txt hi _
theorem tup_txt {h : Heap} {k : List Str} {b : Addr} (x : AtT P w h k b) (ne : k ≠ []) : ∃ f, TupOf h shT (.ref b) f := by
  have ⟨o, vs, n, ho, hc, hd, hi⟩ := x
  generalize e : vs.toList = l at hi
  cases hi with
  | nil => exact absurd rfl ne
  | cons h1 _ =>
    obtain ⟨tk, rfl⟩ := Value.isStrOf_shape h1
    exact ⟨_, b, o, vs, n, rfl, ho, hc, hd, by rw [← Array.getElem?_toList, e]; rfl, (fun z => by cases z), fun _ => ⟨_, _, rfl⟩⟩
theorem tups_txt {h : Heap} : ∀ {bs : List Addr}, (∀ b ∈ bs, AtT P w h (κ b) b ∧ κ b ≠ []) → ∃ fs, TupsOf h shT (bs.map Value.ref) fs
  | [], _ => ⟨[], .nil⟩
  | b :: bs, hb => by
    obtain ⟨f, e⟩ := tup_txt (hb b (.head _)).1 (hb b (.head _)).2
    obtain ⟨fs, r⟩ := tups_txt fun c m => hb c (.tail _ m)
    exact ⟨f :: fs, .cons e r⟩
/-- back from a value -/
def adr : Value → Addr
  | .ref a => a
  | _ => 0
theorem refs_perm {us : List Value} {bs : List Addr} (h : us.Perm (bs.map Value.ref)) : ∃ cs : List Addr, us = cs.map Value.ref ∧ cs.Perm bs := by
  refine ⟨us.map adr, ?_, ?_⟩
  · rw [List.map_map]
    refine Eq.symm ((List.map_congr_left fun v m => ?_).trans (List.map_id _))
    obtain ⟨b, _, rfl⟩ := List.mem_map.mp (h.mem_iff.mp m)
    rfl
  · have := h.map adr
    rw [List.map_map] at this
    rw [show (adr ∘ Value.ref) = id from rfl, List.map_id] at this
    exact this
theorem pairs_two {v : Value × Value} {l : List Value} (h : v ∈ l.zip l) : v.1 = v.2 ∧ v.2 ∈ l := by
  induction l with
  | nil => cases h
  | cons x l ih =>
    rw [List.zip_cons_cons] at h
    rcases List.mem_cons.mp h with e | m
    · subst e; exact ⟨rfl, .head _⟩
    · exact ⟨(ih m).1, .tail _ (ih m).2⟩
/-- the sort's own words, in ours -/
theorem out_txt {h : Heap} {bs : List Addr} (hb : ∀ b ∈ bs, AtT P w h (κ b) b) {st : SortSt} (pm : (arrOf st).Perm (pairsOf (bs.map Value.ref))) (so : SortedToK (G.tupKindC h shT) (arrOf st) (pairsOf (bs.map Value.ref)).size) :
    ∃ cs : List Addr, ((arrOf st).map (·.2)).toList = cs.map Value.ref ∧ cs.Perm bs ∧ cs.Pairwise fun b c => leT (κ b) (κ c) := by
  have pl : (arrOf st).toList.Perm ((bs.map Value.ref).zip (bs.map Value.ref)) := by
    have := pm.toList
    rw [pairsOf_toList] at this
    exact this
  have p2 : ((arrOf st).map (·.2)).toList.Perm (bs.map Value.ref) := by
    rw [Array.toList_map]
    have := pl.map Prod.snd
    rw [List.map_snd_zip (Nat.le_refl _)] at this
    exact this
  obtain ⟨cs, e, pc⟩ := refs_perm p2
  refine ⟨cs, e, pc, ?_⟩
  rw [Array.toList_map] at e
  have len : (arrOf st).toList.length = cs.length := by
    have := congrArg List.length e
    rw [List.length_map, List.length_map] at this
    exact this
  have kk : ∀ i (hi : i < cs.length), KK (G.tupKindC h shT) (arrOf st) i = kyT (κ cs[i]) := by
    intro i hi
    have hi2 : i < (arrOf st).toList.length := by rw [len]; exact hi
    have hm : (arrOf st).toList[i] ∈ (arrOf st).toList := List.getElem_mem _
    have e3 : (arrOf st).toList[i].2 = Value.ref cs[i] := by
      have : ((arrOf st).toList.map (·.2))[i]? = (cs.map Value.ref)[i]? := by rw [e]
      rw [List.getElem?_map, List.getElem?_map, List.getElem?_eq_getElem hi2, List.getElem?_eq_getElem hi] at this
      exact Option.some.inj this
    have e4 := (pairs_two (pl.mem_iff.mp hm)).1
    have hx := hb cs[i] (pc.mem_iff.mp (List.getElem_mem _))
    unfold KK
    rw [← Array.getElem?_toList, List.getElem?_eq_getElem hi2]
    show ((G.tupKeyC h shT (arrOf st).toList[i].1).getD _) = _
    rw [e4, e3, key_txt hx]
    rfl
  rw [List.pairwise_iff_getElem]
  intro i j hi hj hij
  have := so i j (Nat.le_of_lt hij) (by rw [pairsOf_size, List.length_map, ← pc.length_eq]; exact hj)
  have this : (listOrd itemOrd).blt (KK (G.tupKindC h shT) (arrOf st) j) (KK (G.tupKindC h shT) (arrOf st) i) = false := this
  rw [kk i hi, kk j hj] at this
  exact this
theorem call_sortT {Q : Value → Shared → Prop} (R : TxS P w κ s.heap a L es ep t) (hh : A.handled = none) (ne : ∀ b ∈ L, κ b ≠ [])
    (hQ : ∀ s' p (out : Array Value) (c : Nat) (cs : List Addr), (∀ b o, s.heap.get? b = some o → s'.heap.get? b = some o) → s'.gens = s.gens → s'.os = s.os → s.heap.objs.size ≤ p → s'.heap.get? p = some (seqObj "list" out c) →
      out.toList = cs.map Value.ref → cs.Perm L → (cs.Pairwise fun b c => leT (κ b) (κ c)) → Q (.ref p) s') :
    wpAny (model P w) A (call (.builtin "sorted") [.ref a]) Q E s := by
  have ⟨o, ho, hex, hd⟩ := R.isS
  have small := R.small
  have ez := R.len
  have big : (64 : Nat) < scanBound := by decide
  refine Calls.call_function_entry kind_sorted plain_sorted entry_sorted (args_sorted1 _) ?_
  unfold Builtin.«sorted»
  refine wpAny_bind (m := checkCount "sorted" 1 1 _) (wpAny_pure ?_)
  refine wpAny_bind (collect_set (A := A.in1) hh ⟨o, ho, hex.1, hd⟩ R.fit (by omega) R.ok.ris R.seen fun s1 us k1 hz g1 o1 pm => ?_)
  have er : es.toList.map (·.2) = L.map Value.ref := by
    rw [R.its, List.map_map]
    rfl
  rw [er] at pm
  obtain ⟨bs, rfl, pb⟩ := refs_perm pm
  have lb : (bs.map Value.ref).length < 64 := by rw [List.length_map, pb.length_eq]; exact small
  refine wpAny_bind (wpAny_newList ?_ (by rw [sizeLine_eq]; omega))
  have lo : (s1.heap.push (seqObj "list" (bs.map Value.ref).toArray 0)).get? s1.heap.objs.size = some (seqObj "list" (bs.map Value.ref).toArray 0) := Heap.get?_push_size _ rfl
  have at1 : ∀ b ∈ bs, AtT P w (s1.heap.push (seqObj "list" (bs.map Value.ref).toArray 0)) (κ b) b := fun b m => (R.mem b (pb.mem_iff.mp m)).on fun c u e => Heap.get?_push_of_some _ (k1 c u e)
  obtain ⟨fs, hf⟩ := tups_txt (κ := κ) (P := P) (w := w) fun b m => ⟨at1 b m, ne b (pb.mem_iff.mp m)⟩
  refine wpAny_bind (wpAny_holding (wpAny_call_entry slot_list_sort ⟨_, lo, rfl⟩ entry_list_sort (G.list_sort_tups (s := { s1 with heap := s1.heap.push (seqObj "list" (bs.map Value.ref).toArray 0) }) lo hf (fun v m => ?_) (by rw [sizeLine_eq]; omega) fun st p1 p2 _ => ⟨_, rfl, ?_⟩) (args_list_sort _)))
  · obtain ⟨b, hb, rfl⟩ := List.mem_map.mp m
    exact ⟨_, key_txt (at1 b hb)⟩
  · obtain ⟨cs, e1, e2, e3⟩ := out_txt at1 p1 p2
    obtain ⟨e', he'⟩ := sortedHeap_at (out := (arrOf st).map (·.2)) (vs := bs.map Value.ref) lo
    refine wpAny_pure ⟨_, rfl, hQ _ s1.heap.objs.size ((arrOf st).map (·.2)) e' cs (fun b u e => ?_) g1 o1 hz he' e1 (e2.trans pb) e3⟩
    have q := k1 b u e
    have hlt := Heap.lt_size q
    show (sortedHeap (s1.heap.push (seqObj "list" (bs.map Value.ref).toArray 0)) s1.heap.objs.size (bs.map Value.ref) _).get? b = some u
    rw [sortedHeap_old (Nat.ne_of_lt hlt) (by rw [size_push']; exact Nat.lt_succ_of_lt hlt)]
    exact Heap.get?_push_of_some _ q
end
end Zl
set_option Elab.async false
set_option linter.all false
set_option maxRecDepth 100000
set_option maxHeartbeats 2000000
/-! ZYU: the rule for sorted(set(a list of tuples of texts)). -/
namespace Zl
open PySem L2 PySem.Spec PyProof.Rows
/-! ### the order, to be run -/
def ltN : List Nat → List Nat → Bool
  | [], [] => false
  | [], _ :: _ => true
  | _ :: _, [] => false
  | a :: r, b :: t => bif Nat.blt a b then true else bif Nat.beq a b then ltN r t else false
theorem ltN_eq : ∀ a b : List Nat, decide (a < b) = ltN a b
  | [], [] => decide_eq_false (List.not_lt_nil _)
  | [], _ :: _ => decide_eq_true (List.nil_lt_cons _ _)
  | _ :: _, [] => decide_eq_false (List.not_lt_nil _)
  | a :: r, b :: t => by
    have ih := ltN_eq r t
    show _ = (bif Nat.blt a b then true else bif Nat.beq a b then ltN r t else false)
    rw [← ih]
    cases h1 : Nat.blt a b with
    | true => exact decide_eq_true (List.cons_lt_cons_iff.mpr (.inl (Nat.blt_eq.mp h1)))
    | false =>
      have n1 : ¬ a < b := fun z => by rw [Nat.blt_eq.mpr z] at h1; cases h1
      cases h2 : Nat.beq a b with
      | true =>
        have e := Nat.eq_of_beq_eq_true h2
        exact decide_eq_decide.mpr (List.cons_lt_cons_iff.trans ⟨fun z => z.elim (fun y => absurd y n1) (·.2), fun z => .inr ⟨e, z⟩⟩)
      | false =>
        refine decide_eq_false fun z => ?_
        rcases List.cons_lt_cons_iff.mp z with y | ⟨y, _⟩
        · exact n1 y
        · subst y
          rw [Nat.beq_refl] at h2
          cases h2
def ltT : List (List Nat) → List (List Nat) → Bool
  | [], [] => false
  | [], _ :: _ => true
  | _ :: _, [] => false
  | x :: r, y :: t => bif ltN x y then true else bif ltN y x then false else ltT r t
abbrev kN (k : List (List Nat)) : List (Int ⊕ List Nat) := k.map Sum.inr
abbrev TO : KeyOrd := listOrd itemOrd
theorem ltT_eq : ∀ k k' : List (List Nat), TO.blt (kN k) (kN k') = ltT k k'
  | [], [] => rfl
  | [], _ :: _ => rfl
  | _ :: _, [] => rfl
  | x :: r, y :: t => by
    have ih : lexLt itemOrd (kN r) (kN t) = ltT r t := ltT_eq r t
    show (decide (x < y) || (!decide (y < x) && lexLt itemOrd (kN r) (kN t))) = _
    rw [ih, ltN_eq, ltN_eq]
    show _ = (bif ltN x y then true else bif ltN y x then false else ltT r t)
    cases ltN x y <;> cases ltN y x <;> rfl
theorem kN_inj : ∀ {k k' : List (List Nat)}, kN k = kN k' → k = k'
  | [], [], _ => rfl
  | [], _ :: _, h => by cases h
  | _ :: _, [], h => by cases h
  | x :: r, y :: t, h => by
    injection h with h1 h2
    injection h1 with h1
    rw [h1, kN_inj h2]
theorem ltT_irr (k : List (List Nat)) : ltT k k = false := by rw [← ltT_eq]; exact TO.irrefl _
theorem ltT_tr {a b c : List (List Nat)} (h1 : ltT a b = true) (h2 : ltT b c = true) : ltT a c = true := by rw [← ltT_eq] at *; exact TO.trans _ _ _ h1 h2
theorem ltT_one {a b : List (List Nat)} (h1 : ltT a b = false) (h2 : ltT b a = false) : a = b := by rw [← ltT_eq] at *; exact kN_inj (TO.total _ _ h1 h2)
def insT (x : List (List Nat)) : List (List (List Nat)) → List (List (List Nat))
  | [] => [x]
  | y :: r => bif ltT x y then x :: y :: r else bif ltT y x then y :: insT x r else y :: r
def sortT : List (List (List Nat)) → List (List (List Nat))
  | [] => []
  | x :: r => insT x (sortT r)
abbrev upT (l : List (List (List Nat))) : Prop := l.Pairwise fun a b => ltT a b = true
theorem insT_mem {x z : List (List Nat)} : ∀ {l : List (List (List Nat))}, z ∈ insT x l ↔ z = x ∨ z ∈ l
  | [] => by simp [insT]
  | y :: r => by
    unfold insT
    cases h1 : ltT x y with
    | true => simp
    | false =>
      cases h2 : ltT y x with
      | true =>
        show z ∈ y :: insT x r ↔ _
        rw [List.mem_cons, insT_mem, List.mem_cons]
        exact ⟨fun q => q.elim (fun e => .inr (.inl e)) (fun q => q.elim .inl fun m => .inr (.inr m)), fun q => q.elim (fun e => .inr (.inl e)) fun q => q.elim .inl fun m => .inr (.inr m)⟩
      | false =>
        have e := ltT_one h1 h2
        subst e
        show z ∈ x :: r ↔ _
        rw [List.mem_cons]
        exact ⟨.inr, fun q => q.elim .inl id⟩
theorem insT_up {x : List (List Nat)} : ∀ {l : List (List (List Nat))}, upT l → upT (insT x l)
  | [], _ => List.pairwise_singleton _ _
  | y :: r, h => by
    have ⟨h0, hr⟩ := List.pairwise_cons.mp h
    unfold insT
    cases h1 : ltT x y with
    | true => exact List.pairwise_cons.mpr ⟨fun z m => (List.mem_cons.mp m).elim (fun e => e ▸ h1) fun m => ltT_tr h1 (h0 z m), h⟩
    | false =>
      cases h2 : ltT y x with
      | true => exact List.pairwise_cons.mpr ⟨fun z m => (insT_mem.mp m).elim (fun e => e ▸ h2) (h0 z), insT_up hr⟩
      | false => exact h
theorem sortT_up : ∀ l, upT (sortT l)
  | [] => .nil
  | x :: r => insT_up (sortT_up r)
theorem sortT_mem {z : List (List Nat)} : ∀ {l}, z ∈ sortT l ↔ z ∈ l
  | [] => Iff.rfl
  | x :: r => by
    show z ∈ insT x (sortT r) ↔ _
    rw [insT_mem, sortT_mem, List.mem_cons]
theorem up_one : ∀ {l l' : List (List (List Nat))}, upT l → upT l' → (∀ z, z ∈ l ↔ z ∈ l') → l = l'
  | [], [], _, _, _ => rfl
  | [], y :: _, _, _, h => absurd ((h y).mpr (.head _)) List.not_mem_nil
  | x :: _, [], _, _, h => absurd ((h x).mp (.head _)) List.not_mem_nil
  | x :: r, y :: t, hl, hl', h => by
    have ⟨a0, ar⟩ := List.pairwise_cons.mp hl
    have ⟨b0, br⟩ := List.pairwise_cons.mp hl'
    have e : x = y := by
      rcases List.mem_cons.mp ((h x).mp (.head _)) with e | m
      · exact e
      rcases List.mem_cons.mp ((h y).mpr (.head _)) with e | m'
      · exact e.symm
      have z := ltT_tr (a0 y m') (b0 x m)
      rw [ltT_irr] at z
      cases z
    subst e
    refine congrArg (x :: ·) (up_one ar br fun z => ⟨fun m => ?_, fun m => ?_⟩)
    · rcases List.mem_cons.mp ((h z).mp (.tail _ m)) with e | q
      · subst e
        have := a0 z m
        rw [ltT_irr] at this
        cases this
      · exact q
    · rcases List.mem_cons.mp ((h z).mpr (.tail _ m)) with e | q
      · subst e
        have := b0 z m
        rw [ltT_irr] at this
        cases this
      · exact q
end Zl
set_option Elab.async false
set_option linter.all false
set_option maxRecDepth 100000
set_option maxHeartbeats 2000000
/-! ZYV: sorted(set(xs)), sorted(xs): xs a list of tuples of texts. -/
namespace Zl
open PySem L2 PySem.Spec PyProof.Rows
/-- the texts of the tuples at these addresses -/
inductive TxA (K : PySem.W.Frag) (H : Hp) : List Addr → List (List (List Nat)) → Prop
  | nil : TxA K H [] []
  | cons {b : Addr} {bs : List Addr} {k : List (List Nat)} {ks : List (List (List Nat))} : SqT K H b ((k.map mkS).map V.str) → TxA K H bs ks → TxA K H (b :: bs) (k :: ks)
section
variable {K : PySem.W.Frag} {H : Hp}
theorem TxA.get {bs : List Addr} {ks : List (List (List Nat))} (t : TxA K H bs ks) : ∀ b ∈ bs, ∃ k, (b, k) ∈ bs.zip ks ∧ SqT K H b ((k.map mkS).map V.str) := by
  induction t with
  | nil => exact fun b m => absurd m List.not_mem_nil
  | cons h _ ih =>
    intro b m
    rw [List.zip_cons_cons]
    rcases List.mem_cons.mp m with e | m
    · subst e; exact ⟨_, .head _, h⟩
    · obtain ⟨k, m2, h2⟩ := ih b m
      exact ⟨k, .tail _ m2, h2⟩
theorem TxA.back {bs : List Addr} {ks : List (List (List Nat))} (t : TxA K H bs ks) : ∀ k ∈ ks, ∃ b, b ∈ bs ∧ SqT K H b ((k.map mkS).map V.str) := by
  induction t with
  | nil => exact fun b m => absurd m List.not_mem_nil
  | cons h _ ih =>
    intro k m
    rcases List.mem_cons.mp m with e | m
    · subst e; exact ⟨_, .head _, h⟩
    · obtain ⟨b, m2, h2⟩ := ih k m
      exact ⟨b, .tail _ m2, h2⟩
theorem TxA.len {bs : List Addr} {ks : List (List (List Nat))} (t : TxA K H bs ks) : bs.length = ks.length := by
  induction t with
  | nil => rfl
  | cons _ _ ih => rw [List.length_cons, List.length_cons, ih]
theorem TxA.of (f : Addr → List (List Nat)) : ∀ bs : List Addr, (∀ b ∈ bs, SqT K H b (((f b).map mkS).map V.str)) → TxA K H bs (bs.map f)
  | [], _ => .nil
  | b :: bs, h => .cons (h b (.head _)) (TxA.of f bs fun c m => h c (.tail _ m))
end
/-- back from a text -/
def nsS (x : Str) : List Nat := x.cps.toList
theorem nsS_mk (k : List (List Nat)) : (k.map mkS).map nsS = k := by
  rw [List.map_map]
  refine (List.map_congr_left fun x _ => ?_).trans (List.map_id _)
  show (⟨x.toArray⟩ : Str).cps.toList = x
  rfl
theorem kyT_mk (k : List (List Nat)) : kyT (k.map mkS) = kN k := by
  unfold kyT
  rw [List.map_map]
  rfl
section
variable {X : Cx} {pins : List (Addr × Obj)} {σ : L2.St} {H : Hp} {s : Shared}
theorem strs_items {P : Program} {w : World} : ∀ {k : List Str} {us : List Value}, Vals (k.map V.str) us → ItemsAre (PySem.strKind P w) k us
  | [], _, .nil => .nil
  | x :: k, _, .cons r t => by
    obtain ⟨tk, rfl⟩ := r
    exact .cons (strKind_is P w x tk) (strs_items t)
theorem Inv.atT (I : Inv X pins σ H s) {b : Addr} {k : List Str} (h : SqT X.K H b (k.map V.str)) : AtT X.prog X.w s.heap k b := by
  obtain ⟨its, r, ⟨o, ho, hc, n, hd⟩, _⟩ := I.tuple h
  exact ⟨o, its.toArray, n, ho, hc, hd, by simpa using strs_items r⟩
open Classical in
/-- the texts at an address -/
noncomputable def kapT (P : Program) (w : World) (h : Heap) (b : Addr) : List Str := if e : ∃ k, AtT P w h k b then e.choose else []
theorem kapT_of {P : Program} {w : World} {h : Heap} {b : Addr} {k : List Str} (x : AtT P w h k b) : kapT P w h b = k := by
  unfold kapT
  have e : ∃ k, AtT P w h k b := ⟨k, x⟩
  rw [dif_pos e]
  exact IsTupleKey.inj e.choose_spec x
theorem refs_of : ∀ {bs : List Addr} {us : List Value}, Vals (bs.map V.ref) us → us = bs.map Value.ref
  | [], _, .nil => rfl
  | b :: bs, _, .cons r t => by
    cases r
    rw [refs_of t]
    rfl
theorem of_refs : ∀ bs : List Addr, Vals (bs.map V.ref) (bs.map Value.ref)
  | [] => .nil
  | b :: bs => .cons rfl (of_refs bs)
/-- strictly rising, by what the sort tells -/
theorem up_of {κ : Addr → List Str} {cs : List Addr} {f : Addr → List (List Nat)} (hf : ∀ c ∈ cs, κ c = (f c).map mkS) (nd : (cs.map κ).Nodup) (so : cs.Pairwise fun b c => leT (κ b) (κ c)) : upT (cs.map f) := by
  show (cs.map f).Pairwise fun a b => ltT a b = true
  rw [List.pairwise_map]
  have nd' : cs.Pairwise fun b c => κ b ≠ κ c := List.pairwise_map.mp nd
  refine List.Pairwise.imp_of_mem (fun {b c} mb mc h => ?_) (List.pairwise_and_iff.mpr ⟨so, nd'⟩)
  obtain ⟨h1, h2⟩ := h
  unfold leT at h1
  rw [hf b mb, hf c mc, kyT_mk, kyT_mk] at h1
  have h1 : ltT (f c) (f b) = false := by rw [← ltT_eq]; exact h1
  cases q : ltT (f b) (f c) with
  | true => rfl
  | false => exact absurd (by rw [hf b mb, hf c mc, ltT_one q h1]) h2
def tSortT (K : PySem.W.Frag) (te : TE) : TE := fun σ H Q => te σ H fun x H1 => ∃ (l : Addr) (bs : List Addr) (ks : List (List (List Nat))), x = .ref l ∧ SqL K H1 l (bs.map V.ref) ∧ TxA K H1 bs ks ∧ bs.length < 63 ∧ (∀ k ∈ ks, k ≠ []) ∧
  ∀ (ps : List (Addr × List (List Nat))) (p : Addr), (∀ q ∈ ps, q ∈ bs.zip ks) → ps.map (·.2) = sortT ks → H1 p = none → Q (.ref p) (L2.upd H1 p (.lst ((ps.map (·.1)).map V.ref)))
theorem pe_sortSetT {a : Expr} {ta : TE} {p p2 q pos : Pos} (hc : X.calm = true) (hu : X.A.units + 64 < cLine) (hg : Gl X "sorted") (hm : X.mg "sorted" = none) (hg2 : Gl X "set") (hm2 : X.mg "set" = none) (ha : PE X a ta)
    (na : starEach [a] X.env = (false, eval a X.env) :: starEach [] X.env := by rfl) : PE X (.Call (.Name "sorted" p) [.Call (.Name "set" p2) [a] [] q] [] pos) (tSortT X.K ta) := by
  refine ⟨fun pins s σ H Q I h => ?_⟩
  refine Call_ (ld_blt I hg hm PyProof.Rows.boot_sorted ?_)
  refine PyProof.Rows.callWith_builtin1 (PyProof.Rows.args_cons ?_ rfl) rfl rfl
  refine Call_ (ld_blt I hg2 hm2 boot_set ?_)
  refine PyProof.Rows.callWith_type1 (PyProof.Rows.args_cons (thn (ha.run pins s σ H _ I h) fun v s1 ⟨x, H1, I1, r1, q1⟩ => PyProof.Rows.args_nil ?_) na) na rfl
  obtain ⟨l, bs, ks, rfl, hq, tx, h63, ne, q1⟩ := q1
  cases r1
  obtain ⟨its, r, ⟨ol, nl, eo, ec, _, ed⟩, hz⟩ := I1.list hq
  have ei := refs_of r
  have hk : ∀ b ∈ bs, ∃ k, (b, k) ∈ bs.zip ks ∧ SqT X.K H1 b ((k.map mkS).map V.str) ∧ kapT X.prog X.w s1.heap b = k.map mkS := fun b m => by
    obtain ⟨k, m2, h2⟩ := tx.get b m
    exact ⟨k, m2, h2, kapT_of (Inv.atT I1 h2)⟩
  let f : Addr → List (List Nat) := fun b => (kapT X.prog X.w s1.heap b).map nsS
  have hf : ∀ b ∈ bs, kapT X.prog X.w s1.heap b = (f b).map mkS ∧ (b, f b) ∈ bs.zip ks ∧ SqT X.K H1 b (((f b).map mkS).map V.str) := fun b m => by
    obtain ⟨k, m2, h2, h3⟩ := hk b m
    have e : f b = k := by
      show (kapT X.prog X.w s1.heap b).map nsS = k
      rw [h3, nsS_mk]
    rw [e]
    exact ⟨h3, m2, h2⟩
  refine call_setT (κ := kapT X.prog X.w s1.heap) (bs := bs) (I1.ok.hd hc) ⟨ol, eo, ec, nl, ed⟩ (by simpa using ei) (fun b m => ?_) (by omega) (by omega) fun h' tk L es ep t R J hk' => PyProof.Rows.args_nil ?_
  · obtain ⟨k, _, h2, h3⟩ := hk b m
    rw [h3]
    exact Inv.atT I1 h2
  have I2 : Inv X pins σ H1 { s1 with heap := h', toks := tk } := I1.kept hk'
  refine call_sortT (s := { s1 with heap := h', toks := tk }) R (I2.ok.hd hc) (fun b m => ?_) fun s' p out c cs k g o hp hgt he pm so => ?_
  · obtain ⟨k, m2, _, h3⟩ := hk b (J.from' b m)
    rw [h3]
    intro z
    exact ne k (List.of_mem_zip m2).2 (List.map_eq_nil_iff.mp z)
  have inb : ∀ c ∈ cs, c ∈ bs := fun c m => J.from' c (pm.mem_iff.mp m)
  have e1 : cs.map f = sortT ks := by
    refine up_one (up_of (fun c m => (hf c (inb c m)).1) ((pm.map _).nodup_iff.mpr R.one) so) (sortT_up ks) fun z => ?_
    rw [sortT_mem]
    constructor
    · intro m
      obtain ⟨c, mc, rfl⟩ := List.mem_map.mp m
      exact (List.of_mem_zip (hf c (inb c mc)).2.1).2
    · intro m
      obtain ⟨b, mb, hb⟩ := tx.back z m
      obtain ⟨c, mc, ec⟩ := List.mem_map.mp (J.hold b mb)
      have mcs : c ∈ cs := pm.mem_iff.mpr mc
      refine List.mem_map.mpr ⟨c, mcs, ?_⟩
      show (kapT X.prog X.w s1.heap c).map nsS = z
      rw [ec, kapT_of (Inv.atT I1 hb), nsS_mk]
  have hn : H1 p = none := I2.hok.fresh hp
  have hlen : (cs.map V.ref).length ≤ sizeLine := by
    rw [List.length_map, pm.length_eq, sizeLine_eq]
    have := J.less
    omega
  have J2 : Inv X pins σ (L2.upd H1 p (.lst (cs.map V.ref))) { s1 with heap := s'.heap, gens := s'.gens, drawn := s'.drawn, toks := s'.toks } :=
    I2.call (s := { s1 with heap := h', toks := tk }) (ch := []) (Un.laid k hp hn) (I2.hok.laid k hp ⟨hlen, out.toList, c, by rw [he]; exact of_refs cs, hgt⟩) (by rw [g]; exact I2.bare) (fun _ z => nomatch z)
  have e : s' = { s1 with heap := s'.heap, gens := s'.gens, drawn := s'.drawn, toks := s'.toks } := by
    cases s'
    cases o
    rfl
  rw [e]
  have last := q1 (cs.map fun c => (c, f c)) p (fun q m => by
    obtain ⟨c, mc, rfl⟩ := List.mem_map.mp m
    exact (hf c (inb c mc)).2.1) (by rw [List.map_map]; exact e1) hn
  have e9 : (cs.map fun c => (c, f c)).map (·.1) = cs := by rw [List.map_map]; exact List.map_id _
  rw [e9] at last
  exact ⟨.ref p, _, J2, rfl, last⟩
/-- sorted(xs), xs different tuples -/
theorem pe_sortTx {a : Expr} {ta : TE} {p pos : Pos} (hg : Gl X "sorted") (hm : X.mg "sorted" = none) (ha : PE X a ta) (na : starEach [a] X.env = (false, eval a X.env) :: starEach [] X.env := by rfl) :
    PE X (.Call (.Name "sorted" p) [a] [] pos) (fun σ H Q => ta σ H fun x H1 => ∃ (l : Addr) (bs : List Addr) (ks : List (List (List Nat))), x = .ref l ∧ SqL X.K H1 l (bs.map V.ref) ∧ TxA X.K H1 bs ks ∧ bs.length < 63 ∧ (∀ k ∈ ks, k ≠ []) ∧ ks.Nodup ∧
      ∀ (ps : List (Addr × List (List Nat))) (p : Addr), (∀ q ∈ ps, q ∈ bs.zip ks) → ps.map (·.2) = sortT ks → H1 p = none → Q (.ref p) (L2.upd H1 p (.lst ((ps.map (·.1)).map V.ref)))) := by
  refine ⟨fun pins s σ H Q I h => ?_⟩
  refine Call_ (ld_blt I hg hm PyProof.Rows.boot_sorted ?_)
  refine PyProof.Rows.callWith_builtin1 (PyProof.Rows.args_cons (thn (ha.run pins s σ H _ I h) fun v s1 ⟨x, H1, I1, r1, q1⟩ => PyProof.Rows.args_nil ?_) na) na rfl
  obtain ⟨l, bs, ks, rfl, hq, tx, h63, ne, nd, q1⟩ := q1
  cases r1
  obtain ⟨its, r, ⟨ol, nl, eo, ec, _, ed⟩, hz⟩ := I1.list hq
  obtain rfl := refs_of r
  have hk : ∀ b ∈ bs, ∃ k, (b, k) ∈ bs.zip ks ∧ SqT X.K H1 b ((k.map mkS).map V.str) ∧ kapT X.prog X.w s1.heap b = k.map mkS := fun b m => by
    obtain ⟨k, m2, h2⟩ := tx.get b m
    exact ⟨k, m2, h2, kapT_of (Inv.atT I1 h2)⟩
  let f : Addr → List (List Nat) := fun b => (kapT X.prog X.w s1.heap b).map nsS
  have fb : ∀ {b : Addr} {k : List (List Nat)}, SqT X.K H1 b ((k.map mkS).map V.str) → f b = k := fun {b k} h2 => by
    show (kapT X.prog X.w s1.heap b).map nsS = k
    rw [kapT_of (Inv.atT I1 h2), nsS_mk]
  have hf : ∀ b ∈ bs, kapT X.prog X.w s1.heap b = (f b).map mkS ∧ (b, f b) ∈ bs.zip ks := fun b m => by
    obtain ⟨k, m2, h2, h3⟩ := hk b m
    rw [fb h2]
    exact ⟨h3, m2⟩
  have at1 : ∀ b ∈ bs, AtT X.prog X.w s1.heap (kapT X.prog X.w s1.heap b) b := fun b m => by
    obtain ⟨k, _, h2, h3⟩ := hk b m
    rw [h3]
    exact Inv.atT I1 h2
  have ne1 : ∀ b ∈ bs, kapT X.prog X.w s1.heap b ≠ [] := fun b m => by
    obtain ⟨k, m2, _, h3⟩ := hk b m
    rw [h3]
    exact fun z => ne k (List.of_mem_zip m2).2 (List.map_eq_nil_iff.mp z)
  have ekf : bs.map f = ks := by
    have go : ∀ {bs ks}, TxA X.K H1 bs ks → bs.map f = ks := fun t => by
      induction t with
      | nil => rfl
      | cons h _ ih => rw [List.map_cons, fb h, ih]
    exact go tx
  have ndk : (bs.map (kapT X.prog X.w s1.heap)).Nodup := by
    have z : bs.map (kapT X.prog X.w s1.heap) = ks.map fun k => k.map mkS := by
      rw [← ekf, List.map_map]
      exact List.map_congr_left fun b m => (hf b m).1
    rw [z]
    refine List.pairwise_map.mpr (List.Pairwise.imp (fun {a b} h e => h ?_) nd)
    have := congrArg (List.map nsS) e
    rw [nsS_mk, nsS_mk] at this
    exact this
  obtain ⟨fs, hfs⟩ := tups_txt (κ := kapT X.prog X.w s1.heap) (P := X.prog) (w := X.w) fun b m => ⟨at1 b m, ne1 b m⟩
  refine G.sorted_tups ⟨ol, eo, ec, nl, ed⟩ hfs (fun v m => ?_) (by
    have : (bs.map Value.ref).length < 64 := by rw [List.length_map]; omega
    rw [sizeLine_eq]; omega) fun st p1 p2 _ => ?_
  · obtain ⟨b, hb, rfl⟩ := List.mem_map.mp m
    exact ⟨_, key_txt (at1 b hb)⟩
  obtain ⟨cs, e1, e2, e3⟩ := out_txt at1 p1 p2
  obtain ⟨e', he'⟩ := sortedAll_at s1.heap (bs.map Value.ref) ((arrOf st).map (·.2))
  have inb : ∀ c ∈ cs, c ∈ bs := fun c m => e2.mem_iff.mp m
  have ec2 : cs.map f = sortT ks := by
    refine up_one (up_of (fun c m => (hf c (inb c m)).1) ((e2.map _).nodup_iff.mpr ndk) e3) (sortT_up ks) fun z => ?_
    rw [sortT_mem, ← ekf, (e2.map f).mem_iff]
  have old : ∀ b u, s1.heap.get? b = some u → (sortedAll s1.heap (bs.map Value.ref) ((arrOf st).map (·.2))).get? b = some u := fun b u e => sortedAll_old e
  have hp : s1.heap.objs.size ≤ s1.heap.objs.size + 1 := Nat.le_succ _
  have hn : H1 (s1.heap.objs.size + 1) = none := I1.hok.fresh hp
  have J : Inv X pins σ (L2.upd H1 (s1.heap.objs.size + 1) (.lst (cs.map V.ref))) { s1 with heap := sortedAll s1.heap (bs.map Value.ref) ((arrOf st).map (·.2)) } :=
    I1.laid (t' := s1.toks) old hp ⟨by rw [List.length_map, e2.length_eq, sizeLine_eq]; omega, ((arrOf st).map (·.2)).toList, e', by rw [e1]; exact of_refs cs, he'⟩
  have last := q1 (cs.map fun c => (c, f c)) (s1.heap.objs.size + 1) (fun q m => by
    obtain ⟨c, mc, rfl⟩ := List.mem_map.mp m
    exact (hf c (inb c mc)).2) (by rw [List.map_map]; exact ec2) hn
  have e9 : (cs.map fun c => (c, f c)).map (·.1) = cs := by rw [List.map_map]; exact List.map_id _
  rw [e9] at last
  exact ⟨.ref _, _, J, rfl, last⟩
/-! ### readings -/
def txsO : List D → Option (List (List (List Nat)))
  | [] => some []
  | .tup xs :: r => match strsO xs, txsO r with
    | some k, some ks => some (k :: ks)
    | _, _ => none
  | _ :: _ => none
def txD (k : List (List Nat)) : D := .tup (k.map D.str)
def neT : List (List (List Nat)) → Bool
  | [] => true
  | [] :: _ => false
  | (_ :: _) :: r => neT r
theorem neT_ok : ∀ {ks : List (List (List Nat))}, neT ks = true → ∀ k ∈ ks, k ≠ []
  | [], _, k, m => absurd m List.not_mem_nil
  | [] :: _, h, _, _ => by cases h
  | (x :: y) :: r, h, k, m => by
    rcases List.mem_cons.mp m with e | m
    · subst e; exact fun z => by cases z
    · exact neT_ok (ks := r) h k m
theorem reps_tx {K : PySem.W.Frag} {F : Ev} {m : List Addr} {H : Hp} : ∀ {vs : List V} {xs : List D} {ks : List (List (List Nat))}, Reps K F m H vs xs → txsO xs = some ks → ∃ bs : List Addr, vs = bs.map V.ref ∧ TxA K H bs ks ∧ ∀ q ∈ bs.zip ks, Rep K F m H (.ref q.1) (txD q.2)
  | _, [], ks, r, e => by
    cases r
    cases e
    exact ⟨[], rfl, .nil, fun q z => absurd z List.not_mem_nil⟩
  | _, x :: xs, ks, r, e => by
    cases r with
    | cons r1 r2 =>
      cases x <;> first | (cases e; done) | skip
      rename_i v vs ds
      unfold txsO at e
      cases q1 : strsO ds with
      | none => rw [q1] at e; cases e
      | some k =>
        cases q2 : txsO xs with
        | none => rw [q1, q2] at e; cases e
        | some ks' =>
          rw [q1, q2] at e
          cases e
          obtain ⟨bs, rfl, t, rr⟩ := reps_tx r2 q2
          have ed := strsO_map q1
          have r1' := r1
          obtain ⟨b, vb, rfl, hs, rs⟩ := r1.tupR
          have ev := strs_reps rs q1
          subst ev
          subst ed
          refine ⟨b :: bs, rfl, .cons hs t, fun q z => ?_⟩
          rw [List.zip_cons_cons] at z
          rcases List.mem_cons.mp z with e | z
          · subst e; exact r1'
          · exact rr q z
theorem reps_ps {K : PySem.W.Frag} {F : Ev} {m : List Addr} {H : Hp} : ∀ ps : List (Addr × List (List Nat)), (∀ q ∈ ps, Rep K F m H (.ref q.1) (txD q.2)) → Reps K F m H ((ps.map (·.1)).map V.ref) ((ps.map (·.2)).map txD)
  | [], _ => .nil
  | q :: ps, h => .cons (h q (.head _)) (reps_ps ps fun r z => h r (.tail _ z))
def diffT : List (List (List Nat)) → Bool
  | [] => true
  | k :: r => (r.all fun j => ltT k j || ltT j k) && diffT r
theorem diffT_ok : ∀ {ks : List (List (List Nat))}, diffT ks = true → ks.Nodup
  | [], _ => .nil
  | k :: r, h => by
    unfold diffT at h
    rw [Bool.and_eq_true] at h
    refine List.pairwise_cons.mpr ⟨fun j m e => ?_, diffT_ok h.2⟩
    subst e
    have := List.all_eq_true.mp h.1 k m
    rw [ltT_irr] at this
    cases this
def nSortSetT (f : Ex) : Fr → Hz → T (List D) := fun fr hp => (f fr hp).bind fun x => (asLst x).bind fun xs => (ofO (txsO xs)).bind fun ks => guardT (few xs 62 && neT ks) (.ret ((sortT ks).map txD))
def nSortTx (f : Ex) : Fr → Hz → T (List D) := fun fr hp => (f fr hp).bind fun x => (asLst x).bind fun xs => (ofO (txsO xs)).bind fun ks => guardT (few xs 62 && (neT ks && diffT ks)) (.ret ((sortT ks).map txD))
variable {F : Ev}
theorem txsO_len : ∀ {xs : List D} {ks : List (List (List Nat))}, txsO xs = some ks → xs.length = ks.length
  | [], ks, e => by cases e; rfl
  | x :: xs, ks, e => by
    cases x <;> first | (cases e; done) | skip
    rename_i ds
    unfold txsO at e
    cases q1 : strsO ds with
    | none => rw [q1] at e; cases e
    | some k =>
      cases q2 : txsO xs with
      | none => rw [q1, q2] at e; cases e
      | some ks' =>
        rw [q1, q2] at e
        cases e
        rw [List.length_cons, List.length_cons, txsO_len q2]
theorem zsortSetT {a : Expr} {f : Ex} {p p2 q pos : Pos} (hc : X.calm = true) (hu : X.A.units + 64 < cLine) (hg : Gl X "sorted") (hm : X.mg "sorted" = none) (hg2 : Gl X "set") (hm2 : X.mg "set" = none) (ha : PE X a (tX X.K F f))
    (na : starEach [a] X.env = (false, eval a X.env) :: starEach [] X.env := by rfl) : PE X (.Call (.Name "sorted" p) [.Call (.Name "set" p2) [a] [] q] [] pos) (tN X.K F (nSortSetT f)) :=
  PEimp (pe_sortSetT hc hu hg hm hg2 hm2 ha na) fun σ H Q h => by
    obtain ⟨ρ, m0, m1, fr, hp, a, h⟩ := h
    refine tX_mk a (T.all_bind h) fun x hx H1 v k1 a1 rx => ?_
    obtain ⟨xs, rfl, hx⟩ := all_asLst (T.all_bind hx)
    obtain ⟨ks, e, hx⟩ := all_ofO (T.all_bind hx)
    obtain ⟨ok, k⟩ := all_guard hx
    rw [Bool.and_eq_true] at ok
    obtain ⟨b, vs, rfl, _, hq, rs⟩ := rx.lstR
    obtain ⟨bs, rfl, tx, rr⟩ := reps_tx rs e
    have hlen := few_le ok.1
    rw [txsO_len e, ← tx.len] at hlen
    refine ⟨b, bs, ks, rfl, .inl (.inl hq), tx, by omega, neT_ok ok.2, fun ps q hps he hq => ?_⟩
    obtain ⟨k3, a3⟩ := a1.upd (o := .lst ((ps.map (·.1)).map V.ref)) hq
    refine k _ q _ (k1.trans k3) a3.row (a.free k1 a1.row hq) upd_same ?_
    rw [← he]
    exact (reps_ps ps fun z m => rr z (hps z m)).more hq (same_new hq)
theorem zsortTx {a : Expr} {f : Ex} {p pos : Pos} (hg : Gl X "sorted") (hm : X.mg "sorted" = none) (ha : PE X a (tX X.K F f)) (na : starEach [a] X.env = (false, eval a X.env) :: starEach [] X.env := by rfl) :
    PE X (.Call (.Name "sorted" p) [a] [] pos) (tN X.K F (nSortTx f)) :=
  PEimp (pe_sortTx hg hm ha na) fun σ H Q h => by
    obtain ⟨ρ, m0, m1, fr, hp, a, h⟩ := h
    refine tX_mk a (T.all_bind h) fun x hx H1 v k1 a1 rx => ?_
    obtain ⟨xs, rfl, hx⟩ := all_asLst (T.all_bind hx)
    obtain ⟨ks, e, hx⟩ := all_ofO (T.all_bind hx)
    obtain ⟨ok, k⟩ := all_guard hx
    rw [Bool.and_eq_true, Bool.and_eq_true] at ok
    obtain ⟨b, vs, rfl, _, hq, rs⟩ := rx.lstR
    obtain ⟨bs, rfl, tx, rr⟩ := reps_tx rs e
    have hlen := few_le ok.1
    rw [txsO_len e, ← tx.len] at hlen
    refine ⟨b, bs, ks, rfl, .inl (.inl hq), tx, by omega, neT_ok ok.2.1, diffT_ok ok.2.2, fun ps q hps he hq => ?_⟩
    obtain ⟨k3, a3⟩ := a1.upd (o := .lst ((ps.map (·.1)).map V.ref)) hq
    refine k _ q _ (k1.trans k3) a3.row (a.free k1 a1.row hq) upd_same ?_
    rw [← he]
    exact (reps_ps ps fun z m => rr z (hps z m)).more hq (same_new hq)
end
end Zl
set_option Elab.async false
set_option linter.all false
set_option maxRecDepth 100000
set_option maxHeartbeats 1000000
/-! ZYW: sep.join(a list of texts), s.split(sep), sep a constant. -/
namespace Zl
open PySem L2 PySem.Spec PyProof.Rows
def asS : D → T (List Nat)
  | .str s => .ret s
  | _ => .fail
theorem all_asS {d : D} {P : List Nat → Prop} (h : (asS d).all P) : ∃ s, d = .str s ∧ P s := by
  unfold asS at h
  split at h
  · exact ⟨_, rfl, h⟩
  · exact h.elim
theorem tl_mk (s : List Nat) : TL.tl (mkS s) = s := rfl
theorem mk_tl (x : Str) : mkS (TL.tl x) = x := TL.ext_tl (tl_mk _)
theorem len_mk (s : List Nat) : (mkS s).length = s.length := by rw [TL.len_tl, tl_mk]
theorem join_mk (S : List Nat) (ss : List (List Nat)) : PySem.Txt.join (mkS S) (ss.map mkS) = mkS (TL.joinL S ss) := by
  refine TL.ext_tl ?_
  rw [TL.join_eq, TL.tl_join, tl_mk, tl_mk, List.map_map]
  congr 1
  exact List.map_id _
theorem split_mk (S s : List Nat) (hn : S ≠ []) (hk : S.all (· < 256) = true) : PySem.Txt.split (mkS s) (mkS S) = (TL.spl S 0 [] s).map mkS := by
  have h := TL.split_spl (mkS s) (mkS S) hn (TL.kind_ok (by
    show (mkS S).cps.all (· < 256) = true
    unfold mkS
    rw [List.all_toArray]
    exact hk))
  rw [tl_mk, tl_mk] at h
  rw [← h, List.map_map]
  exact ((List.map_congr_left fun x _ => mk_tl x).trans (List.map_id _)).symm
def sumL : List (List Nat) → Nat
  | [] => 0
  | s :: r => s.length + sumL r
theorem sumL_eq (ss : List (List Nat)) : ((ss.map mkS).map (·.length)).sum = sumL ss := by
  induction ss with
  | nil => rfl
  | cons s r ih =>
    rw [List.map_cons, List.map_cons, List.sum_cons, ih, len_mk]
    rfl
def eJoin (S : List Nat) (g : Ex) : Ex := fun fr hp => (g fr hp).bind fun x => (asL x).bind fun xs => (ofO (strsO xs)).bind fun ss => guardT (Nat.ble (sumL ss + ss.length * S.length) 10000000) (.ret (.str (TL.joinL S ss)))
def nSplit (S : List Nat) (f : Ex) : Fr → Hz → T (List D) := fun fr hp => (f fr hp).bind fun x => (asS x).bind fun s => guardT (few s 100000 && (!S.isEmpty && S.all (· < 256))) (.ret ((TL.spl S 0 [] s).map D.str))
section
variable {X : Cx} {F : Ev}
theorem zjoin {e : Expr} {g : Ex} {S : List Nat} {x : Str} {j : Nat} {apos pos p0 : Pos} (hx : x = ⟨S.toArray⟩) (he : PE X e (tX X.K F g)) (hs : starEach [e] X.env = [(false, eval e X.env)] := by rfl) (hbase : attributeBase (.Constant (.str x) j p0) "join" X.env (eval (.Constant (.str x) j p0) X.env) = eval (.Constant (.str x) j p0) X.env := by rfl)
    (hline : (apos.endLine == pos.line) = true := by rfl) : PE X (.Call (.Attribute (.Constant (.str x) j p0) "join" apos) [e] [] pos) (tX X.K F (eJoin S g)) :=
  PEimp (pe_join (zstr (F := F) hx) he hs hbase hline) fun σ H Q h => by
    obtain ⟨ρ, m0, m1, fr, hp, a, h⟩ := h
    refine ⟨ρ, m0, m1, fr, hp, a, fun H1 v k1 w1 r1 => ?_⟩
    cases r1
    refine ⟨⟨_, rfl⟩, ?_⟩
    have a1 := a.on k1 w1
    refine tX_mk a1 (T.all_bind h) fun y hy H2 u k2 a2 ry => ?_
    obtain ⟨xs, es, hy⟩ := all_asL (T.all_bind hy)
    obtain ⟨ss, eo, hy⟩ := all_ofO (T.all_bind hy)
    obtain ⟨ok, k⟩ := all_guard hy
    have hb := Nat.le_of_ble_eq_true ok
    obtain ⟨b, vs, rfl, sq, rs⟩ := ry.seqR es
    have ev : vs = (ss.map mkS).map V.str := strs_reps rs eo
    subst ev
    refine ⟨mkS S, b, ss.map mkS, rfl, rfl, sq.sq, ?_, ?_⟩
    · rw [sumL_eq, List.length_map, len_mk]
      omega
    · rw [join_mk]
      exact k H2 _ (k1.trans k2) a2.row (.str _)
theorem zsplit {o : Expr} {f : Ex} {S : List Nat} {x : Str} {j : Nat} {apos pos p0 : Pos} (hx : x = ⟨S.toArray⟩) (ho : PE X o (tX X.K F f)) (hs : starEach [(.Constant (.str x) j p0 : Expr)] X.env = [(false, eval (.Constant (.str x) j p0) X.env)] := by rfl) (hbase : attributeBase o "split" X.env (eval o X.env) = eval o X.env := by rfl)
    (hline : (apos.endLine == pos.line) = true := by rfl) : PE X (.Call (.Attribute o "split" apos) [.Constant (.str x) j p0] [] pos) (tN X.K F (nSplit S f)) :=
  PEimp (pe_split ho (zstr (F := F) hx) hs hbase hline) fun σ H Q h => by
    obtain ⟨ρ, m0, m1, fr, hp, a, h⟩ := h
    refine tX_mk a (T.all_bind h) fun y hy H1 v k1 a1 ry => ?_
    obtain ⟨s, rfl, hy⟩ := all_asS (T.all_bind hy)
    obtain ⟨ok, k⟩ := all_guard hy
    rw [Bool.and_eq_true, Bool.and_eq_true] at ok
    cases ry
    refine ⟨⟨_, rfl⟩, ρ, m0, m1, fr, hp, a1, fun H2 u k2 w2 r2 => ?_⟩
    cases r2
    have a2 := a1.on k2 w2
    have hl := few_le ok.1
    have hn : S ≠ [] := fun z => by rw [z] at ok; cases ok.2.1
    refine ⟨mkS s, mkS S, rfl, rfl, ?_, ?_, fun q hq => ?_⟩
    · rw [len_mk]
      cases S with
      | nil => exact absurd rfl hn
      | cons _ _ => rfl
    · rw [len_mk, sizeLine_eq]; omega
    · rw [split_mk S s hn ok.2.2]
      obtain ⟨k3, a3⟩ := a2.upd (o := .lst (((TL.spl S 0 [] s).map mkS).map V.str)) hq
      exact k _ q _ ((k1.trans k2).trans k3) a3.row (a.free (k1.trans k2) a2.row hq) upd_same (reps_strs _)
end
end Zl
set_option Elab.async false
set_option linter.all false
set_option maxRecDepth 100000
set_option maxHeartbeats 1000000
/-! ZYX: x, y, z = a, b, c where a comprehension sees a name. -/
namespace Zl
open PySem L2 PySem.Spec PyProof.Rows
section
variable {X : Cx} {F : Ev}
theorem zpar3c {i j l : Nat} {x y z : Str} {a b c : Expr} {f g h : Ex} {px py pz pt pos : Pos} {kt k2 pt2} (hc : X.calm = true) (gi : PG X (.Name x px) (gName i)) (gj : PG X (.Name y py) (gName j)) (gl : PG X (.Name z pz) (gName l)) (ha : PE X a (tX X.K F f)) (hb : PE X b (tX X.K F g)) (hcc : PE X c (tX X.K F h))
    (h1 : (assignEach [.Name x px, .Name y py, .Name z pz] X.env).map (·.2) = assign (.Name x px) X.env :: (assignEach [.Name y py, .Name z pz] X.env).map (·.2) := by rfl) (h2 : (assignEach [.Name y py, .Name z pz] X.env).map (·.2) = assign (.Name y py) X.env :: (assignEach [.Name z pz] X.env).map (·.2) := by rfl) (h2' : (assignEach [.Name z pz] X.env).map (·.2) = assign (.Name z pz) X.env :: (assignEach [] X.env).map (·.2) := by rfl)
    (h3 : (assignEach [.Name x px, .Name y py, .Name z pz] X.env).length = 3 := by rfl) (h4 : (assignEach [.Name x px, .Name y py, .Name z pz] X.env).findIdx? (·.1) = none := by rfl)
    (hs : swapsWithSole [.Tuple [.Name x px, .Name y py, .Name z pz] kt pt] (.Tuple [a, b, c] k2 pt2) pos.line X.env = pure false := by rfl) (hw : swappedStores [.Tuple [.Name x px, .Name y py, .Name z pz] kt pt] (.Tuple [a, b, c] k2 pt2) X.env = pure none := by rfl)
    (h5 : (assignEach [.Tuple [.Name x px, .Name y py, .Name z pz] kt pt] X.env).map (·.2) = [assign (.Tuple [.Name x px, .Name y py, .Name z pz] kt pt) X.env] := by rfl)
    (na : starEach [a, b, c] X.env = (false, eval a X.env) :: starEach [b, c] X.env := by rfl) (nb : starEach [b, c] X.env = (false, eval b X.env) :: starEach [c] X.env := by rfl) (nc : starEach [c] X.env = (false, eval c X.env) :: starEach [] X.env := by rfl) :
    PS X (.Assign [.Tuple [.Name x px, .Name y py, .Name z pz] kt pt] (.Tuple [a, b, c] k2 pt2) pos) (tS X.K F (sPar3 i j l f g h)) :=
  PSimp (ps_asg (pe_tup (pa_cons ha (pa_cons hb (pa_cons hcc pa_nil nc) nb) na)) (pg_tup hc (pgs_cons gi (pgs_cons gj (pgs_cons gl pgs_nil h2') h2) h1) h3 h4) hs hw h5) fun D σ H hh => by
    obtain ⟨ρ, m0, m1, fr, hp, a, hh⟩ := hh
    refine tX_mk a (T.all_bind hh) fun x hx H1 v k1 a1 rx => ?_
    refine tX_mk a1 (T.all_bind hx) fun y hy H2 u k2 a2 ry => ?_
    refine tX_mk a2 (T.all_bind hy) fun z hz H3 t k3 a3 rz => ?_
    refine ⟨(show 3 ≤ sizeLine from by decide), fun q hq => ?_⟩
    obtain ⟨k4, a4⟩ := a3.upd (o := .tup [v, u, t]) hq
    refine ⟨q, [v, u, t], rfl, .inl (.inl upd_same), rfl, v, [u, t], rfl, u, [t], rfl, t, [], rfl, rfl, ?_⟩
    have rx' := ((rx.on a1.own k2).on a2.own k3).on a3.own k4
    have ry' := (ry.on a2.own k3).on a3.own k4
    exact hz _ _ _ (Grow.of (((k1.trans k2).trans k3).trans k4)) ⟨((a4.fr.set (s := .v x) i rx').set (s := .v y) j ry').set (s := .v z) l (rz.on a3.own k4), a4.sim, a4.row, a4.own⟩
/-! ### sorted(a tuple of texts) -/
theorem call_sortedSt {P : Program} {w : World} {A : Around} {E : Value → Shared → Prop} {s : Shared} {l : Addr} {its : Array Value} {xs : List Str} {Q : Value → Shared → Prop} (hl : s.heap.IsTuple l its) (hu : StrsAre its.toList xs) (h64 : its.toList.length < 64)
    (hQ : ∀ (h1 h2 : Heap) (out : Array Value) (c : Nat) (ys : List Str), (∀ b o, s.heap.get? b = some o → h1.get? b = some o) → (∀ b o, h1.get? b = some o → h2.get? b = some o) → h2.get? h1.objs.size = some (seqObj "list" out c) → StrsAre out.toList ys → ys.Perm xs → sortedS ys = true → Q (.ref h1.objs.size) { s with heap := h2 }) :
    wpAny (model P w) A (call (.builtin "sorted") [.ref l]) Q E s := by
  obtain ⟨o, ho, hc, n, hd⟩ := hl
  refine Calls.call_function_entry kind_sorted plain_sorted entry_sorted (args_sorted1 _) ?_
  unfold Builtin.«sorted»
  refine wpAny_bind (m := checkCount "sorted" 1 1 _) (wpAny_pure ?_)
  have sz : its.size ≤ sizeLine := by
    rw [← Array.length_toList, sizeLine_eq]
    omega
  refine wpAny_bind (wpAny_collect_seq l (.inr rfl) ho hc hd (fun h1 k1 => ?_) sz)
  refine wpAny_bind (wpAny_newList ?_ (by rw [Array.length_toList]; exact sz))
  have lo : (h1.push (seqObj "list" its.toList.toArray 0)).get? h1.objs.size = some (seqObj "list" its.toList.toArray 0) := Heap.get?_push_size _ rfl
  refine wpAny_bind (wpAny_holding (wpAny_call_entry slot_list_sort ⟨_, lo, rfl⟩ entry_list_sort ?_ (args_list_sort _)))
  refine list_sort_treeK (s := { s with heap := h1.push (seqObj "list" its.toList.toArray 0) }) strKind_oneLt lo hu.keysOf (fun a c rest e => keyKind_strs (by rw [← e]; exact hu)) h64 fun z' hp hs => ⟨_, rfl, ?_⟩
  obtain ⟨ys, q1, q2, q3⟩ := sorted_out_str hu hp hs
  obtain ⟨e', he'⟩ := sortedHeap_at (out := (arrOf z').map (·.2)) (vs := its.toList) lo
  refine wpAny_pure ⟨_, rfl, hQ h1 _ ((arrOf z').map (·.2)) e' ys k1 (fun b u e => ?_) he' q1 q2 q3⟩
  have hlt := Heap.lt_size e
  show (sortedHeap (h1.push (seqObj "list" its.toList.toArray 0)) h1.objs.size its.toList _).get? b = some u
  rw [sortedHeap_old (Nat.ne_of_lt hlt) (by rw [size_push']; exact Nat.lt_succ_of_lt hlt)]
  exact Heap.get?_push_of_some _ e
def rSortSt (K : PySem.W.Frag) : List V → Hp → VK → Prop := fun vs H Q => ∃ (a : Addr) (xs : List Str), vs = [V.ref a] ∧ SqT K H a (xs.map V.str) ∧ xs.length < 64 ∧ ∀ ys p, ys.Perm xs → sortedS ys = true → H p = none → Q (.ref p) (L2.upd H p (.lst (ys.map V.str)))
theorem cr_sortSt : CallR X (.builtin "sorted") (rSortSt X.K) := by
  intro pins s σ H vs us Q I r h
  obtain ⟨a, xs, rfl, hs, h64, q⟩ := h
  obtain ⟨its, rv, pl, _⟩ := I.tuple hs
  rw [Vals.ref1 r]
  have ln : its.length = xs.length := by rw [← rv.length, List.length_map]
  refine call_sortedSt pl (by simpa using strsAre_of rv) (by rw [List.toList_toArray, ln]; exact h64) fun h1 h2 out c ys k1 k2 hg hi hp hm => ?_
  have I1 : Inv X pins σ H { s with heap := h1 } := I.kept (t' := s.toks) k1
  have hlen : (ys.map V.str).length ≤ sizeLine := by rw [List.length_map, hp.length_eq, sizeLine_eq]; omega
  exact ⟨.ref _, L2.upd H h1.objs.size (.lst (ys.map V.str)), Inv.laid (s := { s with heap := h1 }) (t' := s.toks) I1 k2 (Nat.le_refl _) ⟨hlen, out.toList, c, vals_of_strs hi, hg⟩, rfl, q ys _ hp hm (I1.hok.fresh (Nat.le_refl _))⟩
def vT (f : Ex) : Fr → Hz → T (List D) := fun fr hp => (f fr hp).bind asTup
theorem zsortSt {e : Expr} {f : Ex} {p pos : Pos} (hg : Gl X "sorted") (hm : X.mg "sorted" = none) (he : PE X e (tX X.K F f)) (na : starEach (e :: []) X.env = (false, eval e X.env) :: starEach [] X.env := by rfl) : PE X (.Call (.Name "sorted" p) [e] [] pos) (tN X.K F (nSortS (vT f))) :=
  PEimp (pe_callB cr_sortSt hg hm (by decide +kernel) (pa_cons he pa_nil na) (he := na)) fun σ H Q h => by
    obtain ⟨ρ, m0, m1, fr, hp, a, h⟩ := h
    show tX X.K F f σ H fun x H1 => rSortSt X.K [x] H1 Q
    refine tX_mk a (T.all_bind (T.all_bind h)) fun x hx H1 v k1 a1 rx => ?_
    obtain ⟨xs, rfl, hx⟩ := all_asTup hx
    obtain ⟨ss, e, hx⟩ := all_ofO (T.all_bind hx)
    obtain ⟨ok, k⟩ := all_guard hx
    rw [Bool.and_eq_true, Bool.and_eq_true] at ok
    obtain ⟨b, vs, rfl, sq, rs⟩ := rx.tupR
    have ev : vs = (ss.map mkS).map V.str := strs_reps rs e
    have el : ss.length = xs.length := by
      have := rs.length
      rw [ev, List.length_map, List.length_map] at this
      exact this
    subst ev
    have hlen := few_le ok.1
    refine ⟨b, ss.map mkS, rfl, sq, by rw [List.length_map]; omega, fun ys q hpm hso hq => ?_⟩
    have hp2 : ((isortS ss).map mkS).Perm (ss.map mkS) := (List.isPerm_iff.mp ok.2.2).map mkS
    have ey : ys = (isortS ss).map mkS := sortedS_one hso ok.2.1 (hpm.trans hp2.symm)
    subst ey
    obtain ⟨k3, a3⟩ := a1.upd (o := .lst (((isortS ss).map mkS).map V.str)) hq
    exact k _ q _ (k1.trans k3) a3.row (a.free k1 a1.row hq) upd_same (reps_strs (isortS ss))
end
end Zl
set_option Elab.async false
set_option linter.all false
set_option maxRecDepth 1000000
set_option maxHeartbeats 4000000
namespace Zl
open PySem L2 PySem.Spec PyProof.Rows
def top (i : Nat) : Stmt := PySem.Challenge.pw_dealclashes_k03_whole_maps.main.body.getD i (.Pass ⟨0, 0, 0, 0⟩)
def tb_AT_ROW : List (D × D) := [(.str [98, 101, 115, 116], .fn 0), (.str [99, 111, 114, 101], .fn 1), (.str [102, 105, 114, 115, 116], .fn 2), (.str [110, 111, 116, 108, 97, 115, 116], .fn 3), (.str [111, 119, 110], .fn 4), (.str [115, 111, 108, 101], .fn 5), (.str [115, 119, 97, 112, 108, 101, 115, 115], .fn 6)]
def tb_ACROSS : List (D × D) := [(.str [103, 114, 111, 119, 105, 110, 103], .fn 7), (.str [110, 97, 109, 101, 115], .fn 8), (.str [115, 116, 105, 108, 108], .fn 9), (.str [116, 104, 105, 110, 103, 115], .fn 10), (.str [116, 111, 112, 115], .fn 11), (.str [116, 114, 117, 116, 104, 102, 117, 108], .fn 12)]
def tb_WHOLE : List (D × D) := [(.str [110, 111, 98, 111, 115, 115], .fn 13), (.str [111, 112, 101, 110], .fn 14)]
def tb_LEAST_CLASHES : List (D × D) := [(.int 2, .tup [.tup [.str [99, 111, 114, 101], .str [116, 104, 105, 110, 103, 115]], .tup [.str [110, 97, 109, 101, 115], .str [116, 104, 105, 110, 103, 115]], .tup [.str [111, 119, 110], .str [116, 104, 105, 110, 103, 115]], .tup [.str [98, 101, 115, 116], .str [110, 111, 98, 111, 115, 115], .str [116, 104, 105, 110, 103, 115]], .tup [.str [102, 105, 114, 115, 116], .str [110, 111, 98, 111, 115, 115], .str [116, 104, 105, 110, 103, 115]], .tup [.str [103, 114, 111, 119, 105, 110, 103], .str [110, 111, 98, 111, 115, 115], .str [116, 104, 105, 110, 103, 115]], .tup [.str [110, 111, 98, 111, 115, 115], .str [110, 111, 116, 108, 97, 115, 116], .str [116, 104, 105, 110, 103, 115]], .tup [.str [110, 111, 98, 111, 115, 115], .str [115, 111, 108, 101], .str [116, 104, 105, 110, 103, 115]], .tup [.str [110, 111, 98, 111, 115, 115], .str [115, 119, 97, 112, 108, 101, 115, 115], .str [116, 104, 105, 110, 103, 115]], .tup [.str [110, 111, 98, 111, 115, 115], .str [116, 104, 105, 110, 103, 115], .str [116, 114, 117, 116, 104, 102, 117, 108]]]), (.int 3, .tup [.tup [.str [98, 101, 115, 116], .str [116, 111, 112, 115]], .tup [.str [99, 111, 114, 101], .str [110, 111, 116, 108, 97, 115, 116]], .tup [.str [99, 111, 114, 101], .str [115, 111, 108, 101]], .tup [.str [99, 111, 114, 101], .str [116, 104, 105, 110, 103, 115]], .tup [.str [99, 111, 114, 101], .str [116, 111, 112, 115]], .tup [.str [103, 114, 111, 119, 105, 110, 103], .str [110, 111, 116, 108, 97, 115, 116]], .tup [.str [103, 114, 111, 119, 105, 110, 103], .str [115, 111, 108, 101]], .tup [.str [110, 97, 109, 101, 115], .str [116, 104, 105, 110, 103, 115]], .tup [.str [110, 111, 116, 108, 97, 115, 116], .str [111, 119, 110]], .tup [.str [110, 111, 116, 108, 97, 115, 116], .str [115, 111, 108, 101]], .tup [.str [110, 111, 116, 108, 97, 115, 116], .str [116, 111, 112, 115]], .tup [.str [110, 111, 116, 108, 97, 115, 116], .str [116, 114, 117, 116, 104, 102, 117, 108]], .tup [.str [111, 119, 110], .str [115, 111, 108, 101]], .tup [.str [111, 119, 110], .str [116, 104, 105, 110, 103, 115]], .tup [.str [115, 111, 108, 101], .str [116, 114, 117, 116, 104, 102, 117, 108]], .tup [.str [115, 119, 97, 112, 108, 101, 115, 115], .str [116, 111, 112, 115]], .tup [.str [116, 104, 105, 110, 103, 115], .str [116, 111, 112, 115]], .tup [.str [102, 105, 114, 115, 116], .str [103, 114, 111, 119, 105, 110, 103], .str [116, 111, 112, 115]], .tup [.str [102, 105, 114, 115, 116], .str [116, 111, 112, 115], .str [116, 114, 117, 116, 104, 102, 117, 108]], .tup [.str [103, 114, 111, 119, 105, 110, 103], .str [110, 111, 98, 111, 115, 115], .str [116, 104, 105, 110, 103, 115]], .tup [.str [103, 114, 111, 119, 105, 110, 103], .str [111, 112, 101, 110], .str [116, 111, 112, 115]], .tup [.str [98, 101, 115, 116], .str [110, 111, 98, 111, 115, 115], .str [116, 104, 105, 110, 103, 115], .str [116, 114, 117, 116, 104, 102, 117, 108]], .tup [.str [102, 105, 114, 115, 116], .str [110, 111, 98, 111, 115, 115], .str [116, 104, 105, 110, 103, 115], .str [116, 114, 117, 116, 104, 102, 117, 108]], .tup [.str [110, 111, 98, 111, 115, 115], .str [115, 116, 105, 108, 108], .str [116, 104, 105, 110, 103, 115], .str [116, 114, 117, 116, 104, 102, 117, 108]], .tup [.str [110, 111, 98, 111, 115, 115], .str [115, 119, 97, 112, 108, 101, 115, 115], .str [116, 104, 105, 110, 103, 115], .str [116, 114, 117, 116, 104, 102, 117, 108]], .tup [.str [111, 112, 101, 110], .str [115, 116, 105, 108, 108], .str [116, 111, 112, 115], .str [116, 114, 117, 116, 104, 102, 117, 108]]])]
def tb_LEAST_FORCING : List (D × D) := [(.int 2, .tup [.tup [.str [99, 111, 114, 101]], .tup [.str [98, 101, 115, 116], .str [111, 119, 110]], .tup [.str [102, 105, 114, 115, 116], .str [111, 119, 110]], .tup [.str [110, 111, 116, 108, 97, 115, 116], .str [111, 119, 110]], .tup [.str [111, 112, 101, 110], .str [111, 119, 110]], .tup [.str [111, 119, 110], .str [115, 111, 108, 101]], .tup [.str [111, 119, 110], .str [115, 119, 97, 112, 108, 101, 115, 115]]]), (.int 3, .tup [.tup [.str [99, 111, 114, 101]], .tup [.str [98, 101, 115, 116], .str [103, 114, 111, 119, 105, 110, 103], .str [111, 119, 110]], .tup [.str [98, 101, 115, 116], .str [111, 119, 110], .str [116, 114, 117, 116, 104, 102, 117, 108]], .tup [.str [102, 105, 114, 115, 116], .str [103, 114, 111, 119, 105, 110, 103], .str [111, 119, 110]], .tup [.str [103, 114, 111, 119, 105, 110, 103], .str [110, 97, 109, 101, 115], .str [116, 111, 112, 115]], .tup [.str [103, 114, 111, 119, 105, 110, 103], .str [111, 112, 101, 110], .str [111, 119, 110]], .tup [.str [103, 114, 111, 119, 105, 110, 103], .str [111, 119, 110], .str [115, 119, 97, 112, 108, 101, 115, 115]], .tup [.str [103, 114, 111, 119, 105, 110, 103], .str [111, 119, 110], .str [116, 111, 112, 115]], .tup [.str [111, 119, 110], .str [115, 119, 97, 112, 108, 101, 115, 115], .str [116, 114, 117, 116, 104, 102, 117, 108]], .tup [.str [102, 105, 114, 115, 116], .str [110, 97, 109, 101, 115], .str [111, 119, 110], .str [116, 114, 117, 116, 104, 102, 117, 108]], .tup [.str [102, 105, 114, 115, 116], .str [111, 119, 110], .str [115, 116, 105, 108, 108], .str [116, 111, 112, 115]], .tup [.str [102, 105, 114, 115, 116], .str [111, 119, 110], .str [115, 116, 105, 108, 108], .str [116, 114, 117, 116, 104, 102, 117, 108]], .tup [.str [110, 97, 109, 101, 115], .str [115, 116, 105, 108, 108], .str [116, 111, 112, 115], .str [116, 114, 117, 116, 104, 102, 117, 108]], .tup [.str [111, 112, 101, 110], .str [111, 119, 110], .str [115, 116, 105, 108, 108], .str [116, 111, 112, 115]], .tup [.str [111, 112, 101, 110], .str [111, 119, 110], .str [115, 116, 105, 108, 108], .str [116, 114, 117, 116, 104, 102, 117, 108]], .tup [.str [111, 112, 101, 110], .str [111, 119, 110], .str [116, 111, 112, 115], .str [116, 114, 117, 116, 104, 102, 117, 108]], .tup [.str [111, 119, 110], .str [115, 116, 105, 108, 108], .str [116, 111, 112, 115], .str [116, 114, 117, 116, 104, 102, 117, 108]]])]
structure Txt (P : Program) (w : World) (K : PySem.W.Frag) (mg : Str → Option Value) (fs : List Addr) (aP : Addr) (ad_AT_ROW : Addr) (kv_AT_ROW : List (Key × V)) (ad_ACROSS : Addr) (kv_ACROSS : List (Key × V)) (ad_WHOLE : Addr) (kv_WHOLE : List (Key × V)) (ad_LEAST_CLASHES : Addr) (kv_LEAST_CLASHES : List (Key × V)) (ad_LEAST_FORCING : Addr) (kv_LEAST_FORCING : List (Key × V)) : Prop where
  nb_all : mg "all" = none
  nb_any : mg "any" = none
  nb_bool : mg "bool" = none
  nb_int : mg "int" = none
  nb_isinstance : mg "isinstance" = none
  nb_len : mg "len" = none
  nb_list : mg "list" = none
  nb_range : mg "range" = none
  nb_set : mg "set" = none
  nb_sorted : mg "sorted" = none
  nb_str : mg "str" = none
  nb_tuple : mg "tuple" = none
  nb_type : mg "type" = none
  mg_permutations : mg "permutations" = some (.type "itertools.permutations")
  mg_combinations : mg "combinations" = some (.type "itertools.combinations")
  mg_PEOPLE : mg "PEOPLE" = some (.ref aP)
  pP : StT K aP [V.int 2, V.int 3]
  mg_AT_ROW : mg "AT_ROW" = some (.ref ad_AT_ROW)
  sd_AT_ROW : SDk P w K ad_AT_ROW kv_AT_ROW
  tb_AT_ROW : TabR K (F1 w fs) kv_AT_ROW tb_AT_ROW
  mg_ACROSS : mg "ACROSS" = some (.ref ad_ACROSS)
  sd_ACROSS : SDk P w K ad_ACROSS kv_ACROSS
  tb_ACROSS : TabR K (F1 w fs) kv_ACROSS tb_ACROSS
  mg_WHOLE : mg "WHOLE" = some (.ref ad_WHOLE)
  sd_WHOLE : SDk P w K ad_WHOLE kv_WHOLE
  tb_WHOLE : TabR K (F1 w fs) kv_WHOLE tb_WHOLE
  mg_LEAST_CLASHES : mg "LEAST_CLASHES" = some (.ref ad_LEAST_CLASHES)
  sd_LEAST_CLASHES : SDk P w K ad_LEAST_CLASHES kv_LEAST_CLASHES
  tb_LEAST_CLASHES : TabR K (F1 w fs) kv_LEAST_CLASHES tb_LEAST_CLASHES
  mg_LEAST_FORCING : mg "LEAST_FORCING" = some (.ref ad_LEAST_FORCING)
  sd_LEAST_FORCING : SDk P w K ad_LEAST_FORCING kv_LEAST_FORCING
  tb_LEAST_FORCING : TabR K (F1 w fs) kv_LEAST_FORCING tb_LEAST_FORCING
theorem Txt.rep_PEOPLE {P : Program} {w : World} {K : PySem.W.Frag} {mg : Str → Option Value} {fs : List Addr} {aP : Addr} {ad_AT_ROW : Addr} {kv_AT_ROW : List (Key × V)} {ad_ACROSS : Addr} {kv_ACROSS : List (Key × V)} {ad_WHOLE : Addr} {kv_WHOLE : List (Key × V)} {ad_LEAST_CLASHES : Addr} {kv_LEAST_CLASHES : List (Key × V)} {ad_LEAST_FORCING : Addr} {kv_LEAST_FORCING : List (Key × V)} (T : Txt P w K mg fs aP ad_AT_ROW kv_AT_ROW ad_ACROSS kv_ACROSS ad_WHOLE kv_WHOLE ad_LEAST_CLASHES kv_LEAST_CLASHES ad_LEAST_FORCING kv_LEAST_FORCING) (m : List Addr) (H : Hp) : Rep K (F1 w fs) m H (.ref aP) (.tup [.int 2, .int 3]) := rep_ints (ns := [2, 3]) T.pP m H
section
variable {P : Program} {w : World} {K : PySem.W.Frag} {mg : Str → Option Value} {fs : List Addr} {aP : Addr} {ad_AT_ROW : Addr} {kv_AT_ROW : List (Key × V)} {ad_ACROSS : Addr} {kv_ACROSS : List (Key × V)} {ad_WHOLE : Addr} {kv_WHOLE : List (Key × V)} {ad_LEAST_CLASHES : Addr} {kv_LEAST_CLASHES : List (Key × V)} {ad_LEAST_FORCING : Addr} {kv_LEAST_FORCING : List (Key × V)} {base : Heap}
/-! _law_taken -/
abbrev s_law_taken : Stmt := top 84
abbrev N_law_taken : List Str := ["row", "many"]
theorem sc_law_taken : FnScope ["row", "many", "found", "cell"] N_law_taken (defScope s_law_taken) := ⟨rfl, rfl, rfl, by decide +kernel, rfl, by decide +kernel, by decide +kernel⟩
theorem ok_law_taken {a_law_taken : Addr} {d_law_taken : FuncData} (G_law_taken : Gd K mg "_law_taken" s_law_taken N_law_taken a_law_taken d_law_taken) (Tx : Txt P w K mg fs aP ad_AT_ROW kv_AT_ROW ad_ACROSS kv_ACROSS ad_WHOLE kv_WHOLE ad_LEAST_CLASHES kv_LEAST_CLASHES ad_LEAST_FORCING kv_LEAST_FORCING) : FnOk P w K mg base CX0 1 a_law_taken d_law_taken N_law_taken (spR K (F1 w fs) taken 1) := by
  have sc := sc_law_taken
  have Fn := G_law_taken.fn
  have ni := Tx.nb_int
  have nl := Tx.nb_len
  refine Fn.ok sc (fun vs H Q E h => ?_) (fun cdv A outer s H vs Q E hr h => ?_)
  · obtain ⟨a, ws, m, ds, rfl, hn, _⟩ := h
    rw [List.length_cons, hn]
    rfl
  · obtain ⟨ρ, ws, m, ds, rfl, hn, hm, dom, row, rs, h⟩ := h
    obtain ⟨n, rfl⟩ : ∃ n, ds = [.int n] := by
      unfold taken at h
      split at h
      · exact ⟨_, rfl⟩
      · exact h.elim
    cases rs with
    | cons r1 rs =>
    cases rs
    cases r1
    obtain ⟨hb, h⟩ := all_guard (show (guardT (decide (1 ≤ n) && decide (n ≤ 1000000)) (T.draw n.toNat fun i => T.ret (D.int i))).all _ from h)
    rw [Bool.and_eq_true] at hb
    have n1 := of_decide_eq_true hb.1
    have n2 := of_decide_eq_true hb.2
    have fin : ∀ (z : Int) (H' : Hp), Keep (some ρ) H H' → RowOk K H' ρ → Q (.int (z % n)) H' := fun z H' k w => by
      have e1 : 0 ≤ z % n := Int.emod_nonneg z (by omega)
      have e2 : z % n < n := Int.emod_lt_of_pos z (by omega)
      have q := h (z % n).toNat (by omega) H' (.int (((z % n).toNat : Nat) : Int)) k w (.int _)
      rw [Int.toNat_of_nonneg e1] at q
      exact q
    obtain ⟨sA, ns, i, z, r, hrow, hscr, hlen, hi⟩ := row
    have hs : SqL K H ρ [.ref sA, .int i, .int z, .int r] := SqL.of hrow
    have keep : ∀ xs, Keep (some ρ) H (upd H ρ (.lst xs)) := fun xs b o n e => by
      rw [upd_ne (fun z => n (by rw [z]))]
      exact e
    have scr : ∀ xs, ScrOk K (upd H ρ (.lst xs)) sA (ns.map V.int) := fun xs => hscr.keep fun o e => by
      rw [upd_ne (fun z => by rw [z, hrow] at e; cases e)]
      exact e
    refine ⟨_, pss_cons (ps_if (pt_cmpR op_gt (pe_ix ix_seq (pv 0) pe_int fun _ _ => rfl) pe_int (nomark _))
        (pss_cons (ps_set (i := 2) sc.nd rfl (Or.inl rfl) (pe_op op_mod (pe_callTy call_int1 (by rfl) ni boot_int (pa_cons (pe_ix ix_seq (pv 0) pe_int fun _ _ => rfl) pa_nil)) (pv 1)))
          (pss_cons (ps_asg (pe_op op_fdiv (pe_ix ix_seq (pv 0) pe_int fun _ _ => rfl) (pv 1)) (pg_sub (pv 0) pe_int set_list)) (pss_one (ps_ret (pv 2))))) pss_nil)
      (pss_cons (ps_asg (pe_op op_add (pe_ix ix_seq (pv 0) pe_int fun _ _ => rfl) pe_int) (pg_sub (pv 0) pe_int set_list))
      (pss_cons (ps_if (pt_cmpR op_gt (pe_ix ix_seq (pv 0) pe_int fun _ _ => rfl) (pe_callB call_len_seq (by rfl) nl PySem.boot_len (pa_cons (pe_ix ix_seq (pv 0) pe_int fun _ _ => rfl) pa_nil)) (nomark _))
          (pss_cons (ps_asg (pe_op op_mod (pe_callTy call_int1 (by rfl) ni boot_int (pa_cons (pe_op op_add (pe_op op_mul (pe_ix ix_seq (pv 0) pe_int fun _ _ => rfl) pe_int) pe_int) pa_nil)) pe_int) (pg_sub (pv 0) pe_int set_list))
            (pss_one (ps_ret (pe_op op_mod (pe_callTy call_int1 (by rfl) ni boot_int (pa_cons (pe_op op_fdiv (pe_ix ix_seq (pv 0) pe_int fun _ _ => rfl) pe_int) pa_nil)) (pv 1))))) pss_nil)
      (pss_cons (ps_set (i := 3) sc.nd rfl (Or.inl rfl) (pe_ix ix_seq (pe_ix ix_seq (pv 0) pe_int fun _ _ => rfl) (pe_op op_sub (pe_ix ix_seq (pv 0) pe_int fun _ _ => rfl) pe_int) fun _ _ => rfl))
      (pss_cons (ps_asg (pe_op op_mod (pe_callTy call_int1 (by rfl) ni boot_int (pa_cons (pe_op op_add (pe_op op_add (pe_op op_mul (pe_ix ix_seq (pv 0) pe_int fun _ _ => rfl) pe_int) (pv 3)) pe_int) pa_nil)) pe_int) (pg_sub (pv 0) pe_int set_list))
      (pss_cons (ps_if (pt_cmpR op_ge (pv 3) (pe_op op_pow pe_int pe_int) (nomark _))
          (pss_one (ps_asg (pe_op op_fdiv (pv 3) (pv 1)) (pg_sub (pv 0) pe_int set_list))) pss_nil)
      (pss_one (ps_ret (pe_op op_mod (pe_callTy call_int1 (by rfl) ni boot_int (pa_cons (pv 3) pa_nil)) (pv 1))))))))), ?_⟩
    refine ⟨_, rfl, .inl ⟨ρ, _, 3, _, rfl, rfl, hs, rfl, _, _, rfl, rfl, ?_⟩⟩
    refine ⟨_, rfl, ?_⟩
    refine ite2 (fun _ => ?_) (fun _ => ?_)
    · refine ⟨_, rfl, .inl ⟨ρ, _, 3, _, rfl, rfl, hs, rfl, .inl ⟨_, rfl, _, rfl, _, _, rfl, rfl, (by omega), ?_⟩⟩⟩
      refine ⟨_, rfl, .inl ⟨ρ, _, 3, _, rfl, rfl, hs, rfl, _, rfl, _, _, rfl, rfl, ⟨by omega, by omega⟩, ?_⟩⟩
      refine ⟨_, rfl, ρ, _, 3, 3, rfl, rfl, hrow, rfl, ?_⟩
      refine ⟨_, rfl, fin r _ (keep _) ⟨sA, ns, i, z, _, upd_same, scr _, hlen, hi⟩⟩
    · refine ⟨_, rfl, .inl ⟨ρ, _, 1, _, rfl, rfl, hs, rfl, _, _, rfl, rfl, ?_⟩⟩
      refine ⟨_, rfl, ρ, _, 1, 1, rfl, rfl, hrow, rfl, ?_⟩
      show tSeq _ _ _ _ (upd H ρ (.lst [.ref sA, .int (i + 1), .int z, .int r]))
      have hs1 : SqL K (upd H ρ (.lst [.ref sA, .int (i + 1), .int z, .int r])) ρ [.ref sA, .int (i + 1), .int z, .int r] := SqL.of upd_same
      have scr1 : SqL K (upd H ρ (.lst [.ref sA, .int (i + 1), .int z, .int r])) sA (ns.map V.int) := (scr _).sq
      have two : ∀ xs ys, Keep (some ρ) H (upd (upd H ρ (.lst xs)) ρ (.lst ys)) ∧ ScrOk K (upd (upd H ρ (.lst xs)) ρ (.lst ys)) sA (ns.map V.int) := fun xs ys => by
        have e : upd (upd H ρ (.lst xs)) ρ (.lst ys) = upd H ρ (.lst ys) := by
          funext b
          by_cases hb : b = ρ
          · rw [hb, upd_same, upd_same]
          · rw [upd_ne hb, upd_ne hb, upd_ne hb]
        rw [e]
        exact ⟨keep _, scr _⟩
      refine ⟨_, rfl, .inl ⟨ρ, _, 1, _, rfl, rfl, hs1, rfl, _, rfl, .inl ⟨ρ, _, 0, _, rfl, rfl, hs1, rfl, ?_⟩⟩⟩
      refine ⟨sA, _, rfl, .inl scr1, _, _, rfl, rfl, _, rfl, ?_⟩
      refine ite2 (fun _ => ?_) (fun hle => ?_)
      · refine ⟨_, rfl, .inl ⟨ρ, _, 2, _, rfl, rfl, hs1, rfl, _, _, rfl, rfl, .inr ⟨by decide, by decide⟩, _, _, rfl, rfl, .inl ⟨_, rfl, _, _, rfl, rfl, (by show (0 : Int) < 2147483647; decide), ?_⟩⟩⟩
        refine ⟨_, rfl, ρ, _, 2, 2, rfl, rfl, upd_same, rfl, ?_⟩
        refine ⟨_, rfl, .inl ⟨ρ, _, 2, _, rfl, rfl, SqL.of upd_same, rfl, _, _, rfl, rfl, ⟨by decide, by decide⟩, .inl ⟨_, rfl, _, rfl, _, _, rfl, rfl, (by omega), ?_⟩⟩⟩
        exact fin _ _ (two _ _).1 ⟨sA, ns, i + 1, _, r, upd_same, (two _ _).2, hlen, by omega⟩
      · have hle : i + 1 ≤ (ns.length : Int) := by
          by_cases q : ((ns.map V.int).length : Int) < i + 1
          · exact absurd (decide_eq_true q) hle
          · rw [List.length_map] at q; omega
        have hix : i.toNat < ns.length := by omega
        have hat : atI (ns.map V.int) (i + 1 - 1) = some (.int ns[i.toNat]) := by
          have e : i + 1 - 1 = ((i.toNat : Nat) : Int) := by omega
          rw [e]
          exact atI_nat (by rw [List.getElem?_map, List.getElem?_eq_getElem hix]; rfl)
        generalize ns[i.toNat] = c at hat
        refine ⟨_, rfl, .inl ⟨ρ, _, 0, _, rfl, rfl, hs1, rfl, _, rfl, .inl ⟨ρ, _, 1, _, rfl, rfl, hs1, rfl, _, _, rfl, rfl, .inl ⟨sA, _, _, _, rfl, rfl, scr1, hat, ?_⟩⟩⟩⟩
        refine ⟨_, rfl, .inl ⟨ρ, _, 2, _, rfl, rfl, hs1, rfl, _, _, rfl, rfl, .inr ⟨by decide, by decide⟩, _, rfl, _, _, rfl, rfl, _, _, rfl, rfl, .inl ⟨_, rfl, _, _, rfl, rfl, (by show (0 : Int) < 2147483647; decide), ?_⟩⟩⟩
        refine ⟨_, rfl, ρ, _, 2, 2, rfl, rfl, upd_same, rfl, ?_⟩
        refine ⟨_, rfl, _, _, rfl, rfl, ⟨by decide, by decide, by decide⟩, _, _, rfl, rfl, ?_⟩
        refine ⟨_, rfl, ?_⟩
        refine ite2 (fun _ => ?_) (fun _ => ?_)
        · refine ⟨_, rfl, _, rfl, _, _, rfl, rfl, ⟨by omega, by omega⟩, ?_⟩
          refine ⟨_, rfl, ρ, _, 3, 3, rfl, rfl, upd_same, rfl, ?_⟩
          refine ⟨_, rfl, .inl ⟨_, rfl, _, rfl, _, _, rfl, rfl, (by omega), ?_⟩⟩
          have e : ∀ xs ys zs, upd (upd (upd H ρ (.lst xs)) ρ (.lst ys)) ρ (.lst zs) = upd H ρ (.lst zs) := fun xs ys zs => by
            funext b
            by_cases hb : b = ρ
            · rw [hb, upd_same, upd_same]
            · rw [upd_ne hb, upd_ne hb, upd_ne hb, upd_ne hb]
          refine fin _ _ ?_ ⟨sA, ns, i + 1, _, _, upd_same, ?_, hlen, by omega⟩
          · rw [e]; exact keep _
          · rw [e]; exact scr _
        · refine ⟨_, rfl, .inl ⟨_, rfl, _, rfl, _, _, rfl, rfl, (by omega), ?_⟩⟩
          exact fin _ _ (two _ _).1 ⟨sA, ns, i + 1, _, r, upd_same, (two _ _).2, hlen, by omega⟩
/-! _law_sets -/
abbrev s_law_sets : Stmt := top 91
abbrev N_law_sets : List Str := ["some"]
theorem sc_law_sets : FnScope ["some", "one"] N_law_sets (defScope s_law_sets) := ⟨rfl, rfl, rfl, by decide +kernel, rfl, by decide +kernel, by decide +kernel⟩
def r_law_sets : List D → T D := runB (
    (sRetF (lst (nLc (lSeq (lst (nSplit [44, 32] (eJoin [44, 32] (eV 0))))) (gIF 1) bYes (eTupOf (nSplit [32] (eV 1))) [1])))) 2
theorem ok_law_sets {a_law_sets : Addr} {d_law_sets : FuncData} (G_law_sets : Gd K mg "_law_sets" s_law_sets N_law_sets a_law_sets d_law_sets) (Tx : Txt P w K mg fs aP ad_AT_ROW kv_AT_ROW ad_ACROSS kv_ACROSS ad_WHOLE kv_WHOLE ad_LEAST_CLASHES kv_LEAST_CLASHES ad_LEAST_FORCING kv_LEAST_FORCING) : FnOk P w K mg base CX0 1 a_law_sets d_law_sets N_law_sets (spP K (F1 w fs) r_law_sets 1) := by
  have sc := sc_law_sets
  refine zdef (F := F1 w fs) (N := ["some", "one"]) G_law_sets.fn sc fun cdv A outer s H E hr => ?_
  have hu := hr.units
  have hu2 := units80 hr
  let N : List Str := ["some", "one"]
  exact (zlast (PSf (sRetF_eq _) (zret (PEnl (zlc rfl sc.nd (zis (PEnl (zsplit (S := [44, 32]) (by rfl) (zjoin (S := [44, 32]) (by rfl) (zv 0))))) (blkOk_by (own := [("one", 1)]) (N := N) (sc := (defScope s_law_sets)) (by first | decide +kernel | rfl | with_unfolding_all rfl)) (TgCf (gIF_eq _) (zgc_name (by decide))) (fun _ _ _ _ _ => (pg_name (i := 1) sc.nd rfl (by first | exact Or.inl rfl | exact Or.inr rfl))) (fun _ _ _ _ _ => ztyes) (fun _ _ _ _ _ => (ztupOf (by rfl) Tx.nb_tuple (PEns (zsplit (S := [32]) (by rfl) (zv 1))))))))))
/-! _law_clashes -/
abbrev s_law_clashes : Stmt := top 92
abbrev N_law_clashes : List Str := ["people"]
theorem sc_law_clashes : FnScope ["people", "small", "great"] N_law_clashes (defScope s_law_clashes) := ⟨rfl, rfl, rfl, by decide +kernel, rfl, by decide +kernel, by decide +kernel⟩
def r_law_clashes : List D → T D := runB (
    (sSeq (sNew 1 (nL aN))
    (sSeq (sApp 1 (eC (.str [99, 111, 114, 101, 32, 116, 104, 105, 110, 103, 115, 44, 32, 110, 97, 109, 101, 115, 32, 116, 104, 105, 110, 103, 115, 44, 32, 111, 119, 110, 32, 116, 104, 105, 110, 103, 115, 44, 32, 98, 101, 115, 116, 32, 110, 111, 98, 111, 115, 115, 32, 116, 104, 105, 110, 103, 115, 44, 32, 102, 105, 114, 115, 116, 32, 110, 111, 98, 111, 115, 115, 32, 116, 104, 105, 110, 103, 115, 44, 32, 103, 114, 111, 119, 105, 110, 103, 32, 110, 111, 98, 111, 115, 115, 32, 116, 104, 105, 110, 103, 115, 44, 32, 110, 111, 98, 111, 115, 115, 32, 110, 111, 116, 108, 97, 115, 116, 32, 116, 104, 105, 110, 103, 115])))
    (sSeq (sApp 1 (eC (.str [110, 111, 98, 111, 115, 115, 32, 115, 111, 108, 101, 32, 116, 104, 105, 110, 103, 115, 44, 32, 110, 111, 98, 111, 115, 115, 32, 115, 119, 97, 112, 108, 101, 115, 115, 32, 116, 104, 105, 110, 103, 115, 44, 32, 110, 111, 98, 111, 115, 115, 32, 116, 104, 105, 110, 103, 115, 32, 116, 114, 117, 116, 104, 102, 117, 108])))
    (sSeq (sNew 2 (nL aN))
    (sSeq (sApp 2 (eC (.str [98, 101, 115, 116, 32, 116, 111, 112, 115, 44, 32, 99, 111, 114, 101, 32, 110, 111, 116, 108, 97, 115, 116, 44, 32, 99, 111, 114, 101, 32, 115, 111, 108, 101, 44, 32, 99, 111, 114, 101, 32, 116, 104, 105, 110, 103, 115, 44, 32, 99, 111, 114, 101, 32, 116, 111, 112, 115, 44, 32, 103, 114, 111, 119, 105, 110, 103, 32, 110, 111, 116, 108, 97, 115, 116, 44, 32, 103, 114, 111, 119, 105, 110, 103, 32, 115, 111, 108, 101, 44, 32, 110, 97, 109, 101, 115, 32, 116, 104, 105, 110, 103, 115, 44, 32, 110, 111, 116, 108, 97, 115, 116, 32, 111, 119, 110, 44, 32, 110, 111, 116, 108, 97, 115, 116, 32, 115, 111, 108, 101])))
    (sSeq (sApp 2 (eC (.str [110, 111, 116, 108, 97, 115, 116, 32, 116, 111, 112, 115, 44, 32, 110, 111, 116, 108, 97, 115, 116, 32, 116, 114, 117, 116, 104, 102, 117, 108, 44, 32, 111, 119, 110, 32, 115, 111, 108, 101, 44, 32, 111, 119, 110, 32, 116, 104, 105, 110, 103, 115, 44, 32, 115, 111, 108, 101, 32, 116, 114, 117, 116, 104, 102, 117, 108, 44, 32, 115, 119, 97, 112, 108, 101, 115, 115, 32, 116, 111, 112, 115, 44, 32, 116, 104, 105, 110, 103, 115, 32, 116, 111, 112, 115, 44, 32, 102, 105, 114, 115, 116, 32, 103, 114, 111, 119, 105, 110, 103, 32, 116, 111, 112, 115, 44, 32, 102, 105, 114, 115, 116, 32, 116, 111, 112, 115, 32, 116, 114, 117, 116, 104, 102, 117, 108])))
    (sSeq (sApp 2 (eC (.str [103, 114, 111, 119, 105, 110, 103, 32, 110, 111, 98, 111, 115, 115, 32, 116, 104, 105, 110, 103, 115, 44, 32, 103, 114, 111, 119, 105, 110, 103, 32, 111, 112, 101, 110, 32, 116, 111, 112, 115, 44, 32, 98, 101, 115, 116, 32, 110, 111, 98, 111, 115, 115, 32, 116, 104, 105, 110, 103, 115, 32, 116, 114, 117, 116, 104, 102, 117, 108, 44, 32, 102, 105, 114, 115, 116, 32, 110, 111, 98, 111, 115, 115, 32, 116, 104, 105, 110, 103, 115, 32, 116, 114, 117, 116, 104, 102, 117, 108, 44, 32, 110, 111, 98, 111, 115, 115, 32, 115, 116, 105, 108, 108, 32, 116, 104, 105, 110, 103, 115, 32, 116, 114, 117, 116, 104, 102, 117, 108])))
    (sSeq (sApp 2 (eC (.str [110, 111, 98, 111, 115, 115, 32, 115, 119, 97, 112, 108, 101, 115, 115, 32, 116, 104, 105, 110, 103, 115, 32, 116, 114, 117, 116, 104, 102, 117, 108, 44, 32, 111, 112, 101, 110, 32, 115, 116, 105, 108, 108, 32, 116, 111, 112, 115, 32, 116, 114, 117, 116, 104, 102, 117, 108])))
    (sFrz 2
    (sFrz 1
    (sRet (eCall r_law_sets 1 (aCF (eIf (b1 (e2 dEqF (eV 0) (eC (.int 2)))) (eV 1) (eV 2)) aN)))))))))))))) 3
theorem ok_law_clashes {a_law_clashes : Addr} {d_law_clashes : FuncData} (G_law_clashes : Gd K mg "_law_clashes" s_law_clashes N_law_clashes a_law_clashes d_law_clashes) (Tx : Txt P w K mg fs aP ad_AT_ROW kv_AT_ROW ad_ACROSS kv_ACROSS ad_WHOLE kv_WHOLE ad_LEAST_CLASHES kv_LEAST_CLASHES ad_LEAST_FORCING kv_LEAST_FORCING) {a_law_sets : Addr} {d_law_sets : FuncData} (G_law_sets : Gd K mg "_law_sets" s_law_sets N_law_sets a_law_sets d_law_sets) (O_law_sets : FnOk P w K mg base CX0 1 a_law_sets d_law_sets N_law_sets (spP K (F1 w fs) r_law_sets 1)) : FnOk P w K mg base CX0 2 a_law_clashes d_law_clashes N_law_clashes (spP K (F1 w fs) r_law_clashes 1) := by
  have sc := sc_law_clashes
  refine zdef (F := F1 w fs) (N := ["people", "small", "great"]) G_law_clashes.fn sc fun cdv A outer s H E hr => ?_
  have hu := hr.units
  have hu2 := units80 hr
  let N : List Str := ["people", "small", "great"]
  exact (zcons (znew (i := 1) sc.nd rfl (by first | exact Or.inl rfl | exact Or.inr rfl) (zl zan))
    (zcons (zapp (i := 1) rfl (by first | exact Or.inl rfl | exact Or.inr (Or.inl rfl) | exact Or.inr (Or.inr rfl)) (zstr (s := [99, 111, 114, 101, 32, 116, 104, 105, 110, 103, 115, 44, 32, 110, 97, 109, 101, 115, 32, 116, 104, 105, 110, 103, 115, 44, 32, 111, 119, 110, 32, 116, 104, 105, 110, 103, 115, 44, 32, 98, 101, 115, 116, 32, 110, 111, 98, 111, 115, 115, 32, 116, 104, 105, 110, 103, 115, 44, 32, 102, 105, 114, 115, 116, 32, 110, 111, 98, 111, 115, 115, 32, 116, 104, 105, 110, 103, 115, 44, 32, 103, 114, 111, 119, 105, 110, 103, 32, 110, 111, 98, 111, 115, 115, 32, 116, 104, 105, 110, 103, 115, 44, 32, 110, 111, 98, 111, 115, 115, 32, 110, 111, 116, 108, 97, 115, 116, 32, 116, 104, 105, 110, 103, 115]) (by rfl)))
    (zcons (zapp (i := 1) rfl (by first | exact Or.inl rfl | exact Or.inr (Or.inl rfl) | exact Or.inr (Or.inr rfl)) (zstr (s := [110, 111, 98, 111, 115, 115, 32, 115, 111, 108, 101, 32, 116, 104, 105, 110, 103, 115, 44, 32, 110, 111, 98, 111, 115, 115, 32, 115, 119, 97, 112, 108, 101, 115, 115, 32, 116, 104, 105, 110, 103, 115, 44, 32, 110, 111, 98, 111, 115, 115, 32, 116, 104, 105, 110, 103, 115, 32, 116, 114, 117, 116, 104, 102, 117, 108]) (by rfl)))
    (zcons (znew (i := 2) sc.nd rfl (by first | exact Or.inl rfl | exact Or.inr rfl) (zl zan))
    (zcons (zapp (i := 2) rfl (by first | exact Or.inl rfl | exact Or.inr (Or.inl rfl) | exact Or.inr (Or.inr rfl)) (zstr (s := [98, 101, 115, 116, 32, 116, 111, 112, 115, 44, 32, 99, 111, 114, 101, 32, 110, 111, 116, 108, 97, 115, 116, 44, 32, 99, 111, 114, 101, 32, 115, 111, 108, 101, 44, 32, 99, 111, 114, 101, 32, 116, 104, 105, 110, 103, 115, 44, 32, 99, 111, 114, 101, 32, 116, 111, 112, 115, 44, 32, 103, 114, 111, 119, 105, 110, 103, 32, 110, 111, 116, 108, 97, 115, 116, 44, 32, 103, 114, 111, 119, 105, 110, 103, 32, 115, 111, 108, 101, 44, 32, 110, 97, 109, 101, 115, 32, 116, 104, 105, 110, 103, 115, 44, 32, 110, 111, 116, 108, 97, 115, 116, 32, 111, 119, 110, 44, 32, 110, 111, 116, 108, 97, 115, 116, 32, 115, 111, 108, 101]) (by rfl)))
    (zcons (zapp (i := 2) rfl (by first | exact Or.inl rfl | exact Or.inr (Or.inl rfl) | exact Or.inr (Or.inr rfl)) (zstr (s := [110, 111, 116, 108, 97, 115, 116, 32, 116, 111, 112, 115, 44, 32, 110, 111, 116, 108, 97, 115, 116, 32, 116, 114, 117, 116, 104, 102, 117, 108, 44, 32, 111, 119, 110, 32, 115, 111, 108, 101, 44, 32, 111, 119, 110, 32, 116, 104, 105, 110, 103, 115, 44, 32, 115, 111, 108, 101, 32, 116, 114, 117, 116, 104, 102, 117, 108, 44, 32, 115, 119, 97, 112, 108, 101, 115, 115, 32, 116, 111, 112, 115, 44, 32, 116, 104, 105, 110, 103, 115, 32, 116, 111, 112, 115, 44, 32, 102, 105, 114, 115, 116, 32, 103, 114, 111, 119, 105, 110, 103, 32, 116, 111, 112, 115, 44, 32, 102, 105, 114, 115, 116, 32, 116, 111, 112, 115, 32, 116, 114, 117, 116, 104, 102, 117, 108]) (by rfl)))
    (zcons (zapp (i := 2) rfl (by first | exact Or.inl rfl | exact Or.inr (Or.inl rfl) | exact Or.inr (Or.inr rfl)) (zstr (s := [103, 114, 111, 119, 105, 110, 103, 32, 110, 111, 98, 111, 115, 115, 32, 116, 104, 105, 110, 103, 115, 44, 32, 103, 114, 111, 119, 105, 110, 103, 32, 111, 112, 101, 110, 32, 116, 111, 112, 115, 44, 32, 98, 101, 115, 116, 32, 110, 111, 98, 111, 115, 115, 32, 116, 104, 105, 110, 103, 115, 32, 116, 114, 117, 116, 104, 102, 117, 108, 44, 32, 102, 105, 114, 115, 116, 32, 110, 111, 98, 111, 115, 115, 32, 116, 104, 105, 110, 103, 115, 32, 116, 114, 117, 116, 104, 102, 117, 108, 44, 32, 110, 111, 98, 111, 115, 115, 32, 115, 116, 105, 108, 108, 32, 116, 104, 105, 110, 103, 115, 32, 116, 114, 117, 116, 104, 102, 117, 108]) (by rfl)))
    (zcons (zapp (i := 2) rfl (by first | exact Or.inl rfl | exact Or.inr (Or.inl rfl) | exact Or.inr (Or.inr rfl)) (zstr (s := [110, 111, 98, 111, 115, 115, 32, 115, 119, 97, 112, 108, 101, 115, 115, 32, 116, 104, 105, 110, 103, 115, 32, 116, 114, 117, 116, 104, 102, 117, 108, 44, 32, 111, 112, 101, 110, 32, 115, 116, 105, 108, 108, 32, 116, 111, 112, 115, 32, 116, 114, 117, 116, 104, 102, 117, 108]) (by rfl)))
    (zfrz 2 (zfrz 1 (zlast (zret ((zcall O_law_sets (hr.mono (by omega)) (by rfl) G_law_sets.mg G_law_sets.kp G_law_sets.b (PAf (aCF_eq _ _) (zac (zif (ztc (oeqF hu) (zv 0) zint) (zv 1) (zv 2)) zan))))))))))))))))
/-! _law_forcing -/
abbrev s_law_forcing : Stmt := top 93
abbrev N_law_forcing : List Str := ["people"]
theorem sc_law_forcing : FnScope ["people", "small", "great"] N_law_forcing (defScope s_law_forcing) := ⟨rfl, rfl, rfl, by decide +kernel, rfl, by decide +kernel, by decide +kernel⟩
def r_law_forcing : List D → T D := runB (
    (sSeq (sNew 1 (nL aN))
    (sSeq (sApp 1 (eC (.str [99, 111, 114, 101, 44, 32, 98, 101, 115, 116, 32, 111, 119, 110, 44, 32, 102, 105, 114, 115, 116, 32, 111, 119, 110, 44, 32, 110, 111, 116, 108, 97, 115, 116, 32, 111, 119, 110, 44, 32, 111, 112, 101, 110, 32, 111, 119, 110, 44, 32, 111, 119, 110, 32, 115, 111, 108, 101, 44, 32, 111, 119, 110, 32, 115, 119, 97, 112, 108, 101, 115, 115])))
    (sSeq (sNew 2 (nL aN))
    (sSeq (sApp 2 (eC (.str [99, 111, 114, 101, 44, 32, 98, 101, 115, 116, 32, 103, 114, 111, 119, 105, 110, 103, 32, 111, 119, 110, 44, 32, 98, 101, 115, 116, 32, 111, 119, 110, 32, 116, 114, 117, 116, 104, 102, 117, 108, 44, 32, 102, 105, 114, 115, 116, 32, 103, 114, 111, 119, 105, 110, 103, 32, 111, 119, 110, 44, 32, 103, 114, 111, 119, 105, 110, 103, 32, 110, 97, 109, 101, 115, 32, 116, 111, 112, 115, 44, 32, 103, 114, 111, 119, 105, 110, 103, 32, 111, 112, 101, 110, 32, 111, 119, 110, 44, 32, 103, 114, 111, 119, 105, 110, 103, 32, 111, 119, 110, 32, 115, 119, 97, 112, 108, 101, 115, 115, 44, 32, 103, 114, 111, 119, 105, 110, 103, 32, 111, 119, 110, 32, 116, 111, 112, 115])))
    (sSeq (sApp 2 (eC (.str [111, 119, 110, 32, 115, 119, 97, 112, 108, 101, 115, 115, 32, 116, 114, 117, 116, 104, 102, 117, 108, 44, 32, 102, 105, 114, 115, 116, 32, 110, 97, 109, 101, 115, 32, 111, 119, 110, 32, 116, 114, 117, 116, 104, 102, 117, 108, 44, 32, 102, 105, 114, 115, 116, 32, 111, 119, 110, 32, 115, 116, 105, 108, 108, 32, 116, 111, 112, 115, 44, 32, 102, 105, 114, 115, 116, 32, 111, 119, 110, 32, 115, 116, 105, 108, 108, 32, 116, 114, 117, 116, 104, 102, 117, 108, 44, 32, 110, 97, 109, 101, 115, 32, 115, 116, 105, 108, 108, 32, 116, 111, 112, 115, 32, 116, 114, 117, 116, 104, 102, 117, 108])))
    (sSeq (sApp 2 (eC (.str [111, 112, 101, 110, 32, 111, 119, 110, 32, 115, 116, 105, 108, 108, 32, 116, 111, 112, 115, 44, 32, 111, 112, 101, 110, 32, 111, 119, 110, 32, 115, 116, 105, 108, 108, 32, 116, 114, 117, 116, 104, 102, 117, 108, 44, 32, 111, 112, 101, 110, 32, 111, 119, 110, 32, 116, 111, 112, 115, 32, 116, 114, 117, 116, 104, 102, 117, 108, 44, 32, 111, 119, 110, 32, 115, 116, 105, 108, 108, 32, 116, 111, 112, 115, 32, 116, 114, 117, 116, 104, 102, 117, 108])))
    (sFrz 2
    (sFrz 1
    (sRet (eCall r_law_sets 1 (aCF (eIf (b1 (e2 dEqF (eV 0) (eC (.int 2)))) (eV 1) (eV 2)) aN)))))))))))) 3
theorem ok_law_forcing {a_law_forcing : Addr} {d_law_forcing : FuncData} (G_law_forcing : Gd K mg "_law_forcing" s_law_forcing N_law_forcing a_law_forcing d_law_forcing) (Tx : Txt P w K mg fs aP ad_AT_ROW kv_AT_ROW ad_ACROSS kv_ACROSS ad_WHOLE kv_WHOLE ad_LEAST_CLASHES kv_LEAST_CLASHES ad_LEAST_FORCING kv_LEAST_FORCING) {a_law_sets : Addr} {d_law_sets : FuncData} (G_law_sets : Gd K mg "_law_sets" s_law_sets N_law_sets a_law_sets d_law_sets) (O_law_sets : FnOk P w K mg base CX0 1 a_law_sets d_law_sets N_law_sets (spP K (F1 w fs) r_law_sets 1)) : FnOk P w K mg base CX0 2 a_law_forcing d_law_forcing N_law_forcing (spP K (F1 w fs) r_law_forcing 1) := by
  have sc := sc_law_forcing
  refine zdef (F := F1 w fs) (N := ["people", "small", "great"]) G_law_forcing.fn sc fun cdv A outer s H E hr => ?_
  have hu := hr.units
  have hu2 := units80 hr
  let N : List Str := ["people", "small", "great"]
  exact (zcons (znew (i := 1) sc.nd rfl (by first | exact Or.inl rfl | exact Or.inr rfl) (zl zan))
    (zcons (zapp (i := 1) rfl (by first | exact Or.inl rfl | exact Or.inr (Or.inl rfl) | exact Or.inr (Or.inr rfl)) (zstr (s := [99, 111, 114, 101, 44, 32, 98, 101, 115, 116, 32, 111, 119, 110, 44, 32, 102, 105, 114, 115, 116, 32, 111, 119, 110, 44, 32, 110, 111, 116, 108, 97, 115, 116, 32, 111, 119, 110, 44, 32, 111, 112, 101, 110, 32, 111, 119, 110, 44, 32, 111, 119, 110, 32, 115, 111, 108, 101, 44, 32, 111, 119, 110, 32, 115, 119, 97, 112, 108, 101, 115, 115]) (by rfl)))
    (zcons (znew (i := 2) sc.nd rfl (by first | exact Or.inl rfl | exact Or.inr rfl) (zl zan))
    (zcons (zapp (i := 2) rfl (by first | exact Or.inl rfl | exact Or.inr (Or.inl rfl) | exact Or.inr (Or.inr rfl)) (zstr (s := [99, 111, 114, 101, 44, 32, 98, 101, 115, 116, 32, 103, 114, 111, 119, 105, 110, 103, 32, 111, 119, 110, 44, 32, 98, 101, 115, 116, 32, 111, 119, 110, 32, 116, 114, 117, 116, 104, 102, 117, 108, 44, 32, 102, 105, 114, 115, 116, 32, 103, 114, 111, 119, 105, 110, 103, 32, 111, 119, 110, 44, 32, 103, 114, 111, 119, 105, 110, 103, 32, 110, 97, 109, 101, 115, 32, 116, 111, 112, 115, 44, 32, 103, 114, 111, 119, 105, 110, 103, 32, 111, 112, 101, 110, 32, 111, 119, 110, 44, 32, 103, 114, 111, 119, 105, 110, 103, 32, 111, 119, 110, 32, 115, 119, 97, 112, 108, 101, 115, 115, 44, 32, 103, 114, 111, 119, 105, 110, 103, 32, 111, 119, 110, 32, 116, 111, 112, 115]) (by rfl)))
    (zcons (zapp (i := 2) rfl (by first | exact Or.inl rfl | exact Or.inr (Or.inl rfl) | exact Or.inr (Or.inr rfl)) (zstr (s := [111, 119, 110, 32, 115, 119, 97, 112, 108, 101, 115, 115, 32, 116, 114, 117, 116, 104, 102, 117, 108, 44, 32, 102, 105, 114, 115, 116, 32, 110, 97, 109, 101, 115, 32, 111, 119, 110, 32, 116, 114, 117, 116, 104, 102, 117, 108, 44, 32, 102, 105, 114, 115, 116, 32, 111, 119, 110, 32, 115, 116, 105, 108, 108, 32, 116, 111, 112, 115, 44, 32, 102, 105, 114, 115, 116, 32, 111, 119, 110, 32, 115, 116, 105, 108, 108, 32, 116, 114, 117, 116, 104, 102, 117, 108, 44, 32, 110, 97, 109, 101, 115, 32, 115, 116, 105, 108, 108, 32, 116, 111, 112, 115, 32, 116, 114, 117, 116, 104, 102, 117, 108]) (by rfl)))
    (zcons (zapp (i := 2) rfl (by first | exact Or.inl rfl | exact Or.inr (Or.inl rfl) | exact Or.inr (Or.inr rfl)) (zstr (s := [111, 112, 101, 110, 32, 111, 119, 110, 32, 115, 116, 105, 108, 108, 32, 116, 111, 112, 115, 44, 32, 111, 112, 101, 110, 32, 111, 119, 110, 32, 115, 116, 105, 108, 108, 32, 116, 114, 117, 116, 104, 102, 117, 108, 44, 32, 111, 112, 101, 110, 32, 111, 119, 110, 32, 116, 111, 112, 115, 32, 116, 114, 117, 116, 104, 102, 117, 108, 44, 32, 111, 119, 110, 32, 115, 116, 105, 108, 108, 32, 116, 111, 112, 115, 32, 116, 114, 117, 116, 104, 102, 117, 108]) (by rfl)))
    (zfrz 2 (zfrz 1 (zlast (zret ((zcall O_law_sets (hr.mono (by omega)) (by rfl) G_law_sets.mg G_law_sets.kp G_law_sets.b (PAf (aCF_eq _ _) (zac (zif (ztc (oeqF hu) (zv 0) zint) (zv 1) (zv 2)) zan))))))))))))))
/-! _law_great -/
abbrev s_law_great : Stmt := top 94
abbrev N_law_great : List Str := ["people"]
theorem sc_law_great : FnScope ["people", "small", "great"] N_law_great (defScope s_law_great) := ⟨rfl, rfl, rfl, by decide +kernel, rfl, by decide +kernel, by decide +kernel⟩
def r_law_great : List D → T D := runB (
    (sSeq (sNew 1 (nL aN))
    (sSeq (sApp 1 (eC (.str [98, 101, 115, 116, 32, 99, 111, 114, 101, 32, 102, 105, 114, 115, 116, 32, 103, 114, 111, 119, 105, 110, 103, 32, 110, 97, 109, 101, 115, 32, 110, 111, 98, 111, 115, 115, 32, 110, 111, 116, 108, 97, 115, 116, 32, 111, 112, 101, 110, 32, 111, 119, 110, 32, 115, 111, 108, 101, 32, 115, 116, 105, 108, 108, 32, 115, 119, 97, 112, 108, 101, 115, 115, 32, 116, 111, 112, 115, 32, 116, 114, 117, 116, 104, 102, 117, 108])))
    (sSeq (sApp 1 (eC (.str [98, 101, 115, 116, 32, 102, 105, 114, 115, 116, 32, 103, 114, 111, 119, 105, 110, 103, 32, 110, 111, 116, 108, 97, 115, 116, 32, 111, 112, 101, 110, 32, 115, 111, 108, 101, 32, 115, 116, 105, 108, 108, 32, 115, 119, 97, 112, 108, 101, 115, 115, 32, 116, 104, 105, 110, 103, 115, 32, 116, 111, 112, 115, 32, 116, 114, 117, 116, 104, 102, 117, 108, 44, 32, 110, 111, 98, 111, 115, 115, 32, 111, 112, 101, 110, 32, 115, 116, 105, 108, 108, 32, 116, 104, 105, 110, 103, 115, 32, 116, 111, 112, 115])))
    (sSeq (sNew 2 (nL aN))
    (sSeq (sApp 2 (eC (.str [98, 101, 115, 116, 32, 99, 111, 114, 101, 32, 102, 105, 114, 115, 116, 32, 103, 114, 111, 119, 105, 110, 103, 32, 110, 97, 109, 101, 115, 32, 110, 111, 98, 111, 115, 115, 32, 111, 112, 101, 110, 32, 111, 119, 110, 32, 115, 116, 105, 108, 108, 32, 115, 119, 97, 112, 108, 101, 115, 115, 32, 116, 114, 117, 116, 104, 102, 117, 108, 44, 32, 98, 101, 115, 116, 32, 102, 105, 114, 115, 116, 32, 103, 114, 111, 119, 105, 110, 103, 32, 111, 112, 101, 110, 32, 115, 116, 105, 108, 108, 32, 115, 119, 97, 112, 108, 101, 115, 115, 32, 116, 104, 105, 110, 103, 115, 32, 116, 114, 117, 116, 104, 102, 117, 108])))
    (sSeq (sApp 2 (eC (.str [98, 101, 115, 116, 32, 102, 105, 114, 115, 116, 32, 110, 97, 109, 101, 115, 32, 110, 111, 98, 111, 115, 115, 32, 110, 111, 116, 108, 97, 115, 116, 32, 111, 112, 101, 110, 32, 115, 116, 105, 108, 108, 32, 115, 119, 97, 112, 108, 101, 115, 115, 44, 32, 98, 101, 115, 116, 32, 102, 105, 114, 115, 116, 32, 110, 97, 109, 101, 115, 32, 110, 111, 98, 111, 115, 115, 32, 111, 112, 101, 110, 32, 115, 111, 108, 101, 32, 115, 116, 105, 108, 108, 32, 115, 119, 97, 112, 108, 101, 115, 115])))
    (sSeq (sApp 2 (eC (.str [98, 101, 115, 116, 32, 102, 105, 114, 115, 116, 32, 110, 111, 98, 111, 115, 115, 32, 110, 111, 116, 108, 97, 115, 116, 32, 111, 112, 101, 110, 32, 115, 116, 105, 108, 108, 32, 115, 119, 97, 112, 108, 101, 115, 115, 32, 116, 104, 105, 110, 103, 115, 44, 32, 98, 101, 115, 116, 32, 102, 105, 114, 115, 116, 32, 110, 111, 98, 111, 115, 115, 32, 111, 112, 101, 110, 32, 115, 111, 108, 101, 32, 115, 116, 105, 108, 108, 32, 115, 119, 97, 112, 108, 101, 115, 115, 32, 116, 104, 105, 110, 103, 115])))
    (sSeq (sApp 2 (eC (.str [102, 105, 114, 115, 116, 32, 110, 97, 109, 101, 115, 32, 110, 111, 98, 111, 115, 115, 32, 111, 112, 101, 110, 32, 111, 119, 110, 32, 115, 116, 105, 108, 108, 32, 116, 111, 112, 115, 44, 32, 102, 105, 114, 115, 116, 32, 110, 97, 109, 101, 115, 32, 110, 111, 98, 111, 115, 115, 32, 111, 112, 101, 110, 32, 115, 111, 108, 101, 32, 115, 116, 105, 108, 108, 32, 116, 111, 112, 115, 44, 32, 103, 114, 111, 119, 105, 110, 103, 32, 110, 97, 109, 101, 115, 32, 110, 111, 98, 111, 115, 115, 32, 111, 119, 110, 32, 115, 116, 105, 108, 108, 32, 116, 111, 112, 115, 32, 116, 114, 117, 116, 104, 102, 117, 108])))
    (sSeq (sApp 2 (eC (.str [110, 97, 109, 101, 115, 32, 110, 111, 98, 111, 115, 115, 32, 111, 112, 101, 110, 32, 111, 119, 110, 32, 116, 111, 112, 115, 32, 116, 114, 117, 116, 104, 102, 117, 108, 44, 32, 110, 111, 98, 111, 115, 115, 32, 111, 112, 101, 110, 32, 116, 104, 105, 110, 103, 115, 32, 116, 114, 117, 116, 104, 102, 117, 108])))
    (sFrz 2
    (sFrz 1
    (sRet (eCall r_law_sets 1 (aCF (eIf (b1 (e2 dEqF (eV 0) (eC (.int 2)))) (eV 1) (eV 2)) aN))))))))))))))) 3
theorem ok_law_great {a_law_great : Addr} {d_law_great : FuncData} (G_law_great : Gd K mg "_law_great" s_law_great N_law_great a_law_great d_law_great) (Tx : Txt P w K mg fs aP ad_AT_ROW kv_AT_ROW ad_ACROSS kv_ACROSS ad_WHOLE kv_WHOLE ad_LEAST_CLASHES kv_LEAST_CLASHES ad_LEAST_FORCING kv_LEAST_FORCING) {a_law_sets : Addr} {d_law_sets : FuncData} (G_law_sets : Gd K mg "_law_sets" s_law_sets N_law_sets a_law_sets d_law_sets) (O_law_sets : FnOk P w K mg base CX0 1 a_law_sets d_law_sets N_law_sets (spP K (F1 w fs) r_law_sets 1)) : FnOk P w K mg base CX0 2 a_law_great d_law_great N_law_great (spP K (F1 w fs) r_law_great 1) := by
  have sc := sc_law_great
  refine zdef (F := F1 w fs) (N := ["people", "small", "great"]) G_law_great.fn sc fun cdv A outer s H E hr => ?_
  have hu := hr.units
  have hu2 := units80 hr
  let N : List Str := ["people", "small", "great"]
  exact (zcons (znew (i := 1) sc.nd rfl (by first | exact Or.inl rfl | exact Or.inr rfl) (zl zan))
    (zcons (zapp (i := 1) rfl (by first | exact Or.inl rfl | exact Or.inr (Or.inl rfl) | exact Or.inr (Or.inr rfl)) (zstr (s := [98, 101, 115, 116, 32, 99, 111, 114, 101, 32, 102, 105, 114, 115, 116, 32, 103, 114, 111, 119, 105, 110, 103, 32, 110, 97, 109, 101, 115, 32, 110, 111, 98, 111, 115, 115, 32, 110, 111, 116, 108, 97, 115, 116, 32, 111, 112, 101, 110, 32, 111, 119, 110, 32, 115, 111, 108, 101, 32, 115, 116, 105, 108, 108, 32, 115, 119, 97, 112, 108, 101, 115, 115, 32, 116, 111, 112, 115, 32, 116, 114, 117, 116, 104, 102, 117, 108]) (by rfl)))
    (zcons (zapp (i := 1) rfl (by first | exact Or.inl rfl | exact Or.inr (Or.inl rfl) | exact Or.inr (Or.inr rfl)) (zstr (s := [98, 101, 115, 116, 32, 102, 105, 114, 115, 116, 32, 103, 114, 111, 119, 105, 110, 103, 32, 110, 111, 116, 108, 97, 115, 116, 32, 111, 112, 101, 110, 32, 115, 111, 108, 101, 32, 115, 116, 105, 108, 108, 32, 115, 119, 97, 112, 108, 101, 115, 115, 32, 116, 104, 105, 110, 103, 115, 32, 116, 111, 112, 115, 32, 116, 114, 117, 116, 104, 102, 117, 108, 44, 32, 110, 111, 98, 111, 115, 115, 32, 111, 112, 101, 110, 32, 115, 116, 105, 108, 108, 32, 116, 104, 105, 110, 103, 115, 32, 116, 111, 112, 115]) (by rfl)))
    (zcons (znew (i := 2) sc.nd rfl (by first | exact Or.inl rfl | exact Or.inr rfl) (zl zan))
    (zcons (zapp (i := 2) rfl (by first | exact Or.inl rfl | exact Or.inr (Or.inl rfl) | exact Or.inr (Or.inr rfl)) (zstr (s := [98, 101, 115, 116, 32, 99, 111, 114, 101, 32, 102, 105, 114, 115, 116, 32, 103, 114, 111, 119, 105, 110, 103, 32, 110, 97, 109, 101, 115, 32, 110, 111, 98, 111, 115, 115, 32, 111, 112, 101, 110, 32, 111, 119, 110, 32, 115, 116, 105, 108, 108, 32, 115, 119, 97, 112, 108, 101, 115, 115, 32, 116, 114, 117, 116, 104, 102, 117, 108, 44, 32, 98, 101, 115, 116, 32, 102, 105, 114, 115, 116, 32, 103, 114, 111, 119, 105, 110, 103, 32, 111, 112, 101, 110, 32, 115, 116, 105, 108, 108, 32, 115, 119, 97, 112, 108, 101, 115, 115, 32, 116, 104, 105, 110, 103, 115, 32, 116, 114, 117, 116, 104, 102, 117, 108]) (by rfl)))
    (zcons (zapp (i := 2) rfl (by first | exact Or.inl rfl | exact Or.inr (Or.inl rfl) | exact Or.inr (Or.inr rfl)) (zstr (s := [98, 101, 115, 116, 32, 102, 105, 114, 115, 116, 32, 110, 97, 109, 101, 115, 32, 110, 111, 98, 111, 115, 115, 32, 110, 111, 116, 108, 97, 115, 116, 32, 111, 112, 101, 110, 32, 115, 116, 105, 108, 108, 32, 115, 119, 97, 112, 108, 101, 115, 115, 44, 32, 98, 101, 115, 116, 32, 102, 105, 114, 115, 116, 32, 110, 97, 109, 101, 115, 32, 110, 111, 98, 111, 115, 115, 32, 111, 112, 101, 110, 32, 115, 111, 108, 101, 32, 115, 116, 105, 108, 108, 32, 115, 119, 97, 112, 108, 101, 115, 115]) (by rfl)))
    (zcons (zapp (i := 2) rfl (by first | exact Or.inl rfl | exact Or.inr (Or.inl rfl) | exact Or.inr (Or.inr rfl)) (zstr (s := [98, 101, 115, 116, 32, 102, 105, 114, 115, 116, 32, 110, 111, 98, 111, 115, 115, 32, 110, 111, 116, 108, 97, 115, 116, 32, 111, 112, 101, 110, 32, 115, 116, 105, 108, 108, 32, 115, 119, 97, 112, 108, 101, 115, 115, 32, 116, 104, 105, 110, 103, 115, 44, 32, 98, 101, 115, 116, 32, 102, 105, 114, 115, 116, 32, 110, 111, 98, 111, 115, 115, 32, 111, 112, 101, 110, 32, 115, 111, 108, 101, 32, 115, 116, 105, 108, 108, 32, 115, 119, 97, 112, 108, 101, 115, 115, 32, 116, 104, 105, 110, 103, 115]) (by rfl)))
    (zcons (zapp (i := 2) rfl (by first | exact Or.inl rfl | exact Or.inr (Or.inl rfl) | exact Or.inr (Or.inr rfl)) (zstr (s := [102, 105, 114, 115, 116, 32, 110, 97, 109, 101, 115, 32, 110, 111, 98, 111, 115, 115, 32, 111, 112, 101, 110, 32, 111, 119, 110, 32, 115, 116, 105, 108, 108, 32, 116, 111, 112, 115, 44, 32, 102, 105, 114, 115, 116, 32, 110, 97, 109, 101, 115, 32, 110, 111, 98, 111, 115, 115, 32, 111, 112, 101, 110, 32, 115, 111, 108, 101, 32, 115, 116, 105, 108, 108, 32, 116, 111, 112, 115, 44, 32, 103, 114, 111, 119, 105, 110, 103, 32, 110, 97, 109, 101, 115, 32, 110, 111, 98, 111, 115, 115, 32, 111, 119, 110, 32, 115, 116, 105, 108, 108, 32, 116, 111, 112, 115, 32, 116, 114, 117, 116, 104, 102, 117, 108]) (by rfl)))
    (zcons (zapp (i := 2) rfl (by first | exact Or.inl rfl | exact Or.inr (Or.inl rfl) | exact Or.inr (Or.inr rfl)) (zstr (s := [110, 97, 109, 101, 115, 32, 110, 111, 98, 111, 115, 115, 32, 111, 112, 101, 110, 32, 111, 119, 110, 32, 116, 111, 112, 115, 32, 116, 114, 117, 116, 104, 102, 117, 108, 44, 32, 110, 111, 98, 111, 115, 115, 32, 111, 112, 101, 110, 32, 116, 104, 105, 110, 103, 115, 32, 116, 114, 117, 116, 104, 102, 117, 108]) (by rfl)))
    (zfrz 2 (zfrz 1 (zlast (zret ((zcall O_law_sets (hr.mono (by omega)) (by rfl) G_law_sets.mg G_law_sets.kp G_law_sets.b (PAf (aCF_eq _ _) (zac (zif (ztc (oeqF hu) (zv 0) zint) (zv 1) (zv 2)) zan)))))))))))))))))
/-! _law_axioms -/
abbrev s_law_axioms : Stmt := top 88
abbrev N_law_axioms : List Str := []
theorem sc_law_axioms : FnScope [] N_law_axioms (defScope s_law_axioms) := ⟨rfl, rfl, rfl, by decide +kernel, rfl, by decide +kernel, by decide +kernel⟩
def r_law_axioms : List D → T D := runB (
    (sRetF (lst (nL (aC (eC (.str [98, 101, 115, 116])) (aC (eC (.str [99, 111, 114, 101])) (aC (eC (.str [102, 105, 114, 115, 116])) (aC (eC (.str [103, 114, 111, 119, 105, 110, 103])) (aC (eC (.str [110, 97, 109, 101, 115])) (aC (eC (.str [110, 111, 98, 111, 115, 115])) (aC (eC (.str [110, 111, 116, 108, 97, 115, 116])) (aC (eC (.str [111, 112, 101, 110])) (aC (eC (.str [111, 119, 110])) (aC (eC (.str [115, 111, 108, 101])) (aC (eC (.str [115, 116, 105, 108, 108])) (aC (eC (.str [115, 119, 97, 112, 108, 101, 115, 115])) (aC (eC (.str [116, 104, 105, 110, 103, 115])) (aC (eC (.str [116, 111, 112, 115])) (aC (eC (.str [116, 114, 117, 116, 104, 102, 117, 108])) aN))))))))))))))))))) 0
theorem ok_law_axioms {a_law_axioms : Addr} {d_law_axioms : FuncData} (G_law_axioms : Gd K mg "_law_axioms" s_law_axioms N_law_axioms a_law_axioms d_law_axioms) (Tx : Txt P w K mg fs aP ad_AT_ROW kv_AT_ROW ad_ACROSS kv_ACROSS ad_WHOLE kv_WHOLE ad_LEAST_CLASHES kv_LEAST_CLASHES ad_LEAST_FORCING kv_LEAST_FORCING) : FnOk P w K mg base CX0 1 a_law_axioms d_law_axioms N_law_axioms (spP K (F1 w fs) r_law_axioms 0) := by
  have sc := sc_law_axioms
  refine zdef (F := F1 w fs) (N := []) G_law_axioms.fn sc fun cdv A outer s H E hr => ?_
  have hu := hr.units
  have hu2 := units80 hr
  let N : List Str := []
  exact (zlast (PSf (sRetF_eq _) (zret (PEnl (zl (zac (zstr (s := [98, 101, 115, 116]) (by rfl)) (zac (zstr (s := [99, 111, 114, 101]) (by rfl)) (zac (zstr (s := [102, 105, 114, 115, 116]) (by rfl)) (zac (zstr (s := [103, 114, 111, 119, 105, 110, 103]) (by rfl)) (zac (zstr (s := [110, 97, 109, 101, 115]) (by rfl)) (zac (zstr (s := [110, 111, 98, 111, 115, 115]) (by rfl)) (zac (zstr (s := [110, 111, 116, 108, 97, 115, 116]) (by rfl)) (zac (zstr (s := [111, 112, 101, 110]) (by rfl)) (zac (zstr (s := [111, 119, 110]) (by rfl)) (zac (zstr (s := [115, 111, 108, 101]) (by rfl)) (zac (zstr (s := [115, 116, 105, 108, 108]) (by rfl)) (zac (zstr (s := [115, 119, 97, 112, 108, 101, 115, 115]) (by rfl)) (zac (zstr (s := [116, 104, 105, 110, 103, 115]) (by rfl)) (zac (zstr (s := [116, 111, 112, 115]) (by rfl)) (zac (zstr (s := [116, 114, 117, 116, 104, 102, 117, 108]) (by rfl)) zan))))))))))))))))))))
/-! _law_wanted -/
abbrev s_law_wanted : Stmt := top 90
abbrev N_law_wanted : List Str := ["row", "many"]
theorem sc_law_wanted : FnScope ["row", "many", "one"] N_law_wanted (defScope s_law_wanted) := ⟨rfl, rfl, rfl, by decide +kernel, rfl, by decide +kernel, by decide +kernel⟩
def r_law_wanted : List D → T D := runR (
    (sRetF (eTupOf (nLc (lSeq (eCall r_law_axioms 0 aN)) (gIX 2) (b1 (e2 dEqF (eCallR 0 taken 1 (aC (eV 1) aN)) (eC (.int 0)))) (eV 2) [2])))) 3
theorem ok_law_wanted {a_law_wanted : Addr} {d_law_wanted : FuncData} (G_law_wanted : Gd K mg "_law_wanted" s_law_wanted N_law_wanted a_law_wanted d_law_wanted) (Tx : Txt P w K mg fs aP ad_AT_ROW kv_AT_ROW ad_ACROSS kv_ACROSS ad_WHOLE kv_WHOLE ad_LEAST_CLASHES kv_LEAST_CLASHES ad_LEAST_FORCING kv_LEAST_FORCING) {a_law_axioms : Addr} {d_law_axioms : FuncData} (G_law_axioms : Gd K mg "_law_axioms" s_law_axioms N_law_axioms a_law_axioms d_law_axioms) (O_law_axioms : FnOk P w K mg base CX0 1 a_law_axioms d_law_axioms N_law_axioms (spP K (F1 w fs) r_law_axioms 0)) {a_law_taken : Addr} {d_law_taken : FuncData} (G_law_taken : Gd K mg "_law_taken" s_law_taken N_law_taken a_law_taken d_law_taken) (O_law_taken : FnOk P w K mg base CX0 1 a_law_taken d_law_taken N_law_taken (spR K (F1 w fs) taken 1)) : FnOk P w K mg base CX0 2 a_law_wanted d_law_wanted N_law_wanted (spR K (F1 w fs) r_law_wanted 1) := by
  have sc := sc_law_wanted
  refine zdefR (F := F1 w fs) (N := ["row", "many", "one"]) G_law_wanted.fn sc (by decide) (by decide) fun cdv A outer s H E hr => ?_
  have hu := hr.units
  have hu2 := units80 hr
  let N : List Str := ["row", "many", "one"]
  exact (zlast (PSf (sRetF_eq _) (zret (ztupOf (by rfl) Tx.nb_tuple (PEns (zlc rfl sc.nd (zis (zcall0 O_law_axioms (hr.mono (by omega)) (by rfl) G_law_axioms.mg G_law_axioms.kp G_law_axioms.b)) (blkOk_by (own := [("one", 2)]) (N := N) (sc := (defScope s_law_wanted)) (by first | decide +kernel | rfl | with_unfolding_all rfl)) (TgCf (gIX_eq _) (zgc_name (by decide))) (fun _ _ _ _ _ => (pg_name (i := 2) sc.nd rfl (by first | exact Or.inl rfl | exact Or.inr rfl))) (fun _ _ _ _ _ => (ztone (ztc (oeqF hu) ((zcallR (i := 0) O_law_taken (hr.mono (by omega)) (by rfl) G_law_taken.mg G_law_taken.kp G_law_taken.b rfl (by first | exact Or.inl rfl | exact Or.inr (Or.inl rfl) | exact Or.inr (Or.inr rfl)) (zac (zv 1) zan))) zint))) (fun _ _ _ _ _ => (zv 2))))))))
/-! _law_alike -/
abbrev s_law_alike : Stmt := top 86
abbrev N_law_alike : List Str := ["found", "due"]
theorem sc_law_alike : FnScope ["found", "due", "k"] N_law_alike (defScope s_law_alike) := ⟨rfl, rfl, rfl, by decide +kernel, rfl, by decide +kernel, by decide +kernel⟩
def r_law_alike : Nat → List D → T D
  | 0 => fun _ => .fail
  | i + 1 => runB (
    (sSeq (sIf (b1 (eIsi2 4 5 (eV 1)))
    (sSeq (sIf (bOr (bNot (b1 (eIsi2 4 5 (eV 0)))) (b1 (e2 dNeF (eIsi 5 (eV 0)) (eIsi 5 (eV 1)))))
    (sRet (eC (.bl false))) sNil)
    (sSeq (sIf (b1 (e2 dNeF (eLen (lSeq (eV 0))) (eLen (lSeq (eV 1)))))
    (sRet (eC (.bl false))) sNil)
    (sRetF (e2 dEqF (lst (nLc (lR1 (aC (eLen (lSeq (eV 1))) aN)) (gIF 2) (bNot (b1 (eCall (r_law_alike i) 2 (aC (eIx (lSeq (eV 0)) (eV 2)) (aC (eIx (lSeq (eV 1)) (eV 2)) aN))))) (eV 2) [2])) (lst (nL aN)))))) sNil)
    (sSeq (sIf (bOr (b1 (isN (eV 1))) (b1 (eIsi 3 (eV 1))))
    (sRetF (eAnd (e2 dEqF (eV 0) (eV 1)) (e2 dEqF (eIsi 3 (eV 0)) (eIsi 3 (eV 1))))) sNil)
    (sRetF (eAnd (eIsi 2 (eV 0)) (eAnd (e2 dEqF (eIsi 1 (eV 0)) (eIsi 1 (eV 1))) (e2 dEqF (eV 0) (eV 1)))))))) 3
theorem ok_law_alike {a_law_alike : Addr} {d_law_alike : FuncData} (G_law_alike : Gd K mg "_law_alike" s_law_alike N_law_alike a_law_alike d_law_alike) (Tx : Txt P w K mg fs aP ad_AT_ROW kv_AT_ROW ad_ACROSS kv_ACROSS ad_WHOLE kv_WHOLE ad_LEAST_CLASHES kv_LEAST_CLASHES ad_LEAST_FORCING kv_LEAST_FORCING) : ∀ i : Nat, i ≤ 8 → FnOk P w K mg base CX0 (0 + i + 1) a_law_alike d_law_alike N_law_alike (spP K (F1 w fs) (r_law_alike i) 2)
  | 0, _ => fnNo G_law_alike.fn sc_law_alike
  | i + 1, hi => by
    have ih := ok_law_alike G_law_alike Tx i (by omega)
    have sc := sc_law_alike
    refine zdef (F := F1 w fs) (N := ["found", "due", "k"]) G_law_alike.fn sc fun cdv A outer s H E hr => ?_
    have hu := hr.units
    have hu2 := units80 hr
    let N : List Str := ["found", "due", "k"]
    exact (zcons (zifs (ztv (zisi2 4 5 rfl rfl (by rfl) Tx.nb_isinstance (zv 1) (zty (by rfl) Tx.nb_tuple boot_tuple) (zty (by rfl) Tx.nb_list boot_list)))
    (zcons (zifs (PW.pt (ztor (ztnot (ztv (zisi2 4 5 rfl rfl (by rfl) Tx.nb_isinstance (zv 0) (zty (by rfl) Tx.nb_tuple boot_tuple) (zty (by rfl) Tx.nb_list boot_list)))) (ztor1 (ztc (oneF hu) (zisi 5 rfl (by rfl) Tx.nb_isinstance (zv 0) (zty (by rfl) Tx.nb_list boot_list)) (zisi 5 rfl (by rfl) Tx.nb_isinstance (zv 1) (zty (by rfl) Tx.nb_list boot_list))))))
    (zlast (zret zbl)) znil)
    (zcons (zifs (ztc (oneF hu) (zlen (by rfl) Tx.nb_len (PEseq (zv 0))) (zlen (by rfl) Tx.nb_len (PEseq (zv 1))))
    (zlast (zret zbl)) znil)
    (zlast (PSf (sRetF_eq _) (zret (zcmp (oeqF hu) (PEnl (zlc rfl sc.nd (zir1 (by rfl) Tx.nb_range (zac (zlen (by rfl) Tx.nb_len (PEseq (zv 1))) zan)) (blkOk_by (own := [("k", 2)]) (N := N) (sc := (defScope s_law_alike)) (by first | decide +kernel | rfl | with_unfolding_all rfl)) (TgCf (gIF_eq _) (zgc_name (by decide))) (fun _ _ _ _ _ => (pg_name (i := 2) sc.nd rfl (by first | exact Or.inl rfl | exact Or.inr rfl))) (fun _ _ _ _ _ => (ztone (ztnot (ztv ((zcall ih (hr.mono (Nat.le_refl _)) (by rfl) G_law_alike.mg G_law_alike.kp G_law_alike.b (zac (zix (PEseq (zv 0)) (zv 2)) (zac (zix (PEseq (zv 1)) (zv 2)) zan)))))))) (fun _ _ _ _ _ => (zv 2)))) (PEnl (zl zan)))))))) znil)
    (zcons (zifs (PW.pt (ztor (ztisN (zv 1)) (ztor1 (ztv (zisi 3 rfl (by rfl) Tx.nb_isinstance (zv 1) (zty (by rfl) Tx.nb_str boot_str))))))
    (zlast (PSf (sRetF_eq _) (zret (zand (zcmp (oeqF hu) (zv 0) (zv 1)) (zone (zcmp (oeqF hu) (zisi 3 rfl (by rfl) Tx.nb_isinstance (zv 0) (zty (by rfl) Tx.nb_str boot_str)) (zisi 3 rfl (by rfl) Tx.nb_isinstance (zv 1) (zty (by rfl) Tx.nb_str boot_str)))))))) znil)
    (zlast (PSf (sRetF_eq _) (zret (zand (zisi 2 rfl (by rfl) Tx.nb_isinstance (zv 0) (zty (by rfl) Tx.nb_int boot_int)) (zand (zcmp (oeqF hu) (zisi 1 rfl (by rfl) Tx.nb_isinstance (zv 0) (zty (by rfl) Tx.nb_bool boot_bool)) (zisi 1 rfl (by rfl) Tx.nb_isinstance (zv 1) (zty (by rfl) Tx.nb_bool boot_bool))) (zone (zcmp (oeqF hu) (zv 0) (zv 1))))))))))
/-! _law_pick -/
abbrev s_law_pick : Stmt := top 85
abbrev N_law_pick : List Str := ["row", "kinds"]
theorem sc_law_pick : FnScope ["row", "kinds"] N_law_pick (defScope s_law_pick) := ⟨rfl, rfl, rfl, by decide +kernel, rfl, by decide +kernel, by decide +kernel⟩
def r_law_pick : List D → T D := runR (
    (sRet (eIx (lSeq (eV 1)) (eCallR 0 taken 1 (aCF (eLen (lSeq (eV 1))) aN))))) 2
theorem ok_law_pick {a_law_pick : Addr} {d_law_pick : FuncData} (G_law_pick : Gd K mg "_law_pick" s_law_pick N_law_pick a_law_pick d_law_pick) (Tx : Txt P w K mg fs aP ad_AT_ROW kv_AT_ROW ad_ACROSS kv_ACROSS ad_WHOLE kv_WHOLE ad_LEAST_CLASHES kv_LEAST_CLASHES ad_LEAST_FORCING kv_LEAST_FORCING) {a_law_taken : Addr} {d_law_taken : FuncData} (G_law_taken : Gd K mg "_law_taken" s_law_taken N_law_taken a_law_taken d_law_taken) (O_law_taken : FnOk P w K mg base CX0 1 a_law_taken d_law_taken N_law_taken (spR K (F1 w fs) taken 1)) : FnOk P w K mg base CX0 2 a_law_pick d_law_pick N_law_pick (spR K (F1 w fs) r_law_pick 1) := by
  have sc := sc_law_pick
  refine zdefR (F := F1 w fs) (N := ["row", "kinds"]) G_law_pick.fn sc (by decide) (by decide) fun cdv A outer s H E hr => ?_
  have hu := hr.units
  have hu2 := units80 hr
  let N : List Str := ["row", "kinds"]
  exact (zlast (zret (zix (PEseq (zv 1)) ((zcallR (i := 0) O_law_taken (hr.mono (by omega)) (by rfl) G_law_taken.mg G_law_taken.kp G_law_taken.b rfl (by first | exact Or.inl rfl | exact Or.inr (Or.inl rfl) | exact Or.inr (Or.inr rfl)) (PAf (aCF_eq _ _) (zac (zlen (by rfl) Tx.nb_len (PEseq (zv 1))) zan)))))))
/-! _law_within -/
abbrev s_law_within : Stmt := top 89
abbrev N_law_within : List Str := ["some", "wanted"]
theorem sc_law_within : FnScope ["some", "wanted", "one", "axiom"] N_law_within (defScope s_law_within) := ⟨rfl, rfl, rfl, by decide +kernel, rfl, by decide +kernel, by decide +kernel⟩
def r_law_within : List D → T D := runB (
    (sRetF (lst (nLc (lSeq (eV 0)) (gIX 2) (b1 (e2 dEqF (lst (nLc (lSeq (eV 2)) (gIX 3) (b1 (eInF true (eV 3) (lSeq (eV 1)))) (eV 3) [3])) (lst (nL aN)))) (eV 2) [2])))) 4
theorem ok_law_within {a_law_within : Addr} {d_law_within : FuncData} (G_law_within : Gd K mg "_law_within" s_law_within N_law_within a_law_within d_law_within) (Tx : Txt P w K mg fs aP ad_AT_ROW kv_AT_ROW ad_ACROSS kv_ACROSS ad_WHOLE kv_WHOLE ad_LEAST_CLASHES kv_LEAST_CLASHES ad_LEAST_FORCING kv_LEAST_FORCING) : FnOk P w K mg base CX0 1 a_law_within d_law_within N_law_within (spP K (F1 w fs) r_law_within 2) := by
  have sc := sc_law_within
  refine zdef (F := F1 w fs) (N := ["some", "wanted", "one", "axiom"]) G_law_within.fn sc fun cdv A outer s H E hr => ?_
  have hu := hr.units
  have hu2 := units80 hr
  let N : List Str := ["some", "wanted", "one", "axiom"]
  exact (zlast (PSf (sRetF_eq _) (zret (PEnl (zlc rfl sc.nd (zis (zv 0)) (blkOk_by (own := [("one", 2)]) (N := N) (sc := (defScope s_law_within)) (by first | decide +kernel | rfl | with_unfolding_all rfl)) (TgCf (gIX_eq _) (zgc_name (by decide))) (fun _ _ _ _ _ => (pg_name (i := 2) sc.nd rfl (by first | exact Or.inl rfl | exact Or.inr rfl))) (fun _ _ _ _ _ => (ztone (ztc (oeqF hu) (PEnl (zlc rfl sc.nd (zis (zv 2)) (blkOk_by (own := [("axiom", 3)]) (N := N) (sc := _) (by first | decide +kernel | rfl | with_unfolding_all rfl)) (TgCf (gIX_eq _) (zgc_name (by decide))) (fun _ _ _ _ _ => (pg_name (i := 3) sc.nd rfl (by first | exact Or.inl rfl | exact Or.inr rfl))) (fun _ _ _ _ _ => (ztone (PTf (eInF_eq _ _ _) (ztni (zv 3) (PEseq (zv 1)))))) (fun _ _ _ _ _ => (zv 3)))) (PEnl (zl zan))))) (fun _ _ _ _ _ => (zv 2)))))))
/-! check_people -/
abbrev s_check_people : Stmt := top 14
abbrev N_check_people : List Str := ["people"]
theorem sc_check_people : FnScope ["people"] N_check_people (defScope s_check_people) := ⟨rfl, rfl, rfl, by decide +kernel, rfl, by decide +kernel, by decide +kernel⟩
def r_check_people : List D → T D := runB (
    (sIf (bOr (b1 (e2 dIsNotTy (e1 dTy (eV 0)) (eC (.ty "int")))) (b1 (eInF true (eV 0) (lSeq (eC (.tup [.int 2, .int 3]))))))
    sFail sNil)) 1
theorem ok_check_people {a_check_people : Addr} {d_check_people : FuncData} (G_check_people : Gd K mg "check_people" s_check_people N_check_people a_check_people d_check_people) (Tx : Txt P w K mg fs aP ad_AT_ROW kv_AT_ROW ad_ACROSS kv_ACROSS ad_WHOLE kv_WHOLE ad_LEAST_CLASHES kv_LEAST_CLASHES ad_LEAST_FORCING kv_LEAST_FORCING) : FnOk P w K mg base CX0 1 a_check_people d_check_people N_check_people (spP K (F1 w fs) r_check_people 1) := by
  have sc := sc_check_people
  refine zdef (F := F1 w fs) (N := ["people"]) G_check_people.fn sc fun cdv A outer s H E hr => ?_
  have hu := hr.units
  have hu2 := units80 hr
  let N : List Str := ["people"]
  exact (zlast (zifs (PW.pt (ztor (ztc oisNotTy (ztype (by rfl) Tx.nb_type (zv 0)) (zty (by rfl) Tx.nb_int boot_int)) (ztor1 (PTf (eInF_eq _ _ _) (ztni (zv 0) (PEseq (zgl (by rfl) Tx.mg_PEOPLE fun m H => Tx.rep_PEOPLE m H)))))))
    (zlast znever) znil))
/-! least_clashes -/
abbrev s_least_clashes : Stmt := top 79
abbrev N_least_clashes : List Str := ["people"]
theorem sc_least_clashes : FnScope ["people"] N_least_clashes (defScope s_least_clashes) := ⟨rfl, rfl, rfl, by decide +kernel, rfl, by decide +kernel, by decide +kernel⟩
def r_least_clashes : List D → T D := runB (
    (sSeq (sDrop (eCall r_check_people 1 (aC (eV 0) aN)))
    (sRet (eIxT tb_LEAST_CLASHES (eV 0))))) 1
theorem ok_least_clashes {a_least_clashes : Addr} {d_least_clashes : FuncData} (G_least_clashes : Gd K mg "least_clashes" s_least_clashes N_least_clashes a_least_clashes d_least_clashes) (Tx : Txt P w K mg fs aP ad_AT_ROW kv_AT_ROW ad_ACROSS kv_ACROSS ad_WHOLE kv_WHOLE ad_LEAST_CLASHES kv_LEAST_CLASHES ad_LEAST_FORCING kv_LEAST_FORCING) {a_check_people : Addr} {d_check_people : FuncData} (G_check_people : Gd K mg "check_people" s_check_people N_check_people a_check_people d_check_people) (O_check_people : FnOk P w K mg base CX0 1 a_check_people d_check_people N_check_people (spP K (F1 w fs) r_check_people 1)) : FnOk P w K mg base CX0 2 a_least_clashes d_least_clashes N_least_clashes (spP K (F1 w fs) r_least_clashes 1) := by
  have sc := sc_least_clashes
  refine zdef (F := F1 w fs) (N := ["people"]) G_least_clashes.fn sc fun cdv A outer s H E hr => ?_
  have hu := hr.units
  have hu2 := units80 hr
  let N : List Str := ["people"]
  exact (zcons (zdrop ((zcall O_check_people (hr.mono (by omega)) (by rfl) G_check_people.mg G_check_people.kp G_check_people.b (zac (zv 0) zan))))
    (zlast (zret (zixT (by rfl) Tx.mg_LEAST_CLASHES Tx.sd_LEAST_CLASHES Tx.tb_LEAST_CLASHES (zv 0)))))
/-! least_forcing -/
abbrev s_least_forcing : Stmt := top 81
abbrev N_least_forcing : List Str := ["people"]
theorem sc_least_forcing : FnScope ["people"] N_least_forcing (defScope s_least_forcing) := ⟨rfl, rfl, rfl, by decide +kernel, rfl, by decide +kernel, by decide +kernel⟩
def r_least_forcing : List D → T D := runB (
    (sSeq (sDrop (eCall r_check_people 1 (aC (eV 0) aN)))
    (sRet (eIxT tb_LEAST_FORCING (eV 0))))) 1
theorem ok_least_forcing {a_least_forcing : Addr} {d_least_forcing : FuncData} (G_least_forcing : Gd K mg "least_forcing" s_least_forcing N_least_forcing a_least_forcing d_least_forcing) (Tx : Txt P w K mg fs aP ad_AT_ROW kv_AT_ROW ad_ACROSS kv_ACROSS ad_WHOLE kv_WHOLE ad_LEAST_CLASHES kv_LEAST_CLASHES ad_LEAST_FORCING kv_LEAST_FORCING) {a_check_people : Addr} {d_check_people : FuncData} (G_check_people : Gd K mg "check_people" s_check_people N_check_people a_check_people d_check_people) (O_check_people : FnOk P w K mg base CX0 1 a_check_people d_check_people N_check_people (spP K (F1 w fs) r_check_people 1)) : FnOk P w K mg base CX0 2 a_least_forcing d_least_forcing N_least_forcing (spP K (F1 w fs) r_least_forcing 1) := by
  have sc := sc_least_forcing
  refine zdef (F := F1 w fs) (N := ["people"]) G_least_forcing.fn sc fun cdv A outer s H E hr => ?_
  have hu := hr.units
  have hu2 := units80 hr
  let N : List Str := ["people"]
  exact (zcons (zdrop ((zcall O_check_people (hr.mono (by omega)) (by rfl) G_check_people.mg G_check_people.kp G_check_people.b (zac (zv 0) zan))))
    (zlast (zret (zixT (by rfl) Tx.mg_LEAST_FORCING Tx.sd_LEAST_FORCING Tx.tb_LEAST_FORCING (zv 0)))))
/-! axioms -/
abbrev s_axioms : Stmt := top 64
abbrev N_axioms : List Str := []
theorem sc_axioms : FnScope [] N_axioms (defScope s_axioms) := ⟨rfl, rfl, rfl, by decide +kernel, rfl, by decide +kernel, by decide +kernel⟩
def r_axioms : List D → T D := runB (
    (sRetF (eTupOf (nSortS (vL (e2 dPlus (e2 dPlus (lst (fun _ _ => .ret (tb_AT_ROW.map (·.1)))) (lst (fun _ _ => .ret (tb_ACROSS.map (·.1))))) (lst (fun _ _ => .ret (tb_WHOLE.map (·.1)))))))))) 0
theorem ok_axioms {a_axioms : Addr} {d_axioms : FuncData} (G_axioms : Gd K mg "axioms" s_axioms N_axioms a_axioms d_axioms) (Tx : Txt P w K mg fs aP ad_AT_ROW kv_AT_ROW ad_ACROSS kv_ACROSS ad_WHOLE kv_WHOLE ad_LEAST_CLASHES kv_LEAST_CLASHES ad_LEAST_FORCING kv_LEAST_FORCING) : FnOk P w K mg base CX0 1 a_axioms d_axioms N_axioms (spP K (F1 w fs) r_axioms 0) := by
  have sc := sc_axioms
  refine zdef (F := F1 w fs) (N := []) G_axioms.fn sc fun cdv A outer s H E hr => ?_
  have hu := hr.units
  have hu2 := units80 hr
  let N : List Str := []
  exact (zlast (PSf (sRetF_eq _) (zret (ztupOf (by rfl) Tx.nb_tuple (PEns (zsortSX (by rfl) Tx.nb_sorted (zop oplus (zop oplus (PEnl (zlistT rfl (by rfl) Tx.nb_list (by rfl) Tx.mg_AT_ROW Tx.sd_AT_ROW Tx.tb_AT_ROW (by decide))) (PEnl (zlistT rfl (by rfl) Tx.nb_list (by rfl) Tx.mg_ACROSS Tx.sd_ACROSS Tx.tb_ACROSS (by decide)))) (PEnl (zlistT rfl (by rfl) Tx.nb_list (by rfl) Tx.mg_WHOLE Tx.sd_WHOLE Tx.tb_WHOLE (by decide))))))))))
/-! without_one -/
abbrev s_without_one : Stmt := top 70
abbrev N_without_one : List Str := ["wanted", "axiom"]
theorem sc_without_one : FnScope ["wanted", "axiom", "other"] N_without_one (defScope s_without_one) := ⟨rfl, rfl, rfl, by decide +kernel, rfl, by decide +kernel, by decide +kernel⟩
def r_without_one : List D → T D := runB (
    (sRetF (eTupOf (nLc (lSeq (eV 0)) (gIX 2) (b1 (e2 dNeF (eV 2) (eV 1))) (eV 2) [2])))) 3
theorem ok_without_one {a_without_one : Addr} {d_without_one : FuncData} (G_without_one : Gd K mg "without_one" s_without_one N_without_one a_without_one d_without_one) (Tx : Txt P w K mg fs aP ad_AT_ROW kv_AT_ROW ad_ACROSS kv_ACROSS ad_WHOLE kv_WHOLE ad_LEAST_CLASHES kv_LEAST_CLASHES ad_LEAST_FORCING kv_LEAST_FORCING) : FnOk P w K mg base CX0 1 a_without_one d_without_one N_without_one (spP K (F1 w fs) r_without_one 2) := by
  have sc := sc_without_one
  refine zdef (F := F1 w fs) (N := ["wanted", "axiom", "other"]) G_without_one.fn sc fun cdv A outer s H E hr => ?_
  have hu := hr.units
  have hu2 := units80 hr
  let N : List Str := ["wanted", "axiom", "other"]
  exact (zlast (PSf (sRetF_eq _) (zret (ztupOf (by rfl) Tx.nb_tuple (PEns (zlc rfl sc.nd (zis (zv 0)) (blkOk_by (own := [("other", 2)]) (N := N) (sc := (defScope s_without_one)) (by first | decide +kernel | rfl | with_unfolding_all rfl)) (TgCf (gIX_eq _) (zgc_name (by decide))) (fun _ _ _ _ _ => (pg_name (i := 2) sc.nd rfl (by first | exact Or.inl rfl | exact Or.inr rfl))) (fun _ _ _ _ _ => (ztone (ztc (oneF hu) (zv 2) (zv 1)))) (fun _ _ _ _ _ => (zv 2))))))))
/-! lie_in -/
abbrev s_lie_in : Stmt := top 68
abbrev N_lie_in : List Str := ["part", "whole"]
theorem sc_lie_in : FnScope ["part", "whole", "axiom"] N_lie_in (defScope s_lie_in) := ⟨rfl, rfl, rfl, by decide +kernel, rfl, by decide +kernel, by decide +kernel⟩
def r_lie_in : List D → T D := runB (
    (sRetF (eAll (nLc (lSeq (eV 0)) (gIX 2) bYes (eInF false (eV 2) (lSeq (eV 1))) [2])))) 3
theorem ok_lie_in {a_lie_in : Addr} {d_lie_in : FuncData} (G_lie_in : Gd K mg "lie_in" s_lie_in N_lie_in a_lie_in d_lie_in) (Tx : Txt P w K mg fs aP ad_AT_ROW kv_AT_ROW ad_ACROSS kv_ACROSS ad_WHOLE kv_WHOLE ad_LEAST_CLASHES kv_LEAST_CLASHES ad_LEAST_FORCING kv_LEAST_FORCING) : FnOk P w K mg base CX0 1 a_lie_in d_lie_in N_lie_in (spP K (F1 w fs) r_lie_in 2) := by
  have sc := sc_lie_in
  refine zdef (F := F1 w fs) (N := ["part", "whole", "axiom"]) G_lie_in.fn sc fun cdv A outer s H E hr => ?_
  have hu := hr.units
  have hu2 := units80 hr
  let N : List Str := ["part", "whole", "axiom"]
  exact (zlast (PSf (sRetF_eq _) (zret (zall rfl (by rfl) Tx.nb_all (zlc rfl sc.nd (zis (zv 0)) (blkOk_by (own := [("axiom", 2)]) (N := N) (sc := (defScope s_lie_in)) (by first | decide +kernel | rfl | with_unfolding_all rfl)) (TgCf (gIX_eq _) (zgc_name (by decide))) (fun _ _ _ _ _ => (pg_name (i := 2) sc.nd rfl (by first | exact Or.inl rfl | exact Or.inr rfl))) (fun _ _ _ _ _ => ztyes) (fun _ _ _ _ _ => (PEf (eInF_eq _ _ _) (zin (zv 2) (PEseq (zv 1))))))))))
/-! without_clash -/
abbrev s_without_clash : Stmt := top 78
abbrev N_without_clash : List Str := ["greatest", "clash"]
theorem sc_without_clash : FnScope ["greatest", "clash", "clear", "wanted", "cut", "axiom", "parts", "part", "other"] N_without_clash (defScope s_without_clash) := ⟨rfl, rfl, rfl, by decide +kernel, rfl, by decide +kernel, by decide +kernel⟩
def r_without_clash : List D → T D := runB (
    (sSeq (sSetV 2 (lst (nLc (lSeq (eV 0)) (gIX 3) (bNot (b1 (eCall r_lie_in 2 (aC (eV 1) (aC (eV 3) aN))))) (eV 3) [3])))
    (sSeq (sSetV 4 (lst (nLc2 (lSeq (eV 0)) (gIX 3) (b1 (eCall r_lie_in 2 (aC (eV 1) (aC (eV 3) aN)))) (lSeq (eV 1)) (gIX 5) bYes (eCall r_without_one 2 (aC (eV 3) (aC (eV 5) aN))) [3, 5] [5])))
    (sSeq (sSetV 6 (lst (nSortSetT (e2 dPlus (eV 2) (eV 4)))))
    (sRetF (lst (nLc (lSeq (eV 6)) (gIX 7) (bNot (b1 (eAny (nLc (lSeq (eV 6)) (gIX 8) bYes (eAnd (e2 dNeF (eV 7) (eV 8)) (eCall r_lie_in 2 (aC (eV 7) (aC (eV 8) aN)))) [8])))) (eV 7) [7]))))))) 9
theorem ok_without_clash {a_without_clash : Addr} {d_without_clash : FuncData} (G_without_clash : Gd K mg "without_clash" s_without_clash N_without_clash a_without_clash d_without_clash) (Tx : Txt P w K mg fs aP ad_AT_ROW kv_AT_ROW ad_ACROSS kv_ACROSS ad_WHOLE kv_WHOLE ad_LEAST_CLASHES kv_LEAST_CLASHES ad_LEAST_FORCING kv_LEAST_FORCING) {a_without_one : Addr} {d_without_one : FuncData} (G_without_one : Gd K mg "without_one" s_without_one N_without_one a_without_one d_without_one) (O_without_one : FnOk P w K mg base CX0 1 a_without_one d_without_one N_without_one (spP K (F1 w fs) r_without_one 2)) {a_lie_in : Addr} {d_lie_in : FuncData} (G_lie_in : Gd K mg "lie_in" s_lie_in N_lie_in a_lie_in d_lie_in) (O_lie_in : FnOk P w K mg base CX0 1 a_lie_in d_lie_in N_lie_in (spP K (F1 w fs) r_lie_in 2)) : FnOk P w K mg base CX0 2 a_without_clash d_without_clash N_without_clash (spP K (F1 w fs) r_without_clash 2) := by
  have sc := sc_without_clash
  refine zdef (F := F1 w fs) (N := ["greatest", "clash", "clear", "wanted", "cut", "axiom", "parts", "part", "other"]) G_without_clash.fn sc fun cdv A outer s H E hr => ?_
  have hu := hr.units
  have hu2 := units80 hr
  let N : List Str := ["greatest", "clash", "clear", "wanted", "cut", "axiom", "parts", "part", "other"]
  exact (zcons (PSf (sSetV_eq _ _) (zsetLc (i := 2) rfl sc.nd rfl rfl (zis (zv 0)) (blkOk_by (own := [("wanted", 3)]) (N := N) (sc := (defScope s_without_clash)) (by first | decide +kernel | rfl | with_unfolding_all rfl)) (TgCf (gIX_eq _) (zgc_name (by decide))) (fun _ _ _ _ _ => (pg_name (i := 3) sc.nd rfl (by first | exact Or.inl rfl | exact Or.inr rfl))) (fun _ _ _ _ _ => (ztone (ztnot (ztv ((zcall O_lie_in (hr.mono (by omega)) (by rfl) G_lie_in.mg G_lie_in.kp G_lie_in.b (zac (zv 1) (zac (zv 3) zan)))))))) (fun _ _ _ _ _ => (zv 3)) (sw_true rfl rfl rfl (by decide +kernel))))
    (zcons (PSf (sSetV_eq _ _) (zsetLc2 (i := 4) (vs1 := [5]) rfl sc.nd rfl rfl (zis (zv 0)) (blkOk_by (own := [("wanted", 3), ("axiom", 5)]) (N := N) (sc := (defScope s_without_clash)) (by first | decide +kernel | rfl | with_unfolding_all rfl)) (by decide) (TgCf (gIX_eq _) (zgc_name (by decide))) (TgCf (gIX_eq _) (zgc_name (by decide))) (fun _ _ _ _ _ => (pg_name (i := 3) sc.nd rfl (by first | exact Or.inl rfl | exact Or.inr rfl))) (fun _ _ _ _ _ => (ztone (ztv ((zcall O_lie_in (hr.mono (by omega)) (by rfl) G_lie_in.mg G_lie_in.kp G_lie_in.b (zac (zv 1) (zac (zv 3) zan))))))) (fun _ _ _ _ _ => (zis (zv 1))) (fun _ _ _ _ _ => (pg_name (i := 5) sc.nd rfl (by first | exact Or.inl rfl | exact Or.inr rfl))) (fun _ _ _ _ _ => ztyes) (fun _ _ _ _ _ => ((zcall O_without_one (hr.mono (by omega)) (by rfl) G_without_one.mg G_without_one.kp G_without_one.b (zac (zv 3) (zac (zv 5) zan))))) (sw_true rfl rfl rfl (by decide +kernel))))
    (zcons (PSf (sSetV_eq _ _) (zset (i := 6) sc.nd rfl (by first | exact Or.inl rfl | exact Or.inr rfl) (PEnl (zsortSetT rfl hu (by rfl) Tx.nb_sorted (by rfl) Tx.nb_set (zop oplus (zv 2) (zv 4))))))
    (zlast (PSf (sRetF_eq _) (zret (PEnl (zlc rfl sc.nd (zis (zv 6)) (blkOk_by (own := [("part", 7)]) (N := N) (sc := (defScope s_without_clash)) (by first | decide +kernel | rfl | with_unfolding_all rfl)) (TgCf (gIX_eq _) (zgc_name (by decide))) (fun _ _ _ _ _ => (pg_name (i := 7) sc.nd rfl (by first | exact Or.inl rfl | exact Or.inr rfl))) (fun _ _ _ _ _ => (ztone (ztnot (ztv (zany rfl (by rfl) Tx.nb_any (zlc rfl sc.nd (zis (zv 6)) (blkOk_by (own := [("other", 8)]) (N := N) (sc := _) (by first | decide +kernel | rfl | with_unfolding_all rfl)) (TgCf (gIX_eq _) (zgc_name (by decide))) (fun _ _ _ _ _ => (pg_name (i := 8) sc.nd rfl (by first | exact Or.inl rfl | exact Or.inr rfl))) (fun _ _ _ _ _ => ztyes) (fun _ _ _ _ _ => (zand (zcmp (oneF hu) (zv 7) (zv 8)) (zone ((zcall O_lie_in (hr.mono (by omega)) (by rfl) G_lie_in.mg G_lie_in.kp G_lie_in.b (zac (zv 7) (zac (zv 8) zan))))))))))))) (fun _ _ _ _ _ => (zv 7))))))))))
/-! greatest_sets -/
abbrev s_greatest_sets : Stmt := top 77
abbrev N_greatest_sets : List Str := ["people"]
theorem sc_greatest_sets : FnScope ["people", "greatest", "clash"] N_greatest_sets (defScope s_greatest_sets) := ⟨rfl, rfl, rfl, by decide +kernel, rfl, by decide +kernel, by decide +kernel⟩
def r_greatest_sets : List D → T D := runB (
    (sSeq (sSetV 1 (lst (nL (aC (eCall r_axioms 0 aN) aN))))
    (sSeq (sFor (lSeq (eCall r_least_clashes 1 (aC (eV 0) aN))) (gIX 2)
    (sSet 1 (eCall r_without_clash 2 (aC (eV 1) (aC (eV 2) aN)))))
    (sRetF (eTupOf (nSortTx (eV 1))))))) 3
theorem ok_greatest_sets {a_greatest_sets : Addr} {d_greatest_sets : FuncData} (G_greatest_sets : Gd K mg "greatest_sets" s_greatest_sets N_greatest_sets a_greatest_sets d_greatest_sets) (Tx : Txt P w K mg fs aP ad_AT_ROW kv_AT_ROW ad_ACROSS kv_ACROSS ad_WHOLE kv_WHOLE ad_LEAST_CLASHES kv_LEAST_CLASHES ad_LEAST_FORCING kv_LEAST_FORCING) {a_least_clashes : Addr} {d_least_clashes : FuncData} (G_least_clashes : Gd K mg "least_clashes" s_least_clashes N_least_clashes a_least_clashes d_least_clashes) (O_least_clashes : FnOk P w K mg base CX0 2 a_least_clashes d_least_clashes N_least_clashes (spP K (F1 w fs) r_least_clashes 1)) {a_axioms : Addr} {d_axioms : FuncData} (G_axioms : Gd K mg "axioms" s_axioms N_axioms a_axioms d_axioms) (O_axioms : FnOk P w K mg base CX0 1 a_axioms d_axioms N_axioms (spP K (F1 w fs) r_axioms 0)) {a_without_clash : Addr} {d_without_clash : FuncData} (G_without_clash : Gd K mg "without_clash" s_without_clash N_without_clash a_without_clash d_without_clash) (O_without_clash : FnOk P w K mg base CX0 2 a_without_clash d_without_clash N_without_clash (spP K (F1 w fs) r_without_clash 2)) : FnOk P w K mg base CX0 3 a_greatest_sets d_greatest_sets N_greatest_sets (spP K (F1 w fs) r_greatest_sets 1) := by
  have sc := sc_greatest_sets
  refine zdef (F := F1 w fs) (N := ["people", "greatest", "clash"]) G_greatest_sets.fn sc fun cdv A outer s H E hr => ?_
  have hu := hr.units
  have hu2 := units80 hr
  let N : List Str := ["people", "greatest", "clash"]
  exact (zcons (PSf (sSetV_eq _ _) (zset (i := 1) sc.nd rfl (by first | exact Or.inl rfl | exact Or.inr rfl) (PEnl (zl (zac (zcall0 O_axioms (hr.mono (by omega)) (by rfl) G_axioms.mg G_axioms.kp G_axioms.b) zan)))))
    (zcons (zfor PassesOwn.never rfl (zis ((zcall O_least_clashes (hr.mono (by omega)) (by rfl) G_least_clashes.mg G_least_clashes.kp G_least_clashes.b (zac (zv 0) zan)))) (pg_name (i := 2) sc.nd rfl (by first | exact Or.inl rfl | exact Or.inr rfl)) (TgRf (gIX_eq _) (zg_name 2))
    (zlast (zset (i := 1) sc.nd rfl (by first | exact Or.inl rfl | exact Or.inr rfl) ((zcall O_without_clash (hr.mono (by omega)) (by rfl) G_without_clash.mg G_without_clash.kp G_without_clash.b (zac (zv 1) (zac (zv 2) zan)))))))
    (zlast (PSf (sRetF_eq _) (zret (ztupOf (by rfl) Tx.nb_tuple (PEns (zsortTx (by rfl) Tx.nb_sorted (zv 1)))))))))
/-! _law_is -/
abbrev s_law_is : Stmt := top 87
abbrev N_law_is : List Str := ["found", "due"]
theorem sc_law_is : FnScope ["found", "due"] N_law_is (defScope s_law_is) := ⟨rfl, rfl, rfl, by decide +kernel, rfl, by decide +kernel, by decide +kernel⟩
def r_law_is : List D → T D := runB (
    (sRetF (eAnd (eIsi 1 (eV 0)) (e2 dEqF (eV 0) (eV 1))))) 2
theorem ok_law_is {a_law_is : Addr} {d_law_is : FuncData} (G_law_is : Gd K mg "_law_is" s_law_is N_law_is a_law_is d_law_is) (Tx : Txt P w K mg fs aP ad_AT_ROW kv_AT_ROW ad_ACROSS kv_ACROSS ad_WHOLE kv_WHOLE ad_LEAST_CLASHES kv_LEAST_CLASHES ad_LEAST_FORCING kv_LEAST_FORCING) : FnOk P w K mg base CX0 1 a_law_is d_law_is N_law_is (spP K (F1 w fs) r_law_is 2) := by
  have sc := sc_law_is
  refine zdef (F := F1 w fs) (N := ["found", "due"]) G_law_is.fn sc fun cdv A outer s H E hr => ?_
  have hu := hr.units
  have hu2 := units80 hr
  let N : List Str := ["found", "due"]
  exact (zlast (PSf (sRetF_eq _) (zret (zand (zisi 1 rfl (by rfl) Tx.nb_isinstance (zv 0) (zty (by rfl) Tx.nb_bool boot_bool)) (zone (zcmp (oeqF hu) (zv 0) (zv 1)))))))
/-! is_wanted -/
abbrev s_is_wanted : Stmt := top 66
abbrev N_is_wanted : List Str := ["value"]
theorem sc_is_wanted : FnScope ["value", "axiom"] N_is_wanted (defScope s_is_wanted) := ⟨rfl, rfl, rfl, by decide +kernel, rfl, by decide +kernel, by decide +kernel⟩
def r_is_wanted : List D → T D := runB (
    (sSeq (sIf (bOr (bNot (b1 (eIsi 4 (eV 0)))) (bNot (b1 (eAll (nLc (lSeq (eV 0)) (gIX 1) bYes (eInF false (eV 1) (lSeq (eCall r_axioms 0 aN))) [1])))))
    (sRet (eC (.bl false))) sNil)
    (sRetF (e2 dEqF (lst (lSeq (eV 0))) (lst (nSortSet (eV 0))))))) 2
theorem ok_is_wanted {a_is_wanted : Addr} {d_is_wanted : FuncData} (G_is_wanted : Gd K mg "is_wanted" s_is_wanted N_is_wanted a_is_wanted d_is_wanted) (Tx : Txt P w K mg fs aP ad_AT_ROW kv_AT_ROW ad_ACROSS kv_ACROSS ad_WHOLE kv_WHOLE ad_LEAST_CLASHES kv_LEAST_CLASHES ad_LEAST_FORCING kv_LEAST_FORCING) {a_axioms : Addr} {d_axioms : FuncData} (G_axioms : Gd K mg "axioms" s_axioms N_axioms a_axioms d_axioms) (O_axioms : FnOk P w K mg base CX0 1 a_axioms d_axioms N_axioms (spP K (F1 w fs) r_axioms 0)) : FnOk P w K mg base CX0 2 a_is_wanted d_is_wanted N_is_wanted (spP K (F1 w fs) r_is_wanted 1) := by
  have sc := sc_is_wanted
  refine zdef (F := F1 w fs) (N := ["value", "axiom"]) G_is_wanted.fn sc fun cdv A outer s H E hr => ?_
  have hu := hr.units
  have hu2 := units80 hr
  let N : List Str := ["value", "axiom"]
  exact (zcons (zifs (PW.pt (ztor (ztnot (ztv (zisi 4 rfl (by rfl) Tx.nb_isinstance (zv 0) (zty (by rfl) Tx.nb_tuple boot_tuple)))) (ztor1 (ztnot (ztv (zall rfl (by rfl) Tx.nb_all (zlc rfl sc.nd (zis (zv 0)) (blkOk_by (own := [("axiom", 1)]) (N := N) (sc := (defScope s_is_wanted)) (by first | decide +kernel | rfl | with_unfolding_all rfl)) (TgCf (gIX_eq _) (zgc_name (by decide))) (fun _ _ _ _ _ => (pg_name (i := 1) sc.nd rfl (by first | exact Or.inl rfl | exact Or.inr rfl))) (fun _ _ _ _ _ => ztyes) (fun _ _ _ _ _ => (PEf (eInF_eq _ _ _) (zin (zv 1) (PEseq (zcall0 O_axioms (hr.mono (by omega)) (by rfl) G_axioms.mg G_axioms.kp G_axioms.b))))))))))))
    (zlast (zret zbl)) znil)
    (zlast (PSf (sRetF_eq _) (zret (zcmp (oeqF hu) (PEnl (zlistOf (by rfl) Tx.nb_list (PEseq (zv 0)))) (PEnl (zsortSet rfl (by rfl) Tx.nb_sorted (by rfl) Tx.nb_set (zv 0))))))))
/-! check_wanted -/
abbrev s_check_wanted : Stmt := top 67
abbrev N_check_wanted : List Str := ["people", "wanted"]
theorem sc_check_wanted : FnScope ["people", "wanted"] N_check_wanted (defScope s_check_wanted) := ⟨rfl, rfl, rfl, by decide +kernel, rfl, by decide +kernel, by decide +kernel⟩
def r_check_wanted : List D → T D := runB (
    (sSeq (sDrop (eCall r_check_people 1 (aC (eV 0) aN)))
    (sIf (bNot (b1 (eCall r_is_wanted 1 (aC (eV 1) aN))))
    sFail sNil))) 2
theorem ok_check_wanted {a_check_wanted : Addr} {d_check_wanted : FuncData} (G_check_wanted : Gd K mg "check_wanted" s_check_wanted N_check_wanted a_check_wanted d_check_wanted) (Tx : Txt P w K mg fs aP ad_AT_ROW kv_AT_ROW ad_ACROSS kv_ACROSS ad_WHOLE kv_WHOLE ad_LEAST_CLASHES kv_LEAST_CLASHES ad_LEAST_FORCING kv_LEAST_FORCING) {a_check_people : Addr} {d_check_people : FuncData} (G_check_people : Gd K mg "check_people" s_check_people N_check_people a_check_people d_check_people) (O_check_people : FnOk P w K mg base CX0 1 a_check_people d_check_people N_check_people (spP K (F1 w fs) r_check_people 1)) {a_is_wanted : Addr} {d_is_wanted : FuncData} (G_is_wanted : Gd K mg "is_wanted" s_is_wanted N_is_wanted a_is_wanted d_is_wanted) (O_is_wanted : FnOk P w K mg base CX0 2 a_is_wanted d_is_wanted N_is_wanted (spP K (F1 w fs) r_is_wanted 1)) : FnOk P w K mg base CX0 3 a_check_wanted d_check_wanted N_check_wanted (spP K (F1 w fs) r_check_wanted 2) := by
  have sc := sc_check_wanted
  refine zdef (F := F1 w fs) (N := ["people", "wanted"]) G_check_wanted.fn sc fun cdv A outer s H E hr => ?_
  have hu := hr.units
  have hu2 := units80 hr
  let N : List Str := ["people", "wanted"]
  exact (zcons (zdrop ((zcall O_check_people (hr.mono (by omega)) (by rfl) G_check_people.mg G_check_people.kp G_check_people.b (zac (zv 0) zan))))
    (zlast (zifs (ztnot (ztv ((zcall O_is_wanted (hr.mono (by omega)) (by rfl) G_is_wanted.mg G_is_wanted.kp G_is_wanted.b (zac (zv 1) zan)))))
    (zlast znever) znil)))
/-! clashes -/
abbrev s_clashes : Stmt := top 80
abbrev N_clashes : List Str := ["people", "wanted"]
theorem sc_clashes : FnScope ["people", "wanted", "clash"] N_clashes (defScope s_clashes) := ⟨rfl, rfl, rfl, by decide +kernel, rfl, by decide +kernel, by decide +kernel⟩
def r_clashes : List D → T D := runB (
    (sSeq (sDrop (eCall r_check_wanted 2 (aC (eV 0) (aC (eV 1) aN))))
    (sRetF (eTupOf (nLc (lSeq (eCall r_least_clashes 1 (aC (eV 0) aN))) (gIX 2) (b1 (eCall r_lie_in 2 (aC (eV 2) (aC (eV 1) aN)))) (eV 2) [2]))))) 3
theorem ok_clashes {a_clashes : Addr} {d_clashes : FuncData} (G_clashes : Gd K mg "clashes" s_clashes N_clashes a_clashes d_clashes) (Tx : Txt P w K mg fs aP ad_AT_ROW kv_AT_ROW ad_ACROSS kv_ACROSS ad_WHOLE kv_WHOLE ad_LEAST_CLASHES kv_LEAST_CLASHES ad_LEAST_FORCING kv_LEAST_FORCING) {a_check_wanted : Addr} {d_check_wanted : FuncData} (G_check_wanted : Gd K mg "check_wanted" s_check_wanted N_check_wanted a_check_wanted d_check_wanted) (O_check_wanted : FnOk P w K mg base CX0 3 a_check_wanted d_check_wanted N_check_wanted (spP K (F1 w fs) r_check_wanted 2)) {a_least_clashes : Addr} {d_least_clashes : FuncData} (G_least_clashes : Gd K mg "least_clashes" s_least_clashes N_least_clashes a_least_clashes d_least_clashes) (O_least_clashes : FnOk P w K mg base CX0 2 a_least_clashes d_least_clashes N_least_clashes (spP K (F1 w fs) r_least_clashes 1)) {a_lie_in : Addr} {d_lie_in : FuncData} (G_lie_in : Gd K mg "lie_in" s_lie_in N_lie_in a_lie_in d_lie_in) (O_lie_in : FnOk P w K mg base CX0 1 a_lie_in d_lie_in N_lie_in (spP K (F1 w fs) r_lie_in 2)) : FnOk P w K mg base CX0 4 a_clashes d_clashes N_clashes (spP K (F1 w fs) r_clashes 2) := by
  have sc := sc_clashes
  refine zdef (F := F1 w fs) (N := ["people", "wanted", "clash"]) G_clashes.fn sc fun cdv A outer s H E hr => ?_
  have hu := hr.units
  have hu2 := units80 hr
  let N : List Str := ["people", "wanted", "clash"]
  exact (zcons (zdrop ((zcall O_check_wanted (hr.mono (by omega)) (by rfl) G_check_wanted.mg G_check_wanted.kp G_check_wanted.b (zac (zv 0) (zac (zv 1) zan)))))
    (zlast (PSf (sRetF_eq _) (zret (ztupOf (by rfl) Tx.nb_tuple (PEns (zlc rfl sc.nd (zis ((zcall O_least_clashes (hr.mono (by omega)) (by rfl) G_least_clashes.mg G_least_clashes.kp G_least_clashes.b (zac (zv 0) zan)))) (blkOk_by (own := [("clash", 2)]) (N := N) (sc := (defScope s_clashes)) (by first | decide +kernel | rfl | with_unfolding_all rfl)) (TgCf (gIX_eq _) (zgc_name (by decide))) (fun _ _ _ _ _ => (pg_name (i := 2) sc.nd rfl (by first | exact Or.inl rfl | exact Or.inr rfl))) (fun _ _ _ _ _ => (ztone (ztv ((zcall O_lie_in (hr.mono (by omega)) (by rfl) G_lie_in.mg G_lie_in.kp G_lie_in.b (zac (zv 2) (zac (zv 1) zan))))))) (fun _ _ _ _ _ => (zv 2)))))))))
/-! can_hold -/
abbrev s_can_hold : Stmt := top 74
abbrev N_can_hold : List Str := ["people", "wanted"]
theorem sc_can_hold : FnScope ["people", "wanted"] N_can_hold (defScope s_can_hold) := ⟨rfl, rfl, rfl, by decide +kernel, rfl, by decide +kernel, by decide +kernel⟩
def r_can_hold : List D → T D := runB (
    (sRetF (e2 dEqF (eCall r_clashes 2 (aC (eV 0) (aC (eV 1) aN))) (eT aN)))) 2
theorem ok_can_hold {a_can_hold : Addr} {d_can_hold : FuncData} (G_can_hold : Gd K mg "can_hold" s_can_hold N_can_hold a_can_hold d_can_hold) (Tx : Txt P w K mg fs aP ad_AT_ROW kv_AT_ROW ad_ACROSS kv_ACROSS ad_WHOLE kv_WHOLE ad_LEAST_CLASHES kv_LEAST_CLASHES ad_LEAST_FORCING kv_LEAST_FORCING) {a_clashes : Addr} {d_clashes : FuncData} (G_clashes : Gd K mg "clashes" s_clashes N_clashes a_clashes d_clashes) (O_clashes : FnOk P w K mg base CX0 4 a_clashes d_clashes N_clashes (spP K (F1 w fs) r_clashes 2)) : FnOk P w K mg base CX0 5 a_can_hold d_can_hold N_can_hold (spP K (F1 w fs) r_can_hold 2) := by
  have sc := sc_can_hold
  refine zdef (F := F1 w fs) (N := ["people", "wanted"]) G_can_hold.fn sc fun cdv A outer s H E hr => ?_
  have hu := hr.units
  have hu2 := units80 hr
  let N : List Str := ["people", "wanted"]
  exact (zlast (PSf (sRetF_eq _) (zret (zcmp (oeqF hu) ((zcall O_clashes (hr.mono (by omega)) (by rfl) G_clashes.mg G_clashes.kp G_clashes.b (zac (zv 0) (zac (zv 1) zan)))) (zt zan)))))
/-! with_one -/
abbrev s_with_one : Stmt := top 69
abbrev N_with_one : List Str := ["wanted", "axiom"]
theorem sc_with_one : FnScope ["wanted", "axiom"] N_with_one (defScope s_with_one) := ⟨rfl, rfl, rfl, by decide +kernel, rfl, by decide +kernel, by decide +kernel⟩
def r_with_one : List D → T D := runB (
    (sRetF (eTupOf (nSortS (vT (e2 dPlus (eV 0) (eT (aC (eV 1) aN)))))))) 2
theorem ok_with_one {a_with_one : Addr} {d_with_one : FuncData} (G_with_one : Gd K mg "with_one" s_with_one N_with_one a_with_one d_with_one) (Tx : Txt P w K mg fs aP ad_AT_ROW kv_AT_ROW ad_ACROSS kv_ACROSS ad_WHOLE kv_WHOLE ad_LEAST_CLASHES kv_LEAST_CLASHES ad_LEAST_FORCING kv_LEAST_FORCING) : FnOk P w K mg base CX0 1 a_with_one d_with_one N_with_one (spP K (F1 w fs) r_with_one 2) := by
  have sc := sc_with_one
  refine zdef (F := F1 w fs) (N := ["wanted", "axiom"]) G_with_one.fn sc fun cdv A outer s H E hr => ?_
  have hu := hr.units
  have hu2 := units80 hr
  let N : List Str := ["wanted", "axiom"]
  exact (zlast (PSf (sRetF_eq _) (zret (ztupOf (by rfl) Tx.nb_tuple (PEns (zsortSt (by rfl) Tx.nb_sorted (zop oplus (zv 0) (zt (zac (zv 1) zan)))))))))
/-! can_add -/
abbrev s_can_add : Stmt := top 76
abbrev N_can_add : List Str := ["people", "wanted"]
theorem sc_can_add : FnScope ["people", "wanted", "further", "axiom"] N_can_add (defScope s_can_add) := ⟨rfl, rfl, rfl, by decide +kernel, rfl, by decide +kernel, by decide +kernel⟩
def r_can_add : List D → T D := runB (
    (sSeq (sDrop (eCall r_check_wanted 2 (aC (eV 0) (aC (eV 1) aN))))
    (sSeq (sSetV 2 (lst (nLc (lSeq (eCall r_axioms 0 aN)) (gIX 3) (b1 (eInF true (eV 3) (lSeq (eV 1)))) (eV 3) [3])))
    (sRetF (eTupOf (nLc (lSeq (eV 2)) (gIX 3) (b1 (eCall r_can_hold 2 (aC (eV 0) (aC (eCall r_with_one 2 (aC (eV 1) (aC (eV 3) aN))) aN)))) (eV 3) [3])))))) 4
theorem ok_can_add {a_can_add : Addr} {d_can_add : FuncData} (G_can_add : Gd K mg "can_add" s_can_add N_can_add a_can_add d_can_add) (Tx : Txt P w K mg fs aP ad_AT_ROW kv_AT_ROW ad_ACROSS kv_ACROSS ad_WHOLE kv_WHOLE ad_LEAST_CLASHES kv_LEAST_CLASHES ad_LEAST_FORCING kv_LEAST_FORCING) {a_check_wanted : Addr} {d_check_wanted : FuncData} (G_check_wanted : Gd K mg "check_wanted" s_check_wanted N_check_wanted a_check_wanted d_check_wanted) (O_check_wanted : FnOk P w K mg base CX0 3 a_check_wanted d_check_wanted N_check_wanted (spP K (F1 w fs) r_check_wanted 2)) {a_axioms : Addr} {d_axioms : FuncData} (G_axioms : Gd K mg "axioms" s_axioms N_axioms a_axioms d_axioms) (O_axioms : FnOk P w K mg base CX0 1 a_axioms d_axioms N_axioms (spP K (F1 w fs) r_axioms 0)) {a_can_hold : Addr} {d_can_hold : FuncData} (G_can_hold : Gd K mg "can_hold" s_can_hold N_can_hold a_can_hold d_can_hold) (O_can_hold : FnOk P w K mg base CX0 5 a_can_hold d_can_hold N_can_hold (spP K (F1 w fs) r_can_hold 2)) {a_with_one : Addr} {d_with_one : FuncData} (G_with_one : Gd K mg "with_one" s_with_one N_with_one a_with_one d_with_one) (O_with_one : FnOk P w K mg base CX0 1 a_with_one d_with_one N_with_one (spP K (F1 w fs) r_with_one 2)) : FnOk P w K mg base CX0 6 a_can_add d_can_add N_can_add (spP K (F1 w fs) r_can_add 2) := by
  have sc := sc_can_add
  refine zdef (F := F1 w fs) (N := ["people", "wanted", "further", "axiom"]) G_can_add.fn sc fun cdv A outer s H E hr => ?_
  have hu := hr.units
  have hu2 := units80 hr
  let N : List Str := ["people", "wanted", "further", "axiom"]
  exact (zcons (zdrop ((zcall O_check_wanted (hr.mono (by omega)) (by rfl) G_check_wanted.mg G_check_wanted.kp G_check_wanted.b (zac (zv 0) (zac (zv 1) zan)))))
    (zcons (PSf (sSetV_eq _ _) (zsetLc (i := 2) rfl sc.nd rfl rfl (zis (zcall0 O_axioms (hr.mono (by omega)) (by rfl) G_axioms.mg G_axioms.kp G_axioms.b)) (blkOk_by (own := [("axiom", 3)]) (N := N) (sc := (defScope s_can_add)) (by first | decide +kernel | rfl | with_unfolding_all rfl)) (TgCf (gIX_eq _) (zgc_name (by decide))) (fun _ _ _ _ _ => (pg_name (i := 3) sc.nd rfl (by first | exact Or.inl rfl | exact Or.inr rfl))) (fun _ _ _ _ _ => (ztone (PTf (eInF_eq _ _ _) (ztni (zv 3) (PEseq (zv 1)))))) (fun _ _ _ _ _ => (zv 3)) (sw_true rfl rfl rfl (by decide +kernel))))
    (zlast (PSf (sRetF_eq _) (zret (ztupOf (by rfl) Tx.nb_tuple (PEns (zlc rfl sc.nd (zis (zv 2)) (blkOk_by (own := [("axiom", 3)]) (N := N) (sc := (defScope s_can_add)) (by first | decide +kernel | rfl | with_unfolding_all rfl)) (TgCf (gIX_eq _) (zgc_name (by decide))) (fun _ _ _ _ _ => (pg_name (i := 3) sc.nd rfl (by first | exact Or.inl rfl | exact Or.inr rfl))) (fun _ _ _ _ _ => (ztone (ztv ((zcall O_can_hold (hr.mono (by omega)) (by rfl) G_can_hold.mg G_can_hold.kp G_can_hold.b (zac (zv 0) (zac ((zcall O_with_one (hr.mono (by omega)) (by rfl) G_with_one.mg G_with_one.kp G_with_one.b (zac (zv 1) (zac (zv 3) zan)))) zan))))))) (fun _ _ _ _ _ => (zv 3))))))))))
/-! forcings -/
abbrev s_forcings : Stmt := top 82
abbrev N_forcings : List Str := ["people", "wanted"]
theorem sc_forcings : FnScope ["people", "wanted", "forcing"] N_forcings (defScope s_forcings) := ⟨rfl, rfl, rfl, by decide +kernel, rfl, by decide +kernel, by decide +kernel⟩
def r_forcings : List D → T D := runB (
    (sSeq (sDrop (eCall r_check_wanted 2 (aC (eV 0) (aC (eV 1) aN))))
    (sRetF (eTupOf (nLc (lSeq (eCall r_least_forcing 1 (aC (eV 0) aN))) (gIX 2) (b1 (eCall r_lie_in 2 (aC (eV 2) (aC (eV 1) aN)))) (eV 2) [2]))))) 3
theorem ok_forcings {a_forcings : Addr} {d_forcings : FuncData} (G_forcings : Gd K mg "forcings" s_forcings N_forcings a_forcings d_forcings) (Tx : Txt P w K mg fs aP ad_AT_ROW kv_AT_ROW ad_ACROSS kv_ACROSS ad_WHOLE kv_WHOLE ad_LEAST_CLASHES kv_LEAST_CLASHES ad_LEAST_FORCING kv_LEAST_FORCING) {a_check_wanted : Addr} {d_check_wanted : FuncData} (G_check_wanted : Gd K mg "check_wanted" s_check_wanted N_check_wanted a_check_wanted d_check_wanted) (O_check_wanted : FnOk P w K mg base CX0 3 a_check_wanted d_check_wanted N_check_wanted (spP K (F1 w fs) r_check_wanted 2)) {a_least_forcing : Addr} {d_least_forcing : FuncData} (G_least_forcing : Gd K mg "least_forcing" s_least_forcing N_least_forcing a_least_forcing d_least_forcing) (O_least_forcing : FnOk P w K mg base CX0 2 a_least_forcing d_least_forcing N_least_forcing (spP K (F1 w fs) r_least_forcing 1)) {a_lie_in : Addr} {d_lie_in : FuncData} (G_lie_in : Gd K mg "lie_in" s_lie_in N_lie_in a_lie_in d_lie_in) (O_lie_in : FnOk P w K mg base CX0 1 a_lie_in d_lie_in N_lie_in (spP K (F1 w fs) r_lie_in 2)) : FnOk P w K mg base CX0 4 a_forcings d_forcings N_forcings (spP K (F1 w fs) r_forcings 2) := by
  have sc := sc_forcings
  refine zdef (F := F1 w fs) (N := ["people", "wanted", "forcing"]) G_forcings.fn sc fun cdv A outer s H E hr => ?_
  have hu := hr.units
  have hu2 := units80 hr
  let N : List Str := ["people", "wanted", "forcing"]
  exact (zcons (zdrop ((zcall O_check_wanted (hr.mono (by omega)) (by rfl) G_check_wanted.mg G_check_wanted.kp G_check_wanted.b (zac (zv 0) (zac (zv 1) zan)))))
    (zlast (PSf (sRetF_eq _) (zret (ztupOf (by rfl) Tx.nb_tuple (PEns (zlc rfl sc.nd (zis ((zcall O_least_forcing (hr.mono (by omega)) (by rfl) G_least_forcing.mg G_least_forcing.kp G_least_forcing.b (zac (zv 0) zan)))) (blkOk_by (own := [("forcing", 2)]) (N := N) (sc := (defScope s_forcings)) (by first | decide +kernel | rfl | with_unfolding_all rfl)) (TgCf (gIX_eq _) (zgc_name (by decide))) (fun _ _ _ _ _ => (pg_name (i := 2) sc.nd rfl (by first | exact Or.inl rfl | exact Or.inr rfl))) (fun _ _ _ _ _ => (ztone (ztv ((zcall O_lie_in (hr.mono (by omega)) (by rfl) G_lie_in.mg G_lie_in.kp G_lie_in.b (zac (zv 2) (zac (zv 1) zan))))))) (fun _ _ _ _ _ => (zv 2)))))))))
/-! forces -/
abbrev s_forces : Stmt := top 75
abbrev N_forces : List Str := ["people", "wanted"]
theorem sc_forces : FnScope ["people", "wanted"] N_forces (defScope s_forces) := ⟨rfl, rfl, rfl, by decide +kernel, rfl, by decide +kernel, by decide +kernel⟩
def r_forces : List D → T D := runB (
    (sRetF (eAnd (eCall r_can_hold 2 (aC (eV 0) (aC (eV 1) aN))) (e2 dNeF (eCall r_forcings 2 (aC (eV 0) (aC (eV 1) aN))) (eT aN))))) 2
theorem ok_forces {a_forces : Addr} {d_forces : FuncData} (G_forces : Gd K mg "forces" s_forces N_forces a_forces d_forces) (Tx : Txt P w K mg fs aP ad_AT_ROW kv_AT_ROW ad_ACROSS kv_ACROSS ad_WHOLE kv_WHOLE ad_LEAST_CLASHES kv_LEAST_CLASHES ad_LEAST_FORCING kv_LEAST_FORCING) {a_can_hold : Addr} {d_can_hold : FuncData} (G_can_hold : Gd K mg "can_hold" s_can_hold N_can_hold a_can_hold d_can_hold) (O_can_hold : FnOk P w K mg base CX0 5 a_can_hold d_can_hold N_can_hold (spP K (F1 w fs) r_can_hold 2)) {a_forcings : Addr} {d_forcings : FuncData} (G_forcings : Gd K mg "forcings" s_forcings N_forcings a_forcings d_forcings) (O_forcings : FnOk P w K mg base CX0 4 a_forcings d_forcings N_forcings (spP K (F1 w fs) r_forcings 2)) : FnOk P w K mg base CX0 6 a_forces d_forces N_forces (spP K (F1 w fs) r_forces 2) := by
  have sc := sc_forces
  refine zdef (F := F1 w fs) (N := ["people", "wanted"]) G_forces.fn sc fun cdv A outer s H E hr => ?_
  have hu := hr.units
  have hu2 := units80 hr
  let N : List Str := ["people", "wanted"]
  exact (zlast (PSf (sRetF_eq _) (zret (zand ((zcall O_can_hold (hr.mono (by omega)) (by rfl) G_can_hold.mg G_can_hold.kp G_can_hold.b (zac (zv 0) (zac (zv 1) zan)))) (zone (zcmp (oneF hu) ((zcall O_forcings (hr.mono (by omega)) (by rfl) G_forcings.mg G_forcings.kp G_forcings.b (zac (zv 0) (zac (zv 1) zan)))) (zt zan)))))))
/-! law -/
abbrev s_law : Stmt := top 95
abbrev N_law : List Str := ["script"]
theorem sc_law : FnScope ["script", "row", "many", "torn", "single", "great", "turn", "wanted", "bad", "one", "some", "rest", "axiom"] N_law (defScope s_law) := ⟨rfl, rfl, rfl, by decide +kernel, rfl, by decide +kernel, by decide +kernel⟩
def g_law_0 : Sm :=
    (sSetV 2 (e2 dPlus (eC (.int 2)) (eCallR 1 taken 1 (aC (eC (.int 2)) aN))))
def g_law_r : Sm :=
    (sSeq (sPar3 3 4 5 (eCall r_law_clashes 1 (aC (eV 2) aN)) (eCall r_law_forcing 1 (aC (eV 2) aN)) (eCall r_law_great 1 (aC (eV 2) aN)))
    (sSeq (sIf (bOr (bNot (b1 (eCall (r_law_alike 8) 2 (aC (eCall r_least_clashes 1 (aC (eV 2) aN)) (aCF (eTupOf (lSeq (eV 3))) aN))))) (bOr (bNot (b1 (eCall (r_law_alike 8) 2 (aC (eCall r_least_forcing 1 (aC (eV 2) aN)) (aCF (eTupOf (lSeq (eV 4))) aN))))) (bNot (b1 (eCall (r_law_alike 8) 2 (aC (eCall r_greatest_sets 1 (aC (eV 2) aN)) (aCF (eTupOf (lSeq (eV 5))) aN)))))))
    (sRet (eC (.bl false))) sNil)
    (sSeq (sFor (lR1 (aC (eC (.int 3)) aN)) (gIF 6)
    (sSeq (sSet 7 (eCallR 1 r_law_wanted 1 (aC (eCallR 1 r_law_pick 1 (aCF (lst (nL (aC (eC (.int 2)) (aC (eC (.int 3)) (aC (eC (.int 4)) (aC (eC (.int 5)) aN)))))) aN)) aN)))
    (sSeq (sParX 8 9 (eCall r_law_within 2 (aC (eV 3) (aC (eV 7) aN))) (eCall r_law_within 2 (aC (eV 4) (aC (eV 7) aN))))
    (sSeq (sIf (bOr (bNot (b1 (eCall (r_law_alike 8) 2 (aC (eCall r_clashes 2 (aC (eV 2) (aC (eV 7) aN))) (aCF (eTupOf (lSeq (eV 8))) aN))))) (bNot (b1 (eCall (r_law_alike 8) 2 (aC (eCall r_forcings 2 (aC (eV 2) (aC (eV 7) aN))) (aCF (eTupOf (lSeq (eV 9))) aN))))))
    (sRet (eC (.bl false))) sNil)
    (sSeq (sIf (bOr (bNot (b1 (eCall r_law_is 2 (aC (eCall r_can_hold 2 (aC (eV 2) (aC (eV 7) aN))) (aCF (e2 dEqF (eV 8) (lst (nL aN))) aN))))) (bNot (b1 (eCall r_law_is 2 (aC (eCall r_forces 2 (aC (eV 2) (aC (eV 7) aN))) (aCF (eAnd (e2 dEqF (eV 8) (lst (nL aN))) (e2 dNeF (eV 9) (lst (nL aN)))) aN))))))
    (sRet (eC (.bl false))) sNil)
    (sSeq (sIf (b1 (e2 dNeF (e2 dEqF (eV 8) (lst (nL aN))) (e2 dNeF (lst (nLc (lSeq (eV 5)) (gIX 10) (b1 (e2 dNeF (eCall r_law_within 2 (aCF (lst (nL (aC (eV 7) aN))) (aC (eV 10) aN))) (lst (nL aN)))) (eV 10) [10])) (lst (nL aN)))))
    (sRet (eC (.bl false))) sNil)
    (sSeq (sSetV 11 (lst (nLc (lSeq (eCall r_law_axioms 0 aN)) (gIX 12) (bAnd (b1 (eInF true (eV 12) (lSeq (eV 7)))) (b1 (e2 dEqF (eCall r_law_within 2 (aC (eV 3) (aCF (e2 dPlus (eV 7) (eT (aC (eV 12) aN))) aN))) (lst (nL aN))))) (eV 12) [12])))
    (sIf (bNot (b1 (eCall (r_law_alike 8) 2 (aC (eCall r_can_add 2 (aC (eV 2) (aC (eV 7) aN))) (aCF (eTupOf (lSeq (eV 11))) aN)))))
    (sRet (eC (.bl false))) sNil))))))))
    (sRet (eC (.bl true))))))
def g_law : Sm := sSeq g_law_0 (g_law_r)
theorem ok_law {a_law : Addr} {d_law : FuncData} (G_law : Gd K mg "law" s_law N_law a_law d_law) (Tx : Txt P w K mg fs aP ad_AT_ROW kv_AT_ROW ad_ACROSS kv_ACROSS ad_WHOLE kv_WHOLE ad_LEAST_CLASHES kv_LEAST_CLASHES ad_LEAST_FORCING kv_LEAST_FORCING) {a_law_taken : Addr} {d_law_taken : FuncData} (G_law_taken : Gd K mg "_law_taken" s_law_taken N_law_taken a_law_taken d_law_taken) (O_law_taken : FnOk P w K mg base CX0 1 a_law_taken d_law_taken N_law_taken (spR K (F1 w fs) taken 1)) {a_law_clashes : Addr} {d_law_clashes : FuncData} (G_law_clashes : Gd K mg "_law_clashes" s_law_clashes N_law_clashes a_law_clashes d_law_clashes) (O_law_clashes : FnOk P w K mg base CX0 2 a_law_clashes d_law_clashes N_law_clashes (spP K (F1 w fs) r_law_clashes 1)) {a_law_forcing : Addr} {d_law_forcing : FuncData} (G_law_forcing : Gd K mg "_law_forcing" s_law_forcing N_law_forcing a_law_forcing d_law_forcing) (O_law_forcing : FnOk P w K mg base CX0 2 a_law_forcing d_law_forcing N_law_forcing (spP K (F1 w fs) r_law_forcing 1)) {a_law_great : Addr} {d_law_great : FuncData} (G_law_great : Gd K mg "_law_great" s_law_great N_law_great a_law_great d_law_great) (O_law_great : FnOk P w K mg base CX0 2 a_law_great d_law_great N_law_great (spP K (F1 w fs) r_law_great 1)) {a_law_wanted : Addr} {d_law_wanted : FuncData} (G_law_wanted : Gd K mg "_law_wanted" s_law_wanted N_law_wanted a_law_wanted d_law_wanted) (O_law_wanted : FnOk P w K mg base CX0 2 a_law_wanted d_law_wanted N_law_wanted (spR K (F1 w fs) r_law_wanted 1)) {a_law_alike : Addr} {d_law_alike : FuncData} (G_law_alike : Gd K mg "_law_alike" s_law_alike N_law_alike a_law_alike d_law_alike) (O_law_alike : FnOk P w K mg base CX0 9 a_law_alike d_law_alike N_law_alike (spP K (F1 w fs) (r_law_alike 8) 2)) {a_law_pick : Addr} {d_law_pick : FuncData} (G_law_pick : Gd K mg "_law_pick" s_law_pick N_law_pick a_law_pick d_law_pick) (O_law_pick : FnOk P w K mg base CX0 2 a_law_pick d_law_pick N_law_pick (spR K (F1 w fs) r_law_pick 1)) {a_law_within : Addr} {d_law_within : FuncData} (G_law_within : Gd K mg "_law_within" s_law_within N_law_within a_law_within d_law_within) (O_law_within : FnOk P w K mg base CX0 1 a_law_within d_law_within N_law_within (spP K (F1 w fs) r_law_within 2)) {a_least_clashes : Addr} {d_least_clashes : FuncData} (G_least_clashes : Gd K mg "least_clashes" s_least_clashes N_least_clashes a_least_clashes d_least_clashes) (O_least_clashes : FnOk P w K mg base CX0 2 a_least_clashes d_least_clashes N_least_clashes (spP K (F1 w fs) r_least_clashes 1)) {a_least_forcing : Addr} {d_least_forcing : FuncData} (G_least_forcing : Gd K mg "least_forcing" s_least_forcing N_least_forcing a_least_forcing d_least_forcing) (O_least_forcing : FnOk P w K mg base CX0 2 a_least_forcing d_least_forcing N_least_forcing (spP K (F1 w fs) r_least_forcing 1)) {a_greatest_sets : Addr} {d_greatest_sets : FuncData} (G_greatest_sets : Gd K mg "greatest_sets" s_greatest_sets N_greatest_sets a_greatest_sets d_greatest_sets) (O_greatest_sets : FnOk P w K mg base CX0 3 a_greatest_sets d_greatest_sets N_greatest_sets (spP K (F1 w fs) r_greatest_sets 1)) {a_law_is : Addr} {d_law_is : FuncData} (G_law_is : Gd K mg "_law_is" s_law_is N_law_is a_law_is d_law_is) (O_law_is : FnOk P w K mg base CX0 1 a_law_is d_law_is N_law_is (spP K (F1 w fs) r_law_is 2)) {a_law_axioms : Addr} {d_law_axioms : FuncData} (G_law_axioms : Gd K mg "_law_axioms" s_law_axioms N_law_axioms a_law_axioms d_law_axioms) (O_law_axioms : FnOk P w K mg base CX0 1 a_law_axioms d_law_axioms N_law_axioms (spP K (F1 w fs) r_law_axioms 0)) {a_can_add : Addr} {d_can_add : FuncData} (G_can_add : Gd K mg "can_add" s_can_add N_can_add a_can_add d_can_add) (O_can_add : FnOk P w K mg base CX0 6 a_can_add d_can_add N_can_add (spP K (F1 w fs) r_can_add 2)) {a_clashes : Addr} {d_clashes : FuncData} (G_clashes : Gd K mg "clashes" s_clashes N_clashes a_clashes d_clashes) (O_clashes : FnOk P w K mg base CX0 4 a_clashes d_clashes N_clashes (spP K (F1 w fs) r_clashes 2)) {a_forcings : Addr} {d_forcings : FuncData} (G_forcings : Gd K mg "forcings" s_forcings N_forcings a_forcings d_forcings) (O_forcings : FnOk P w K mg base CX0 4 a_forcings d_forcings N_forcings (spP K (F1 w fs) r_forcings 2)) {a_can_hold : Addr} {d_can_hold : FuncData} (G_can_hold : Gd K mg "can_hold" s_can_hold N_can_hold a_can_hold d_can_hold) (O_can_hold : FnOk P w K mg base CX0 5 a_can_hold d_can_hold N_can_hold (spP K (F1 w fs) r_can_hold 2)) {a_forces : Addr} {d_forces : FuncData} (G_forces : Gd K mg "forces" s_forces N_forces a_forces d_forces) (O_forces : FnOk P w K mg base CX0 6 a_forces d_forces N_forces (spP K (F1 w fs) r_forces 2)) (hall : (lawT g_law 13).all fun d => d = .bl true) : FnOk P w K mg base CX0 10 a_law d_law N_law (spLaw K) := by
  have sc := sc_law
  refine law_ok (F := F1 w fs) (z := 15723) (g := g_law) (N := ["script", "row", "many", "torn", "single", "great", "turn", "wanted", "bad", "one", "some", "rest", "axiom"]) G_law.fn sc (by decide) hall fun cdv A outer s H E hr => ?_
  have hu := hr.units
  have hu2 := units80 hr
  let N : List Str := ["script", "row", "many", "torn", "single", "great", "turn", "wanted", "bad", "one", "some", "rest", "axiom"]
  exact pss_cons (ps_set (i := 1) sc.nd rfl (by first | exact Or.inl rfl | exact Or.inr rfl) (pe_lst (pa_cons (pv 0) (pa_cons pe_int (pa_cons pe_int (pa_cons pe_int pa_nil))))))
    (zcons (PSf (sSetV_eq _ _) (zset (i := 2) sc.nd rfl (by first | exact Or.inl rfl | exact Or.inr rfl) (zop oplus zint ((zcallR (i := 1) O_law_taken (hr.mono (by omega)) (by rfl) G_law_taken.mg G_law_taken.kp G_law_taken.b rfl (by first | exact Or.inl rfl | exact Or.inr (Or.inl rfl) | exact Or.inr (Or.inr rfl)) (zac zint zan))))))
    (zcons (zpar3c (i := 3) (j := 4) (l := 5) rfl (pg_name (i := 3) sc.nd rfl (by first | exact Or.inl rfl | exact Or.inr rfl)) (pg_name (i := 4) sc.nd rfl (by first | exact Or.inl rfl | exact Or.inr rfl)) (pg_name (i := 5) sc.nd rfl (by first | exact Or.inl rfl | exact Or.inr rfl)) ((zcall O_law_clashes (hr.mono (by omega)) (by rfl) G_law_clashes.mg G_law_clashes.kp G_law_clashes.b (zac (zv 2) zan))) ((zcall O_law_forcing (hr.mono (by omega)) (by rfl) G_law_forcing.mg G_law_forcing.kp G_law_forcing.b (zac (zv 2) zan))) ((zcall O_law_great (hr.mono (by omega)) (by rfl) G_law_great.mg G_law_great.kp G_law_great.b (zac (zv 2) zan))))
    (zcons (zifs (PW.pt (ztor (ztnot (ztv ((zcall O_law_alike (hr.mono (by omega)) (by rfl) G_law_alike.mg G_law_alike.kp G_law_alike.b (zac ((zcall O_least_clashes (hr.mono (by omega)) (by rfl) G_least_clashes.mg G_least_clashes.kp G_least_clashes.b (zac (zv 2) zan))) (PAf (aCF_eq _ _) (zac (ztupOf (by rfl) Tx.nb_tuple (PEseq (zv 3))) zan))))))) (ztor (ztnot (ztv ((zcall O_law_alike (hr.mono (by omega)) (by rfl) G_law_alike.mg G_law_alike.kp G_law_alike.b (zac ((zcall O_least_forcing (hr.mono (by omega)) (by rfl) G_least_forcing.mg G_least_forcing.kp G_least_forcing.b (zac (zv 2) zan))) (PAf (aCF_eq _ _) (zac (ztupOf (by rfl) Tx.nb_tuple (PEseq (zv 4))) zan))))))) (ztor1 (ztnot (ztv ((zcall O_law_alike (hr.mono (by omega)) (by rfl) G_law_alike.mg G_law_alike.kp G_law_alike.b (zac ((zcall O_greatest_sets (hr.mono (by omega)) (by rfl) G_greatest_sets.mg G_greatest_sets.kp G_greatest_sets.b (zac (zv 2) zan))) (PAf (aCF_eq _ _) (zac (ztupOf (by rfl) Tx.nb_tuple (PEseq (zv 5))) zan)))))))))))
    (zlast (zret zbl)) znil)
    (zcons (zfor PassesOwn.never rfl (zir1 (by rfl) Tx.nb_range (zac zint zan)) (pg_name (i := 6) sc.nd rfl (by first | exact Or.inl rfl | exact Or.inr rfl)) (TgRf (gIF_eq _) (zg_name 6))
    (zcons (zset (i := 7) sc.nd rfl (by first | exact Or.inl rfl | exact Or.inr rfl) ((zcallR (i := 1) O_law_wanted (hr.mono (by omega)) (by rfl) G_law_wanted.mg G_law_wanted.kp G_law_wanted.b rfl (by first | exact Or.inl rfl | exact Or.inr (Or.inl rfl) | exact Or.inr (Or.inr rfl)) (zac ((zcallR (i := 1) O_law_pick (hr.mono (by omega)) (by rfl) G_law_pick.mg G_law_pick.kp G_law_pick.b rfl (by first | exact Or.inl rfl | exact Or.inr (Or.inl rfl) | exact Or.inr (Or.inr rfl)) (PAf (aCF_eq _ _) (zac (PEnl (zl (zac zint (zac zint (zac zint (zac zint zan)))))) zan)))) zan))))
    (zcons (PSf (sParX_eq _ _ _ _) (zpar (i := 8) (j := 9) rfl sc.nd rfl rfl (by decide) rfl rfl ((zcall O_law_within (hr.mono (by omega)) (by rfl) G_law_within.mg G_law_within.kp G_law_within.b (zac (zv 3) (zac (zv 7) zan)))) ((zcall O_law_within (hr.mono (by omega)) (by rfl) G_law_within.mg G_law_within.kp G_law_within.b (zac (zv 4) (zac (zv 7) zan)))) (by with_unfolding_all rfl)))
    (zcons (zifs (PW.pt (ztor (ztnot (ztv ((zcall O_law_alike (hr.mono (by omega)) (by rfl) G_law_alike.mg G_law_alike.kp G_law_alike.b (zac ((zcall O_clashes (hr.mono (by omega)) (by rfl) G_clashes.mg G_clashes.kp G_clashes.b (zac (zv 2) (zac (zv 7) zan)))) (PAf (aCF_eq _ _) (zac (ztupOf (by rfl) Tx.nb_tuple (PEseq (zv 8))) zan))))))) (ztor1 (ztnot (ztv ((zcall O_law_alike (hr.mono (by omega)) (by rfl) G_law_alike.mg G_law_alike.kp G_law_alike.b (zac ((zcall O_forcings (hr.mono (by omega)) (by rfl) G_forcings.mg G_forcings.kp G_forcings.b (zac (zv 2) (zac (zv 7) zan)))) (PAf (aCF_eq _ _) (zac (ztupOf (by rfl) Tx.nb_tuple (PEseq (zv 9))) zan))))))))))
    (zlast (zret zbl)) znil)
    (zcons (zifs (PW.pt (ztor (ztnot (ztv ((zcall O_law_is (hr.mono (by omega)) (by rfl) G_law_is.mg G_law_is.kp G_law_is.b (zac ((zcall O_can_hold (hr.mono (by omega)) (by rfl) G_can_hold.mg G_can_hold.kp G_can_hold.b (zac (zv 2) (zac (zv 7) zan)))) (PAf (aCF_eq _ _) (zac (zcmp (oeqF hu) (zv 8) (PEnl (zl zan))) zan))))))) (ztor1 (ztnot (ztv ((zcall O_law_is (hr.mono (by omega)) (by rfl) G_law_is.mg G_law_is.kp G_law_is.b (zac ((zcall O_forces (hr.mono (by omega)) (by rfl) G_forces.mg G_forces.kp G_forces.b (zac (zv 2) (zac (zv 7) zan)))) (PAf (aCF_eq _ _) (zac (zand (zcmp (oeqF hu) (zv 8) (PEnl (zl zan))) (zone (zcmp (oneF hu) (zv 9) (PEnl (zl zan))))) zan))))))))))
    (zlast (zret zbl)) znil)
    (zcons (zifs (ztc (oneF hu) (zcmp (oeqF hu) (zv 8) (PEnl (zl zan))) (zcmp (oneF hu) (PEnl (zlc rfl sc.nd (zis (zv 5)) (blkOk_by (own := [("some", 10)]) (N := N) (sc := (defScope s_law)) (by first | decide +kernel | rfl | with_unfolding_all rfl)) (TgCf (gIX_eq _) (zgc_name (by decide))) (fun _ _ _ _ _ => (pg_name (i := 10) sc.nd rfl (by first | exact Or.inl rfl | exact Or.inr rfl))) (fun _ _ _ _ _ => (ztone (ztc (oneF hu) ((zcall O_law_within (hr.mono (by omega)) (by rfl) G_law_within.mg G_law_within.kp G_law_within.b (PAf (aCF_eq _ _) (zac (PEnl (zl (zac (zv 7) zan))) (zac (zv 10) zan))))) (PEnl (zl zan))))) (fun _ _ _ _ _ => (zv 10)))) (PEnl (zl zan))))
    (zlast (zret zbl)) znil)
    (zcons (PSf (sSetV_eq _ _) (zsetLc (i := 11) rfl sc.nd rfl rfl (zis (zcall0 O_law_axioms (hr.mono (by omega)) (by rfl) G_law_axioms.mg G_law_axioms.kp G_law_axioms.b)) (blkOk_by (own := [("axiom", 12)]) (N := N) (sc := (defScope s_law)) (by first | decide +kernel | rfl | with_unfolding_all rfl)) (TgCf (gIX_eq _) (zgc_name (by decide))) (fun _ _ _ _ _ => (pg_name (i := 12) sc.nd rfl (by first | exact Or.inl rfl | exact Or.inr rfl))) (fun _ _ _ _ _ => (ztone (PW.pt (ztand (PTf (eInF_eq _ _ _) (ztni (zv 12) (PEseq (zv 7)))) (ztand1 (ztc (oeqF hu) ((zcall O_law_within (hr.mono (by omega)) (by rfl) G_law_within.mg G_law_within.kp G_law_within.b (zac (zv 3) (PAf (aCF_eq _ _) (zac (zop oplus (zv 7) (zt (zac (zv 12) zan))) zan))))) (PEnl (zl zan)))))))) (fun _ _ _ _ _ => (zv 12)) (sw_true rfl rfl rfl (by decide +kernel))))
    (zlast (zifs (ztnot (ztv ((zcall O_law_alike (hr.mono (by omega)) (by rfl) G_law_alike.mg G_law_alike.kp G_law_alike.b (zac ((zcall O_can_add (hr.mono (by omega)) (by rfl) G_can_add.mg G_can_add.kp G_can_add.b (zac (zv 2) (zac (zv 7) zan)))) (PAf (aCF_eq _ _) (zac (ztupOf (by rfl) Tx.nb_tuple (PEseq (zv 11))) zan)))))))
    (zlast (zret zbl)) znil)))))))))
    (zlast (zret zbl))))))
end
end Zl
set_option Elab.async false
set_option linter.all false
set_option maxRecDepth 1000000
set_option maxHeartbeats 400000
namespace Zl
open PySem L2
@[irreducible] def AXN : List (List Nat) := [[98, 101, 115, 116], [99, 111, 114, 101], [102, 105, 114, 115, 116], [103, 114, 111, 119, 105, 110, 103], [110, 97, 109, 101, 115], [110, 111, 98, 111, 115, 115], [110, 111, 116, 108, 97, 115, 116], [111, 112, 101, 110], [111, 119, 110], [115, 111, 108, 101], [115, 116, 105, 108, 108], [115, 119, 97, 112, 108, 101, 115, 115], [116, 104, 105, 110, 103, 115], [116, 111, 112, 115], [116, 114, 117, 116, 104, 102, 117, 108]]
theorem ax_law : r_law_axioms [] = .ret (.lst (nmL AXN)) := by kernel_rfl
theorem ax_prog : r_axioms [] = .ret (.tup (nmL AXN)) := by kernel_rfl
theorem AXnd : AXN.Nodup := by decide +kernel
theorem AXpw : pwS AXN = true := by decide +kernel
theorem AXok : AXN.all okNs = true := by decide +kernel
theorem AXl : AXN.length = 15 := by decide +kernel
/-- a set, an axiom's names -/
def Ws (bs : List Bool) : D := .tup (nmL (flG bs AXN))
def unNm : D → List (List Nat)
  | .tup xs => (strsO xs).getD []
  | _ => []
theorem unNm_W (l : List (List Nat)) : unNm (.tup (nmL l)) = l := by
  show (strsO (nmL l)).getD [] = l
  rw [strsO_of]
  rfl
theorem nmL_mem {l : List (List Nat)} {d : D} (h : d ∈ nmL l) : ∃ a, a ∈ l ∧ d = .str a := by
  obtain ⟨a, ha, e⟩ := List.mem_map.mp h
  exact ⟨a, ha, e.symm⟩
theorem filter_yes (l : List D) : l.filter (fun _ => true) = l := List.filter_eq_self.mpr fun _ _ => rfl
theorem W_len (bs : List Bool) : (nmL (flG bs AXN)).length ≤ 15 := by rw [nmL_len, ← AXl]; exact flG_len
theorem lie {p q : List (List Nat)} (hp : p.length ≤ 15) : r_lie_in [.tup (nmL p), .tup (nmL q)] = .ret (.bl (p.all fun a => decide (a ∈ q))) := by
  unfold r_lie_in
  refine nB (fr := [some (.v (.tup (nmL p))), some (.v (.tup (nmL q))), none]) rfl (nRetF (nAll (xs := (nmL p).map fun d => .bl (anyF d (nmL q))) (nLc1 (nLseqT (nV rfl)) (few_of (by rw [nmL_len]; omega)) rfl ?_) (bools_map (fun d => anyF d (nmL q)) _) ?_))
  · refine (lcF_map (fun _ => true) (fun d => .bl (anyF d (nmL q))) (nmL p) ?_).trans (by rw [filter_yes])
    intro d hd
    obtain ⟨a, ha, rfl⟩ := nmL_mem hd
    refine ⟨[some (.v (.tup (nmL p))), some (.v (.tup (nmL q))), some (.v (.str a))], nGI rfl, rfl, fun _ => ?_⟩
    rw [anyF_nm]
    exact nInS (nV rfl) (nLseqT (nV rfl))
  · rw [allBs_map]
    unfold nmL
    rw [List.all_map]
    congr 1
    funext a
    exact anyF_nm a q
theorem lieW {cb bs : List Bool} (hc : cb.length = 15) (hb : bs.length = 15) : r_lie_in [Ws cb, Ws bs] = .ret (.bl (subB cb bs)) := by
  unfold Ws
  rw [lie (by rw [← AXl]; exact flG_len), sub_mem AXnd (by rw [hc, AXl]) (by rw [hb, AXl])]
theorem isw (bs : List Bool) : r_is_wanted [Ws bs] = .ret (.bl true) := by
  unfold r_is_wanted
  refine nB (fr := [some (.v (Ws bs)), none]) rfl (nSeq (fr' := [some (.v (Ws bs)), none]) (hp' := []) (nIfF (nOrF (nNot (b := true) (nB1 rfl) rfl) (nNot (b := true) (nB1 (nAll (xs := (nmL (flG bs AXN)).map fun _ => .bl true) (nLc1 (ds := nmL (flG bs AXN)) (nLseqT (nV rfl)) (few_of (Nat.le_trans (W_len bs) (by decide))) rfl ?_) (bools_map (fun _ => true) _) ?_)) rfl)) rfl) ?_)
  · refine (lcF_map (fun _ => true) (fun _ => .bl true) _ ?_).trans (by rw [filter_yes])
    intro d hd
    obtain ⟨a, ha, rfl⟩ := nmL_mem hd
    refine ⟨[some (.v (Ws bs)), some (.v (.str a))], nGI rfl, rfl, fun _ => ?_⟩
    have e := nInS (fr := [some (.v (Ws bs)), some (.v (.str a))]) (hp := []) (f := eV 1) (g := lSeq (eCall r_axioms 0 aN)) (a := a) (l := AXN) (nV rfl) (nLseqT (nCall nN rfl ax_prog))
    rw [e, decide_eq_true (flG_mem ha)]
  · rw [allBs_map]
    exact List.all_eq_true.mpr fun _ _ => rfl
  · exact nRetF (n2 (nLst (nLseqT (nV rfl))) (nLst (nSortSetS (nV rfl) (by rw [AXl]; decide) AXpw AXnd)) (dEq_nm (all_flG AXok)))
/-- the sets that lie in w -/
def inW (bs : List Bool) (d : D) : Bool := (unNm d).all fun a => decide (a ∈ flG bs AXN)
theorem inW_W {cb bs : List Bool} (hc : cb.length = 15) (hb : bs.length = 15) : inW bs (Ws cb) = subB cb bs := by
  unfold inW Ws
  rw [unNm_W, sub_mem AXnd (by rw [hc, AXl]) (by rw [hb, AXl])]
theorem emp {M : List (List Bool)} (hM : ∀ c ∈ M, c.length = 15) {bs : List Bool} (hb : bs.length = 15) : ((M.map Ws).filter (inW bs)).isEmpty = Nat.beq (M.countP fun c => subB c bs) 0 := by
  induction M with
  | nil => rfl
  | cons c M ih =>
    have ih := ih fun x hx => hM x (List.mem_cons_of_mem _ hx)
    have e := inW_W (hM c List.mem_cons_self) hb
    rw [List.map_cons]
    cases q : subB c bs with
    | true =>
      rw [q] at e
      rw [List.filter_cons_of_pos e, List.countP_cons_of_pos (p := fun c => subB c bs) q]
      rfl
    | false =>
      rw [q] at e
      rw [List.filter_cons_of_neg (by rw [e]; decide), List.countP_cons_of_neg (p := fun c => subB c bs) (by rw [q]; decide)]
      exact ih
theorem forS_c {set : D → Fr → T Fr} {body : Sm} {x : D} {r : List D} {fr fr1 fr' : Fr} {hp hp' : Hz} {o : T Out} (h1 : set x fr = .ret fr1) (h2 : body fr1 hp = .ret (.nx fr' hp')) (h3 : forS set body r fr' hp' = o) : forS set body (x :: r) fr hp = o := by
  show ((set x fr).bind fun fr1 => (body fr1 hp).bind (loopO (forS set body r))) = _
  rw [T.bindE h1, T.bindE h2]
  exact h3
/-! 2 people -/
@[irreducible] def CM2 : List (List Bool) := [[false, true, false, false, false, false, false, false, false, false, false, false, true, false, false], [false, false, false, false, true, false, false, false, false, false, false, false, true, false, false], [false, false, false, false, false, false, false, false, true, false, false, false, true, false, false], [true, false, false, false, false, true, false, false, false, false, false, false, true, false, false], [false, false, true, false, false, true, false, false, false, false, false, false, true, false, false], [false, false, false, true, false, true, false, false, false, false, false, false, true, false, false], [false, false, false, false, false, true, true, false, false, false, false, false, true, false, false], [false, false, false, false, false, true, false, false, false, true, false, false, true, false, false], [false, false, false, false, false, true, false, false, false, false, false, true, true, false, false], [false, false, false, false, false, true, false, false, false, false, false, false, true, false, true]]
@[irreducible] def FM2 : List (List Bool) := [[false, true, false, false, false, false, false, false, false, false, false, false, false, false, false], [true, false, false, false, false, false, false, false, true, false, false, false, false, false, false], [false, false, true, false, false, false, false, false, true, false, false, false, false, false, false], [false, false, false, false, false, false, true, false, true, false, false, false, false, false, false], [false, false, false, false, false, false, false, true, true, false, false, false, false, false, false], [false, false, false, false, false, false, false, false, true, true, false, false, false, false, false], [false, false, false, false, false, false, false, false, true, false, false, true, false, false, false]]
@[irreducible] def GM2 : List (List Bool) := [[true, true, true, true, true, true, true, true, true, true, true, true, false, true, true], [true, false, true, true, false, false, true, true, false, true, true, true, true, true, true], [false, false, false, false, false, true, false, true, false, false, true, false, true, true, false]]
theorem cpe2 : r_check_people [(.int (.ofNat 2))] = .ret .non := by kernel_rfl
theorem ckw2 (bs : List Bool) : r_check_wanted [(.int (.ofNat 2)), Ws bs] = .ret .non := by
  unfold r_check_wanted
  exact nBn (fr := [some (.v (.int (.ofNat 2))), some (.v (Ws bs))]) rfl (nSeq (nDrop (nCall (nA (nV rfl) nN) rfl cpe2)) (nIfF (nNot (b := true) (nB1 (nCall (nA (nV rfl) nN) rfl (isw bs))) rfl) nNil))
theorem lc_e2 : r_least_clashes [(.int (.ofNat 2))] = .ret (.tup (CM2.map Ws)) := by kernel_rfl
theorem lf_e2 : r_least_forcing [(.int (.ofNat 2))] = .ret (.tup (FM2.map Ws)) := by kernel_rfl
@[irreducible] def GS2_0 : List (List Bool) := [[true, true, true, true, true, true, true, true, true, true, true, true, true, true, true]]
@[irreducible] def GS2_1 : List (List Bool) := [[true, true, true, true, true, true, true, true, true, true, true, true, false, true, true], [true, false, true, true, true, true, true, true, true, true, true, true, true, true, true]]
@[irreducible] def GS2_2 : List (List Bool) := [[true, true, true, true, true, true, true, true, true, true, true, true, false, true, true], [true, false, true, true, false, true, true, true, true, true, true, true, true, true, true]]
@[irreducible] def GS2_3 : List (List Bool) := [[true, true, true, true, true, true, true, true, true, true, true, true, false, true, true], [true, false, true, true, false, true, true, true, false, true, true, true, true, true, true]]
@[irreducible] def GS2_4 : List (List Bool) := [[true, true, true, true, true, true, true, true, true, true, true, true, false, true, true], [true, false, true, true, false, false, true, true, false, true, true, true, true, true, true], [false, false, true, true, false, true, true, true, false, true, true, true, true, true, true]]
@[irreducible] def GS2_5 : List (List Bool) := [[true, true, true, true, true, true, true, true, true, true, true, true, false, true, true], [true, false, true, true, false, false, true, true, false, true, true, true, true, true, true], [false, false, false, true, false, true, true, true, false, true, true, true, true, true, true]]
@[irreducible] def GS2_6 : List (List Bool) := [[true, true, true, true, true, true, true, true, true, true, true, true, false, true, true], [true, false, true, true, false, false, true, true, false, true, true, true, true, true, true], [false, false, false, false, false, true, true, true, false, true, true, true, true, true, true]]
@[irreducible] def GS2_7 : List (List Bool) := [[true, true, true, true, true, true, true, true, true, true, true, true, false, true, true], [true, false, true, true, false, false, true, true, false, true, true, true, true, true, true], [false, false, false, false, false, true, false, true, false, true, true, true, true, true, true]]
@[irreducible] def GS2_8 : List (List Bool) := [[true, true, true, true, true, true, true, true, true, true, true, true, false, true, true], [true, false, true, true, false, false, true, true, false, true, true, true, true, true, true], [false, false, false, false, false, true, false, true, false, false, true, true, true, true, true]]
@[irreducible] def GS2_9 : List (List Bool) := [[true, true, true, true, true, true, true, true, true, true, true, true, false, true, true], [true, false, true, true, false, false, true, true, false, true, true, true, true, true, true], [false, false, false, false, false, true, false, true, false, false, true, false, true, true, true]]
@[irreducible] def GS2_10 : List (List Bool) := [[true, true, true, true, true, true, true, true, true, true, true, true, false, true, true], [true, false, true, true, false, false, true, true, false, true, true, true, true, true, true], [false, false, false, false, false, true, false, true, false, false, true, false, true, true, false]]
theorem gs2_0 : r_without_clash [.lst (GS2_0.map Ws), Ws [false, true, false, false, false, false, false, false, false, false, false, false, true, false, false]] = .ret (.lst (GS2_1.map Ws)) := by kernel_rfl
theorem gs2_1 : r_without_clash [.lst (GS2_1.map Ws), Ws [false, false, false, false, true, false, false, false, false, false, false, false, true, false, false]] = .ret (.lst (GS2_2.map Ws)) := by kernel_rfl
theorem gs2_2 : r_without_clash [.lst (GS2_2.map Ws), Ws [false, false, false, false, false, false, false, false, true, false, false, false, true, false, false]] = .ret (.lst (GS2_3.map Ws)) := by kernel_rfl
theorem gs2_3 : r_without_clash [.lst (GS2_3.map Ws), Ws [true, false, false, false, false, true, false, false, false, false, false, false, true, false, false]] = .ret (.lst (GS2_4.map Ws)) := by kernel_rfl
theorem gs2_4 : r_without_clash [.lst (GS2_4.map Ws), Ws [false, false, true, false, false, true, false, false, false, false, false, false, true, false, false]] = .ret (.lst (GS2_5.map Ws)) := by kernel_rfl
theorem gs2_5 : r_without_clash [.lst (GS2_5.map Ws), Ws [false, false, false, true, false, true, false, false, false, false, false, false, true, false, false]] = .ret (.lst (GS2_6.map Ws)) := by kernel_rfl
theorem gs2_6 : r_without_clash [.lst (GS2_6.map Ws), Ws [false, false, false, false, false, true, true, false, false, false, false, false, true, false, false]] = .ret (.lst (GS2_7.map Ws)) := by kernel_rfl
theorem gs2_7 : r_without_clash [.lst (GS2_7.map Ws), Ws [false, false, false, false, false, true, false, false, false, true, false, false, true, false, false]] = .ret (.lst (GS2_8.map Ws)) := by kernel_rfl
theorem gs2_8 : r_without_clash [.lst (GS2_8.map Ws), Ws [false, false, false, false, false, true, false, false, false, false, false, true, true, false, false]] = .ret (.lst (GS2_9.map Ws)) := by kernel_rfl
theorem gs2_9 : r_without_clash [.lst (GS2_9.map Ws), Ws [false, false, false, false, false, true, false, false, false, false, false, false, true, false, true]] = .ret (.lst (GS2_10.map Ws)) := by kernel_rfl
theorem cml2 : CM2.map Ws = [Ws [false, true, false, false, false, false, false, false, false, false, false, false, true, false, false], Ws [false, false, false, false, true, false, false, false, false, false, false, false, true, false, false], Ws [false, false, false, false, false, false, false, false, true, false, false, false, true, false, false], Ws [true, false, false, false, false, true, false, false, false, false, false, false, true, false, false], Ws [false, false, true, false, false, true, false, false, false, false, false, false, true, false, false], Ws [false, false, false, true, false, true, false, false, false, false, false, false, true, false, false], Ws [false, false, false, false, false, true, true, false, false, false, false, false, true, false, false], Ws [false, false, false, false, false, true, false, false, false, true, false, false, true, false, false], Ws [false, false, false, false, false, true, false, false, false, false, false, true, true, false, false], Ws [false, false, false, false, false, true, false, false, false, false, false, false, true, false, true]] := by
  unfold CM2
  rfl
theorem g02 : D.tup (nmL AXN) = Ws [true, true, true, true, true, true, true, true, true, true, true, true, true, true, true] := by
  unfold Ws AXN
  rfl
theorem gl2 : nSortTx (eV 1) [some (.v (.int (.ofNat 2))), some (.v (.lst (GS2_10.map Ws))), some (.v (Ws [false, false, false, false, false, true, false, false, false, false, false, false, true, false, true]))] [] = .ret (GM2.map Ws) := by kernel_rfl
theorem gr_e2 : r_greatest_sets [(.int (.ofNat 2))] = .ret (.tup (GM2.map Ws)) := by
  have e0 : GS2_0.map Ws = [D.tup (nmL AXN)] := by
    rw [g02]
    unfold GS2_0
    rfl
  have lp : forS ((gIX 2)) ((sSet 1 (eCall r_without_clash 2 (aC (eV 1) (aC (eV 2) aN))))) (CM2.map Ws) [some (.v (.int (.ofNat 2))), some (.v (.lst (GS2_0.map Ws))), none] [] = .ret (.nx [some (.v (.int (.ofNat 2))), some (.v (.lst (GS2_10.map Ws))), some (.v (Ws [false, false, false, false, false, true, false, false, false, false, false, false, true, false, true]))] []) := by
    rw [cml2]
    exact forS_c (nGI rfl) (nSet (nCall (nA (nV rfl) (nA (nV rfl) nN)) rfl gs2_0) rfl) (forS_c (nGI rfl) (nSet (nCall (nA (nV rfl) (nA (nV rfl) nN)) rfl gs2_1) rfl) (forS_c (nGI rfl) (nSet (nCall (nA (nV rfl) (nA (nV rfl) nN)) rfl gs2_2) rfl) (forS_c (nGI rfl) (nSet (nCall (nA (nV rfl) (nA (nV rfl) nN)) rfl gs2_3) rfl) (forS_c (nGI rfl) (nSet (nCall (nA (nV rfl) (nA (nV rfl) nN)) rfl gs2_4) rfl) (forS_c (nGI rfl) (nSet (nCall (nA (nV rfl) (nA (nV rfl) nN)) rfl gs2_5) rfl) (forS_c (nGI rfl) (nSet (nCall (nA (nV rfl) (nA (nV rfl) nN)) rfl gs2_6) rfl) (forS_c (nGI rfl) (nSet (nCall (nA (nV rfl) (nA (nV rfl) nN)) rfl gs2_7) rfl) (forS_c (nGI rfl) (nSet (nCall (nA (nV rfl) (nA (nV rfl) nN)) rfl gs2_8) rfl) (forS_c (nGI rfl) (nSet (nCall (nA (nV rfl) (nA (nV rfl) nN)) rfl gs2_9) rfl) (rfl))))))))))
  have s1 : ((sSetV 1 (lst (nL (aC (eCall r_axioms 0 aN) aN))))) [some (.v (.int (.ofNat 2))), none, none] [] = .ret (.nx [some (.v (.int (.ofNat 2))), some (.v (.lst (GS2_0.map Ws))), none] []) := by
    rw [e0]
    exact nSetV (nLst (nNLi (nA (nCall nN rfl ax_prog) nN) rfl)) rfl
  unfold r_greatest_sets
  exact nB (fr := [some (.v (.int (.ofNat 2))), none, none]) rfl (nSeq s1 (nSeq (nFor (nLseqT (nCall (nA (nV rfl) nN) rfl lc_e2)) lp) (nRetF (nTup gl2))))
theorem lw_c2 : r_law_clashes [(.int (.ofNat 2))] = .ret (.lst (CM2.map Ws)) := by kernel_rfl
theorem lw_f2 : r_law_forcing [(.int (.ofNat 2))] = .ret (.lst (FM2.map Ws)) := by kernel_rfl
theorem lw_g2 : r_law_great [(.int (.ofNat 2))] = .ret (.lst (GM2.map Ws)) := by kernel_rfl
theorem al02 : (CM2 ++ (FM2 ++ GM2)).all (fun c => isTr (r_law_alike 7 [Ws c, Ws c])) = true := by decide +kernel
theorem CMl2 : ∀ c ∈ CM2, c.length = 15 := by decide +kernel
theorem FMl2 : ∀ c ∈ FM2, c.length = 15 := by decide +kernel
theorem GMl2 : ∀ c ∈ GM2, c.length = 15 := by decide +kernel
theorem lens2 : CM2.length ≤ 26 ∧ FM2.length ≤ 26 ∧ GM2.length ≤ 26 := by decide +kernel
theorem okC2 : allO (okD 11) (CM2.map Ws) = true := by decide +kernel
theorem okF2 : allO (okD 11) (FM2.map Ws) = true := by decide +kernel
/-! 3 people -/
@[irreducible] def CM3 : List (List Bool) := [[true, false, false, false, false, false, false, false, false, false, false, false, false, true, false], [false, true, false, false, false, false, true, false, false, false, false, false, false, false, false], [false, true, false, false, false, false, false, false, false, true, false, false, false, false, false], [false, true, false, false, false, false, false, false, false, false, false, false, true, false, false], [false, true, false, false, false, false, false, false, false, false, false, false, false, true, false], [false, false, false, true, false, false, true, false, false, false, false, false, false, false, false], [false, false, false, true, false, false, false, false, false, true, false, false, false, false, false], [false, false, false, false, true, false, false, false, false, false, false, false, true, false, false], [false, false, false, false, false, false, true, false, true, false, false, false, false, false, false], [false, false, false, false, false, false, true, false, false, true, false, false, false, false, false], [false, false, false, false, false, false, true, false, false, false, false, false, false, true, false], [false, false, false, false, false, false, true, false, false, false, false, false, false, false, true], [false, false, false, false, false, false, false, false, true, true, false, false, false, false, false], [false, false, false, false, false, false, false, false, true, false, false, false, true, false, false], [false, false, false, false, false, false, false, false, false, true, false, false, false, false, true], [false, false, false, false, false, false, false, false, false, false, false, true, false, true, false], [false, false, false, false, false, false, false, false, false, false, false, false, true, true, false], [false, false, true, true, false, false, false, false, false, false, false, false, false, true, false], [false, false, true, false, false, false, false, false, false, false, false, false, false, true, true], [false, false, false, true, false, true, false, false, false, false, false, false, true, false, false], [false, false, false, true, false, false, false, true, false, false, false, false, false, true, false], [true, false, false, false, false, true, false, false, false, false, false, false, true, false, true], [false, false, true, false, false, true, false, false, false, false, false, false, true, false, true], [false, false, false, false, false, true, false, false, false, false, true, false, true, false, true], [false, false, false, false, false, true, false, false, false, false, false, true, true, false, true], [false, false, false, false, false, false, false, true, false, false, true, false, false, true, true]]
@[irreducible] def FM3 : List (List Bool) := [[false, true, false, false, false, false, false, false, false, false, false, false, false, false, false], [true, false, false, true, false, false, false, false, true, false, false, false, false, false, false], [true, false, false, false, false, false, false, false, true, false, false, false, false, false, true], [false, false, true, true, false, false, false, false, true, false, false, false, false, false, false], [false, false, false, true, true, false, false, false, false, false, false, false, false, true, false], [false, false, false, true, false, false, false, true, true, false, false, false, false, false, false], [false, false, false, true, false, false, false, false, true, false, false, true, false, false, false], [false, false, false, true, false, false, false, false, true, false, false, false, false, true, false], [false, false, false, false, false, false, false, false, true, false, false, true, false, false, true], [false, false, true, false, true, false, false, false, true, false, false, false, false, false, true], [false, false, true, false, false, false, false, false, true, false, true, false, false, true, false], [false, false, true, false, false, false, false, false, true, false, true, false, false, false, true], [false, false, false, false, true, false, false, false, false, false, true, false, false, true, true], [false, false, false, false, false, false, false, true, true, false, true, false, false, true, false], [false, false, false, false, false, false, false, true, true, false, true, false, false, false, true], [false, false, false, false, false, false, false, true, true, false, false, false, false, true, true], [false, false, false, false, false, false, false, false, true, false, true, false, false, true, true]]
@[irreducible] def GM3 : List (List Bool) := [[true, true, true, true, true, true, false, true, true, false, true, true, false, false, true], [true, false, true, true, false, false, false, true, false, false, true, true, true, false, true], [true, false, true, false, true, true, true, true, false, false, true, true, false, false, false], [true, false, true, false, true, true, false, true, false, true, true, true, false, false, false], [true, false, true, false, false, true, true, true, false, false, true, true, true, false, false], [true, false, true, false, false, true, false, true, false, true, true, true, true, false, false], [false, false, true, false, true, true, false, true, true, false, true, false, false, true, false], [false, false, true, false, true, true, false, true, false, true, true, false, false, true, false], [false, false, false, true, true, true, false, false, true, false, true, false, false, true, true], [false, false, false, false, true, true, false, true, true, false, false, false, false, true, true], [false, false, false, false, false, true, false, true, false, false, false, false, true, false, true]]
theorem cpe3 : r_check_people [(.int (.ofNat 3))] = .ret .non := by kernel_rfl
theorem ckw3 (bs : List Bool) : r_check_wanted [(.int (.ofNat 3)), Ws bs] = .ret .non := by
  unfold r_check_wanted
  exact nBn (fr := [some (.v (.int (.ofNat 3))), some (.v (Ws bs))]) rfl (nSeq (nDrop (nCall (nA (nV rfl) nN) rfl cpe3)) (nIfF (nNot (b := true) (nB1 (nCall (nA (nV rfl) nN) rfl (isw bs))) rfl) nNil))
theorem lc_e3 : r_least_clashes [(.int (.ofNat 3))] = .ret (.tup (CM3.map Ws)) := by kernel_rfl
theorem lf_e3 : r_least_forcing [(.int (.ofNat 3))] = .ret (.tup (FM3.map Ws)) := by kernel_rfl
@[irreducible] def GS3_0 : List (List Bool) := [[true, true, true, true, true, true, true, true, true, true, true, true, true, true, true]]
@[irreducible] def GS3_1 : List (List Bool) := [[true, true, true, true, true, true, true, true, true, true, true, true, true, false, true], [false, true, true, true, true, true, true, true, true, true, true, true, true, true, true]]
@[irreducible] def GS3_2 : List (List Bool) := [[true, true, true, true, true, true, false, true, true, true, true, true, true, false, true], [true, false, true, true, true, true, true, true, true, true, true, true, true, false, true], [false, true, true, true, true, true, false, true, true, true, true, true, true, true, true], [false, false, true, true, true, true, true, true, true, true, true, true, true, true, true]]
@[irreducible] def GS3_3 : List (List Bool) := [[true, true, true, true, true, true, false, true, true, false, true, true, true, false, true], [true, false, true, true, true, true, true, true, true, true, true, true, true, false, true], [false, true, true, true, true, true, false, true, true, false, true, true, true, true, true], [false, false, true, true, true, true, true, true, true, true, true, true, true, true, true]]
@[irreducible] def GS3_4 : List (List Bool) := [[true, true, true, true, true, true, false, true, true, false, true, true, false, false, true], [true, false, true, true, true, true, true, true, true, true, true, true, true, false, true], [false, true, true, true, true, true, false, true, true, false, true, true, false, true, true], [false, false, true, true, true, true, true, true, true, true, true, true, true, true, true]]
@[irreducible] def GS3_5 : List (List Bool) := [[true, true, true, true, true, true, false, true, true, false, true, true, false, false, true], [true, false, true, true, true, true, true, true, true, true, true, true, true, false, true], [false, false, true, true, true, true, true, true, true, true, true, true, true, true, true]]
@[irreducible] def GS3_6 : List (List Bool) := [[true, true, true, true, true, true, false, true, true, false, true, true, false, false, true], [true, false, true, true, true, true, false, true, true, true, true, true, true, false, true], [true, false, true, false, true, true, true, true, true, true, true, true, true, false, true], [false, false, true, true, true, true, false, true, true, true, true, true, true, true, true], [false, false, true, false, true, true, true, true, true, true, true, true, true, true, true]]
@[irreducible] def GS3_7 : List (List Bool) := [[true, true, true, true, true, true, false, true, true, false, true, true, false, false, true], [true, false, true, true, true, true, false, true, true, false, true, true, true, false, true], [true, false, true, false, true, true, true, true, true, true, true, true, true, false, true], [false, false, true, true, true, true, false, true, true, false, true, true, true, true, true], [false, false, true, false, true, true, true, true, true, true, true, true, true, true, true]]
@[irreducible] def GS3_8 : List (List Bool) := [[true, true, true, true, true, true, false, true, true, false, true, true, false, false, true], [true, false, true, true, false, true, false, true, true, false, true, true, true, false, true], [true, false, true, false, true, true, true, true, true, true, true, true, false, false, true], [true, false, true, false, false, true, true, true, true, true, true, true, true, false, true], [false, false, true, true, true, true, false, true, true, false, true, true, false, true, true], [false, false, true, true, false, true, false, true, true, false, true, true, true, true, true], [false, false, true, false, true, true, true, true, true, true, true, true, false, true, true], [false, false, true, false, false, true, true, true, true, true, true, true, true, true, true]]
@[irreducible] def GS3_9 : List (List Bool) := [[true, true, true, true, true, true, false, true, true, false, true, true, false, false, true], [true, false, true, true, false, true, false, true, true, false, true, true, true, false, true], [true, false, true, false, true, true, true, true, false, true, true, true, false, false, true], [true, false, true, false, true, true, false, true, true, true, true, true, false, false, true], [true, false, true, false, false, true, true, true, false, true, true, true, true, false, true], [true, false, true, false, false, true, false, true, true, true, true, true, true, false, true], [false, false, true, true, true, true, false, true, true, false, true, true, false, true, true], [false, false, true, true, false, true, false, true, true, false, true, true, true, true, true], [false, false, true, false, true, true, true, true, false, true, true, true, false, true, true], [false, false, true, false, true, true, false, true, true, true, true, true, false, true, true], [false, false, true, false, false, true, true, true, false, true, true, true, true, true, true], [false, false, true, false, false, true, false, true, true, true, true, true, true, true, true]]
@[irreducible] def GS3_10 : List (List Bool) := [[true, true, true, true, true, true, false, true, true, false, true, true, false, false, true], [true, false, true, true, false, true, false, true, true, false, true, true, true, false, true], [true, false, true, false, true, true, true, true, false, false, true, true, false, false, true], [true, false, true, false, true, true, false, true, true, true, true, true, false, false, true], [true, false, true, false, false, true, true, true, false, false, true, true, true, false, true], [true, false, true, false, false, true, false, true, true, true, true, true, true, false, true], [false, false, true, true, true, true, false, true, true, false, true, true, false, true, true], [false, false, true, true, false, true, false, true, true, false, true, true, true, true, true], [false, false, true, false, true, true, true, true, false, false, true, true, false, true, true], [false, false, true, false, true, true, false, true, true, true, true, true, false, true, true], [false, false, true, false, false, true, true, true, false, false, true, true, true, true, true], [false, false, true, false, false, true, false, true, true, true, true, true, true, true, true]]
@[irreducible] def GS3_11 : List (List Bool) := [[true, true, true, true, true, true, false, true, true, false, true, true, false, false, true], [true, false, true, true, false, true, false, true, true, false, true, true, true, false, true], [true, false, true, false, true, true, true, true, false, false, true, true, false, false, true], [true, false, true, false, true, true, false, true, true, true, true, true, false, false, true], [true, false, true, false, false, true, true, true, false, false, true, true, true, false, true], [true, false, true, false, false, true, false, true, true, true, true, true, true, false, true], [false, false, true, true, true, true, false, true, true, false, true, true, false, true, true], [false, false, true, true, false, true, false, true, true, false, true, true, true, true, true], [false, false, true, false, true, true, false, true, true, true, true, true, false, true, true], [false, false, true, false, false, true, false, true, true, true, true, true, true, true, true]]
@[irreducible] def GS3_12 : List (List Bool) := [[true, true, true, true, true, true, false, true, true, false, true, true, false, false, true], [true, false, true, true, false, true, false, true, true, false, true, true, true, false, true], [true, false, true, false, true, true, true, true, false, false, true, true, false, false, false], [true, false, true, false, true, true, false, true, true, true, true, true, false, false, true], [true, false, true, false, false, true, true, true, false, false, true, true, true, false, false], [true, false, true, false, false, true, false, true, true, true, true, true, true, false, true], [false, false, true, true, true, true, false, true, true, false, true, true, false, true, true], [false, false, true, true, false, true, false, true, true, false, true, true, true, true, true], [false, false, true, false, true, true, false, true, true, true, true, true, false, true, true], [false, false, true, false, false, true, false, true, true, true, true, true, true, true, true]]
@[irreducible] def GS3_13 : List (List Bool) := [[true, true, true, true, true, true, false, true, true, false, true, true, false, false, true], [true, false, true, true, false, true, false, true, true, false, true, true, true, false, true], [true, false, true, false, true, true, true, true, false, false, true, true, false, false, false], [true, false, true, false, true, true, false, true, false, true, true, true, false, false, true], [true, false, true, false, false, true, true, true, false, false, true, true, true, false, false], [true, false, true, false, false, true, false, true, false, true, true, true, true, false, true], [false, false, true, true, true, true, false, true, true, false, true, true, false, true, true], [false, false, true, true, false, true, false, true, true, false, true, true, true, true, true], [false, false, true, false, true, true, false, true, false, true, true, true, false, true, true], [false, false, true, false, false, true, false, true, false, true, true, true, true, true, true]]
@[irreducible] def GS3_14 : List (List Bool) := [[true, true, true, true, true, true, false, true, true, false, true, true, false, false, true], [true, false, true, true, false, true, false, true, false, false, true, true, true, false, true], [true, false, true, false, true, true, true, true, false, false, true, true, false, false, false], [true, false, true, false, true, true, false, true, false, true, true, true, false, false, true], [true, false, true, false, false, true, true, true, false, false, true, true, true, false, false], [true, false, true, false, false, true, false, true, false, true, true, true, true, false, true], [false, false, true, true, true, true, false, true, true, false, true, true, false, true, true], [false, false, true, true, false, true, false, true, false, false, true, true, true, true, true], [false, false, true, false, true, true, false, true, false, true, true, true, false, true, true], [false, false, true, false, false, true, false, true, false, true, true, true, true, true, true]]
@[irreducible] def GS3_15 : List (List Bool) := [[true, true, true, true, true, true, false, true, true, false, true, true, false, false, true], [true, false, true, true, false, true, false, true, false, false, true, true, true, false, true], [true, false, true, false, true, true, true, true, false, false, true, true, false, false, false], [true, false, true, false, true, true, false, true, false, true, true, true, false, false, false], [true, false, true, false, false, true, true, true, false, false, true, true, true, false, false], [true, false, true, false, false, true, false, true, false, true, true, true, true, false, false], [false, false, true, true, true, true, false, true, true, false, true, true, false, true, true], [false, false, true, true, false, true, false, true, false, false, true, true, true, true, true], [false, false, true, false, true, true, false, true, false, true, true, true, false, true, false], [false, false, true, false, false, true, false, true, false, true, true, true, true, true, false]]
@[irreducible] def GS3_16 : List (List Bool) := [[true, true, true, true, true, true, false, true, true, false, true, true, false, false, true], [true, false, true, true, false, true, false, true, false, false, true, true, true, false, true], [true, false, true, false, true, true, true, true, false, false, true, true, false, false, false], [true, false, true, false, true, true, false, true, false, true, true, true, false, false, false], [true, false, true, false, false, true, true, true, false, false, true, true, true, false, false], [true, false, true, false, false, true, false, true, false, true, true, true, true, false, false], [false, false, true, true, true, true, false, true, true, false, true, false, false, true, true], [false, false, true, true, false, true, false, true, false, false, true, false, true, true, true], [false, false, true, false, true, true, false, true, false, true, true, false, false, true, false], [false, false, true, false, false, true, false, true, false, true, true, false, true, true, false]]
@[irreducible] def GS3_17 : List (List Bool) := [[true, true, true, true, true, true, false, true, true, false, true, true, false, false, true], [true, false, true, true, false, true, false, true, false, false, true, true, true, false, true], [true, false, true, false, true, true, true, true, false, false, true, true, false, false, false], [true, false, true, false, true, true, false, true, false, true, true, true, false, false, false], [true, false, true, false, false, true, true, true, false, false, true, true, true, false, false], [true, false, true, false, false, true, false, true, false, true, true, true, true, false, false], [false, false, true, true, true, true, false, true, true, false, true, false, false, true, true], [false, false, true, false, true, true, false, true, false, true, true, false, false, true, false]]
@[irreducible] def GS3_18 : List (List Bool) := [[true, true, true, true, true, true, false, true, true, false, true, true, false, false, true], [true, false, true, true, false, true, false, true, false, false, true, true, true, false, true], [true, false, true, false, true, true, true, true, false, false, true, true, false, false, false], [true, false, true, false, true, true, false, true, false, true, true, true, false, false, false], [true, false, true, false, false, true, true, true, false, false, true, true, true, false, false], [true, false, true, false, false, true, false, true, false, true, true, true, true, false, false], [false, false, true, false, true, true, false, true, true, false, true, false, false, true, true], [false, false, true, false, true, true, false, true, false, true, true, false, false, true, false], [false, false, false, true, true, true, false, true, true, false, true, false, false, true, true]]
@[irreducible] def GS3_19 : List (List Bool) := [[true, true, true, true, true, true, false, true, true, false, true, true, false, false, true], [true, false, true, true, false, true, false, true, false, false, true, true, true, false, true], [true, false, true, false, true, true, true, true, false, false, true, true, false, false, false], [true, false, true, false, true, true, false, true, false, true, true, true, false, false, false], [true, false, true, false, false, true, true, true, false, false, true, true, true, false, false], [true, false, true, false, false, true, false, true, false, true, true, true, true, false, false], [false, false, true, false, true, true, false, true, true, false, true, false, false, true, false], [false, false, true, false, true, true, false, true, false, true, true, false, false, true, false], [false, false, false, true, true, true, false, true, true, false, true, false, false, true, true]]
@[irreducible] def GS3_20 : List (List Bool) := [[true, true, true, true, true, true, false, true, true, false, true, true, false, false, true], [true, false, true, true, false, false, false, true, false, false, true, true, true, false, true], [true, false, true, false, true, true, true, true, false, false, true, true, false, false, false], [true, false, true, false, true, true, false, true, false, true, true, true, false, false, false], [true, false, true, false, false, true, true, true, false, false, true, true, true, false, false], [true, false, true, false, false, true, false, true, false, true, true, true, true, false, false], [true, false, true, false, false, true, false, true, false, false, true, true, true, false, true], [false, false, true, false, true, true, false, true, true, false, true, false, false, true, false], [false, false, true, false, true, true, false, true, false, true, true, false, false, true, false], [false, false, false, true, true, true, false, true, true, false, true, false, false, true, true]]
@[irreducible] def GS3_21 : List (List Bool) := [[true, true, true, true, true, true, false, true, true, false, true, true, false, false, true], [true, false, true, true, false, false, false, true, false, false, true, true, true, false, true], [true, false, true, false, true, true, true, true, false, false, true, true, false, false, false], [true, false, true, false, true, true, false, true, false, true, true, true, false, false, false], [true, false, true, false, false, true, true, true, false, false, true, true, true, false, false], [true, false, true, false, false, true, false, true, false, true, true, true, true, false, false], [true, false, true, false, false, true, false, true, false, false, true, true, true, false, true], [false, false, true, false, true, true, false, true, true, false, true, false, false, true, false], [false, false, true, false, true, true, false, true, false, true, true, false, false, true, false], [false, false, false, true, true, true, false, false, true, false, true, false, false, true, true], [false, false, false, false, true, true, false, true, true, false, true, false, false, true, true]]
@[irreducible] def GS3_22 : List (List Bool) := [[true, true, true, true, true, true, false, true, true, false, true, true, false, false, true], [true, false, true, true, false, false, false, true, false, false, true, true, true, false, true], [true, false, true, false, true, true, true, true, false, false, true, true, false, false, false], [true, false, true, false, true, true, false, true, false, true, true, true, false, false, false], [true, false, true, false, false, true, true, true, false, false, true, true, true, false, false], [true, false, true, false, false, true, false, true, false, true, true, true, true, false, false], [false, false, true, false, true, true, false, true, true, false, true, false, false, true, false], [false, false, true, false, true, true, false, true, false, true, true, false, false, true, false], [false, false, true, false, false, true, false, true, false, false, true, true, true, false, true], [false, false, false, true, true, true, false, false, true, false, true, false, false, true, true], [false, false, false, false, true, true, false, true, true, false, true, false, false, true, true]]
@[irreducible] def GS3_23 : List (List Bool) := [[true, true, true, true, true, true, false, true, true, false, true, true, false, false, true], [true, false, true, true, false, false, false, true, false, false, true, true, true, false, true], [true, false, true, false, true, true, true, true, false, false, true, true, false, false, false], [true, false, true, false, true, true, false, true, false, true, true, true, false, false, false], [true, false, true, false, false, true, true, true, false, false, true, true, true, false, false], [true, false, true, false, false, true, false, true, false, true, true, true, true, false, false], [false, false, true, false, true, true, false, true, true, false, true, false, false, true, false], [false, false, true, false, true, true, false, true, false, true, true, false, false, true, false], [false, false, false, true, true, true, false, false, true, false, true, false, false, true, true], [false, false, false, false, true, true, false, true, true, false, true, false, false, true, true], [false, false, false, false, false, true, false, true, false, false, true, true, true, false, true]]
@[irreducible] def GS3_24 : List (List Bool) := [[true, true, true, true, true, true, false, true, true, false, true, true, false, false, true], [true, false, true, true, false, false, false, true, false, false, true, true, true, false, true], [true, false, true, false, true, true, true, true, false, false, true, true, false, false, false], [true, false, true, false, true, true, false, true, false, true, true, true, false, false, false], [true, false, true, false, false, true, true, true, false, false, true, true, true, false, false], [true, false, true, false, false, true, false, true, false, true, true, true, true, false, false], [false, false, true, false, true, true, false, true, true, false, true, false, false, true, false], [false, false, true, false, true, true, false, true, false, true, true, false, false, true, false], [false, false, false, true, true, true, false, false, true, false, true, false, false, true, true], [false, false, false, false, true, true, false, true, true, false, true, false, false, true, true], [false, false, false, false, false, true, false, true, false, false, false, true, true, false, true]]
@[irreducible] def GS3_25 : List (List Bool) := [[true, true, true, true, true, true, false, true, true, false, true, true, false, false, true], [true, false, true, true, false, false, false, true, false, false, true, true, true, false, true], [true, false, true, false, true, true, true, true, false, false, true, true, false, false, false], [true, false, true, false, true, true, false, true, false, true, true, true, false, false, false], [true, false, true, false, false, true, true, true, false, false, true, true, true, false, false], [true, false, true, false, false, true, false, true, false, true, true, true, true, false, false], [false, false, true, false, true, true, false, true, true, false, true, false, false, true, false], [false, false, true, false, true, true, false, true, false, true, true, false, false, true, false], [false, false, false, true, true, true, false, false, true, false, true, false, false, true, true], [false, false, false, false, true, true, false, true, true, false, true, false, false, true, true], [false, false, false, false, false, true, false, true, false, false, false, false, true, false, true]]
@[irreducible] def GS3_26 : List (List Bool) := [[true, true, true, true, true, true, false, true, true, false, true, true, false, false, true], [true, false, true, true, false, false, false, true, false, false, true, true, true, false, true], [true, false, true, false, true, true, true, true, false, false, true, true, false, false, false], [true, false, true, false, true, true, false, true, false, true, true, true, false, false, false], [true, false, true, false, false, true, true, true, false, false, true, true, true, false, false], [true, false, true, false, false, true, false, true, false, true, true, true, true, false, false], [false, false, true, false, true, true, false, true, true, false, true, false, false, true, false], [false, false, true, false, true, true, false, true, false, true, true, false, false, true, false], [false, false, false, true, true, true, false, false, true, false, true, false, false, true, true], [false, false, false, false, true, true, false, true, true, false, false, false, false, true, true], [false, false, false, false, false, true, false, true, false, false, false, false, true, false, true]]
theorem gs3_0 : r_without_clash [.lst (GS3_0.map Ws), Ws [true, false, false, false, false, false, false, false, false, false, false, false, false, true, false]] = .ret (.lst (GS3_1.map Ws)) := by kernel_rfl
theorem gs3_1 : r_without_clash [.lst (GS3_1.map Ws), Ws [false, true, false, false, false, false, true, false, false, false, false, false, false, false, false]] = .ret (.lst (GS3_2.map Ws)) := by kernel_rfl
theorem gs3_2 : r_without_clash [.lst (GS3_2.map Ws), Ws [false, true, false, false, false, false, false, false, false, true, false, false, false, false, false]] = .ret (.lst (GS3_3.map Ws)) := by kernel_rfl
theorem gs3_3 : r_without_clash [.lst (GS3_3.map Ws), Ws [false, true, false, false, false, false, false, false, false, false, false, false, true, false, false]] = .ret (.lst (GS3_4.map Ws)) := by kernel_rfl
theorem gs3_4 : r_without_clash [.lst (GS3_4.map Ws), Ws [false, true, false, false, false, false, false, false, false, false, false, false, false, true, false]] = .ret (.lst (GS3_5.map Ws)) := by kernel_rfl
theorem gs3_5 : r_without_clash [.lst (GS3_5.map Ws), Ws [false, false, false, true, false, false, true, false, false, false, false, false, false, false, false]] = .ret (.lst (GS3_6.map Ws)) := by kernel_rfl
theorem gs3_6 : r_without_clash [.lst (GS3_6.map Ws), Ws [false, false, false, true, false, false, false, false, false, true, false, false, false, false, false]] = .ret (.lst (GS3_7.map Ws)) := by kernel_rfl
theorem gs3_7 : r_without_clash [.lst (GS3_7.map Ws), Ws [false, false, false, false, true, false, false, false, false, false, false, false, true, false, false]] = .ret (.lst (GS3_8.map Ws)) := by kernel_rfl
theorem gs3_8 : r_without_clash [.lst (GS3_8.map Ws), Ws [false, false, false, false, false, false, true, false, true, false, false, false, false, false, false]] = .ret (.lst (GS3_9.map Ws)) := by kernel_rfl
theorem gs3_9 : r_without_clash [.lst (GS3_9.map Ws), Ws [false, false, false, false, false, false, true, false, false, true, false, false, false, false, false]] = .ret (.lst (GS3_10.map Ws)) := by kernel_rfl
theorem gs3_10 : r_without_clash [.lst (GS3_10.map Ws), Ws [false, false, false, false, false, false, true, false, false, false, false, false, false, true, false]] = .ret (.lst (GS3_11.map Ws)) := by kernel_rfl
theorem gs3_11 : r_without_clash [.lst (GS3_11.map Ws), Ws [false, false, false, false, false, false, true, false, false, false, false, false, false, false, true]] = .ret (.lst (GS3_12.map Ws)) := by kernel_rfl
theorem gs3_12 : r_without_clash [.lst (GS3_12.map Ws), Ws [false, false, false, false, false, false, false, false, true, true, false, false, false, false, false]] = .ret (.lst (GS3_13.map Ws)) := by kernel_rfl
theorem gs3_13 : r_without_clash [.lst (GS3_13.map Ws), Ws [false, false, false, false, false, false, false, false, true, false, false, false, true, false, false]] = .ret (.lst (GS3_14.map Ws)) := by kernel_rfl
theorem gs3_14 : r_without_clash [.lst (GS3_14.map Ws), Ws [false, false, false, false, false, false, false, false, false, true, false, false, false, false, true]] = .ret (.lst (GS3_15.map Ws)) := by kernel_rfl
theorem gs3_15 : r_without_clash [.lst (GS3_15.map Ws), Ws [false, false, false, false, false, false, false, false, false, false, false, true, false, true, false]] = .ret (.lst (GS3_16.map Ws)) := by kernel_rfl
theorem gs3_16 : r_without_clash [.lst (GS3_16.map Ws), Ws [false, false, false, false, false, false, false, false, false, false, false, false, true, true, false]] = .ret (.lst (GS3_17.map Ws)) := by kernel_rfl
theorem gs3_17 : r_without_clash [.lst (GS3_17.map Ws), Ws [false, false, true, true, false, false, false, false, false, false, false, false, false, true, false]] = .ret (.lst (GS3_18.map Ws)) := by kernel_rfl
theorem gs3_18 : r_without_clash [.lst (GS3_18.map Ws), Ws [false, false, true, false, false, false, false, false, false, false, false, false, false, true, true]] = .ret (.lst (GS3_19.map Ws)) := by kernel_rfl
theorem gs3_19 : r_without_clash [.lst (GS3_19.map Ws), Ws [false, false, false, true, false, true, false, false, false, false, false, false, true, false, false]] = .ret (.lst (GS3_20.map Ws)) := by kernel_rfl
theorem gs3_20 : r_without_clash [.lst (GS3_20.map Ws), Ws [false, false, false, true, false, false, false, true, false, false, false, false, false, true, false]] = .ret (.lst (GS3_21.map Ws)) := by kernel_rfl
theorem gs3_21 : r_without_clash [.lst (GS3_21.map Ws), Ws [true, false, false, false, false, true, false, false, false, false, false, false, true, false, true]] = .ret (.lst (GS3_22.map Ws)) := by kernel_rfl
theorem gs3_22 : r_without_clash [.lst (GS3_22.map Ws), Ws [false, false, true, false, false, true, false, false, false, false, false, false, true, false, true]] = .ret (.lst (GS3_23.map Ws)) := by kernel_rfl
theorem gs3_23 : r_without_clash [.lst (GS3_23.map Ws), Ws [false, false, false, false, false, true, false, false, false, false, true, false, true, false, true]] = .ret (.lst (GS3_24.map Ws)) := by kernel_rfl
theorem gs3_24 : r_without_clash [.lst (GS3_24.map Ws), Ws [false, false, false, false, false, true, false, false, false, false, false, true, true, false, true]] = .ret (.lst (GS3_25.map Ws)) := by kernel_rfl
theorem gs3_25 : r_without_clash [.lst (GS3_25.map Ws), Ws [false, false, false, false, false, false, false, true, false, false, true, false, false, true, true]] = .ret (.lst (GS3_26.map Ws)) := by kernel_rfl
theorem cml3 : CM3.map Ws = [Ws [true, false, false, false, false, false, false, false, false, false, false, false, false, true, false], Ws [false, true, false, false, false, false, true, false, false, false, false, false, false, false, false], Ws [false, true, false, false, false, false, false, false, false, true, false, false, false, false, false], Ws [false, true, false, false, false, false, false, false, false, false, false, false, true, false, false], Ws [false, true, false, false, false, false, false, false, false, false, false, false, false, true, false], Ws [false, false, false, true, false, false, true, false, false, false, false, false, false, false, false], Ws [false, false, false, true, false, false, false, false, false, true, false, false, false, false, false], Ws [false, false, false, false, true, false, false, false, false, false, false, false, true, false, false], Ws [false, false, false, false, false, false, true, false, true, false, false, false, false, false, false], Ws [false, false, false, false, false, false, true, false, false, true, false, false, false, false, false], Ws [false, false, false, false, false, false, true, false, false, false, false, false, false, true, false], Ws [false, false, false, false, false, false, true, false, false, false, false, false, false, false, true], Ws [false, false, false, false, false, false, false, false, true, true, false, false, false, false, false], Ws [false, false, false, false, false, false, false, false, true, false, false, false, true, false, false], Ws [false, false, false, false, false, false, false, false, false, true, false, false, false, false, true], Ws [false, false, false, false, false, false, false, false, false, false, false, true, false, true, false], Ws [false, false, false, false, false, false, false, false, false, false, false, false, true, true, false], Ws [false, false, true, true, false, false, false, false, false, false, false, false, false, true, false], Ws [false, false, true, false, false, false, false, false, false, false, false, false, false, true, true], Ws [false, false, false, true, false, true, false, false, false, false, false, false, true, false, false], Ws [false, false, false, true, false, false, false, true, false, false, false, false, false, true, false], Ws [true, false, false, false, false, true, false, false, false, false, false, false, true, false, true], Ws [false, false, true, false, false, true, false, false, false, false, false, false, true, false, true], Ws [false, false, false, false, false, true, false, false, false, false, true, false, true, false, true], Ws [false, false, false, false, false, true, false, false, false, false, false, true, true, false, true], Ws [false, false, false, false, false, false, false, true, false, false, true, false, false, true, true]] := by
  unfold CM3
  rfl
theorem g03 : D.tup (nmL AXN) = Ws [true, true, true, true, true, true, true, true, true, true, true, true, true, true, true] := by
  unfold Ws AXN
  rfl
theorem gl3 : nSortTx (eV 1) [some (.v (.int (.ofNat 3))), some (.v (.lst (GS3_26.map Ws))), some (.v (Ws [false, false, false, false, false, false, false, true, false, false, true, false, false, true, true]))] [] = .ret (GM3.map Ws) := by kernel_rfl
theorem gr_e3 : r_greatest_sets [(.int (.ofNat 3))] = .ret (.tup (GM3.map Ws)) := by
  have e0 : GS3_0.map Ws = [D.tup (nmL AXN)] := by
    rw [g03]
    unfold GS3_0
    rfl
  have lp : forS ((gIX 2)) ((sSet 1 (eCall r_without_clash 2 (aC (eV 1) (aC (eV 2) aN))))) (CM3.map Ws) [some (.v (.int (.ofNat 3))), some (.v (.lst (GS3_0.map Ws))), none] [] = .ret (.nx [some (.v (.int (.ofNat 3))), some (.v (.lst (GS3_26.map Ws))), some (.v (Ws [false, false, false, false, false, false, false, true, false, false, true, false, false, true, true]))] []) := by
    rw [cml3]
    exact forS_c (nGI rfl) (nSet (nCall (nA (nV rfl) (nA (nV rfl) nN)) rfl gs3_0) rfl) (forS_c (nGI rfl) (nSet (nCall (nA (nV rfl) (nA (nV rfl) nN)) rfl gs3_1) rfl) (forS_c (nGI rfl) (nSet (nCall (nA (nV rfl) (nA (nV rfl) nN)) rfl gs3_2) rfl) (forS_c (nGI rfl) (nSet (nCall (nA (nV rfl) (nA (nV rfl) nN)) rfl gs3_3) rfl) (forS_c (nGI rfl) (nSet (nCall (nA (nV rfl) (nA (nV rfl) nN)) rfl gs3_4) rfl) (forS_c (nGI rfl) (nSet (nCall (nA (nV rfl) (nA (nV rfl) nN)) rfl gs3_5) rfl) (forS_c (nGI rfl) (nSet (nCall (nA (nV rfl) (nA (nV rfl) nN)) rfl gs3_6) rfl) (forS_c (nGI rfl) (nSet (nCall (nA (nV rfl) (nA (nV rfl) nN)) rfl gs3_7) rfl) (forS_c (nGI rfl) (nSet (nCall (nA (nV rfl) (nA (nV rfl) nN)) rfl gs3_8) rfl) (forS_c (nGI rfl) (nSet (nCall (nA (nV rfl) (nA (nV rfl) nN)) rfl gs3_9) rfl) (forS_c (nGI rfl) (nSet (nCall (nA (nV rfl) (nA (nV rfl) nN)) rfl gs3_10) rfl) (forS_c (nGI rfl) (nSet (nCall (nA (nV rfl) (nA (nV rfl) nN)) rfl gs3_11) rfl) (forS_c (nGI rfl) (nSet (nCall (nA (nV rfl) (nA (nV rfl) nN)) rfl gs3_12) rfl) (forS_c (nGI rfl) (nSet (nCall (nA (nV rfl) (nA (nV rfl) nN)) rfl gs3_13) rfl) (forS_c (nGI rfl) (nSet (nCall (nA (nV rfl) (nA (nV rfl) nN)) rfl gs3_14) rfl) (forS_c (nGI rfl) (nSet (nCall (nA (nV rfl) (nA (nV rfl) nN)) rfl gs3_15) rfl) (forS_c (nGI rfl) (nSet (nCall (nA (nV rfl) (nA (nV rfl) nN)) rfl gs3_16) rfl) (forS_c (nGI rfl) (nSet (nCall (nA (nV rfl) (nA (nV rfl) nN)) rfl gs3_17) rfl) (forS_c (nGI rfl) (nSet (nCall (nA (nV rfl) (nA (nV rfl) nN)) rfl gs3_18) rfl) (forS_c (nGI rfl) (nSet (nCall (nA (nV rfl) (nA (nV rfl) nN)) rfl gs3_19) rfl) (forS_c (nGI rfl) (nSet (nCall (nA (nV rfl) (nA (nV rfl) nN)) rfl gs3_20) rfl) (forS_c (nGI rfl) (nSet (nCall (nA (nV rfl) (nA (nV rfl) nN)) rfl gs3_21) rfl) (forS_c (nGI rfl) (nSet (nCall (nA (nV rfl) (nA (nV rfl) nN)) rfl gs3_22) rfl) (forS_c (nGI rfl) (nSet (nCall (nA (nV rfl) (nA (nV rfl) nN)) rfl gs3_23) rfl) (forS_c (nGI rfl) (nSet (nCall (nA (nV rfl) (nA (nV rfl) nN)) rfl gs3_24) rfl) (forS_c (nGI rfl) (nSet (nCall (nA (nV rfl) (nA (nV rfl) nN)) rfl gs3_25) rfl) (rfl))))))))))))))))))))))))))
  have s1 : ((sSetV 1 (lst (nL (aC (eCall r_axioms 0 aN) aN))))) [some (.v (.int (.ofNat 3))), none, none] [] = .ret (.nx [some (.v (.int (.ofNat 3))), some (.v (.lst (GS3_0.map Ws))), none] []) := by
    rw [e0]
    exact nSetV (nLst (nNLi (nA (nCall nN rfl ax_prog) nN) rfl)) rfl
  unfold r_greatest_sets
  exact nB (fr := [some (.v (.int (.ofNat 3))), none, none]) rfl (nSeq s1 (nSeq (nFor (nLseqT (nCall (nA (nV rfl) nN) rfl lc_e3)) lp) (nRetF (nTup gl3))))
theorem lw_c3 : r_law_clashes [(.int (.ofNat 3))] = .ret (.lst (CM3.map Ws)) := by kernel_rfl
theorem lw_f3 : r_law_forcing [(.int (.ofNat 3))] = .ret (.lst (FM3.map Ws)) := by kernel_rfl
theorem lw_g3 : r_law_great [(.int (.ofNat 3))] = .ret (.lst (GM3.map Ws)) := by kernel_rfl
theorem al03 : (CM3 ++ (FM3 ++ GM3)).all (fun c => isTr (r_law_alike 7 [Ws c, Ws c])) = true := by decide +kernel
theorem CMl3 : ∀ c ∈ CM3, c.length = 15 := by decide +kernel
theorem FMl3 : ∀ c ∈ FM3, c.length = 15 := by decide +kernel
theorem GMl3 : ∀ c ∈ GM3, c.length = 15 := by decide +kernel
theorem lens3 : CM3.length ≤ 26 ∧ FM3.length ≤ 26 ∧ GM3.length ≤ 26 := by decide +kernel
theorem okC3 : allO (okD 11) (CM3.map Ws) = true := by decide +kernel
theorem okF3 : allO (okD 11) (FM3.map Ws) = true := by decide +kernel
end Zl
set_option Elab.async false
set_option linter.all false
set_option maxRecDepth 1000000
set_option maxHeartbeats 400000
namespace Zl
open PySem L2 PySem.Spec PyProof.Rows
/-! sets by their names -/
theorem nNiS {fr : Fr} {hp : Hz} {f : Ex} {g : Fr → Hz → T (List D)} {a : List Nat} {l : List (List Nat)} (h1 : f fr hp = .ret (.str a)) (h2 : g fr hp = .ret (nmL l)) : eInF true f g fr hp = .ret (.bl (!decide (a ∈ l))) := by
  unfold eInF
  rw [h1]
  show ((g fr hp).bind _) = _
  rw [h2]
  show inD true (.str a) (nmL l) = _
  unfold inD
  rw [flat_nm, anyF_nm]
  rfl
def inQ (q : List (List Nat)) (d : D) : Bool := (unNm d).all fun a => decide (a ∈ q)
theorem inQ_W (q : List (List Nat)) (c : List Bool) : inQ q (Ws c) = (flG c AXN).all fun a => decide (a ∈ q) := by
  unfold inQ Ws
  rw [unNm_W]
theorem okA {a : List Nat} (h : a ∈ AXN) : okD 11 (D.str a) = true := List.all_eq_true.mp AXok a h
theorem within {M : List (List Bool)} (hM : M.length ≤ 26) (q : List (List Nat)) : r_law_within [.lst (M.map Ws), .tup (nmL q)] = .ret (.lst ((M.map Ws).filter (inQ q))) := by
  have e := lcF_mp (set := (gIX 2)) (t := (b1 (e2 dEqF (lst (nLc (lSeq (eV 2)) (gIX 3) (b1 (eInF true (eV 3) (lSeq (eV 1)))) (eV 3) [3])) (lst (nL aN))))) (e := (eV 2)) (fr := [some (.v (.lst (M.map Ws))), some (.v (.tup (nmL q))), none, none]) (hp := []) Ws (fun c => inQ q (Ws c)) Ws M fun c hc => by
    refine ⟨_, nGI rfl, ?_, fun _ => nV rfl⟩
    have e := lcF_mp (set := (gIX 3)) (t := (b1 (eInF true (eV 3) (lSeq (eV 1))))) (e := (eV 3)) (fr := [some (.v (.lst (M.map Ws))), some (.v (.tup (nmL q))), some (.v (Ws c)), none]) (hp := []) D.str (fun a => !decide (a ∈ q)) D.str (flG c AXN) fun a ha => ⟨_, nGI rfl, nB1 (nNiS (nV rfl) (nLseqT (nV rfl))), fun _ => nV rfl⟩
    have z := dEq_no D.str (fun a => !decide (a ∈ q)) (flG c AXN) fun a ha => okA (flG_mem ha)
    have ez : ((flG c AXN).all fun a => !!decide (a ∈ q)) = inQ q (Ws c) := by
      rw [inQ_W]
      congr 1
      funext a
      rw [Bool.not_not]
    rw [ez] at z
    exact nB1 (n2 (nLst (nLc1 (ds := nmL (flG c AXN)) (nLseqT (nV rfl)) (few_of (Nat.le_trans (W_len c) (by decide))) rfl e)) (nLst (xs := []) rfl) z)
  have e2 : (M.filter fun c => inQ q (Ws c)).map Ws = (M.map Ws).filter (inQ q) := by
    rw [List.filter_map]
    rfl
  rw [e2] at e
  unfold r_law_within
  exact nB (fr := [some (.v (.lst (M.map Ws))), some (.v (.tup (nmL q))), none, none]) rfl (nRetF (nLst (nLc1 (nLseqL (nV rfl)) (few_of (by rw [List.length_map]; omega)) rfl e)))
theorem allc {α : Type} {p q : α → Bool} : ∀ l : List α, (∀ x ∈ l, p x = q x) → l.all p = l.all q
  | [], _ => rfl
  | x :: l, h => by rw [List.all_cons, List.all_cons, h x (by simp), allc l fun y hy => h y (List.mem_cons_of_mem _ hy)]
/-! one name more -/
theorem flG_at : ∀ {bs : List Bool} {xs : List (List Nat)} {k : Nat} {a : List Nat}, bs[k]? = some true → xs[k]? = some a → a ∈ flG bs xs
  | [], _, _, _, h, _ => by simp at h
  | _ :: _, [], _, _, _, h => by simp at h
  | b :: bs, x :: xs, 0, a, h1, h2 => by
    have h1 : b = true := by simpa using h1
    have h2 : x = a := by simpa using h2
    subst h1 h2
    exact List.mem_cons_self
  | b :: bs, x :: xs, k + 1, a, h1, h2 => by
    have := flG_at (k := k) (bs := bs) (xs := xs) (a := a) (by simpa using h1) (by simpa using h2)
    cases b with
    | true => exact List.mem_cons_of_mem _ this
    | false => exact this
theorem flG_set : ∀ {bs : List Bool} {xs : List (List Nat)} {k : Nat} {a : List Nat}, bs[k]? = some false → xs[k]? = some a → (flG (bs.set k true) xs).Perm (flG bs xs ++ [a])
  | [], _, _, _, h, _ => by simp at h
  | _ :: _, [], _, _, _, h => by simp at h
  | b :: bs, x :: xs, 0, a, h1, h2 => by
    have h1 : b = false := by simpa using h1
    have h2 : x = a := by simpa using h2
    subst h1 h2
    exact (List.perm_append_singleton x (flG bs xs)).symm
  | b :: bs, x :: xs, k + 1, a, h1, h2 => by
    have := flG_set (k := k) (bs := bs) (xs := xs) (a := a) (by simpa using h1) (by simpa using h2)
    cases b with
    | true => exact this.cons x
    | false => exact this
theorem lt_as : ∀ {a b : List Nat}, ltCps a b = true → ltCps b a = false
  | [], [], h => by cases h
  | [], _ :: _, _ => rfl
  | _ :: _, [], h => by cases h
  | x :: r, y :: t, h => by
    have h : (decide (x < y) || (x == y && ltCps r t)) = true := h
    show (decide (y < x) || (y == x && ltCps t r)) = false
    rw [Bool.or_eq_true, decide_eq_true_eq, Bool.and_eq_true, beq_iff_eq] at h
    rw [Bool.or_eq_false_iff, decide_eq_false_iff_not, Bool.and_eq_false_iff]
    rcases h with h | ⟨h1, h2⟩
    · exact ⟨by omega, .inl (by rw [beq_eq_false_iff_ne]; omega)⟩
    · exact ⟨by omega, .inr (lt_as h2)⟩
theorem insS_perm (x : List Nat) : ∀ l : List (List Nat), (insS x l).Perm (x :: l)
  | [] => .refl _
  | y :: r => by
    unfold insS
    by_cases h : ltCps y x = true
    · rw [if_pos h]
      exact ((insS_perm x r).cons y).trans (.swap x y r)
    · rw [if_neg h]
theorem isortS_perm : ∀ l : List (List Nat), (isortS l).Perm l
  | [] => .refl _
  | x :: r => (insS_perm x _).trans ((isortS_perm r).cons x)
def riseL : List Nat → List (List Nat) → Bool
  | _, [] => true
  | p, x :: r => !ltCps x p && riseL x r
theorem riseL_eq : ∀ (l : List (List Nat)) (p : List Nat), risingS (mkS p) (l.map mkS) = riseL p l
  | [], _ => rfl
  | x :: r, p => by
    show (!ltCps x p && risingS (mkS x) (r.map mkS)) = _
    rw [riseL_eq r x]
    rfl
theorem insS_rise (x : List Nat) : ∀ (l : List (List Nat)) (p : List Nat), ltCps x p = false → riseL p l = true → riseL p (insS x l) = true
  | [], p, h, _ => by
    show (!ltCps x p && true) = true
    rw [h]
    rfl
  | y :: r, p, h, hr => by
    have hr : (!ltCps y p && riseL y r) = true := hr
    rw [Bool.and_eq_true] at hr
    unfold insS
    by_cases q : ltCps y x = true
    · rw [if_pos q]
      show (!ltCps y p && riseL y (insS x r)) = true
      rw [hr.1, insS_rise x r y (lt_as q) hr.2]
      rfl
    · rw [if_neg q]
      show (!ltCps x p && (!ltCps y x && riseL y r)) = true
      rw [h, hr.2, show ltCps y x = false by simpa using q]
      rfl
theorem isortS_sorted : ∀ l : List (List Nat), sortedS ((isortS l).map mkS) = true := by
  have key : ∀ l : List (List Nat), sortedS (l.map mkS) = true → ∀ x, sortedS ((insS x l).map mkS) = true := by
    intro l h x
    cases l with
    | nil => rfl
    | cons y r =>
      have h : risingS (mkS y) (r.map mkS) = true := h
      rw [riseL_eq] at h
      unfold insS
      by_cases q : ltCps y x = true
      · rw [if_pos q]
        show risingS (mkS y) ((insS x r).map mkS) = true
        rw [riseL_eq]
        exact insS_rise x r y (lt_as q) h
      · rw [if_neg q]
        show risingS (mkS x) ((y :: r).map mkS) = true
        rw [riseL_eq]
        show (!ltCps y x && riseL y r) = true
        rw [h, show ltCps y x = false by simpa using q]
        rfl
  intro l
  induction l with
  | nil => rfl
  | cons x r ih => exact key _ ih x
theorem mkS_inj {a b : List (List Nat)} (h : a.map mkS = b.map mkS) : a = b := by
  have := congrArg (List.map fun x : Str => x.cps.toList) h
  rw [List.map_map, List.map_map] at this
  simpa [Function.comp_def, mkS] using this
theorem sort_one {bs : List Bool} {k : Nat} {a : List Nat} (h1 : bs[k]? = some false) (h2 : AXN[k]? = some a) : isortS (flG bs AXN ++ [a]) = flG (bs.set k true) AXN :=
  mkS_inj (sortedS_one (isortS_sorted _) (sorted_fl AXN _ AXpw) (((isortS_perm _).trans (flG_set h1 h2).symm).map mkS))
theorem nm_app (l : List (List Nat)) (a : List Nat) : nmL l ++ [D.str a] = nmL (l ++ [a]) := by
  unfold nmL
  rw [List.map_append]
  rfl
theorem dPlus_tup {xs ys : List D} (h : (few xs 10000 && few ys 10000) = true) : dPlus (.tup xs) (.tup ys) = .ret (.tup (xs ++ ys)) := by
  show guardT _ _ = _
  rw [h]
  rfl
theorem plus_a {fr : Fr} {hp : Hz} {f f' : Ex} {bs : List Bool} {a : List Nat} (h1 : f fr hp = .ret (Ws bs)) (h2 : f' fr hp = .ret (.str a)) : e2 dPlus f (eT (aC f' aN)) fr hp = .ret (.tup (nmL (flG bs AXN ++ [a]))) := by
  refine n2 h1 (nET (nA h2 nN) rfl) ?_
  unfold Ws
  rw [dPlus_tup (by rw [few_of (Nat.le_trans (W_len bs) (by decide))]; rfl), nm_app]
theorem with_one_ {bs : List Bool} {k : Nat} {a : List Nat} (h1 : bs[k]? = some false) (h2 : AXN[k]? = some a) : r_with_one [Ws bs, .str a] = .ret (Ws (bs.set k true)) := by
  have e : (vT (e2 dPlus (eV 0) (eT (aC (eV 1) aN)))) [some (.v (Ws bs)), some (.v (.str a))] [] = .ret (nmL (flG bs AXN ++ [a])) := by
    unfold vT
    rw [T.bindE (plus_a (nV rfl) (nV rfl))]
    rfl
  have l16 : (nmL (flG bs AXN ++ [a])).length ≤ 60 := by
    rw [nmL_len, List.length_append]
    have := W_len bs
    rw [nmL_len] at this
    show (flG bs AXN).length + 1 ≤ 60
    omega
  have e2 : nSortS (vT (e2 dPlus (eV 0) (eT (aC (eV 1) aN)))) [some (.v (Ws bs)), some (.v (.str a))] [] = .ret (nmL (flG (bs.set k true) AXN)) := by
    unfold nSortS
    rw [e]
    show ((ofO (strsO (nmL (flG bs AXN ++ [a])))).bind fun ss => guardT (few (nmL (flG bs AXN ++ [a])) 60 && (sortedS ((isortS ss).map mkS) && (isortS ss).isPerm ss)) (.ret ((isortS ss).map D.str))) = _
    rw [strsO_of]
    show guardT (few (nmL (flG bs AXN ++ [a])) 60 && (sortedS ((isortS (flG bs AXN ++ [a])).map mkS) && (isortS (flG bs AXN ++ [a])).isPerm (flG bs AXN ++ [a]))) (.ret ((isortS (flG bs AXN ++ [a])).map D.str)) = _
    rw [few_of l16, isortS_sorted, List.isPerm_iff.mpr (isortS_perm _), sort_one h1 h2]
    rfl
  unfold r_with_one
  exact nB (fr := [some (.v (Ws bs)), some (.v (.str a))]) rfl (nRetF (nTup e2))
end Zl
set_option Elab.async false
set_option linter.all false
set_option maxRecDepth 1000000
set_option maxHeartbeats 400000
namespace Zl
open PySem L2
/-! no least clash lies within exactly where a greatest set holds it -/
def chk2 : Nat → List (List Bool) → List (List Bool) → Bool
  | 0, cs, rs => Nat.beq cs.length 0 == !Nat.beq rs.length 0
  | n + 1, cs, rs => bif chk2 n (cs.map List.tail) ((rs.filter fun r => r.headD true).map List.tail) then chk2 n ((cs.filter fun c => !hd0 c).map List.tail) (rs.map List.tail) else false
theorem chk2_s {n : Nat} {cs rs cs1 rs1 cs2 rs2 : List (List Bool)} (a1 : cs.map List.tail = cs1) (a3 : (rs.filter fun r => r.headD true).map List.tail = rs1) (b1 : (cs.filter fun c => !hd0 c).map List.tail = cs2) (b3 : rs.map List.tail = rs2) (h1 : chk2 n cs1 rs1 = true) (h2 : chk2 n cs2 rs2 = true) : chk2 (n + 1) cs rs = true := by
  unfold chk2
  rw [a1, a3, b1, b3, h1, h2]
  rfl
theorem chk2_ok : ∀ (n : Nat) (cs rs : List (List Bool)), chk2 n cs rs = true → ∀ bs : List Bool, bs.length = n → (Nat.beq (cs.countP fun c => subB c bs) 0 == !Nat.beq (rs.countP fun r => subB bs r) 0) = true
  | 0, cs, rs, h, [], _ => by
    have e : ∀ l : List (List Bool), (l.countP fun c => subB c []) = l.length := fun l => by
      rw [List.countP_eq_length]
      exact fun c _ => sub_nil c
    have e2 : ∀ l : List (List Bool), (l.countP fun r => subB [] r) = l.length := fun l => by
      rw [List.countP_eq_length]
      exact fun c _ => rfl
    rw [e, e2]
    exact h
  | n + 1, cs, rs, h, b :: bs, hb => by
    unfold chk2 at h
    cases q : chk2 n (cs.map List.tail) ((rs.filter fun r => r.headD true).map List.tail) with
    | false => rw [q] at h; cases h
    | true =>
      rw [q] at h
      have hb2 : bs.length = n := by simpa using hb
      cases b with
      | true =>
        have := chk2_ok n _ _ q bs hb2
        rw [countP_tail, countP_and] at this
        rw [show (fun c => subB c (true :: bs)) = fun c => subB c.tail bs from funext fun c => sub_t c bs, show (fun r => subB (true :: bs) r) = fun r => (r.headD true && subB bs r.tail) from funext fun r => tsub r bs]
        exact this
      | false =>
        have := chk2_ok n _ _ h bs hb2
        rw [countP_and, countP_tail] at this
        rw [show (fun c => subB c (false :: bs)) = fun c => (!hd0 c && subB c.tail bs) from funext fun c => sub_f c bs, show (fun r => subB (false :: bs) r) = fun r => subB bs r.tail from funext fun r => fsub r bs]
        exact this
  | 0, _, _, _, _ :: _, h => by cases h
  | _ + 1, _, _, _, [], h => by cases h
theorem empQ (M : List (List Bool)) (q : List (List Nat)) : ((M.map Ws).filter (inQ q)).isEmpty = Nat.beq (M.countP fun c => (flG c AXN).all fun a => decide (a ∈ q)) 0 := by
  induction M with
  | nil => rfl
  | cons c M ih =>
    rw [List.map_cons]
    cases z : inQ q (Ws c) with
    | true =>
      rw [List.filter_cons_of_pos z]
      rw [inQ_W] at z
      rw [List.countP_cons_of_pos (p := fun c => (flG c AXN).all fun a => decide (a ∈ q)) z]
      rfl
    | false =>
      rw [List.filter_cons_of_neg (by rw [z]; exact Bool.false_ne_true)]
      rw [inQ_W] at z
      rw [List.countP_cons_of_neg (p := fun c => (flG c AXN).all fun a => decide (a ∈ q)) (by rw [z]; exact Bool.false_ne_true)]
      exact ih
theorem lawis (a : Bool) : r_law_is [.bl a, .bl a] = .ret (.bl true) := by cases a <;> kernel_rfl
theorem dNe_bl (a : Bool) : dNeF (.bl a) (.bl a) = .ret (.bl false) := by cases a <;> kernel_rfl
theorem alikeT {i : Nat} {L : List D} (hl : L.length ≤ 1000) (h : ∀ d ∈ L, r_law_alike i [d, d] = .ret (.bl true)) : r_law_alike (i + 1) [.tup L, .tup L] = .ret (.bl true) := by
  unfold r_law_alike
  have dN : ∀ n : Nat, dNeF (.int (.ofNat n)) (.int (.ofNat n)) = .ret (.bl false) := fun n => by rw [dNe_nat, Nat.beq_refl]; rfl
  have rng_n : ∀ n : Nat, n ≤ 1000 → rng1 [.int (.ofNat n)] = .ret (upto 0 n) := fun n h => by
    show guardT (smallI (n : Int)) (.ret (upto 0 (n : Int).toNat)) = _
    have : smallI (n : Int) = true := by
      unfold smallI
      rw [decide_eq_true (by omega), decide_eq_true (by omega)]
      rfl
    rw [this, Int.toNat_natCast]
    rfl
  refine nB (fr := [some (.v (.tup L)), some (.v (.tup L)), none]) rfl (nSeqR (nIfT (nB1 rfl) (nSeq (nIfF (nOrF (nNot (b := true) (nB1 rfl) rfl) (nB1 (n2 (x := .bl false) (y := .bl false) rfl rfl rfl))) nNil) (nSeq (nIfF (nB1 (n2 (nLen (nLseqT (nV rfl)) rfl) (nLen (nLseqT (nV rfl)) rfl) (dN _))) nNil)
    (nRetF (n2 (x := .lst []) (y := .lst []) (nLst (nLc1 (nR1 (nA (nLen (nLseqT (nV rfl)) rfl) nN) (rng_n _ hl)) (few_of (by rw [upto_len]; omega)) rfl ?_)) rfl rfl))))))
  have fn : ∀ l : List D, l.filter (fun _ => false) = [] := fun l => List.filter_eq_nil_iff.mpr fun _ _ => Bool.false_ne_true
  refine (lcF_map (fun _ => false) (fun d => d) _ ?_).trans (by rw [fn]; rfl)
  intro d hd
  obtain ⟨k, e⟩ := List.mem_iff_getElem?.mp hd
  have h1 := (List.getElem?_eq_some_iff.mp e).1
  rw [upto_len] at h1
  obtain rfl : d = .int (.ofNat k) := by
    rw [upto_get _ _ _ _ e]
    show D.int (0 + (k : Int)) = D.int (k : Int)
    rw [Int.zero_add]
  obtain ⟨x, hx⟩ := gtL_lt (xs := L) h1
  have hm : x ∈ L := by
    rw [gtL_eq] at hx
    exact List.mem_of_getElem? hx
  refine ⟨[some (.v (.tup L)), some (.v (.tup L)), some (.v (.int (.ofNat k)))], nGF rfl, ?_, fun z => by cases z⟩
  exact nNot (b := true) (nB1 (nCall (nA (nIx (nLseqT (nV rfl)) (nV rfl) hx) (nA (nIx (nLseqT (nV rfl)) (nV rfl) hx) nN)) rfl (h x hm))) rfl
theorem alS0 : AXN.all (fun a => isTr (r_law_alike 7 [.str a, .str a])) = true := by decide +kernel
theorem alN {l : List (List Nat)} (h : ∀ a ∈ l, a ∈ AXN) (hl : l.length ≤ 15) : r_law_alike 8 [.tup (nmL l), .tup (nmL l)] = .ret (.bl true) := alikeT (by rw [nmL_len]; omega) fun d hd => by
  obtain ⟨a, ha, rfl⟩ := nmL_mem hd
  exact isTr_eq (List.all_eq_true.mp alS0 a (h a ha))
/-- the place of a name -/
def ixA (a : List Nat) : Nat := AXN.idxOf a
theorem ixA_ok {a : List Nat} (h : a ∈ AXN) : AXN[ixA a]? = some a := by
  have := List.idxOf_lt_length_iff.mpr h
  unfold ixA
  rw [List.getElem?_eq_getElem this, List.getElem_idxOf this]
theorem notin_at {bs : List Bool} (hb : bs.length = 15) {a : List Nat} (h : a ∈ AXN) (hn : a ∉ flG bs AXN) : bs[ixA a]? = some false := by
  have hi : ixA a < bs.length := by
    rw [hb, ← AXl]
    exact List.idxOf_lt_length_iff.mpr h
  rw [List.getElem?_eq_getElem hi]
  cases q : bs[ixA a] with
  | false => rfl
  | true => exact absurd (flG_at (by rw [List.getElem?_eq_getElem hi, q]) (ixA_ok h)) hn
theorem ck2_tttt : chk2 11 [[false, false, false, false, false, false, false, false, true, false, false], [true, false, false, false, false, false, false, false, true, false, false], [false, false, false, false, true, false, false, false, true, false, false], [false, true, false, false, false, false, false, false, true, false, false], [false, true, false, false, false, false, false, false, true, false, false], [false, true, false, false, false, false, false, false, true, false, false], [false, true, true, false, false, false, false, false, true, false, false], [false, true, false, false, false, true, false, false, true, false, false], [false, true, false, false, false, false, false, true, true, false, false], [false, true, false, false, false, false, false, false, true, false, true]] [[true, true, true, true, true, true, true, true, false, true, true]] = true := by decide +kernel
theorem ck2_tttf : chk2 11 [[false, false, false, false, false, false, false, false, true, false, false], [true, false, false, false, false, false, false, false, true, false, false], [false, false, false, false, true, false, false, false, true, false, false], [false, true, false, false, false, false, false, false, true, false, false], [false, true, false, false, false, false, false, false, true, false, false], [false, true, true, false, false, false, false, false, true, false, false], [false, true, false, false, false, true, false, false, true, false, false], [false, true, false, false, false, false, false, true, true, false, false], [false, true, false, false, false, false, false, false, true, false, true]] [[true, true, true, true, true, true, true, true, false, true, true]] = true := by decide +kernel
theorem ck2_ttt : chk2 12 [[false, false, false, false, false, false, false, false, false, true, false, false], [false, true, false, false, false, false, false, false, false, true, false, false], [false, false, false, false, false, true, false, false, false, true, false, false], [false, false, true, false, false, false, false, false, false, true, false, false], [false, false, true, false, false, false, false, false, false, true, false, false], [true, false, true, false, false, false, false, false, false, true, false, false], [false, false, true, true, false, false, false, false, false, true, false, false], [false, false, true, false, false, false, true, false, false, true, false, false], [false, false, true, false, false, false, false, false, true, true, false, false], [false, false, true, false, false, false, false, false, false, true, false, true]] [[true, true, true, true, true, true, true, true, true, false, true, true]] = true := chk2_s (n := 11) (by kernel_rfl) (by kernel_rfl) (by kernel_rfl) (by kernel_rfl) ck2_tttt ck2_tttf
theorem ck2_ttft : chk2 11 [[false, false, false, false, false, false, false, false, true, false, false], [true, false, false, false, false, false, false, false, true, false, false], [false, false, false, false, true, false, false, false, true, false, false], [false, true, false, false, false, false, false, false, true, false, false], [false, true, false, false, false, false, false, false, true, false, false], [false, true, true, false, false, false, false, false, true, false, false], [false, true, false, false, false, true, false, false, true, false, false], [false, true, false, false, false, false, false, true, true, false, false], [false, true, false, false, false, false, false, false, true, false, true]] [[true, true, true, true, true, true, true, true, false, true, true]] = true := by decide +kernel
theorem ck2_ttff : chk2 11 [[false, false, false, false, false, false, false, false, true, false, false], [true, false, false, false, false, false, false, false, true, false, false], [false, false, false, false, true, false, false, false, true, false, false], [false, true, false, false, false, false, false, false, true, false, false], [false, true, true, false, false, false, false, false, true, false, false], [false, true, false, false, false, true, false, false, true, false, false], [false, true, false, false, false, false, false, true, true, false, false], [false, true, false, false, false, false, false, false, true, false, true]] [[true, true, true, true, true, true, true, true, false, true, true]] = true := by decide +kernel
theorem ck2_ttf : chk2 12 [[false, false, false, false, false, false, false, false, false, true, false, false], [false, true, false, false, false, false, false, false, false, true, false, false], [false, false, false, false, false, true, false, false, false, true, false, false], [false, false, true, false, false, false, false, false, false, true, false, false], [true, false, true, false, false, false, false, false, false, true, false, false], [false, false, true, true, false, false, false, false, false, true, false, false], [false, false, true, false, false, false, true, false, false, true, false, false], [false, false, true, false, false, false, false, false, true, true, false, false], [false, false, true, false, false, false, false, false, false, true, false, true]] [[true, true, true, true, true, true, true, true, true, false, true, true]] = true := chk2_s (n := 11) (by kernel_rfl) (by kernel_rfl) (by kernel_rfl) (by kernel_rfl) ck2_ttft ck2_ttff
theorem ck2_tt : chk2 13 [[false, false, false, false, false, false, false, false, false, false, true, false, false], [false, false, true, false, false, false, false, false, false, false, true, false, false], [false, false, false, false, false, false, true, false, false, false, true, false, false], [false, false, false, true, false, false, false, false, false, false, true, false, false], [true, false, false, true, false, false, false, false, false, false, true, false, false], [false, true, false, true, false, false, false, false, false, false, true, false, false], [false, false, false, true, true, false, false, false, false, false, true, false, false], [false, false, false, true, false, false, false, true, false, false, true, false, false], [false, false, false, true, false, false, false, false, false, true, true, false, false], [false, false, false, true, false, false, false, false, false, false, true, false, true]] [[true, true, true, true, true, true, true, true, true, true, false, true, true]] = true := chk2_s (n := 12) (by kernel_rfl) (by kernel_rfl) (by kernel_rfl) (by kernel_rfl) ck2_ttt ck2_ttf
theorem ck2_tftt : chk2 11 [[true, false, false, false, false, false, false, false, true, false, false], [false, false, false, false, true, false, false, false, true, false, false], [false, true, false, false, false, false, false, false, true, false, false], [false, true, false, false, false, false, false, false, true, false, false], [false, true, false, false, false, false, false, false, true, false, false], [false, true, true, false, false, false, false, false, true, false, false], [false, true, false, false, false, true, false, false, true, false, false], [false, true, false, false, false, false, false, true, true, false, false], [false, true, false, false, false, false, false, false, true, false, true]] [[true, true, true, true, true, true, true, true, false, true, true], [false, false, true, true, false, true, true, true, true, true, true]] = true := by decide +kernel
theorem ck2_tftf : chk2 11 [[true, false, false, false, false, false, false, false, true, false, false], [false, false, false, false, true, false, false, false, true, false, false], [false, true, false, false, false, false, false, false, true, false, false], [false, true, false, false, false, false, false, false, true, false, false], [false, true, true, false, false, false, false, false, true, false, false], [false, true, false, false, false, true, false, false, true, false, false], [false, true, false, false, false, false, false, true, true, false, false], [false, true, false, false, false, false, false, false, true, false, true]] [[true, true, true, true, true, true, true, true, false, true, true], [false, false, true, true, false, true, true, true, true, true, true]] = true := by decide +kernel
theorem ck2_tft : chk2 12 [[false, true, false, false, false, false, false, false, false, true, false, false], [false, false, false, false, false, true, false, false, false, true, false, false], [false, false, true, false, false, false, false, false, false, true, false, false], [false, false, true, false, false, false, false, false, false, true, false, false], [true, false, true, false, false, false, false, false, false, true, false, false], [false, false, true, true, false, false, false, false, false, true, false, false], [false, false, true, false, false, false, true, false, false, true, false, false], [false, false, true, false, false, false, false, false, true, true, false, false], [false, false, true, false, false, false, false, false, false, true, false, true]] [[true, true, true, true, true, true, true, true, true, false, true, true], [true, false, false, true, true, false, true, true, true, true, true, true]] = true := chk2_s (n := 11) (by kernel_rfl) (by kernel_rfl) (by kernel_rfl) (by kernel_rfl) ck2_tftt ck2_tftf
theorem ck2_tfft : chk2 11 [[true, false, false, false, false, false, false, false, true, false, false], [false, false, false, false, true, false, false, false, true, false, false], [false, true, false, false, false, false, false, false, true, false, false], [false, true, false, false, false, false, false, false, true, false, false], [false, true, true, false, false, false, false, false, true, false, false], [false, true, false, false, false, true, false, false, true, false, false], [false, true, false, false, false, false, false, true, true, false, false], [false, true, false, false, false, false, false, false, true, false, true]] [[true, true, true, true, true, true, true, true, false, true, true], [false, false, true, true, false, true, true, true, true, true, true]] = true := by decide +kernel
theorem ck2_tfff : chk2 11 [[true, false, false, false, false, false, false, false, true, false, false], [false, false, false, false, true, false, false, false, true, false, false], [false, true, false, false, false, false, false, false, true, false, false], [false, true, true, false, false, false, false, false, true, false, false], [false, true, false, false, false, true, false, false, true, false, false], [false, true, false, false, false, false, false, true, true, false, false], [false, true, false, false, false, false, false, false, true, false, true]] [[true, true, true, true, true, true, true, true, false, true, true], [false, false, true, true, false, true, true, true, true, true, true]] = true := by decide +kernel
theorem ck2_tff : chk2 12 [[false, true, false, false, false, false, false, false, false, true, false, false], [false, false, false, false, false, true, false, false, false, true, false, false], [false, false, true, false, false, false, false, false, false, true, false, false], [true, false, true, false, false, false, false, false, false, true, false, false], [false, false, true, true, false, false, false, false, false, true, false, false], [false, false, true, false, false, false, true, false, false, true, false, false], [false, false, true, false, false, false, false, false, true, true, false, false], [false, false, true, false, false, false, false, false, false, true, false, true]] [[true, true, true, true, true, true, true, true, true, false, true, true], [true, false, false, true, true, false, true, true, true, true, true, true]] = true := chk2_s (n := 11) (by kernel_rfl) (by kernel_rfl) (by kernel_rfl) (by kernel_rfl) ck2_tfft ck2_tfff
theorem ck2_tf : chk2 13 [[false, false, true, false, false, false, false, false, false, false, true, false, false], [false, false, false, false, false, false, true, false, false, false, true, false, false], [false, false, false, true, false, false, false, false, false, false, true, false, false], [true, false, false, true, false, false, false, false, false, false, true, false, false], [false, true, false, true, false, false, false, false, false, false, true, false, false], [false, false, false, true, true, false, false, false, false, false, true, false, false], [false, false, false, true, false, false, false, true, false, false, true, false, false], [false, false, false, true, false, false, false, false, false, true, true, false, false], [false, false, false, true, false, false, false, false, false, false, true, false, true]] [[true, true, true, true, true, true, true, true, true, true, false, true, true], [true, true, false, false, true, true, false, true, true, true, true, true, true]] = true := chk2_s (n := 12) (by kernel_rfl) (by kernel_rfl) (by kernel_rfl) (by kernel_rfl) ck2_tft ck2_tff
theorem ck2_t : chk2 14 [[true, false, false, false, false, false, false, false, false, false, false, true, false, false], [false, false, false, true, false, false, false, false, false, false, false, true, false, false], [false, false, false, false, false, false, false, true, false, false, false, true, false, false], [false, false, false, false, true, false, false, false, false, false, false, true, false, false], [false, true, false, false, true, false, false, false, false, false, false, true, false, false], [false, false, true, false, true, false, false, false, false, false, false, true, false, false], [false, false, false, false, true, true, false, false, false, false, false, true, false, false], [false, false, false, false, true, false, false, false, true, false, false, true, false, false], [false, false, false, false, true, false, false, false, false, false, true, true, false, false], [false, false, false, false, true, false, false, false, false, false, false, true, false, true]] [[true, true, true, true, true, true, true, true, true, true, true, false, true, true], [false, true, true, false, false, true, true, false, true, true, true, true, true, true]] = true := chk2_s (n := 13) (by kernel_rfl) (by kernel_rfl) (by kernel_rfl) (by kernel_rfl) ck2_tt ck2_tf
theorem ck2_fttt : chk2 11 [[false, false, false, false, false, false, false, false, true, false, false], [true, false, false, false, false, false, false, false, true, false, false], [false, false, false, false, true, false, false, false, true, false, false], [false, true, false, false, false, false, false, false, true, false, false], [false, true, false, false, false, false, false, false, true, false, false], [false, true, true, false, false, false, false, false, true, false, false], [false, true, false, false, false, true, false, false, true, false, false], [false, true, false, false, false, false, false, true, true, false, false], [false, true, false, false, false, false, false, false, true, false, true]] [[true, true, true, true, true, true, true, true, false, true, true]] = true := by decide +kernel
theorem ck2_fttf : chk2 11 [[false, false, false, false, false, false, false, false, true, false, false], [true, false, false, false, false, false, false, false, true, false, false], [false, false, false, false, true, false, false, false, true, false, false], [false, true, false, false, false, false, false, false, true, false, false], [false, true, true, false, false, false, false, false, true, false, false], [false, true, false, false, false, true, false, false, true, false, false], [false, true, false, false, false, false, false, true, true, false, false], [false, true, false, false, false, false, false, false, true, false, true]] [[true, true, true, true, true, true, true, true, false, true, true]] = true := by decide +kernel
theorem ck2_ftt : chk2 12 [[false, false, false, false, false, false, false, false, false, true, false, false], [false, true, false, false, false, false, false, false, false, true, false, false], [false, false, false, false, false, true, false, false, false, true, false, false], [false, false, true, false, false, false, false, false, false, true, false, false], [true, false, true, false, false, false, false, false, false, true, false, false], [false, false, true, true, false, false, false, false, false, true, false, false], [false, false, true, false, false, false, true, false, false, true, false, false], [false, false, true, false, false, false, false, false, true, true, false, false], [false, false, true, false, false, false, false, false, false, true, false, true]] [[true, true, true, true, true, true, true, true, true, false, true, true]] = true := chk2_s (n := 11) (by kernel_rfl) (by kernel_rfl) (by kernel_rfl) (by kernel_rfl) ck2_fttt ck2_fttf
theorem ck2_ftft : chk2 11 [[false, false, false, false, false, false, false, false, true, false, false], [true, false, false, false, false, false, false, false, true, false, false], [false, false, false, false, true, false, false, false, true, false, false], [false, true, false, false, false, false, false, false, true, false, false], [false, true, true, false, false, false, false, false, true, false, false], [false, true, false, false, false, true, false, false, true, false, false], [false, true, false, false, false, false, false, true, true, false, false], [false, true, false, false, false, false, false, false, true, false, true]] [[true, true, true, true, true, true, true, true, false, true, true]] = true := by decide +kernel
theorem ck2_ftff : chk2 11 [[false, false, false, false, false, false, false, false, true, false, false], [true, false, false, false, false, false, false, false, true, false, false], [false, false, false, false, true, false, false, false, true, false, false], [false, true, true, false, false, false, false, false, true, false, false], [false, true, false, false, false, true, false, false, true, false, false], [false, true, false, false, false, false, false, true, true, false, false], [false, true, false, false, false, false, false, false, true, false, true]] [[true, true, true, true, true, true, true, true, false, true, true]] = true := by decide +kernel
theorem ck2_ftf : chk2 12 [[false, false, false, false, false, false, false, false, false, true, false, false], [false, true, false, false, false, false, false, false, false, true, false, false], [false, false, false, false, false, true, false, false, false, true, false, false], [true, false, true, false, false, false, false, false, false, true, false, false], [false, false, true, true, false, false, false, false, false, true, false, false], [false, false, true, false, false, false, true, false, false, true, false, false], [false, false, true, false, false, false, false, false, true, true, false, false], [false, false, true, false, false, false, false, false, false, true, false, true]] [[true, true, true, true, true, true, true, true, true, false, true, true]] = true := chk2_s (n := 11) (by kernel_rfl) (by kernel_rfl) (by kernel_rfl) (by kernel_rfl) ck2_ftft ck2_ftff
theorem ck2_ft : chk2 13 [[false, false, false, false, false, false, false, false, false, false, true, false, false], [false, false, true, false, false, false, false, false, false, false, true, false, false], [false, false, false, false, false, false, true, false, false, false, true, false, false], [true, false, false, true, false, false, false, false, false, false, true, false, false], [false, true, false, true, false, false, false, false, false, false, true, false, false], [false, false, false, true, true, false, false, false, false, false, true, false, false], [false, false, false, true, false, false, false, true, false, false, true, false, false], [false, false, false, true, false, false, false, false, false, true, true, false, false], [false, false, false, true, false, false, false, false, false, false, true, false, true]] [[true, true, true, true, true, true, true, true, true, true, false, true, true]] = true := chk2_s (n := 12) (by kernel_rfl) (by kernel_rfl) (by kernel_rfl) (by kernel_rfl) ck2_ftt ck2_ftf
theorem ck2_fftt : chk2 11 [[true, false, false, false, false, false, false, false, true, false, false], [false, false, false, false, true, false, false, false, true, false, false], [false, true, false, false, false, false, false, false, true, false, false], [false, true, false, false, false, false, false, false, true, false, false], [false, true, true, false, false, false, false, false, true, false, false], [false, true, false, false, false, true, false, false, true, false, false], [false, true, false, false, false, false, false, true, true, false, false], [false, true, false, false, false, false, false, false, true, false, true]] [[true, true, true, true, true, true, true, true, false, true, true], [false, false, true, true, false, true, true, true, true, true, true]] = true := by decide +kernel
theorem ck2_fftf : chk2 11 [[true, false, false, false, false, false, false, false, true, false, false], [false, false, false, false, true, false, false, false, true, false, false], [false, true, false, false, false, false, false, false, true, false, false], [false, true, true, false, false, false, false, false, true, false, false], [false, true, false, false, false, true, false, false, true, false, false], [false, true, false, false, false, false, false, true, true, false, false], [false, true, false, false, false, false, false, false, true, false, true]] [[true, true, true, true, true, true, true, true, false, true, true], [false, false, true, true, false, true, true, true, true, true, true]] = true := by decide +kernel
theorem ck2_fft : chk2 12 [[false, true, false, false, false, false, false, false, false, true, false, false], [false, false, false, false, false, true, false, false, false, true, false, false], [false, false, true, false, false, false, false, false, false, true, false, false], [true, false, true, false, false, false, false, false, false, true, false, false], [false, false, true, true, false, false, false, false, false, true, false, false], [false, false, true, false, false, false, true, false, false, true, false, false], [false, false, true, false, false, false, false, false, true, true, false, false], [false, false, true, false, false, false, false, false, false, true, false, true]] [[true, true, true, true, true, true, true, true, true, false, true, true], [true, false, false, true, true, false, true, true, true, true, true, true]] = true := chk2_s (n := 11) (by kernel_rfl) (by kernel_rfl) (by kernel_rfl) (by kernel_rfl) ck2_fftt ck2_fftf
theorem ck2_ffft : chk2 11 [[true, false, false, false, false, false, false, false, true, false, false], [false, false, false, false, true, false, false, false, true, false, false], [false, true, false, false, false, false, false, false, true, false, false], [false, true, true, false, false, false, false, false, true, false, false], [false, true, false, false, false, true, false, false, true, false, false], [false, true, false, false, false, false, false, true, true, false, false], [false, true, false, false, false, false, false, false, true, false, true]] [[true, true, true, true, true, true, true, true, false, true, true], [false, false, true, true, false, true, true, true, true, true, true]] = true := by decide +kernel
theorem ck2_ffff : chk2 11 [[true, false, false, false, false, false, false, false, true, false, false], [false, false, false, false, true, false, false, false, true, false, false], [false, true, true, false, false, false, false, false, true, false, false], [false, true, false, false, false, true, false, false, true, false, false], [false, true, false, false, false, false, false, true, true, false, false], [false, true, false, false, false, false, false, false, true, false, true]] [[true, true, true, true, true, true, true, true, false, true, true], [false, false, true, true, false, true, true, true, true, true, true], [false, true, false, true, false, false, true, false, true, true, false]] = true := by decide +kernel
theorem ck2_fff : chk2 12 [[false, true, false, false, false, false, false, false, false, true, false, false], [false, false, false, false, false, true, false, false, false, true, false, false], [true, false, true, false, false, false, false, false, false, true, false, false], [false, false, true, true, false, false, false, false, false, true, false, false], [false, false, true, false, false, false, true, false, false, true, false, false], [false, false, true, false, false, false, false, false, true, true, false, false], [false, false, true, false, false, false, false, false, false, true, false, true]] [[true, true, true, true, true, true, true, true, true, false, true, true], [true, false, false, true, true, false, true, true, true, true, true, true], [false, false, true, false, true, false, false, true, false, true, true, false]] = true := chk2_s (n := 11) (by kernel_rfl) (by kernel_rfl) (by kernel_rfl) (by kernel_rfl) ck2_ffft ck2_ffff
theorem ck2_ff : chk2 13 [[false, false, true, false, false, false, false, false, false, false, true, false, false], [false, false, false, false, false, false, true, false, false, false, true, false, false], [true, false, false, true, false, false, false, false, false, false, true, false, false], [false, true, false, true, false, false, false, false, false, false, true, false, false], [false, false, false, true, true, false, false, false, false, false, true, false, false], [false, false, false, true, false, false, false, true, false, false, true, false, false], [false, false, false, true, false, false, false, false, false, true, true, false, false], [false, false, false, true, false, false, false, false, false, false, true, false, true]] [[true, true, true, true, true, true, true, true, true, true, false, true, true], [true, true, false, false, true, true, false, true, true, true, true, true, true], [false, false, false, true, false, true, false, false, true, false, true, true, false]] = true := chk2_s (n := 12) (by kernel_rfl) (by kernel_rfl) (by kernel_rfl) (by kernel_rfl) ck2_fft ck2_fff
theorem ck2_f : chk2 14 [[true, false, false, false, false, false, false, false, false, false, false, true, false, false], [false, false, false, true, false, false, false, false, false, false, false, true, false, false], [false, false, false, false, false, false, false, true, false, false, false, true, false, false], [false, true, false, false, true, false, false, false, false, false, false, true, false, false], [false, false, true, false, true, false, false, false, false, false, false, true, false, false], [false, false, false, false, true, true, false, false, false, false, false, true, false, false], [false, false, false, false, true, false, false, false, true, false, false, true, false, false], [false, false, false, false, true, false, false, false, false, false, true, true, false, false], [false, false, false, false, true, false, false, false, false, false, false, true, false, true]] [[true, true, true, true, true, true, true, true, true, true, true, false, true, true], [false, true, true, false, false, true, true, false, true, true, true, true, true, true], [false, false, false, false, true, false, true, false, false, true, false, true, true, false]] = true := chk2_s (n := 13) (by kernel_rfl) (by kernel_rfl) (by kernel_rfl) (by kernel_rfl) ck2_ft ck2_ff
theorem ck2_ : chk2 15 CM2 GM2 = true := chk2_s (n := 14) (by kernel_rfl) (by kernel_rfl) (by kernel_rfl) (by kernel_rfl) ck2_t ck2_f
theorem cla2 {bs : List Bool} (hb : bs.length = 15) : r_clashes [(.int (.ofNat 2)), Ws bs] = .ret (.tup ((CM2.map Ws).filter (inW bs))) := by
  unfold r_clashes
  refine nB (fr := [some (.v (.int (.ofNat 2))), some (.v (Ws bs)), none]) rfl (nSeq (nDrop (nCall (nA (nV rfl) (nA (nV rfl) nN)) rfl (ckw2 bs))) (nRetF (nTup (nLc1 (nLseqT (nCall (nA (nV rfl) nN) rfl lc_e2)) (few_of (by rw [List.length_map]; exact Nat.le_trans lens2.1 (by decide))) rfl ?_))))
  refine (lcF_map (inW bs) (fun d => d) _ ?_).trans (by rw [List.map_id'])
  intro d hd
  obtain ⟨c, hc, rfl⟩ := List.mem_map.mp hd
  refine ⟨[some (.v (.int (.ofNat 2))), some (.v (Ws bs)), some (.v (Ws c))], nGI rfl, ?_, fun _ => nV rfl⟩
  rw [inW_W (CMl2 c hc) hb]
  exact nB1 (nCall (nA (nV rfl) (nA (nV rfl) nN)) rfl (lieW (CMl2 c hc) hb))
theorem frc2 {bs : List Bool} (hb : bs.length = 15) : r_forcings [(.int (.ofNat 2)), Ws bs] = .ret (.tup ((FM2.map Ws).filter (inW bs))) := by
  unfold r_forcings
  refine nB (fr := [some (.v (.int (.ofNat 2))), some (.v (Ws bs)), none]) rfl (nSeq (nDrop (nCall (nA (nV rfl) (nA (nV rfl) nN)) rfl (ckw2 bs))) (nRetF (nTup (nLc1 (nLseqT (nCall (nA (nV rfl) nN) rfl lf_e2)) (few_of (by rw [List.length_map]; exact Nat.le_trans lens2.2.1 (by decide))) rfl ?_))))
  refine (lcF_map (inW bs) (fun d => d) _ ?_).trans (by rw [List.map_id'])
  intro d hd
  obtain ⟨c, hc, rfl⟩ := List.mem_map.mp hd
  refine ⟨[some (.v (.int (.ofNat 2))), some (.v (Ws bs)), some (.v (Ws c))], nGI rfl, ?_, fun _ => nV rfl⟩
  rw [inW_W (FMl2 c hc) hb]
  exact nB1 (nCall (nA (nV rfl) (nA (nV rfl) nN)) rfl (lieW (FMl2 c hc) hb))
def cn2 (bs : List Bool) : Bool := Nat.beq (CM2.countP fun c => subB c bs) 0
def fn2 (bs : List Bool) : Bool := Nat.beq (FM2.countP fun c => subB c bs) 0
theorem canh2 {bs : List Bool} (hb : bs.length = 15) : r_can_hold [(.int (.ofNat 2)), Ws bs] = .ret (.bl (cn2 bs)) := by
  unfold r_can_hold
  refine nB (fr := [some (.v (.int (.ofNat 2))), some (.v (Ws bs))]) rfl (nRetF (n2 (nCall (nA (nV rfl) (nA (nV rfl) nN)) rfl (cla2 hb)) (y := .tup []) rfl ?_))
  rw [dEq_nilT (allO_filter okC2), emp CMl2 hb]
  rfl
theorem frne2 {bs : List Bool} (hb : bs.length = 15) : e2 dNeF (eCall r_forcings 2 (aC (eV 0) (aC (eV 1) aN))) (eT aN) [some (.v (.int (.ofNat 2))), some (.v (Ws bs))] [] = T.ret (.bl (!fn2 bs)) := by
  refine n2 (nCall (nA (nV rfl) (nA (nV rfl) nN)) rfl (frc2 hb)) (y := .tup []) rfl ?_
  rw [dNe_nilT (allO_filter okF2), emp FMl2 hb]
  rfl
theorem frcs2 {bs : List Bool} (hb : bs.length = 15) : r_forces [(.int (.ofNat 2)), Ws bs] = .ret (.bl (cn2 bs && !fn2 bs)) := by
  unfold r_forces
  exact nB (fr := [some (.v (.int (.ofNat 2))), some (.v (Ws bs))]) rfl (nRetF (nAnd (nCall (nA (nV rfl) (nA (nV rfl) nN)) rfl (canh2 hb)) (frne2 hb)))
def nt (bs : List Bool) (a : List Nat) : Bool := !decide (a ∈ flG bs AXN)
def ad2 (bs : List Bool) (a : List Nat) : Bool := cn2 (bs.set (ixA a) true)
theorem can_add2 {bs : List Bool} (hb : bs.length = 15) : r_can_add [(.int (.ofNat 2)), Ws bs] = .ret (.tup (nmL ((AXN.filter (nt bs)).filter (ad2 bs)))) := by
  have e := lcF_mp (set := (gIX 3)) (t := (b1 (eInF true (eV 3) (lSeq (eV 1))))) (e := (eV 3)) (fr := [some (.v (.int (.ofNat 2))), some (.v (Ws bs)), none, none]) (hp := []) D.str (nt bs) D.str AXN fun a ha => ⟨_, nGI rfl, nB1 (nNiS (nV rfl) (nLseqT (nV rfl))), fun _ => nV rfl⟩
  have e2 := lcF_mp (set := (gIX 3)) (t := (b1 (eCall r_can_hold 2 (aC (eV 0) (aC (eCall r_with_one 2 (aC (eV 1) (aC (eV 3) aN))) aN))))) (e := (eV 3)) (fr := [some (.v (.int (.ofNat 2))), some (.v (Ws bs)), some (.v (.lst (nmL (AXN.filter fun a => !decide (a ∈ flG bs AXN))))), none]) (hp := []) D.str (ad2 bs) D.str (AXN.filter (nt bs)) fun a ha => by
    have ⟨h1, h2⟩ := List.mem_filter.mp ha
    have hn : a ∉ flG bs AXN := fun z => by
      unfold nt at h2
      rw [decide_eq_true z] at h2
      cases h2
    exact ⟨_, nGI rfl, nB1 (nCall (nA (nV rfl) (nA (nCall (nA (nV rfl) (nA (nV rfl) nN)) rfl (with_one_ (notin_at hb h1 hn) (ixA_ok h1))) nN)) rfl (canh2 (by rw [List.length_set]; exact hb))), fun _ => nV rfl⟩
  unfold r_can_add
  exact nB (fr := [some (.v (.int (.ofNat 2))), some (.v (Ws bs)), none, none]) rfl (nSeq (nDrop (nCall (nA (nV rfl) (nA (nV rfl) nN)) rfl (ckw2 bs))) (nSeq (nSetV (nLst (nLc1 (ds := nmL AXN) (nLseqT (nCall nN rfl ax_prog)) (few_of (by rw [nmL_len, AXl]; decide)) rfl e)) rfl) (nRetF (nTup (nLc1 (ds := nmL (AXN.filter (nt bs))) (nLseqL (nV rfl)) (few_of (by rw [nmL_len]; exact Nat.le_trans (List.length_filter_le _ _) (by rw [AXl]; decide))) rfl e2)))))
theorem rest_eq2 {bs : List Bool} (hb : bs.length = 15) : (AXN.filter fun a => nt bs a && Nat.beq (CM2.countP fun c => (flG c AXN).all fun x => decide (x ∈ flG bs AXN ++ [a])) 0) = (AXN.filter (nt bs)).filter (ad2 bs) := by
  rw [List.filter_filter]
  refine List.filter_congr fun a ha => ?_
  rw [Bool.and_comm]
  cases hq : nt bs a with
  | false => rw [Bool.and_false, Bool.and_false]
  | true =>
    rw [Bool.and_true, Bool.and_true]
    have hn : a ∉ flG bs AXN := fun z => by
      unfold nt at hq
      rw [decide_eq_true z] at hq
      cases hq
    have pm := flG_set (notin_at hb ha hn) (ixA_ok ha)
    unfold ad2 cn2
    congr 1
    refine List.countP_congr fun c hc => ?_
    have e : (flG c AXN).all (fun x => decide (x ∈ flG bs AXN ++ [a])) = subB c (bs.set (ixA a) true) := by
      rw [← sub_mem AXnd (by rw [CMl2 c hc, AXl]) (by rw [List.length_set, hb, AXl])]
      refine allc _ fun x _ => ?_
      exact decide_eq_decide.mpr pm.mem_iff.symm
    rw [e]
theorem al_f2 {q : D → Bool} : r_law_alike 8 [.tup ((CM2.map Ws).filter q), .tup ((CM2.map Ws).filter q)] = .ret (.bl true) ∧ r_law_alike 8 [.tup ((FM2.map Ws).filter q), .tup ((FM2.map Ws).filter q)] = .ret (.bl true) := by
  have l := lens2
  refine ⟨alikeT (Nat.le_trans (List.length_filter_le _ _) (by rw [List.length_map]; omega)) fun d hd => ?_, alikeT (Nat.le_trans (List.length_filter_le _ _) (by rw [List.length_map]; omega)) fun d hd => ?_⟩
  · obtain ⟨c, hc, rfl⟩ := List.mem_map.mp (List.mem_filter.mp hd).1
    exact isTr_eq (List.all_eq_true.mp al02 c (List.mem_append_left _ hc))
  · obtain ⟨c, hc, rfl⟩ := List.mem_map.mp (List.mem_filter.mp hd).1
    exact isTr_eq (List.all_eq_true.mp al02 c (List.mem_append_right _ (List.mem_append_left _ hc)))
theorem al_w2 : r_law_alike 8 [.tup (CM2.map Ws), .tup (CM2.map Ws)] = .ret (.bl true) ∧ r_law_alike 8 [.tup (FM2.map Ws), .tup (FM2.map Ws)] = .ret (.bl true) ∧ r_law_alike 8 [.tup (GM2.map Ws), .tup (GM2.map Ws)] = .ret (.bl true) := by
  have l := lens2
  refine ⟨alikeT (by rw [List.length_map]; omega) fun d hd => ?_, alikeT (by rw [List.length_map]; omega) fun d hd => ?_, alikeT (by rw [List.length_map]; omega) fun d hd => ?_⟩
  · obtain ⟨c, hc, rfl⟩ := List.mem_map.mp hd
    exact isTr_eq (List.all_eq_true.mp al02 c (List.mem_append_left _ hc))
  · obtain ⟨c, hc, rfl⟩ := List.mem_map.mp hd
    exact isTr_eq (List.all_eq_true.mp al02 c (List.mem_append_right _ (List.mem_append_left _ hc)))
  · obtain ⟨c, hc, rfl⟩ := List.mem_map.mp hd
    exact isTr_eq (List.all_eq_true.mp al02 c (List.mem_append_right _ (List.mem_append_right _ hc)))
theorem turn2 {bs : List Bool} (hb : bs.length = 15) (x6 x8 x9 x10 x11 x12 : Option SV) : ∃ y8 y9 y10 y11 y12 : Option SV, ((sSeq (sParX 8 9 (eCall r_law_within 2 (aC (eV 3) (aC (eV 7) aN))) (eCall r_law_within 2 (aC (eV 4) (aC (eV 7) aN))))
    (sSeq (sIf (bOr (bNot (b1 (eCall (r_law_alike 8) 2 (aC (eCall r_clashes 2 (aC (eV 2) (aC (eV 7) aN))) (aCF (eTupOf (lSeq (eV 8))) aN))))) (bNot (b1 (eCall (r_law_alike 8) 2 (aC (eCall r_forcings 2 (aC (eV 2) (aC (eV 7) aN))) (aCF (eTupOf (lSeq (eV 9))) aN))))))
    (sRet (eC (.bl false))) sNil)
    (sSeq (sIf (bOr (bNot (b1 (eCall r_law_is 2 (aC (eCall r_can_hold 2 (aC (eV 2) (aC (eV 7) aN))) (aCF (e2 dEqF (eV 8) (lst (nL aN))) aN))))) (bNot (b1 (eCall r_law_is 2 (aC (eCall r_forces 2 (aC (eV 2) (aC (eV 7) aN))) (aCF (eAnd (e2 dEqF (eV 8) (lst (nL aN))) (e2 dNeF (eV 9) (lst (nL aN)))) aN))))))
    (sRet (eC (.bl false))) sNil)
    (sSeq (sIf (b1 (e2 dNeF (e2 dEqF (eV 8) (lst (nL aN))) (e2 dNeF (lst (nLc (lSeq (eV 5)) (gIX 10) (b1 (e2 dNeF (eCall r_law_within 2 (aCF (lst (nL (aC (eV 7) aN))) (aC (eV 10) aN))) (lst (nL aN)))) (eV 10) [10])) (lst (nL aN)))))
    (sRet (eC (.bl false))) sNil)
    (sSeq (sSetV 11 (lst (nLc (lSeq (eCall r_law_axioms 0 aN)) (gIX 12) (bAnd (b1 (eInF true (eV 12) (lSeq (eV 7)))) (b1 (e2 dEqF (eCall r_law_within 2 (aC (eV 3) (aCF (e2 dPlus (eV 7) (eT (aC (eV 12) aN))) aN))) (lst (nL aN))))) (eV 12) [12])))
    (sIf (bNot (b1 (eCall (r_law_alike 8) 2 (aC (eCall r_can_add 2 (aC (eV 2) (aC (eV 7) aN))) (aCF (eTupOf (lSeq (eV 11))) aN)))))
    (sRet (eC (.bl false))) sNil))))))) [none, some .row, some (.v (.int (.ofNat 2))), some (.v (.lst (CM2.map Ws))), some (.v (.lst (FM2.map Ws))), some (.v (.lst (GM2.map Ws))), x6, some (.v (Ws bs)), x8, x9, x10, x11, x12] [] = .ret (.nx [none, some .row, some (.v (.int (.ofNat 2))), some (.v (.lst (CM2.map Ws))), some (.v (.lst (FM2.map Ws))), some (.v (.lst (GM2.map Ws))), x6, some (.v (Ws bs)), y8, y9, y10, y11, y12] []) := by
  have l := lens2
  have w1 := within l.1 (flG bs AXN)
  have w2 := within l.2.1 (flG bs AXN)
  have empC : dEqF (.lst ((CM2.map Ws).filter (inW bs))) (.lst []) = .ret (.bl (cn2 bs)) := by
    rw [dEq_nilO (allO_filter okC2), emp CMl2 hb]
    rfl
  have empFn : dNeF (.lst ((FM2.map Ws).filter (inW bs))) (.lst []) = .ret (.bl (!fn2 bs)) := by
    rw [dNe_nilO (allO_filter okF2), emp FMl2 hb]
    rfl
  -- the greatest sets
  have eg := lcF_mp (set := (gIX 10)) (t := (b1 (e2 dNeF (eCall r_law_within 2 (aCF (lst (nL (aC (eV 7) aN))) (aC (eV 10) aN))) (lst (nL aN))))) (e := (eV 10)) (fr := [none, some .row, some (.v (.int (.ofNat 2))), some (.v (.lst (CM2.map Ws))), some (.v (.lst (FM2.map Ws))), some (.v (.lst (GM2.map Ws))), x6, some (.v (Ws bs)), some (.v (.lst ((CM2.map Ws).filter (inW bs)))), some (.v (.lst ((FM2.map Ws).filter (inW bs)))), none, x11, x12]) (hp := []) Ws (fun r => subB bs r) Ws GM2 fun r hr => by
    refine ⟨_, nGI rfl, ?_, fun _ => nV rfl⟩
    have w3 := within (M := [bs]) (show 1 ≤ 26 by decide) (flG r AXN)
    have e3 : ([bs].map Ws).filter (inQ (flG r AXN)) = bif subB bs r then [Ws bs] else [] := by
      have : inQ (flG r AXN) (Ws bs) = subB bs r := inW_W hb (GMl2 r hr)
      cases q : subB bs r with
      | true =>
        rw [q] at this
        exact List.filter_cons_of_pos this
      | false =>
        rw [q] at this
        exact List.filter_cons_of_neg (by rw [this]; exact Bool.false_ne_true)
    rw [e3] at w3
    refine nB1 (n2 (nCall (nAF (nLst (nNLi (nA (nV rfl) nN) rfl)) (nA (nV rfl) nN)) rfl w3) (nLst (xs := []) rfl) ?_)
    cases q : subB bs r with
    | true =>
      show dNeF (.lst [Ws bs]) (.lst []) = T.ret (.bl true)
      rw [dNe_nilO (show allO (okD 11) [Ws bs] = true from ?_)]
      · rfl
      · have : okD 11 (Ws bs) = true := by unfold Ws okD; exact okD_nm (all_flG AXok)
        unfold allO
        rw [if_pos this]
        rfl
    | false => rfl
  have hg : dNeF (.lst ((GM2.filter fun r => subB bs r).map Ws)) (.lst []) = .ret (.bl (cn2 bs)) := by
    have ok : allO (okD 11) ((GM2.filter fun r => subB bs r).map Ws) = true := by
      refine okM Ws _ fun r _ => ?_
      unfold Ws okD
      exact okD_nm (all_flG AXok)
    rw [dNe_nilO ok, empM]
    have h := eq_of_beq (chk2_ok 15 CM2 GM2 ck2_ bs hb)
    unfold cn2
    rw [h]
    congr 3
    rw [List.countP_eq_length_filter]
    cases GM2.filter fun r => subB bs r <;> rfl
  -- what can be added
  have er := lcF_mp (set := (gIX 12)) (t := (bAnd (b1 (eInF true (eV 12) (lSeq (eV 7)))) (b1 (e2 dEqF (eCall r_law_within 2 (aC (eV 3) (aCF (e2 dPlus (eV 7) (eT (aC (eV 12) aN))) aN))) (lst (nL aN)))))) (e := (eV 12)) (fr := [none, some .row, some (.v (.int (.ofNat 2))), some (.v (.lst (CM2.map Ws))), some (.v (.lst (FM2.map Ws))), some (.v (.lst (GM2.map Ws))), x6, some (.v (Ws bs)), some (.v (.lst ((CM2.map Ws).filter (inW bs)))), some (.v (.lst ((FM2.map Ws).filter (inW bs)))), x10, x11, none]) (hp := []) D.str (fun a => nt bs a && Nat.beq (CM2.countP fun c => (flG c AXN).all fun x => decide (x ∈ flG bs AXN ++ [a])) 0) D.str AXN fun a ha => by
    refine ⟨_, nGI rfl, nBAnd (nB1 (nNiS (nV rfl) (nLseqT (nV rfl)))) (nB1 (n2 (nCall (nA (nV rfl) (nAF (plus_a (nV rfl) (nV rfl)) nN)) rfl (within l.1 (flG bs AXN ++ [a]))) (nLst (xs := []) rfl) ?_)), fun _ => nV rfl⟩
    rw [dEq_nilO (allO_filter okC2), empQ]
  rw [rest_eq2 hb] at er
  have alr : r_law_alike 8 [.tup (nmL ((AXN.filter (nt bs)).filter (ad2 bs))), .tup (nmL ((AXN.filter (nt bs)).filter (ad2 bs)))] = .ret (.bl true) := alN (fun a h => (List.mem_filter.mp (List.mem_filter.mp h).1).1) (Nat.le_trans (List.length_filter_le _ _) (Nat.le_trans (List.length_filter_le _ _) (by rw [AXl]; decide)))
  refine ⟨some (.v (.lst ((CM2.map Ws).filter (inW bs)))), some (.v (.lst ((FM2.map Ws).filter (inW bs)))), x10, some (.v (.lst (nmL ((AXN.filter (nt bs)).filter (ad2 bs))))), x12, ?_⟩
  have fewG : few (GM2.map Ws) 10000 = true := few_of (by rw [List.length_map]; omega)
  refine nSeq (nParX (nCall (nA (nV rfl) (nA (nV rfl) nN)) rfl w1) (nCall (nA (nV rfl) (nA (nV rfl) nN)) rfl w2) rfl) ?_
  refine nSeq (nIfF (nOrF (nNot (b := true) (nB1 (nCall (nA (nCall (nA (nV rfl) (nA (nV rfl) nN)) rfl (cla2 hb)) (nAF (nTup (nLseqL (nV rfl))) nN)) rfl al_f2.1)) rfl) (nNot (b := true) (nB1 (nCall (nA (nCall (nA (nV rfl) (nA (nV rfl) nN)) rfl (frc2 hb)) (nAF (nTup (nLseqL (nV rfl))) nN)) rfl al_f2.2)) rfl)) nNil) ?_
  refine nSeq (nIfF (nOrF (nNot (b := true) (nB1 (nCall (nA (nCall (nA (nV rfl) (nA (nV rfl) nN)) rfl (canh2 hb)) (nAF (n2 (nV rfl) (nLst (xs := []) rfl) empC) nN)) rfl (lawis _))) rfl) (nNot (b := true) (nB1 (nCall (nA (nCall (nA (nV rfl) (nA (nV rfl) nN)) rfl (frcs2 hb)) (nAF (nAnd (n2 (nV rfl) (nLst (xs := []) rfl) empC) (n2 (nV rfl) (nLst (xs := []) rfl) empFn)) nN)) rfl (lawis _))) rfl)) nNil) ?_
  refine nSeq (nIfF (nB1 (n2 (n2 (nV rfl) (nLst (xs := []) rfl) empC) (n2 (nLst (nLc1 (nLseqL (nV rfl)) fewG rfl eg)) (nLst (xs := []) rfl) hg) (dNe_bl _))) nNil) ?_
  refine nSeq (nSetV (nLst (nLc1 (ds := nmL AXN) (nLseqL (nCall nN rfl ax_law)) (few_of (by rw [nmL_len, AXl]; decide)) rfl er)) rfl) ?_
  exact nIfF (nNot (b := true) (nB1 (nCall (nA (nCall (nA (nV rfl) (nA (nV rfl) nN)) rfl (can_add2 hb)) (nAF (nTup (nLseqL (nV rfl))) nN)) rfl alr)) rfl) nNil
theorem ck3_tttt : chk2 11 [[false, false, false, false, false, false, false, false, false, true, false], [false, false, true, false, false, false, false, false, false, false, false], [false, false, false, false, false, true, false, false, false, false, false], [false, false, false, false, false, false, false, false, true, false, false], [false, false, false, false, false, false, false, false, false, true, false], [false, false, true, false, false, false, false, false, false, false, false], [false, false, false, false, false, true, false, false, false, false, false], [true, false, false, false, false, false, false, false, true, false, false], [false, false, true, false, true, false, false, false, false, false, false], [false, false, true, false, false, true, false, false, false, false, false], [false, false, true, false, false, false, false, false, false, true, false], [false, false, true, false, false, false, false, false, false, false, true], [false, false, false, false, true, true, false, false, false, false, false], [false, false, false, false, true, false, false, false, true, false, false], [false, false, false, false, false, true, false, false, false, false, true], [false, false, false, false, false, false, false, true, false, true, false], [false, false, false, false, false, false, false, false, true, true, false], [false, false, false, false, false, false, false, false, false, true, false], [false, false, false, false, false, false, false, false, false, true, true], [false, true, false, false, false, false, false, false, true, false, false], [false, false, false, true, false, false, false, false, false, true, false], [false, true, false, false, false, false, false, false, true, false, true], [false, true, false, false, false, false, false, false, true, false, true], [false, true, false, false, false, false, true, false, true, false, true], [false, true, false, false, false, false, false, true, true, false, true], [false, false, false, true, false, false, true, false, false, true, true]] [[true, true, false, true, true, false, true, true, false, false, true]] = true := by decide +kernel
theorem ck3_tttf : chk2 11 [[false, false, false, false, false, false, false, false, false, true, false], [false, false, true, false, false, false, false, false, false, false, false], [false, false, false, false, false, true, false, false, false, false, false], [false, false, false, false, false, false, false, false, true, false, false], [false, false, false, false, false, false, false, false, false, true, false], [true, false, false, false, false, false, false, false, true, false, false], [false, false, true, false, true, false, false, false, false, false, false], [false, false, true, false, false, true, false, false, false, false, false], [false, false, true, false, false, false, false, false, false, true, false], [false, false, true, false, false, false, false, false, false, false, true], [false, false, false, false, true, true, false, false, false, false, false], [false, false, false, false, true, false, false, false, true, false, false], [false, false, false, false, false, true, false, false, false, false, true], [false, false, false, false, false, false, false, true, false, true, false], [false, false, false, false, false, false, false, false, true, true, false], [false, false, false, false, false, false, false, false, false, true, true], [false, true, false, false, false, false, false, false, true, false, true], [false, true, false, false, false, false, false, false, true, false, true], [false, true, false, false, false, false, true, false, true, false, true], [false, true, false, false, false, false, false, true, true, false, true], [false, false, false, true, false, false, true, false, false, true, true]] [[true, true, false, true, true, false, true, true, false, false, true]] = true := by decide +kernel
theorem ck3_ttt : chk2 12 [[false, false, false, false, false, false, false, false, false, false, true, false], [false, false, false, true, false, false, false, false, false, false, false, false], [false, false, false, false, false, false, true, false, false, false, false, false], [false, false, false, false, false, false, false, false, false, true, false, false], [false, false, false, false, false, false, false, false, false, false, true, false], [true, false, false, true, false, false, false, false, false, false, false, false], [true, false, false, false, false, false, true, false, false, false, false, false], [false, true, false, false, false, false, false, false, false, true, false, false], [false, false, false, true, false, true, false, false, false, false, false, false], [false, false, false, true, false, false, true, false, false, false, false, false], [false, false, false, true, false, false, false, false, false, false, true, false], [false, false, false, true, false, false, false, false, false, false, false, true], [false, false, false, false, false, true, true, false, false, false, false, false], [false, false, false, false, false, true, false, false, false, true, false, false], [false, false, false, false, false, false, true, false, false, false, false, true], [false, false, false, false, false, false, false, false, true, false, true, false], [false, false, false, false, false, false, false, false, false, true, true, false], [true, false, false, false, false, false, false, false, false, false, true, false], [false, false, false, false, false, false, false, false, false, false, true, true], [true, false, true, false, false, false, false, false, false, true, false, false], [true, false, false, false, true, false, false, false, false, false, true, false], [false, false, true, false, false, false, false, false, false, true, false, true], [false, false, true, false, false, false, false, false, false, true, false, true], [false, false, true, false, false, false, false, true, false, true, false, true], [false, false, true, false, false, false, false, false, true, true, false, true], [false, false, false, false, true, false, false, true, false, false, true, true]] [[true, true, true, false, true, true, false, true, true, false, false, true]] = true := chk2_s (n := 11) (by kernel_rfl) (by kernel_rfl) (by kernel_rfl) (by kernel_rfl) ck3_tttt ck3_tttf
theorem ck3_ttft : chk2 11 [[false, false, false, false, false, false, false, false, false, true, false], [false, false, true, false, false, false, false, false, false, false, false], [false, false, false, false, false, true, false, false, false, false, false], [false, false, false, false, false, false, false, false, true, false, false], [false, false, false, false, false, false, false, false, false, true, false], [false, false, true, false, false, false, false, false, false, false, false], [false, false, false, false, false, true, false, false, false, false, false], [true, false, false, false, false, false, false, false, true, false, false], [false, false, true, false, true, false, false, false, false, false, false], [false, false, true, false, false, true, false, false, false, false, false], [false, false, true, false, false, false, false, false, false, true, false], [false, false, true, false, false, false, false, false, false, false, true], [false, false, false, false, true, true, false, false, false, false, false], [false, false, false, false, true, false, false, false, true, false, false], [false, false, false, false, false, true, false, false, false, false, true], [false, false, false, false, false, false, false, true, false, true, false], [false, false, false, false, false, false, false, false, true, true, false], [false, true, false, false, false, false, false, false, true, false, false], [false, false, false, true, false, false, false, false, false, true, false], [false, true, false, false, false, false, false, false, true, false, true], [false, true, false, false, false, false, true, false, true, false, true], [false, true, false, false, false, false, false, true, true, false, true], [false, false, false, true, false, false, true, false, false, true, true]] [[true, true, false, true, true, false, true, true, false, false, true]] = true := by decide +kernel
theorem ck3_ttff : chk2 11 [[false, false, false, false, false, false, false, false, false, true, false], [false, false, true, false, false, false, false, false, false, false, false], [false, false, false, false, false, true, false, false, false, false, false], [false, false, false, false, false, false, false, false, true, false, false], [false, false, false, false, false, false, false, false, false, true, false], [true, false, false, false, false, false, false, false, true, false, false], [false, false, true, false, true, false, false, false, false, false, false], [false, false, true, false, false, true, false, false, false, false, false], [false, false, true, false, false, false, false, false, false, true, false], [false, false, true, false, false, false, false, false, false, false, true], [false, false, false, false, true, true, false, false, false, false, false], [false, false, false, false, true, false, false, false, true, false, false], [false, false, false, false, false, true, false, false, false, false, true], [false, false, false, false, false, false, false, true, false, true, false], [false, false, false, false, false, false, false, false, true, true, false], [false, true, false, false, false, false, false, false, true, false, true], [false, true, false, false, false, false, true, false, true, false, true], [false, true, false, false, false, false, false, true, true, false, true], [false, false, false, true, false, false, true, false, false, true, true]] [[true, true, false, true, true, false, true, true, false, false, true]] = true := by decide +kernel
theorem ck3_ttf : chk2 12 [[false, false, false, false, false, false, false, false, false, false, true, false], [false, false, false, true, false, false, false, false, false, false, false, false], [false, false, false, false, false, false, true, false, false, false, false, false], [false, false, false, false, false, false, false, false, false, true, false, false], [false, false, false, false, false, false, false, false, false, false, true, false], [true, false, false, true, false, false, false, false, false, false, false, false], [true, false, false, false, false, false, true, false, false, false, false, false], [false, true, false, false, false, false, false, false, false, true, false, false], [false, false, false, true, false, true, false, false, false, false, false, false], [false, false, false, true, false, false, true, false, false, false, false, false], [false, false, false, true, false, false, false, false, false, false, true, false], [false, false, false, true, false, false, false, false, false, false, false, true], [false, false, false, false, false, true, true, false, false, false, false, false], [false, false, false, false, false, true, false, false, false, true, false, false], [false, false, false, false, false, false, true, false, false, false, false, true], [false, false, false, false, false, false, false, false, true, false, true, false], [false, false, false, false, false, false, false, false, false, true, true, false], [true, false, true, false, false, false, false, false, false, true, false, false], [true, false, false, false, true, false, false, false, false, false, true, false], [false, false, true, false, false, false, false, false, false, true, false, true], [false, false, true, false, false, false, false, true, false, true, false, true], [false, false, true, false, false, false, false, false, true, true, false, true], [false, false, false, false, true, false, false, true, false, false, true, true]] [[true, true, true, false, true, true, false, true, true, false, false, true]] = true := chk2_s (n := 11) (by kernel_rfl) (by kernel_rfl) (by kernel_rfl) (by kernel_rfl) ck3_ttft ck3_ttff
theorem ck3_tt : chk2 13 [[false, false, false, false, false, false, false, false, false, false, false, true, false], [false, false, false, false, true, false, false, false, false, false, false, false, false], [false, false, false, false, false, false, false, true, false, false, false, false, false], [false, false, false, false, false, false, false, false, false, false, true, false, false], [false, false, false, false, false, false, false, false, false, false, false, true, false], [false, true, false, false, true, false, false, false, false, false, false, false, false], [false, true, false, false, false, false, false, true, false, false, false, false, false], [false, false, true, false, false, false, false, false, false, false, true, false, false], [false, false, false, false, true, false, true, false, false, false, false, false, false], [false, false, false, false, true, false, false, true, false, false, false, false, false], [false, false, false, false, true, false, false, false, false, false, false, true, false], [false, false, false, false, true, false, false, false, false, false, false, false, true], [false, false, false, false, false, false, true, true, false, false, false, false, false], [false, false, false, false, false, false, true, false, false, false, true, false, false], [false, false, false, false, false, false, false, true, false, false, false, false, true], [false, false, false, false, false, false, false, false, false, true, false, true, false], [false, false, false, false, false, false, false, false, false, false, true, true, false], [true, true, false, false, false, false, false, false, false, false, false, true, false], [true, false, false, false, false, false, false, false, false, false, false, true, true], [false, true, false, true, false, false, false, false, false, false, true, false, false], [false, true, false, false, false, true, false, false, false, false, false, true, false], [false, false, false, true, false, false, false, false, false, false, true, false, true], [true, false, false, true, false, false, false, false, false, false, true, false, true], [false, false, false, true, false, false, false, false, true, false, true, false, true], [false, false, false, true, false, false, false, false, false, true, true, false, true], [false, false, false, false, false, true, false, false, true, false, false, true, true]] [[true, true, true, true, false, true, true, false, true, true, false, false, true]] = true := chk2_s (n := 12) (by kernel_rfl) (by kernel_rfl) (by kernel_rfl) (by kernel_rfl) ck3_ttt ck3_ttf
theorem ck3_tftt : chk2 11 [[false, false, false, false, false, false, false, false, false, true, false], [false, false, true, false, false, false, false, false, false, false, false], [false, false, false, false, false, true, false, false, false, false, false], [true, false, false, false, false, false, false, false, true, false, false], [false, false, true, false, true, false, false, false, false, false, false], [false, false, true, false, false, true, false, false, false, false, false], [false, false, true, false, false, false, false, false, false, true, false], [false, false, true, false, false, false, false, false, false, false, true], [false, false, false, false, true, true, false, false, false, false, false], [false, false, false, false, true, false, false, false, true, false, false], [false, false, false, false, false, true, false, false, false, false, true], [false, false, false, false, false, false, false, true, false, true, false], [false, false, false, false, false, false, false, false, true, true, false], [false, false, false, false, false, false, false, false, false, true, false], [false, false, false, false, false, false, false, false, false, true, true], [false, true, false, false, false, false, false, false, true, false, false], [false, false, false, true, false, false, false, false, false, true, false], [false, true, false, false, false, false, false, false, true, false, true], [false, true, false, false, false, false, false, false, true, false, true], [false, true, false, false, false, false, true, false, true, false, true], [false, true, false, false, false, false, false, true, true, false, true], [false, false, false, true, false, false, true, false, false, true, true]] [[true, true, false, true, true, false, true, true, false, false, true], [false, false, false, true, false, false, true, true, true, false, true]] = true := by decide +kernel
theorem ck3_tftf : chk2 11 [[false, false, false, false, false, false, false, false, false, true, false], [true, false, false, false, false, false, false, false, true, false, false], [false, false, true, false, true, false, false, false, false, false, false], [false, false, true, false, false, true, false, false, false, false, false], [false, false, true, false, false, false, false, false, false, true, false], [false, false, true, false, false, false, false, false, false, false, true], [false, false, false, false, true, true, false, false, false, false, false], [false, false, false, false, true, false, false, false, true, false, false], [false, false, false, false, false, true, false, false, false, false, true], [false, false, false, false, false, false, false, true, false, true, false], [false, false, false, false, false, false, false, false, true, true, false], [false, false, false, false, false, false, false, false, false, true, true], [false, true, false, false, false, false, false, false, true, false, true], [false, true, false, false, false, false, false, false, true, false, true], [false, true, false, false, false, false, true, false, true, false, true], [false, true, false, false, false, false, false, true, true, false, true], [false, false, false, true, false, false, true, false, false, true, true]] [[true, true, false, true, true, false, true, true, false, false, true], [false, false, false, true, false, false, true, true, true, false, true], [true, true, true, true, false, false, true, true, false, false, false], [true, true, false, true, false, true, true, true, false, false, false], [false, true, true, true, false, false, true, true, true, false, false], [false, true, false, true, false, true, true, true, true, false, false]] = true := by decide +kernel
theorem ck3_tft : chk2 12 [[false, false, false, false, false, false, false, false, false, false, true, false], [true, false, false, true, false, false, false, false, false, false, false, false], [true, false, false, false, false, false, true, false, false, false, false, false], [false, true, false, false, false, false, false, false, false, true, false, false], [false, false, false, true, false, true, false, false, false, false, false, false], [false, false, false, true, false, false, true, false, false, false, false, false], [false, false, false, true, false, false, false, false, false, false, true, false], [false, false, false, true, false, false, false, false, false, false, false, true], [false, false, false, false, false, true, true, false, false, false, false, false], [false, false, false, false, false, true, false, false, false, true, false, false], [false, false, false, false, false, false, true, false, false, false, false, true], [false, false, false, false, false, false, false, false, true, false, true, false], [false, false, false, false, false, false, false, false, false, true, true, false], [true, false, false, false, false, false, false, false, false, false, true, false], [false, false, false, false, false, false, false, false, false, false, true, true], [true, false, true, false, false, false, false, false, false, true, false, false], [true, false, false, false, true, false, false, false, false, false, true, false], [false, false, true, false, false, false, false, false, false, true, false, true], [false, false, true, false, false, false, false, false, false, true, false, true], [false, false, true, false, false, false, false, true, false, true, false, true], [false, false, true, false, false, false, false, false, true, true, false, true], [false, false, false, false, true, false, false, true, false, false, true, true]] [[true, true, true, false, true, true, false, true, true, false, false, true], [true, false, false, false, true, false, false, true, true, true, false, true], [false, true, true, true, true, false, false, true, true, false, false, false], [false, true, true, false, true, false, true, true, true, false, false, false], [false, false, true, true, true, false, false, true, true, true, false, false], [false, false, true, false, true, false, true, true, true, true, false, false]] = true := chk2_s (n := 11) (by kernel_rfl) (by kernel_rfl) (by kernel_rfl) (by kernel_rfl) ck3_tftt ck3_tftf
theorem ck3_tfft : chk2 11 [[false, false, false, false, false, false, false, false, false, true, false], [false, false, true, false, false, false, false, false, false, false, false], [false, false, false, false, false, true, false, false, false, false, false], [true, false, false, false, false, false, false, false, true, false, false], [false, false, true, false, true, false, false, false, false, false, false], [false, false, true, false, false, true, false, false, false, false, false], [false, false, true, false, false, false, false, false, false, true, false], [false, false, true, false, false, false, false, false, false, false, true], [false, false, false, false, true, true, false, false, false, false, false], [false, false, false, false, true, false, false, false, true, false, false], [false, false, false, false, false, true, false, false, false, false, true], [false, false, false, false, false, false, false, true, false, true, false], [false, false, false, false, false, false, false, false, true, true, false], [false, true, false, false, false, false, false, false, true, false, false], [false, false, false, true, false, false, false, false, false, true, false], [false, true, false, false, false, false, false, false, true, false, true], [false, true, false, false, false, false, true, false, true, false, true], [false, true, false, false, false, false, false, true, true, false, true], [false, false, false, true, false, false, true, false, false, true, true]] [[true, true, false, true, true, false, true, true, false, false, true], [false, false, false, true, false, false, true, true, true, false, true]] = true := by decide +kernel
theorem ck3_tfff : chk2 11 [[false, false, false, false, false, false, false, false, false, true, false], [true, false, false, false, false, false, false, false, true, false, false], [false, false, true, false, true, false, false, false, false, false, false], [false, false, true, false, false, true, false, false, false, false, false], [false, false, true, false, false, false, false, false, false, true, false], [false, false, true, false, false, false, false, false, false, false, true], [false, false, false, false, true, true, false, false, false, false, false], [false, false, false, false, true, false, false, false, true, false, false], [false, false, false, false, false, true, false, false, false, false, true], [false, false, false, false, false, false, false, true, false, true, false], [false, false, false, false, false, false, false, false, true, true, false], [false, true, false, false, false, false, false, false, true, false, true], [false, true, false, false, false, false, true, false, true, false, true], [false, true, false, false, false, false, false, true, true, false, true], [false, false, false, true, false, false, true, false, false, true, true]] [[true, true, false, true, true, false, true, true, false, false, true], [false, false, false, true, false, false, true, true, true, false, true], [true, true, true, true, false, false, true, true, false, false, false], [true, true, false, true, false, true, true, true, false, false, false], [false, true, true, true, false, false, true, true, true, false, false], [false, true, false, true, false, true, true, true, true, false, false]] = true := by decide +kernel
theorem ck3_tff : chk2 12 [[false, false, false, false, false, false, false, false, false, false, true, false], [true, false, false, true, false, false, false, false, false, false, false, false], [true, false, false, false, false, false, true, false, false, false, false, false], [false, true, false, false, false, false, false, false, false, true, false, false], [false, false, false, true, false, true, false, false, false, false, false, false], [false, false, false, true, false, false, true, false, false, false, false, false], [false, false, false, true, false, false, false, false, false, false, true, false], [false, false, false, true, false, false, false, false, false, false, false, true], [false, false, false, false, false, true, true, false, false, false, false, false], [false, false, false, false, false, true, false, false, false, true, false, false], [false, false, false, false, false, false, true, false, false, false, false, true], [false, false, false, false, false, false, false, false, true, false, true, false], [false, false, false, false, false, false, false, false, false, true, true, false], [true, false, true, false, false, false, false, false, false, true, false, false], [true, false, false, false, true, false, false, false, false, false, true, false], [false, false, true, false, false, false, false, false, false, true, false, true], [false, false, true, false, false, false, false, true, false, true, false, true], [false, false, true, false, false, false, false, false, true, true, false, true], [false, false, false, false, true, false, false, true, false, false, true, true]] [[true, true, true, false, true, true, false, true, true, false, false, true], [true, false, false, false, true, false, false, true, true, true, false, true], [false, true, true, true, true, false, false, true, true, false, false, false], [false, true, true, false, true, false, true, true, true, false, false, false], [false, false, true, true, true, false, false, true, true, true, false, false], [false, false, true, false, true, false, true, true, true, true, false, false]] = true := chk2_s (n := 11) (by kernel_rfl) (by kernel_rfl) (by kernel_rfl) (by kernel_rfl) ck3_tfft ck3_tfff
theorem ck3_tf : chk2 13 [[false, false, false, false, false, false, false, false, false, false, false, true, false], [false, true, false, false, true, false, false, false, false, false, false, false, false], [false, true, false, false, false, false, false, true, false, false, false, false, false], [false, false, true, false, false, false, false, false, false, false, true, false, false], [false, false, false, false, true, false, true, false, false, false, false, false, false], [false, false, false, false, true, false, false, true, false, false, false, false, false], [false, false, false, false, true, false, false, false, false, false, false, true, false], [false, false, false, false, true, false, false, false, false, false, false, false, true], [false, false, false, false, false, false, true, true, false, false, false, false, false], [false, false, false, false, false, false, true, false, false, false, true, false, false], [false, false, false, false, false, false, false, true, false, false, false, false, true], [false, false, false, false, false, false, false, false, false, true, false, true, false], [false, false, false, false, false, false, false, false, false, false, true, true, false], [true, true, false, false, false, false, false, false, false, false, false, true, false], [true, false, false, false, false, false, false, false, false, false, false, true, true], [false, true, false, true, false, false, false, false, false, false, true, false, false], [false, true, false, false, false, true, false, false, false, false, false, true, false], [false, false, false, true, false, false, false, false, false, false, true, false, true], [true, false, false, true, false, false, false, false, false, false, true, false, true], [false, false, false, true, false, false, false, false, true, false, true, false, true], [false, false, false, true, false, false, false, false, false, true, true, false, true], [false, false, false, false, false, true, false, false, true, false, false, true, true]] [[true, true, true, true, false, true, true, false, true, true, false, false, true], [true, true, false, false, false, true, false, false, true, true, true, false, true], [true, false, true, true, true, true, false, false, true, true, false, false, false], [true, false, true, true, false, true, false, true, true, true, false, false, false], [true, false, false, true, true, true, false, false, true, true, true, false, false], [true, false, false, true, false, true, false, true, true, true, true, false, false]] = true := chk2_s (n := 12) (by kernel_rfl) (by kernel_rfl) (by kernel_rfl) (by kernel_rfl) ck3_tft ck3_tff
theorem ck3_t : chk2 14 [[false, false, false, false, false, false, false, false, false, false, false, false, true, false], [true, false, false, false, false, true, false, false, false, false, false, false, false, false], [true, false, false, false, false, false, false, false, true, false, false, false, false, false], [true, false, false, false, false, false, false, false, false, false, false, true, false, false], [true, false, false, false, false, false, false, false, false, false, false, false, true, false], [false, false, true, false, false, true, false, false, false, false, false, false, false, false], [false, false, true, false, false, false, false, false, true, false, false, false, false, false], [false, false, false, true, false, false, false, false, false, false, false, true, false, false], [false, false, false, false, false, true, false, true, false, false, false, false, false, false], [false, false, false, false, false, true, false, false, true, false, false, false, false, false], [false, false, false, false, false, true, false, false, false, false, false, false, true, false], [false, false, false, false, false, true, false, false, false, false, false, false, false, true], [false, false, false, false, false, false, false, true, true, false, false, false, false, false], [false, false, false, false, false, false, false, true, false, false, false, true, false, false], [false, false, false, false, false, false, false, false, true, false, false, false, false, true], [false, false, false, false, false, false, false, false, false, false, true, false, true, false], [false, false, false, false, false, false, false, false, false, false, false, true, true, false], [false, true, true, false, false, false, false, false, false, false, false, false, true, false], [false, true, false, false, false, false, false, false, false, false, false, false, true, true], [false, false, true, false, true, false, false, false, false, false, false, true, false, false], [false, false, true, false, false, false, true, false, false, false, false, false, true, false], [false, false, false, false, true, false, false, false, false, false, false, true, false, true], [false, true, false, false, true, false, false, false, false, false, false, true, false, true], [false, false, false, false, true, false, false, false, false, true, false, true, false, true], [false, false, false, false, true, false, false, false, false, false, true, true, false, true], [false, false, false, false, false, false, true, false, false, true, false, false, true, true]] [[true, true, true, true, true, false, true, true, false, true, true, false, false, true], [false, true, true, false, false, false, true, false, false, true, true, true, false, true], [false, true, false, true, true, true, true, false, false, true, true, false, false, false], [false, true, false, true, true, false, true, false, true, true, true, false, false, false], [false, true, false, false, true, true, true, false, false, true, true, true, false, false], [false, true, false, false, true, false, true, false, true, true, true, true, false, false]] = true := chk2_s (n := 13) (by kernel_rfl) (by kernel_rfl) (by kernel_rfl) (by kernel_rfl) ck3_tt ck3_tf
theorem ck3_fttt : chk2 11 [[false, false, true, false, false, false, false, false, false, false, false], [false, false, false, false, false, true, false, false, false, false, false], [false, false, false, false, false, false, false, false, true, false, false], [false, false, false, false, false, false, false, false, false, true, false], [false, false, true, false, false, false, false, false, false, false, false], [false, false, false, false, false, true, false, false, false, false, false], [true, false, false, false, false, false, false, false, true, false, false], [false, false, true, false, true, false, false, false, false, false, false], [false, false, true, false, false, true, false, false, false, false, false], [false, false, true, false, false, false, false, false, false, true, false], [false, false, true, false, false, false, false, false, false, false, true], [false, false, false, false, true, true, false, false, false, false, false], [false, false, false, false, true, false, false, false, true, false, false], [false, false, false, false, false, true, false, false, false, false, true], [false, false, false, false, false, false, false, true, false, true, false], [false, false, false, false, false, false, false, false, true, true, false], [false, false, false, false, false, false, false, false, false, true, false], [false, false, false, false, false, false, false, false, false, true, true], [false, true, false, false, false, false, false, false, true, false, false], [false, false, false, true, false, false, false, false, false, true, false], [false, true, false, false, false, false, false, false, true, false, true], [false, true, false, false, false, false, true, false, true, false, true], [false, true, false, false, false, false, false, true, true, false, true], [false, false, false, true, false, false, true, false, false, true, true]] [[true, true, false, true, true, false, true, true, false, false, true]] = true := by decide +kernel
theorem ck3_fttf : chk2 11 [[false, false, true, false, false, false, false, false, false, false, false], [false, false, false, false, false, true, false, false, false, false, false], [false, false, false, false, false, false, false, false, true, false, false], [false, false, false, false, false, false, false, false, false, true, false], [true, false, false, false, false, false, false, false, true, false, false], [false, false, true, false, true, false, false, false, false, false, false], [false, false, true, false, false, true, false, false, false, false, false], [false, false, true, false, false, false, false, false, false, true, false], [false, false, true, false, false, false, false, false, false, false, true], [false, false, false, false, true, true, false, false, false, false, false], [false, false, false, false, true, false, false, false, true, false, false], [false, false, false, false, false, true, false, false, false, false, true], [false, false, false, false, false, false, false, true, false, true, false], [false, false, false, false, false, false, false, false, true, true, false], [false, false, false, false, false, false, false, false, false, true, true], [false, true, false, false, false, false, false, false, true, false, true], [false, true, false, false, false, false, true, false, true, false, true], [false, true, false, false, false, false, false, true, true, false, true], [false, false, false, true, false, false, true, false, false, true, true]] [[true, true, false, true, true, false, true, true, false, false, true]] = true := by decide +kernel
theorem ck3_ftt : chk2 12 [[false, false, false, true, false, false, false, false, false, false, false, false], [false, false, false, false, false, false, true, false, false, false, false, false], [false, false, false, false, false, false, false, false, false, true, false, false], [false, false, false, false, false, false, false, false, false, false, true, false], [true, false, false, true, false, false, false, false, false, false, false, false], [true, false, false, false, false, false, true, false, false, false, false, false], [false, true, false, false, false, false, false, false, false, true, false, false], [false, false, false, true, false, true, false, false, false, false, false, false], [false, false, false, true, false, false, true, false, false, false, false, false], [false, false, false, true, false, false, false, false, false, false, true, false], [false, false, false, true, false, false, false, false, false, false, false, true], [false, false, false, false, false, true, true, false, false, false, false, false], [false, false, false, false, false, true, false, false, false, true, false, false], [false, false, false, false, false, false, true, false, false, false, false, true], [false, false, false, false, false, false, false, false, true, false, true, false], [false, false, false, false, false, false, false, false, false, true, true, false], [true, false, false, false, false, false, false, false, false, false, true, false], [false, false, false, false, false, false, false, false, false, false, true, true], [true, false, true, false, false, false, false, false, false, true, false, false], [true, false, false, false, true, false, false, false, false, false, true, false], [false, false, true, false, false, false, false, false, false, true, false, true], [false, false, true, false, false, false, false, true, false, true, false, true], [false, false, true, false, false, false, false, false, true, true, false, true], [false, false, false, false, true, false, false, true, false, false, true, true]] [[true, true, true, false, true, true, false, true, true, false, false, true]] = true := chk2_s (n := 11) (by kernel_rfl) (by kernel_rfl) (by kernel_rfl) (by kernel_rfl) ck3_fttt ck3_fttf
theorem ck3_ftft : chk2 11 [[false, false, true, false, false, false, false, false, false, false, false], [false, false, false, false, false, true, false, false, false, false, false], [false, false, false, false, false, false, false, false, true, false, false], [false, false, false, false, false, false, false, false, false, true, false], [false, false, true, false, false, false, false, false, false, false, false], [false, false, false, false, false, true, false, false, false, false, false], [true, false, false, false, false, false, false, false, true, false, false], [false, false, true, false, true, false, false, false, false, false, false], [false, false, true, false, false, true, false, false, false, false, false], [false, false, true, false, false, false, false, false, false, true, false], [false, false, true, false, false, false, false, false, false, false, true], [false, false, false, false, true, true, false, false, false, false, false], [false, false, false, false, true, false, false, false, true, false, false], [false, false, false, false, false, true, false, false, false, false, true], [false, false, false, false, false, false, false, true, false, true, false], [false, false, false, false, false, false, false, false, true, true, false], [false, true, false, false, false, false, false, false, true, false, false], [false, false, false, true, false, false, false, false, false, true, false], [false, true, false, false, false, false, true, false, true, false, true], [false, true, false, false, false, false, false, true, true, false, true], [false, false, false, true, false, false, true, false, false, true, true]] [[true, true, false, true, true, false, true, true, false, false, true]] = true := by decide +kernel
theorem ck3_ftff : chk2 11 [[false, false, true, false, false, false, false, false, false, false, false], [false, false, false, false, false, true, false, false, false, false, false], [false, false, false, false, false, false, false, false, true, false, false], [false, false, false, false, false, false, false, false, false, true, false], [true, false, false, false, false, false, false, false, true, false, false], [false, false, true, false, true, false, false, false, false, false, false], [false, false, true, false, false, true, false, false, false, false, false], [false, false, true, false, false, false, false, false, false, true, false], [false, false, true, false, false, false, false, false, false, false, true], [false, false, false, false, true, true, false, false, false, false, false], [false, false, false, false, true, false, false, false, true, false, false], [false, false, false, false, false, true, false, false, false, false, true], [false, false, false, false, false, false, false, true, false, true, false], [false, false, false, false, false, false, false, false, true, true, false], [false, true, false, false, false, false, true, false, true, false, true], [false, true, false, false, false, false, false, true, true, false, true], [false, false, false, true, false, false, true, false, false, true, true]] [[true, true, false, true, true, false, true, true, false, false, true]] = true := by decide +kernel
theorem ck3_ftf : chk2 12 [[false, false, false, true, false, false, false, false, false, false, false, false], [false, false, false, false, false, false, true, false, false, false, false, false], [false, false, false, false, false, false, false, false, false, true, false, false], [false, false, false, false, false, false, false, false, false, false, true, false], [true, false, false, true, false, false, false, false, false, false, false, false], [true, false, false, false, false, false, true, false, false, false, false, false], [false, true, false, false, false, false, false, false, false, true, false, false], [false, false, false, true, false, true, false, false, false, false, false, false], [false, false, false, true, false, false, true, false, false, false, false, false], [false, false, false, true, false, false, false, false, false, false, true, false], [false, false, false, true, false, false, false, false, false, false, false, true], [false, false, false, false, false, true, true, false, false, false, false, false], [false, false, false, false, false, true, false, false, false, true, false, false], [false, false, false, false, false, false, true, false, false, false, false, true], [false, false, false, false, false, false, false, false, true, false, true, false], [false, false, false, false, false, false, false, false, false, true, true, false], [true, false, true, false, false, false, false, false, false, true, false, false], [true, false, false, false, true, false, false, false, false, false, true, false], [false, false, true, false, false, false, false, true, false, true, false, true], [false, false, true, false, false, false, false, false, true, true, false, true], [false, false, false, false, true, false, false, true, false, false, true, true]] [[true, true, true, false, true, true, false, true, true, false, false, true]] = true := chk2_s (n := 11) (by kernel_rfl) (by kernel_rfl) (by kernel_rfl) (by kernel_rfl) ck3_ftft ck3_ftff
theorem ck3_ft : chk2 13 [[false, false, false, false, true, false, false, false, false, false, false, false, false], [false, false, false, false, false, false, false, true, false, false, false, false, false], [false, false, false, false, false, false, false, false, false, false, true, false, false], [false, false, false, false, false, false, false, false, false, false, false, true, false], [false, true, false, false, true, false, false, false, false, false, false, false, false], [false, true, false, false, false, false, false, true, false, false, false, false, false], [false, false, true, false, false, false, false, false, false, false, true, false, false], [false, false, false, false, true, false, true, false, false, false, false, false, false], [false, false, false, false, true, false, false, true, false, false, false, false, false], [false, false, false, false, true, false, false, false, false, false, false, true, false], [false, false, false, false, true, false, false, false, false, false, false, false, true], [false, false, false, false, false, false, true, true, false, false, false, false, false], [false, false, false, false, false, false, true, false, false, false, true, false, false], [false, false, false, false, false, false, false, true, false, false, false, false, true], [false, false, false, false, false, false, false, false, false, true, false, true, false], [false, false, false, false, false, false, false, false, false, false, true, true, false], [true, true, false, false, false, false, false, false, false, false, false, true, false], [true, false, false, false, false, false, false, false, false, false, false, true, true], [false, true, false, true, false, false, false, false, false, false, true, false, false], [false, true, false, false, false, true, false, false, false, false, false, true, false], [true, false, false, true, false, false, false, false, false, false, true, false, true], [false, false, false, true, false, false, false, false, true, false, true, false, true], [false, false, false, true, false, false, false, false, false, true, true, false, true], [false, false, false, false, false, true, false, false, true, false, false, true, true]] [[true, true, true, true, false, true, true, false, true, true, false, false, true]] = true := chk2_s (n := 12) (by kernel_rfl) (by kernel_rfl) (by kernel_rfl) (by kernel_rfl) ck3_ftt ck3_ftf
theorem ck3_fftt : chk2 11 [[false, false, true, false, false, false, false, false, false, false, false], [false, false, false, false, false, true, false, false, false, false, false], [true, false, false, false, false, false, false, false, true, false, false], [false, false, true, false, true, false, false, false, false, false, false], [false, false, true, false, false, true, false, false, false, false, false], [false, false, true, false, false, false, false, false, false, true, false], [false, false, true, false, false, false, false, false, false, false, true], [false, false, false, false, true, true, false, false, false, false, false], [false, false, false, false, true, false, false, false, true, false, false], [false, false, false, false, false, true, false, false, false, false, true], [false, false, false, false, false, false, false, true, false, true, false], [false, false, false, false, false, false, false, false, true, true, false], [false, false, false, false, false, false, false, false, false, true, false], [false, false, false, false, false, false, false, false, false, true, true], [false, true, false, false, false, false, false, false, true, false, false], [false, false, false, true, false, false, false, false, false, true, false], [false, true, false, false, false, false, false, false, true, false, true], [false, true, false, false, false, false, true, false, true, false, true], [false, true, false, false, false, false, false, true, true, false, true], [false, false, false, true, false, false, true, false, false, true, true]] [[true, true, false, true, true, false, true, true, false, false, true], [false, false, false, true, false, false, true, true, true, false, true]] = true := by decide +kernel
theorem ck3_fftf : chk2 11 [[true, false, false, false, false, false, false, false, true, false, false], [false, false, true, false, true, false, false, false, false, false, false], [false, false, true, false, false, true, false, false, false, false, false], [false, false, true, false, false, false, false, false, false, true, false], [false, false, true, false, false, false, false, false, false, false, true], [false, false, false, false, true, true, false, false, false, false, false], [false, false, false, false, true, false, false, false, true, false, false], [false, false, false, false, false, true, false, false, false, false, true], [false, false, false, false, false, false, false, true, false, true, false], [false, false, false, false, false, false, false, false, true, true, false], [false, false, false, false, false, false, false, false, false, true, true], [false, true, false, false, false, false, false, false, true, false, true], [false, true, false, false, false, false, true, false, true, false, true], [false, true, false, false, false, false, false, true, true, false, true], [false, false, false, true, false, false, true, false, false, true, true]] [[true, true, false, true, true, false, true, true, false, false, true], [false, false, false, true, false, false, true, true, true, false, true], [true, true, true, true, false, false, true, true, false, false, false], [true, true, false, true, false, true, true, true, false, false, false], [false, true, true, true, false, false, true, true, true, false, false], [false, true, false, true, false, true, true, true, true, false, false], [true, true, false, true, true, false, true, false, false, true, false], [true, true, false, true, false, true, true, false, false, true, false]] = true := by decide +kernel
theorem ck3_fft : chk2 12 [[true, false, false, true, false, false, false, false, false, false, false, false], [true, false, false, false, false, false, true, false, false, false, false, false], [false, true, false, false, false, false, false, false, false, true, false, false], [false, false, false, true, false, true, false, false, false, false, false, false], [false, false, false, true, false, false, true, false, false, false, false, false], [false, false, false, true, false, false, false, false, false, false, true, false], [false, false, false, true, false, false, false, false, false, false, false, true], [false, false, false, false, false, true, true, false, false, false, false, false], [false, false, false, false, false, true, false, false, false, true, false, false], [false, false, false, false, false, false, true, false, false, false, false, true], [false, false, false, false, false, false, false, false, true, false, true, false], [false, false, false, false, false, false, false, false, false, true, true, false], [true, false, false, false, false, false, false, false, false, false, true, false], [false, false, false, false, false, false, false, false, false, false, true, true], [true, false, true, false, false, false, false, false, false, true, false, false], [true, false, false, false, true, false, false, false, false, false, true, false], [false, false, true, false, false, false, false, false, false, true, false, true], [false, false, true, false, false, false, false, true, false, true, false, true], [false, false, true, false, false, false, false, false, true, true, false, true], [false, false, false, false, true, false, false, true, false, false, true, true]] [[true, true, true, false, true, true, false, true, true, false, false, true], [true, false, false, false, true, false, false, true, true, true, false, true], [false, true, true, true, true, false, false, true, true, false, false, false], [false, true, true, false, true, false, true, true, true, false, false, false], [false, false, true, true, true, false, false, true, true, true, false, false], [false, false, true, false, true, false, true, true, true, true, false, false], [false, true, true, false, true, true, false, true, false, false, true, false], [false, true, true, false, true, false, true, true, false, false, true, false]] = true := chk2_s (n := 11) (by kernel_rfl) (by kernel_rfl) (by kernel_rfl) (by kernel_rfl) ck3_fftt ck3_fftf
theorem ck3_ffft : chk2 11 [[false, false, true, false, false, false, false, false, false, false, false], [false, false, false, false, false, true, false, false, false, false, false], [true, false, false, false, false, false, false, false, true, false, false], [false, false, true, false, true, false, false, false, false, false, false], [false, false, true, false, false, true, false, false, false, false, false], [false, false, true, false, false, false, false, false, false, true, false], [false, false, true, false, false, false, false, false, false, false, true], [false, false, false, false, true, true, false, false, false, false, false], [false, false, false, false, true, false, false, false, true, false, false], [false, false, false, false, false, true, false, false, false, false, true], [false, false, false, false, false, false, false, true, false, true, false], [false, false, false, false, false, false, false, false, true, true, false], [false, true, false, false, false, false, false, false, true, false, false], [false, false, false, true, false, false, false, false, false, true, false], [false, true, false, false, false, false, true, false, true, false, true], [false, true, false, false, false, false, false, true, true, false, true], [false, false, false, true, false, false, true, false, false, true, true]] [[true, true, false, true, true, false, true, true, false, false, true], [false, false, false, true, false, false, true, true, true, false, true], [true, true, false, false, true, false, true, false, false, true, true]] = true := by decide +kernel
theorem ck3_ffff : chk2 11 [[true, false, false, false, false, false, false, false, true, false, false], [false, false, true, false, true, false, false, false, false, false, false], [false, false, true, false, false, true, false, false, false, false, false], [false, false, true, false, false, false, false, false, false, true, false], [false, false, true, false, false, false, false, false, false, false, true], [false, false, false, false, true, true, false, false, false, false, false], [false, false, false, false, true, false, false, false, true, false, false], [false, false, false, false, false, true, false, false, false, false, true], [false, false, false, false, false, false, false, true, false, true, false], [false, false, false, false, false, false, false, false, true, true, false], [false, true, false, false, false, false, true, false, true, false, true], [false, true, false, false, false, false, false, true, true, false, true], [false, false, false, true, false, false, true, false, false, true, true]] [[true, true, false, true, true, false, true, true, false, false, true], [false, false, false, true, false, false, true, true, true, false, true], [true, true, true, true, false, false, true, true, false, false, false], [true, true, false, true, false, true, true, true, false, false, false], [false, true, true, true, false, false, true, true, true, false, false], [false, true, false, true, false, true, true, true, true, false, false], [true, true, false, true, true, false, true, false, false, true, false], [true, true, false, true, false, true, true, false, false, true, false], [true, true, false, false, true, false, true, false, false, true, true], [true, true, false, true, true, false, false, false, false, true, true], [false, true, false, true, false, false, false, false, true, false, true]] = true := by decide +kernel
theorem ck3_fff : chk2 12 [[true, false, false, true, false, false, false, false, false, false, false, false], [true, false, false, false, false, false, true, false, false, false, false, false], [false, true, false, false, false, false, false, false, false, true, false, false], [false, false, false, true, false, true, false, false, false, false, false, false], [false, false, false, true, false, false, true, false, false, false, false, false], [false, false, false, true, false, false, false, false, false, false, true, false], [false, false, false, true, false, false, false, false, false, false, false, true], [false, false, false, false, false, true, true, false, false, false, false, false], [false, false, false, false, false, true, false, false, false, true, false, false], [false, false, false, false, false, false, true, false, false, false, false, true], [false, false, false, false, false, false, false, false, true, false, true, false], [false, false, false, false, false, false, false, false, false, true, true, false], [true, false, true, false, false, false, false, false, false, true, false, false], [true, false, false, false, true, false, false, false, false, false, true, false], [false, false, true, false, false, false, false, true, false, true, false, true], [false, false, true, false, false, false, false, false, true, true, false, true], [false, false, false, false, true, false, false, true, false, false, true, true]] [[true, true, true, false, true, true, false, true, true, false, false, true], [true, false, false, false, true, false, false, true, true, true, false, true], [false, true, true, true, true, false, false, true, true, false, false, false], [false, true, true, false, true, false, true, true, true, false, false, false], [false, false, true, true, true, false, false, true, true, true, false, false], [false, false, true, false, true, false, true, true, true, true, false, false], [false, true, true, false, true, true, false, true, false, false, true, false], [false, true, true, false, true, false, true, true, false, false, true, false], [true, true, true, false, false, true, false, true, false, false, true, true], [false, true, true, false, true, true, false, false, false, false, true, true], [false, false, true, false, true, false, false, false, false, true, false, true]] = true := chk2_s (n := 11) (by kernel_rfl) (by kernel_rfl) (by kernel_rfl) (by kernel_rfl) ck3_ffft ck3_ffff
theorem ck3_ff : chk2 13 [[false, true, false, false, true, false, false, false, false, false, false, false, false], [false, true, false, false, false, false, false, true, false, false, false, false, false], [false, false, true, false, false, false, false, false, false, false, true, false, false], [false, false, false, false, true, false, true, false, false, false, false, false, false], [false, false, false, false, true, false, false, true, false, false, false, false, false], [false, false, false, false, true, false, false, false, false, false, false, true, false], [false, false, false, false, true, false, false, false, false, false, false, false, true], [false, false, false, false, false, false, true, true, false, false, false, false, false], [false, false, false, false, false, false, true, false, false, false, true, false, false], [false, false, false, false, false, false, false, true, false, false, false, false, true], [false, false, false, false, false, false, false, false, false, true, false, true, false], [false, false, false, false, false, false, false, false, false, false, true, true, false], [true, true, false, false, false, false, false, false, false, false, false, true, false], [true, false, false, false, false, false, false, false, false, false, false, true, true], [false, true, false, true, false, false, false, false, false, false, true, false, false], [false, true, false, false, false, true, false, false, false, false, false, true, false], [true, false, false, true, false, false, false, false, false, false, true, false, true], [false, false, false, true, false, false, false, false, true, false, true, false, true], [false, false, false, true, false, false, false, false, false, true, true, false, true], [false, false, false, false, false, true, false, false, true, false, false, true, true]] [[true, true, true, true, false, true, true, false, true, true, false, false, true], [true, true, false, false, false, true, false, false, true, true, true, false, true], [true, false, true, true, true, true, false, false, true, true, false, false, false], [true, false, true, true, false, true, false, true, true, true, false, false, false], [true, false, false, true, true, true, false, false, true, true, true, false, false], [true, false, false, true, false, true, false, true, true, true, true, false, false], [true, false, true, true, false, true, true, false, true, false, false, true, false], [true, false, true, true, false, true, false, true, true, false, false, true, false], [false, true, true, true, false, false, true, false, true, false, false, true, true], [false, false, true, true, false, true, true, false, false, false, false, true, true], [false, false, false, true, false, true, false, false, false, false, true, false, true]] = true := chk2_s (n := 12) (by kernel_rfl) (by kernel_rfl) (by kernel_rfl) (by kernel_rfl) ck3_fft ck3_fff
theorem ck3_f : chk2 14 [[true, false, false, false, false, true, false, false, false, false, false, false, false, false], [true, false, false, false, false, false, false, false, true, false, false, false, false, false], [true, false, false, false, false, false, false, false, false, false, false, true, false, false], [true, false, false, false, false, false, false, false, false, false, false, false, true, false], [false, false, true, false, false, true, false, false, false, false, false, false, false, false], [false, false, true, false, false, false, false, false, true, false, false, false, false, false], [false, false, false, true, false, false, false, false, false, false, false, true, false, false], [false, false, false, false, false, true, false, true, false, false, false, false, false, false], [false, false, false, false, false, true, false, false, true, false, false, false, false, false], [false, false, false, false, false, true, false, false, false, false, false, false, true, false], [false, false, false, false, false, true, false, false, false, false, false, false, false, true], [false, false, false, false, false, false, false, true, true, false, false, false, false, false], [false, false, false, false, false, false, false, true, false, false, false, true, false, false], [false, false, false, false, false, false, false, false, true, false, false, false, false, true], [false, false, false, false, false, false, false, false, false, false, true, false, true, false], [false, false, false, false, false, false, false, false, false, false, false, true, true, false], [false, true, true, false, false, false, false, false, false, false, false, false, true, false], [false, true, false, false, false, false, false, false, false, false, false, false, true, true], [false, false, true, false, true, false, false, false, false, false, false, true, false, false], [false, false, true, false, false, false, true, false, false, false, false, false, true, false], [false, true, false, false, true, false, false, false, false, false, false, true, false, true], [false, false, false, false, true, false, false, false, false, true, false, true, false, true], [false, false, false, false, true, false, false, false, false, false, true, true, false, true], [false, false, false, false, false, false, true, false, false, true, false, false, true, true]] [[true, true, true, true, true, false, true, true, false, true, true, false, false, true], [false, true, true, false, false, false, true, false, false, true, true, true, false, true], [false, true, false, true, true, true, true, false, false, true, true, false, false, false], [false, true, false, true, true, false, true, false, true, true, true, false, false, false], [false, true, false, false, true, true, true, false, false, true, true, true, false, false], [false, true, false, false, true, false, true, false, true, true, true, true, false, false], [false, true, false, true, true, false, true, true, false, true, false, false, true, false], [false, true, false, true, true, false, true, false, true, true, false, false, true, false], [false, false, true, true, true, false, false, true, false, true, false, false, true, true], [false, false, false, true, true, false, true, true, false, false, false, false, true, true], [false, false, false, false, true, false, true, false, false, false, false, true, false, true]] = true := chk2_s (n := 13) (by kernel_rfl) (by kernel_rfl) (by kernel_rfl) (by kernel_rfl) ck3_ft ck3_ff
theorem ck3_ : chk2 15 CM3 GM3 = true := chk2_s (n := 14) (by kernel_rfl) (by kernel_rfl) (by kernel_rfl) (by kernel_rfl) ck3_t ck3_f
theorem cla3 {bs : List Bool} (hb : bs.length = 15) : r_clashes [(.int (.ofNat 3)), Ws bs] = .ret (.tup ((CM3.map Ws).filter (inW bs))) := by
  unfold r_clashes
  refine nB (fr := [some (.v (.int (.ofNat 3))), some (.v (Ws bs)), none]) rfl (nSeq (nDrop (nCall (nA (nV rfl) (nA (nV rfl) nN)) rfl (ckw3 bs))) (nRetF (nTup (nLc1 (nLseqT (nCall (nA (nV rfl) nN) rfl lc_e3)) (few_of (by rw [List.length_map]; exact Nat.le_trans lens3.1 (by decide))) rfl ?_))))
  refine (lcF_map (inW bs) (fun d => d) _ ?_).trans (by rw [List.map_id'])
  intro d hd
  obtain ⟨c, hc, rfl⟩ := List.mem_map.mp hd
  refine ⟨[some (.v (.int (.ofNat 3))), some (.v (Ws bs)), some (.v (Ws c))], nGI rfl, ?_, fun _ => nV rfl⟩
  rw [inW_W (CMl3 c hc) hb]
  exact nB1 (nCall (nA (nV rfl) (nA (nV rfl) nN)) rfl (lieW (CMl3 c hc) hb))
theorem frc3 {bs : List Bool} (hb : bs.length = 15) : r_forcings [(.int (.ofNat 3)), Ws bs] = .ret (.tup ((FM3.map Ws).filter (inW bs))) := by
  unfold r_forcings
  refine nB (fr := [some (.v (.int (.ofNat 3))), some (.v (Ws bs)), none]) rfl (nSeq (nDrop (nCall (nA (nV rfl) (nA (nV rfl) nN)) rfl (ckw3 bs))) (nRetF (nTup (nLc1 (nLseqT (nCall (nA (nV rfl) nN) rfl lf_e3)) (few_of (by rw [List.length_map]; exact Nat.le_trans lens3.2.1 (by decide))) rfl ?_))))
  refine (lcF_map (inW bs) (fun d => d) _ ?_).trans (by rw [List.map_id'])
  intro d hd
  obtain ⟨c, hc, rfl⟩ := List.mem_map.mp hd
  refine ⟨[some (.v (.int (.ofNat 3))), some (.v (Ws bs)), some (.v (Ws c))], nGI rfl, ?_, fun _ => nV rfl⟩
  rw [inW_W (FMl3 c hc) hb]
  exact nB1 (nCall (nA (nV rfl) (nA (nV rfl) nN)) rfl (lieW (FMl3 c hc) hb))
def cn3 (bs : List Bool) : Bool := Nat.beq (CM3.countP fun c => subB c bs) 0
def fn3 (bs : List Bool) : Bool := Nat.beq (FM3.countP fun c => subB c bs) 0
theorem canh3 {bs : List Bool} (hb : bs.length = 15) : r_can_hold [(.int (.ofNat 3)), Ws bs] = .ret (.bl (cn3 bs)) := by
  unfold r_can_hold
  refine nB (fr := [some (.v (.int (.ofNat 3))), some (.v (Ws bs))]) rfl (nRetF (n2 (nCall (nA (nV rfl) (nA (nV rfl) nN)) rfl (cla3 hb)) (y := .tup []) rfl ?_))
  rw [dEq_nilT (allO_filter okC3), emp CMl3 hb]
  rfl
theorem frne3 {bs : List Bool} (hb : bs.length = 15) : e2 dNeF (eCall r_forcings 2 (aC (eV 0) (aC (eV 1) aN))) (eT aN) [some (.v (.int (.ofNat 3))), some (.v (Ws bs))] [] = T.ret (.bl (!fn3 bs)) := by
  refine n2 (nCall (nA (nV rfl) (nA (nV rfl) nN)) rfl (frc3 hb)) (y := .tup []) rfl ?_
  rw [dNe_nilT (allO_filter okF3), emp FMl3 hb]
  rfl
theorem frcs3 {bs : List Bool} (hb : bs.length = 15) : r_forces [(.int (.ofNat 3)), Ws bs] = .ret (.bl (cn3 bs && !fn3 bs)) := by
  unfold r_forces
  exact nB (fr := [some (.v (.int (.ofNat 3))), some (.v (Ws bs))]) rfl (nRetF (nAnd (nCall (nA (nV rfl) (nA (nV rfl) nN)) rfl (canh3 hb)) (frne3 hb)))
def ad3 (bs : List Bool) (a : List Nat) : Bool := cn3 (bs.set (ixA a) true)
theorem can_add3 {bs : List Bool} (hb : bs.length = 15) : r_can_add [(.int (.ofNat 3)), Ws bs] = .ret (.tup (nmL ((AXN.filter (nt bs)).filter (ad3 bs)))) := by
  have e := lcF_mp (set := (gIX 3)) (t := (b1 (eInF true (eV 3) (lSeq (eV 1))))) (e := (eV 3)) (fr := [some (.v (.int (.ofNat 3))), some (.v (Ws bs)), none, none]) (hp := []) D.str (nt bs) D.str AXN fun a ha => ⟨_, nGI rfl, nB1 (nNiS (nV rfl) (nLseqT (nV rfl))), fun _ => nV rfl⟩
  have e2 := lcF_mp (set := (gIX 3)) (t := (b1 (eCall r_can_hold 2 (aC (eV 0) (aC (eCall r_with_one 2 (aC (eV 1) (aC (eV 3) aN))) aN))))) (e := (eV 3)) (fr := [some (.v (.int (.ofNat 3))), some (.v (Ws bs)), some (.v (.lst (nmL (AXN.filter fun a => !decide (a ∈ flG bs AXN))))), none]) (hp := []) D.str (ad3 bs) D.str (AXN.filter (nt bs)) fun a ha => by
    have ⟨h1, h2⟩ := List.mem_filter.mp ha
    have hn : a ∉ flG bs AXN := fun z => by
      unfold nt at h2
      rw [decide_eq_true z] at h2
      cases h2
    exact ⟨_, nGI rfl, nB1 (nCall (nA (nV rfl) (nA (nCall (nA (nV rfl) (nA (nV rfl) nN)) rfl (with_one_ (notin_at hb h1 hn) (ixA_ok h1))) nN)) rfl (canh3 (by rw [List.length_set]; exact hb))), fun _ => nV rfl⟩
  unfold r_can_add
  exact nB (fr := [some (.v (.int (.ofNat 3))), some (.v (Ws bs)), none, none]) rfl (nSeq (nDrop (nCall (nA (nV rfl) (nA (nV rfl) nN)) rfl (ckw3 bs))) (nSeq (nSetV (nLst (nLc1 (ds := nmL AXN) (nLseqT (nCall nN rfl ax_prog)) (few_of (by rw [nmL_len, AXl]; decide)) rfl e)) rfl) (nRetF (nTup (nLc1 (ds := nmL (AXN.filter (nt bs))) (nLseqL (nV rfl)) (few_of (by rw [nmL_len]; exact Nat.le_trans (List.length_filter_le _ _) (by rw [AXl]; decide))) rfl e2)))))
theorem rest_eq3 {bs : List Bool} (hb : bs.length = 15) : (AXN.filter fun a => nt bs a && Nat.beq (CM3.countP fun c => (flG c AXN).all fun x => decide (x ∈ flG bs AXN ++ [a])) 0) = (AXN.filter (nt bs)).filter (ad3 bs) := by
  rw [List.filter_filter]
  refine List.filter_congr fun a ha => ?_
  rw [Bool.and_comm]
  cases hq : nt bs a with
  | false => rw [Bool.and_false, Bool.and_false]
  | true =>
    rw [Bool.and_true, Bool.and_true]
    have hn : a ∉ flG bs AXN := fun z => by
      unfold nt at hq
      rw [decide_eq_true z] at hq
      cases hq
    have pm := flG_set (notin_at hb ha hn) (ixA_ok ha)
    unfold ad3 cn3
    congr 1
    refine List.countP_congr fun c hc => ?_
    have e : (flG c AXN).all (fun x => decide (x ∈ flG bs AXN ++ [a])) = subB c (bs.set (ixA a) true) := by
      rw [← sub_mem AXnd (by rw [CMl3 c hc, AXl]) (by rw [List.length_set, hb, AXl])]
      refine allc _ fun x _ => ?_
      exact decide_eq_decide.mpr pm.mem_iff.symm
    rw [e]
theorem al_f3 {q : D → Bool} : r_law_alike 8 [.tup ((CM3.map Ws).filter q), .tup ((CM3.map Ws).filter q)] = .ret (.bl true) ∧ r_law_alike 8 [.tup ((FM3.map Ws).filter q), .tup ((FM3.map Ws).filter q)] = .ret (.bl true) := by
  have l := lens3
  refine ⟨alikeT (Nat.le_trans (List.length_filter_le _ _) (by rw [List.length_map]; omega)) fun d hd => ?_, alikeT (Nat.le_trans (List.length_filter_le _ _) (by rw [List.length_map]; omega)) fun d hd => ?_⟩
  · obtain ⟨c, hc, rfl⟩ := List.mem_map.mp (List.mem_filter.mp hd).1
    exact isTr_eq (List.all_eq_true.mp al03 c (List.mem_append_left _ hc))
  · obtain ⟨c, hc, rfl⟩ := List.mem_map.mp (List.mem_filter.mp hd).1
    exact isTr_eq (List.all_eq_true.mp al03 c (List.mem_append_right _ (List.mem_append_left _ hc)))
theorem al_w3 : r_law_alike 8 [.tup (CM3.map Ws), .tup (CM3.map Ws)] = .ret (.bl true) ∧ r_law_alike 8 [.tup (FM3.map Ws), .tup (FM3.map Ws)] = .ret (.bl true) ∧ r_law_alike 8 [.tup (GM3.map Ws), .tup (GM3.map Ws)] = .ret (.bl true) := by
  have l := lens3
  refine ⟨alikeT (by rw [List.length_map]; omega) fun d hd => ?_, alikeT (by rw [List.length_map]; omega) fun d hd => ?_, alikeT (by rw [List.length_map]; omega) fun d hd => ?_⟩
  · obtain ⟨c, hc, rfl⟩ := List.mem_map.mp hd
    exact isTr_eq (List.all_eq_true.mp al03 c (List.mem_append_left _ hc))
  · obtain ⟨c, hc, rfl⟩ := List.mem_map.mp hd
    exact isTr_eq (List.all_eq_true.mp al03 c (List.mem_append_right _ (List.mem_append_left _ hc)))
  · obtain ⟨c, hc, rfl⟩ := List.mem_map.mp hd
    exact isTr_eq (List.all_eq_true.mp al03 c (List.mem_append_right _ (List.mem_append_right _ hc)))
theorem turn3 {bs : List Bool} (hb : bs.length = 15) (x6 x8 x9 x10 x11 x12 : Option SV) : ∃ y8 y9 y10 y11 y12 : Option SV, ((sSeq (sParX 8 9 (eCall r_law_within 2 (aC (eV 3) (aC (eV 7) aN))) (eCall r_law_within 2 (aC (eV 4) (aC (eV 7) aN))))
    (sSeq (sIf (bOr (bNot (b1 (eCall (r_law_alike 8) 2 (aC (eCall r_clashes 2 (aC (eV 2) (aC (eV 7) aN))) (aCF (eTupOf (lSeq (eV 8))) aN))))) (bNot (b1 (eCall (r_law_alike 8) 2 (aC (eCall r_forcings 2 (aC (eV 2) (aC (eV 7) aN))) (aCF (eTupOf (lSeq (eV 9))) aN))))))
    (sRet (eC (.bl false))) sNil)
    (sSeq (sIf (bOr (bNot (b1 (eCall r_law_is 2 (aC (eCall r_can_hold 2 (aC (eV 2) (aC (eV 7) aN))) (aCF (e2 dEqF (eV 8) (lst (nL aN))) aN))))) (bNot (b1 (eCall r_law_is 2 (aC (eCall r_forces 2 (aC (eV 2) (aC (eV 7) aN))) (aCF (eAnd (e2 dEqF (eV 8) (lst (nL aN))) (e2 dNeF (eV 9) (lst (nL aN)))) aN))))))
    (sRet (eC (.bl false))) sNil)
    (sSeq (sIf (b1 (e2 dNeF (e2 dEqF (eV 8) (lst (nL aN))) (e2 dNeF (lst (nLc (lSeq (eV 5)) (gIX 10) (b1 (e2 dNeF (eCall r_law_within 2 (aCF (lst (nL (aC (eV 7) aN))) (aC (eV 10) aN))) (lst (nL aN)))) (eV 10) [10])) (lst (nL aN)))))
    (sRet (eC (.bl false))) sNil)
    (sSeq (sSetV 11 (lst (nLc (lSeq (eCall r_law_axioms 0 aN)) (gIX 12) (bAnd (b1 (eInF true (eV 12) (lSeq (eV 7)))) (b1 (e2 dEqF (eCall r_law_within 2 (aC (eV 3) (aCF (e2 dPlus (eV 7) (eT (aC (eV 12) aN))) aN))) (lst (nL aN))))) (eV 12) [12])))
    (sIf (bNot (b1 (eCall (r_law_alike 8) 2 (aC (eCall r_can_add 2 (aC (eV 2) (aC (eV 7) aN))) (aCF (eTupOf (lSeq (eV 11))) aN)))))
    (sRet (eC (.bl false))) sNil))))))) [none, some .row, some (.v (.int (.ofNat 3))), some (.v (.lst (CM3.map Ws))), some (.v (.lst (FM3.map Ws))), some (.v (.lst (GM3.map Ws))), x6, some (.v (Ws bs)), x8, x9, x10, x11, x12] [] = .ret (.nx [none, some .row, some (.v (.int (.ofNat 3))), some (.v (.lst (CM3.map Ws))), some (.v (.lst (FM3.map Ws))), some (.v (.lst (GM3.map Ws))), x6, some (.v (Ws bs)), y8, y9, y10, y11, y12] []) := by
  have l := lens3
  have w1 := within l.1 (flG bs AXN)
  have w2 := within l.2.1 (flG bs AXN)
  have empC : dEqF (.lst ((CM3.map Ws).filter (inW bs))) (.lst []) = .ret (.bl (cn3 bs)) := by
    rw [dEq_nilO (allO_filter okC3), emp CMl3 hb]
    rfl
  have empFn : dNeF (.lst ((FM3.map Ws).filter (inW bs))) (.lst []) = .ret (.bl (!fn3 bs)) := by
    rw [dNe_nilO (allO_filter okF3), emp FMl3 hb]
    rfl
  -- the greatest sets
  have eg := lcF_mp (set := (gIX 10)) (t := (b1 (e2 dNeF (eCall r_law_within 2 (aCF (lst (nL (aC (eV 7) aN))) (aC (eV 10) aN))) (lst (nL aN))))) (e := (eV 10)) (fr := [none, some .row, some (.v (.int (.ofNat 3))), some (.v (.lst (CM3.map Ws))), some (.v (.lst (FM3.map Ws))), some (.v (.lst (GM3.map Ws))), x6, some (.v (Ws bs)), some (.v (.lst ((CM3.map Ws).filter (inW bs)))), some (.v (.lst ((FM3.map Ws).filter (inW bs)))), none, x11, x12]) (hp := []) Ws (fun r => subB bs r) Ws GM3 fun r hr => by
    refine ⟨_, nGI rfl, ?_, fun _ => nV rfl⟩
    have w3 := within (M := [bs]) (show 1 ≤ 26 by decide) (flG r AXN)
    have e3 : ([bs].map Ws).filter (inQ (flG r AXN)) = bif subB bs r then [Ws bs] else [] := by
      have : inQ (flG r AXN) (Ws bs) = subB bs r := inW_W hb (GMl3 r hr)
      cases q : subB bs r with
      | true =>
        rw [q] at this
        exact List.filter_cons_of_pos this
      | false =>
        rw [q] at this
        exact List.filter_cons_of_neg (by rw [this]; exact Bool.false_ne_true)
    rw [e3] at w3
    refine nB1 (n2 (nCall (nAF (nLst (nNLi (nA (nV rfl) nN) rfl)) (nA (nV rfl) nN)) rfl w3) (nLst (xs := []) rfl) ?_)
    cases q : subB bs r with
    | true =>
      show dNeF (.lst [Ws bs]) (.lst []) = T.ret (.bl true)
      rw [dNe_nilO (show allO (okD 11) [Ws bs] = true from ?_)]
      · rfl
      · have : okD 11 (Ws bs) = true := by unfold Ws okD; exact okD_nm (all_flG AXok)
        unfold allO
        rw [if_pos this]
        rfl
    | false => rfl
  have hg : dNeF (.lst ((GM3.filter fun r => subB bs r).map Ws)) (.lst []) = .ret (.bl (cn3 bs)) := by
    have ok : allO (okD 11) ((GM3.filter fun r => subB bs r).map Ws) = true := by
      refine okM Ws _ fun r _ => ?_
      unfold Ws okD
      exact okD_nm (all_flG AXok)
    rw [dNe_nilO ok, empM]
    have h := eq_of_beq (chk2_ok 15 CM3 GM3 ck3_ bs hb)
    unfold cn3
    rw [h]
    congr 3
    rw [List.countP_eq_length_filter]
    cases GM3.filter fun r => subB bs r <;> rfl
  -- what can be added
  have er := lcF_mp (set := (gIX 12)) (t := (bAnd (b1 (eInF true (eV 12) (lSeq (eV 7)))) (b1 (e2 dEqF (eCall r_law_within 2 (aC (eV 3) (aCF (e2 dPlus (eV 7) (eT (aC (eV 12) aN))) aN))) (lst (nL aN)))))) (e := (eV 12)) (fr := [none, some .row, some (.v (.int (.ofNat 3))), some (.v (.lst (CM3.map Ws))), some (.v (.lst (FM3.map Ws))), some (.v (.lst (GM3.map Ws))), x6, some (.v (Ws bs)), some (.v (.lst ((CM3.map Ws).filter (inW bs)))), some (.v (.lst ((FM3.map Ws).filter (inW bs)))), x10, x11, none]) (hp := []) D.str (fun a => nt bs a && Nat.beq (CM3.countP fun c => (flG c AXN).all fun x => decide (x ∈ flG bs AXN ++ [a])) 0) D.str AXN fun a ha => by
    refine ⟨_, nGI rfl, nBAnd (nB1 (nNiS (nV rfl) (nLseqT (nV rfl)))) (nB1 (n2 (nCall (nA (nV rfl) (nAF (plus_a (nV rfl) (nV rfl)) nN)) rfl (within l.1 (flG bs AXN ++ [a]))) (nLst (xs := []) rfl) ?_)), fun _ => nV rfl⟩
    rw [dEq_nilO (allO_filter okC3), empQ]
  rw [rest_eq3 hb] at er
  have alr : r_law_alike 8 [.tup (nmL ((AXN.filter (nt bs)).filter (ad3 bs))), .tup (nmL ((AXN.filter (nt bs)).filter (ad3 bs)))] = .ret (.bl true) := alN (fun a h => (List.mem_filter.mp (List.mem_filter.mp h).1).1) (Nat.le_trans (List.length_filter_le _ _) (Nat.le_trans (List.length_filter_le _ _) (by rw [AXl]; decide)))
  refine ⟨some (.v (.lst ((CM3.map Ws).filter (inW bs)))), some (.v (.lst ((FM3.map Ws).filter (inW bs)))), x10, some (.v (.lst (nmL ((AXN.filter (nt bs)).filter (ad3 bs))))), x12, ?_⟩
  have fewG : few (GM3.map Ws) 10000 = true := few_of (by rw [List.length_map]; omega)
  refine nSeq (nParX (nCall (nA (nV rfl) (nA (nV rfl) nN)) rfl w1) (nCall (nA (nV rfl) (nA (nV rfl) nN)) rfl w2) rfl) ?_
  refine nSeq (nIfF (nOrF (nNot (b := true) (nB1 (nCall (nA (nCall (nA (nV rfl) (nA (nV rfl) nN)) rfl (cla3 hb)) (nAF (nTup (nLseqL (nV rfl))) nN)) rfl al_f3.1)) rfl) (nNot (b := true) (nB1 (nCall (nA (nCall (nA (nV rfl) (nA (nV rfl) nN)) rfl (frc3 hb)) (nAF (nTup (nLseqL (nV rfl))) nN)) rfl al_f3.2)) rfl)) nNil) ?_
  refine nSeq (nIfF (nOrF (nNot (b := true) (nB1 (nCall (nA (nCall (nA (nV rfl) (nA (nV rfl) nN)) rfl (canh3 hb)) (nAF (n2 (nV rfl) (nLst (xs := []) rfl) empC) nN)) rfl (lawis _))) rfl) (nNot (b := true) (nB1 (nCall (nA (nCall (nA (nV rfl) (nA (nV rfl) nN)) rfl (frcs3 hb)) (nAF (nAnd (n2 (nV rfl) (nLst (xs := []) rfl) empC) (n2 (nV rfl) (nLst (xs := []) rfl) empFn)) nN)) rfl (lawis _))) rfl)) nNil) ?_
  refine nSeq (nIfF (nB1 (n2 (n2 (nV rfl) (nLst (xs := []) rfl) empC) (n2 (nLst (nLc1 (nLseqL (nV rfl)) fewG rfl eg)) (nLst (xs := []) rfl) hg) (dNe_bl _))) nNil) ?_
  refine nSeq (nSetV (nLst (nLc1 (ds := nmL AXN) (nLseqL (nCall nN rfl ax_law)) (few_of (by rw [nmL_len, AXl]; decide)) rfl er)) rfl) ?_
  exact nIfF (nNot (b := true) (nB1 (nCall (nA (nCall (nA (nV rfl) (nA (nV rfl) nN)) rfl (can_add3 hb)) (nAF (nTup (nLseqL (nV rfl))) nN)) rfl alr)) rfl) nNil
end Zl
set_option Elab.async false
set_option linter.all false
set_option maxRecDepth 1000000
set_option maxHeartbeats 400000
namespace Zl
open PySem L2
structure AllS {α : Type} (t : T α) (P : α → Prop) : Prop where
  out : t.all P
theorem ret_all {f : Ex} {fr : Fr} {hp : Hz} {P : D → Prop} (h : (f fr hp).all P) : ((sRet f fr hp).bind retOf).all P := by
  unfold sRet
  refine T.bind_all (T.bind_all (T.all_mono (fun d hd => ?_) h))
  exact hd
theorem tup_all {f : Fr → Hz → T (List D)} {fr : Fr} {hp : Hz} {P : D → Prop} (h : (f fr hp).all fun xs => P (.tup xs)) : (eTupOf f fr hp).all P := by
  unfold eTupOf
  exact T.bind_all (T.all_mono (fun d hd => hd) h)
theorem wanted_all {m : Nat} (hm : (decide (1 ≤ (Int.ofNat m)) && decide ((Int.ofNat m) ≤ 1000000)) = true) {P : D → Prop} (h : ∀ bs : List Bool, bs.length = 15 → P (Ws bs)) : (r_law_wanted [.int (.ofNat m)]).all P := by
  unfold r_law_wanted runR
  rw [sRetF_eq]
  refine ret_all (tup_all ?_)
  unfold nLc
  have e : (lSeq (eCall r_law_axioms 0 aN)) (some .row :: argFr (3 - 1) [.int (.ofNat m)]) [] = .ret (nmL AXN) := nLseqL (nCall nN rfl ax_law)
  rw [T.bindE e]
  have hf : few (nmL AXN) 10000 = true := few_of (by rw [nmL_len, AXl]; decide)
  rw [hf]
  refine lcF_draw (m := m) (c := fun j => eqIf (j : Nat) 0) (nmL AXN) _ (fun d hd => ?_) fun bs hb => ?_
  · refine ⟨[some .row, some (.v (.int (.ofNat m))), some (.v d)], nGI rfl, ?_, nV rfl⟩
    unfold b1 e2
    rw [nTaken (n := m) (nA (nV rfl) nN) rfl hm]
    rfl
  · rw [← nmL_fl]
    exact h bs (by rw [hb, nmL_len, AXl])
theorem wt2 (x6 x7 x8 x9 x10 x11 x12 : Option SV) : AllS (((eCallR 1 r_law_wanted 1 (aC (eCallR 1 r_law_pick 1 (aCF (lst (nL (aC (eC (.int 2)) (aC (eC (.int 3)) (aC (eC (.int 4)) (aC (eC (.int 5)) aN)))))) aN)) aN))) [none, some .row, some (.v (.int (.ofNat 2))), some (.v (.lst (CM2.map Ws))), some (.v (.lst (FM2.map Ws))), some (.v (.lst (GM2.map Ws))), x6, x7, x8, x9, x10, x11, x12] []) fun d => ∃ bs : List Bool, bs.length = 15 ∧ d = Ws bs := by
  constructor
  refine all_of_sub (n := 4) (by decide) rfl fun i hi => ?_
  match i, hi with
  | 0, _ => exact wanted_all (m := 2) rfl fun bs hb => ⟨bs, hb, rfl⟩
  | 1, _ => exact wanted_all (m := 3) rfl fun bs hb => ⟨bs, hb, rfl⟩
  | 2, _ => exact wanted_all (m := 4) rfl fun bs hb => ⟨bs, hb, rfl⟩
  | 3, _ => exact wanted_all (m := 5) rfl fun bs hb => ⟨bs, hb, rfl⟩
theorem go2 : RtAll (g_law_r [none, some .row, some (.v (.int (.ofNat 2))), none, none, none, none, none, none, none, none, none, none] []) := by
  constructor
  have l := lens2
  have h1 : ((sPar3 3 4 5 (eCall r_law_clashes 1 (aC (eV 2) aN)) (eCall r_law_forcing 1 (aC (eV 2) aN)) (eCall r_law_great 1 (aC (eV 2) aN)))) [none, some .row, some (.v (.int (.ofNat 2))), none, none, none, none, none, none, none, none, none, none] [] = .ret (.nx [none, some .row, some (.v (.int (.ofNat 2))), some (.v (.lst (CM2.map Ws))), some (.v (.lst (FM2.map Ws))), some (.v (.lst (GM2.map Ws))), none, none, none, none, none, none, none] []) := nPar3 (nCall (nA (nV rfl) nN) rfl lw_c2) (nCall (nA (nV rfl) nN) rfl lw_f2) (nCall (nA (nV rfl) nN) rfl lw_g2) rfl
  have h2 : ((sIf (bOr (bNot (b1 (eCall (r_law_alike 8) 2 (aC (eCall r_least_clashes 1 (aC (eV 2) aN)) (aCF (eTupOf (lSeq (eV 3))) aN))))) (bOr (bNot (b1 (eCall (r_law_alike 8) 2 (aC (eCall r_least_forcing 1 (aC (eV 2) aN)) (aCF (eTupOf (lSeq (eV 4))) aN))))) (bNot (b1 (eCall (r_law_alike 8) 2 (aC (eCall r_greatest_sets 1 (aC (eV 2) aN)) (aCF (eTupOf (lSeq (eV 5))) aN)))))))
    (sRet (eC (.bl false))) sNil)) [none, some .row, some (.v (.int (.ofNat 2))), some (.v (.lst (CM2.map Ws))), some (.v (.lst (FM2.map Ws))), some (.v (.lst (GM2.map Ws))), none, none, none, none, none, none, none] [] = .ret (.nx [none, some .row, some (.v (.int (.ofNat 2))), some (.v (.lst (CM2.map Ws))), some (.v (.lst (FM2.map Ws))), some (.v (.lst (GM2.map Ws))), none, none, none, none, none, none, none] []) := nIfF (nOrF (nNot (b := true) (nB1 (nCall (nA (nCall (nA (nV rfl) nN) rfl lc_e2) (nAF (nTup (nLseqL (nV rfl))) nN)) rfl al_w2.1)) rfl) (nOrF (nNot (b := true) (nB1 (nCall (nA (nCall (nA (nV rfl) nN) rfl lf_e2) (nAF (nTup (nLseqL (nV rfl))) nN)) rfl al_w2.2.1)) rfl) (nNot (b := true) (nB1 (nCall (nA (nCall (nA (nV rfl) nN) rfl gr_e2) (nAF (nTup (nLseqL (nV rfl))) nN)) rfl al_w2.2.2)) rfl))) nNil
  have e : g_law_r [none, some .row, some (.v (.int (.ofNat 2))), none, none, none, none, none, none, none, none, none, none] [] = (sSeq ((sFor (lR1 (aC (eC (.int 3)) aN)) (gIF 6)
    (sSeq (sSet 7 (eCallR 1 r_law_wanted 1 (aC (eCallR 1 r_law_pick 1 (aCF (lst (nL (aC (eC (.int 2)) (aC (eC (.int 3)) (aC (eC (.int 4)) (aC (eC (.int 5)) aN)))))) aN)) aN)))
    (sSeq (sParX 8 9 (eCall r_law_within 2 (aC (eV 3) (aC (eV 7) aN))) (eCall r_law_within 2 (aC (eV 4) (aC (eV 7) aN))))
    (sSeq (sIf (bOr (bNot (b1 (eCall (r_law_alike 8) 2 (aC (eCall r_clashes 2 (aC (eV 2) (aC (eV 7) aN))) (aCF (eTupOf (lSeq (eV 8))) aN))))) (bNot (b1 (eCall (r_law_alike 8) 2 (aC (eCall r_forcings 2 (aC (eV 2) (aC (eV 7) aN))) (aCF (eTupOf (lSeq (eV 9))) aN))))))
    (sRet (eC (.bl false))) sNil)
    (sSeq (sIf (bOr (bNot (b1 (eCall r_law_is 2 (aC (eCall r_can_hold 2 (aC (eV 2) (aC (eV 7) aN))) (aCF (e2 dEqF (eV 8) (lst (nL aN))) aN))))) (bNot (b1 (eCall r_law_is 2 (aC (eCall r_forces 2 (aC (eV 2) (aC (eV 7) aN))) (aCF (eAnd (e2 dEqF (eV 8) (lst (nL aN))) (e2 dNeF (eV 9) (lst (nL aN)))) aN))))))
    (sRet (eC (.bl false))) sNil)
    (sSeq (sIf (b1 (e2 dNeF (e2 dEqF (eV 8) (lst (nL aN))) (e2 dNeF (lst (nLc (lSeq (eV 5)) (gIX 10) (b1 (e2 dNeF (eCall r_law_within 2 (aCF (lst (nL (aC (eV 7) aN))) (aC (eV 10) aN))) (lst (nL aN)))) (eV 10) [10])) (lst (nL aN)))))
    (sRet (eC (.bl false))) sNil)
    (sSeq (sSetV 11 (lst (nLc (lSeq (eCall r_law_axioms 0 aN)) (gIX 12) (bAnd (b1 (eInF true (eV 12) (lSeq (eV 7)))) (b1 (e2 dEqF (eCall r_law_within 2 (aC (eV 3) (aCF (e2 dPlus (eV 7) (eT (aC (eV 12) aN))) aN))) (lst (nL aN))))) (eV 12) [12])))
    (sIf (bNot (b1 (eCall (r_law_alike 8) 2 (aC (eCall r_can_add 2 (aC (eV 2) (aC (eV 7) aN))) (aCF (eTupOf (lSeq (eV 11))) aN)))))
    (sRet (eC (.bl false))) sNil))))))))) ((sRet (eC (.bl true))))) [none, some .row, some (.v (.int (.ofNat 2))), some (.v (.lst (CM2.map Ws))), some (.v (.lst (FM2.map Ws))), some (.v (.lst (GM2.map Ws))), none, none, none, none, none, none, none] [] := by
    unfold g_law_r
    exact nSeq h1 (nSeq h2 rfl)
  rw [e]
  refine T.bind_all ?_
  have e9 : ((sFor (lR1 (aC (eC (.int 3)) aN)) (gIF 6)
    (sSeq (sSet 7 (eCallR 1 r_law_wanted 1 (aC (eCallR 1 r_law_pick 1 (aCF (lst (nL (aC (eC (.int 2)) (aC (eC (.int 3)) (aC (eC (.int 4)) (aC (eC (.int 5)) aN)))))) aN)) aN)))
    (sSeq (sParX 8 9 (eCall r_law_within 2 (aC (eV 3) (aC (eV 7) aN))) (eCall r_law_within 2 (aC (eV 4) (aC (eV 7) aN))))
    (sSeq (sIf (bOr (bNot (b1 (eCall (r_law_alike 8) 2 (aC (eCall r_clashes 2 (aC (eV 2) (aC (eV 7) aN))) (aCF (eTupOf (lSeq (eV 8))) aN))))) (bNot (b1 (eCall (r_law_alike 8) 2 (aC (eCall r_forcings 2 (aC (eV 2) (aC (eV 7) aN))) (aCF (eTupOf (lSeq (eV 9))) aN))))))
    (sRet (eC (.bl false))) sNil)
    (sSeq (sIf (bOr (bNot (b1 (eCall r_law_is 2 (aC (eCall r_can_hold 2 (aC (eV 2) (aC (eV 7) aN))) (aCF (e2 dEqF (eV 8) (lst (nL aN))) aN))))) (bNot (b1 (eCall r_law_is 2 (aC (eCall r_forces 2 (aC (eV 2) (aC (eV 7) aN))) (aCF (eAnd (e2 dEqF (eV 8) (lst (nL aN))) (e2 dNeF (eV 9) (lst (nL aN)))) aN))))))
    (sRet (eC (.bl false))) sNil)
    (sSeq (sIf (b1 (e2 dNeF (e2 dEqF (eV 8) (lst (nL aN))) (e2 dNeF (lst (nLc (lSeq (eV 5)) (gIX 10) (b1 (e2 dNeF (eCall r_law_within 2 (aCF (lst (nL (aC (eV 7) aN))) (aC (eV 10) aN))) (lst (nL aN)))) (eV 10) [10])) (lst (nL aN)))))
    (sRet (eC (.bl false))) sNil)
    (sSeq (sSetV 11 (lst (nLc (lSeq (eCall r_law_axioms 0 aN)) (gIX 12) (bAnd (b1 (eInF true (eV 12) (lSeq (eV 7)))) (b1 (e2 dEqF (eCall r_law_within 2 (aC (eV 3) (aCF (e2 dPlus (eV 7) (eT (aC (eV 12) aN))) aN))) (lst (nL aN))))) (eV 12) [12])))
    (sIf (bNot (b1 (eCall (r_law_alike 8) 2 (aC (eCall r_can_add 2 (aC (eV 2) (aC (eV 7) aN))) (aCF (eTupOf (lSeq (eV 11))) aN)))))
    (sRet (eC (.bl false))) sNil))))))))) [none, some .row, some (.v (.int (.ofNat 2))), some (.v (.lst (CM2.map Ws))), some (.v (.lst (FM2.map Ws))), some (.v (.lst (GM2.map Ws))), none, none, none, none, none, none, none] [] = forS ((gIF 6)) ((sSeq (sSet 7 (eCallR 1 r_law_wanted 1 (aC (eCallR 1 r_law_pick 1 (aCF (lst (nL (aC (eC (.int 2)) (aC (eC (.int 3)) (aC (eC (.int 4)) (aC (eC (.int 5)) aN)))))) aN)) aN)))
    (sSeq (sParX 8 9 (eCall r_law_within 2 (aC (eV 3) (aC (eV 7) aN))) (eCall r_law_within 2 (aC (eV 4) (aC (eV 7) aN))))
    (sSeq (sIf (bOr (bNot (b1 (eCall (r_law_alike 8) 2 (aC (eCall r_clashes 2 (aC (eV 2) (aC (eV 7) aN))) (aCF (eTupOf (lSeq (eV 8))) aN))))) (bNot (b1 (eCall (r_law_alike 8) 2 (aC (eCall r_forcings 2 (aC (eV 2) (aC (eV 7) aN))) (aCF (eTupOf (lSeq (eV 9))) aN))))))
    (sRet (eC (.bl false))) sNil)
    (sSeq (sIf (bOr (bNot (b1 (eCall r_law_is 2 (aC (eCall r_can_hold 2 (aC (eV 2) (aC (eV 7) aN))) (aCF (e2 dEqF (eV 8) (lst (nL aN))) aN))))) (bNot (b1 (eCall r_law_is 2 (aC (eCall r_forces 2 (aC (eV 2) (aC (eV 7) aN))) (aCF (eAnd (e2 dEqF (eV 8) (lst (nL aN))) (e2 dNeF (eV 9) (lst (nL aN)))) aN))))))
    (sRet (eC (.bl false))) sNil)
    (sSeq (sIf (b1 (e2 dNeF (e2 dEqF (eV 8) (lst (nL aN))) (e2 dNeF (lst (nLc (lSeq (eV 5)) (gIX 10) (b1 (e2 dNeF (eCall r_law_within 2 (aCF (lst (nL (aC (eV 7) aN))) (aC (eV 10) aN))) (lst (nL aN)))) (eV 10) [10])) (lst (nL aN)))))
    (sRet (eC (.bl false))) sNil)
    (sSeq (sSetV 11 (lst (nLc (lSeq (eCall r_law_axioms 0 aN)) (gIX 12) (bAnd (b1 (eInF true (eV 12) (lSeq (eV 7)))) (b1 (e2 dEqF (eCall r_law_within 2 (aC (eV 3) (aCF (e2 dPlus (eV 7) (eT (aC (eV 12) aN))) aN))) (lst (nL aN))))) (eV 12) [12])))
    (sIf (bNot (b1 (eCall (r_law_alike 8) 2 (aC (eCall r_can_add 2 (aC (eV 2) (aC (eV 7) aN))) (aCF (eTupOf (lSeq (eV 11))) aN)))))
    (sRet (eC (.bl false))) sNil)))))))) (upto 0 3) [none, some .row, some (.v (.int (.ofNat 2))), some (.v (.lst (CM2.map Ws))), some (.v (.lst (FM2.map Ws))), some (.v (.lst (GM2.map Ws))), none, none, none, none, none, none, none] [] := nFor (nR1 (nA nC nN) rfl) rfl
  rw [e9]
  refine T.all_mono ?_ (forS_all (fun fr hp => ∃ x6 x7 x8 x9 x10 x11 x12 : Option SV, fr = [none, some .row, some (.v (.int (.ofNat 2))), some (.v (.lst (CM2.map Ws))), some (.v (.lst (FM2.map Ws))), some (.v (.lst (GM2.map Ws))), x6, x7, x8, x9, x10, x11, x12] ∧ hp = []) (upto 0 3) [none, some .row, some (.v (.int (.ofNat 2))), some (.v (.lst (CM2.map Ws))), some (.v (.lst (FM2.map Ws))), some (.v (.lst (GM2.map Ws))), none, none, none, none, none, none, none] [] (fun x hx fr hp h => ?_) ⟨none, none, none, none, none, none, none, rfl, rfl⟩)
  · rintro o ⟨fr', hp', rfl, x6, x7, x8, x9, x10, x11, x12, rfl, rfl⟩
    rfl
  · obtain ⟨x6, x7, x8, x9, x10, x11, x12, rfl, rfl⟩ := h
    refine ⟨[none, some .row, some (.v (.int (.ofNat 2))), some (.v (.lst (CM2.map Ws))), some (.v (.lst (FM2.map Ws))), some (.v (.lst (GM2.map Ws))), some (.v x), x7, x8, x9, x10, x11, x12], nGF rfl, ?_⟩
    refine T.bind_all ?_
    unfold sSet
    refine T.bind_all (T.all_mono (fun d hd => ?_) (wt2 (some (.v x)) x7 x8 x9 x10 x11 x12).out)
    obtain ⟨bs, hb, rfl⟩ := hd
    obtain ⟨y8, y9, y10, y11, y12, et⟩ := turn2 hb (some (.v x)) x8 x9 x10 x11 x12
    show (((sSeq (sParX 8 9 (eCall r_law_within 2 (aC (eV 3) (aC (eV 7) aN))) (eCall r_law_within 2 (aC (eV 4) (aC (eV 7) aN))))
    (sSeq (sIf (bOr (bNot (b1 (eCall (r_law_alike 8) 2 (aC (eCall r_clashes 2 (aC (eV 2) (aC (eV 7) aN))) (aCF (eTupOf (lSeq (eV 8))) aN))))) (bNot (b1 (eCall (r_law_alike 8) 2 (aC (eCall r_forcings 2 (aC (eV 2) (aC (eV 7) aN))) (aCF (eTupOf (lSeq (eV 9))) aN))))))
    (sRet (eC (.bl false))) sNil)
    (sSeq (sIf (bOr (bNot (b1 (eCall r_law_is 2 (aC (eCall r_can_hold 2 (aC (eV 2) (aC (eV 7) aN))) (aCF (e2 dEqF (eV 8) (lst (nL aN))) aN))))) (bNot (b1 (eCall r_law_is 2 (aC (eCall r_forces 2 (aC (eV 2) (aC (eV 7) aN))) (aCF (eAnd (e2 dEqF (eV 8) (lst (nL aN))) (e2 dNeF (eV 9) (lst (nL aN)))) aN))))))
    (sRet (eC (.bl false))) sNil)
    (sSeq (sIf (b1 (e2 dNeF (e2 dEqF (eV 8) (lst (nL aN))) (e2 dNeF (lst (nLc (lSeq (eV 5)) (gIX 10) (b1 (e2 dNeF (eCall r_law_within 2 (aCF (lst (nL (aC (eV 7) aN))) (aC (eV 10) aN))) (lst (nL aN)))) (eV 10) [10])) (lst (nL aN)))))
    (sRet (eC (.bl false))) sNil)
    (sSeq (sSetV 11 (lst (nLc (lSeq (eCall r_law_axioms 0 aN)) (gIX 12) (bAnd (b1 (eInF true (eV 12) (lSeq (eV 7)))) (b1 (e2 dEqF (eCall r_law_within 2 (aC (eV 3) (aCF (e2 dPlus (eV 7) (eT (aC (eV 12) aN))) aN))) (lst (nL aN))))) (eV 12) [12])))
    (sIf (bNot (b1 (eCall (r_law_alike 8) 2 (aC (eCall r_can_add 2 (aC (eV 2) (aC (eV 7) aN))) (aCF (eTupOf (lSeq (eV 11))) aN)))))
    (sRet (eC (.bl false))) sNil))))))) [none, some .row, some (.v (.int (.ofNat 2))), some (.v (.lst (CM2.map Ws))), some (.v (.lst (FM2.map Ws))), some (.v (.lst (GM2.map Ws))), some (.v x), some (.v (Ws bs)), x8, x9, x10, x11, x12] []).all _
    refine all_ret et ⟨_, _, rfl, _, _, _, _, _, _, _, rfl, rfl⟩
theorem wt3 (x6 x7 x8 x9 x10 x11 x12 : Option SV) : AllS (((eCallR 1 r_law_wanted 1 (aC (eCallR 1 r_law_pick 1 (aCF (lst (nL (aC (eC (.int 2)) (aC (eC (.int 3)) (aC (eC (.int 4)) (aC (eC (.int 5)) aN)))))) aN)) aN))) [none, some .row, some (.v (.int (.ofNat 3))), some (.v (.lst (CM3.map Ws))), some (.v (.lst (FM3.map Ws))), some (.v (.lst (GM3.map Ws))), x6, x7, x8, x9, x10, x11, x12] []) fun d => ∃ bs : List Bool, bs.length = 15 ∧ d = Ws bs := by
  constructor
  refine all_of_sub (n := 4) (by decide) rfl fun i hi => ?_
  match i, hi with
  | 0, _ => exact wanted_all (m := 2) rfl fun bs hb => ⟨bs, hb, rfl⟩
  | 1, _ => exact wanted_all (m := 3) rfl fun bs hb => ⟨bs, hb, rfl⟩
  | 2, _ => exact wanted_all (m := 4) rfl fun bs hb => ⟨bs, hb, rfl⟩
  | 3, _ => exact wanted_all (m := 5) rfl fun bs hb => ⟨bs, hb, rfl⟩
theorem go3 : RtAll (g_law_r [none, some .row, some (.v (.int (.ofNat 3))), none, none, none, none, none, none, none, none, none, none] []) := by
  constructor
  have l := lens3
  have h1 : ((sPar3 3 4 5 (eCall r_law_clashes 1 (aC (eV 2) aN)) (eCall r_law_forcing 1 (aC (eV 2) aN)) (eCall r_law_great 1 (aC (eV 2) aN)))) [none, some .row, some (.v (.int (.ofNat 3))), none, none, none, none, none, none, none, none, none, none] [] = .ret (.nx [none, some .row, some (.v (.int (.ofNat 3))), some (.v (.lst (CM3.map Ws))), some (.v (.lst (FM3.map Ws))), some (.v (.lst (GM3.map Ws))), none, none, none, none, none, none, none] []) := nPar3 (nCall (nA (nV rfl) nN) rfl lw_c3) (nCall (nA (nV rfl) nN) rfl lw_f3) (nCall (nA (nV rfl) nN) rfl lw_g3) rfl
  have h2 : ((sIf (bOr (bNot (b1 (eCall (r_law_alike 8) 2 (aC (eCall r_least_clashes 1 (aC (eV 2) aN)) (aCF (eTupOf (lSeq (eV 3))) aN))))) (bOr (bNot (b1 (eCall (r_law_alike 8) 2 (aC (eCall r_least_forcing 1 (aC (eV 2) aN)) (aCF (eTupOf (lSeq (eV 4))) aN))))) (bNot (b1 (eCall (r_law_alike 8) 2 (aC (eCall r_greatest_sets 1 (aC (eV 2) aN)) (aCF (eTupOf (lSeq (eV 5))) aN)))))))
    (sRet (eC (.bl false))) sNil)) [none, some .row, some (.v (.int (.ofNat 3))), some (.v (.lst (CM3.map Ws))), some (.v (.lst (FM3.map Ws))), some (.v (.lst (GM3.map Ws))), none, none, none, none, none, none, none] [] = .ret (.nx [none, some .row, some (.v (.int (.ofNat 3))), some (.v (.lst (CM3.map Ws))), some (.v (.lst (FM3.map Ws))), some (.v (.lst (GM3.map Ws))), none, none, none, none, none, none, none] []) := nIfF (nOrF (nNot (b := true) (nB1 (nCall (nA (nCall (nA (nV rfl) nN) rfl lc_e3) (nAF (nTup (nLseqL (nV rfl))) nN)) rfl al_w3.1)) rfl) (nOrF (nNot (b := true) (nB1 (nCall (nA (nCall (nA (nV rfl) nN) rfl lf_e3) (nAF (nTup (nLseqL (nV rfl))) nN)) rfl al_w3.2.1)) rfl) (nNot (b := true) (nB1 (nCall (nA (nCall (nA (nV rfl) nN) rfl gr_e3) (nAF (nTup (nLseqL (nV rfl))) nN)) rfl al_w3.2.2)) rfl))) nNil
  have e : g_law_r [none, some .row, some (.v (.int (.ofNat 3))), none, none, none, none, none, none, none, none, none, none] [] = (sSeq ((sFor (lR1 (aC (eC (.int 3)) aN)) (gIF 6)
    (sSeq (sSet 7 (eCallR 1 r_law_wanted 1 (aC (eCallR 1 r_law_pick 1 (aCF (lst (nL (aC (eC (.int 2)) (aC (eC (.int 3)) (aC (eC (.int 4)) (aC (eC (.int 5)) aN)))))) aN)) aN)))
    (sSeq (sParX 8 9 (eCall r_law_within 2 (aC (eV 3) (aC (eV 7) aN))) (eCall r_law_within 2 (aC (eV 4) (aC (eV 7) aN))))
    (sSeq (sIf (bOr (bNot (b1 (eCall (r_law_alike 8) 2 (aC (eCall r_clashes 2 (aC (eV 2) (aC (eV 7) aN))) (aCF (eTupOf (lSeq (eV 8))) aN))))) (bNot (b1 (eCall (r_law_alike 8) 2 (aC (eCall r_forcings 2 (aC (eV 2) (aC (eV 7) aN))) (aCF (eTupOf (lSeq (eV 9))) aN))))))
    (sRet (eC (.bl false))) sNil)
    (sSeq (sIf (bOr (bNot (b1 (eCall r_law_is 2 (aC (eCall r_can_hold 2 (aC (eV 2) (aC (eV 7) aN))) (aCF (e2 dEqF (eV 8) (lst (nL aN))) aN))))) (bNot (b1 (eCall r_law_is 2 (aC (eCall r_forces 2 (aC (eV 2) (aC (eV 7) aN))) (aCF (eAnd (e2 dEqF (eV 8) (lst (nL aN))) (e2 dNeF (eV 9) (lst (nL aN)))) aN))))))
    (sRet (eC (.bl false))) sNil)
    (sSeq (sIf (b1 (e2 dNeF (e2 dEqF (eV 8) (lst (nL aN))) (e2 dNeF (lst (nLc (lSeq (eV 5)) (gIX 10) (b1 (e2 dNeF (eCall r_law_within 2 (aCF (lst (nL (aC (eV 7) aN))) (aC (eV 10) aN))) (lst (nL aN)))) (eV 10) [10])) (lst (nL aN)))))
    (sRet (eC (.bl false))) sNil)
    (sSeq (sSetV 11 (lst (nLc (lSeq (eCall r_law_axioms 0 aN)) (gIX 12) (bAnd (b1 (eInF true (eV 12) (lSeq (eV 7)))) (b1 (e2 dEqF (eCall r_law_within 2 (aC (eV 3) (aCF (e2 dPlus (eV 7) (eT (aC (eV 12) aN))) aN))) (lst (nL aN))))) (eV 12) [12])))
    (sIf (bNot (b1 (eCall (r_law_alike 8) 2 (aC (eCall r_can_add 2 (aC (eV 2) (aC (eV 7) aN))) (aCF (eTupOf (lSeq (eV 11))) aN)))))
    (sRet (eC (.bl false))) sNil))))))))) ((sRet (eC (.bl true))))) [none, some .row, some (.v (.int (.ofNat 3))), some (.v (.lst (CM3.map Ws))), some (.v (.lst (FM3.map Ws))), some (.v (.lst (GM3.map Ws))), none, none, none, none, none, none, none] [] := by
    unfold g_law_r
    exact nSeq h1 (nSeq h2 rfl)
  rw [e]
  refine T.bind_all ?_
  have e9 : ((sFor (lR1 (aC (eC (.int 3)) aN)) (gIF 6)
    (sSeq (sSet 7 (eCallR 1 r_law_wanted 1 (aC (eCallR 1 r_law_pick 1 (aCF (lst (nL (aC (eC (.int 2)) (aC (eC (.int 3)) (aC (eC (.int 4)) (aC (eC (.int 5)) aN)))))) aN)) aN)))
    (sSeq (sParX 8 9 (eCall r_law_within 2 (aC (eV 3) (aC (eV 7) aN))) (eCall r_law_within 2 (aC (eV 4) (aC (eV 7) aN))))
    (sSeq (sIf (bOr (bNot (b1 (eCall (r_law_alike 8) 2 (aC (eCall r_clashes 2 (aC (eV 2) (aC (eV 7) aN))) (aCF (eTupOf (lSeq (eV 8))) aN))))) (bNot (b1 (eCall (r_law_alike 8) 2 (aC (eCall r_forcings 2 (aC (eV 2) (aC (eV 7) aN))) (aCF (eTupOf (lSeq (eV 9))) aN))))))
    (sRet (eC (.bl false))) sNil)
    (sSeq (sIf (bOr (bNot (b1 (eCall r_law_is 2 (aC (eCall r_can_hold 2 (aC (eV 2) (aC (eV 7) aN))) (aCF (e2 dEqF (eV 8) (lst (nL aN))) aN))))) (bNot (b1 (eCall r_law_is 2 (aC (eCall r_forces 2 (aC (eV 2) (aC (eV 7) aN))) (aCF (eAnd (e2 dEqF (eV 8) (lst (nL aN))) (e2 dNeF (eV 9) (lst (nL aN)))) aN))))))
    (sRet (eC (.bl false))) sNil)
    (sSeq (sIf (b1 (e2 dNeF (e2 dEqF (eV 8) (lst (nL aN))) (e2 dNeF (lst (nLc (lSeq (eV 5)) (gIX 10) (b1 (e2 dNeF (eCall r_law_within 2 (aCF (lst (nL (aC (eV 7) aN))) (aC (eV 10) aN))) (lst (nL aN)))) (eV 10) [10])) (lst (nL aN)))))
    (sRet (eC (.bl false))) sNil)
    (sSeq (sSetV 11 (lst (nLc (lSeq (eCall r_law_axioms 0 aN)) (gIX 12) (bAnd (b1 (eInF true (eV 12) (lSeq (eV 7)))) (b1 (e2 dEqF (eCall r_law_within 2 (aC (eV 3) (aCF (e2 dPlus (eV 7) (eT (aC (eV 12) aN))) aN))) (lst (nL aN))))) (eV 12) [12])))
    (sIf (bNot (b1 (eCall (r_law_alike 8) 2 (aC (eCall r_can_add 2 (aC (eV 2) (aC (eV 7) aN))) (aCF (eTupOf (lSeq (eV 11))) aN)))))
    (sRet (eC (.bl false))) sNil))))))))) [none, some .row, some (.v (.int (.ofNat 3))), some (.v (.lst (CM3.map Ws))), some (.v (.lst (FM3.map Ws))), some (.v (.lst (GM3.map Ws))), none, none, none, none, none, none, none] [] = forS ((gIF 6)) ((sSeq (sSet 7 (eCallR 1 r_law_wanted 1 (aC (eCallR 1 r_law_pick 1 (aCF (lst (nL (aC (eC (.int 2)) (aC (eC (.int 3)) (aC (eC (.int 4)) (aC (eC (.int 5)) aN)))))) aN)) aN)))
    (sSeq (sParX 8 9 (eCall r_law_within 2 (aC (eV 3) (aC (eV 7) aN))) (eCall r_law_within 2 (aC (eV 4) (aC (eV 7) aN))))
    (sSeq (sIf (bOr (bNot (b1 (eCall (r_law_alike 8) 2 (aC (eCall r_clashes 2 (aC (eV 2) (aC (eV 7) aN))) (aCF (eTupOf (lSeq (eV 8))) aN))))) (bNot (b1 (eCall (r_law_alike 8) 2 (aC (eCall r_forcings 2 (aC (eV 2) (aC (eV 7) aN))) (aCF (eTupOf (lSeq (eV 9))) aN))))))
    (sRet (eC (.bl false))) sNil)
    (sSeq (sIf (bOr (bNot (b1 (eCall r_law_is 2 (aC (eCall r_can_hold 2 (aC (eV 2) (aC (eV 7) aN))) (aCF (e2 dEqF (eV 8) (lst (nL aN))) aN))))) (bNot (b1 (eCall r_law_is 2 (aC (eCall r_forces 2 (aC (eV 2) (aC (eV 7) aN))) (aCF (eAnd (e2 dEqF (eV 8) (lst (nL aN))) (e2 dNeF (eV 9) (lst (nL aN)))) aN))))))
    (sRet (eC (.bl false))) sNil)
    (sSeq (sIf (b1 (e2 dNeF (e2 dEqF (eV 8) (lst (nL aN))) (e2 dNeF (lst (nLc (lSeq (eV 5)) (gIX 10) (b1 (e2 dNeF (eCall r_law_within 2 (aCF (lst (nL (aC (eV 7) aN))) (aC (eV 10) aN))) (lst (nL aN)))) (eV 10) [10])) (lst (nL aN)))))
    (sRet (eC (.bl false))) sNil)
    (sSeq (sSetV 11 (lst (nLc (lSeq (eCall r_law_axioms 0 aN)) (gIX 12) (bAnd (b1 (eInF true (eV 12) (lSeq (eV 7)))) (b1 (e2 dEqF (eCall r_law_within 2 (aC (eV 3) (aCF (e2 dPlus (eV 7) (eT (aC (eV 12) aN))) aN))) (lst (nL aN))))) (eV 12) [12])))
    (sIf (bNot (b1 (eCall (r_law_alike 8) 2 (aC (eCall r_can_add 2 (aC (eV 2) (aC (eV 7) aN))) (aCF (eTupOf (lSeq (eV 11))) aN)))))
    (sRet (eC (.bl false))) sNil)))))))) (upto 0 3) [none, some .row, some (.v (.int (.ofNat 3))), some (.v (.lst (CM3.map Ws))), some (.v (.lst (FM3.map Ws))), some (.v (.lst (GM3.map Ws))), none, none, none, none, none, none, none] [] := nFor (nR1 (nA nC nN) rfl) rfl
  rw [e9]
  refine T.all_mono ?_ (forS_all (fun fr hp => ∃ x6 x7 x8 x9 x10 x11 x12 : Option SV, fr = [none, some .row, some (.v (.int (.ofNat 3))), some (.v (.lst (CM3.map Ws))), some (.v (.lst (FM3.map Ws))), some (.v (.lst (GM3.map Ws))), x6, x7, x8, x9, x10, x11, x12] ∧ hp = []) (upto 0 3) [none, some .row, some (.v (.int (.ofNat 3))), some (.v (.lst (CM3.map Ws))), some (.v (.lst (FM3.map Ws))), some (.v (.lst (GM3.map Ws))), none, none, none, none, none, none, none] [] (fun x hx fr hp h => ?_) ⟨none, none, none, none, none, none, none, rfl, rfl⟩)
  · rintro o ⟨fr', hp', rfl, x6, x7, x8, x9, x10, x11, x12, rfl, rfl⟩
    rfl
  · obtain ⟨x6, x7, x8, x9, x10, x11, x12, rfl, rfl⟩ := h
    refine ⟨[none, some .row, some (.v (.int (.ofNat 3))), some (.v (.lst (CM3.map Ws))), some (.v (.lst (FM3.map Ws))), some (.v (.lst (GM3.map Ws))), some (.v x), x7, x8, x9, x10, x11, x12], nGF rfl, ?_⟩
    refine T.bind_all ?_
    unfold sSet
    refine T.bind_all (T.all_mono (fun d hd => ?_) (wt3 (some (.v x)) x7 x8 x9 x10 x11 x12).out)
    obtain ⟨bs, hb, rfl⟩ := hd
    obtain ⟨y8, y9, y10, y11, y12, et⟩ := turn3 hb (some (.v x)) x8 x9 x10 x11 x12
    show (((sSeq (sParX 8 9 (eCall r_law_within 2 (aC (eV 3) (aC (eV 7) aN))) (eCall r_law_within 2 (aC (eV 4) (aC (eV 7) aN))))
    (sSeq (sIf (bOr (bNot (b1 (eCall (r_law_alike 8) 2 (aC (eCall r_clashes 2 (aC (eV 2) (aC (eV 7) aN))) (aCF (eTupOf (lSeq (eV 8))) aN))))) (bNot (b1 (eCall (r_law_alike 8) 2 (aC (eCall r_forcings 2 (aC (eV 2) (aC (eV 7) aN))) (aCF (eTupOf (lSeq (eV 9))) aN))))))
    (sRet (eC (.bl false))) sNil)
    (sSeq (sIf (bOr (bNot (b1 (eCall r_law_is 2 (aC (eCall r_can_hold 2 (aC (eV 2) (aC (eV 7) aN))) (aCF (e2 dEqF (eV 8) (lst (nL aN))) aN))))) (bNot (b1 (eCall r_law_is 2 (aC (eCall r_forces 2 (aC (eV 2) (aC (eV 7) aN))) (aCF (eAnd (e2 dEqF (eV 8) (lst (nL aN))) (e2 dNeF (eV 9) (lst (nL aN)))) aN))))))
    (sRet (eC (.bl false))) sNil)
    (sSeq (sIf (b1 (e2 dNeF (e2 dEqF (eV 8) (lst (nL aN))) (e2 dNeF (lst (nLc (lSeq (eV 5)) (gIX 10) (b1 (e2 dNeF (eCall r_law_within 2 (aCF (lst (nL (aC (eV 7) aN))) (aC (eV 10) aN))) (lst (nL aN)))) (eV 10) [10])) (lst (nL aN)))))
    (sRet (eC (.bl false))) sNil)
    (sSeq (sSetV 11 (lst (nLc (lSeq (eCall r_law_axioms 0 aN)) (gIX 12) (bAnd (b1 (eInF true (eV 12) (lSeq (eV 7)))) (b1 (e2 dEqF (eCall r_law_within 2 (aC (eV 3) (aCF (e2 dPlus (eV 7) (eT (aC (eV 12) aN))) aN))) (lst (nL aN))))) (eV 12) [12])))
    (sIf (bNot (b1 (eCall (r_law_alike 8) 2 (aC (eCall r_can_add 2 (aC (eV 2) (aC (eV 7) aN))) (aCF (eTupOf (lSeq (eV 11))) aN)))))
    (sRet (eC (.bl false))) sNil))))))) [none, some .row, some (.v (.int (.ofNat 3))), some (.v (.lst (CM3.map Ws))), some (.v (.lst (FM3.map Ws))), some (.v (.lst (GM3.map Ws))), some (.v x), some (.v (Ws bs)), x8, x9, x10, x11, x12] []).all _
    refine all_ret et ⟨_, _, rfl, _, _, _, _, _, _, _, rfl, rfl⟩
theorem w0 : (g_law_0 [none, some .row, none, none, none, none, none, none, none, none, none, none, none] []).width = 2 := by decide +kernel
theorem v0 : (g_law_0 [none, some .row, none, none, none, none, none, none, none, none, none, none, none] []).sub 0 = .ret (.nx [none, some .row, some (.v (.int (.ofNat 2))), none, none, none, none, none, none, none, none, none, none] []) := by kernel_rfl
theorem v1 : (g_law_0 [none, some .row, none, none, none, none, none, none, none, none, none, none, none] []).sub 1 = .ret (.nx [none, some .row, some (.v (.int (.ofNat 3))), none, none, none, none, none, none, none, none, none, none] []) := by kernel_rfl
theorem g_un : g_law [none, some .row, none, none, none, none, none, none, none, none, none, none, none] [] = (g_law_0 [none, some .row, none, none, none, none, none, none, none, none, none, none, none] []).bind (seqO g_law_r) := by
  unfold g_law
  exact rfl
theorem start_all {R : Sm} (h0 : RtAll (R [none, some .row, some (.v (.int (.ofNat 2))), none, none, none, none, none, none, none, none, none, none] [])) (h1 : RtAll (R [none, some .row, some (.v (.int (.ofNat 3))), none, none, none, none, none, none, none, none, none, none] [])) : RtAll ((g_law_0 [none, some .row, none, none, none, none, none, none, none, none, none, none, none] []).bind (seqO R)) := by
  constructor
  refine T.bind_all (all_of_sub (n := 2) (by decide) w0 fun i hi => ?_)
  match i, hi with
  | 0, _ => exact RtAll.leaf v0 h0
  | 1, _ => exact RtAll.leaf v1 h1
theorem law_h : RtAll (g_law [none, some .row, none, none, none, none, none, none, none, none, none, none, none] []) := RtAll.eq g_un (start_all go2 go3)
theorem law_e : lawT g_law 13 = (g_law [none, some .row, none, none, none, none, none, none, none, none, none, none, none] []).bind retOf := by
  unfold lawT
  exact rfl
theorem law_all : (lawT g_law 13).all fun d => d = .bl true := RtAll.law law_e law_h
end Zl
set_option Elab.async false
set_option linter.all false
set_option maxRecDepth 1000000
set_option maxHeartbeats 4000000
namespace Zl
open PySem L2 PySem.Spec PyProof.Rows
theorem all_mk {l : PySem.W.OpenLaw} {w : World} {K : PySem.W.Frag} {h : Heap} {mg : Str → Option Value} {fa aP : Addr} {tp1 tp2 : Tok} {np : Nat} {slp : Array (Option Value)} {ad_AT_ROW : Addr} {es_AT_ROW : Array DictEntry} {nn_AT_ROW : Nat} {ad_ACROSS : Addr} {es_ACROSS : Array DictEntry} {nn_ACROSS : Nat} {ad_WHOLE : Addr} {es_WHOLE : Array DictEntry} {nn_WHOLE : Nat} {ad_LEAST_CLASHES : Addr} {es_LEAST_CLASHES : Array DictEntry} {nn_LEAST_CLASHES : Nat} {ad_LEAST_FORCING : Addr} {es_LEAST_FORCING : Array DictEntry} {nn_LEAST_FORCING : Nat} {tk_AT_ROW_0 : Tok} {tk_AT_ROW_1 : Tok} {tk_AT_ROW_2 : Tok} {tk_AT_ROW_3 : Tok} {tk_AT_ROW_4 : Tok} {tk_AT_ROW_5 : Tok} {tk_AT_ROW_6 : Tok} {tk_ACROSS_0 : Tok} {tk_ACROSS_1 : Tok} {tk_ACROSS_2 : Tok} {tk_ACROSS_3 : Tok} {tk_ACROSS_4 : Tok} {tk_ACROSS_5 : Tok} {tk_WHOLE_0 : Tok} {tk_WHOLE_1 : Tok} {tk_LEAST_CLASHES_0 : Tok} {tk_LEAST_CLASHES_1 : Tok} {tk_LEAST_FORCING_0 : Tok} {tk_LEAST_FORCING_1 : Tok} {ao_is_best : Addr} {ao_is_core : Addr} {ao_is_first : Addr} {ao_is_notlast : Addr} {ao_is_own : Addr} {ao_is_sole : Addr} {ao_is_swapless : Addr} {ao_ask_growing : Addr} {ao_ask_names : Addr} {ao_ask_still : Addr} {ao_ask_things : Addr} {ao_ask_tops : Addr} {ao_ask_truthful : Addr} {ao_has_no_boss : Addr} {ao_is_open : Addr} {at_LEAST_CLASHES_0 : Addr} {it_LEAST_CLASHES_0 : Array Value} {nt_LEAST_CLASHES_0 : Nat} {sl_LEAST_CLASHES_0 : Array (Option Value)} {at_LEAST_CLASHES_0_0 : Addr} {it_LEAST_CLASHES_0_0 : Array Value} {nt_LEAST_CLASHES_0_0 : Nat} {sl_LEAST_CLASHES_0_0 : Array (Option Value)} {tt_LEAST_CLASHES_0_0_0 : Tok} {tt_LEAST_CLASHES_0_0_1 : Tok} {at_LEAST_CLASHES_0_1 : Addr} {it_LEAST_CLASHES_0_1 : Array Value} {nt_LEAST_CLASHES_0_1 : Nat} {sl_LEAST_CLASHES_0_1 : Array (Option Value)} {tt_LEAST_CLASHES_0_1_0 : Tok} {tt_LEAST_CLASHES_0_1_1 : Tok} {at_LEAST_CLASHES_0_2 : Addr} {it_LEAST_CLASHES_0_2 : Array Value} {nt_LEAST_CLASHES_0_2 : Nat} {sl_LEAST_CLASHES_0_2 : Array (Option Value)} {tt_LEAST_CLASHES_0_2_0 : Tok} {tt_LEAST_CLASHES_0_2_1 : Tok} {at_LEAST_CLASHES_0_3 : Addr} {it_LEAST_CLASHES_0_3 : Array Value} {nt_LEAST_CLASHES_0_3 : Nat} {sl_LEAST_CLASHES_0_3 : Array (Option Value)} {tt_LEAST_CLASHES_0_3_0 : Tok} {tt_LEAST_CLASHES_0_3_1 : Tok} {tt_LEAST_CLASHES_0_3_2 : Tok} {at_LEAST_CLASHES_0_4 : Addr} {it_LEAST_CLASHES_0_4 : Array Value} {nt_LEAST_CLASHES_0_4 : Nat} {sl_LEAST_CLASHES_0_4 : Array (Option Value)} {tt_LEAST_CLASHES_0_4_0 : Tok} {tt_LEAST_CLASHES_0_4_1 : Tok} {tt_LEAST_CLASHES_0_4_2 : Tok} {at_LEAST_CLASHES_0_5 : Addr} {it_LEAST_CLASHES_0_5 : Array Value} {nt_LEAST_CLASHES_0_5 : Nat} {sl_LEAST_CLASHES_0_5 : Array (Option Value)} {tt_LEAST_CLASHES_0_5_0 : Tok} {tt_LEAST_CLASHES_0_5_1 : Tok} {tt_LEAST_CLASHES_0_5_2 : Tok} {at_LEAST_CLASHES_0_6 : Addr} {it_LEAST_CLASHES_0_6 : Array Value} {nt_LEAST_CLASHES_0_6 : Nat} {sl_LEAST_CLASHES_0_6 : Array (Option Value)} {tt_LEAST_CLASHES_0_6_0 : Tok} {tt_LEAST_CLASHES_0_6_1 : Tok} {tt_LEAST_CLASHES_0_6_2 : Tok} {at_LEAST_CLASHES_0_7 : Addr} {it_LEAST_CLASHES_0_7 : Array Value} {nt_LEAST_CLASHES_0_7 : Nat} {sl_LEAST_CLASHES_0_7 : Array (Option Value)} {tt_LEAST_CLASHES_0_7_0 : Tok} {tt_LEAST_CLASHES_0_7_1 : Tok} {tt_LEAST_CLASHES_0_7_2 : Tok} {at_LEAST_CLASHES_0_8 : Addr} {it_LEAST_CLASHES_0_8 : Array Value} {nt_LEAST_CLASHES_0_8 : Nat} {sl_LEAST_CLASHES_0_8 : Array (Option Value)} {tt_LEAST_CLASHES_0_8_0 : Tok} {tt_LEAST_CLASHES_0_8_1 : Tok} {tt_LEAST_CLASHES_0_8_2 : Tok} {at_LEAST_CLASHES_0_9 : Addr} {it_LEAST_CLASHES_0_9 : Array Value} {nt_LEAST_CLASHES_0_9 : Nat} {sl_LEAST_CLASHES_0_9 : Array (Option Value)} {tt_LEAST_CLASHES_0_9_0 : Tok} {tt_LEAST_CLASHES_0_9_1 : Tok} {tt_LEAST_CLASHES_0_9_2 : Tok} {at_LEAST_CLASHES_1 : Addr} {it_LEAST_CLASHES_1 : Array Value} {nt_LEAST_CLASHES_1 : Nat} {sl_LEAST_CLASHES_1 : Array (Option Value)} {at_LEAST_CLASHES_1_0 : Addr} {it_LEAST_CLASHES_1_0 : Array Value} {nt_LEAST_CLASHES_1_0 : Nat} {sl_LEAST_CLASHES_1_0 : Array (Option Value)} {tt_LEAST_CLASHES_1_0_0 : Tok} {tt_LEAST_CLASHES_1_0_1 : Tok} {at_LEAST_CLASHES_1_1 : Addr} {it_LEAST_CLASHES_1_1 : Array Value} {nt_LEAST_CLASHES_1_1 : Nat} {sl_LEAST_CLASHES_1_1 : Array (Option Value)} {tt_LEAST_CLASHES_1_1_0 : Tok} {tt_LEAST_CLASHES_1_1_1 : Tok} {at_LEAST_CLASHES_1_2 : Addr} {it_LEAST_CLASHES_1_2 : Array Value} {nt_LEAST_CLASHES_1_2 : Nat} {sl_LEAST_CLASHES_1_2 : Array (Option Value)} {tt_LEAST_CLASHES_1_2_0 : Tok} {tt_LEAST_CLASHES_1_2_1 : Tok} {at_LEAST_CLASHES_1_3 : Addr} {it_LEAST_CLASHES_1_3 : Array Value} {nt_LEAST_CLASHES_1_3 : Nat} {sl_LEAST_CLASHES_1_3 : Array (Option Value)} {tt_LEAST_CLASHES_1_3_0 : Tok} {tt_LEAST_CLASHES_1_3_1 : Tok} {at_LEAST_CLASHES_1_4 : Addr} {it_LEAST_CLASHES_1_4 : Array Value} {nt_LEAST_CLASHES_1_4 : Nat} {sl_LEAST_CLASHES_1_4 : Array (Option Value)} {tt_LEAST_CLASHES_1_4_0 : Tok} {tt_LEAST_CLASHES_1_4_1 : Tok} {at_LEAST_CLASHES_1_5 : Addr} {it_LEAST_CLASHES_1_5 : Array Value} {nt_LEAST_CLASHES_1_5 : Nat} {sl_LEAST_CLASHES_1_5 : Array (Option Value)} {tt_LEAST_CLASHES_1_5_0 : Tok} {tt_LEAST_CLASHES_1_5_1 : Tok} {at_LEAST_CLASHES_1_6 : Addr} {it_LEAST_CLASHES_1_6 : Array Value} {nt_LEAST_CLASHES_1_6 : Nat} {sl_LEAST_CLASHES_1_6 : Array (Option Value)} {tt_LEAST_CLASHES_1_6_0 : Tok} {tt_LEAST_CLASHES_1_6_1 : Tok} {at_LEAST_CLASHES_1_7 : Addr} {it_LEAST_CLASHES_1_7 : Array Value} {nt_LEAST_CLASHES_1_7 : Nat} {sl_LEAST_CLASHES_1_7 : Array (Option Value)} {tt_LEAST_CLASHES_1_7_0 : Tok} {tt_LEAST_CLASHES_1_7_1 : Tok} {at_LEAST_CLASHES_1_8 : Addr} {it_LEAST_CLASHES_1_8 : Array Value} {nt_LEAST_CLASHES_1_8 : Nat} {sl_LEAST_CLASHES_1_8 : Array (Option Value)} {tt_LEAST_CLASHES_1_8_0 : Tok} {tt_LEAST_CLASHES_1_8_1 : Tok} {at_LEAST_CLASHES_1_9 : Addr} {it_LEAST_CLASHES_1_9 : Array Value} {nt_LEAST_CLASHES_1_9 : Nat} {sl_LEAST_CLASHES_1_9 : Array (Option Value)} {tt_LEAST_CLASHES_1_9_0 : Tok} {tt_LEAST_CLASHES_1_9_1 : Tok} {at_LEAST_CLASHES_1_10 : Addr} {it_LEAST_CLASHES_1_10 : Array Value} {nt_LEAST_CLASHES_1_10 : Nat} {sl_LEAST_CLASHES_1_10 : Array (Option Value)} {tt_LEAST_CLASHES_1_10_0 : Tok} {tt_LEAST_CLASHES_1_10_1 : Tok} {at_LEAST_CLASHES_1_11 : Addr} {it_LEAST_CLASHES_1_11 : Array Value} {nt_LEAST_CLASHES_1_11 : Nat} {sl_LEAST_CLASHES_1_11 : Array (Option Value)} {tt_LEAST_CLASHES_1_11_0 : Tok} {tt_LEAST_CLASHES_1_11_1 : Tok} {at_LEAST_CLASHES_1_12 : Addr} {it_LEAST_CLASHES_1_12 : Array Value} {nt_LEAST_CLASHES_1_12 : Nat} {sl_LEAST_CLASHES_1_12 : Array (Option Value)} {tt_LEAST_CLASHES_1_12_0 : Tok} {tt_LEAST_CLASHES_1_12_1 : Tok} {at_LEAST_CLASHES_1_13 : Addr} {it_LEAST_CLASHES_1_13 : Array Value} {nt_LEAST_CLASHES_1_13 : Nat} {sl_LEAST_CLASHES_1_13 : Array (Option Value)} {tt_LEAST_CLASHES_1_13_0 : Tok} {tt_LEAST_CLASHES_1_13_1 : Tok} {at_LEAST_CLASHES_1_14 : Addr} {it_LEAST_CLASHES_1_14 : Array Value} {nt_LEAST_CLASHES_1_14 : Nat} {sl_LEAST_CLASHES_1_14 : Array (Option Value)} {tt_LEAST_CLASHES_1_14_0 : Tok} {tt_LEAST_CLASHES_1_14_1 : Tok} {at_LEAST_CLASHES_1_15 : Addr} {it_LEAST_CLASHES_1_15 : Array Value} {nt_LEAST_CLASHES_1_15 : Nat} {sl_LEAST_CLASHES_1_15 : Array (Option Value)} {tt_LEAST_CLASHES_1_15_0 : Tok} {tt_LEAST_CLASHES_1_15_1 : Tok} {at_LEAST_CLASHES_1_16 : Addr} {it_LEAST_CLASHES_1_16 : Array Value} {nt_LEAST_CLASHES_1_16 : Nat} {sl_LEAST_CLASHES_1_16 : Array (Option Value)} {tt_LEAST_CLASHES_1_16_0 : Tok} {tt_LEAST_CLASHES_1_16_1 : Tok} {at_LEAST_CLASHES_1_17 : Addr} {it_LEAST_CLASHES_1_17 : Array Value} {nt_LEAST_CLASHES_1_17 : Nat} {sl_LEAST_CLASHES_1_17 : Array (Option Value)} {tt_LEAST_CLASHES_1_17_0 : Tok} {tt_LEAST_CLASHES_1_17_1 : Tok} {tt_LEAST_CLASHES_1_17_2 : Tok} {at_LEAST_CLASHES_1_18 : Addr} {it_LEAST_CLASHES_1_18 : Array Value} {nt_LEAST_CLASHES_1_18 : Nat} {sl_LEAST_CLASHES_1_18 : Array (Option Value)} {tt_LEAST_CLASHES_1_18_0 : Tok} {tt_LEAST_CLASHES_1_18_1 : Tok} {tt_LEAST_CLASHES_1_18_2 : Tok} {at_LEAST_CLASHES_1_19 : Addr} {it_LEAST_CLASHES_1_19 : Array Value} {nt_LEAST_CLASHES_1_19 : Nat} {sl_LEAST_CLASHES_1_19 : Array (Option Value)} {tt_LEAST_CLASHES_1_19_0 : Tok} {tt_LEAST_CLASHES_1_19_1 : Tok} {tt_LEAST_CLASHES_1_19_2 : Tok} {at_LEAST_CLASHES_1_20 : Addr} {it_LEAST_CLASHES_1_20 : Array Value} {nt_LEAST_CLASHES_1_20 : Nat} {sl_LEAST_CLASHES_1_20 : Array (Option Value)} {tt_LEAST_CLASHES_1_20_0 : Tok} {tt_LEAST_CLASHES_1_20_1 : Tok} {tt_LEAST_CLASHES_1_20_2 : Tok} {at_LEAST_CLASHES_1_21 : Addr} {it_LEAST_CLASHES_1_21 : Array Value} {nt_LEAST_CLASHES_1_21 : Nat} {sl_LEAST_CLASHES_1_21 : Array (Option Value)} {tt_LEAST_CLASHES_1_21_0 : Tok} {tt_LEAST_CLASHES_1_21_1 : Tok} {tt_LEAST_CLASHES_1_21_2 : Tok} {tt_LEAST_CLASHES_1_21_3 : Tok} {at_LEAST_CLASHES_1_22 : Addr} {it_LEAST_CLASHES_1_22 : Array Value} {nt_LEAST_CLASHES_1_22 : Nat} {sl_LEAST_CLASHES_1_22 : Array (Option Value)} {tt_LEAST_CLASHES_1_22_0 : Tok} {tt_LEAST_CLASHES_1_22_1 : Tok} {tt_LEAST_CLASHES_1_22_2 : Tok} {tt_LEAST_CLASHES_1_22_3 : Tok} {at_LEAST_CLASHES_1_23 : Addr} {it_LEAST_CLASHES_1_23 : Array Value} {nt_LEAST_CLASHES_1_23 : Nat} {sl_LEAST_CLASHES_1_23 : Array (Option Value)} {tt_LEAST_CLASHES_1_23_0 : Tok} {tt_LEAST_CLASHES_1_23_1 : Tok} {tt_LEAST_CLASHES_1_23_2 : Tok} {tt_LEAST_CLASHES_1_23_3 : Tok} {at_LEAST_CLASHES_1_24 : Addr} {it_LEAST_CLASHES_1_24 : Array Value} {nt_LEAST_CLASHES_1_24 : Nat} {sl_LEAST_CLASHES_1_24 : Array (Option Value)} {tt_LEAST_CLASHES_1_24_0 : Tok} {tt_LEAST_CLASHES_1_24_1 : Tok} {tt_LEAST_CLASHES_1_24_2 : Tok} {tt_LEAST_CLASHES_1_24_3 : Tok} {at_LEAST_CLASHES_1_25 : Addr} {it_LEAST_CLASHES_1_25 : Array Value} {nt_LEAST_CLASHES_1_25 : Nat} {sl_LEAST_CLASHES_1_25 : Array (Option Value)} {tt_LEAST_CLASHES_1_25_0 : Tok} {tt_LEAST_CLASHES_1_25_1 : Tok} {tt_LEAST_CLASHES_1_25_2 : Tok} {tt_LEAST_CLASHES_1_25_3 : Tok} {at_LEAST_FORCING_0 : Addr} {it_LEAST_FORCING_0 : Array Value} {nt_LEAST_FORCING_0 : Nat} {sl_LEAST_FORCING_0 : Array (Option Value)} {at_LEAST_FORCING_0_0 : Addr} {it_LEAST_FORCING_0_0 : Array Value} {nt_LEAST_FORCING_0_0 : Nat} {sl_LEAST_FORCING_0_0 : Array (Option Value)} {tt_LEAST_FORCING_0_0_0 : Tok} {at_LEAST_FORCING_0_1 : Addr} {it_LEAST_FORCING_0_1 : Array Value} {nt_LEAST_FORCING_0_1 : Nat} {sl_LEAST_FORCING_0_1 : Array (Option Value)} {tt_LEAST_FORCING_0_1_0 : Tok} {tt_LEAST_FORCING_0_1_1 : Tok} {at_LEAST_FORCING_0_2 : Addr} {it_LEAST_FORCING_0_2 : Array Value} {nt_LEAST_FORCING_0_2 : Nat} {sl_LEAST_FORCING_0_2 : Array (Option Value)} {tt_LEAST_FORCING_0_2_0 : Tok} {tt_LEAST_FORCING_0_2_1 : Tok} {at_LEAST_FORCING_0_3 : Addr} {it_LEAST_FORCING_0_3 : Array Value} {nt_LEAST_FORCING_0_3 : Nat} {sl_LEAST_FORCING_0_3 : Array (Option Value)} {tt_LEAST_FORCING_0_3_0 : Tok} {tt_LEAST_FORCING_0_3_1 : Tok} {at_LEAST_FORCING_0_4 : Addr} {it_LEAST_FORCING_0_4 : Array Value} {nt_LEAST_FORCING_0_4 : Nat} {sl_LEAST_FORCING_0_4 : Array (Option Value)} {tt_LEAST_FORCING_0_4_0 : Tok} {tt_LEAST_FORCING_0_4_1 : Tok} {at_LEAST_FORCING_0_5 : Addr} {it_LEAST_FORCING_0_5 : Array Value} {nt_LEAST_FORCING_0_5 : Nat} {sl_LEAST_FORCING_0_5 : Array (Option Value)} {tt_LEAST_FORCING_0_5_0 : Tok} {tt_LEAST_FORCING_0_5_1 : Tok} {at_LEAST_FORCING_0_6 : Addr} {it_LEAST_FORCING_0_6 : Array Value} {nt_LEAST_FORCING_0_6 : Nat} {sl_LEAST_FORCING_0_6 : Array (Option Value)} {tt_LEAST_FORCING_0_6_0 : Tok} {tt_LEAST_FORCING_0_6_1 : Tok} {at_LEAST_FORCING_1 : Addr} {it_LEAST_FORCING_1 : Array Value} {nt_LEAST_FORCING_1 : Nat} {sl_LEAST_FORCING_1 : Array (Option Value)} {at_LEAST_FORCING_1_0 : Addr} {it_LEAST_FORCING_1_0 : Array Value} {nt_LEAST_FORCING_1_0 : Nat} {sl_LEAST_FORCING_1_0 : Array (Option Value)} {tt_LEAST_FORCING_1_0_0 : Tok} {at_LEAST_FORCING_1_1 : Addr} {it_LEAST_FORCING_1_1 : Array Value} {nt_LEAST_FORCING_1_1 : Nat} {sl_LEAST_FORCING_1_1 : Array (Option Value)} {tt_LEAST_FORCING_1_1_0 : Tok} {tt_LEAST_FORCING_1_1_1 : Tok} {tt_LEAST_FORCING_1_1_2 : Tok} {at_LEAST_FORCING_1_2 : Addr} {it_LEAST_FORCING_1_2 : Array Value} {nt_LEAST_FORCING_1_2 : Nat} {sl_LEAST_FORCING_1_2 : Array (Option Value)} {tt_LEAST_FORCING_1_2_0 : Tok} {tt_LEAST_FORCING_1_2_1 : Tok} {tt_LEAST_FORCING_1_2_2 : Tok} {at_LEAST_FORCING_1_3 : Addr} {it_LEAST_FORCING_1_3 : Array Value} {nt_LEAST_FORCING_1_3 : Nat} {sl_LEAST_FORCING_1_3 : Array (Option Value)} {tt_LEAST_FORCING_1_3_0 : Tok} {tt_LEAST_FORCING_1_3_1 : Tok} {tt_LEAST_FORCING_1_3_2 : Tok} {at_LEAST_FORCING_1_4 : Addr} {it_LEAST_FORCING_1_4 : Array Value} {nt_LEAST_FORCING_1_4 : Nat} {sl_LEAST_FORCING_1_4 : Array (Option Value)} {tt_LEAST_FORCING_1_4_0 : Tok} {tt_LEAST_FORCING_1_4_1 : Tok} {tt_LEAST_FORCING_1_4_2 : Tok} {at_LEAST_FORCING_1_5 : Addr} {it_LEAST_FORCING_1_5 : Array Value} {nt_LEAST_FORCING_1_5 : Nat} {sl_LEAST_FORCING_1_5 : Array (Option Value)} {tt_LEAST_FORCING_1_5_0 : Tok} {tt_LEAST_FORCING_1_5_1 : Tok} {tt_LEAST_FORCING_1_5_2 : Tok} {at_LEAST_FORCING_1_6 : Addr} {it_LEAST_FORCING_1_6 : Array Value} {nt_LEAST_FORCING_1_6 : Nat} {sl_LEAST_FORCING_1_6 : Array (Option Value)} {tt_LEAST_FORCING_1_6_0 : Tok} {tt_LEAST_FORCING_1_6_1 : Tok} {tt_LEAST_FORCING_1_6_2 : Tok} {at_LEAST_FORCING_1_7 : Addr} {it_LEAST_FORCING_1_7 : Array Value} {nt_LEAST_FORCING_1_7 : Nat} {sl_LEAST_FORCING_1_7 : Array (Option Value)} {tt_LEAST_FORCING_1_7_0 : Tok} {tt_LEAST_FORCING_1_7_1 : Tok} {tt_LEAST_FORCING_1_7_2 : Tok} {at_LEAST_FORCING_1_8 : Addr} {it_LEAST_FORCING_1_8 : Array Value} {nt_LEAST_FORCING_1_8 : Nat} {sl_LEAST_FORCING_1_8 : Array (Option Value)} {tt_LEAST_FORCING_1_8_0 : Tok} {tt_LEAST_FORCING_1_8_1 : Tok} {tt_LEAST_FORCING_1_8_2 : Tok} {at_LEAST_FORCING_1_9 : Addr} {it_LEAST_FORCING_1_9 : Array Value} {nt_LEAST_FORCING_1_9 : Nat} {sl_LEAST_FORCING_1_9 : Array (Option Value)} {tt_LEAST_FORCING_1_9_0 : Tok} {tt_LEAST_FORCING_1_9_1 : Tok} {tt_LEAST_FORCING_1_9_2 : Tok} {tt_LEAST_FORCING_1_9_3 : Tok} {at_LEAST_FORCING_1_10 : Addr} {it_LEAST_FORCING_1_10 : Array Value} {nt_LEAST_FORCING_1_10 : Nat} {sl_LEAST_FORCING_1_10 : Array (Option Value)} {tt_LEAST_FORCING_1_10_0 : Tok} {tt_LEAST_FORCING_1_10_1 : Tok} {tt_LEAST_FORCING_1_10_2 : Tok} {tt_LEAST_FORCING_1_10_3 : Tok} {at_LEAST_FORCING_1_11 : Addr} {it_LEAST_FORCING_1_11 : Array Value} {nt_LEAST_FORCING_1_11 : Nat} {sl_LEAST_FORCING_1_11 : Array (Option Value)} {tt_LEAST_FORCING_1_11_0 : Tok} {tt_LEAST_FORCING_1_11_1 : Tok} {tt_LEAST_FORCING_1_11_2 : Tok} {tt_LEAST_FORCING_1_11_3 : Tok} {at_LEAST_FORCING_1_12 : Addr} {it_LEAST_FORCING_1_12 : Array Value} {nt_LEAST_FORCING_1_12 : Nat} {sl_LEAST_FORCING_1_12 : Array (Option Value)} {tt_LEAST_FORCING_1_12_0 : Tok} {tt_LEAST_FORCING_1_12_1 : Tok} {tt_LEAST_FORCING_1_12_2 : Tok} {tt_LEAST_FORCING_1_12_3 : Tok} {at_LEAST_FORCING_1_13 : Addr} {it_LEAST_FORCING_1_13 : Array Value} {nt_LEAST_FORCING_1_13 : Nat} {sl_LEAST_FORCING_1_13 : Array (Option Value)} {tt_LEAST_FORCING_1_13_0 : Tok} {tt_LEAST_FORCING_1_13_1 : Tok} {tt_LEAST_FORCING_1_13_2 : Tok} {tt_LEAST_FORCING_1_13_3 : Tok} {at_LEAST_FORCING_1_14 : Addr} {it_LEAST_FORCING_1_14 : Array Value} {nt_LEAST_FORCING_1_14 : Nat} {sl_LEAST_FORCING_1_14 : Array (Option Value)} {tt_LEAST_FORCING_1_14_0 : Tok} {tt_LEAST_FORCING_1_14_1 : Tok} {tt_LEAST_FORCING_1_14_2 : Tok} {tt_LEAST_FORCING_1_14_3 : Tok} {at_LEAST_FORCING_1_15 : Addr} {it_LEAST_FORCING_1_15 : Array Value} {nt_LEAST_FORCING_1_15 : Nat} {sl_LEAST_FORCING_1_15 : Array (Option Value)} {tt_LEAST_FORCING_1_15_0 : Tok} {tt_LEAST_FORCING_1_15_1 : Tok} {tt_LEAST_FORCING_1_15_2 : Tok} {tt_LEAST_FORCING_1_15_3 : Tok} {at_LEAST_FORCING_1_16 : Addr} {it_LEAST_FORCING_1_16 : Array Value} {nt_LEAST_FORCING_1_16 : Nat} {sl_LEAST_FORCING_1_16 : Array (Option Value)} {tt_LEAST_FORCING_1_16_0 : Tok} {tt_LEAST_FORCING_1_16_1 : Tok} {tt_LEAST_FORCING_1_16_2 : Tok} {tt_LEAST_FORCING_1_16_3 : Tok} (X : K.In h) (G : h.Ns mainGlobals mg) (hfa : mg "law" = some (.ref fa)) {oc_law_taken kV_law_taken dc_law_taken pm_law_taken cd_law_taken ct_law_taken : Value} {od_law_taken an_law_taken : Option Addr} {sl_law_taken : Array (Option Value)} {a_law_taken : Addr} {oc_law_sets kV_law_sets dc_law_sets pm_law_sets cd_law_sets ct_law_sets : Value} {od_law_sets an_law_sets : Option Addr} {sl_law_sets : Array (Option Value)} {a_law_sets : Addr} {oc_law_clashes kV_law_clashes dc_law_clashes pm_law_clashes cd_law_clashes ct_law_clashes : Value} {od_law_clashes an_law_clashes : Option Addr} {sl_law_clashes : Array (Option Value)} {a_law_clashes : Addr} {oc_law_forcing kV_law_forcing dc_law_forcing pm_law_forcing cd_law_forcing ct_law_forcing : Value} {od_law_forcing an_law_forcing : Option Addr} {sl_law_forcing : Array (Option Value)} {a_law_forcing : Addr} {oc_law_great kV_law_great dc_law_great pm_law_great cd_law_great ct_law_great : Value} {od_law_great an_law_great : Option Addr} {sl_law_great : Array (Option Value)} {a_law_great : Addr} {oc_law_axioms kV_law_axioms dc_law_axioms pm_law_axioms cd_law_axioms ct_law_axioms : Value} {od_law_axioms an_law_axioms : Option Addr} {sl_law_axioms : Array (Option Value)} {a_law_axioms : Addr} {oc_law_wanted kV_law_wanted dc_law_wanted pm_law_wanted cd_law_wanted ct_law_wanted : Value} {od_law_wanted an_law_wanted : Option Addr} {sl_law_wanted : Array (Option Value)} {a_law_wanted : Addr} {oc_law_alike kV_law_alike dc_law_alike pm_law_alike cd_law_alike ct_law_alike : Value} {od_law_alike an_law_alike : Option Addr} {sl_law_alike : Array (Option Value)} {a_law_alike : Addr} {oc_law_pick kV_law_pick dc_law_pick pm_law_pick cd_law_pick ct_law_pick : Value} {od_law_pick an_law_pick : Option Addr} {sl_law_pick : Array (Option Value)} {a_law_pick : Addr} {oc_law_within kV_law_within dc_law_within pm_law_within cd_law_within ct_law_within : Value} {od_law_within an_law_within : Option Addr} {sl_law_within : Array (Option Value)} {a_law_within : Addr} {oc_check_people kV_check_people dc_check_people pm_check_people cd_check_people ct_check_people : Value} {od_check_people an_check_people : Option Addr} {sl_check_people : Array (Option Value)} {a_check_people : Addr} {oc_least_clashes kV_least_clashes dc_least_clashes pm_least_clashes cd_least_clashes ct_least_clashes : Value} {od_least_clashes an_least_clashes : Option Addr} {sl_least_clashes : Array (Option Value)} {a_least_clashes : Addr} {oc_least_forcing kV_least_forcing dc_least_forcing pm_least_forcing cd_least_forcing ct_least_forcing : Value} {od_least_forcing an_least_forcing : Option Addr} {sl_least_forcing : Array (Option Value)} {a_least_forcing : Addr} {oc_axioms kV_axioms dc_axioms pm_axioms cd_axioms ct_axioms : Value} {od_axioms an_axioms : Option Addr} {sl_axioms : Array (Option Value)} {a_axioms : Addr} {oc_without_one kV_without_one dc_without_one pm_without_one cd_without_one ct_without_one : Value} {od_without_one an_without_one : Option Addr} {sl_without_one : Array (Option Value)} {a_without_one : Addr} {oc_lie_in kV_lie_in dc_lie_in pm_lie_in cd_lie_in ct_lie_in : Value} {od_lie_in an_lie_in : Option Addr} {sl_lie_in : Array (Option Value)} {a_lie_in : Addr} {oc_without_clash kV_without_clash dc_without_clash pm_without_clash cd_without_clash ct_without_clash : Value} {od_without_clash an_without_clash : Option Addr} {sl_without_clash : Array (Option Value)} {a_without_clash : Addr} {oc_greatest_sets kV_greatest_sets dc_greatest_sets pm_greatest_sets cd_greatest_sets ct_greatest_sets : Value} {od_greatest_sets an_greatest_sets : Option Addr} {sl_greatest_sets : Array (Option Value)} {a_greatest_sets : Addr} {oc_law_is kV_law_is dc_law_is pm_law_is cd_law_is ct_law_is : Value} {od_law_is an_law_is : Option Addr} {sl_law_is : Array (Option Value)} {a_law_is : Addr} {oc_is_wanted kV_is_wanted dc_is_wanted pm_is_wanted cd_is_wanted ct_is_wanted : Value} {od_is_wanted an_is_wanted : Option Addr} {sl_is_wanted : Array (Option Value)} {a_is_wanted : Addr} {oc_check_wanted kV_check_wanted dc_check_wanted pm_check_wanted cd_check_wanted ct_check_wanted : Value} {od_check_wanted an_check_wanted : Option Addr} {sl_check_wanted : Array (Option Value)} {a_check_wanted : Addr} {oc_clashes kV_clashes dc_clashes pm_clashes cd_clashes ct_clashes : Value} {od_clashes an_clashes : Option Addr} {sl_clashes : Array (Option Value)} {a_clashes : Addr} {oc_can_hold kV_can_hold dc_can_hold pm_can_hold cd_can_hold ct_can_hold : Value} {od_can_hold an_can_hold : Option Addr} {sl_can_hold : Array (Option Value)} {a_can_hold : Addr} {oc_with_one kV_with_one dc_with_one pm_with_one cd_with_one ct_with_one : Value} {od_with_one an_with_one : Option Addr} {sl_with_one : Array (Option Value)} {a_with_one : Addr} {oc_can_add kV_can_add dc_can_add pm_can_add cd_can_add ct_can_add : Value} {od_can_add an_can_add : Option Addr} {sl_can_add : Array (Option Value)} {a_can_add : Addr} {oc_forcings kV_forcings dc_forcings pm_forcings cd_forcings ct_forcings : Value} {od_forcings an_forcings : Option Addr} {sl_forcings : Array (Option Value)} {a_forcings : Addr} {oc_forces kV_forces dc_forces pm_forces cd_forces ct_forces : Value} {od_forces an_forces : Option Addr} {sl_forces : Array (Option Value)} {a_forces : Addr} {oc_law kV_law dc_law pm_law cd_law ct_law : Value} {od_law an_law : Option Addr} {sl_law : Array (Option Value)} {a_law : Addr}
    (m_law_taken_ : PySem.W.nsIn K mainGlobals "_law_taken" = some (some (.ref a_law_taken))) (l_law_taken : K.lookup a_law_taken = some ⟨oc_law_taken, od_law_taken, .func (PySem.W.fnOf "_law_taken" "_law_taken" (defArgs s_law_taken) (defBody s_law_taken) (defScope s_law_taken) .none kV_law_taken dc_law_taken pm_law_taken an_law_taken cd_law_taken ct_law_taken), sl_law_taken⟩) (c_law_taken : PySem.W.codeIn K cd_law_taken "_law_taken" = true) (k_law_taken : PySem.W.keepIn K (.ref a_law_taken) = true)
    (m_law_sets_ : PySem.W.nsIn K mainGlobals "_law_sets" = some (some (.ref a_law_sets))) (l_law_sets : K.lookup a_law_sets = some ⟨oc_law_sets, od_law_sets, .func (PySem.W.fnOf "_law_sets" "_law_sets" (defArgs s_law_sets) (defBody s_law_sets) (defScope s_law_sets) .none kV_law_sets dc_law_sets pm_law_sets an_law_sets cd_law_sets ct_law_sets), sl_law_sets⟩) (c_law_sets : PySem.W.codeIn K cd_law_sets "_law_sets" = true) (k_law_sets : PySem.W.keepIn K (.ref a_law_sets) = true)
    (m_law_clashes_ : PySem.W.nsIn K mainGlobals "_law_clashes" = some (some (.ref a_law_clashes))) (l_law_clashes : K.lookup a_law_clashes = some ⟨oc_law_clashes, od_law_clashes, .func (PySem.W.fnOf "_law_clashes" "_law_clashes" (defArgs s_law_clashes) (defBody s_law_clashes) (defScope s_law_clashes) .none kV_law_clashes dc_law_clashes pm_law_clashes an_law_clashes cd_law_clashes ct_law_clashes), sl_law_clashes⟩) (c_law_clashes : PySem.W.codeIn K cd_law_clashes "_law_clashes" = true) (k_law_clashes : PySem.W.keepIn K (.ref a_law_clashes) = true)
    (m_law_forcing_ : PySem.W.nsIn K mainGlobals "_law_forcing" = some (some (.ref a_law_forcing))) (l_law_forcing : K.lookup a_law_forcing = some ⟨oc_law_forcing, od_law_forcing, .func (PySem.W.fnOf "_law_forcing" "_law_forcing" (defArgs s_law_forcing) (defBody s_law_forcing) (defScope s_law_forcing) .none kV_law_forcing dc_law_forcing pm_law_forcing an_law_forcing cd_law_forcing ct_law_forcing), sl_law_forcing⟩) (c_law_forcing : PySem.W.codeIn K cd_law_forcing "_law_forcing" = true) (k_law_forcing : PySem.W.keepIn K (.ref a_law_forcing) = true)
    (m_law_great_ : PySem.W.nsIn K mainGlobals "_law_great" = some (some (.ref a_law_great))) (l_law_great : K.lookup a_law_great = some ⟨oc_law_great, od_law_great, .func (PySem.W.fnOf "_law_great" "_law_great" (defArgs s_law_great) (defBody s_law_great) (defScope s_law_great) .none kV_law_great dc_law_great pm_law_great an_law_great cd_law_great ct_law_great), sl_law_great⟩) (c_law_great : PySem.W.codeIn K cd_law_great "_law_great" = true) (k_law_great : PySem.W.keepIn K (.ref a_law_great) = true)
    (m_law_axioms_ : PySem.W.nsIn K mainGlobals "_law_axioms" = some (some (.ref a_law_axioms))) (l_law_axioms : K.lookup a_law_axioms = some ⟨oc_law_axioms, od_law_axioms, .func (PySem.W.fnOf "_law_axioms" "_law_axioms" (defArgs s_law_axioms) (defBody s_law_axioms) (defScope s_law_axioms) .none kV_law_axioms dc_law_axioms pm_law_axioms an_law_axioms cd_law_axioms ct_law_axioms), sl_law_axioms⟩) (c_law_axioms : PySem.W.codeIn K cd_law_axioms "_law_axioms" = true) (k_law_axioms : PySem.W.keepIn K (.ref a_law_axioms) = true)
    (m_law_wanted_ : PySem.W.nsIn K mainGlobals "_law_wanted" = some (some (.ref a_law_wanted))) (l_law_wanted : K.lookup a_law_wanted = some ⟨oc_law_wanted, od_law_wanted, .func (PySem.W.fnOf "_law_wanted" "_law_wanted" (defArgs s_law_wanted) (defBody s_law_wanted) (defScope s_law_wanted) .none kV_law_wanted dc_law_wanted pm_law_wanted an_law_wanted cd_law_wanted ct_law_wanted), sl_law_wanted⟩) (c_law_wanted : PySem.W.codeIn K cd_law_wanted "_law_wanted" = true) (k_law_wanted : PySem.W.keepIn K (.ref a_law_wanted) = true)
    (m_law_alike_ : PySem.W.nsIn K mainGlobals "_law_alike" = some (some (.ref a_law_alike))) (l_law_alike : K.lookup a_law_alike = some ⟨oc_law_alike, od_law_alike, .func (PySem.W.fnOf "_law_alike" "_law_alike" (defArgs s_law_alike) (defBody s_law_alike) (defScope s_law_alike) .none kV_law_alike dc_law_alike pm_law_alike an_law_alike cd_law_alike ct_law_alike), sl_law_alike⟩) (c_law_alike : PySem.W.codeIn K cd_law_alike "_law_alike" = true) (k_law_alike : PySem.W.keepIn K (.ref a_law_alike) = true)
    (m_law_pick_ : PySem.W.nsIn K mainGlobals "_law_pick" = some (some (.ref a_law_pick))) (l_law_pick : K.lookup a_law_pick = some ⟨oc_law_pick, od_law_pick, .func (PySem.W.fnOf "_law_pick" "_law_pick" (defArgs s_law_pick) (defBody s_law_pick) (defScope s_law_pick) .none kV_law_pick dc_law_pick pm_law_pick an_law_pick cd_law_pick ct_law_pick), sl_law_pick⟩) (c_law_pick : PySem.W.codeIn K cd_law_pick "_law_pick" = true) (k_law_pick : PySem.W.keepIn K (.ref a_law_pick) = true)
    (m_law_within_ : PySem.W.nsIn K mainGlobals "_law_within" = some (some (.ref a_law_within))) (l_law_within : K.lookup a_law_within = some ⟨oc_law_within, od_law_within, .func (PySem.W.fnOf "_law_within" "_law_within" (defArgs s_law_within) (defBody s_law_within) (defScope s_law_within) .none kV_law_within dc_law_within pm_law_within an_law_within cd_law_within ct_law_within), sl_law_within⟩) (c_law_within : PySem.W.codeIn K cd_law_within "_law_within" = true) (k_law_within : PySem.W.keepIn K (.ref a_law_within) = true)
    (m_check_people_ : PySem.W.nsIn K mainGlobals "check_people" = some (some (.ref a_check_people))) (l_check_people : K.lookup a_check_people = some ⟨oc_check_people, od_check_people, .func (PySem.W.fnOf "check_people" "check_people" (defArgs s_check_people) (defBody s_check_people) (defScope s_check_people) .none kV_check_people dc_check_people pm_check_people an_check_people cd_check_people ct_check_people), sl_check_people⟩) (c_check_people : PySem.W.codeIn K cd_check_people "check_people" = true) (k_check_people : PySem.W.keepIn K (.ref a_check_people) = true)
    (m_least_clashes_ : PySem.W.nsIn K mainGlobals "least_clashes" = some (some (.ref a_least_clashes))) (l_least_clashes : K.lookup a_least_clashes = some ⟨oc_least_clashes, od_least_clashes, .func (PySem.W.fnOf "least_clashes" "least_clashes" (defArgs s_least_clashes) (defBody s_least_clashes) (defScope s_least_clashes) .none kV_least_clashes dc_least_clashes pm_least_clashes an_least_clashes cd_least_clashes ct_least_clashes), sl_least_clashes⟩) (c_least_clashes : PySem.W.codeIn K cd_least_clashes "least_clashes" = true) (k_least_clashes : PySem.W.keepIn K (.ref a_least_clashes) = true)
    (m_least_forcing_ : PySem.W.nsIn K mainGlobals "least_forcing" = some (some (.ref a_least_forcing))) (l_least_forcing : K.lookup a_least_forcing = some ⟨oc_least_forcing, od_least_forcing, .func (PySem.W.fnOf "least_forcing" "least_forcing" (defArgs s_least_forcing) (defBody s_least_forcing) (defScope s_least_forcing) .none kV_least_forcing dc_least_forcing pm_least_forcing an_least_forcing cd_least_forcing ct_least_forcing), sl_least_forcing⟩) (c_least_forcing : PySem.W.codeIn K cd_least_forcing "least_forcing" = true) (k_least_forcing : PySem.W.keepIn K (.ref a_least_forcing) = true)
    (m_axioms_ : PySem.W.nsIn K mainGlobals "axioms" = some (some (.ref a_axioms))) (l_axioms : K.lookup a_axioms = some ⟨oc_axioms, od_axioms, .func (PySem.W.fnOf "axioms" "axioms" (defArgs s_axioms) (defBody s_axioms) (defScope s_axioms) .none kV_axioms dc_axioms pm_axioms an_axioms cd_axioms ct_axioms), sl_axioms⟩) (c_axioms : PySem.W.codeIn K cd_axioms "axioms" = true) (k_axioms : PySem.W.keepIn K (.ref a_axioms) = true)
    (m_without_one_ : PySem.W.nsIn K mainGlobals "without_one" = some (some (.ref a_without_one))) (l_without_one : K.lookup a_without_one = some ⟨oc_without_one, od_without_one, .func (PySem.W.fnOf "without_one" "without_one" (defArgs s_without_one) (defBody s_without_one) (defScope s_without_one) .none kV_without_one dc_without_one pm_without_one an_without_one cd_without_one ct_without_one), sl_without_one⟩) (c_without_one : PySem.W.codeIn K cd_without_one "without_one" = true) (k_without_one : PySem.W.keepIn K (.ref a_without_one) = true)
    (m_lie_in_ : PySem.W.nsIn K mainGlobals "lie_in" = some (some (.ref a_lie_in))) (l_lie_in : K.lookup a_lie_in = some ⟨oc_lie_in, od_lie_in, .func (PySem.W.fnOf "lie_in" "lie_in" (defArgs s_lie_in) (defBody s_lie_in) (defScope s_lie_in) .none kV_lie_in dc_lie_in pm_lie_in an_lie_in cd_lie_in ct_lie_in), sl_lie_in⟩) (c_lie_in : PySem.W.codeIn K cd_lie_in "lie_in" = true) (k_lie_in : PySem.W.keepIn K (.ref a_lie_in) = true)
    (m_without_clash_ : PySem.W.nsIn K mainGlobals "without_clash" = some (some (.ref a_without_clash))) (l_without_clash : K.lookup a_without_clash = some ⟨oc_without_clash, od_without_clash, .func (PySem.W.fnOf "without_clash" "without_clash" (defArgs s_without_clash) (defBody s_without_clash) (defScope s_without_clash) .none kV_without_clash dc_without_clash pm_without_clash an_without_clash cd_without_clash ct_without_clash), sl_without_clash⟩) (c_without_clash : PySem.W.codeIn K cd_without_clash "without_clash" = true) (k_without_clash : PySem.W.keepIn K (.ref a_without_clash) = true)
    (m_greatest_sets_ : PySem.W.nsIn K mainGlobals "greatest_sets" = some (some (.ref a_greatest_sets))) (l_greatest_sets : K.lookup a_greatest_sets = some ⟨oc_greatest_sets, od_greatest_sets, .func (PySem.W.fnOf "greatest_sets" "greatest_sets" (defArgs s_greatest_sets) (defBody s_greatest_sets) (defScope s_greatest_sets) .none kV_greatest_sets dc_greatest_sets pm_greatest_sets an_greatest_sets cd_greatest_sets ct_greatest_sets), sl_greatest_sets⟩) (c_greatest_sets : PySem.W.codeIn K cd_greatest_sets "greatest_sets" = true) (k_greatest_sets : PySem.W.keepIn K (.ref a_greatest_sets) = true)
    (m_law_is_ : PySem.W.nsIn K mainGlobals "_law_is" = some (some (.ref a_law_is))) (l_law_is : K.lookup a_law_is = some ⟨oc_law_is, od_law_is, .func (PySem.W.fnOf "_law_is" "_law_is" (defArgs s_law_is) (defBody s_law_is) (defScope s_law_is) .none kV_law_is dc_law_is pm_law_is an_law_is cd_law_is ct_law_is), sl_law_is⟩) (c_law_is : PySem.W.codeIn K cd_law_is "_law_is" = true) (k_law_is : PySem.W.keepIn K (.ref a_law_is) = true)
    (m_is_wanted_ : PySem.W.nsIn K mainGlobals "is_wanted" = some (some (.ref a_is_wanted))) (l_is_wanted : K.lookup a_is_wanted = some ⟨oc_is_wanted, od_is_wanted, .func (PySem.W.fnOf "is_wanted" "is_wanted" (defArgs s_is_wanted) (defBody s_is_wanted) (defScope s_is_wanted) .none kV_is_wanted dc_is_wanted pm_is_wanted an_is_wanted cd_is_wanted ct_is_wanted), sl_is_wanted⟩) (c_is_wanted : PySem.W.codeIn K cd_is_wanted "is_wanted" = true) (k_is_wanted : PySem.W.keepIn K (.ref a_is_wanted) = true)
    (m_check_wanted_ : PySem.W.nsIn K mainGlobals "check_wanted" = some (some (.ref a_check_wanted))) (l_check_wanted : K.lookup a_check_wanted = some ⟨oc_check_wanted, od_check_wanted, .func (PySem.W.fnOf "check_wanted" "check_wanted" (defArgs s_check_wanted) (defBody s_check_wanted) (defScope s_check_wanted) .none kV_check_wanted dc_check_wanted pm_check_wanted an_check_wanted cd_check_wanted ct_check_wanted), sl_check_wanted⟩) (c_check_wanted : PySem.W.codeIn K cd_check_wanted "check_wanted" = true) (k_check_wanted : PySem.W.keepIn K (.ref a_check_wanted) = true)
    (m_clashes_ : PySem.W.nsIn K mainGlobals "clashes" = some (some (.ref a_clashes))) (l_clashes : K.lookup a_clashes = some ⟨oc_clashes, od_clashes, .func (PySem.W.fnOf "clashes" "clashes" (defArgs s_clashes) (defBody s_clashes) (defScope s_clashes) .none kV_clashes dc_clashes pm_clashes an_clashes cd_clashes ct_clashes), sl_clashes⟩) (c_clashes : PySem.W.codeIn K cd_clashes "clashes" = true) (k_clashes : PySem.W.keepIn K (.ref a_clashes) = true)
    (m_can_hold_ : PySem.W.nsIn K mainGlobals "can_hold" = some (some (.ref a_can_hold))) (l_can_hold : K.lookup a_can_hold = some ⟨oc_can_hold, od_can_hold, .func (PySem.W.fnOf "can_hold" "can_hold" (defArgs s_can_hold) (defBody s_can_hold) (defScope s_can_hold) .none kV_can_hold dc_can_hold pm_can_hold an_can_hold cd_can_hold ct_can_hold), sl_can_hold⟩) (c_can_hold : PySem.W.codeIn K cd_can_hold "can_hold" = true) (k_can_hold : PySem.W.keepIn K (.ref a_can_hold) = true)
    (m_with_one_ : PySem.W.nsIn K mainGlobals "with_one" = some (some (.ref a_with_one))) (l_with_one : K.lookup a_with_one = some ⟨oc_with_one, od_with_one, .func (PySem.W.fnOf "with_one" "with_one" (defArgs s_with_one) (defBody s_with_one) (defScope s_with_one) .none kV_with_one dc_with_one pm_with_one an_with_one cd_with_one ct_with_one), sl_with_one⟩) (c_with_one : PySem.W.codeIn K cd_with_one "with_one" = true) (k_with_one : PySem.W.keepIn K (.ref a_with_one) = true)
    (m_can_add_ : PySem.W.nsIn K mainGlobals "can_add" = some (some (.ref a_can_add))) (l_can_add : K.lookup a_can_add = some ⟨oc_can_add, od_can_add, .func (PySem.W.fnOf "can_add" "can_add" (defArgs s_can_add) (defBody s_can_add) (defScope s_can_add) .none kV_can_add dc_can_add pm_can_add an_can_add cd_can_add ct_can_add), sl_can_add⟩) (c_can_add : PySem.W.codeIn K cd_can_add "can_add" = true) (k_can_add : PySem.W.keepIn K (.ref a_can_add) = true)
    (m_forcings_ : PySem.W.nsIn K mainGlobals "forcings" = some (some (.ref a_forcings))) (l_forcings : K.lookup a_forcings = some ⟨oc_forcings, od_forcings, .func (PySem.W.fnOf "forcings" "forcings" (defArgs s_forcings) (defBody s_forcings) (defScope s_forcings) .none kV_forcings dc_forcings pm_forcings an_forcings cd_forcings ct_forcings), sl_forcings⟩) (c_forcings : PySem.W.codeIn K cd_forcings "forcings" = true) (k_forcings : PySem.W.keepIn K (.ref a_forcings) = true)
    (m_forces_ : PySem.W.nsIn K mainGlobals "forces" = some (some (.ref a_forces))) (l_forces : K.lookup a_forces = some ⟨oc_forces, od_forces, .func (PySem.W.fnOf "forces" "forces" (defArgs s_forces) (defBody s_forces) (defScope s_forces) .none kV_forces dc_forces pm_forces an_forces cd_forces ct_forces), sl_forces⟩) (c_forces : PySem.W.codeIn K cd_forces "forces" = true) (k_forces : PySem.W.keepIn K (.ref a_forces) = true)
    (m_law_ : PySem.W.nsIn K mainGlobals "law" = some (some (.ref a_law))) (l_law : K.lookup a_law = some ⟨oc_law, od_law, .func (PySem.W.fnOf "law" "law" (defArgs s_law) (defBody s_law) (defScope s_law) .none kV_law dc_law pm_law an_law cd_law ct_law), sl_law⟩) (c_law : PySem.W.codeIn K cd_law "law" = true) (k_law : PySem.W.keepIn K (.ref a_law) = true)
    (z_all : PySem.W.nsIn K mainGlobals "all" = some none)
    (z_any : PySem.W.nsIn K mainGlobals "any" = some none)
    (z_bool : PySem.W.nsIn K mainGlobals "bool" = some none)
    (z_int : PySem.W.nsIn K mainGlobals "int" = some none)
    (z_isinstance : PySem.W.nsIn K mainGlobals "isinstance" = some none)
    (z_len : PySem.W.nsIn K mainGlobals "len" = some none)
    (z_list : PySem.W.nsIn K mainGlobals "list" = some none)
    (z_range : PySem.W.nsIn K mainGlobals "range" = some none)
    (z_set : PySem.W.nsIn K mainGlobals "set" = some none)
    (z_sorted : PySem.W.nsIn K mainGlobals "sorted" = some none)
    (z_str : PySem.W.nsIn K mainGlobals "str" = some none)
    (z_tuple : PySem.W.nsIn K mainGlobals "tuple" = some none)
    (z_type : PySem.W.nsIn K mainGlobals "type" = some none)
    (zpm : PySem.W.nsIn K mainGlobals "permutations" = some (some (.type "itertools.permutations"))) (zcb : PySem.W.nsIn K mainGlobals "combinations" = some (some (.type "itertools.combinations"))) (zpp : PySem.W.nsIn K mainGlobals "PEOPLE" = some (some (.ref aP))) (zlp : K.lookup aP = some ⟨.type "tuple", none, .seq #[.int 2 tp1, .int 3 tp2] np, slp⟩)
    (zm_AT_ROW : PySem.W.nsIn K mainGlobals "AT_ROW" = some (some (.ref ad_AT_ROW))) (zd_AT_ROW : K.lookup ad_AT_ROW = some ⟨.type "dict", none, .dict es_AT_ROW nn_AT_ROW, #[]⟩)
    (zm_ACROSS : PySem.W.nsIn K mainGlobals "ACROSS" = some (some (.ref ad_ACROSS))) (zd_ACROSS : K.lookup ad_ACROSS = some ⟨.type "dict", none, .dict es_ACROSS nn_ACROSS, #[]⟩)
    (zm_WHOLE : PySem.W.nsIn K mainGlobals "WHOLE" = some (some (.ref ad_WHOLE))) (zd_WHOLE : K.lookup ad_WHOLE = some ⟨.type "dict", none, .dict es_WHOLE nn_WHOLE, #[]⟩)
    (zm_LEAST_CLASHES : PySem.W.nsIn K mainGlobals "LEAST_CLASHES" = some (some (.ref ad_LEAST_CLASHES))) (zd_LEAST_CLASHES : K.lookup ad_LEAST_CLASHES = some ⟨.type "dict", none, .dict es_LEAST_CLASHES nn_LEAST_CLASHES, #[]⟩)
    (zm_LEAST_FORCING : PySem.W.nsIn K mainGlobals "LEAST_FORCING" = some (some (.ref ad_LEAST_FORCING))) (zd_LEAST_FORCING : K.lookup ad_LEAST_FORCING = some ⟨.type "dict", none, .dict es_LEAST_FORCING nn_LEAST_FORCING, #[]⟩)
    (ze_AT_ROW : es_AT_ROW.toList = [⟨hashStr w ⟨([98, 101, 115, 116] : List Nat).toArray⟩, .str ⟨([98, 101, 115, 116] : List Nat).toArray⟩ tk_AT_ROW_0, .ref ao_is_best⟩, ⟨hashStr w ⟨([99, 111, 114, 101] : List Nat).toArray⟩, .str ⟨([99, 111, 114, 101] : List Nat).toArray⟩ tk_AT_ROW_1, .ref ao_is_core⟩, ⟨hashStr w ⟨([102, 105, 114, 115, 116] : List Nat).toArray⟩, .str ⟨([102, 105, 114, 115, 116] : List Nat).toArray⟩ tk_AT_ROW_2, .ref ao_is_first⟩, ⟨hashStr w ⟨([110, 111, 116, 108, 97, 115, 116] : List Nat).toArray⟩, .str ⟨([110, 111, 116, 108, 97, 115, 116] : List Nat).toArray⟩ tk_AT_ROW_3, .ref ao_is_notlast⟩, ⟨hashStr w ⟨([111, 119, 110] : List Nat).toArray⟩, .str ⟨([111, 119, 110] : List Nat).toArray⟩ tk_AT_ROW_4, .ref ao_is_own⟩, ⟨hashStr w ⟨([115, 111, 108, 101] : List Nat).toArray⟩, .str ⟨([115, 111, 108, 101] : List Nat).toArray⟩ tk_AT_ROW_5, .ref ao_is_sole⟩, ⟨hashStr w ⟨([115, 119, 97, 112, 108, 101, 115, 115] : List Nat).toArray⟩, .str ⟨([115, 119, 97, 112, 108, 101, 115, 115] : List Nat).toArray⟩ tk_AT_ROW_6, .ref ao_is_swapless⟩]) (zs_AT_ROW : (ad_AT_ROW == sysModules) = false)
    (ze_ACROSS : es_ACROSS.toList = [⟨hashStr w ⟨([103, 114, 111, 119, 105, 110, 103] : List Nat).toArray⟩, .str ⟨([103, 114, 111, 119, 105, 110, 103] : List Nat).toArray⟩ tk_ACROSS_0, .ref ao_ask_growing⟩, ⟨hashStr w ⟨([110, 97, 109, 101, 115] : List Nat).toArray⟩, .str ⟨([110, 97, 109, 101, 115] : List Nat).toArray⟩ tk_ACROSS_1, .ref ao_ask_names⟩, ⟨hashStr w ⟨([115, 116, 105, 108, 108] : List Nat).toArray⟩, .str ⟨([115, 116, 105, 108, 108] : List Nat).toArray⟩ tk_ACROSS_2, .ref ao_ask_still⟩, ⟨hashStr w ⟨([116, 104, 105, 110, 103, 115] : List Nat).toArray⟩, .str ⟨([116, 104, 105, 110, 103, 115] : List Nat).toArray⟩ tk_ACROSS_3, .ref ao_ask_things⟩, ⟨hashStr w ⟨([116, 111, 112, 115] : List Nat).toArray⟩, .str ⟨([116, 111, 112, 115] : List Nat).toArray⟩ tk_ACROSS_4, .ref ao_ask_tops⟩, ⟨hashStr w ⟨([116, 114, 117, 116, 104, 102, 117, 108] : List Nat).toArray⟩, .str ⟨([116, 114, 117, 116, 104, 102, 117, 108] : List Nat).toArray⟩ tk_ACROSS_5, .ref ao_ask_truthful⟩]) (zs_ACROSS : (ad_ACROSS == sysModules) = false)
    (ze_WHOLE : es_WHOLE.toList = [⟨hashStr w ⟨([110, 111, 98, 111, 115, 115] : List Nat).toArray⟩, .str ⟨([110, 111, 98, 111, 115, 115] : List Nat).toArray⟩ tk_WHOLE_0, .ref ao_has_no_boss⟩, ⟨hashStr w ⟨([111, 112, 101, 110] : List Nat).toArray⟩, .str ⟨([111, 112, 101, 110] : List Nat).toArray⟩ tk_WHOLE_1, .ref ao_is_open⟩]) (zs_WHOLE : (ad_WHOLE == sysModules) = false)
    (ze_LEAST_CLASHES : es_LEAST_CLASHES.toList = [⟨hashInt 2, .int 2 tk_LEAST_CLASHES_0, .ref at_LEAST_CLASHES_0⟩, ⟨hashInt 3, .int 3 tk_LEAST_CLASHES_1, .ref at_LEAST_CLASHES_1⟩]) (zs_LEAST_CLASHES : (ad_LEAST_CLASHES == sysModules) = false)
    (ze_LEAST_FORCING : es_LEAST_FORCING.toList = [⟨hashInt 2, .int 2 tk_LEAST_FORCING_0, .ref at_LEAST_FORCING_0⟩, ⟨hashInt 3, .int 3 tk_LEAST_FORCING_1, .ref at_LEAST_FORCING_1⟩]) (zs_LEAST_FORCING : (ad_LEAST_FORCING == sysModules) = false)
    (zt_LEAST_CLASHES_0 : K.lookup at_LEAST_CLASHES_0 = some ⟨.type "tuple", none, .seq it_LEAST_CLASHES_0 nt_LEAST_CLASHES_0, sl_LEAST_CLASHES_0⟩) (zi_LEAST_CLASHES_0 : it_LEAST_CLASHES_0.toList = [.ref at_LEAST_CLASHES_0_0, .ref at_LEAST_CLASHES_0_1, .ref at_LEAST_CLASHES_0_2, .ref at_LEAST_CLASHES_0_3, .ref at_LEAST_CLASHES_0_4, .ref at_LEAST_CLASHES_0_5, .ref at_LEAST_CLASHES_0_6, .ref at_LEAST_CLASHES_0_7, .ref at_LEAST_CLASHES_0_8, .ref at_LEAST_CLASHES_0_9])
    (zt_LEAST_CLASHES_0_0 : K.lookup at_LEAST_CLASHES_0_0 = some ⟨.type "tuple", none, .seq it_LEAST_CLASHES_0_0 nt_LEAST_CLASHES_0_0, sl_LEAST_CLASHES_0_0⟩) (zi_LEAST_CLASHES_0_0 : it_LEAST_CLASHES_0_0.toList = [.str ⟨([99, 111, 114, 101] : List Nat).toArray⟩ tt_LEAST_CLASHES_0_0_0, .str ⟨([116, 104, 105, 110, 103, 115] : List Nat).toArray⟩ tt_LEAST_CLASHES_0_0_1])
    (zt_LEAST_CLASHES_0_1 : K.lookup at_LEAST_CLASHES_0_1 = some ⟨.type "tuple", none, .seq it_LEAST_CLASHES_0_1 nt_LEAST_CLASHES_0_1, sl_LEAST_CLASHES_0_1⟩) (zi_LEAST_CLASHES_0_1 : it_LEAST_CLASHES_0_1.toList = [.str ⟨([110, 97, 109, 101, 115] : List Nat).toArray⟩ tt_LEAST_CLASHES_0_1_0, .str ⟨([116, 104, 105, 110, 103, 115] : List Nat).toArray⟩ tt_LEAST_CLASHES_0_1_1])
    (zt_LEAST_CLASHES_0_2 : K.lookup at_LEAST_CLASHES_0_2 = some ⟨.type "tuple", none, .seq it_LEAST_CLASHES_0_2 nt_LEAST_CLASHES_0_2, sl_LEAST_CLASHES_0_2⟩) (zi_LEAST_CLASHES_0_2 : it_LEAST_CLASHES_0_2.toList = [.str ⟨([111, 119, 110] : List Nat).toArray⟩ tt_LEAST_CLASHES_0_2_0, .str ⟨([116, 104, 105, 110, 103, 115] : List Nat).toArray⟩ tt_LEAST_CLASHES_0_2_1])
    (zt_LEAST_CLASHES_0_3 : K.lookup at_LEAST_CLASHES_0_3 = some ⟨.type "tuple", none, .seq it_LEAST_CLASHES_0_3 nt_LEAST_CLASHES_0_3, sl_LEAST_CLASHES_0_3⟩) (zi_LEAST_CLASHES_0_3 : it_LEAST_CLASHES_0_3.toList = [.str ⟨([98, 101, 115, 116] : List Nat).toArray⟩ tt_LEAST_CLASHES_0_3_0, .str ⟨([110, 111, 98, 111, 115, 115] : List Nat).toArray⟩ tt_LEAST_CLASHES_0_3_1, .str ⟨([116, 104, 105, 110, 103, 115] : List Nat).toArray⟩ tt_LEAST_CLASHES_0_3_2])
    (zt_LEAST_CLASHES_0_4 : K.lookup at_LEAST_CLASHES_0_4 = some ⟨.type "tuple", none, .seq it_LEAST_CLASHES_0_4 nt_LEAST_CLASHES_0_4, sl_LEAST_CLASHES_0_4⟩) (zi_LEAST_CLASHES_0_4 : it_LEAST_CLASHES_0_4.toList = [.str ⟨([102, 105, 114, 115, 116] : List Nat).toArray⟩ tt_LEAST_CLASHES_0_4_0, .str ⟨([110, 111, 98, 111, 115, 115] : List Nat).toArray⟩ tt_LEAST_CLASHES_0_4_1, .str ⟨([116, 104, 105, 110, 103, 115] : List Nat).toArray⟩ tt_LEAST_CLASHES_0_4_2])
    (zt_LEAST_CLASHES_0_5 : K.lookup at_LEAST_CLASHES_0_5 = some ⟨.type "tuple", none, .seq it_LEAST_CLASHES_0_5 nt_LEAST_CLASHES_0_5, sl_LEAST_CLASHES_0_5⟩) (zi_LEAST_CLASHES_0_5 : it_LEAST_CLASHES_0_5.toList = [.str ⟨([103, 114, 111, 119, 105, 110, 103] : List Nat).toArray⟩ tt_LEAST_CLASHES_0_5_0, .str ⟨([110, 111, 98, 111, 115, 115] : List Nat).toArray⟩ tt_LEAST_CLASHES_0_5_1, .str ⟨([116, 104, 105, 110, 103, 115] : List Nat).toArray⟩ tt_LEAST_CLASHES_0_5_2])
    (zt_LEAST_CLASHES_0_6 : K.lookup at_LEAST_CLASHES_0_6 = some ⟨.type "tuple", none, .seq it_LEAST_CLASHES_0_6 nt_LEAST_CLASHES_0_6, sl_LEAST_CLASHES_0_6⟩) (zi_LEAST_CLASHES_0_6 : it_LEAST_CLASHES_0_6.toList = [.str ⟨([110, 111, 98, 111, 115, 115] : List Nat).toArray⟩ tt_LEAST_CLASHES_0_6_0, .str ⟨([110, 111, 116, 108, 97, 115, 116] : List Nat).toArray⟩ tt_LEAST_CLASHES_0_6_1, .str ⟨([116, 104, 105, 110, 103, 115] : List Nat).toArray⟩ tt_LEAST_CLASHES_0_6_2])
    (zt_LEAST_CLASHES_0_7 : K.lookup at_LEAST_CLASHES_0_7 = some ⟨.type "tuple", none, .seq it_LEAST_CLASHES_0_7 nt_LEAST_CLASHES_0_7, sl_LEAST_CLASHES_0_7⟩) (zi_LEAST_CLASHES_0_7 : it_LEAST_CLASHES_0_7.toList = [.str ⟨([110, 111, 98, 111, 115, 115] : List Nat).toArray⟩ tt_LEAST_CLASHES_0_7_0, .str ⟨([115, 111, 108, 101] : List Nat).toArray⟩ tt_LEAST_CLASHES_0_7_1, .str ⟨([116, 104, 105, 110, 103, 115] : List Nat).toArray⟩ tt_LEAST_CLASHES_0_7_2])
    (zt_LEAST_CLASHES_0_8 : K.lookup at_LEAST_CLASHES_0_8 = some ⟨.type "tuple", none, .seq it_LEAST_CLASHES_0_8 nt_LEAST_CLASHES_0_8, sl_LEAST_CLASHES_0_8⟩) (zi_LEAST_CLASHES_0_8 : it_LEAST_CLASHES_0_8.toList = [.str ⟨([110, 111, 98, 111, 115, 115] : List Nat).toArray⟩ tt_LEAST_CLASHES_0_8_0, .str ⟨([115, 119, 97, 112, 108, 101, 115, 115] : List Nat).toArray⟩ tt_LEAST_CLASHES_0_8_1, .str ⟨([116, 104, 105, 110, 103, 115] : List Nat).toArray⟩ tt_LEAST_CLASHES_0_8_2])
    (zt_LEAST_CLASHES_0_9 : K.lookup at_LEAST_CLASHES_0_9 = some ⟨.type "tuple", none, .seq it_LEAST_CLASHES_0_9 nt_LEAST_CLASHES_0_9, sl_LEAST_CLASHES_0_9⟩) (zi_LEAST_CLASHES_0_9 : it_LEAST_CLASHES_0_9.toList = [.str ⟨([110, 111, 98, 111, 115, 115] : List Nat).toArray⟩ tt_LEAST_CLASHES_0_9_0, .str ⟨([116, 104, 105, 110, 103, 115] : List Nat).toArray⟩ tt_LEAST_CLASHES_0_9_1, .str ⟨([116, 114, 117, 116, 104, 102, 117, 108] : List Nat).toArray⟩ tt_LEAST_CLASHES_0_9_2])
    (zt_LEAST_CLASHES_1 : K.lookup at_LEAST_CLASHES_1 = some ⟨.type "tuple", none, .seq it_LEAST_CLASHES_1 nt_LEAST_CLASHES_1, sl_LEAST_CLASHES_1⟩) (zi_LEAST_CLASHES_1 : it_LEAST_CLASHES_1.toList = [.ref at_LEAST_CLASHES_1_0, .ref at_LEAST_CLASHES_1_1, .ref at_LEAST_CLASHES_1_2, .ref at_LEAST_CLASHES_1_3, .ref at_LEAST_CLASHES_1_4, .ref at_LEAST_CLASHES_1_5, .ref at_LEAST_CLASHES_1_6, .ref at_LEAST_CLASHES_1_7, .ref at_LEAST_CLASHES_1_8, .ref at_LEAST_CLASHES_1_9, .ref at_LEAST_CLASHES_1_10, .ref at_LEAST_CLASHES_1_11, .ref at_LEAST_CLASHES_1_12, .ref at_LEAST_CLASHES_1_13, .ref at_LEAST_CLASHES_1_14, .ref at_LEAST_CLASHES_1_15, .ref at_LEAST_CLASHES_1_16, .ref at_LEAST_CLASHES_1_17, .ref at_LEAST_CLASHES_1_18, .ref at_LEAST_CLASHES_1_19, .ref at_LEAST_CLASHES_1_20, .ref at_LEAST_CLASHES_1_21, .ref at_LEAST_CLASHES_1_22, .ref at_LEAST_CLASHES_1_23, .ref at_LEAST_CLASHES_1_24, .ref at_LEAST_CLASHES_1_25])
    (zt_LEAST_CLASHES_1_0 : K.lookup at_LEAST_CLASHES_1_0 = some ⟨.type "tuple", none, .seq it_LEAST_CLASHES_1_0 nt_LEAST_CLASHES_1_0, sl_LEAST_CLASHES_1_0⟩) (zi_LEAST_CLASHES_1_0 : it_LEAST_CLASHES_1_0.toList = [.str ⟨([98, 101, 115, 116] : List Nat).toArray⟩ tt_LEAST_CLASHES_1_0_0, .str ⟨([116, 111, 112, 115] : List Nat).toArray⟩ tt_LEAST_CLASHES_1_0_1])
    (zt_LEAST_CLASHES_1_1 : K.lookup at_LEAST_CLASHES_1_1 = some ⟨.type "tuple", none, .seq it_LEAST_CLASHES_1_1 nt_LEAST_CLASHES_1_1, sl_LEAST_CLASHES_1_1⟩) (zi_LEAST_CLASHES_1_1 : it_LEAST_CLASHES_1_1.toList = [.str ⟨([99, 111, 114, 101] : List Nat).toArray⟩ tt_LEAST_CLASHES_1_1_0, .str ⟨([110, 111, 116, 108, 97, 115, 116] : List Nat).toArray⟩ tt_LEAST_CLASHES_1_1_1])
    (zt_LEAST_CLASHES_1_2 : K.lookup at_LEAST_CLASHES_1_2 = some ⟨.type "tuple", none, .seq it_LEAST_CLASHES_1_2 nt_LEAST_CLASHES_1_2, sl_LEAST_CLASHES_1_2⟩) (zi_LEAST_CLASHES_1_2 : it_LEAST_CLASHES_1_2.toList = [.str ⟨([99, 111, 114, 101] : List Nat).toArray⟩ tt_LEAST_CLASHES_1_2_0, .str ⟨([115, 111, 108, 101] : List Nat).toArray⟩ tt_LEAST_CLASHES_1_2_1])
    (zt_LEAST_CLASHES_1_3 : K.lookup at_LEAST_CLASHES_1_3 = some ⟨.type "tuple", none, .seq it_LEAST_CLASHES_1_3 nt_LEAST_CLASHES_1_3, sl_LEAST_CLASHES_1_3⟩) (zi_LEAST_CLASHES_1_3 : it_LEAST_CLASHES_1_3.toList = [.str ⟨([99, 111, 114, 101] : List Nat).toArray⟩ tt_LEAST_CLASHES_1_3_0, .str ⟨([116, 104, 105, 110, 103, 115] : List Nat).toArray⟩ tt_LEAST_CLASHES_1_3_1])
    (zt_LEAST_CLASHES_1_4 : K.lookup at_LEAST_CLASHES_1_4 = some ⟨.type "tuple", none, .seq it_LEAST_CLASHES_1_4 nt_LEAST_CLASHES_1_4, sl_LEAST_CLASHES_1_4⟩) (zi_LEAST_CLASHES_1_4 : it_LEAST_CLASHES_1_4.toList = [.str ⟨([99, 111, 114, 101] : List Nat).toArray⟩ tt_LEAST_CLASHES_1_4_0, .str ⟨([116, 111, 112, 115] : List Nat).toArray⟩ tt_LEAST_CLASHES_1_4_1])
    (zt_LEAST_CLASHES_1_5 : K.lookup at_LEAST_CLASHES_1_5 = some ⟨.type "tuple", none, .seq it_LEAST_CLASHES_1_5 nt_LEAST_CLASHES_1_5, sl_LEAST_CLASHES_1_5⟩) (zi_LEAST_CLASHES_1_5 : it_LEAST_CLASHES_1_5.toList = [.str ⟨([103, 114, 111, 119, 105, 110, 103] : List Nat).toArray⟩ tt_LEAST_CLASHES_1_5_0, .str ⟨([110, 111, 116, 108, 97, 115, 116] : List Nat).toArray⟩ tt_LEAST_CLASHES_1_5_1])
    (zt_LEAST_CLASHES_1_6 : K.lookup at_LEAST_CLASHES_1_6 = some ⟨.type "tuple", none, .seq it_LEAST_CLASHES_1_6 nt_LEAST_CLASHES_1_6, sl_LEAST_CLASHES_1_6⟩) (zi_LEAST_CLASHES_1_6 : it_LEAST_CLASHES_1_6.toList = [.str ⟨([103, 114, 111, 119, 105, 110, 103] : List Nat).toArray⟩ tt_LEAST_CLASHES_1_6_0, .str ⟨([115, 111, 108, 101] : List Nat).toArray⟩ tt_LEAST_CLASHES_1_6_1])
    (zt_LEAST_CLASHES_1_7 : K.lookup at_LEAST_CLASHES_1_7 = some ⟨.type "tuple", none, .seq it_LEAST_CLASHES_1_7 nt_LEAST_CLASHES_1_7, sl_LEAST_CLASHES_1_7⟩) (zi_LEAST_CLASHES_1_7 : it_LEAST_CLASHES_1_7.toList = [.str ⟨([110, 97, 109, 101, 115] : List Nat).toArray⟩ tt_LEAST_CLASHES_1_7_0, .str ⟨([116, 104, 105, 110, 103, 115] : List Nat).toArray⟩ tt_LEAST_CLASHES_1_7_1])
    (zt_LEAST_CLASHES_1_8 : K.lookup at_LEAST_CLASHES_1_8 = some ⟨.type "tuple", none, .seq it_LEAST_CLASHES_1_8 nt_LEAST_CLASHES_1_8, sl_LEAST_CLASHES_1_8⟩) (zi_LEAST_CLASHES_1_8 : it_LEAST_CLASHES_1_8.toList = [.str ⟨([110, 111, 116, 108, 97, 115, 116] : List Nat).toArray⟩ tt_LEAST_CLASHES_1_8_0, .str ⟨([111, 119, 110] : List Nat).toArray⟩ tt_LEAST_CLASHES_1_8_1])
    (zt_LEAST_CLASHES_1_9 : K.lookup at_LEAST_CLASHES_1_9 = some ⟨.type "tuple", none, .seq it_LEAST_CLASHES_1_9 nt_LEAST_CLASHES_1_9, sl_LEAST_CLASHES_1_9⟩) (zi_LEAST_CLASHES_1_9 : it_LEAST_CLASHES_1_9.toList = [.str ⟨([110, 111, 116, 108, 97, 115, 116] : List Nat).toArray⟩ tt_LEAST_CLASHES_1_9_0, .str ⟨([115, 111, 108, 101] : List Nat).toArray⟩ tt_LEAST_CLASHES_1_9_1])
    (zt_LEAST_CLASHES_1_10 : K.lookup at_LEAST_CLASHES_1_10 = some ⟨.type "tuple", none, .seq it_LEAST_CLASHES_1_10 nt_LEAST_CLASHES_1_10, sl_LEAST_CLASHES_1_10⟩) (zi_LEAST_CLASHES_1_10 : it_LEAST_CLASHES_1_10.toList = [.str ⟨([110, 111, 116, 108, 97, 115, 116] : List Nat).toArray⟩ tt_LEAST_CLASHES_1_10_0, .str ⟨([116, 111, 112, 115] : List Nat).toArray⟩ tt_LEAST_CLASHES_1_10_1])
    (zt_LEAST_CLASHES_1_11 : K.lookup at_LEAST_CLASHES_1_11 = some ⟨.type "tuple", none, .seq it_LEAST_CLASHES_1_11 nt_LEAST_CLASHES_1_11, sl_LEAST_CLASHES_1_11⟩) (zi_LEAST_CLASHES_1_11 : it_LEAST_CLASHES_1_11.toList = [.str ⟨([110, 111, 116, 108, 97, 115, 116] : List Nat).toArray⟩ tt_LEAST_CLASHES_1_11_0, .str ⟨([116, 114, 117, 116, 104, 102, 117, 108] : List Nat).toArray⟩ tt_LEAST_CLASHES_1_11_1])
    (zt_LEAST_CLASHES_1_12 : K.lookup at_LEAST_CLASHES_1_12 = some ⟨.type "tuple", none, .seq it_LEAST_CLASHES_1_12 nt_LEAST_CLASHES_1_12, sl_LEAST_CLASHES_1_12⟩) (zi_LEAST_CLASHES_1_12 : it_LEAST_CLASHES_1_12.toList = [.str ⟨([111, 119, 110] : List Nat).toArray⟩ tt_LEAST_CLASHES_1_12_0, .str ⟨([115, 111, 108, 101] : List Nat).toArray⟩ tt_LEAST_CLASHES_1_12_1])
    (zt_LEAST_CLASHES_1_13 : K.lookup at_LEAST_CLASHES_1_13 = some ⟨.type "tuple", none, .seq it_LEAST_CLASHES_1_13 nt_LEAST_CLASHES_1_13, sl_LEAST_CLASHES_1_13⟩) (zi_LEAST_CLASHES_1_13 : it_LEAST_CLASHES_1_13.toList = [.str ⟨([111, 119, 110] : List Nat).toArray⟩ tt_LEAST_CLASHES_1_13_0, .str ⟨([116, 104, 105, 110, 103, 115] : List Nat).toArray⟩ tt_LEAST_CLASHES_1_13_1])
    (zt_LEAST_CLASHES_1_14 : K.lookup at_LEAST_CLASHES_1_14 = some ⟨.type "tuple", none, .seq it_LEAST_CLASHES_1_14 nt_LEAST_CLASHES_1_14, sl_LEAST_CLASHES_1_14⟩) (zi_LEAST_CLASHES_1_14 : it_LEAST_CLASHES_1_14.toList = [.str ⟨([115, 111, 108, 101] : List Nat).toArray⟩ tt_LEAST_CLASHES_1_14_0, .str ⟨([116, 114, 117, 116, 104, 102, 117, 108] : List Nat).toArray⟩ tt_LEAST_CLASHES_1_14_1])
    (zt_LEAST_CLASHES_1_15 : K.lookup at_LEAST_CLASHES_1_15 = some ⟨.type "tuple", none, .seq it_LEAST_CLASHES_1_15 nt_LEAST_CLASHES_1_15, sl_LEAST_CLASHES_1_15⟩) (zi_LEAST_CLASHES_1_15 : it_LEAST_CLASHES_1_15.toList = [.str ⟨([115, 119, 97, 112, 108, 101, 115, 115] : List Nat).toArray⟩ tt_LEAST_CLASHES_1_15_0, .str ⟨([116, 111, 112, 115] : List Nat).toArray⟩ tt_LEAST_CLASHES_1_15_1])
    (zt_LEAST_CLASHES_1_16 : K.lookup at_LEAST_CLASHES_1_16 = some ⟨.type "tuple", none, .seq it_LEAST_CLASHES_1_16 nt_LEAST_CLASHES_1_16, sl_LEAST_CLASHES_1_16⟩) (zi_LEAST_CLASHES_1_16 : it_LEAST_CLASHES_1_16.toList = [.str ⟨([116, 104, 105, 110, 103, 115] : List Nat).toArray⟩ tt_LEAST_CLASHES_1_16_0, .str ⟨([116, 111, 112, 115] : List Nat).toArray⟩ tt_LEAST_CLASHES_1_16_1])
    (zt_LEAST_CLASHES_1_17 : K.lookup at_LEAST_CLASHES_1_17 = some ⟨.type "tuple", none, .seq it_LEAST_CLASHES_1_17 nt_LEAST_CLASHES_1_17, sl_LEAST_CLASHES_1_17⟩) (zi_LEAST_CLASHES_1_17 : it_LEAST_CLASHES_1_17.toList = [.str ⟨([102, 105, 114, 115, 116] : List Nat).toArray⟩ tt_LEAST_CLASHES_1_17_0, .str ⟨([103, 114, 111, 119, 105, 110, 103] : List Nat).toArray⟩ tt_LEAST_CLASHES_1_17_1, .str ⟨([116, 111, 112, 115] : List Nat).toArray⟩ tt_LEAST_CLASHES_1_17_2])
    (zt_LEAST_CLASHES_1_18 : K.lookup at_LEAST_CLASHES_1_18 = some ⟨.type "tuple", none, .seq it_LEAST_CLASHES_1_18 nt_LEAST_CLASHES_1_18, sl_LEAST_CLASHES_1_18⟩) (zi_LEAST_CLASHES_1_18 : it_LEAST_CLASHES_1_18.toList = [.str ⟨([102, 105, 114, 115, 116] : List Nat).toArray⟩ tt_LEAST_CLASHES_1_18_0, .str ⟨([116, 111, 112, 115] : List Nat).toArray⟩ tt_LEAST_CLASHES_1_18_1, .str ⟨([116, 114, 117, 116, 104, 102, 117, 108] : List Nat).toArray⟩ tt_LEAST_CLASHES_1_18_2])
    (zt_LEAST_CLASHES_1_19 : K.lookup at_LEAST_CLASHES_1_19 = some ⟨.type "tuple", none, .seq it_LEAST_CLASHES_1_19 nt_LEAST_CLASHES_1_19, sl_LEAST_CLASHES_1_19⟩) (zi_LEAST_CLASHES_1_19 : it_LEAST_CLASHES_1_19.toList = [.str ⟨([103, 114, 111, 119, 105, 110, 103] : List Nat).toArray⟩ tt_LEAST_CLASHES_1_19_0, .str ⟨([110, 111, 98, 111, 115, 115] : List Nat).toArray⟩ tt_LEAST_CLASHES_1_19_1, .str ⟨([116, 104, 105, 110, 103, 115] : List Nat).toArray⟩ tt_LEAST_CLASHES_1_19_2])
    (zt_LEAST_CLASHES_1_20 : K.lookup at_LEAST_CLASHES_1_20 = some ⟨.type "tuple", none, .seq it_LEAST_CLASHES_1_20 nt_LEAST_CLASHES_1_20, sl_LEAST_CLASHES_1_20⟩) (zi_LEAST_CLASHES_1_20 : it_LEAST_CLASHES_1_20.toList = [.str ⟨([103, 114, 111, 119, 105, 110, 103] : List Nat).toArray⟩ tt_LEAST_CLASHES_1_20_0, .str ⟨([111, 112, 101, 110] : List Nat).toArray⟩ tt_LEAST_CLASHES_1_20_1, .str ⟨([116, 111, 112, 115] : List Nat).toArray⟩ tt_LEAST_CLASHES_1_20_2])
    (zt_LEAST_CLASHES_1_21 : K.lookup at_LEAST_CLASHES_1_21 = some ⟨.type "tuple", none, .seq it_LEAST_CLASHES_1_21 nt_LEAST_CLASHES_1_21, sl_LEAST_CLASHES_1_21⟩) (zi_LEAST_CLASHES_1_21 : it_LEAST_CLASHES_1_21.toList = [.str ⟨([98, 101, 115, 116] : List Nat).toArray⟩ tt_LEAST_CLASHES_1_21_0, .str ⟨([110, 111, 98, 111, 115, 115] : List Nat).toArray⟩ tt_LEAST_CLASHES_1_21_1, .str ⟨([116, 104, 105, 110, 103, 115] : List Nat).toArray⟩ tt_LEAST_CLASHES_1_21_2, .str ⟨([116, 114, 117, 116, 104, 102, 117, 108] : List Nat).toArray⟩ tt_LEAST_CLASHES_1_21_3])
    (zt_LEAST_CLASHES_1_22 : K.lookup at_LEAST_CLASHES_1_22 = some ⟨.type "tuple", none, .seq it_LEAST_CLASHES_1_22 nt_LEAST_CLASHES_1_22, sl_LEAST_CLASHES_1_22⟩) (zi_LEAST_CLASHES_1_22 : it_LEAST_CLASHES_1_22.toList = [.str ⟨([102, 105, 114, 115, 116] : List Nat).toArray⟩ tt_LEAST_CLASHES_1_22_0, .str ⟨([110, 111, 98, 111, 115, 115] : List Nat).toArray⟩ tt_LEAST_CLASHES_1_22_1, .str ⟨([116, 104, 105, 110, 103, 115] : List Nat).toArray⟩ tt_LEAST_CLASHES_1_22_2, .str ⟨([116, 114, 117, 116, 104, 102, 117, 108] : List Nat).toArray⟩ tt_LEAST_CLASHES_1_22_3])
    (zt_LEAST_CLASHES_1_23 : K.lookup at_LEAST_CLASHES_1_23 = some ⟨.type "tuple", none, .seq it_LEAST_CLASHES_1_23 nt_LEAST_CLASHES_1_23, sl_LEAST_CLASHES_1_23⟩) (zi_LEAST_CLASHES_1_23 : it_LEAST_CLASHES_1_23.toList = [.str ⟨([110, 111, 98, 111, 115, 115] : List Nat).toArray⟩ tt_LEAST_CLASHES_1_23_0, .str ⟨([115, 116, 105, 108, 108] : List Nat).toArray⟩ tt_LEAST_CLASHES_1_23_1, .str ⟨([116, 104, 105, 110, 103, 115] : List Nat).toArray⟩ tt_LEAST_CLASHES_1_23_2, .str ⟨([116, 114, 117, 116, 104, 102, 117, 108] : List Nat).toArray⟩ tt_LEAST_CLASHES_1_23_3])
    (zt_LEAST_CLASHES_1_24 : K.lookup at_LEAST_CLASHES_1_24 = some ⟨.type "tuple", none, .seq it_LEAST_CLASHES_1_24 nt_LEAST_CLASHES_1_24, sl_LEAST_CLASHES_1_24⟩) (zi_LEAST_CLASHES_1_24 : it_LEAST_CLASHES_1_24.toList = [.str ⟨([110, 111, 98, 111, 115, 115] : List Nat).toArray⟩ tt_LEAST_CLASHES_1_24_0, .str ⟨([115, 119, 97, 112, 108, 101, 115, 115] : List Nat).toArray⟩ tt_LEAST_CLASHES_1_24_1, .str ⟨([116, 104, 105, 110, 103, 115] : List Nat).toArray⟩ tt_LEAST_CLASHES_1_24_2, .str ⟨([116, 114, 117, 116, 104, 102, 117, 108] : List Nat).toArray⟩ tt_LEAST_CLASHES_1_24_3])
    (zt_LEAST_CLASHES_1_25 : K.lookup at_LEAST_CLASHES_1_25 = some ⟨.type "tuple", none, .seq it_LEAST_CLASHES_1_25 nt_LEAST_CLASHES_1_25, sl_LEAST_CLASHES_1_25⟩) (zi_LEAST_CLASHES_1_25 : it_LEAST_CLASHES_1_25.toList = [.str ⟨([111, 112, 101, 110] : List Nat).toArray⟩ tt_LEAST_CLASHES_1_25_0, .str ⟨([115, 116, 105, 108, 108] : List Nat).toArray⟩ tt_LEAST_CLASHES_1_25_1, .str ⟨([116, 111, 112, 115] : List Nat).toArray⟩ tt_LEAST_CLASHES_1_25_2, .str ⟨([116, 114, 117, 116, 104, 102, 117, 108] : List Nat).toArray⟩ tt_LEAST_CLASHES_1_25_3])
    (zt_LEAST_FORCING_0 : K.lookup at_LEAST_FORCING_0 = some ⟨.type "tuple", none, .seq it_LEAST_FORCING_0 nt_LEAST_FORCING_0, sl_LEAST_FORCING_0⟩) (zi_LEAST_FORCING_0 : it_LEAST_FORCING_0.toList = [.ref at_LEAST_FORCING_0_0, .ref at_LEAST_FORCING_0_1, .ref at_LEAST_FORCING_0_2, .ref at_LEAST_FORCING_0_3, .ref at_LEAST_FORCING_0_4, .ref at_LEAST_FORCING_0_5, .ref at_LEAST_FORCING_0_6])
    (zt_LEAST_FORCING_0_0 : K.lookup at_LEAST_FORCING_0_0 = some ⟨.type "tuple", none, .seq it_LEAST_FORCING_0_0 nt_LEAST_FORCING_0_0, sl_LEAST_FORCING_0_0⟩) (zi_LEAST_FORCING_0_0 : it_LEAST_FORCING_0_0.toList = [.str ⟨([99, 111, 114, 101] : List Nat).toArray⟩ tt_LEAST_FORCING_0_0_0])
    (zt_LEAST_FORCING_0_1 : K.lookup at_LEAST_FORCING_0_1 = some ⟨.type "tuple", none, .seq it_LEAST_FORCING_0_1 nt_LEAST_FORCING_0_1, sl_LEAST_FORCING_0_1⟩) (zi_LEAST_FORCING_0_1 : it_LEAST_FORCING_0_1.toList = [.str ⟨([98, 101, 115, 116] : List Nat).toArray⟩ tt_LEAST_FORCING_0_1_0, .str ⟨([111, 119, 110] : List Nat).toArray⟩ tt_LEAST_FORCING_0_1_1])
    (zt_LEAST_FORCING_0_2 : K.lookup at_LEAST_FORCING_0_2 = some ⟨.type "tuple", none, .seq it_LEAST_FORCING_0_2 nt_LEAST_FORCING_0_2, sl_LEAST_FORCING_0_2⟩) (zi_LEAST_FORCING_0_2 : it_LEAST_FORCING_0_2.toList = [.str ⟨([102, 105, 114, 115, 116] : List Nat).toArray⟩ tt_LEAST_FORCING_0_2_0, .str ⟨([111, 119, 110] : List Nat).toArray⟩ tt_LEAST_FORCING_0_2_1])
    (zt_LEAST_FORCING_0_3 : K.lookup at_LEAST_FORCING_0_3 = some ⟨.type "tuple", none, .seq it_LEAST_FORCING_0_3 nt_LEAST_FORCING_0_3, sl_LEAST_FORCING_0_3⟩) (zi_LEAST_FORCING_0_3 : it_LEAST_FORCING_0_3.toList = [.str ⟨([110, 111, 116, 108, 97, 115, 116] : List Nat).toArray⟩ tt_LEAST_FORCING_0_3_0, .str ⟨([111, 119, 110] : List Nat).toArray⟩ tt_LEAST_FORCING_0_3_1])
    (zt_LEAST_FORCING_0_4 : K.lookup at_LEAST_FORCING_0_4 = some ⟨.type "tuple", none, .seq it_LEAST_FORCING_0_4 nt_LEAST_FORCING_0_4, sl_LEAST_FORCING_0_4⟩) (zi_LEAST_FORCING_0_4 : it_LEAST_FORCING_0_4.toList = [.str ⟨([111, 112, 101, 110] : List Nat).toArray⟩ tt_LEAST_FORCING_0_4_0, .str ⟨([111, 119, 110] : List Nat).toArray⟩ tt_LEAST_FORCING_0_4_1])
    (zt_LEAST_FORCING_0_5 : K.lookup at_LEAST_FORCING_0_5 = some ⟨.type "tuple", none, .seq it_LEAST_FORCING_0_5 nt_LEAST_FORCING_0_5, sl_LEAST_FORCING_0_5⟩) (zi_LEAST_FORCING_0_5 : it_LEAST_FORCING_0_5.toList = [.str ⟨([111, 119, 110] : List Nat).toArray⟩ tt_LEAST_FORCING_0_5_0, .str ⟨([115, 111, 108, 101] : List Nat).toArray⟩ tt_LEAST_FORCING_0_5_1])
    (zt_LEAST_FORCING_0_6 : K.lookup at_LEAST_FORCING_0_6 = some ⟨.type "tuple", none, .seq it_LEAST_FORCING_0_6 nt_LEAST_FORCING_0_6, sl_LEAST_FORCING_0_6⟩) (zi_LEAST_FORCING_0_6 : it_LEAST_FORCING_0_6.toList = [.str ⟨([111, 119, 110] : List Nat).toArray⟩ tt_LEAST_FORCING_0_6_0, .str ⟨([115, 119, 97, 112, 108, 101, 115, 115] : List Nat).toArray⟩ tt_LEAST_FORCING_0_6_1])
    (zt_LEAST_FORCING_1 : K.lookup at_LEAST_FORCING_1 = some ⟨.type "tuple", none, .seq it_LEAST_FORCING_1 nt_LEAST_FORCING_1, sl_LEAST_FORCING_1⟩) (zi_LEAST_FORCING_1 : it_LEAST_FORCING_1.toList = [.ref at_LEAST_FORCING_1_0, .ref at_LEAST_FORCING_1_1, .ref at_LEAST_FORCING_1_2, .ref at_LEAST_FORCING_1_3, .ref at_LEAST_FORCING_1_4, .ref at_LEAST_FORCING_1_5, .ref at_LEAST_FORCING_1_6, .ref at_LEAST_FORCING_1_7, .ref at_LEAST_FORCING_1_8, .ref at_LEAST_FORCING_1_9, .ref at_LEAST_FORCING_1_10, .ref at_LEAST_FORCING_1_11, .ref at_LEAST_FORCING_1_12, .ref at_LEAST_FORCING_1_13, .ref at_LEAST_FORCING_1_14, .ref at_LEAST_FORCING_1_15, .ref at_LEAST_FORCING_1_16])
    (zt_LEAST_FORCING_1_0 : K.lookup at_LEAST_FORCING_1_0 = some ⟨.type "tuple", none, .seq it_LEAST_FORCING_1_0 nt_LEAST_FORCING_1_0, sl_LEAST_FORCING_1_0⟩) (zi_LEAST_FORCING_1_0 : it_LEAST_FORCING_1_0.toList = [.str ⟨([99, 111, 114, 101] : List Nat).toArray⟩ tt_LEAST_FORCING_1_0_0])
    (zt_LEAST_FORCING_1_1 : K.lookup at_LEAST_FORCING_1_1 = some ⟨.type "tuple", none, .seq it_LEAST_FORCING_1_1 nt_LEAST_FORCING_1_1, sl_LEAST_FORCING_1_1⟩) (zi_LEAST_FORCING_1_1 : it_LEAST_FORCING_1_1.toList = [.str ⟨([98, 101, 115, 116] : List Nat).toArray⟩ tt_LEAST_FORCING_1_1_0, .str ⟨([103, 114, 111, 119, 105, 110, 103] : List Nat).toArray⟩ tt_LEAST_FORCING_1_1_1, .str ⟨([111, 119, 110] : List Nat).toArray⟩ tt_LEAST_FORCING_1_1_2])
    (zt_LEAST_FORCING_1_2 : K.lookup at_LEAST_FORCING_1_2 = some ⟨.type "tuple", none, .seq it_LEAST_FORCING_1_2 nt_LEAST_FORCING_1_2, sl_LEAST_FORCING_1_2⟩) (zi_LEAST_FORCING_1_2 : it_LEAST_FORCING_1_2.toList = [.str ⟨([98, 101, 115, 116] : List Nat).toArray⟩ tt_LEAST_FORCING_1_2_0, .str ⟨([111, 119, 110] : List Nat).toArray⟩ tt_LEAST_FORCING_1_2_1, .str ⟨([116, 114, 117, 116, 104, 102, 117, 108] : List Nat).toArray⟩ tt_LEAST_FORCING_1_2_2])
    (zt_LEAST_FORCING_1_3 : K.lookup at_LEAST_FORCING_1_3 = some ⟨.type "tuple", none, .seq it_LEAST_FORCING_1_3 nt_LEAST_FORCING_1_3, sl_LEAST_FORCING_1_3⟩) (zi_LEAST_FORCING_1_3 : it_LEAST_FORCING_1_3.toList = [.str ⟨([102, 105, 114, 115, 116] : List Nat).toArray⟩ tt_LEAST_FORCING_1_3_0, .str ⟨([103, 114, 111, 119, 105, 110, 103] : List Nat).toArray⟩ tt_LEAST_FORCING_1_3_1, .str ⟨([111, 119, 110] : List Nat).toArray⟩ tt_LEAST_FORCING_1_3_2])
    (zt_LEAST_FORCING_1_4 : K.lookup at_LEAST_FORCING_1_4 = some ⟨.type "tuple", none, .seq it_LEAST_FORCING_1_4 nt_LEAST_FORCING_1_4, sl_LEAST_FORCING_1_4⟩) (zi_LEAST_FORCING_1_4 : it_LEAST_FORCING_1_4.toList = [.str ⟨([103, 114, 111, 119, 105, 110, 103] : List Nat).toArray⟩ tt_LEAST_FORCING_1_4_0, .str ⟨([110, 97, 109, 101, 115] : List Nat).toArray⟩ tt_LEAST_FORCING_1_4_1, .str ⟨([116, 111, 112, 115] : List Nat).toArray⟩ tt_LEAST_FORCING_1_4_2])
    (zt_LEAST_FORCING_1_5 : K.lookup at_LEAST_FORCING_1_5 = some ⟨.type "tuple", none, .seq it_LEAST_FORCING_1_5 nt_LEAST_FORCING_1_5, sl_LEAST_FORCING_1_5⟩) (zi_LEAST_FORCING_1_5 : it_LEAST_FORCING_1_5.toList = [.str ⟨([103, 114, 111, 119, 105, 110, 103] : List Nat).toArray⟩ tt_LEAST_FORCING_1_5_0, .str ⟨([111, 112, 101, 110] : List Nat).toArray⟩ tt_LEAST_FORCING_1_5_1, .str ⟨([111, 119, 110] : List Nat).toArray⟩ tt_LEAST_FORCING_1_5_2])
    (zt_LEAST_FORCING_1_6 : K.lookup at_LEAST_FORCING_1_6 = some ⟨.type "tuple", none, .seq it_LEAST_FORCING_1_6 nt_LEAST_FORCING_1_6, sl_LEAST_FORCING_1_6⟩) (zi_LEAST_FORCING_1_6 : it_LEAST_FORCING_1_6.toList = [.str ⟨([103, 114, 111, 119, 105, 110, 103] : List Nat).toArray⟩ tt_LEAST_FORCING_1_6_0, .str ⟨([111, 119, 110] : List Nat).toArray⟩ tt_LEAST_FORCING_1_6_1, .str ⟨([115, 119, 97, 112, 108, 101, 115, 115] : List Nat).toArray⟩ tt_LEAST_FORCING_1_6_2])
    (zt_LEAST_FORCING_1_7 : K.lookup at_LEAST_FORCING_1_7 = some ⟨.type "tuple", none, .seq it_LEAST_FORCING_1_7 nt_LEAST_FORCING_1_7, sl_LEAST_FORCING_1_7⟩) (zi_LEAST_FORCING_1_7 : it_LEAST_FORCING_1_7.toList = [.str ⟨([103, 114, 111, 119, 105, 110, 103] : List Nat).toArray⟩ tt_LEAST_FORCING_1_7_0, .str ⟨([111, 119, 110] : List Nat).toArray⟩ tt_LEAST_FORCING_1_7_1, .str ⟨([116, 111, 112, 115] : List Nat).toArray⟩ tt_LEAST_FORCING_1_7_2])
    (zt_LEAST_FORCING_1_8 : K.lookup at_LEAST_FORCING_1_8 = some ⟨.type "tuple", none, .seq it_LEAST_FORCING_1_8 nt_LEAST_FORCING_1_8, sl_LEAST_FORCING_1_8⟩) (zi_LEAST_FORCING_1_8 : it_LEAST_FORCING_1_8.toList = [.str ⟨([111, 119, 110] : List Nat).toArray⟩ tt_LEAST_FORCING_1_8_0, .str ⟨([115, 119, 97, 112, 108, 101, 115, 115] : List Nat).toArray⟩ tt_LEAST_FORCING_1_8_1, .str ⟨([116, 114, 117, 116, 104, 102, 117, 108] : List Nat).toArray⟩ tt_LEAST_FORCING_1_8_2])
    (zt_LEAST_FORCING_1_9 : K.lookup at_LEAST_FORCING_1_9 = some ⟨.type "tuple", none, .seq it_LEAST_FORCING_1_9 nt_LEAST_FORCING_1_9, sl_LEAST_FORCING_1_9⟩) (zi_LEAST_FORCING_1_9 : it_LEAST_FORCING_1_9.toList = [.str ⟨([102, 105, 114, 115, 116] : List Nat).toArray⟩ tt_LEAST_FORCING_1_9_0, .str ⟨([110, 97, 109, 101, 115] : List Nat).toArray⟩ tt_LEAST_FORCING_1_9_1, .str ⟨([111, 119, 110] : List Nat).toArray⟩ tt_LEAST_FORCING_1_9_2, .str ⟨([116, 114, 117, 116, 104, 102, 117, 108] : List Nat).toArray⟩ tt_LEAST_FORCING_1_9_3])
    (zt_LEAST_FORCING_1_10 : K.lookup at_LEAST_FORCING_1_10 = some ⟨.type "tuple", none, .seq it_LEAST_FORCING_1_10 nt_LEAST_FORCING_1_10, sl_LEAST_FORCING_1_10⟩) (zi_LEAST_FORCING_1_10 : it_LEAST_FORCING_1_10.toList = [.str ⟨([102, 105, 114, 115, 116] : List Nat).toArray⟩ tt_LEAST_FORCING_1_10_0, .str ⟨([111, 119, 110] : List Nat).toArray⟩ tt_LEAST_FORCING_1_10_1, .str ⟨([115, 116, 105, 108, 108] : List Nat).toArray⟩ tt_LEAST_FORCING_1_10_2, .str ⟨([116, 111, 112, 115] : List Nat).toArray⟩ tt_LEAST_FORCING_1_10_3])
    (zt_LEAST_FORCING_1_11 : K.lookup at_LEAST_FORCING_1_11 = some ⟨.type "tuple", none, .seq it_LEAST_FORCING_1_11 nt_LEAST_FORCING_1_11, sl_LEAST_FORCING_1_11⟩) (zi_LEAST_FORCING_1_11 : it_LEAST_FORCING_1_11.toList = [.str ⟨([102, 105, 114, 115, 116] : List Nat).toArray⟩ tt_LEAST_FORCING_1_11_0, .str ⟨([111, 119, 110] : List Nat).toArray⟩ tt_LEAST_FORCING_1_11_1, .str ⟨([115, 116, 105, 108, 108] : List Nat).toArray⟩ tt_LEAST_FORCING_1_11_2, .str ⟨([116, 114, 117, 116, 104, 102, 117, 108] : List Nat).toArray⟩ tt_LEAST_FORCING_1_11_3])
    (zt_LEAST_FORCING_1_12 : K.lookup at_LEAST_FORCING_1_12 = some ⟨.type "tuple", none, .seq it_LEAST_FORCING_1_12 nt_LEAST_FORCING_1_12, sl_LEAST_FORCING_1_12⟩) (zi_LEAST_FORCING_1_12 : it_LEAST_FORCING_1_12.toList = [.str ⟨([110, 97, 109, 101, 115] : List Nat).toArray⟩ tt_LEAST_FORCING_1_12_0, .str ⟨([115, 116, 105, 108, 108] : List Nat).toArray⟩ tt_LEAST_FORCING_1_12_1, .str ⟨([116, 111, 112, 115] : List Nat).toArray⟩ tt_LEAST_FORCING_1_12_2, .str ⟨([116, 114, 117, 116, 104, 102, 117, 108] : List Nat).toArray⟩ tt_LEAST_FORCING_1_12_3])
    (zt_LEAST_FORCING_1_13 : K.lookup at_LEAST_FORCING_1_13 = some ⟨.type "tuple", none, .seq it_LEAST_FORCING_1_13 nt_LEAST_FORCING_1_13, sl_LEAST_FORCING_1_13⟩) (zi_LEAST_FORCING_1_13 : it_LEAST_FORCING_1_13.toList = [.str ⟨([111, 112, 101, 110] : List Nat).toArray⟩ tt_LEAST_FORCING_1_13_0, .str ⟨([111, 119, 110] : List Nat).toArray⟩ tt_LEAST_FORCING_1_13_1, .str ⟨([115, 116, 105, 108, 108] : List Nat).toArray⟩ tt_LEAST_FORCING_1_13_2, .str ⟨([116, 111, 112, 115] : List Nat).toArray⟩ tt_LEAST_FORCING_1_13_3])
    (zt_LEAST_FORCING_1_14 : K.lookup at_LEAST_FORCING_1_14 = some ⟨.type "tuple", none, .seq it_LEAST_FORCING_1_14 nt_LEAST_FORCING_1_14, sl_LEAST_FORCING_1_14⟩) (zi_LEAST_FORCING_1_14 : it_LEAST_FORCING_1_14.toList = [.str ⟨([111, 112, 101, 110] : List Nat).toArray⟩ tt_LEAST_FORCING_1_14_0, .str ⟨([111, 119, 110] : List Nat).toArray⟩ tt_LEAST_FORCING_1_14_1, .str ⟨([115, 116, 105, 108, 108] : List Nat).toArray⟩ tt_LEAST_FORCING_1_14_2, .str ⟨([116, 114, 117, 116, 104, 102, 117, 108] : List Nat).toArray⟩ tt_LEAST_FORCING_1_14_3])
    (zt_LEAST_FORCING_1_15 : K.lookup at_LEAST_FORCING_1_15 = some ⟨.type "tuple", none, .seq it_LEAST_FORCING_1_15 nt_LEAST_FORCING_1_15, sl_LEAST_FORCING_1_15⟩) (zi_LEAST_FORCING_1_15 : it_LEAST_FORCING_1_15.toList = [.str ⟨([111, 112, 101, 110] : List Nat).toArray⟩ tt_LEAST_FORCING_1_15_0, .str ⟨([111, 119, 110] : List Nat).toArray⟩ tt_LEAST_FORCING_1_15_1, .str ⟨([116, 111, 112, 115] : List Nat).toArray⟩ tt_LEAST_FORCING_1_15_2, .str ⟨([116, 114, 117, 116, 104, 102, 117, 108] : List Nat).toArray⟩ tt_LEAST_FORCING_1_15_3])
    (zt_LEAST_FORCING_1_16 : K.lookup at_LEAST_FORCING_1_16 = some ⟨.type "tuple", none, .seq it_LEAST_FORCING_1_16 nt_LEAST_FORCING_1_16, sl_LEAST_FORCING_1_16⟩) (zi_LEAST_FORCING_1_16 : it_LEAST_FORCING_1_16.toList = [.str ⟨([111, 119, 110] : List Nat).toArray⟩ tt_LEAST_FORCING_1_16_0, .str ⟨([115, 116, 105, 108, 108] : List Nat).toArray⟩ tt_LEAST_FORCING_1_16_1, .str ⟨([116, 111, 112, 115] : List Nat).toArray⟩ tt_LEAST_FORCING_1_16_2, .str ⟨([116, 114, 117, 116, 104, 102, 117, 108] : List Nat).toArray⟩ tt_LEAST_FORCING_1_16_3]) :
    ∃ fd : FuncData, (∀ (s : Shared) (v : Value), BindsTo s fd ⟨[v], []⟩ [("script", v)]) ∧ ∀ base : Heap, K.In base → base.Ns mainGlobals mg → FnOk l.prog w K mg base CX0 10 fa fd ["script"] (spLaw K) := by
  have e := hfa.symm.trans (PySem.W.mg_of X G m_law_)
  cases e
  have S_LEAST_FORCING_1_16 := stT_of zt_LEAST_FORCING_1_16 zi_LEAST_FORCING_1_16 rfl (show Vals [.str ⟨([111, 119, 110] : List Nat).toArray⟩, .str ⟨([115, 116, 105, 108, 108] : List Nat).toArray⟩, .str ⟨([116, 111, 112, 115] : List Nat).toArray⟩, .str ⟨([116, 114, 117, 116, 104, 102, 117, 108] : List Nat).toArray⟩] _ from (.cons ⟨_, rfl⟩ (.cons ⟨_, rfl⟩ (.cons ⟨_, rfl⟩ (.cons ⟨_, rfl⟩ .nil)))))
  have S_LEAST_FORCING_1_15 := stT_of zt_LEAST_FORCING_1_15 zi_LEAST_FORCING_1_15 rfl (show Vals [.str ⟨([111, 112, 101, 110] : List Nat).toArray⟩, .str ⟨([111, 119, 110] : List Nat).toArray⟩, .str ⟨([116, 111, 112, 115] : List Nat).toArray⟩, .str ⟨([116, 114, 117, 116, 104, 102, 117, 108] : List Nat).toArray⟩] _ from (.cons ⟨_, rfl⟩ (.cons ⟨_, rfl⟩ (.cons ⟨_, rfl⟩ (.cons ⟨_, rfl⟩ .nil)))))
  have S_LEAST_FORCING_1_14 := stT_of zt_LEAST_FORCING_1_14 zi_LEAST_FORCING_1_14 rfl (show Vals [.str ⟨([111, 112, 101, 110] : List Nat).toArray⟩, .str ⟨([111, 119, 110] : List Nat).toArray⟩, .str ⟨([115, 116, 105, 108, 108] : List Nat).toArray⟩, .str ⟨([116, 114, 117, 116, 104, 102, 117, 108] : List Nat).toArray⟩] _ from (.cons ⟨_, rfl⟩ (.cons ⟨_, rfl⟩ (.cons ⟨_, rfl⟩ (.cons ⟨_, rfl⟩ .nil)))))
  have S_LEAST_FORCING_1_13 := stT_of zt_LEAST_FORCING_1_13 zi_LEAST_FORCING_1_13 rfl (show Vals [.str ⟨([111, 112, 101, 110] : List Nat).toArray⟩, .str ⟨([111, 119, 110] : List Nat).toArray⟩, .str ⟨([115, 116, 105, 108, 108] : List Nat).toArray⟩, .str ⟨([116, 111, 112, 115] : List Nat).toArray⟩] _ from (.cons ⟨_, rfl⟩ (.cons ⟨_, rfl⟩ (.cons ⟨_, rfl⟩ (.cons ⟨_, rfl⟩ .nil)))))
  have S_LEAST_FORCING_1_12 := stT_of zt_LEAST_FORCING_1_12 zi_LEAST_FORCING_1_12 rfl (show Vals [.str ⟨([110, 97, 109, 101, 115] : List Nat).toArray⟩, .str ⟨([115, 116, 105, 108, 108] : List Nat).toArray⟩, .str ⟨([116, 111, 112, 115] : List Nat).toArray⟩, .str ⟨([116, 114, 117, 116, 104, 102, 117, 108] : List Nat).toArray⟩] _ from (.cons ⟨_, rfl⟩ (.cons ⟨_, rfl⟩ (.cons ⟨_, rfl⟩ (.cons ⟨_, rfl⟩ .nil)))))
  have S_LEAST_FORCING_1_11 := stT_of zt_LEAST_FORCING_1_11 zi_LEAST_FORCING_1_11 rfl (show Vals [.str ⟨([102, 105, 114, 115, 116] : List Nat).toArray⟩, .str ⟨([111, 119, 110] : List Nat).toArray⟩, .str ⟨([115, 116, 105, 108, 108] : List Nat).toArray⟩, .str ⟨([116, 114, 117, 116, 104, 102, 117, 108] : List Nat).toArray⟩] _ from (.cons ⟨_, rfl⟩ (.cons ⟨_, rfl⟩ (.cons ⟨_, rfl⟩ (.cons ⟨_, rfl⟩ .nil)))))
  have S_LEAST_FORCING_1_10 := stT_of zt_LEAST_FORCING_1_10 zi_LEAST_FORCING_1_10 rfl (show Vals [.str ⟨([102, 105, 114, 115, 116] : List Nat).toArray⟩, .str ⟨([111, 119, 110] : List Nat).toArray⟩, .str ⟨([115, 116, 105, 108, 108] : List Nat).toArray⟩, .str ⟨([116, 111, 112, 115] : List Nat).toArray⟩] _ from (.cons ⟨_, rfl⟩ (.cons ⟨_, rfl⟩ (.cons ⟨_, rfl⟩ (.cons ⟨_, rfl⟩ .nil)))))
  have S_LEAST_FORCING_1_9 := stT_of zt_LEAST_FORCING_1_9 zi_LEAST_FORCING_1_9 rfl (show Vals [.str ⟨([102, 105, 114, 115, 116] : List Nat).toArray⟩, .str ⟨([110, 97, 109, 101, 115] : List Nat).toArray⟩, .str ⟨([111, 119, 110] : List Nat).toArray⟩, .str ⟨([116, 114, 117, 116, 104, 102, 117, 108] : List Nat).toArray⟩] _ from (.cons ⟨_, rfl⟩ (.cons ⟨_, rfl⟩ (.cons ⟨_, rfl⟩ (.cons ⟨_, rfl⟩ .nil)))))
  have S_LEAST_FORCING_1_8 := stT_of zt_LEAST_FORCING_1_8 zi_LEAST_FORCING_1_8 rfl (show Vals [.str ⟨([111, 119, 110] : List Nat).toArray⟩, .str ⟨([115, 119, 97, 112, 108, 101, 115, 115] : List Nat).toArray⟩, .str ⟨([116, 114, 117, 116, 104, 102, 117, 108] : List Nat).toArray⟩] _ from (.cons ⟨_, rfl⟩ (.cons ⟨_, rfl⟩ (.cons ⟨_, rfl⟩ .nil))))
  have S_LEAST_FORCING_1_7 := stT_of zt_LEAST_FORCING_1_7 zi_LEAST_FORCING_1_7 rfl (show Vals [.str ⟨([103, 114, 111, 119, 105, 110, 103] : List Nat).toArray⟩, .str ⟨([111, 119, 110] : List Nat).toArray⟩, .str ⟨([116, 111, 112, 115] : List Nat).toArray⟩] _ from (.cons ⟨_, rfl⟩ (.cons ⟨_, rfl⟩ (.cons ⟨_, rfl⟩ .nil))))
  have S_LEAST_FORCING_1_6 := stT_of zt_LEAST_FORCING_1_6 zi_LEAST_FORCING_1_6 rfl (show Vals [.str ⟨([103, 114, 111, 119, 105, 110, 103] : List Nat).toArray⟩, .str ⟨([111, 119, 110] : List Nat).toArray⟩, .str ⟨([115, 119, 97, 112, 108, 101, 115, 115] : List Nat).toArray⟩] _ from (.cons ⟨_, rfl⟩ (.cons ⟨_, rfl⟩ (.cons ⟨_, rfl⟩ .nil))))
  have S_LEAST_FORCING_1_5 := stT_of zt_LEAST_FORCING_1_5 zi_LEAST_FORCING_1_5 rfl (show Vals [.str ⟨([103, 114, 111, 119, 105, 110, 103] : List Nat).toArray⟩, .str ⟨([111, 112, 101, 110] : List Nat).toArray⟩, .str ⟨([111, 119, 110] : List Nat).toArray⟩] _ from (.cons ⟨_, rfl⟩ (.cons ⟨_, rfl⟩ (.cons ⟨_, rfl⟩ .nil))))
  have S_LEAST_FORCING_1_4 := stT_of zt_LEAST_FORCING_1_4 zi_LEAST_FORCING_1_4 rfl (show Vals [.str ⟨([103, 114, 111, 119, 105, 110, 103] : List Nat).toArray⟩, .str ⟨([110, 97, 109, 101, 115] : List Nat).toArray⟩, .str ⟨([116, 111, 112, 115] : List Nat).toArray⟩] _ from (.cons ⟨_, rfl⟩ (.cons ⟨_, rfl⟩ (.cons ⟨_, rfl⟩ .nil))))
  have S_LEAST_FORCING_1_3 := stT_of zt_LEAST_FORCING_1_3 zi_LEAST_FORCING_1_3 rfl (show Vals [.str ⟨([102, 105, 114, 115, 116] : List Nat).toArray⟩, .str ⟨([103, 114, 111, 119, 105, 110, 103] : List Nat).toArray⟩, .str ⟨([111, 119, 110] : List Nat).toArray⟩] _ from (.cons ⟨_, rfl⟩ (.cons ⟨_, rfl⟩ (.cons ⟨_, rfl⟩ .nil))))
  have S_LEAST_FORCING_1_2 := stT_of zt_LEAST_FORCING_1_2 zi_LEAST_FORCING_1_2 rfl (show Vals [.str ⟨([98, 101, 115, 116] : List Nat).toArray⟩, .str ⟨([111, 119, 110] : List Nat).toArray⟩, .str ⟨([116, 114, 117, 116, 104, 102, 117, 108] : List Nat).toArray⟩] _ from (.cons ⟨_, rfl⟩ (.cons ⟨_, rfl⟩ (.cons ⟨_, rfl⟩ .nil))))
  have S_LEAST_FORCING_1_1 := stT_of zt_LEAST_FORCING_1_1 zi_LEAST_FORCING_1_1 rfl (show Vals [.str ⟨([98, 101, 115, 116] : List Nat).toArray⟩, .str ⟨([103, 114, 111, 119, 105, 110, 103] : List Nat).toArray⟩, .str ⟨([111, 119, 110] : List Nat).toArray⟩] _ from (.cons ⟨_, rfl⟩ (.cons ⟨_, rfl⟩ (.cons ⟨_, rfl⟩ .nil))))
  have S_LEAST_FORCING_1_0 := stT_of zt_LEAST_FORCING_1_0 zi_LEAST_FORCING_1_0 rfl (show Vals [.str ⟨([99, 111, 114, 101] : List Nat).toArray⟩] _ from (.cons ⟨_, rfl⟩ .nil))
  have S_LEAST_FORCING_1 := stT_of zt_LEAST_FORCING_1 zi_LEAST_FORCING_1 rfl (show Vals [.ref at_LEAST_FORCING_1_0, .ref at_LEAST_FORCING_1_1, .ref at_LEAST_FORCING_1_2, .ref at_LEAST_FORCING_1_3, .ref at_LEAST_FORCING_1_4, .ref at_LEAST_FORCING_1_5, .ref at_LEAST_FORCING_1_6, .ref at_LEAST_FORCING_1_7, .ref at_LEAST_FORCING_1_8, .ref at_LEAST_FORCING_1_9, .ref at_LEAST_FORCING_1_10, .ref at_LEAST_FORCING_1_11, .ref at_LEAST_FORCING_1_12, .ref at_LEAST_FORCING_1_13, .ref at_LEAST_FORCING_1_14, .ref at_LEAST_FORCING_1_15, .ref at_LEAST_FORCING_1_16] _ from (.cons rfl (.cons rfl (.cons rfl (.cons rfl (.cons rfl (.cons rfl (.cons rfl (.cons rfl (.cons rfl (.cons rfl (.cons rfl (.cons rfl (.cons rfl (.cons rfl (.cons rfl (.cons rfl (.cons rfl .nil))))))))))))))))))
  have S_LEAST_FORCING_0_6 := stT_of zt_LEAST_FORCING_0_6 zi_LEAST_FORCING_0_6 rfl (show Vals [.str ⟨([111, 119, 110] : List Nat).toArray⟩, .str ⟨([115, 119, 97, 112, 108, 101, 115, 115] : List Nat).toArray⟩] _ from (.cons ⟨_, rfl⟩ (.cons ⟨_, rfl⟩ .nil)))
  have S_LEAST_FORCING_0_5 := stT_of zt_LEAST_FORCING_0_5 zi_LEAST_FORCING_0_5 rfl (show Vals [.str ⟨([111, 119, 110] : List Nat).toArray⟩, .str ⟨([115, 111, 108, 101] : List Nat).toArray⟩] _ from (.cons ⟨_, rfl⟩ (.cons ⟨_, rfl⟩ .nil)))
  have S_LEAST_FORCING_0_4 := stT_of zt_LEAST_FORCING_0_4 zi_LEAST_FORCING_0_4 rfl (show Vals [.str ⟨([111, 112, 101, 110] : List Nat).toArray⟩, .str ⟨([111, 119, 110] : List Nat).toArray⟩] _ from (.cons ⟨_, rfl⟩ (.cons ⟨_, rfl⟩ .nil)))
  have S_LEAST_FORCING_0_3 := stT_of zt_LEAST_FORCING_0_3 zi_LEAST_FORCING_0_3 rfl (show Vals [.str ⟨([110, 111, 116, 108, 97, 115, 116] : List Nat).toArray⟩, .str ⟨([111, 119, 110] : List Nat).toArray⟩] _ from (.cons ⟨_, rfl⟩ (.cons ⟨_, rfl⟩ .nil)))
  have S_LEAST_FORCING_0_2 := stT_of zt_LEAST_FORCING_0_2 zi_LEAST_FORCING_0_2 rfl (show Vals [.str ⟨([102, 105, 114, 115, 116] : List Nat).toArray⟩, .str ⟨([111, 119, 110] : List Nat).toArray⟩] _ from (.cons ⟨_, rfl⟩ (.cons ⟨_, rfl⟩ .nil)))
  have S_LEAST_FORCING_0_1 := stT_of zt_LEAST_FORCING_0_1 zi_LEAST_FORCING_0_1 rfl (show Vals [.str ⟨([98, 101, 115, 116] : List Nat).toArray⟩, .str ⟨([111, 119, 110] : List Nat).toArray⟩] _ from (.cons ⟨_, rfl⟩ (.cons ⟨_, rfl⟩ .nil)))
  have S_LEAST_FORCING_0_0 := stT_of zt_LEAST_FORCING_0_0 zi_LEAST_FORCING_0_0 rfl (show Vals [.str ⟨([99, 111, 114, 101] : List Nat).toArray⟩] _ from (.cons ⟨_, rfl⟩ .nil))
  have S_LEAST_FORCING_0 := stT_of zt_LEAST_FORCING_0 zi_LEAST_FORCING_0 rfl (show Vals [.ref at_LEAST_FORCING_0_0, .ref at_LEAST_FORCING_0_1, .ref at_LEAST_FORCING_0_2, .ref at_LEAST_FORCING_0_3, .ref at_LEAST_FORCING_0_4, .ref at_LEAST_FORCING_0_5, .ref at_LEAST_FORCING_0_6] _ from (.cons rfl (.cons rfl (.cons rfl (.cons rfl (.cons rfl (.cons rfl (.cons rfl .nil))))))))
  have S_LEAST_CLASHES_1_25 := stT_of zt_LEAST_CLASHES_1_25 zi_LEAST_CLASHES_1_25 rfl (show Vals [.str ⟨([111, 112, 101, 110] : List Nat).toArray⟩, .str ⟨([115, 116, 105, 108, 108] : List Nat).toArray⟩, .str ⟨([116, 111, 112, 115] : List Nat).toArray⟩, .str ⟨([116, 114, 117, 116, 104, 102, 117, 108] : List Nat).toArray⟩] _ from (.cons ⟨_, rfl⟩ (.cons ⟨_, rfl⟩ (.cons ⟨_, rfl⟩ (.cons ⟨_, rfl⟩ .nil)))))
  have S_LEAST_CLASHES_1_24 := stT_of zt_LEAST_CLASHES_1_24 zi_LEAST_CLASHES_1_24 rfl (show Vals [.str ⟨([110, 111, 98, 111, 115, 115] : List Nat).toArray⟩, .str ⟨([115, 119, 97, 112, 108, 101, 115, 115] : List Nat).toArray⟩, .str ⟨([116, 104, 105, 110, 103, 115] : List Nat).toArray⟩, .str ⟨([116, 114, 117, 116, 104, 102, 117, 108] : List Nat).toArray⟩] _ from (.cons ⟨_, rfl⟩ (.cons ⟨_, rfl⟩ (.cons ⟨_, rfl⟩ (.cons ⟨_, rfl⟩ .nil)))))
  have S_LEAST_CLASHES_1_23 := stT_of zt_LEAST_CLASHES_1_23 zi_LEAST_CLASHES_1_23 rfl (show Vals [.str ⟨([110, 111, 98, 111, 115, 115] : List Nat).toArray⟩, .str ⟨([115, 116, 105, 108, 108] : List Nat).toArray⟩, .str ⟨([116, 104, 105, 110, 103, 115] : List Nat).toArray⟩, .str ⟨([116, 114, 117, 116, 104, 102, 117, 108] : List Nat).toArray⟩] _ from (.cons ⟨_, rfl⟩ (.cons ⟨_, rfl⟩ (.cons ⟨_, rfl⟩ (.cons ⟨_, rfl⟩ .nil)))))
  have S_LEAST_CLASHES_1_22 := stT_of zt_LEAST_CLASHES_1_22 zi_LEAST_CLASHES_1_22 rfl (show Vals [.str ⟨([102, 105, 114, 115, 116] : List Nat).toArray⟩, .str ⟨([110, 111, 98, 111, 115, 115] : List Nat).toArray⟩, .str ⟨([116, 104, 105, 110, 103, 115] : List Nat).toArray⟩, .str ⟨([116, 114, 117, 116, 104, 102, 117, 108] : List Nat).toArray⟩] _ from (.cons ⟨_, rfl⟩ (.cons ⟨_, rfl⟩ (.cons ⟨_, rfl⟩ (.cons ⟨_, rfl⟩ .nil)))))
  have S_LEAST_CLASHES_1_21 := stT_of zt_LEAST_CLASHES_1_21 zi_LEAST_CLASHES_1_21 rfl (show Vals [.str ⟨([98, 101, 115, 116] : List Nat).toArray⟩, .str ⟨([110, 111, 98, 111, 115, 115] : List Nat).toArray⟩, .str ⟨([116, 104, 105, 110, 103, 115] : List Nat).toArray⟩, .str ⟨([116, 114, 117, 116, 104, 102, 117, 108] : List Nat).toArray⟩] _ from (.cons ⟨_, rfl⟩ (.cons ⟨_, rfl⟩ (.cons ⟨_, rfl⟩ (.cons ⟨_, rfl⟩ .nil)))))
  have S_LEAST_CLASHES_1_20 := stT_of zt_LEAST_CLASHES_1_20 zi_LEAST_CLASHES_1_20 rfl (show Vals [.str ⟨([103, 114, 111, 119, 105, 110, 103] : List Nat).toArray⟩, .str ⟨([111, 112, 101, 110] : List Nat).toArray⟩, .str ⟨([116, 111, 112, 115] : List Nat).toArray⟩] _ from (.cons ⟨_, rfl⟩ (.cons ⟨_, rfl⟩ (.cons ⟨_, rfl⟩ .nil))))
  have S_LEAST_CLASHES_1_19 := stT_of zt_LEAST_CLASHES_1_19 zi_LEAST_CLASHES_1_19 rfl (show Vals [.str ⟨([103, 114, 111, 119, 105, 110, 103] : List Nat).toArray⟩, .str ⟨([110, 111, 98, 111, 115, 115] : List Nat).toArray⟩, .str ⟨([116, 104, 105, 110, 103, 115] : List Nat).toArray⟩] _ from (.cons ⟨_, rfl⟩ (.cons ⟨_, rfl⟩ (.cons ⟨_, rfl⟩ .nil))))
  have S_LEAST_CLASHES_1_18 := stT_of zt_LEAST_CLASHES_1_18 zi_LEAST_CLASHES_1_18 rfl (show Vals [.str ⟨([102, 105, 114, 115, 116] : List Nat).toArray⟩, .str ⟨([116, 111, 112, 115] : List Nat).toArray⟩, .str ⟨([116, 114, 117, 116, 104, 102, 117, 108] : List Nat).toArray⟩] _ from (.cons ⟨_, rfl⟩ (.cons ⟨_, rfl⟩ (.cons ⟨_, rfl⟩ .nil))))
  have S_LEAST_CLASHES_1_17 := stT_of zt_LEAST_CLASHES_1_17 zi_LEAST_CLASHES_1_17 rfl (show Vals [.str ⟨([102, 105, 114, 115, 116] : List Nat).toArray⟩, .str ⟨([103, 114, 111, 119, 105, 110, 103] : List Nat).toArray⟩, .str ⟨([116, 111, 112, 115] : List Nat).toArray⟩] _ from (.cons ⟨_, rfl⟩ (.cons ⟨_, rfl⟩ (.cons ⟨_, rfl⟩ .nil))))
  have S_LEAST_CLASHES_1_16 := stT_of zt_LEAST_CLASHES_1_16 zi_LEAST_CLASHES_1_16 rfl (show Vals [.str ⟨([116, 104, 105, 110, 103, 115] : List Nat).toArray⟩, .str ⟨([116, 111, 112, 115] : List Nat).toArray⟩] _ from (.cons ⟨_, rfl⟩ (.cons ⟨_, rfl⟩ .nil)))
  have S_LEAST_CLASHES_1_15 := stT_of zt_LEAST_CLASHES_1_15 zi_LEAST_CLASHES_1_15 rfl (show Vals [.str ⟨([115, 119, 97, 112, 108, 101, 115, 115] : List Nat).toArray⟩, .str ⟨([116, 111, 112, 115] : List Nat).toArray⟩] _ from (.cons ⟨_, rfl⟩ (.cons ⟨_, rfl⟩ .nil)))
  have S_LEAST_CLASHES_1_14 := stT_of zt_LEAST_CLASHES_1_14 zi_LEAST_CLASHES_1_14 rfl (show Vals [.str ⟨([115, 111, 108, 101] : List Nat).toArray⟩, .str ⟨([116, 114, 117, 116, 104, 102, 117, 108] : List Nat).toArray⟩] _ from (.cons ⟨_, rfl⟩ (.cons ⟨_, rfl⟩ .nil)))
  have S_LEAST_CLASHES_1_13 := stT_of zt_LEAST_CLASHES_1_13 zi_LEAST_CLASHES_1_13 rfl (show Vals [.str ⟨([111, 119, 110] : List Nat).toArray⟩, .str ⟨([116, 104, 105, 110, 103, 115] : List Nat).toArray⟩] _ from (.cons ⟨_, rfl⟩ (.cons ⟨_, rfl⟩ .nil)))
  have S_LEAST_CLASHES_1_12 := stT_of zt_LEAST_CLASHES_1_12 zi_LEAST_CLASHES_1_12 rfl (show Vals [.str ⟨([111, 119, 110] : List Nat).toArray⟩, .str ⟨([115, 111, 108, 101] : List Nat).toArray⟩] _ from (.cons ⟨_, rfl⟩ (.cons ⟨_, rfl⟩ .nil)))
  have S_LEAST_CLASHES_1_11 := stT_of zt_LEAST_CLASHES_1_11 zi_LEAST_CLASHES_1_11 rfl (show Vals [.str ⟨([110, 111, 116, 108, 97, 115, 116] : List Nat).toArray⟩, .str ⟨([116, 114, 117, 116, 104, 102, 117, 108] : List Nat).toArray⟩] _ from (.cons ⟨_, rfl⟩ (.cons ⟨_, rfl⟩ .nil)))
  have S_LEAST_CLASHES_1_10 := stT_of zt_LEAST_CLASHES_1_10 zi_LEAST_CLASHES_1_10 rfl (show Vals [.str ⟨([110, 111, 116, 108, 97, 115, 116] : List Nat).toArray⟩, .str ⟨([116, 111, 112, 115] : List Nat).toArray⟩] _ from (.cons ⟨_, rfl⟩ (.cons ⟨_, rfl⟩ .nil)))
  have S_LEAST_CLASHES_1_9 := stT_of zt_LEAST_CLASHES_1_9 zi_LEAST_CLASHES_1_9 rfl (show Vals [.str ⟨([110, 111, 116, 108, 97, 115, 116] : List Nat).toArray⟩, .str ⟨([115, 111, 108, 101] : List Nat).toArray⟩] _ from (.cons ⟨_, rfl⟩ (.cons ⟨_, rfl⟩ .nil)))
  have S_LEAST_CLASHES_1_8 := stT_of zt_LEAST_CLASHES_1_8 zi_LEAST_CLASHES_1_8 rfl (show Vals [.str ⟨([110, 111, 116, 108, 97, 115, 116] : List Nat).toArray⟩, .str ⟨([111, 119, 110] : List Nat).toArray⟩] _ from (.cons ⟨_, rfl⟩ (.cons ⟨_, rfl⟩ .nil)))
  have S_LEAST_CLASHES_1_7 := stT_of zt_LEAST_CLASHES_1_7 zi_LEAST_CLASHES_1_7 rfl (show Vals [.str ⟨([110, 97, 109, 101, 115] : List Nat).toArray⟩, .str ⟨([116, 104, 105, 110, 103, 115] : List Nat).toArray⟩] _ from (.cons ⟨_, rfl⟩ (.cons ⟨_, rfl⟩ .nil)))
  have S_LEAST_CLASHES_1_6 := stT_of zt_LEAST_CLASHES_1_6 zi_LEAST_CLASHES_1_6 rfl (show Vals [.str ⟨([103, 114, 111, 119, 105, 110, 103] : List Nat).toArray⟩, .str ⟨([115, 111, 108, 101] : List Nat).toArray⟩] _ from (.cons ⟨_, rfl⟩ (.cons ⟨_, rfl⟩ .nil)))
  have S_LEAST_CLASHES_1_5 := stT_of zt_LEAST_CLASHES_1_5 zi_LEAST_CLASHES_1_5 rfl (show Vals [.str ⟨([103, 114, 111, 119, 105, 110, 103] : List Nat).toArray⟩, .str ⟨([110, 111, 116, 108, 97, 115, 116] : List Nat).toArray⟩] _ from (.cons ⟨_, rfl⟩ (.cons ⟨_, rfl⟩ .nil)))
  have S_LEAST_CLASHES_1_4 := stT_of zt_LEAST_CLASHES_1_4 zi_LEAST_CLASHES_1_4 rfl (show Vals [.str ⟨([99, 111, 114, 101] : List Nat).toArray⟩, .str ⟨([116, 111, 112, 115] : List Nat).toArray⟩] _ from (.cons ⟨_, rfl⟩ (.cons ⟨_, rfl⟩ .nil)))
  have S_LEAST_CLASHES_1_3 := stT_of zt_LEAST_CLASHES_1_3 zi_LEAST_CLASHES_1_3 rfl (show Vals [.str ⟨([99, 111, 114, 101] : List Nat).toArray⟩, .str ⟨([116, 104, 105, 110, 103, 115] : List Nat).toArray⟩] _ from (.cons ⟨_, rfl⟩ (.cons ⟨_, rfl⟩ .nil)))
  have S_LEAST_CLASHES_1_2 := stT_of zt_LEAST_CLASHES_1_2 zi_LEAST_CLASHES_1_2 rfl (show Vals [.str ⟨([99, 111, 114, 101] : List Nat).toArray⟩, .str ⟨([115, 111, 108, 101] : List Nat).toArray⟩] _ from (.cons ⟨_, rfl⟩ (.cons ⟨_, rfl⟩ .nil)))
  have S_LEAST_CLASHES_1_1 := stT_of zt_LEAST_CLASHES_1_1 zi_LEAST_CLASHES_1_1 rfl (show Vals [.str ⟨([99, 111, 114, 101] : List Nat).toArray⟩, .str ⟨([110, 111, 116, 108, 97, 115, 116] : List Nat).toArray⟩] _ from (.cons ⟨_, rfl⟩ (.cons ⟨_, rfl⟩ .nil)))
  have S_LEAST_CLASHES_1_0 := stT_of zt_LEAST_CLASHES_1_0 zi_LEAST_CLASHES_1_0 rfl (show Vals [.str ⟨([98, 101, 115, 116] : List Nat).toArray⟩, .str ⟨([116, 111, 112, 115] : List Nat).toArray⟩] _ from (.cons ⟨_, rfl⟩ (.cons ⟨_, rfl⟩ .nil)))
  have S_LEAST_CLASHES_1 := stT_of zt_LEAST_CLASHES_1 zi_LEAST_CLASHES_1 rfl (show Vals [.ref at_LEAST_CLASHES_1_0, .ref at_LEAST_CLASHES_1_1, .ref at_LEAST_CLASHES_1_2, .ref at_LEAST_CLASHES_1_3, .ref at_LEAST_CLASHES_1_4, .ref at_LEAST_CLASHES_1_5, .ref at_LEAST_CLASHES_1_6, .ref at_LEAST_CLASHES_1_7, .ref at_LEAST_CLASHES_1_8, .ref at_LEAST_CLASHES_1_9, .ref at_LEAST_CLASHES_1_10, .ref at_LEAST_CLASHES_1_11, .ref at_LEAST_CLASHES_1_12, .ref at_LEAST_CLASHES_1_13, .ref at_LEAST_CLASHES_1_14, .ref at_LEAST_CLASHES_1_15, .ref at_LEAST_CLASHES_1_16, .ref at_LEAST_CLASHES_1_17, .ref at_LEAST_CLASHES_1_18, .ref at_LEAST_CLASHES_1_19, .ref at_LEAST_CLASHES_1_20, .ref at_LEAST_CLASHES_1_21, .ref at_LEAST_CLASHES_1_22, .ref at_LEAST_CLASHES_1_23, .ref at_LEAST_CLASHES_1_24, .ref at_LEAST_CLASHES_1_25] _ from (.cons rfl (.cons rfl (.cons rfl (.cons rfl (.cons rfl (.cons rfl (.cons rfl (.cons rfl (.cons rfl (.cons rfl (.cons rfl (.cons rfl (.cons rfl (.cons rfl (.cons rfl (.cons rfl (.cons rfl (.cons rfl (.cons rfl (.cons rfl (.cons rfl (.cons rfl (.cons rfl (.cons rfl (.cons rfl (.cons rfl .nil)))))))))))))))))))))))))))
  have S_LEAST_CLASHES_0_9 := stT_of zt_LEAST_CLASHES_0_9 zi_LEAST_CLASHES_0_9 rfl (show Vals [.str ⟨([110, 111, 98, 111, 115, 115] : List Nat).toArray⟩, .str ⟨([116, 104, 105, 110, 103, 115] : List Nat).toArray⟩, .str ⟨([116, 114, 117, 116, 104, 102, 117, 108] : List Nat).toArray⟩] _ from (.cons ⟨_, rfl⟩ (.cons ⟨_, rfl⟩ (.cons ⟨_, rfl⟩ .nil))))
  have S_LEAST_CLASHES_0_8 := stT_of zt_LEAST_CLASHES_0_8 zi_LEAST_CLASHES_0_8 rfl (show Vals [.str ⟨([110, 111, 98, 111, 115, 115] : List Nat).toArray⟩, .str ⟨([115, 119, 97, 112, 108, 101, 115, 115] : List Nat).toArray⟩, .str ⟨([116, 104, 105, 110, 103, 115] : List Nat).toArray⟩] _ from (.cons ⟨_, rfl⟩ (.cons ⟨_, rfl⟩ (.cons ⟨_, rfl⟩ .nil))))
  have S_LEAST_CLASHES_0_7 := stT_of zt_LEAST_CLASHES_0_7 zi_LEAST_CLASHES_0_7 rfl (show Vals [.str ⟨([110, 111, 98, 111, 115, 115] : List Nat).toArray⟩, .str ⟨([115, 111, 108, 101] : List Nat).toArray⟩, .str ⟨([116, 104, 105, 110, 103, 115] : List Nat).toArray⟩] _ from (.cons ⟨_, rfl⟩ (.cons ⟨_, rfl⟩ (.cons ⟨_, rfl⟩ .nil))))
  have S_LEAST_CLASHES_0_6 := stT_of zt_LEAST_CLASHES_0_6 zi_LEAST_CLASHES_0_6 rfl (show Vals [.str ⟨([110, 111, 98, 111, 115, 115] : List Nat).toArray⟩, .str ⟨([110, 111, 116, 108, 97, 115, 116] : List Nat).toArray⟩, .str ⟨([116, 104, 105, 110, 103, 115] : List Nat).toArray⟩] _ from (.cons ⟨_, rfl⟩ (.cons ⟨_, rfl⟩ (.cons ⟨_, rfl⟩ .nil))))
  have S_LEAST_CLASHES_0_5 := stT_of zt_LEAST_CLASHES_0_5 zi_LEAST_CLASHES_0_5 rfl (show Vals [.str ⟨([103, 114, 111, 119, 105, 110, 103] : List Nat).toArray⟩, .str ⟨([110, 111, 98, 111, 115, 115] : List Nat).toArray⟩, .str ⟨([116, 104, 105, 110, 103, 115] : List Nat).toArray⟩] _ from (.cons ⟨_, rfl⟩ (.cons ⟨_, rfl⟩ (.cons ⟨_, rfl⟩ .nil))))
  have S_LEAST_CLASHES_0_4 := stT_of zt_LEAST_CLASHES_0_4 zi_LEAST_CLASHES_0_4 rfl (show Vals [.str ⟨([102, 105, 114, 115, 116] : List Nat).toArray⟩, .str ⟨([110, 111, 98, 111, 115, 115] : List Nat).toArray⟩, .str ⟨([116, 104, 105, 110, 103, 115] : List Nat).toArray⟩] _ from (.cons ⟨_, rfl⟩ (.cons ⟨_, rfl⟩ (.cons ⟨_, rfl⟩ .nil))))
  have S_LEAST_CLASHES_0_3 := stT_of zt_LEAST_CLASHES_0_3 zi_LEAST_CLASHES_0_3 rfl (show Vals [.str ⟨([98, 101, 115, 116] : List Nat).toArray⟩, .str ⟨([110, 111, 98, 111, 115, 115] : List Nat).toArray⟩, .str ⟨([116, 104, 105, 110, 103, 115] : List Nat).toArray⟩] _ from (.cons ⟨_, rfl⟩ (.cons ⟨_, rfl⟩ (.cons ⟨_, rfl⟩ .nil))))
  have S_LEAST_CLASHES_0_2 := stT_of zt_LEAST_CLASHES_0_2 zi_LEAST_CLASHES_0_2 rfl (show Vals [.str ⟨([111, 119, 110] : List Nat).toArray⟩, .str ⟨([116, 104, 105, 110, 103, 115] : List Nat).toArray⟩] _ from (.cons ⟨_, rfl⟩ (.cons ⟨_, rfl⟩ .nil)))
  have S_LEAST_CLASHES_0_1 := stT_of zt_LEAST_CLASHES_0_1 zi_LEAST_CLASHES_0_1 rfl (show Vals [.str ⟨([110, 97, 109, 101, 115] : List Nat).toArray⟩, .str ⟨([116, 104, 105, 110, 103, 115] : List Nat).toArray⟩] _ from (.cons ⟨_, rfl⟩ (.cons ⟨_, rfl⟩ .nil)))
  have S_LEAST_CLASHES_0_0 := stT_of zt_LEAST_CLASHES_0_0 zi_LEAST_CLASHES_0_0 rfl (show Vals [.str ⟨([99, 111, 114, 101] : List Nat).toArray⟩, .str ⟨([116, 104, 105, 110, 103, 115] : List Nat).toArray⟩] _ from (.cons ⟨_, rfl⟩ (.cons ⟨_, rfl⟩ .nil)))
  have S_LEAST_CLASHES_0 := stT_of zt_LEAST_CLASHES_0 zi_LEAST_CLASHES_0 rfl (show Vals [.ref at_LEAST_CLASHES_0_0, .ref at_LEAST_CLASHES_0_1, .ref at_LEAST_CLASHES_0_2, .ref at_LEAST_CLASHES_0_3, .ref at_LEAST_CLASHES_0_4, .ref at_LEAST_CLASHES_0_5, .ref at_LEAST_CLASHES_0_6, .ref at_LEAST_CLASHES_0_7, .ref at_LEAST_CLASHES_0_8, .ref at_LEAST_CLASHES_0_9] _ from (.cons rfl (.cons rfl (.cons rfl (.cons rfl (.cons rfl (.cons rfl (.cons rfl (.cons rfl (.cons rfl (.cons rfl .nil)))))))))))
  have S_AT_ROW : SDk l.prog w K ad_AT_ROW [(.inr ⟨([98, 101, 115, 116] : List Nat).toArray⟩, .ref ao_is_best), (.inr ⟨([99, 111, 114, 101] : List Nat).toArray⟩, .ref ao_is_core), (.inr ⟨([102, 105, 114, 115, 116] : List Nat).toArray⟩, .ref ao_is_first), (.inr ⟨([110, 111, 116, 108, 97, 115, 116] : List Nat).toArray⟩, .ref ao_is_notlast), (.inr ⟨([111, 119, 110] : List Nat).toArray⟩, .ref ao_is_own), (.inr ⟨([115, 111, 108, 101] : List Nat).toArray⟩, .ref ao_is_sole), (.inr ⟨([115, 119, 97, 112, 108, 101, 115, 115] : List Nat).toArray⟩, .ref ao_is_swapless)] := sdk_of zd_AT_ROW zs_AT_ROW (by rw [ze_AT_ROW]; exact (.cons (by first | exact keyIs_int _ _ | exact keyIs_str _ _) rfl (by first | exact ⟨_, rfl⟩ | exact rfl) (.cons (by first | exact keyIs_int _ _ | exact keyIs_str _ _) rfl (by first | exact ⟨_, rfl⟩ | exact rfl) (.cons (by first | exact keyIs_int _ _ | exact keyIs_str _ _) rfl (by first | exact ⟨_, rfl⟩ | exact rfl) (.cons (by first | exact keyIs_int _ _ | exact keyIs_str _ _) rfl (by first | exact ⟨_, rfl⟩ | exact rfl) (.cons (by first | exact keyIs_int _ _ | exact keyIs_str _ _) rfl (by first | exact ⟨_, rfl⟩ | exact rfl) (.cons (by first | exact keyIs_int _ _ | exact keyIs_str _ _) rfl (by first | exact ⟨_, rfl⟩ | exact rfl) (.cons (by first | exact keyIs_int _ _ | exact keyIs_str _ _) rfl (by first | exact ⟨_, rfl⟩ | exact rfl) .nil)))))))) (show List.Nodup ([.inr ⟨([98, 101, 115, 116] : List Nat).toArray⟩, .inr ⟨([99, 111, 114, 101] : List Nat).toArray⟩, .inr ⟨([102, 105, 114, 115, 116] : List Nat).toArray⟩, .inr ⟨([110, 111, 116, 108, 97, 115, 116] : List Nat).toArray⟩, .inr ⟨([111, 119, 110] : List Nat).toArray⟩, .inr ⟨([115, 111, 108, 101] : List Nat).toArray⟩, .inr ⟨([115, 119, 97, 112, 108, 101, 115, 115] : List Nat).toArray⟩] : List Key) from by decide +kernel)
  have R_AT_ROW : TabR K (F1 w [ao_is_best, ao_is_core, ao_is_first, ao_is_notlast, ao_is_own, ao_is_sole, ao_is_swapless, ao_ask_growing, ao_ask_names, ao_ask_still, ao_ask_things, ao_ask_tops, ao_ask_truthful, ao_has_no_boss, ao_is_open]) [(.inr ⟨([98, 101, 115, 116] : List Nat).toArray⟩, .ref ao_is_best), (.inr ⟨([99, 111, 114, 101] : List Nat).toArray⟩, .ref ao_is_core), (.inr ⟨([102, 105, 114, 115, 116] : List Nat).toArray⟩, .ref ao_is_first), (.inr ⟨([110, 111, 116, 108, 97, 115, 116] : List Nat).toArray⟩, .ref ao_is_notlast), (.inr ⟨([111, 119, 110] : List Nat).toArray⟩, .ref ao_is_own), (.inr ⟨([115, 111, 108, 101] : List Nat).toArray⟩, .ref ao_is_sole), (.inr ⟨([115, 119, 97, 112, 108, 101, 115, 115] : List Nat).toArray⟩, .ref ao_is_swapless)] tb_AT_ROW := (.cons rfl (fun m H => by first | exact .int _ | exact .fn rfl) (.cons rfl (fun m H => by first | exact .int _ | exact .fn rfl) (.cons rfl (fun m H => by first | exact .int _ | exact .fn rfl) (.cons rfl (fun m H => by first | exact .int _ | exact .fn rfl) (.cons rfl (fun m H => by first | exact .int _ | exact .fn rfl) (.cons rfl (fun m H => by first | exact .int _ | exact .fn rfl) (.cons rfl (fun m H => by first | exact .int _ | exact .fn rfl) .nil)))))))
  have S_ACROSS : SDk l.prog w K ad_ACROSS [(.inr ⟨([103, 114, 111, 119, 105, 110, 103] : List Nat).toArray⟩, .ref ao_ask_growing), (.inr ⟨([110, 97, 109, 101, 115] : List Nat).toArray⟩, .ref ao_ask_names), (.inr ⟨([115, 116, 105, 108, 108] : List Nat).toArray⟩, .ref ao_ask_still), (.inr ⟨([116, 104, 105, 110, 103, 115] : List Nat).toArray⟩, .ref ao_ask_things), (.inr ⟨([116, 111, 112, 115] : List Nat).toArray⟩, .ref ao_ask_tops), (.inr ⟨([116, 114, 117, 116, 104, 102, 117, 108] : List Nat).toArray⟩, .ref ao_ask_truthful)] := sdk_of zd_ACROSS zs_ACROSS (by rw [ze_ACROSS]; exact (.cons (by first | exact keyIs_int _ _ | exact keyIs_str _ _) rfl (by first | exact ⟨_, rfl⟩ | exact rfl) (.cons (by first | exact keyIs_int _ _ | exact keyIs_str _ _) rfl (by first | exact ⟨_, rfl⟩ | exact rfl) (.cons (by first | exact keyIs_int _ _ | exact keyIs_str _ _) rfl (by first | exact ⟨_, rfl⟩ | exact rfl) (.cons (by first | exact keyIs_int _ _ | exact keyIs_str _ _) rfl (by first | exact ⟨_, rfl⟩ | exact rfl) (.cons (by first | exact keyIs_int _ _ | exact keyIs_str _ _) rfl (by first | exact ⟨_, rfl⟩ | exact rfl) (.cons (by first | exact keyIs_int _ _ | exact keyIs_str _ _) rfl (by first | exact ⟨_, rfl⟩ | exact rfl) .nil))))))) (show List.Nodup ([.inr ⟨([103, 114, 111, 119, 105, 110, 103] : List Nat).toArray⟩, .inr ⟨([110, 97, 109, 101, 115] : List Nat).toArray⟩, .inr ⟨([115, 116, 105, 108, 108] : List Nat).toArray⟩, .inr ⟨([116, 104, 105, 110, 103, 115] : List Nat).toArray⟩, .inr ⟨([116, 111, 112, 115] : List Nat).toArray⟩, .inr ⟨([116, 114, 117, 116, 104, 102, 117, 108] : List Nat).toArray⟩] : List Key) from by decide +kernel)
  have R_ACROSS : TabR K (F1 w [ao_is_best, ao_is_core, ao_is_first, ao_is_notlast, ao_is_own, ao_is_sole, ao_is_swapless, ao_ask_growing, ao_ask_names, ao_ask_still, ao_ask_things, ao_ask_tops, ao_ask_truthful, ao_has_no_boss, ao_is_open]) [(.inr ⟨([103, 114, 111, 119, 105, 110, 103] : List Nat).toArray⟩, .ref ao_ask_growing), (.inr ⟨([110, 97, 109, 101, 115] : List Nat).toArray⟩, .ref ao_ask_names), (.inr ⟨([115, 116, 105, 108, 108] : List Nat).toArray⟩, .ref ao_ask_still), (.inr ⟨([116, 104, 105, 110, 103, 115] : List Nat).toArray⟩, .ref ao_ask_things), (.inr ⟨([116, 111, 112, 115] : List Nat).toArray⟩, .ref ao_ask_tops), (.inr ⟨([116, 114, 117, 116, 104, 102, 117, 108] : List Nat).toArray⟩, .ref ao_ask_truthful)] tb_ACROSS := (.cons rfl (fun m H => by first | exact .int _ | exact .fn rfl) (.cons rfl (fun m H => by first | exact .int _ | exact .fn rfl) (.cons rfl (fun m H => by first | exact .int _ | exact .fn rfl) (.cons rfl (fun m H => by first | exact .int _ | exact .fn rfl) (.cons rfl (fun m H => by first | exact .int _ | exact .fn rfl) (.cons rfl (fun m H => by first | exact .int _ | exact .fn rfl) .nil))))))
  have S_WHOLE : SDk l.prog w K ad_WHOLE [(.inr ⟨([110, 111, 98, 111, 115, 115] : List Nat).toArray⟩, .ref ao_has_no_boss), (.inr ⟨([111, 112, 101, 110] : List Nat).toArray⟩, .ref ao_is_open)] := sdk_of zd_WHOLE zs_WHOLE (by rw [ze_WHOLE]; exact (.cons (by first | exact keyIs_int _ _ | exact keyIs_str _ _) rfl (by first | exact ⟨_, rfl⟩ | exact rfl) (.cons (by first | exact keyIs_int _ _ | exact keyIs_str _ _) rfl (by first | exact ⟨_, rfl⟩ | exact rfl) .nil))) (show List.Nodup ([.inr ⟨([110, 111, 98, 111, 115, 115] : List Nat).toArray⟩, .inr ⟨([111, 112, 101, 110] : List Nat).toArray⟩] : List Key) from by decide +kernel)
  have R_WHOLE : TabR K (F1 w [ao_is_best, ao_is_core, ao_is_first, ao_is_notlast, ao_is_own, ao_is_sole, ao_is_swapless, ao_ask_growing, ao_ask_names, ao_ask_still, ao_ask_things, ao_ask_tops, ao_ask_truthful, ao_has_no_boss, ao_is_open]) [(.inr ⟨([110, 111, 98, 111, 115, 115] : List Nat).toArray⟩, .ref ao_has_no_boss), (.inr ⟨([111, 112, 101, 110] : List Nat).toArray⟩, .ref ao_is_open)] tb_WHOLE := (.cons rfl (fun m H => by first | exact .int _ | exact .fn rfl) (.cons rfl (fun m H => by first | exact .int _ | exact .fn rfl) .nil))
  have S_LEAST_CLASHES : SDk l.prog w K ad_LEAST_CLASHES [(.inl 2, .ref at_LEAST_CLASHES_0), (.inl 3, .ref at_LEAST_CLASHES_1)] := sdk_of zd_LEAST_CLASHES zs_LEAST_CLASHES (by rw [ze_LEAST_CLASHES]; exact (.cons (by first | exact keyIs_int _ _ | exact keyIs_str _ _) rfl (by first | exact ⟨_, rfl⟩ | exact rfl) (.cons (by first | exact keyIs_int _ _ | exact keyIs_str _ _) rfl (by first | exact ⟨_, rfl⟩ | exact rfl) .nil))) (show List.Nodup ([.inl 2, .inl 3] : List Key) from by decide +kernel)
  have R_LEAST_CLASHES : TabR K (F1 w [ao_is_best, ao_is_core, ao_is_first, ao_is_notlast, ao_is_own, ao_is_sole, ao_is_swapless, ao_ask_growing, ao_ask_names, ao_ask_still, ao_ask_things, ao_ask_tops, ao_ask_truthful, ao_has_no_boss, ao_is_open]) [(.inl 2, .ref at_LEAST_CLASHES_0), (.inl 3, .ref at_LEAST_CLASHES_1)] tb_LEAST_CLASHES := (.cons rfl (fun m H => (.tupK S_LEAST_CLASHES_0 (.cons (.tupK S_LEAST_CLASHES_0_0 (.cons (.str _) (.cons (.str _) .nil))) (.cons (.tupK S_LEAST_CLASHES_0_1 (.cons (.str _) (.cons (.str _) .nil))) (.cons (.tupK S_LEAST_CLASHES_0_2 (.cons (.str _) (.cons (.str _) .nil))) (.cons (.tupK S_LEAST_CLASHES_0_3 (.cons (.str _) (.cons (.str _) (.cons (.str _) .nil)))) (.cons (.tupK S_LEAST_CLASHES_0_4 (.cons (.str _) (.cons (.str _) (.cons (.str _) .nil)))) (.cons (.tupK S_LEAST_CLASHES_0_5 (.cons (.str _) (.cons (.str _) (.cons (.str _) .nil)))) (.cons (.tupK S_LEAST_CLASHES_0_6 (.cons (.str _) (.cons (.str _) (.cons (.str _) .nil)))) (.cons (.tupK S_LEAST_CLASHES_0_7 (.cons (.str _) (.cons (.str _) (.cons (.str _) .nil)))) (.cons (.tupK S_LEAST_CLASHES_0_8 (.cons (.str _) (.cons (.str _) (.cons (.str _) .nil)))) (.cons (.tupK S_LEAST_CLASHES_0_9 (.cons (.str _) (.cons (.str _) (.cons (.str _) .nil)))) .nil)))))))))))) (.cons rfl (fun m H => (.tupK S_LEAST_CLASHES_1 (.cons (.tupK S_LEAST_CLASHES_1_0 (.cons (.str _) (.cons (.str _) .nil))) (.cons (.tupK S_LEAST_CLASHES_1_1 (.cons (.str _) (.cons (.str _) .nil))) (.cons (.tupK S_LEAST_CLASHES_1_2 (.cons (.str _) (.cons (.str _) .nil))) (.cons (.tupK S_LEAST_CLASHES_1_3 (.cons (.str _) (.cons (.str _) .nil))) (.cons (.tupK S_LEAST_CLASHES_1_4 (.cons (.str _) (.cons (.str _) .nil))) (.cons (.tupK S_LEAST_CLASHES_1_5 (.cons (.str _) (.cons (.str _) .nil))) (.cons (.tupK S_LEAST_CLASHES_1_6 (.cons (.str _) (.cons (.str _) .nil))) (.cons (.tupK S_LEAST_CLASHES_1_7 (.cons (.str _) (.cons (.str _) .nil))) (.cons (.tupK S_LEAST_CLASHES_1_8 (.cons (.str _) (.cons (.str _) .nil))) (.cons (.tupK S_LEAST_CLASHES_1_9 (.cons (.str _) (.cons (.str _) .nil))) (.cons (.tupK S_LEAST_CLASHES_1_10 (.cons (.str _) (.cons (.str _) .nil))) (.cons (.tupK S_LEAST_CLASHES_1_11 (.cons (.str _) (.cons (.str _) .nil))) (.cons (.tupK S_LEAST_CLASHES_1_12 (.cons (.str _) (.cons (.str _) .nil))) (.cons (.tupK S_LEAST_CLASHES_1_13 (.cons (.str _) (.cons (.str _) .nil))) (.cons (.tupK S_LEAST_CLASHES_1_14 (.cons (.str _) (.cons (.str _) .nil))) (.cons (.tupK S_LEAST_CLASHES_1_15 (.cons (.str _) (.cons (.str _) .nil))) (.cons (.tupK S_LEAST_CLASHES_1_16 (.cons (.str _) (.cons (.str _) .nil))) (.cons (.tupK S_LEAST_CLASHES_1_17 (.cons (.str _) (.cons (.str _) (.cons (.str _) .nil)))) (.cons (.tupK S_LEAST_CLASHES_1_18 (.cons (.str _) (.cons (.str _) (.cons (.str _) .nil)))) (.cons (.tupK S_LEAST_CLASHES_1_19 (.cons (.str _) (.cons (.str _) (.cons (.str _) .nil)))) (.cons (.tupK S_LEAST_CLASHES_1_20 (.cons (.str _) (.cons (.str _) (.cons (.str _) .nil)))) (.cons (.tupK S_LEAST_CLASHES_1_21 (.cons (.str _) (.cons (.str _) (.cons (.str _) (.cons (.str _) .nil))))) (.cons (.tupK S_LEAST_CLASHES_1_22 (.cons (.str _) (.cons (.str _) (.cons (.str _) (.cons (.str _) .nil))))) (.cons (.tupK S_LEAST_CLASHES_1_23 (.cons (.str _) (.cons (.str _) (.cons (.str _) (.cons (.str _) .nil))))) (.cons (.tupK S_LEAST_CLASHES_1_24 (.cons (.str _) (.cons (.str _) (.cons (.str _) (.cons (.str _) .nil))))) (.cons (.tupK S_LEAST_CLASHES_1_25 (.cons (.str _) (.cons (.str _) (.cons (.str _) (.cons (.str _) .nil))))) .nil)))))))))))))))))))))))))))) .nil))
  have S_LEAST_FORCING : SDk l.prog w K ad_LEAST_FORCING [(.inl 2, .ref at_LEAST_FORCING_0), (.inl 3, .ref at_LEAST_FORCING_1)] := sdk_of zd_LEAST_FORCING zs_LEAST_FORCING (by rw [ze_LEAST_FORCING]; exact (.cons (by first | exact keyIs_int _ _ | exact keyIs_str _ _) rfl (by first | exact ⟨_, rfl⟩ | exact rfl) (.cons (by first | exact keyIs_int _ _ | exact keyIs_str _ _) rfl (by first | exact ⟨_, rfl⟩ | exact rfl) .nil))) (show List.Nodup ([.inl 2, .inl 3] : List Key) from by decide +kernel)
  have R_LEAST_FORCING : TabR K (F1 w [ao_is_best, ao_is_core, ao_is_first, ao_is_notlast, ao_is_own, ao_is_sole, ao_is_swapless, ao_ask_growing, ao_ask_names, ao_ask_still, ao_ask_things, ao_ask_tops, ao_ask_truthful, ao_has_no_boss, ao_is_open]) [(.inl 2, .ref at_LEAST_FORCING_0), (.inl 3, .ref at_LEAST_FORCING_1)] tb_LEAST_FORCING := (.cons rfl (fun m H => (.tupK S_LEAST_FORCING_0 (.cons (.tupK S_LEAST_FORCING_0_0 (.cons (.str _) .nil)) (.cons (.tupK S_LEAST_FORCING_0_1 (.cons (.str _) (.cons (.str _) .nil))) (.cons (.tupK S_LEAST_FORCING_0_2 (.cons (.str _) (.cons (.str _) .nil))) (.cons (.tupK S_LEAST_FORCING_0_3 (.cons (.str _) (.cons (.str _) .nil))) (.cons (.tupK S_LEAST_FORCING_0_4 (.cons (.str _) (.cons (.str _) .nil))) (.cons (.tupK S_LEAST_FORCING_0_5 (.cons (.str _) (.cons (.str _) .nil))) (.cons (.tupK S_LEAST_FORCING_0_6 (.cons (.str _) (.cons (.str _) .nil))) .nil))))))))) (.cons rfl (fun m H => (.tupK S_LEAST_FORCING_1 (.cons (.tupK S_LEAST_FORCING_1_0 (.cons (.str _) .nil)) (.cons (.tupK S_LEAST_FORCING_1_1 (.cons (.str _) (.cons (.str _) (.cons (.str _) .nil)))) (.cons (.tupK S_LEAST_FORCING_1_2 (.cons (.str _) (.cons (.str _) (.cons (.str _) .nil)))) (.cons (.tupK S_LEAST_FORCING_1_3 (.cons (.str _) (.cons (.str _) (.cons (.str _) .nil)))) (.cons (.tupK S_LEAST_FORCING_1_4 (.cons (.str _) (.cons (.str _) (.cons (.str _) .nil)))) (.cons (.tupK S_LEAST_FORCING_1_5 (.cons (.str _) (.cons (.str _) (.cons (.str _) .nil)))) (.cons (.tupK S_LEAST_FORCING_1_6 (.cons (.str _) (.cons (.str _) (.cons (.str _) .nil)))) (.cons (.tupK S_LEAST_FORCING_1_7 (.cons (.str _) (.cons (.str _) (.cons (.str _) .nil)))) (.cons (.tupK S_LEAST_FORCING_1_8 (.cons (.str _) (.cons (.str _) (.cons (.str _) .nil)))) (.cons (.tupK S_LEAST_FORCING_1_9 (.cons (.str _) (.cons (.str _) (.cons (.str _) (.cons (.str _) .nil))))) (.cons (.tupK S_LEAST_FORCING_1_10 (.cons (.str _) (.cons (.str _) (.cons (.str _) (.cons (.str _) .nil))))) (.cons (.tupK S_LEAST_FORCING_1_11 (.cons (.str _) (.cons (.str _) (.cons (.str _) (.cons (.str _) .nil))))) (.cons (.tupK S_LEAST_FORCING_1_12 (.cons (.str _) (.cons (.str _) (.cons (.str _) (.cons (.str _) .nil))))) (.cons (.tupK S_LEAST_FORCING_1_13 (.cons (.str _) (.cons (.str _) (.cons (.str _) (.cons (.str _) .nil))))) (.cons (.tupK S_LEAST_FORCING_1_14 (.cons (.str _) (.cons (.str _) (.cons (.str _) (.cons (.str _) .nil))))) (.cons (.tupK S_LEAST_FORCING_1_15 (.cons (.str _) (.cons (.str _) (.cons (.str _) (.cons (.str _) .nil))))) (.cons (.tupK S_LEAST_FORCING_1_16 (.cons (.str _) (.cons (.str _) (.cons (.str _) (.cons (.str _) .nil))))) .nil))))))))))))))))))) .nil))
  have Tx : Txt l.prog w K mg [ao_is_best, ao_is_core, ao_is_first, ao_is_notlast, ao_is_own, ao_is_sole, ao_is_swapless, ao_ask_growing, ao_ask_names, ao_ask_still, ao_ask_things, ao_ask_tops, ao_ask_truthful, ao_has_no_boss, ao_is_open] aP ad_AT_ROW [(.inr ⟨([98, 101, 115, 116] : List Nat).toArray⟩, .ref ao_is_best), (.inr ⟨([99, 111, 114, 101] : List Nat).toArray⟩, .ref ao_is_core), (.inr ⟨([102, 105, 114, 115, 116] : List Nat).toArray⟩, .ref ao_is_first), (.inr ⟨([110, 111, 116, 108, 97, 115, 116] : List Nat).toArray⟩, .ref ao_is_notlast), (.inr ⟨([111, 119, 110] : List Nat).toArray⟩, .ref ao_is_own), (.inr ⟨([115, 111, 108, 101] : List Nat).toArray⟩, .ref ao_is_sole), (.inr ⟨([115, 119, 97, 112, 108, 101, 115, 115] : List Nat).toArray⟩, .ref ao_is_swapless)] ad_ACROSS [(.inr ⟨([103, 114, 111, 119, 105, 110, 103] : List Nat).toArray⟩, .ref ao_ask_growing), (.inr ⟨([110, 97, 109, 101, 115] : List Nat).toArray⟩, .ref ao_ask_names), (.inr ⟨([115, 116, 105, 108, 108] : List Nat).toArray⟩, .ref ao_ask_still), (.inr ⟨([116, 104, 105, 110, 103, 115] : List Nat).toArray⟩, .ref ao_ask_things), (.inr ⟨([116, 111, 112, 115] : List Nat).toArray⟩, .ref ao_ask_tops), (.inr ⟨([116, 114, 117, 116, 104, 102, 117, 108] : List Nat).toArray⟩, .ref ao_ask_truthful)] ad_WHOLE [(.inr ⟨([110, 111, 98, 111, 115, 115] : List Nat).toArray⟩, .ref ao_has_no_boss), (.inr ⟨([111, 112, 101, 110] : List Nat).toArray⟩, .ref ao_is_open)] ad_LEAST_CLASHES [(.inl 2, .ref at_LEAST_CLASHES_0), (.inl 3, .ref at_LEAST_CLASHES_1)] ad_LEAST_FORCING [(.inl 2, .ref at_LEAST_FORCING_0), (.inl 3, .ref at_LEAST_FORCING_1)] := ⟨PySem.W.mg_none_of X G z_all, PySem.W.mg_none_of X G z_any, PySem.W.mg_none_of X G z_bool, PySem.W.mg_none_of X G z_int, PySem.W.mg_none_of X G z_isinstance, PySem.W.mg_none_of X G z_len, PySem.W.mg_none_of X G z_list, PySem.W.mg_none_of X G z_range, PySem.W.mg_none_of X G z_set, PySem.W.mg_none_of X G z_sorted, PySem.W.mg_none_of X G z_str, PySem.W.mg_none_of X G z_tuple, PySem.W.mg_none_of X G z_type, PySem.W.mg_of X G zpm, PySem.W.mg_of X G zcb, PySem.W.mg_of X G zpp, ⟨_, _, _, ⟨zlp, rfl, rfl, (show 2 ≤ sizeLine from by decide), .cons ⟨_, rfl⟩ (.cons ⟨_, rfl⟩ .nil)⟩, rfl⟩, PySem.W.mg_of X G zm_AT_ROW, S_AT_ROW, R_AT_ROW, PySem.W.mg_of X G zm_ACROSS, S_ACROSS, R_ACROSS, PySem.W.mg_of X G zm_WHOLE, S_WHOLE, R_WHOLE, PySem.W.mg_of X G zm_LEAST_CLASHES, S_LEAST_CLASHES, R_LEAST_CLASHES, PySem.W.mg_of X G zm_LEAST_FORCING, S_LEAST_FORCING, R_LEAST_FORCING⟩
  have F_law_taken := fun_mk (st := s_law_taken) l_law_taken c_law_taken k_law_taken
  have G_law_taken : Gd K mg "_law_taken" s_law_taken N_law_taken a_law_taken _ := ⟨F_law_taken, PySem.W.mg_of X G m_law_taken_, k_law_taken, F_law_taken.binds (ps := N_law_taken) fun _ _ _ _ _ _ us hl => match us, hl with | [_, _], _ => rfl⟩
  have F_law_sets := fun_mk (st := s_law_sets) l_law_sets c_law_sets k_law_sets
  have G_law_sets : Gd K mg "_law_sets" s_law_sets N_law_sets a_law_sets _ := ⟨F_law_sets, PySem.W.mg_of X G m_law_sets_, k_law_sets, F_law_sets.binds (ps := N_law_sets) fun _ _ _ _ _ _ us hl => match us, hl with | [_], _ => rfl⟩
  have F_law_clashes := fun_mk (st := s_law_clashes) l_law_clashes c_law_clashes k_law_clashes
  have G_law_clashes : Gd K mg "_law_clashes" s_law_clashes N_law_clashes a_law_clashes _ := ⟨F_law_clashes, PySem.W.mg_of X G m_law_clashes_, k_law_clashes, F_law_clashes.binds (ps := N_law_clashes) fun _ _ _ _ _ _ us hl => match us, hl with | [_], _ => rfl⟩
  have F_law_forcing := fun_mk (st := s_law_forcing) l_law_forcing c_law_forcing k_law_forcing
  have G_law_forcing : Gd K mg "_law_forcing" s_law_forcing N_law_forcing a_law_forcing _ := ⟨F_law_forcing, PySem.W.mg_of X G m_law_forcing_, k_law_forcing, F_law_forcing.binds (ps := N_law_forcing) fun _ _ _ _ _ _ us hl => match us, hl with | [_], _ => rfl⟩
  have F_law_great := fun_mk (st := s_law_great) l_law_great c_law_great k_law_great
  have G_law_great : Gd K mg "_law_great" s_law_great N_law_great a_law_great _ := ⟨F_law_great, PySem.W.mg_of X G m_law_great_, k_law_great, F_law_great.binds (ps := N_law_great) fun _ _ _ _ _ _ us hl => match us, hl with | [_], _ => rfl⟩
  have F_law_axioms := fun_mk (st := s_law_axioms) l_law_axioms c_law_axioms k_law_axioms
  have G_law_axioms : Gd K mg "_law_axioms" s_law_axioms N_law_axioms a_law_axioms _ := ⟨F_law_axioms, PySem.W.mg_of X G m_law_axioms_, k_law_axioms, F_law_axioms.binds (ps := N_law_axioms) fun _ _ _ _ _ _ us hl => match us, hl with | [], _ => rfl⟩
  have F_law_wanted := fun_mk (st := s_law_wanted) l_law_wanted c_law_wanted k_law_wanted
  have G_law_wanted : Gd K mg "_law_wanted" s_law_wanted N_law_wanted a_law_wanted _ := ⟨F_law_wanted, PySem.W.mg_of X G m_law_wanted_, k_law_wanted, F_law_wanted.binds (ps := N_law_wanted) fun _ _ _ _ _ _ us hl => match us, hl with | [_, _], _ => rfl⟩
  have F_law_alike := fun_mk (st := s_law_alike) l_law_alike c_law_alike k_law_alike
  have G_law_alike : Gd K mg "_law_alike" s_law_alike N_law_alike a_law_alike _ := ⟨F_law_alike, PySem.W.mg_of X G m_law_alike_, k_law_alike, F_law_alike.binds (ps := N_law_alike) fun _ _ _ _ _ _ us hl => match us, hl with | [_, _], _ => rfl⟩
  have F_law_pick := fun_mk (st := s_law_pick) l_law_pick c_law_pick k_law_pick
  have G_law_pick : Gd K mg "_law_pick" s_law_pick N_law_pick a_law_pick _ := ⟨F_law_pick, PySem.W.mg_of X G m_law_pick_, k_law_pick, F_law_pick.binds (ps := N_law_pick) fun _ _ _ _ _ _ us hl => match us, hl with | [_, _], _ => rfl⟩
  have F_law_within := fun_mk (st := s_law_within) l_law_within c_law_within k_law_within
  have G_law_within : Gd K mg "_law_within" s_law_within N_law_within a_law_within _ := ⟨F_law_within, PySem.W.mg_of X G m_law_within_, k_law_within, F_law_within.binds (ps := N_law_within) fun _ _ _ _ _ _ us hl => match us, hl with | [_, _], _ => rfl⟩
  have F_check_people := fun_mk (st := s_check_people) l_check_people c_check_people k_check_people
  have G_check_people : Gd K mg "check_people" s_check_people N_check_people a_check_people _ := ⟨F_check_people, PySem.W.mg_of X G m_check_people_, k_check_people, F_check_people.binds (ps := N_check_people) fun _ _ _ _ _ _ us hl => match us, hl with | [_], _ => rfl⟩
  have F_least_clashes := fun_mk (st := s_least_clashes) l_least_clashes c_least_clashes k_least_clashes
  have G_least_clashes : Gd K mg "least_clashes" s_least_clashes N_least_clashes a_least_clashes _ := ⟨F_least_clashes, PySem.W.mg_of X G m_least_clashes_, k_least_clashes, F_least_clashes.binds (ps := N_least_clashes) fun _ _ _ _ _ _ us hl => match us, hl with | [_], _ => rfl⟩
  have F_least_forcing := fun_mk (st := s_least_forcing) l_least_forcing c_least_forcing k_least_forcing
  have G_least_forcing : Gd K mg "least_forcing" s_least_forcing N_least_forcing a_least_forcing _ := ⟨F_least_forcing, PySem.W.mg_of X G m_least_forcing_, k_least_forcing, F_least_forcing.binds (ps := N_least_forcing) fun _ _ _ _ _ _ us hl => match us, hl with | [_], _ => rfl⟩
  have F_axioms := fun_mk (st := s_axioms) l_axioms c_axioms k_axioms
  have G_axioms : Gd K mg "axioms" s_axioms N_axioms a_axioms _ := ⟨F_axioms, PySem.W.mg_of X G m_axioms_, k_axioms, F_axioms.binds (ps := N_axioms) fun _ _ _ _ _ _ us hl => match us, hl with | [], _ => rfl⟩
  have F_without_one := fun_mk (st := s_without_one) l_without_one c_without_one k_without_one
  have G_without_one : Gd K mg "without_one" s_without_one N_without_one a_without_one _ := ⟨F_without_one, PySem.W.mg_of X G m_without_one_, k_without_one, F_without_one.binds (ps := N_without_one) fun _ _ _ _ _ _ us hl => match us, hl with | [_, _], _ => rfl⟩
  have F_lie_in := fun_mk (st := s_lie_in) l_lie_in c_lie_in k_lie_in
  have G_lie_in : Gd K mg "lie_in" s_lie_in N_lie_in a_lie_in _ := ⟨F_lie_in, PySem.W.mg_of X G m_lie_in_, k_lie_in, F_lie_in.binds (ps := N_lie_in) fun _ _ _ _ _ _ us hl => match us, hl with | [_, _], _ => rfl⟩
  have F_without_clash := fun_mk (st := s_without_clash) l_without_clash c_without_clash k_without_clash
  have G_without_clash : Gd K mg "without_clash" s_without_clash N_without_clash a_without_clash _ := ⟨F_without_clash, PySem.W.mg_of X G m_without_clash_, k_without_clash, F_without_clash.binds (ps := N_without_clash) fun _ _ _ _ _ _ us hl => match us, hl with | [_, _], _ => rfl⟩
  have F_greatest_sets := fun_mk (st := s_greatest_sets) l_greatest_sets c_greatest_sets k_greatest_sets
  have G_greatest_sets : Gd K mg "greatest_sets" s_greatest_sets N_greatest_sets a_greatest_sets _ := ⟨F_greatest_sets, PySem.W.mg_of X G m_greatest_sets_, k_greatest_sets, F_greatest_sets.binds (ps := N_greatest_sets) fun _ _ _ _ _ _ us hl => match us, hl with | [_], _ => rfl⟩
  have F_law_is := fun_mk (st := s_law_is) l_law_is c_law_is k_law_is
  have G_law_is : Gd K mg "_law_is" s_law_is N_law_is a_law_is _ := ⟨F_law_is, PySem.W.mg_of X G m_law_is_, k_law_is, F_law_is.binds (ps := N_law_is) fun _ _ _ _ _ _ us hl => match us, hl with | [_, _], _ => rfl⟩
  have F_is_wanted := fun_mk (st := s_is_wanted) l_is_wanted c_is_wanted k_is_wanted
  have G_is_wanted : Gd K mg "is_wanted" s_is_wanted N_is_wanted a_is_wanted _ := ⟨F_is_wanted, PySem.W.mg_of X G m_is_wanted_, k_is_wanted, F_is_wanted.binds (ps := N_is_wanted) fun _ _ _ _ _ _ us hl => match us, hl with | [_], _ => rfl⟩
  have F_check_wanted := fun_mk (st := s_check_wanted) l_check_wanted c_check_wanted k_check_wanted
  have G_check_wanted : Gd K mg "check_wanted" s_check_wanted N_check_wanted a_check_wanted _ := ⟨F_check_wanted, PySem.W.mg_of X G m_check_wanted_, k_check_wanted, F_check_wanted.binds (ps := N_check_wanted) fun _ _ _ _ _ _ us hl => match us, hl with | [_, _], _ => rfl⟩
  have F_clashes := fun_mk (st := s_clashes) l_clashes c_clashes k_clashes
  have G_clashes : Gd K mg "clashes" s_clashes N_clashes a_clashes _ := ⟨F_clashes, PySem.W.mg_of X G m_clashes_, k_clashes, F_clashes.binds (ps := N_clashes) fun _ _ _ _ _ _ us hl => match us, hl with | [_, _], _ => rfl⟩
  have F_can_hold := fun_mk (st := s_can_hold) l_can_hold c_can_hold k_can_hold
  have G_can_hold : Gd K mg "can_hold" s_can_hold N_can_hold a_can_hold _ := ⟨F_can_hold, PySem.W.mg_of X G m_can_hold_, k_can_hold, F_can_hold.binds (ps := N_can_hold) fun _ _ _ _ _ _ us hl => match us, hl with | [_, _], _ => rfl⟩
  have F_with_one := fun_mk (st := s_with_one) l_with_one c_with_one k_with_one
  have G_with_one : Gd K mg "with_one" s_with_one N_with_one a_with_one _ := ⟨F_with_one, PySem.W.mg_of X G m_with_one_, k_with_one, F_with_one.binds (ps := N_with_one) fun _ _ _ _ _ _ us hl => match us, hl with | [_, _], _ => rfl⟩
  have F_can_add := fun_mk (st := s_can_add) l_can_add c_can_add k_can_add
  have G_can_add : Gd K mg "can_add" s_can_add N_can_add a_can_add _ := ⟨F_can_add, PySem.W.mg_of X G m_can_add_, k_can_add, F_can_add.binds (ps := N_can_add) fun _ _ _ _ _ _ us hl => match us, hl with | [_, _], _ => rfl⟩
  have F_forcings := fun_mk (st := s_forcings) l_forcings c_forcings k_forcings
  have G_forcings : Gd K mg "forcings" s_forcings N_forcings a_forcings _ := ⟨F_forcings, PySem.W.mg_of X G m_forcings_, k_forcings, F_forcings.binds (ps := N_forcings) fun _ _ _ _ _ _ us hl => match us, hl with | [_, _], _ => rfl⟩
  have F_forces := fun_mk (st := s_forces) l_forces c_forces k_forces
  have G_forces : Gd K mg "forces" s_forces N_forces a_forces _ := ⟨F_forces, PySem.W.mg_of X G m_forces_, k_forces, F_forces.binds (ps := N_forces) fun _ _ _ _ _ _ us hl => match us, hl with | [_, _], _ => rfl⟩
  have F_law := fun_mk (st := s_law) l_law c_law k_law
  have G_law : Gd K mg "law" s_law N_law _ _ := ⟨F_law, PySem.W.mg_of X G m_law_, k_law, F_law.binds (ps := N_law) fun _ _ _ _ _ _ us hl => match us, hl with | [_], _ => rfl⟩
  refine ⟨PySem.W.fnOf "law" "law" (defArgs s_law) (defBody s_law) (defScope s_law) .none kV_law dc_law pm_law an_law cd_law ct_law, fun s v => .of_eq rfl, fun base _ _ => ?_⟩
  have O_law_taken := ok_law_taken (P := l.prog) (w := w) (base := base) G_law_taken Tx
  have O_law_sets := ok_law_sets (P := l.prog) (w := w) (base := base) G_law_sets Tx
  have O_law_clashes := ok_law_clashes (P := l.prog) (w := w) (base := base) G_law_clashes Tx G_law_sets O_law_sets
  have O_law_forcing := ok_law_forcing (P := l.prog) (w := w) (base := base) G_law_forcing Tx G_law_sets O_law_sets
  have O_law_great := ok_law_great (P := l.prog) (w := w) (base := base) G_law_great Tx G_law_sets O_law_sets
  have O_law_axioms := ok_law_axioms (P := l.prog) (w := w) (base := base) G_law_axioms Tx
  have O_law_wanted := ok_law_wanted (P := l.prog) (w := w) (base := base) G_law_wanted Tx G_law_axioms O_law_axioms G_law_taken O_law_taken
  have O_law_alike := ok_law_alike (P := l.prog) (w := w) (base := base) G_law_alike Tx 8 (by omega)
  have O_law_pick := ok_law_pick (P := l.prog) (w := w) (base := base) G_law_pick Tx G_law_taken O_law_taken
  have O_law_within := ok_law_within (P := l.prog) (w := w) (base := base) G_law_within Tx
  have O_check_people := ok_check_people (P := l.prog) (w := w) (base := base) G_check_people Tx
  have O_least_clashes := ok_least_clashes (P := l.prog) (w := w) (base := base) G_least_clashes Tx G_check_people O_check_people
  have O_least_forcing := ok_least_forcing (P := l.prog) (w := w) (base := base) G_least_forcing Tx G_check_people O_check_people
  have O_axioms := ok_axioms (P := l.prog) (w := w) (base := base) G_axioms Tx
  have O_without_one := ok_without_one (P := l.prog) (w := w) (base := base) G_without_one Tx
  have O_lie_in := ok_lie_in (P := l.prog) (w := w) (base := base) G_lie_in Tx
  have O_without_clash := ok_without_clash (P := l.prog) (w := w) (base := base) G_without_clash Tx G_without_one O_without_one G_lie_in O_lie_in
  have O_greatest_sets := ok_greatest_sets (P := l.prog) (w := w) (base := base) G_greatest_sets Tx G_least_clashes O_least_clashes G_axioms O_axioms G_without_clash O_without_clash
  have O_law_is := ok_law_is (P := l.prog) (w := w) (base := base) G_law_is Tx
  have O_is_wanted := ok_is_wanted (P := l.prog) (w := w) (base := base) G_is_wanted Tx G_axioms O_axioms
  have O_check_wanted := ok_check_wanted (P := l.prog) (w := w) (base := base) G_check_wanted Tx G_check_people O_check_people G_is_wanted O_is_wanted
  have O_clashes := ok_clashes (P := l.prog) (w := w) (base := base) G_clashes Tx G_check_wanted O_check_wanted G_least_clashes O_least_clashes G_lie_in O_lie_in
  have O_can_hold := ok_can_hold (P := l.prog) (w := w) (base := base) G_can_hold Tx G_clashes O_clashes
  have O_with_one := ok_with_one (P := l.prog) (w := w) (base := base) G_with_one Tx
  have O_can_add := ok_can_add (P := l.prog) (w := w) (base := base) G_can_add Tx G_check_wanted O_check_wanted G_axioms O_axioms G_can_hold O_can_hold G_with_one O_with_one
  have O_forcings := ok_forcings (P := l.prog) (w := w) (base := base) G_forcings Tx G_check_wanted O_check_wanted G_least_forcing O_least_forcing G_lie_in O_lie_in
  have O_forces := ok_forces (P := l.prog) (w := w) (base := base) G_forces Tx G_can_hold O_can_hold G_forcings O_forcings
  exact ok_law G_law Tx G_law_taken O_law_taken G_law_clashes O_law_clashes G_law_forcing O_law_forcing G_law_great O_law_great G_law_wanted O_law_wanted G_law_alike O_law_alike G_law_pick O_law_pick G_law_within O_law_within G_least_clashes O_least_clashes G_least_forcing O_least_forcing G_greatest_sets O_greatest_sets G_law_is O_law_is G_law_axioms O_law_axioms G_can_add O_can_add G_clashes O_clashes G_forcings O_forcings G_can_hold O_can_hold G_forces O_forces law_all
theorem walk {l : PySem.W.OpenLaw} {q : Program} {loose : List Str} {XP : (Str → Option Value) → Heap → Prop} {YP : World → Heap → Prop} {d : DefRec} {K : Params → PySem.W.Frag} (hn : l.most = some 63) (hdf : d.params.defaults = [])
    (hY : ∀ (w : World) (h : Heap), YP w h → (K w.params).In h)
    (F : ∀ (w : World) (mg : Str → Option Value) (fa : Addr) (h : Heap), (K w.params).In h → h.Ns mainGlobals mg → mg d.name = some (.ref fa) → ∃ fd : FuncData, (∀ (s : Shared) (u : Value), BindsTo s fd ⟨[u], []⟩ [("script", u)]) ∧ ∀ base : Heap, (K w.params).In base → base.Ns mainGlobals mg → FnOk l.prog w (K w.params) mg base CX0 10 fa fd ["script"] (spLaw (K w.params))) :
    PySem.W.WalkO q loose XP YP l.row.toRowW d [] (fun f vs => PySem.call f vs) :=
  L2.walk_of (n := 63) (k := 10) (x := "script") (CX := fun _ => CX0) (sp := fun w => spLaw (K w.params)) hn (by decide) hdf ⟨rfl, by decide, by decide⟩ hY F (fun _ _ a ns hl _ hS => ⟨a, ns, rfl, hS, hl, fun _ => rfl⟩) fun _ _ _ _ _ z => z
end Zl
open PySem PySem.W PyProof.Rows in
set_option maxRecDepth 100000 in
set_option maxHeartbeats 0 in
theorem PySem.Challenge.cw_dealclashes_k03_whole_maps_holds : PySem.Challenge.rw_dealclashes_k03_whole_maps.Holds := by
  w_on; o_law; k_head; (case hw => w_witness2)
  k_fill
  refine Zl.walk (l := PySem.Challenge.rw_dealclashes_k03_whole_maps) rfl rfl (fun w h Y => PySem.W.kIn_of Y) ?F
  case F =>
    intro w mg fa h KX G hmg
    refine' Zl.all_mk KX G hmg ?m_law_taken_ ?l_law_taken ?c_law_taken ?k_law_taken ?m_law_sets_ ?l_law_sets ?c_law_sets ?k_law_sets ?m_law_clashes_ ?l_law_clashes ?c_law_clashes ?k_law_clashes ?m_law_forcing_ ?l_law_forcing ?c_law_forcing ?k_law_forcing ?m_law_great_ ?l_law_great ?c_law_great ?k_law_great ?m_law_axioms_ ?l_law_axioms ?c_law_axioms ?k_law_axioms ?m_law_wanted_ ?l_law_wanted ?c_law_wanted ?k_law_wanted ?m_law_alike_ ?l_law_alike ?c_law_alike ?k_law_alike ?m_law_pick_ ?l_law_pick ?c_law_pick ?k_law_pick ?m_law_within_ ?l_law_within ?c_law_within ?k_law_within ?m_check_people_ ?l_check_people ?c_check_people ?k_check_people ?m_least_clashes_ ?l_least_clashes ?c_least_clashes ?k_least_clashes ?m_least_forcing_ ?l_least_forcing ?c_least_forcing ?k_least_forcing ?m_axioms_ ?l_axioms ?c_axioms ?k_axioms ?m_without_one_ ?l_without_one ?c_without_one ?k_without_one ?m_lie_in_ ?l_lie_in ?c_lie_in ?k_lie_in ?m_without_clash_ ?l_without_clash ?c_without_clash ?k_without_clash ?m_greatest_sets_ ?l_greatest_sets ?c_greatest_sets ?k_greatest_sets ?m_law_is_ ?l_law_is ?c_law_is ?k_law_is ?m_is_wanted_ ?l_is_wanted ?c_is_wanted ?k_is_wanted ?m_check_wanted_ ?l_check_wanted ?c_check_wanted ?k_check_wanted ?m_clashes_ ?l_clashes ?c_clashes ?k_clashes ?m_can_hold_ ?l_can_hold ?c_can_hold ?k_can_hold ?m_with_one_ ?l_with_one ?c_with_one ?k_with_one ?m_can_add_ ?l_can_add ?c_can_add ?k_can_add ?m_forcings_ ?l_forcings ?c_forcings ?k_forcings ?m_forces_ ?l_forces ?c_forces ?k_forces ?m_law_ ?l_law ?c_law ?k_law ?z_all ?z_any ?z_bool ?z_int ?z_isinstance ?z_len ?z_list ?z_range ?z_set ?z_sorted ?z_str ?z_tuple ?z_type ?zpm ?zcb ?zpp ?zlp ?zm_AT_ROW ?zd_AT_ROW ?zm_ACROSS ?zd_ACROSS ?zm_WHOLE ?zd_WHOLE ?zm_LEAST_CLASHES ?zd_LEAST_CLASHES ?zm_LEAST_FORCING ?zd_LEAST_FORCING ?ze_AT_ROW ?zs_AT_ROW ?ze_ACROSS ?zs_ACROSS ?ze_WHOLE ?zs_WHOLE ?ze_LEAST_CLASHES ?zs_LEAST_CLASHES ?ze_LEAST_FORCING ?zs_LEAST_FORCING ?zt_LEAST_CLASHES_0 ?zi_LEAST_CLASHES_0 ?zt_LEAST_CLASHES_0_0 ?zi_LEAST_CLASHES_0_0 ?zt_LEAST_CLASHES_0_1 ?zi_LEAST_CLASHES_0_1 ?zt_LEAST_CLASHES_0_2 ?zi_LEAST_CLASHES_0_2 ?zt_LEAST_CLASHES_0_3 ?zi_LEAST_CLASHES_0_3 ?zt_LEAST_CLASHES_0_4 ?zi_LEAST_CLASHES_0_4 ?zt_LEAST_CLASHES_0_5 ?zi_LEAST_CLASHES_0_5 ?zt_LEAST_CLASHES_0_6 ?zi_LEAST_CLASHES_0_6 ?zt_LEAST_CLASHES_0_7 ?zi_LEAST_CLASHES_0_7 ?zt_LEAST_CLASHES_0_8 ?zi_LEAST_CLASHES_0_8 ?zt_LEAST_CLASHES_0_9 ?zi_LEAST_CLASHES_0_9 ?zt_LEAST_CLASHES_1 ?zi_LEAST_CLASHES_1 ?zt_LEAST_CLASHES_1_0 ?zi_LEAST_CLASHES_1_0 ?zt_LEAST_CLASHES_1_1 ?zi_LEAST_CLASHES_1_1 ?zt_LEAST_CLASHES_1_2 ?zi_LEAST_CLASHES_1_2 ?zt_LEAST_CLASHES_1_3 ?zi_LEAST_CLASHES_1_3 ?zt_LEAST_CLASHES_1_4 ?zi_LEAST_CLASHES_1_4 ?zt_LEAST_CLASHES_1_5 ?zi_LEAST_CLASHES_1_5 ?zt_LEAST_CLASHES_1_6 ?zi_LEAST_CLASHES_1_6 ?zt_LEAST_CLASHES_1_7 ?zi_LEAST_CLASHES_1_7 ?zt_LEAST_CLASHES_1_8 ?zi_LEAST_CLASHES_1_8 ?zt_LEAST_CLASHES_1_9 ?zi_LEAST_CLASHES_1_9 ?zt_LEAST_CLASHES_1_10 ?zi_LEAST_CLASHES_1_10 ?zt_LEAST_CLASHES_1_11 ?zi_LEAST_CLASHES_1_11 ?zt_LEAST_CLASHES_1_12 ?zi_LEAST_CLASHES_1_12 ?zt_LEAST_CLASHES_1_13 ?zi_LEAST_CLASHES_1_13 ?zt_LEAST_CLASHES_1_14 ?zi_LEAST_CLASHES_1_14 ?zt_LEAST_CLASHES_1_15 ?zi_LEAST_CLASHES_1_15 ?zt_LEAST_CLASHES_1_16 ?zi_LEAST_CLASHES_1_16 ?zt_LEAST_CLASHES_1_17 ?zi_LEAST_CLASHES_1_17 ?zt_LEAST_CLASHES_1_18 ?zi_LEAST_CLASHES_1_18 ?zt_LEAST_CLASHES_1_19 ?zi_LEAST_CLASHES_1_19 ?zt_LEAST_CLASHES_1_20 ?zi_LEAST_CLASHES_1_20 ?zt_LEAST_CLASHES_1_21 ?zi_LEAST_CLASHES_1_21 ?zt_LEAST_CLASHES_1_22 ?zi_LEAST_CLASHES_1_22 ?zt_LEAST_CLASHES_1_23 ?zi_LEAST_CLASHES_1_23 ?zt_LEAST_CLASHES_1_24 ?zi_LEAST_CLASHES_1_24 ?zt_LEAST_CLASHES_1_25 ?zi_LEAST_CLASHES_1_25 ?zt_LEAST_FORCING_0 ?zi_LEAST_FORCING_0 ?zt_LEAST_FORCING_0_0 ?zi_LEAST_FORCING_0_0 ?zt_LEAST_FORCING_0_1 ?zi_LEAST_FORCING_0_1 ?zt_LEAST_FORCING_0_2 ?zi_LEAST_FORCING_0_2 ?zt_LEAST_FORCING_0_3 ?zi_LEAST_FORCING_0_3 ?zt_LEAST_FORCING_0_4 ?zi_LEAST_FORCING_0_4 ?zt_LEAST_FORCING_0_5 ?zi_LEAST_FORCING_0_5 ?zt_LEAST_FORCING_0_6 ?zi_LEAST_FORCING_0_6 ?zt_LEAST_FORCING_1 ?zi_LEAST_FORCING_1 ?zt_LEAST_FORCING_1_0 ?zi_LEAST_FORCING_1_0 ?zt_LEAST_FORCING_1_1 ?zi_LEAST_FORCING_1_1 ?zt_LEAST_FORCING_1_2 ?zi_LEAST_FORCING_1_2 ?zt_LEAST_FORCING_1_3 ?zi_LEAST_FORCING_1_3 ?zt_LEAST_FORCING_1_4 ?zi_LEAST_FORCING_1_4 ?zt_LEAST_FORCING_1_5 ?zi_LEAST_FORCING_1_5 ?zt_LEAST_FORCING_1_6 ?zi_LEAST_FORCING_1_6 ?zt_LEAST_FORCING_1_7 ?zi_LEAST_FORCING_1_7 ?zt_LEAST_FORCING_1_8 ?zi_LEAST_FORCING_1_8 ?zt_LEAST_FORCING_1_9 ?zi_LEAST_FORCING_1_9 ?zt_LEAST_FORCING_1_10 ?zi_LEAST_FORCING_1_10 ?zt_LEAST_FORCING_1_11 ?zi_LEAST_FORCING_1_11 ?zt_LEAST_FORCING_1_12 ?zi_LEAST_FORCING_1_12 ?zt_LEAST_FORCING_1_13 ?zi_LEAST_FORCING_1_13 ?zt_LEAST_FORCING_1_14 ?zi_LEAST_FORCING_1_14 ?zt_LEAST_FORCING_1_15 ?zi_LEAST_FORCING_1_15 ?zt_LEAST_FORCING_1_16 ?zi_LEAST_FORCING_1_16
    (case m_law_taken_ => k_is)
    (case l_law_taken => k_is)
    (case c_law_taken => k_is)
    (case k_law_taken => k_is)
    (case m_law_sets_ => k_is)
    (case l_law_sets => k_is)
    (case c_law_sets => k_is)
    (case k_law_sets => k_is)
    (case m_law_clashes_ => k_is)
    (case l_law_clashes => k_is)
    (case c_law_clashes => k_is)
    (case k_law_clashes => k_is)
    (case m_law_forcing_ => k_is)
    (case l_law_forcing => k_is)
    (case c_law_forcing => k_is)
    (case k_law_forcing => k_is)
    (case m_law_great_ => k_is)
    (case l_law_great => k_is)
    (case c_law_great => k_is)
    (case k_law_great => k_is)
    (case m_law_axioms_ => k_is)
    (case l_law_axioms => k_is)
    (case c_law_axioms => k_is)
    (case k_law_axioms => k_is)
    (case m_law_wanted_ => k_is)
    (case l_law_wanted => k_is)
    (case c_law_wanted => k_is)
    (case k_law_wanted => k_is)
    (case m_law_alike_ => k_is)
    (case l_law_alike => k_is)
    (case c_law_alike => k_is)
    (case k_law_alike => k_is)
    (case m_law_pick_ => k_is)
    (case l_law_pick => k_is)
    (case c_law_pick => k_is)
    (case k_law_pick => k_is)
    (case m_law_within_ => k_is)
    (case l_law_within => k_is)
    (case c_law_within => k_is)
    (case k_law_within => k_is)
    (case m_check_people_ => k_is)
    (case l_check_people => k_is)
    (case c_check_people => k_is)
    (case k_check_people => k_is)
    (case m_least_clashes_ => k_is)
    (case l_least_clashes => k_is)
    (case c_least_clashes => k_is)
    (case k_least_clashes => k_is)
    (case m_least_forcing_ => k_is)
    (case l_least_forcing => k_is)
    (case c_least_forcing => k_is)
    (case k_least_forcing => k_is)
    (case m_axioms_ => k_is)
    (case l_axioms => k_is)
    (case c_axioms => k_is)
    (case k_axioms => k_is)
    (case m_without_one_ => k_is)
    (case l_without_one => k_is)
    (case c_without_one => k_is)
    (case k_without_one => k_is)
    (case m_lie_in_ => k_is)
    (case l_lie_in => k_is)
    (case c_lie_in => k_is)
    (case k_lie_in => k_is)
    (case m_without_clash_ => k_is)
    (case l_without_clash => k_is)
    (case c_without_clash => k_is)
    (case k_without_clash => k_is)
    (case m_greatest_sets_ => k_is)
    (case l_greatest_sets => k_is)
    (case c_greatest_sets => k_is)
    (case k_greatest_sets => k_is)
    (case m_law_is_ => k_is)
    (case l_law_is => k_is)
    (case c_law_is => k_is)
    (case k_law_is => k_is)
    (case m_is_wanted_ => k_is)
    (case l_is_wanted => k_is)
    (case c_is_wanted => k_is)
    (case k_is_wanted => k_is)
    (case m_check_wanted_ => k_is)
    (case l_check_wanted => k_is)
    (case c_check_wanted => k_is)
    (case k_check_wanted => k_is)
    (case m_clashes_ => k_is)
    (case l_clashes => k_is)
    (case c_clashes => k_is)
    (case k_clashes => k_is)
    (case m_can_hold_ => k_is)
    (case l_can_hold => k_is)
    (case c_can_hold => k_is)
    (case k_can_hold => k_is)
    (case m_with_one_ => k_is)
    (case l_with_one => k_is)
    (case c_with_one => k_is)
    (case k_with_one => k_is)
    (case m_can_add_ => k_is)
    (case l_can_add => k_is)
    (case c_can_add => k_is)
    (case k_can_add => k_is)
    (case m_forcings_ => k_is)
    (case l_forcings => k_is)
    (case c_forcings => k_is)
    (case k_forcings => k_is)
    (case m_forces_ => k_is)
    (case l_forces => k_is)
    (case c_forces => k_is)
    (case k_forces => k_is)
    (case m_law_ => k_is)
    (case l_law => k_is)
    (case c_law => k_is)
    (case k_law => k_is)
    (case z_all => k_is)
    (case z_any => k_is)
    (case z_bool => k_is)
    (case z_int => k_is)
    (case z_isinstance => k_is)
    (case z_len => k_is)
    (case z_list => k_is)
    (case z_range => k_is)
    (case z_set => k_is)
    (case z_sorted => k_is)
    (case z_str => k_is)
    (case z_tuple => k_is)
    (case z_type => k_is)
    (case zpm => k_is)
    (case zcb => k_is)
    (case zpp => k_is)
    (case zlp => k_is)
    (case zm_AT_ROW => k_is)
    (case zd_AT_ROW => k_is)
    (case zm_ACROSS => k_is)
    (case zd_ACROSS => k_is)
    (case zm_WHOLE => k_is)
    (case zd_WHOLE => k_is)
    (case zm_LEAST_CLASHES => k_is)
    (case zd_LEAST_CLASHES => k_is)
    (case zm_LEAST_FORCING => k_is)
    (case zd_LEAST_FORCING => k_is)
    (case ze_AT_ROW => rfl)
    (case zs_AT_ROW => rfl)
    (case ze_ACROSS => rfl)
    (case zs_ACROSS => rfl)
    (case ze_WHOLE => rfl)
    (case zs_WHOLE => rfl)
    (case ze_LEAST_CLASHES => rfl)
    (case zs_LEAST_CLASHES => rfl)
    (case ze_LEAST_FORCING => rfl)
    (case zs_LEAST_FORCING => rfl)
    (case zt_LEAST_CLASHES_0 => k_is)
    (case zi_LEAST_CLASHES_0 => rfl)
    (case zt_LEAST_CLASHES_0_0 => k_is)
    (case zi_LEAST_CLASHES_0_0 => rfl)
    (case zt_LEAST_CLASHES_0_1 => k_is)
    (case zi_LEAST_CLASHES_0_1 => rfl)
    (case zt_LEAST_CLASHES_0_2 => k_is)
    (case zi_LEAST_CLASHES_0_2 => rfl)
    (case zt_LEAST_CLASHES_0_3 => k_is)
    (case zi_LEAST_CLASHES_0_3 => rfl)
    (case zt_LEAST_CLASHES_0_4 => k_is)
    (case zi_LEAST_CLASHES_0_4 => rfl)
    (case zt_LEAST_CLASHES_0_5 => k_is)
    (case zi_LEAST_CLASHES_0_5 => rfl)
    (case zt_LEAST_CLASHES_0_6 => k_is)
    (case zi_LEAST_CLASHES_0_6 => rfl)
    (case zt_LEAST_CLASHES_0_7 => k_is)
    (case zi_LEAST_CLASHES_0_7 => rfl)
    (case zt_LEAST_CLASHES_0_8 => k_is)
    (case zi_LEAST_CLASHES_0_8 => rfl)
    (case zt_LEAST_CLASHES_0_9 => k_is)
    (case zi_LEAST_CLASHES_0_9 => rfl)
    (case zt_LEAST_CLASHES_1 => k_is)
    (case zi_LEAST_CLASHES_1 => rfl)
    (case zt_LEAST_CLASHES_1_0 => k_is)
    (case zi_LEAST_CLASHES_1_0 => rfl)
    (case zt_LEAST_CLASHES_1_1 => k_is)
    (case zi_LEAST_CLASHES_1_1 => rfl)
    (case zt_LEAST_CLASHES_1_2 => k_is)
    (case zi_LEAST_CLASHES_1_2 => rfl)
    (case zt_LEAST_CLASHES_1_3 => k_is)
    (case zi_LEAST_CLASHES_1_3 => rfl)
    (case zt_LEAST_CLASHES_1_4 => k_is)
    (case zi_LEAST_CLASHES_1_4 => rfl)
    (case zt_LEAST_CLASHES_1_5 => k_is)
    (case zi_LEAST_CLASHES_1_5 => rfl)
    (case zt_LEAST_CLASHES_1_6 => k_is)
    (case zi_LEAST_CLASHES_1_6 => rfl)
    (case zt_LEAST_CLASHES_1_7 => k_is)
    (case zi_LEAST_CLASHES_1_7 => rfl)
    (case zt_LEAST_CLASHES_1_8 => k_is)
    (case zi_LEAST_CLASHES_1_8 => rfl)
    (case zt_LEAST_CLASHES_1_9 => k_is)
    (case zi_LEAST_CLASHES_1_9 => rfl)
    (case zt_LEAST_CLASHES_1_10 => k_is)
    (case zi_LEAST_CLASHES_1_10 => rfl)
    (case zt_LEAST_CLASHES_1_11 => k_is)
    (case zi_LEAST_CLASHES_1_11 => rfl)
    (case zt_LEAST_CLASHES_1_12 => k_is)
    (case zi_LEAST_CLASHES_1_12 => rfl)
    (case zt_LEAST_CLASHES_1_13 => k_is)
    (case zi_LEAST_CLASHES_1_13 => rfl)
    (case zt_LEAST_CLASHES_1_14 => k_is)
    (case zi_LEAST_CLASHES_1_14 => rfl)
    (case zt_LEAST_CLASHES_1_15 => k_is)
    (case zi_LEAST_CLASHES_1_15 => rfl)
    (case zt_LEAST_CLASHES_1_16 => k_is)
    (case zi_LEAST_CLASHES_1_16 => rfl)
    (case zt_LEAST_CLASHES_1_17 => k_is)
    (case zi_LEAST_CLASHES_1_17 => rfl)
    (case zt_LEAST_CLASHES_1_18 => k_is)
    (case zi_LEAST_CLASHES_1_18 => rfl)
    (case zt_LEAST_CLASHES_1_19 => k_is)
    (case zi_LEAST_CLASHES_1_19 => rfl)
    (case zt_LEAST_CLASHES_1_20 => k_is)
    (case zi_LEAST_CLASHES_1_20 => rfl)
    (case zt_LEAST_CLASHES_1_21 => k_is)
    (case zi_LEAST_CLASHES_1_21 => rfl)
    (case zt_LEAST_CLASHES_1_22 => k_is)
    (case zi_LEAST_CLASHES_1_22 => rfl)
    (case zt_LEAST_CLASHES_1_23 => k_is)
    (case zi_LEAST_CLASHES_1_23 => rfl)
    (case zt_LEAST_CLASHES_1_24 => k_is)
    (case zi_LEAST_CLASHES_1_24 => rfl)
    (case zt_LEAST_CLASHES_1_25 => k_is)
    (case zi_LEAST_CLASHES_1_25 => rfl)
    (case zt_LEAST_FORCING_0 => k_is)
    (case zi_LEAST_FORCING_0 => rfl)
    (case zt_LEAST_FORCING_0_0 => k_is)
    (case zi_LEAST_FORCING_0_0 => rfl)
    (case zt_LEAST_FORCING_0_1 => k_is)
    (case zi_LEAST_FORCING_0_1 => rfl)
    (case zt_LEAST_FORCING_0_2 => k_is)
    (case zi_LEAST_FORCING_0_2 => rfl)
    (case zt_LEAST_FORCING_0_3 => k_is)
    (case zi_LEAST_FORCING_0_3 => rfl)
    (case zt_LEAST_FORCING_0_4 => k_is)
    (case zi_LEAST_FORCING_0_4 => rfl)
    (case zt_LEAST_FORCING_0_5 => k_is)
    (case zi_LEAST_FORCING_0_5 => rfl)
    (case zt_LEAST_FORCING_0_6 => k_is)
    (case zi_LEAST_FORCING_0_6 => rfl)
    (case zt_LEAST_FORCING_1 => k_is)
    (case zi_LEAST_FORCING_1 => rfl)
    (case zt_LEAST_FORCING_1_0 => k_is)
    (case zi_LEAST_FORCING_1_0 => rfl)
    (case zt_LEAST_FORCING_1_1 => k_is)
    (case zi_LEAST_FORCING_1_1 => rfl)
    (case zt_LEAST_FORCING_1_2 => k_is)
    (case zi_LEAST_FORCING_1_2 => rfl)
    (case zt_LEAST_FORCING_1_3 => k_is)
    (case zi_LEAST_FORCING_1_3 => rfl)
    (case zt_LEAST_FORCING_1_4 => k_is)
    (case zi_LEAST_FORCING_1_4 => rfl)
    (case zt_LEAST_FORCING_1_5 => k_is)
    (case zi_LEAST_FORCING_1_5 => rfl)
    (case zt_LEAST_FORCING_1_6 => k_is)
    (case zi_LEAST_FORCING_1_6 => rfl)
    (case zt_LEAST_FORCING_1_7 => k_is)
    (case zi_LEAST_FORCING_1_7 => rfl)
    (case zt_LEAST_FORCING_1_8 => k_is)
    (case zi_LEAST_FORCING_1_8 => rfl)
    (case zt_LEAST_FORCING_1_9 => k_is)
    (case zi_LEAST_FORCING_1_9 => rfl)
    (case zt_LEAST_FORCING_1_10 => k_is)
    (case zi_LEAST_FORCING_1_10 => rfl)
    (case zt_LEAST_FORCING_1_11 => k_is)
    (case zi_LEAST_FORCING_1_11 => rfl)
    (case zt_LEAST_FORCING_1_12 => k_is)
    (case zi_LEAST_FORCING_1_12 => rfl)
    (case zt_LEAST_FORCING_1_13 => k_is)
    (case zi_LEAST_FORCING_1_13 => rfl)
    (case zt_LEAST_FORCING_1_14 => k_is)
    (case zi_LEAST_FORCING_1_14 => rfl)
    (case zt_LEAST_FORCING_1_15 => k_is)
    (case zi_LEAST_FORCING_1_15 => rfl)
    (case zt_LEAST_FORCING_1_16 => k_is)
    (case zi_LEAST_FORCING_1_16 => rfl)
