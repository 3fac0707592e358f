import PyProof.Rows.All
import Wide.All
import OpenK.AllK
import Wide.FinOn
import PyProof.EqAt
import PyProof.EqKinds
import PyProof.TupleCall
import HandS.ForMost
import HandS.Walk
import HandS.TupAny
import HandS.More
import HandS.IsInst
import KE.KeyNested
import HandS.Deep
import HandS.TupSets
import HandS.Conv
import KE.KIndexOf
import HandS.SetFor
import KE.KSortedM
import HandS.RepeatKit
import HandS.ClsMeth
import HandS.Records
import HandS.Zip
import HandS.Style
import KE.GoesEnum
import HandS.DictComp
import PyProof.DictRoadsH
import HandS.DictTup
import HandS.Small
import HandS.Codes
import KE.KDictList
import KE.KDictSum
import PySem.Challenge.RW_dealclashes_k01_whole_rules
set_option Elab.async false
set_option linter.all false
set_option maxRecDepth 100000
/-! Z0: a shallow evaluator over the hand layer: values as trees, readings as functions that the kernel can run, draws as a tree. -/
namespace Zl
open PySem L2
inductive D where
  | non | bl (b : Bool) | int (i : Int) | str (s : List Nat) | ty (n : String) | fn (k : Nat)
  | tup (xs : List D) | lst (xs : List D) | dct (ks vs : List D)
/-- what comes of a piece of a program: a value, a draw from n numbers, nothing that is known -/
inductive T (α : Type) where
  | ret (a : α) | draw (n : Nat) (k : Nat → T α) | fail
def T.bind {α β : Type} : T α → (α → T β) → T β
  | .ret a, k => k a
  | .draw n f, k => .draw n fun i => (f i).bind k
  | .fail, _ => .fail
def T.all {α : Type} : T α → (α → Prop) → Prop
  | .ret a, P => P a
  | .draw n f, P => ∀ i, i < n → (f i).all P
  | .fail, _ => False
theorem T.all_mono {α : Type} {P Q : α → Prop} (h : ∀ a, P a → Q a) : ∀ {t : T α}, t.all P → t.all Q
  | .ret a, x => h a x
  | .draw _ f, x => fun i hi => T.all_mono h (t := f i) (x i hi)
  | .fail, x => x
theorem T.all_bind {α β : Type} {k : α → T β} {P : β → Prop} : ∀ {t : T α}, (t.bind k).all P → t.all fun a => (k a).all P
  | .ret _, x => x
  | .draw _ f, x => fun i hi => T.all_bind (t := f i) (x i hi)
  | .fail, x => x
theorem T.bind_all {α β : Type} {k : α → T β} {P : β → Prop} : ∀ {t : T α}, (t.all fun a => (k a).all P) → (t.bind k).all P
  | .ret _, x => x
  | .draw _ f, x => fun i hi => T.bind_all (t := f i) (x i hi)
  | .fail, x => x
def ofO {α : Type} : Option α → T α
  | some a => .ret a
  | none => .fail
theorem all_ofO {α : Type} {o : Option α} {P : α → Prop} (h : (ofO o).all P) : ∃ a, o = some a ∧ P a := by
  cases o with
  | none => exact h.elim
  | some a => exact ⟨a, rfl, h⟩
/-- the defs by number, the world (hashes) -/
structure Ev where
  fn : Nat → Option Addr
  w : World
mutual
/-- a key of a dict: ints, texts, None, tuples of such -/
def nk : D → Option NestedKey
  | .non => some .none
  | .int i => some (.num i)
  | .str s => some (.text ⟨s.toArray⟩)
  | .tup xs => match nks xs with
    | some ks => some (.tup ks)
    | none => none
  | _ => none
def nks : List D → Option (List NestedKey)
  | [] => some []
  | x :: xs => match nk x, nks xs with
    | some k, some ks => some (k :: ks)
    | _, _ => none
end
/-- the object of a dict: its keys, where they stand, its values -/
def dctP (w : World) (xs : List (NestedKey × Addr × Value)) (ep : Nat) (a : Addr) (h : Heap) : Prop := (a == sysModules) = false ∧ ∃ o es, h.get? a = some o ∧ o.ExactDict ∧ o.data = .dict es ep ∧ es.toList = xs.map fun x => ⟨NestedKey.hash w x.1, .ref x.2.1, x.2.2⟩
abbrev dctO (w : World) (xs : List (NestedKey × Addr × Value)) (ep : Nat) (a : Addr) : HO := .ext (dctP w xs ep a)
def dKeys (xs : List (NestedKey × Addr × Value)) : List V := xs.map fun x => V.ref x.2.1
structure DctOk (xs : List (NestedKey × Addr × Value)) (vv : List V) (ks : List D) : Prop where
  nk : nks ks = some (xs.map (·.1))
  nd : (xs.map (·.1)).Nodup
  dp : ∀ x ∈ xs, x.1.depth ≤ 8
  vs : Vals vv (xs.map (·.2.2))
  sz : xs.length ≤ 10000
/-- what a slot holds: a value, the n-th list of the frame's own (it may turn), the draws' list -/
inductive SV where
  | v (d : D) | r (n : Nat) | row
abbrev Fr := List (Option SV)
/-- the frame's own lists -/
abbrev Hz := List (List D)
section
variable (K : PySem.W.Frag) (F : Ev)
/-- a static tuple -/
def StT (a : Addr) (xs : List V) : Prop :=
  ∃ (o : Obj) (its : Array Value) (n : Nat), (K.lookup a = some o ∧ o.cls = .type "tuple" ∧ o.data = .seq its n ∧ its.size ≤ sizeLine ∧ Vals xs its.toList) ∧ o.dict = none
/-- a tuple whose object is known to bear no dict -/
def TupO (H : Hp) (a : Addr) (xs : List V) : Prop := ∃ o, H a = some (.frz o (.tup xs)) ∧ o.dict = none
mutual
inductive Rep (m : List Addr) (H : Hp) : V → D → Prop
  | non : Rep m H .non .non
  | bl (b : Bool) : Rep m H (.bl b) (.bl b)
  | int (i : Int) : Rep m H (.int i) (.int i)
  | str (s : List Nat) : Rep m H (.str ⟨s.toArray⟩) (.str s)
  | ty (n : String) : Rep m H (.ty n) (.ty n)
  | fn {k : Nat} {a : Addr} : F.fn k = some a → Rep m H (.ref a) (.fn k)
  | tup {a : Addr} {vs : List V} {ds : List D} : a ∉ m → TupO H a vs → Reps m H vs ds → Rep m H (.ref a) (.tup ds)
  | tupK {a : Addr} {vs : List V} {ds : List D} : StT K a vs → Reps m H vs ds → Rep m H (.ref a) (.tup ds)
  | lst {a : Addr} {vs : List V} {ds : List D} : a ∉ m → H a = some (.lst vs) → Reps m H vs ds → Rep m H (.ref a) (.lst ds)
  | dct {a : Addr} {xs : List (NestedKey × Addr × Value)} {ep : Nat} {vv : List V} {ks vs : List D} : a ∉ m → H a = some (dctO F.w xs ep a) → DctOk xs vv ks → Reps m H (dKeys xs) ks → Reps m H vv vs → Rep m H (.ref a) (.dct ks vs)
inductive Reps (m : List Addr) (H : Hp) : List V → List D → Prop
  | nil : Reps m H [] []
  | cons {v : V} {vs : List V} {d : D} {ds : List D} : Rep m H v d → Reps m H vs ds → Reps m H (v :: vs) (d :: ds)
end
/-- a static list -/
def StL (a : Addr) (xs : List V) : Prop :=
  ∃ (o : Obj) (its : Array Value) (n : Nat), K.lookup a = some o ∧ o.cls = .type "list" ∧ o.dict = none ∧ o.data = .seq its n ∧ its.size ≤ sizeLine ∧ Vals xs its.toList
/-- the script: locked, or of the text -/
def ScrOk (H : Hp) (s : Addr) (xs : List V) : Prop := (∃ o, H s = some (.frz o (.lst xs))) ∨ StL K s xs
/-- the script's draws stand in a list of four: the script, three ints -/
def RowOk (H : Hp) (a : Addr) : Prop := ∃ (s : Addr) (ns : List Int) (i z r : Int), H a = some (.lst [.ref s, .int i, .int z, .int r]) ∧ ScrOk K H s (ns.map V.int) ∧ ns.length ≤ 63 ∧ 0 ≤ i
def LstC (m : List Addr) (H : Hp) (a : Addr) (ds : List D) : Prop := ∃ vs, H a = some (.lst vs) ∧ Reps K F m H vs ds
/-- a dict of the frame's own, its keys ints -/
def DctC (m : List Addr) (H : Hp) (a : Addr) (ds : List D) : Prop := ∃ (kvs : List (Key × V)) (is : List Int) (us : List D), ds = [.dct (is.map D.int) us] ∧ H a = some (.dK kvs) ∧ kvs.map (·.1) = is.map Sum.inl ∧ Reps K F m H (kvs.map (·.2)) us
/-- not the mark of a dict -/
def lstOk : List D → Bool
  | .dct _ _ :: _ => false
  | _ => true
def CellR (m : List Addr) (H : Hp) (a : Addr) (ds : List D) : Prop := (lstOk ds = true ∧ LstC K F m H a ds) ∨ DctC K F m H a ds
end
section
variable {K : PySem.W.Frag} {F : Ev} {m m' : List Addr} {H H' : Hp}
mutual
theorem Rep.keep (hm : ∀ a, a ∈ m' → a ∈ m ∨ H a = none) (hk : ∀ a o, a ∉ m → H a = some o → H' a = some o) : ∀ (d : D) (v : V), Rep K F m H v d → Rep K F m' H' v d
  | .non, _, h => by cases h; exact .non
  | .bl b, _, h => by cases h; exact .bl b
  | .int i, _, h => by cases h; exact .int i
  | .str s, _, h => by cases h; exact .str s
  | .ty n, _, h => by cases h; exact .ty n
  | .fn k, _, h => by cases h with | fn e => exact .fn e
  | .tup ds, _, h => by
    cases h with
    | tup hn e r =>
      obtain ⟨o, e, ed⟩ := e
      exact .tup (fun q => (hm _ q).elim hn fun z => by rw [z] at e; cases e) ⟨o, hk _ _ hn e, ed⟩ (Reps.keep hm hk ds _ r)
    | tupK e r => exact .tupK e (Reps.keep hm hk ds _ r)
  | .lst ds, _, h => by
    cases h with
    | lst hn e r => exact .lst (fun q => (hm _ q).elim hn fun z => by rw [z] at e; cases e) (hk _ _ hn e) (Reps.keep hm hk ds _ r)
  | .dct ks vs, _, h => by
    cases h with
    | dct hn e es r1 r2 => exact .dct (fun q => (hm _ q).elim hn fun z => by rw [z] at e; cases e) (hk _ _ hn e) es (Reps.keep hm hk ks _ r1) (Reps.keep hm hk vs _ r2)
theorem Reps.keep (hm : ∀ a, a ∈ m' → a ∈ m ∨ H a = none) (hk : ∀ a o, a ∉ m → H a = some o → H' a = some o) : ∀ (ds : List D) (vs : List V), Reps K F m H vs ds → Reps K F m' H' vs ds
  | [], _, h => by cases h; exact .nil
  | d :: ds, _, h => by cases h with | cons h1 h2 => exact .cons (Rep.keep hm hk d _ h1) (Reps.keep hm hk ds _ h2)
end
theorem Reps.length : ∀ {vs : List V} {ds : List D}, Reps K F m H vs ds → vs.length = ds.length
  | _, _, .nil => rfl
  | _, _, .cons _ t => congrArg (· + 1) (Reps.length t)
theorem Reps.get : ∀ {vs : List V} {ds : List D} {i : Nat} {d : D}, Reps K F m H vs ds → ds[i]? = some d → ∃ v, vs[i]? = some v ∧ Rep K F m H v d
  | _, _, _, _, .nil, e => by simp at e
  | _, _, 0, _, .cons r _, e => by simp at e; subst e; exact ⟨_, rfl, r⟩
  | _, _, i + 1, d, .cons _ t, e => by
    obtain ⟨v, h1, h2⟩ := Reps.get (i := i) (d := d) t (by simpa using e)
    exact ⟨v, by simpa using h1, h2⟩
theorem Reps.append : ∀ {vs ws : List V} {ds es : List D}, Reps K F m H vs ds → Reps K F m H ws es → Reps K F m H (vs ++ ws) (ds ++ es)
  | _, _, _, _, .nil, s => s
  | _, _, _, _, .cons r t, s => .cons r (Reps.append t s)
theorem Reps.take : ∀ {vs : List V} {ds : List D} (n : Nat), Reps K F m H vs ds → Reps K F m H (vs.take n) (ds.take n)
  | _, _, 0, _ => .nil
  | _, _, _ + 1, .nil => .nil
  | _, _, n + 1, .cons r t => .cons r (Reps.take n t)
theorem Reps.drop : ∀ {vs : List V} {ds : List D} (n : Nat), Reps K F m H vs ds → Reps K F m H (vs.drop n) (ds.drop n)
  | _, _, 0, r => r
  | _, _, _ + 1, .nil => .nil
  | _, _, n + 1, .cons _ t => Reps.drop n t
theorem Reps.set {v : V} {d : D} (r : Rep K F m H v d) : ∀ {vs : List V} {ds : List D} (i : Nat), Reps K F m H vs ds → Reps K F m H (vs.set i v) (ds.set i d)
  | _, _, _, .nil => .nil
  | _, _, 0, .cons _ t => .cons r t
  | _, _, i + 1, .cons q t => .cons q (Reps.set r i t)
theorem Reps.rep {vs : List V} {ds : List D} (h : Reps K F m H vs ds) : ∀ k : Nat, Reps K F m H (List.replicate k vs).flatten (List.replicate k ds).flatten
  | 0 => .nil
  | k + 1 => by
    rw [List.replicate_succ, List.replicate_succ, List.flatten_cons, List.flatten_cons]
    exact h.append (Reps.rep h k)
theorem CellR.lst {a : Addr} {ds : List D} (c : CellR K F m H a ds) (h : lstOk ds = true) : ∃ vs, H a = some (.lst vs) ∧ Reps K F m H vs ds := by
  rcases c with c | ⟨kvs, is, us, rfl, _⟩
  · exact c.2
  · cases h
theorem CellR.tr {a : Addr} {ds : List D} (c : CellR K F m H a ds) (k : ∀ o, H a = some o → H' a = some o) (r : ∀ (vs : List V) (ds : List D), Reps K F m H vs ds → Reps K F m' H' vs ds) : CellR K F m' H' a ds := by
  rcases c with ⟨h, vs, e, q⟩ | ⟨kvs, is, us, e1, e2, e3, q⟩
  · exact .inl ⟨h, vs, k _ e, r _ _ q⟩
  · exact .inr ⟨kvs, is, us, e1, k _ e2, e3, r _ _ q⟩
theorem CellR.nofz {a : Addr} {ds : List D} (c : CellR K F m H a ds) : ∀ ob u, H a ≠ Option.some (HO.frz ob u) := by
  intro ob u z
  rcases c with ⟨h, vs, e, q⟩ | ⟨kvs, is, us, e1, e2, e3, q⟩
  · rw [e] at z; cases z
  · rw [e2] at z; cases z
end
/-- the objects but the draws' list stand as they stood -/
def Keep (ρ : Option Addr) (H H' : Hp) : Prop := ∀ a o, ρ ≠ some a → H a = some o → H' a = some o
theorem Keep.refl (ρ : Option Addr) (H : Hp) : Keep ρ H H := fun _ _ _ h => h
theorem Keep.trans {ρ : Option Addr} {H H1 H2 : Hp} (x : Keep ρ H H1) (y : Keep ρ H1 H2) : Keep ρ H H2 := fun a o n h => y a o n (x a o n h)
theorem Keep.of {ρ : Option Addr} {H H' : Hp} (h : Same H H') : Keep ρ H H' := fun a o _ e => h a o e
theorem Keep.same {H H' : Hp} (h : Keep none H H') : Same H H' := fun a o e => h a o (fun z => nomatch z) e
theorem same_new {H : Hp} {p : Addr} {o : HO} (h : H p = none) : Same H (upd H p o) := fun b u e => by rw [upd_ne (ne_of_none e h)]; exact e
section
variable (K : PySem.W.Frag) (F : Ev)
/-- m0: the callers' own objects (and a comprehension's list); m1: the frame's own, as hp tells -/
structure Sim (m0 m1 : List Addr) (H : Hp) (hp : Hz) : Prop where
  len : m1.length = hp.length
  nd : m1.Nodup
  dis : ∀ a, a ∈ m0 → a ∉ m1
  dom : ∀ a, a ∈ m0 ++ m1 → H a ≠ none
  cell : ∀ (n : Nat) (c : List D), hp[n]? = some c → ∃ a, m1[n]? = some a ∧ CellR K F (m0 ++ m1) H a c
def RowA (ρ : Option Addr) (H : Hp) : Prop := ∀ a, ρ = some a → RowOk K H a
def RepS (ρ : Option Addr) (m0 m1 : List Addr) (H : Hp) (v : V) : SV → Prop
  | .v d => Rep K F (m0 ++ m1) H v d
  | .r n => ∃ a, m1[n]? = some a ∧ v = .ref a
  | .row => ∃ a, ρ = some a ∧ v = .ref a
structure FrR (ρ : Option Addr) (m0 m1 : List Addr) (H : Hp) (σ : L2.St) (fr : Fr) : Prop where
  len : σ.length = fr.length
  slot : ∀ (i : Nat) (s : SV), fr[i]? = some (some s) → ∃ v, σ[i]? = some (some v) ∧ RepS K F ρ m0 m1 H v s
structure At (ρ : Option Addr) (m0 m1 : List Addr) (H : Hp) (σ : L2.St) (fr : Fr) (hp : Hz) : Prop where
  fr : FrR K F ρ m0 m1 H σ fr
  sim : Sim K F m0 m1 H hp
  row : RowA K ρ H
  own : ∀ a, ρ = some a → a ∈ m0
end
section
variable {K : PySem.W.Frag} {F : Ev} {ρ : Option Addr} {m m' m0 m1 : List Addr} {H H' : Hp} {σ : L2.St} {fr : Fr} {hp : Hz}
theorem Rep.sub {v : V} {d : D} (h : Rep K F m H v d) (s : ∀ a, a ∈ m' → a ∈ m) : Rep K F m' H v d := Rep.keep (fun a q => .inl (s a q)) (fun _ _ _ e => e) d v h
theorem Reps.sub {v : List V} {d : List D} (h : Reps K F m H v d) (s : ∀ a, a ∈ m' → a ∈ m) : Reps K F m' H v d := Reps.keep (fun a q => .inl (s a q)) (fun _ _ _ e => e) d v h
theorem Rep.on {v : V} {d : D} (h : Rep K F (m0 ++ m1) H v d) (o : ∀ a, ρ = some a → a ∈ m0) (k : Keep ρ H H') : Rep K F (m0 ++ m1) H' v d :=
  Rep.keep (fun a q => .inl q) (fun a ob n e => k a ob (fun z => n (List.mem_append_left _ (o a z))) e) d v h
theorem Reps.on {vs : List V} {ds : List D} (h : Reps K F (m0 ++ m1) H vs ds) (o : ∀ a, ρ = some a → a ∈ m0) (k : Keep ρ H H') : Reps K F (m0 ++ m1) H' vs ds :=
  Reps.keep (fun a q => .inl q) (fun a ob n e => k a ob (fun z => n (List.mem_append_left _ (o a z))) e) ds vs h
theorem ScrOk.keep {s : Addr} {xs : List V} (h : ScrOk K H s xs) (k : ∀ o, H s = some (.frz o (.lst xs)) → H' s = some (.frz o (.lst xs))) : ScrOk K H' s xs := h.elim (fun ⟨o, e⟩ => .inl ⟨o, k o e⟩) .inr
theorem ScrOk.sq {s : Addr} {xs : List V} (h : ScrOk K H s xs) : SqL K H s xs := h.elim (fun ⟨o, e⟩ => .inl (.inr ⟨o, e⟩)) .inr
theorem RowOk.keep {a : Addr} (h : RowOk K H a) (ka : ∀ xs, H a = some (.lst xs) → H' a = some (.lst xs)) (k : ∀ s o xs, H s = some (.frz o (.lst xs)) → H' s = some (.frz o (.lst xs))) : RowOk K H' a := by
  obtain ⟨s, ns, i, z, r, e1, hs, q⟩ := h
  exact ⟨s, ns, i, z, r, ka _ e1, hs.keep fun o e => k s o _ e, q⟩
theorem RowA.same (h : RowA K ρ H) (k : Same H H') : RowA K ρ H' := fun a e => (h a e).keep (fun _ z => k _ _ z) fun _ _ _ z => k _ _ z
theorem Sim.on (h : Sim K F m0 m1 H hp) (o : ∀ a, ρ = some a → a ∈ m0) (row : RowA K ρ H') (k : Keep ρ H H') : Sim K F m0 m1 H' hp := by
  refine ⟨h.len, h.nd, h.dis, fun a q z => ?_, fun n c e => ?_⟩
  · by_cases hr : ρ = some a
    · obtain ⟨_, _, _, _, _, e1, _⟩ := row a hr
      rw [e1] at z; cases z
    · cases e : H a with
      | none => exact h.dom a q e
      | some ob => rw [k a ob hr e] at z; cases z
  · obtain ⟨a, e1, cr⟩ := h.cell n c e
    have hm : a ∈ m1 := List.mem_of_getElem? e1
    exact ⟨a, e1, cr.tr (fun ob => k a ob (fun z => h.dis a (o a z) hm)) fun vs ds r => r.on o k⟩
theorem RepS.on {v : V} {s : SV} (h : RepS K F ρ m0 m1 H v s) (o : ∀ a, ρ = some a → a ∈ m0) (k : Keep ρ H H') : RepS K F ρ m0 m1 H' v s := by
  cases s with
  | v d => exact Rep.on h o k
  | r n => exact h
  | row => exact h
theorem FrR.on (h : FrR K F ρ m0 m1 H σ fr) (o : ∀ a, ρ = some a → a ∈ m0) (k : Keep ρ H H') : FrR K F ρ m0 m1 H' σ fr :=
  ⟨h.len, fun i s e => let ⟨v, e1, e2⟩ := h.slot i s e; ⟨v, e1, e2.on o k⟩⟩
theorem At.on (h : At K F ρ m0 m1 H σ fr hp) (k : Keep ρ H H') (w : RowA K ρ H') : At K F ρ m0 m1 H' σ fr hp := ⟨h.fr.on h.own k, h.sim.on h.own w k, w, h.own⟩
theorem At.same (h : At K F ρ m0 m1 H σ fr hp) (k : Same H H') : At K F ρ m0 m1 H' σ fr hp := h.on (.of k) (h.row.same k)
/-- a new address is none of ours -/
theorem Sim.new (h : Sim K F m0 m1 H hp) {p : Addr} (e : H p = none) : p ∉ m0 ++ m1 := fun q => h.dom p q e
/-- an address that is free later was free before -/
theorem At.free (h : At K F ρ m0 m1 H σ fr hp) (k : Keep ρ H H') (w : RowA K ρ H') {p : Addr} (e : H' p = none) : H p = none := by
  cases q : H p with
  | none => rfl
  | some o =>
    by_cases hr : ρ = some p
    · obtain ⟨_, _, _, _, _, e1, _⟩ := w p hr
      rw [e1] at e; cases e
    · rw [k p o hr q] at e; cases e
end
/-! ### readings -/
abbrev Ex := Fr → Hz → T D
section
variable (K : PySem.W.Frag) (F : Ev)
/-- an expression's reading -/
def tX (f : Ex) : TE := fun σ H Q => ∃ ρ m0 m1 fr hp, At K F ρ m0 m1 H σ fr hp ∧ (f fr hp).all fun d => ∀ H' v, Keep ρ H H' → RowA K ρ H' → Rep K F (m0 ++ m1) H' v d → Q v H'
/-- a test's -/
def tB' (f : Fr → Hz → T Bool) : TT := fun σ H Q => ∃ ρ m0 m1 fr hp, At K F ρ m0 m1 H σ fr hp ∧ (f fr hp).all fun b => ∀ H', Keep ρ H H' → RowA K ρ H' → Q b H'
/-- an argument list's -/
def tAs (f : Fr → Hz → T (List D)) : TA := fun σ H Q => ∃ ρ m0 m1 fr hp, At K F ρ m0 m1 H σ fr hp ∧ (f fr hp).all fun ds => ∀ H' vs, Keep ρ H H' → RowA K ρ H' → Reps K F (m0 ++ m1) H' vs ds → Q vs H'
/-- a list or tuple: its items are to be read -/
def SeqA (m0 : List Addr) (H : Hp) (a : Addr) (vs : List V) : Prop := (a ∉ m0 ∧ (H a = some (.lst vs) ∨ TupO H a vs)) ∨ StT K a vs
def SeqR (m0 m1 : List Addr) (H : Hp) (v : V) (ds : List D) : Prop := ∃ a vs, v = .ref a ∧ SeqA K m0 H a vs ∧ Reps K F (m0 ++ m1) H vs ds
/-- a new list of one's own -/
def tN (f : Fr → Hz → T (List D)) : TE := fun σ H Q => ∃ ρ m0 m1 fr hp, At K F ρ m0 m1 H σ fr hp ∧ (f fr hp).all fun ds => ∀ H' a vs, Keep ρ H H' → RowA K ρ H' → H a = none → H' a = some (.lst vs) → Reps K F (m0 ++ (m1 ++ [a])) H' vs ds → Q (.ref a) H'
/-- what is read as a row of items: a value, or the frame's own list -/
def tSq (f : Fr → Hz → T (List D)) : TE := fun σ H Q => ∃ ρ m0 m1 fr hp, At K F ρ m0 m1 H σ fr hp ∧ (f fr hp).all fun ds => ∀ H' v, Keep ρ H H' → RowA K ρ H' → SeqR K F m0 m1 H' v ds → Q v H'
end
section
variable {X : Cx} {e : Expr} {t t' : TE}
theorem PEimp (h : PE X e t) (hi : ∀ σ H Q, t' σ H Q → t σ H Q) : PE X e t' := ⟨fun pins s σ H Q I q => h.run pins s σ H Q I (hi σ H Q q)⟩
theorem PTimp {t t' : TT} (h : PT X e t) (hi : ∀ σ H Q, t' σ H Q → t σ H Q) : PT X e t' := ⟨fun pins s σ H Q I q => h.run pins s σ H Q I (hi σ H Q q)⟩
theorem PWimp {t t' : TT} (h : PW X e t) (hi : ∀ σ H Q, t' σ H Q → t σ H Q) : PW X e t' := ⟨fun wh pins s σ H Q I q => h.run wh pins s σ H Q I (hi σ H Q q)⟩
theorem PAimp {es : List Expr} {t t' : TA} (h : PA X es t) (hi : ∀ σ H Q, t' σ H Q → t σ H Q) : PA X es t' := ⟨fun pos pins s σ H Q I q => h.run pos pins s σ H Q I (hi σ H Q q)⟩
theorem PSimp {st : Stmt} {t t' : TS} (h : PS X st t) (hi : ∀ D σ H, t' D σ H → t D σ H) : PS X st t' := ⟨fun pins s σ H D I q => h.run pins s σ H D I (hi D σ H q)⟩
theorem PSsimp {st : List Stmt} {t t' : TS} (h : PSs X st t) (hi : ∀ D σ H, t' D σ H → t D σ H) : PSs X st t' := ⟨fun pins s σ H D I q => h.run pins s σ H D I (hi D σ H q)⟩
theorem PIimp {tg it : Expr} {t t' : TI} (h : PI X tg it t) (hi : ∀ σ H R, t' σ H R → t σ H R) : PI X tg it t' := ⟨fun pins s σ H R I q => h.run pins s σ H R I (hi σ H R q)⟩
end
section
variable {K : PySem.W.Frag} {F : Ev} {ρ : Option Addr} {m0 m1 : List Addr} {H H' : Hp} {σ : L2.St} {fr : Fr} {hp : Hz}
theorem tX_mk {f : Ex} {P : D → Prop} {Q : VK} (a : At K F ρ m0 m1 H σ fr hp) (h : (f fr hp).all P) (k : ∀ d, P d → ∀ H' v, Keep ρ H H' → At K F ρ m0 m1 H' σ fr hp → Rep K F (m0 ++ m1) H' v d → Q v H') : tX K F f σ H Q :=
  ⟨ρ, m0, m1, fr, hp, a, T.all_mono (fun d hd H' v kp s r => k d hd H' v kp (a.on kp s) r) h⟩
theorem tB_mk {f : Fr → Hz → T Bool} {P : Bool → Prop} {Q : Bool → Hp → Prop} (a : At K F ρ m0 m1 H σ fr hp) (h : (f fr hp).all P) (k : ∀ d, P d → ∀ H', Keep ρ H H' → At K F ρ m0 m1 H' σ fr hp → Q d H') : tB' K F f σ H Q :=
  ⟨ρ, m0, m1, fr, hp, a, T.all_mono (fun d hd H' kp s => k d hd H' kp (a.on kp s)) h⟩
theorem tAs_mk {f : Fr → Hz → T (List D)} {P : List D → Prop} {Q : List V → Hp → Prop} (a : At K F ρ m0 m1 H σ fr hp) (h : (f fr hp).all P) (k : ∀ d, P d → ∀ H' v, Keep ρ H H' → At K F ρ m0 m1 H' σ fr hp → Reps K F (m0 ++ m1) H' v d → Q v H') : tAs K F f σ H Q :=
  ⟨ρ, m0, m1, fr, hp, a, T.all_mono (fun d hd H' v kp s r => k d hd H' v kp (a.on kp s) r) h⟩
theorem tN_mk {f : Fr → Hz → T (List D)} {P : List D → Prop} {Q : VK} (a : At K F ρ m0 m1 H σ fr hp) (h : (f fr hp).all P) (k : ∀ d, P d → ∀ H' b vs, Keep ρ H H' → At K F ρ m0 m1 H' σ fr hp → H b = none → H' b = some (.lst vs) → Reps K F (m0 ++ (m1 ++ [b])) H' vs d → Q (.ref b) H') : tN K F f σ H Q :=
  ⟨ρ, m0, m1, fr, hp, a, T.all_mono (fun d hd H' b vs kp s z1 z3 r => k d hd H' b vs kp (a.on kp s) z1 z3 r) h⟩
theorem tSq_mk {f : Fr → Hz → T (List D)} {P : List D → Prop} {Q : VK} (a : At K F ρ m0 m1 H σ fr hp) (h : (f fr hp).all P) (k : ∀ d, P d → ∀ H' v, Keep ρ H H' → At K F ρ m0 m1 H' σ fr hp → SeqR K F m0 m1 H' v d → Q v H') : tSq K F f σ H Q :=
  ⟨ρ, m0, m1, fr, hp, a, T.all_mono (fun d hd H' v kp s r => k d hd H' v kp (a.on kp s) r) h⟩
theorem TupO.sq {K : PySem.W.Frag} {a : Addr} {vs : List V} (h : TupO H a vs) : SqT K H a vs := let ⟨o, e, _⟩ := h; .inl (.inr ⟨o, e⟩)
theorem StT.sq {a : Addr} {vs : List V} (h : StT K a vs) : SqT K H a vs := let ⟨o, its, n, e, _⟩ := h; .inr ⟨o, its, n, e⟩
theorem TupO.on {a : Addr} {vs : List V} (h : TupO H a vs) (n : ρ ≠ some a) (k : Keep ρ H H') : TupO H' a vs := let ⟨o, e, d⟩ := h; ⟨o, k a _ n e, d⟩
theorem TupO.new {p : Addr} {o : Obj} {vs : List V} (h : o.dict = none) : TupO (upd H p (.frz o (.tup vs))) p vs := ⟨o, upd_same, h⟩
theorem Rep.tupR {m : List Addr} {v : V} {ds : List D} (h : Rep K F m H v (.tup ds)) : ∃ a vs, v = .ref a ∧ SqT K H a vs ∧ Reps K F m H vs ds := by
  cases h with
  | tup hn e r => exact ⟨_, _, rfl, e.sq, r⟩
  | tupK e r => exact ⟨_, _, rfl, e.sq, r⟩
theorem Rep.lstR {m : List Addr} {v : V} {ds : List D} (h : Rep K F m H v (.lst ds)) : ∃ a vs, v = .ref a ∧ a ∉ m ∧ H a = some (.lst vs) ∧ Reps K F m H vs ds := by
  cases h with
  | lst hn e r => exact ⟨_, _, rfl, hn, e, r⟩
/-- the items of a list or a tuple -/
def D.seq : D → Option (List D)
  | .tup xs => some xs
  | .lst xs => some xs
  | _ => none
theorem Rep.seqR {v : V} {d : D} {ds : List D} (h : Rep K F (m0 ++ m1) H v d) (e : d.seq = some ds) : SeqR K F m0 m1 H v ds := by
  cases d <;> first | (cases e; done) | skip
  · obtain rfl := Option.some.inj e
    cases h with
    | tup hn e r => exact ⟨_, _, rfl, .inl ⟨fun q => hn (List.mem_append_left _ q), .inr e⟩, r⟩
    | tupK e r => exact ⟨_, _, rfl, .inr e, r⟩
  · obtain rfl := Option.some.inj e
    cases h with
    | lst hn e r => exact ⟨_, _, rfl, .inl ⟨fun q => hn (List.mem_append_left _ q), .inl e⟩, r⟩
theorem SeqA.sq {a : Addr} {vs : List V} (h : SeqA K m0 H a vs) : SqL K H a vs ∨ SqT K H a vs := by
  rcases h with ⟨_, h | h⟩ | h
  · exact .inl (.inl (.inl h))
  · exact .inr h.sq
  · exact .inr h.sq
theorem SeqA.on {a : Addr} {vs : List V} (h : SeqA K m0 H a vs) (o : ∀ a, ρ = some a → a ∈ m0) (k : Keep ρ H H') : SeqA K m0 H' a vs := by
  rcases h with ⟨hn, h | h⟩ | h
  · exact .inl ⟨hn, .inl (k a _ (fun z => hn (o a z)) h)⟩
  · exact .inl ⟨hn, .inr (h.on (fun z => hn (o a z)) k)⟩
  · exact .inr h
/-- the new heap behind a new object -/
theorem At.upd (a : At K F ρ m0 m1 H σ fr hp) {p : Addr} {o : HO} (h : H p = none) : Keep ρ H (upd H p o) ∧ At K F ρ m0 m1 (upd H p o) σ fr hp :=
  ⟨.of (same_new h), a.same (same_new h)⟩
theorem sub_more {m0 m1 : List Addr} {b a : Addr} (h : a ∈ m0 ++ m1) : a ∈ m0 ++ (m1 ++ [b]) := by
  rcases List.mem_append.mp h with z | z
  · exact List.mem_append_left _ z
  · exact List.mem_append_right _ (List.mem_append_left _ z)
/-- .. a new object's address may be forbidden besides -/
theorem Reps.more {vs : List V} {ds : List D} {b : Addr} (h : Reps K F (m0 ++ m1) H vs ds) (hb : H b = none) (k : Same H H') : Reps K F (m0 ++ (m1 ++ [b])) H' vs ds :=
  Reps.keep (fun a q => by
    rcases List.mem_append.mp q with z | z
    · exact .inl (List.mem_append_left _ z)
    · rcases List.mem_append.mp z with z | z
      · exact .inl (List.mem_append_right _ z)
      · have : a = b := by simpa using z
        subst this
        exact .inr hb) (fun a o _ e => k a o e) ds vs h
end
end Zl
set_option Elab.async false
set_option linter.all false
set_option maxRecDepth 100000
set_option maxHeartbeats 1000000
/-! Z1: operators, comparisons, subscripts by values. -/
namespace Zl
open PySem L2
/-! ### == at any depth -/
def allB {α β : Type} (f : α → β → Bool) : List α → List β → Bool
  | [], [] => true
  | x :: xs, y :: ys => if f x y then allB f xs ys else false
  | _, _ => false
def eqNs : List Nat → List Nat → Bool
  | [], [] => true
  | x :: xs, y :: ys => if Nat.beq x y then eqNs xs ys else false
  | _, _ => false
def eqI (a b : Int) : Bool := decide (a = b)
def beq : Nat → D → D → Bool
  | n + 1, .tup xs, .tup ys => allB (beq n) xs ys
  | n + 1, .lst xs, .lst ys => allB (beq n) xs ys
  | _, .int a, .int b => eqI a b
  | _, .str a, .str b => eqNs a b
  | _, .bl a, .bl b => a == b
  | _, .non, .non => true
  | _, .bl a, .int b => eqI (if a then 1 else 0) b
  | _, .int a, .bl b => eqI a (if b then 1 else 0)
  | _, _, _ => false
def allO (f : D → Bool) : List D → Bool
  | [] => true
  | x :: xs => if f x then allO f xs else false
def okNs : List Nat → Bool
  | [] => true
  | x :: xs => if Nat.blt x 1114112 then okNs xs else false
def okD : Nat → D → Bool
  | _, .int _ => true
  | _, .bl _ => true
  | _, .non => true
  | _, .str s => okNs s
  | n + 1, .tup xs => allO (okD n) xs
  | n + 1, .lst xs => allO (okD n) xs
  | _, _ => false
mutual
def toPy : D → PyData
  | .non => .none
  | .bl b => .bool b
  | .int i => .int i
  | .str s => .str ⟨s.toArray⟩
  | .ty _ => .none
  | .fn _ => .none
  | .tup xs => .tuple (toPys xs)
  | .lst xs => .list (toPys xs)
  | .dct _ _ => .none
def toPys : List D → List PyData
  | [] => []
  | x :: xs => toPy x :: toPys xs
end
theorem eqNs_iff : ∀ (a b : List Nat), eqNs a b = decide (a = b)
  | [], [] => by simp [eqNs]
  | [], _ :: _ => by simp [eqNs]
  | _ :: _, [] => by simp [eqNs]
  | x :: xs, y :: ys => by
    unfold eqNs
    rw [eqNs_iff xs ys]
    by_cases h : x = y
    · subst h
      simp
    · have : Nat.beq x y = false := by
        cases e : Nat.beq x y with
        | false => rfl
        | true => exact absurd (Nat.eq_of_beq_eq_true e) h
      rw [this]
      simp [h]
theorem eqI_beq (a b : Int) : eqI a b = (a == b) := by unfold eqI; rw [Bool.beq_eq_decide_eq]
theorem str_beq (a b : List Nat) : ((⟨a.toArray⟩ : Str) == ⟨b.toArray⟩) = eqNs a b := by
  rw [eqNs_iff]
  by_cases h : a = b
  · subst h
    simp
  · rw [decide_eq_false h]
    refine beq_eq_false_iff_ne.mpr fun e => h ?_
    have q : a.toArray = b.toArray := congrArg Str.cps e
    simpa using congrArg Array.toList q
mutual
theorem eqv_beq : ∀ (n : Nat) (a b : D), okD n a = true → okD n b = true → PyData.eqv (toPy a) (toPy b) = beq n a b
  | n + 1, .tup xs, .tup ys, ha, hb => by
    simp only [toPy, PyData.eqv, beq]
    exact eqv_all n xs ys ha hb
  | n + 1, .lst xs, .lst ys, ha, hb => by
    simp only [toPy, PyData.eqv, beq]
    exact eqv_all n xs ys ha hb
  | 0, .tup _, _, ha, _ => absurd ha (by simp [okD])
  | 0, .lst _, _, ha, _ => absurd ha (by simp [okD])
  | 0, _, .tup _, _, hb => absurd hb (by simp [okD])
  | 0, _, .lst _, _, hb => absurd hb (by simp [okD])
  | n, .ty _, _, ha, _ => absurd ha (by cases n <;> simp [okD])
  | n, .fn _, _, ha, _ => absurd ha (by cases n <;> simp [okD])
  | n, .dct _ _, _, ha, _ => absurd ha (by cases n <;> simp [okD])
  | n, _, .dct _ _, _, hb => absurd hb (by cases n <;> simp [okD])
  | n, _, .ty _, _, hb => absurd hb (by cases n <;> simp [okD])
  | n, _, .fn _, _, hb => absurd hb (by cases n <;> simp [okD])
  | n, .int a, .int b, _, _ => by cases n <;> simp [toPy, PyData.eqv, beq, eqI_beq]
  | n, .str a, .str b, _, _ => by cases n <;> simp only [toPy, PyData.eqv, beq] <;> exact str_beq a b
  | n, .bl a, .bl b, _, _ => by cases n <;> simp [toPy, PyData.eqv, beq]
  | n, .non, .non, _, _ => by cases n <;> simp [toPy, PyData.eqv, beq]
  | n, .bl a, .int b, _, _ => by cases n <;> simp [toPy, PyData.eqv, beq, eqI_beq]
  | n, .int a, .bl b, _, _ => by cases n <;> simp [toPy, PyData.eqv, beq, eqI_beq]
  | n, .non, .int _, _, _ => by cases n <;> simp [toPy, PyData.eqv, beq]
  | n, .non, .bl _, _, _ => by cases n <;> simp [toPy, PyData.eqv, beq]
  | n, .non, .str _, _, _ => by cases n <;> simp [toPy, PyData.eqv, beq]
  | n + 1, .non, .tup _, _, _ => by simp [toPy, PyData.eqv, beq]
  | n + 1, .non, .lst _, _, _ => by simp [toPy, PyData.eqv, beq]
  | n, .int _, .non, _, _ => by cases n <;> simp [toPy, PyData.eqv, beq]
  | n, .int _, .str _, _, _ => by cases n <;> simp [toPy, PyData.eqv, beq]
  | n + 1, .int _, .tup _, _, _ => by simp [toPy, PyData.eqv, beq]
  | n + 1, .int _, .lst _, _, _ => by simp [toPy, PyData.eqv, beq]
  | n, .bl _, .non, _, _ => by cases n <;> simp [toPy, PyData.eqv, beq]
  | n, .bl _, .str _, _, _ => by cases n <;> simp [toPy, PyData.eqv, beq]
  | n + 1, .bl _, .tup _, _, _ => by simp [toPy, PyData.eqv, beq]
  | n + 1, .bl _, .lst _, _, _ => by simp [toPy, PyData.eqv, beq]
  | n, .str _, .non, _, _ => by cases n <;> simp [toPy, PyData.eqv, beq]
  | n, .str _, .int _, _, _ => by cases n <;> simp [toPy, PyData.eqv, beq]
  | n, .str _, .bl _, _, _ => by cases n <;> simp [toPy, PyData.eqv, beq]
  | n + 1, .str _, .tup _, _, _ => by simp [toPy, PyData.eqv, beq]
  | n + 1, .str _, .lst _, _, _ => by simp [toPy, PyData.eqv, beq]
  | n + 1, .tup _, .non, _, _ => by simp [toPy, PyData.eqv, beq]
  | n + 1, .tup _, .int _, _, _ => by simp [toPy, PyData.eqv, beq]
  | n + 1, .tup _, .bl _, _, _ => by simp [toPy, PyData.eqv, beq]
  | n + 1, .tup _, .str _, _, _ => by simp [toPy, PyData.eqv, beq]
  | n + 1, .tup _, .lst _, _, _ => by simp [toPy, PyData.eqv, beq]
  | n + 1, .lst _, .non, _, _ => by simp [toPy, PyData.eqv, beq]
  | n + 1, .lst _, .int _, _, _ => by simp [toPy, PyData.eqv, beq]
  | n + 1, .lst _, .bl _, _, _ => by simp [toPy, PyData.eqv, beq]
  | n + 1, .lst _, .str _, _, _ => by simp [toPy, PyData.eqv, beq]
  | n + 1, .lst _, .tup _, _, _ => by simp [toPy, PyData.eqv, beq]
theorem eqv_all : ∀ (n : Nat) (xs ys : List D), allO (okD n) xs = true → allO (okD n) ys = true → PyData.eqvAll (toPys xs) (toPys ys) = allB (beq n) xs ys
  | _, [], [], _, _ => by simp [toPys, PyData.eqvAll, allB]
  | _, [], _ :: _, _, _ => by simp [toPys, PyData.eqvAll, allB]
  | _, _ :: _, [], _, _ => by simp [toPys, PyData.eqvAll, allB]
  | n, x :: xs, y :: ys, ha, hb => by
    unfold allO at ha hb
    by_cases h1 : okD n x = true
    · by_cases h2 : okD n y = true
      · rw [if_pos h1] at ha
        rw [if_pos h2] at hb
        simp only [toPys, PyData.eqvAll, allB]
        rw [eqv_beq n x y h1 h2, eqv_all n xs ys ha hb]
        cases beq n x y <;> simp
      · rw [if_neg h2] at hb
        exact absurd hb Bool.false_ne_true
    · rw [if_neg h1] at ha
      exact absurd ha Bool.false_ne_true
end
end Zl
set_option Elab.async false
set_option linter.all false
set_option maxRecDepth 100000
set_option maxHeartbeats 1000000
/-! Z2: expressions. -/
namespace Zl
open PySem L2 PySem.Spec PyProof.Rows
/-! ### slots, constants -/
def gt {α : Type} : List (Option α) → Nat → Option α
  | [], _ => none
  | x :: _, 0 => x
  | _ :: r, n + 1 => gt r n
theorem gt_eq {α : Type} : ∀ {l : List (Option α)} {i : Nat} {x : α}, gt l i = some x → l[i]? = some (some x)
  | [], _, _, h => by cases h
  | y :: _, 0, x, h => by
    have e : y = some x := h
    simp [e]
  | _ :: r, n + 1, x, h => by
    have := gt_eq (l := r) (i := n) (x := x) h
    simpa using this
def slotD : Option SV → T D
  | some (.v d) => .ret d
  | _ => .fail
def eV (i : Nat) : Ex := fun fr _ => slotD (gt fr i)
def eC (d : D) : Ex := fun _ _ => .ret d
def slotL (hp : Hz) : Option SV → T (List D)
  | some (.v (.lst xs)) => .ret xs
  | some (.v (.tup xs)) => .ret xs
  | some (.r n) => (ofO hp[n]?).bind fun ds => if lstOk ds then .ret ds else .fail
  | _ => .fail
def eVs (i : Nat) : Fr → Hz → T (List D) := fun fr hp => slotL hp (gt fr i)
def asB : D → T Bool
  | .bl b => .ret b
  | _ => .fail
def asL : D → T (List D)
  | .lst xs => .ret xs
  | .tup xs => .ret xs
  | _ => .fail
def e2 (op : D → D → T D) (f g : Ex) : Ex := fun fr hp => (f fr hp).bind fun x => (g fr hp).bind fun y => op x y
def e1 (op : D → T D) (f : Ex) : Ex := fun fr hp => (f fr hp).bind op
def b1 (f : Ex) : Fr → Hz → T Bool := fun fr hp => (f fr hp).bind asB
section
variable {X : Cx} {F : Ev} {ρ : Option Addr} {m0 m1 : List Addr} {H : Hp} {σ : L2.St} {fr : Fr} {hp : Hz}
theorem At.get (a : At X.K F ρ m0 m1 H σ fr hp) {i : Nat} {s : SV} (e : gt fr i = some s) : ∃ v, σ[i]? = some (some v) ∧ RepS X.K F ρ m0 m1 H v s := a.fr.slot i s (gt_eq e)
theorem all_slotD {o : Option SV} {P : D → Prop} (h : (slotD o).all P) : ∃ d, o = some (.v d) ∧ P d := by
  unfold slotD at h
  split at h
  · exact ⟨_, rfl, h⟩
  · exact h.elim
theorem all_asB {d : D} {P : Bool → Prop} (h : (asB d).all P) : ∃ b, d = .bl b ∧ P b := by
  unfold asB at h
  split at h
  · exact ⟨_, rfl, h⟩
  · exact h.elim
theorem all_asL {d : D} {P : List D → Prop} (h : (asL d).all P) : ∃ xs, d.seq = some xs ∧ P xs := by
  unfold asL at h
  split at h
  · exact ⟨_, rfl, h⟩
  · exact ⟨_, rfl, h⟩
  · exact h.elim
theorem zv (i : Nat) {x : Str} {pos : Pos} (hN : X.N[i]? = some x := by rfl) (hv : Vis X.env.scope x := by first | exact Or.inl rfl | exact Or.inr (Or.inl rfl) | exact Or.inr (Or.inr rfl)) (hd : (x == ("__debug__" : Str)) = false := by decide)
    (hcd : (x == ("__classdict__" : Str)) = false := by decide) : PE X (.Name x pos) (tX X.K F (eV i)) := by
  refine PEimp (pe_var hN hv hd hcd) fun σ H Q h => ?_
  obtain ⟨ρ, m0, m1, fr, hp, a, h⟩ := h
  obtain ⟨d, e, k⟩ := all_slotD (show (slotD (gt fr i)).all _ from h)
  obtain ⟨v, e1, r⟩ := a.get e
  exact ⟨v, e1, k H v (Keep.refl _ _) a.row r⟩
theorem zvs (i : Nat) {x : Str} {pos : Pos} (hN : X.N[i]? = some x := by rfl) (hv : Vis X.env.scope x := by first | exact Or.inl rfl | exact Or.inr (Or.inl rfl) | exact Or.inr (Or.inr rfl)) (hd : (x == ("__debug__" : Str)) = false := by decide)
    (hcd : (x == ("__classdict__" : Str)) = false := by decide) : PE X (.Name x pos) (tSq X.K F (eVs i)) := by
  refine PEimp (pe_var hN hv hd hcd) fun σ H Q h => ?_
  obtain ⟨ρ, m0, m1, fr, hp, a, h⟩ := h
  have h : (slotL hp (gt fr i)).all _ := h
  cases e : gt fr i with
  | none => rw [e] at h; exact h.elim
  | some s =>
    rw [e] at h
    obtain ⟨v, e1, r⟩ := a.get e
    cases s with
    | v d =>
      have r : Rep X.K F (m0 ++ m1) H v d := r
      cases d <;> first | exact h.elim | exact ⟨v, e1, h H v (Keep.refl _ _) a.row (r.seqR rfl)⟩
    | row => exact h.elim
    | r n =>
      obtain ⟨b, e2, e3⟩ := r
      obtain ⟨xs, e4, h⟩ := all_ofO (T.all_bind (show ((ofO hp[n]?).bind fun ds => if lstOk ds then .ret ds else .fail).all _ from h))
      by_cases ok : lstOk xs = true
      case neg => rw [if_neg ok] at h; exact h.elim
      rw [if_pos ok] at h
      obtain ⟨b', e5, cr⟩ := a.sim.cell n _ e4
      obtain ⟨vs, e6, r6⟩ := cr.lst ok
      rw [e2] at e5
      cases e5
      exact ⟨v, e1, h H v (Keep.refl _ _) a.row ⟨b, vs, e3, .inl ⟨fun q => a.sim.dis b q (List.mem_of_getElem? e2), .inl e6⟩, r6⟩⟩
theorem PEseq {e : Expr} {f : Ex} (h : PE X e (tX X.K F f)) : PE X e (tSq X.K F fun fr hp => (f fr hp).bind asL) := by
  refine PEimp h fun σ H Q h => ?_
  obtain ⟨ρ, m0, m1, fr, hp, a, h⟩ := h
  refine tX_mk a (T.all_bind h) fun d hd H' v kp a' r => ?_
  obtain ⟨xs, e, k⟩ := all_asL hd
  exact k H' v kp a'.row (r.seqR e)
theorem PEnl {e : Expr} {f : Fr → Hz → T (List D)} (h : PE X e (tN X.K F f)) : PE X e (tX X.K F fun fr hp => (f fr hp).bind fun xs => .ret (.lst xs)) := by
  refine PEimp h fun σ H Q h => ?_
  obtain ⟨ρ, m0, m1, fr, hp, a, h⟩ := h
  refine tN_mk a (T.all_bind h) fun ds hd H' b vs kp a' hb hl r => ?_
  exact hd H' (.ref b) kp a'.row (.lst (a.sim.new hb) hl (r.sub fun _ => sub_more))
theorem PEns {e : Expr} {f : Fr → Hz → T (List D)} (h : PE X e (tN X.K F f)) : PE X e (tSq X.K F f) := by
  refine PEimp h fun σ H Q h => ?_
  obtain ⟨ρ, m0, m1, fr, hp, a, h⟩ := h
  refine tN_mk a h fun ds hd H' b vs kp a' hb hl r => ?_
  exact hd H' (.ref b) kp a'.row ⟨b, vs, rfl, .inl ⟨fun q => a.sim.new hb (List.mem_append_left _ q), .inl hl⟩, r.sub fun _ => sub_more⟩
theorem zc {e : Expr} {v : V} {d : D} (h : PE X e (tC v)) (r : ∀ m H, Rep X.K F m H v d) : PE X e (tX X.K F (eC d)) := by
  refine PEimp h fun σ H Q h => ?_
  obtain ⟨ρ, m0, m1, fr, hp, a, h⟩ := h
  exact h H v (Keep.refl _ _) a.row (r _ _)
theorem zint {i j pos} : PE X (.Constant (.int i) j pos) (tX X.K F (eC (.int i))) := zc pe_int fun _ _ => .int i
theorem zbl {i j pos} : PE X (.Constant (.bool i) j pos) (tX X.K F (eC (.bl i))) := zc pe_bl fun _ _ => .bl i
theorem znon {j pos} : PE X (.Constant .none j pos) (tX X.K F (eC .non)) := zc pe_non fun _ _ => .non
theorem zstr {x : Str} {s : List Nat} {j pos} (h : x = ⟨s.toArray⟩) : PE X (.Constant (.str x) j pos) (tX X.K F (eC (.str s))) := by
  subst h
  exact zc pe_str fun _ _ => .str s
/-! ### operators by values -/
/-- f does on values what op does on data -/
def OpZ (X : Cx) (F : Ev) (f : Value → Value → Sem Value) (op : D → D → T D) : Prop :=
  ∃ r : R2, OpR X f r ∧ ∀ (σ : L2.St) (fr : Fr) (ρ : Option Addr) (m0 m1 : List Addr) (H : Hp) (hp : Hz) (v u : V) (x y : D) (Q : VK), At X.K F ρ m0 m1 H σ fr hp → Rep X.K F (m0 ++ m1) H v x → Rep X.K F (m0 ++ m1) H u y →
    ((op x y).all fun d => ∀ H' w, Keep ρ H H' → RowA X.K ρ H' → Rep X.K F (m0 ++ m1) H' w d → Q w H') → r v u H Q
/-- .. whose answer stands in the same heap -/
theorem OpZ.of {f : Value → Value → Sem Value} {op : D → D → T D} {r : R2} (h : OpR X f r)
    (k : ∀ (m : List Addr) (H : Hp) (v u : V) (x y : D) (Q : VK), Rep X.K F m H v x → Rep X.K F m H u y → ((op x y).all fun d => ∀ w, Rep X.K F m H w d → Q w H) → r v u H Q) : OpZ X F f op :=
  ⟨r, h, fun _ _ _ m0 m1 H hp v u x y Q s rx ry q => k (m0 ++ m1) H v u x y Q rx ry (T.all_mono (fun d hd w rw' => hd H w (Keep.refl _ _) s.row rw') q)⟩
theorem zop_core {f : Value → Value → Sem Value} {op : D → D → T D} {fa fb : Ex} {r : R2}
    (k : ∀ (σ : L2.St) (fr : Fr) (ρ : Option Addr) (m0 m1 : List Addr) (H : Hp) (hp : Hz) (v u : V) (x y : D) (Q : VK), At X.K F ρ m0 m1 H σ fr hp → Rep X.K F (m0 ++ m1) H v x → Rep X.K F (m0 ++ m1) H u y →
    ((op x y).all fun d => ∀ H' w, Keep ρ H H' → RowA X.K ρ H' → Rep X.K F (m0 ++ m1) H' w d → Q w H') → r v u H Q) {σ : L2.St} {H : Hp} {Q : VK} (h : tX X.K F (e2 op fa fb) σ H Q) : tOp r (tX X.K F fa) (tX X.K F fb) σ H Q := by
  obtain ⟨ρ, m0, m1, fr, hp, a, h⟩ := h
  refine tX_mk a (T.all_bind h) fun x hx H1 v k1 a1 rx => ?_
  refine tX_mk a1 (T.all_bind hx) fun y hy H2 u k2 a2 ry => ?_
  exact k σ fr ρ m0 m1 H2 hp v u x y Q a2 (rx.on a1.own k2) ry (T.all_mono (fun d hd H' w k3 s rw' => hd H' w ((k1.trans k2).trans k3) s rw') hy)
theorem zop {a b : Expr} {op : Operator} {o : D → D → T D} {fa fb : Ex} {pos : Pos} (ho : OpZ X F (binaryOp op) o) (ha : PE X a (tX X.K F fa)) (hb : PE X b (tX X.K F fb)) : PE X (.BinOp a op b pos) (tX X.K F (e2 o fa fb)) := by
  obtain ⟨r, h1, h2⟩ := ho
  exact PEimp (pe_op h1 ha hb) fun σ H Q h => zop_core (f := binaryOp op) h2 h
theorem zcmp {a b : Expr} {op : CmpOp} {o : D → D → T D} {fa fb : Ex} {pos : Pos} (ho : OpZ X F (compareOp op) o) (ha : PE X a (tX X.K F fa)) (hb : PE X b (tX X.K F fb)) (hm : behindInMarks op b = false := by first | exact nomark _ | rfl) : PE X (.Compare a [op] [b] pos) (tX X.K F (e2 o fa fb)) := by
  obtain ⟨r, h1, h2⟩ := ho
  exact PEimp (pe_cmpR h1 ha hb hm) fun σ H Q h => zop_core (f := compareOp op) h2 h
theorem b1_core {f : Ex} {σ : L2.St} {H : Hp} {Q : Bool → Hp → Prop} (h : tB' X.K F (b1 f) σ H Q) : tX X.K F f σ H fun x H' => ∃ k, x = .bl k ∧ Q k H' := by
  obtain ⟨ρ, m0, m1, fr, hp, a, h⟩ := h
  refine tX_mk a (T.all_bind h) fun d hd H' v kp a' r => ?_
  obtain ⟨b, rfl, k⟩ := all_asB hd
  cases r
  exact ⟨b, rfl, k H' kp a'.row⟩
/-- a comparison as a test -/
theorem ztc {a b : Expr} {op : CmpOp} {o : D → D → T D} {fa fb : Ex} {pos : Pos} (ho : OpZ X F (compareOp op) o) (ha : PE X a (tX X.K F fa)) (hb : PE X b (tX X.K F fb)) (hm : behindInMarks op b = false := by first | exact nomark _ | rfl) : PT X (.Compare a [op] [b] pos) (tB' X.K F (b1 (e2 o fa fb))) := by
  obtain ⟨r, h1, h2⟩ := ho
  exact PTimp (pt_cmpR h1 ha hb hm) fun σ H Q h => zop_core (f := compareOp op) h2 (b1_core h)
/-- a bool's value as a test -/
theorem ztv {e : Expr} {f : Ex} (h : PE X e (tX X.K F f)) (he : ∀ whole, isTrue e X.env whole = (do let v ← whole; standAt e.pos; holding [v] (truthy v)) := by intro _; rfl) : PT X e (tB' X.K F (b1 f)) :=
  PTimp (pt_val h he) fun σ H Q h => b1_core h
/-! ### and, or, not -/
def bAnd (f g : Fr → Hz → T Bool) : Fr → Hz → T Bool := fun fr hp => (f fr hp).bind fun b => bif b then g fr hp else .ret false
def bOr (f g : Fr → Hz → T Bool) : Fr → Hz → T Bool := fun fr hp => (f fr hp).bind fun b => bif b then .ret true else g fr hp
def bNot (f : Fr → Hz → T Bool) : Fr → Hz → T Bool := fun fr hp => (f fr hp).bind fun b => .ret (!b)
theorem bAnd_core {f g : Fr → Hz → T Bool} {σ : L2.St} {H : Hp} {Q : Bool → Hp → Prop} (h : tB' X.K F (bAnd f g) σ H Q) : tAnd (tB' X.K F f) (tB' X.K F g) σ H Q := by
  obtain ⟨ρ, m0, m1, fr, hp, a, h⟩ := h
  refine tB_mk a (T.all_bind h) fun b hb H' kp a' => ?_
  cases b with
  | true => exact tB_mk a' hb fun c hc H2 k2 a2 => hc H2 (kp.trans k2) a2.row
  | false => exact hb H' kp a'.row
theorem bOr_core {f g : Fr → Hz → T Bool} {σ : L2.St} {H : Hp} {Q : Bool → Hp → Prop} (h : tB' X.K F (bOr f g) σ H Q) : tOr (tB' X.K F f) (tB' X.K F g) σ H Q := by
  obtain ⟨ρ, m0, m1, fr, hp, a, h⟩ := h
  refine tB_mk a (T.all_bind h) fun b hb H' kp a' => ?_
  cases b with
  | false => exact tB_mk a' hb fun c hc H2 k2 a2 => hc H2 (kp.trans k2) a2.row
  | true => exact hb H' kp a'.row
theorem ztand1 {a : Expr} {f : Fr → Hz → T Bool} {pos : Pos} (h : PT X a (tB' X.K F f)) : PW X (.BoolOp .And [a] pos) (tB' X.K F f) := pw_and1 h
theorem ztor1 {a : Expr} {f : Fr → Hz → T Bool} {pos : Pos} (h : PT X a (tB' X.K F f)) : PW X (.BoolOp .Or [a] pos) (tB' X.K F f) := pw_or1 h
theorem ztand {a b : Expr} {rest : List Expr} {f g : Fr → Hz → T Bool} {pos : Pos} (h : PT X a (tB' X.K F f)) (hr : PW X (.BoolOp .And (b :: rest) pos) (tB' X.K F g)) : PW X (.BoolOp .And (a :: b :: rest) pos) (tB' X.K F (bAnd f g)) :=
  PWimp (pw_and h hr) fun σ H Q h => bAnd_core h
theorem ztor {a b : Expr} {rest : List Expr} {f g : Fr → Hz → T Bool} {pos : Pos} (h : PT X a (tB' X.K F f)) (hr : PW X (.BoolOp .Or (b :: rest) pos) (tB' X.K F g)) : PW X (.BoolOp .Or (a :: b :: rest) pos) (tB' X.K F (bOr f g)) :=
  PWimp (pw_or h hr) fun σ H Q h => bOr_core h
theorem ztnot {a : Expr} {f : Fr → Hz → T Bool} {pos : Pos} (h : PT X a (tB' X.K F f)) : PT X (.UnaryOp .Not a pos) (tB' X.K F (bNot f)) :=
  PTimp (pt_not h) fun σ H Q h => by
    obtain ⟨ρ, m0, m1, fr, hp, a, h⟩ := h
    exact tB_mk a (T.all_bind h) fun b hb H' kp a' => hb H' kp a'.row
/-- .. as values -/
theorem zone {op} {a : Expr} {f : Ex} {pos : Pos} (h : PE X a (tX X.K F f)) : PE X (.BoolOp op [a] pos) (tX X.K F f) := pe_one h
def eAnd (f g : Ex) : Ex := fun fr hp => (f fr hp).bind fun x => (asB x).bind fun b => bif b then g fr hp else .ret (.bl false)
def eOr (f g : Ex) : Ex := fun fr hp => (f fr hp).bind fun x => (asB x).bind fun b => bif b then .ret (.bl true) else g fr hp
theorem zand {a b : Expr} {rest : List Expr} {f g : Ex} {pos : Pos} (h : PE X a (tX X.K F f)) (hr : PE X (.BoolOp .And (b :: rest) pos) (tX X.K F g)) : PE X (.BoolOp .And (a :: b :: rest) pos) (tX X.K F (eAnd f g)) :=
  PEimp (pe_and h hr) fun σ H Q h => by
    obtain ⟨ρ, m0, m1, fr, hp, a, h⟩ := h
    refine tX_mk a (T.all_bind h) fun d hd H' v kp a' r => ?_
    obtain ⟨c, rfl, k⟩ := all_asB (T.all_bind hd)
    cases r
    refine ⟨c, rfl, ?_⟩
    cases c with
    | true => exact tX_mk a' k fun e he H2 w k2 a2 r2 => he H2 w (kp.trans k2) a2.row r2
    | false => exact k H' _ kp a'.row (.bl false)
theorem zor {a b : Expr} {rest : List Expr} {f g : Ex} {pos : Pos} (h : PE X a (tX X.K F f)) (hr : PE X (.BoolOp .Or (b :: rest) pos) (tX X.K F g)) : PE X (.BoolOp .Or (a :: b :: rest) pos) (tX X.K F (eOr f g)) :=
  PEimp (pe_or h hr) fun σ H Q h => by
    obtain ⟨ρ, m0, m1, fr, hp, a, h⟩ := h
    refine tX_mk a (T.all_bind h) fun d hd H' v kp a' r => ?_
    obtain ⟨c, rfl, k⟩ := all_asB (T.all_bind hd)
    cases r
    refine ⟨c, rfl, ?_⟩
    cases c with
    | false => exact tX_mk a' k fun e he H2 w k2 a2 r2 => he H2 w (kp.trans k2) a2.row r2
    | true => exact k H' _ kp a'.row (.bl true)
def eIf (t : Fr → Hz → T Bool) (f g : Ex) : Ex := fun fr hp => (t fr hp).bind fun b => bif b then f fr hp else g fr hp
theorem zif {c a b : Expr} {t : Fr → Hz → T Bool} {f g : Ex} {pos : Pos} (hc : PT X c (tB' X.K F t)) (ha : PE X a (tX X.K F f)) (hb : PE X b (tX X.K F g)) : PE X (.IfExp c a b pos) (tX X.K F (eIf t f g)) :=
  PEimp (pe_ifExp hc ha hb) fun σ H Q h => by
    obtain ⟨ρ, m0, m1, fr, hp, a, h⟩ := h
    refine tB_mk a (T.all_bind h) fun b hb H' kp a' => ?_
    cases b with
    | true => exact tX_mk a' hb fun e he H2 w k2 a2 r2 => he H2 w (kp.trans k2) a2.row r2
    | false => exact tX_mk a' hb fun e he H2 w k2 a2 r2 => he H2 w (kp.trans k2) a2.row r2
/-! ### argument lists, displays -/
def aN : Fr → Hz → T (List D) := fun _ _ => .ret []
def aC (f : Ex) (g : Fr → Hz → T (List D)) : Fr → Hz → T (List D) := fun fr hp => (f fr hp).bind fun x => (g fr hp).bind fun xs => .ret (x :: xs)
theorem zan : PA X [] (tAs X.K F aN) := PAimp pa_nil fun σ H Q h => by
  obtain ⟨ρ, m0, m1, fr, hp, a, h⟩ := h
  exact h H [] (Keep.refl _ _) a.row .nil
theorem zac {e : Expr} {es : List Expr} {f : Ex} {g : Fr → Hz → T (List D)} (ha : PE X e (tX X.K F f)) (hr : PA X es (tAs X.K F g)) (hs : starEach (e :: es) X.env = (false, eval e X.env) :: starEach es X.env := by rfl) : PA X (e :: es) (tAs X.K F (aC f g)) :=
  PAimp (pa_cons ha hr hs) fun σ H Q h => by
    obtain ⟨ρ, m0, m1, fr, hp, a, h⟩ := h
    refine tX_mk a (T.all_bind h) fun x hx H1 v k1 a1 rx => ?_
    refine tAs_mk a1 (T.all_bind hx) fun xs hxs H2 vs k2 a2 rxs => ?_
    exact hxs H2 (v :: vs) (k1.trans k2) a2.row (.cons (rx.on a1.own k2) rxs)
/-- a length that is surely in bounds -/
def few {α : Type} : List α → Nat → Bool
  | [], _ => true
  | _ :: _, 0 => false
  | _ :: r, n + 1 => few r n
theorem few_le {α : Type} : ∀ {l : List α} {n : Nat}, few l n = true → l.length ≤ n
  | [], _, _ => Nat.zero_le _
  | _ :: _, 0, h => by cases h
  | _ :: r, n + 1, h => Nat.succ_le_succ (few_le (l := r) h)
def guardT {α : Type} (b : Bool) (t : T α) : T α := bif b then t else .fail
theorem all_guard {α : Type} {b : Bool} {t : T α} {P : α → Prop} (h : (guardT b t).all P) : b = true ∧ t.all P := by
  cases b with
  | true => exact ⟨rfl, h⟩
  | false => exact h.elim
theorem few_sz {α : Type} {l : List α} (h : few l 10000 = true) : l.length ≤ sizeLine := Nat.le_trans (few_le h) (by decide)
def eT (g : Fr → Hz → T (List D)) : Ex := fun fr hp => (g fr hp).bind fun xs => guardT (few xs 10000) (.ret (.tup xs))
def nL (g : Fr → Hz → T (List D)) : Fr → Hz → T (List D) := fun fr hp => (g fr hp).bind fun xs => guardT (few xs 10000) (.ret xs)
/-- a tuple laid new: its object is known -/
theorem layTup {pins : List (Addr × Obj)} {σ : L2.St} {H : Hp} {s : Shared} (I : Inv X pins σ H s) {vs : List V} {us : List Value} (r : Vals vs us) (z : vs.length ≤ sizeLine) :
    Inv X pins σ (upd H s.heap.objs.size (.frz { cls := .type "tuple", data := .seq us.toArray } (.tup vs))) { s with heap := s.heap.push { cls := .type "tuple", data := .seq us.toArray } } :=
  I.laid (t' := s.toks) (fun _ _ e => Heap.get?_push_of_some _ e) (Nat.le_refl _) ⟨Heap.get?_push_size _ rfl, z, us, r, IsTup.new _ _⟩
def tTupF (t : TA) : TE := fun σ H Q => t σ H fun xs H1 => xs.length ≤ sizeLine ∧ ∀ p o, H1 p = none → o.dict = none → Q (.ref p) (upd H1 p (.frz o (.tup xs)))
theorem pe_tupF {es : List Expr} {t : TA} {x1} {pos : Pos} (h : PA X es t) : PE X (.Tuple es x1 pos) (tTupF t) := by
  constructor
  intro pins s σ H Q I hq
  refine wpAny_Tuple_spliced (thn (h.run pos pins s σ H _ I hq) fun us s1 hh => ?_)
  obtain ⟨xs, H1, I1, r, z, q⟩ := hh
  exact ⟨by rw [← r.length]; exact z, .ref s1.heap.objs.size, _, layTup I1 r z, rfl, q _ _ (I1.hok.fresh (Nat.le_refl _)) rfl⟩
theorem zt {es : List Expr} {g : Fr → Hz → T (List D)} {x1} {pos : Pos} (h : PA X es (tAs X.K F g)) : PE X (.Tuple es x1 pos) (tX X.K F (eT g)) :=
  PEimp (pe_tupF h) fun σ H Q h => by
    obtain ⟨ρ, m0, m1, fr, hp, a, h⟩ := h
    refine tAs_mk a (T.all_bind h) fun ds hd H1 vs k1 a1 r => ?_
    obtain ⟨hf, k⟩ := all_guard hd
    refine ⟨by rw [r.length]; exact few_sz hf, fun p o hp ho => ?_⟩
    obtain ⟨k2, a2⟩ := a1.upd (o := .frz o (.tup vs)) hp
    exact k _ _ (k1.trans k2) a2.row (.tup (a1.sim.new hp) (.new ho) (r.on a1.own k2))
theorem zl {es : List Expr} {g : Fr → Hz → T (List D)} {pos : Pos} (h : PA X es (tAs X.K F g)) : PE X (.List es pos) (tN X.K F (nL g)) :=
  PEimp (pe_lst h) fun σ H Q h => by
    obtain ⟨ρ, m0, m1, fr, hp, a, h⟩ := h
    refine tAs_mk a (T.all_bind h) fun ds hd H1 vs k1 a1 r => ?_
    obtain ⟨hf, k⟩ := all_guard hd
    refine ⟨by rw [r.length]; exact few_sz hf, fun p hp => ?_⟩
    obtain ⟨k2, a2⟩ := a1.upd (o := .lst vs) hp
    exact k _ p vs (k1.trans k2) a2.row (a.free k1 a1.row hp) upd_same (r.more hp (same_new hp))
/-! ### calls of defs -/
/-- a def whose answer is f of its arguments; nothing that stands is changed -/
def spP (K : PySem.W.Frag) (F : Ev) (f : List D → T D) (n : Nat) : Sp := fun vs H Q _ => vs.length = n ∧ ∃ m ds, (∀ a ∈ m, H a ≠ none) ∧ Reps K F m H vs ds ∧ (f ds).all fun d => ∀ H' v, Same H H' → Rep K F m H' v d → Q v H'
def eCall (f : List D → T D) (n : Nat) (g : Fr → Hz → T (List D)) : Ex := fun fr hp => (g fr hp).bind fun ds => guardT (Nat.beq ds.length n) (f ds)
theorem zcall_core {f : List D → T D} {n : Nat} {g : Fr → Hz → T (List D)} {σ : L2.St} {H : Hp} {Q : VK} {E : XK} (h : tX X.K F (eCall f n g) σ H Q) : tCall (spP X.K F f n) [] E (tAs X.K F g) σ H Q := by
  obtain ⟨ρ, m0, m1, fr, hp, a, h⟩ := h
  refine tAs_mk a (T.all_bind h) fun ds hd H1 vs k1 a1 r => ?_
  obtain ⟨hn, k⟩ := all_guard hd
  rw [List.append_nil]
  refine ⟨by rw [r.length]; exact Nat.eq_of_beq_eq_true hn, m0 ++ m1, ds, a1.sim.dom, r, T.all_mono (fun d hd H' v sm rv => ?_) k⟩
  exact hd H' v (k1.trans (.of sm)) (a1.row.same sm) rv
theorem zcall {e : Expr} {es : List Expr} {x : Str} {p pos : Pos} {f : List D → T D} {n k : Nat} {fa : Addr} {fd : FuncData} {ps : List Str} {g : Fr → Hz → T (List D)} (G : FnOk X.prog X.w X.K X.mg X.base CX0 k fa fd ps (spP X.K F f n)) (hr : Room k X.A) (hg : Gl X x) (hm : X.mg x = some (.ref fa))
    (hk : PySem.W.keepIn X.K (.ref fa) = true) (hb : Binds X.K fd ps []) (ha : PA X (e :: es) (tAs X.K F g)) (hdb : (x == ("__debug__" : Str)) = false := by decide) (he : starEach (e :: es) X.env = (false, eval e X.env) :: starEach es X.env := by rfl) (hpl : (backTo pos (starEach es X.env)).any (·.1) = false := by rfl) :
    PE X (.Call (.Name x p) (e :: es) [] pos) (tX X.K F (eCall f n g)) :=
  PEimp (pe_call (E := E0) G hr hg hm hk hb .nil pass0 ha hdb he hpl) fun σ H Q h => zcall_core h
theorem zcall0 {x : Str} {p pos : Pos} {f : List D → T D} {k : Nat} {fa : Addr} {fd : FuncData} {ps : List Str} (G : FnOk X.prog X.w X.K X.mg X.base CX0 k fa fd ps (spP X.K F f 0)) (hr : Room k X.A) (hg : Gl X x) (hm : X.mg x = some (.ref fa))
    (hk : PySem.W.keepIn X.K (.ref fa) = true) (hb : Binds X.K fd ps []) (hdb : (x == ("__debug__" : Str)) = false := by decide) :
    PE X (.Call (.Name x p) [] [] pos) (tX X.K F (eCall f 0 aN)) :=
  PEimp (pe_call0 (E := E0) G hr hg hm hk hb .nil pass0 hdb) fun σ H Q h => by
    have h := zcall_core (E := E0) h
    obtain ⟨ρ, m0, m1, fr, hp, a, h⟩ := h
    exact h H [] (Keep.refl _ _) a.row .nil
end
end Zl
set_option Elab.async false
set_option linter.all false
set_option maxRecDepth 100000
set_option maxHeartbeats 1000000
/-! Z3: statements, loops, comprehensions, defs. -/
namespace Zl
open PySem L2
/-- how a statement ends -/
inductive Out where
  | nx (fr : Fr) (hp : Hz) | rt (d : D) | bk (fr : Fr) (hp : Hz) | ct (fr : Fr) (hp : Hz)
abbrev Sm := Fr → Hz → T Out
/-- the frame's own objects: those that were, and new ones -/
structure Grow (ρ : Option Addr) (m1 : List Addr) (H : Hp) (m1' : List Addr) (H' : Hp) : Prop where
  keep : ∀ a o, ρ ≠ some a → a ∉ m1 → H a = some o → H' a = some o
  new : ∀ a, a ∈ m1' → a ∈ m1 ∨ H a = none
theorem Grow.of {ρ : Option Addr} {m1 : List Addr} {H H' : Hp} (k : Keep ρ H H') : Grow ρ m1 H m1 H' := ⟨fun a o n _ e => k a o n e, fun _ h => .inl h⟩
theorem Grow.refl (ρ : Option Addr) (m1 : List Addr) (H : Hp) : Grow ρ m1 H m1 H := .of (.refl ρ H)
theorem Grow.on {ρ : Option Addr} {m1 m2 : List Addr} {H H1 H2 : Hp} (x : Grow ρ m1 H m2 H1) (y : ∀ a o, ρ ≠ some a → a ∉ m2 → H1 a = some o → H2 a = some o) : ∀ a o, ρ ≠ some a → a ∉ m1 → H a = some o → H2 a = some o := fun a o hr n e =>
  y a o hr (fun q => (x.new a q).elim n fun z => by rw [z] at e; cases e) (x.keep a o hr n e)
theorem Grow.trans {ρ : Option Addr} {m1 m2 m3 : List Addr} {H H1 H2 : Hp} (hr : ∀ a, ρ = some a → H1 a ≠ none) (x : Grow ρ m1 H m2 H1) (y : Grow ρ m2 H1 m3 H2) : Grow ρ m1 H m3 H2 := ⟨x.on y.keep, fun a q => by
  by_cases n : a ∈ m1
  · exact .inl n
  · rcases y.new a q with z | z
    · exact x.new a z
    · refine .inr ?_
      cases e : H a with
      | none => rfl
      | some o =>
        by_cases hq : ρ = some a
        · exact absurd z (hr a hq)
        · rw [x.keep a o hq n e] at z; cases z⟩
section
variable (K : PySem.W.Frag) (F : Ev)
def PostS (ρ : Option Addr) (m0 m1 : List Addr) (H : Hp) (D : Ends) : Out → Prop
  | .nx fr hp => ∀ m1' H' σ', Grow ρ m1 H m1' H' → At K F ρ m0 m1' H' σ' fr hp → D.nx σ' H'
  | .rt d => ∀ H' v, (∀ a o, ρ ≠ some a → a ∉ m1 → H a = some o → H' a = some o) → RowA K ρ H' → Rep K F m0 H' v d → D.rt v H'
  | .bk fr hp => ∀ m1' H' σ', Grow ρ m1 H m1' H' → At K F ρ m0 m1' H' σ' fr hp → D.bk σ' H'
  | .ct fr hp => ∀ m1' H' σ', Grow ρ m1 H m1' H' → At K F ρ m0 m1' H' σ' fr hp → D.ct σ' H'
def tS (g : Sm) : TS := fun D σ H => ∃ ρ m0 m1 fr hp, At K F ρ m0 m1 H σ fr hp ∧ (g fr hp).all (PostS K F ρ m0 m1 H D)
end
section
variable {K : PySem.W.Frag} {F : Ev} {ρ : Option Addr} {m0 m1 m2 : List Addr} {H H1 H2 : Hp} {σ : L2.St} {fr : Fr} {hp : Hz} {D : Ends}
theorem At.rowN (a : At K F ρ m0 m1 H σ fr hp) : ∀ b, ρ = some b → H b ≠ none := fun b e z => by
  obtain ⟨_, _, _, _, _, e1, _⟩ := a.row b e
  rw [e1] at z; cases z
theorem PostS.on (hr : ∀ a, ρ = some a → H1 a ≠ none) (x : Grow ρ m1 H m2 H1) {o : Out} (h : PostS K F ρ m0 m1 H D o) : PostS K F ρ m0 m2 H1 D o := by
  cases o with
  | nx fr hp => exact fun m' H' σ' g a => h m' H' σ' (.trans hr x g) a
  | bk fr hp => exact fun m' H' σ' g a => h m' H' σ' (.trans hr x g) a
  | ct fr hp => exact fun m' H' σ' g a => h m' H' σ' (.trans hr x g) a
  | rt d => exact fun H' v k w r => h H' v (x.on k) w r
theorem tS_mk {g : Sm} (a : At K F ρ m0 m1 H σ fr hp) (x : Grow ρ m2 H2 m1 H) (h : (g fr hp).all (PostS K F ρ m0 m2 H2 D)) : tS K F g D σ H :=
  ⟨ρ, m0, m1, fr, hp, a, T.all_mono (fun _ q => q.on a.rowN x) h⟩
end
def seqO (g : Sm) : Out → T Out
  | .nx fr hp => g fr hp
  | o => .ret o
def sSeq (f g : Sm) : Sm := fun fr hp => (f fr hp).bind (seqO g)
def sNil : Sm := fun fr hp => .ret (.nx fr hp)
section
variable {X : Cx} {F : Ev}
theorem znil : PSs X [] (tS X.K F sNil) := PSsimp pss_nil fun D σ H h => by
  obtain ⟨ρ, m0, m1, fr, hp, a, h⟩ := h
  exact h m1 H σ (.refl _ _ _) a
theorem seq_core {f g : Sm} {D : Ends} {σ : L2.St} {H : Hp} (h : tS X.K F (sSeq f g) D σ H) : tSeq (tS X.K F f) (tS X.K F g) D σ H := by
  obtain ⟨ρ, m0, m1, fr, hp, a, h⟩ := h
  refine ⟨ρ, m0, m1, fr, hp, a, T.all_mono (fun o q => ?_) (T.all_bind h)⟩
  cases o with
  | nx fr' hp' => exact fun m1' H' σ' gr a' => tS_mk a' gr q
  | rt d => exact q
  | bk fr' hp' => exact q
  | ct fr' hp' => exact q
theorem zcons {st : Stmt} {rest : List Stmt} {f g : Sm} (h1 : PS X st (tS X.K F f)) (h2 : PSs X rest (tS X.K F g)) : PSs X (st :: rest) (tS X.K F (sSeq f g)) :=
  PSsimp (pss_cons h1 h2) fun D σ H h => seq_core h
theorem zlast {st : Stmt} {f : Sm} (h1 : PS X st (tS X.K F f)) : PSs X [st] (tS X.K F f) := pss_one h1
/-! ### targets -/
def setN {α : Type} : List α → Nat → α → List α
  | [], _, _ => []
  | _ :: r, 0, x => x :: r
  | y :: r, n + 1, x => y :: setN r n x
theorem setN_eq {α : Type} : ∀ (l : List α) (i : Nat) (x : α), setN l i x = l.set i x
  | [], _, _ => rfl
  | _ :: _, 0, _ => rfl
  | y :: r, n + 1, x => congrArg (y :: ·) (setN_eq r n x)
theorem FrR.set {K : PySem.W.Frag} {ρ : Option Addr} {m0 m1 : List Addr} {H : Hp} {σ : L2.St} {fr : Fr} (a : FrR K F ρ m0 m1 H σ fr) (i : Nat) {v : V} {s : SV} (r : RepS K F ρ m0 m1 H v s) : FrR K F ρ m0 m1 H (σ.set i (some v)) (setN fr i (some s)) := by
  refine ⟨by rw [setN_eq]; simpa using a.len, fun j s' e => ?_⟩
  rw [setN_eq] at e
  by_cases hj : i = j
  · subst hj
    rw [List.getElem?_set] at e
    simp only [if_true] at e
    split at e
    · rename_i hl
      cases e
      refine ⟨v, ?_, r⟩
      rw [List.getElem?_set]
      simp [a.len, hl]
    · cases e
  · rw [List.getElem?_set_ne hj] at e
    obtain ⟨v', e1, r'⟩ := a.slot j s' e
    exact ⟨v', by rw [List.getElem?_set_ne hj]; exact e1, r'⟩
/-- a value, or (an iterator's own pair) a tuple of values -/
def RepL (K : PySem.W.Frag) (F : Ev) (L : Bool) (m : List Addr) (H : Hp) (v : V) (d : Zl.D) : Prop := Rep K F m H v d ∨ (L = true ∧ ∃ a vs ds, v = .ref a ∧ d = .tup ds ∧ SqT K H a vs ∧ Reps K F m H vs ds)
theorem RepL.rep {K : PySem.W.Frag} {F : Ev} {m : List Addr} {H : Hp} {v : V} {d : Zl.D} (h : RepL K F false m H v d) : Rep K F m H v d := h.elim id fun z => nomatch z.1
theorem RepL.tupR {K : PySem.W.Frag} {F : Ev} {L : Bool} {m : List Addr} {H : Hp} {v : V} {ds : List Zl.D} (h : RepL K F L m H v (.tup ds)) : ∃ a vs, v = .ref a ∧ SqT K H a vs ∧ Reps K F m H vs ds := by
  rcases h with h | ⟨_, a, vs, es, e1, e2, h1, h2⟩
  · exact h.tupR
  · cases e2
    exact ⟨a, vs, e1, h1, h2⟩
/-- a target's reading: the slots behind the store -/
def TgR (K : PySem.W.Frag) (F : Ev) (L : Bool) (set : Zl.D → Fr → T Fr) (g : TG) : Prop :=
  ∀ (ρ : Option Addr) (m0 m1 : List Addr) (H : Hp) (σ : L2.St) (fr : Fr) (v : V) (d : Zl.D) (Q : L2.St → Hp → Prop), FrR K F ρ m0 m1 H σ fr → RepL K F L (m0 ++ m1) H v d → (set d fr).all (fun fr' => ∀ σ', FrR K F ρ m0 m1 H σ' fr' → Q σ' H) → g v σ H Q
def gI (i : Nat) : Zl.D → Fr → T Fr := fun d fr => .ret (setN fr i (some (.v d)))
theorem zg_name {K : PySem.W.Frag} (i : Nat) : TgR K F false (gI i) (gName i) := fun ρ m0 m1 H σ fr v d Q a r h => h _ (FrR.set (s := .v d) a i r.rep)
/-- (i, j) = a pair -/
def g2 (i j : Nat) : Zl.D → Fr → T Fr := fun d fr => match d with
  | .tup [x, y] => .ret (setN (setN fr i (some (.v x))) j (some (.v y)))
  | _ => .fail
theorem zg_pair {K : PySem.W.Frag} {L : Bool} (i j : Nat) : TgR K F L (g2 i j) (gTup K 2 (gCons (gName i) (gCons (gName j) gNil))) := fun ρ m0 m1 H σ fr v d Q a r h => by
  unfold g2 at h
  split at h
  · rename_i x y
    obtain ⟨b, vs, rfl, hs, rs⟩ := r.tupR
    cases rs with
    | cons r1 rs =>
      cases rs with
      | cons r2 rs =>
        cases rs
        exact ⟨b, _, rfl, hs, rfl, _, _, rfl, _, _, rfl, rfl, h _ (FrR.set (s := .v y) (FrR.set (s := .v x) a i r1) j r2)⟩
  · exact h.elim
/-! ### simple statements -/
def sSet (i : Nat) (f : Ex) : Sm := fun fr hp => (f fr hp).bind fun d => .ret (.nx (setN fr i (some (.v d))) hp)
theorem set_core {f : Ex} {i : Nat} {D : Ends} {σ : L2.St} {H : Hp} (h : tS X.K F (sSet i f) D σ H) : tAsg (tX X.K F f) (gName i) D σ H := by
  obtain ⟨ρ, m0, m1, fr, hp, a, h⟩ := h
  exact tX_mk a (T.all_bind h) fun d hd H' v kp a' r => hd m1 H' _ (.of kp) ⟨a'.fr.set i r, a'.sim, a'.row, a'.own⟩
theorem zset {i : Nat} {x : Str} {e : Expr} {f : Ex} {pos pos' : Pos} (hN : X.N.Nodup) (hi : X.N[i]? = some x) (hx : Loc X.env.scope x) (he : PE X e (tX X.K F f)) (hs : swapsWith e (some (.Name x pos')) pos.line X.env = pure false := by rfl)
    (hf : X.fn x = true ∨ X.env.scope.names.lookup x = some .local := by first | exact .inl rfl | exact .inr rfl | assumption) : PS X (.Assign [.Name x pos'] e pos) (tS X.K F (sSet i f)) :=
  PSimp (ps_set hN hi hx he hs hf) fun D σ H h => set_core h
/-- a new list of the frame's own -/
def sNew (i : Nat) (f : Fr → Hz → T (List Zl.D)) : Sm := fun fr hp => (f fr hp).bind fun xs => if lstOk xs then .ret (.nx (setN fr i (some (.r hp.length))) (hp ++ [xs])) else .fail
theorem At.more {K : PySem.W.Frag} {ρ : Option Addr} {m0 m1 : List Addr} {H H' : Hp} {σ : L2.St} {fr : Fr} {hp : Hz} {b : Addr} {ds : List Zl.D} (a : At K F ρ m0 m1 H σ fr hp) (kp : Keep ρ H H') (w : RowA K ρ H') (hb : H b = none) (hl : CellR K F (m0 ++ (m1 ++ [b])) H' b ds) (hl2 : H' b ≠ none) (i : Nat) :
    Grow ρ m1 H (m1 ++ [b]) H' ∧ At K F ρ m0 (m1 ++ [b]) H' (σ.set i (some (.ref b))) (setN fr i (some (.r hp.length))) (hp ++ [ds]) := by
  have hbm := a.sim.new hb
  have a' := a.on kp w
  have lift : ∀ {v : V} {d : Zl.D}, Rep K F (m0 ++ m1) H v d → Rep K F (m0 ++ (m1 ++ [b])) H' v d := fun {v d} h =>
    Rep.keep (fun c q => by
      rcases List.mem_append.mp q with z | z
      · exact .inl (List.mem_append_left _ z)
      · rcases List.mem_append.mp z with z | z
        · exact .inl (List.mem_append_right _ z)
        · have : c = b := by simpa using z
          subst this
          exact .inr hb) (fun c o n e => kp c o (fun z => n (List.mem_append_left _ (a.own c z))) e) d v h
  have lifts : ∀ {v : List V} {d : List Zl.D}, Reps K F (m0 ++ m1) H v d → Reps K F (m0 ++ (m1 ++ [b])) H' v d := fun {v d} h =>
    Reps.keep (fun c q => by
      rcases List.mem_append.mp q with z | z
      · exact .inl (List.mem_append_left _ z)
      · rcases List.mem_append.mp z with z | z
        · exact .inl (List.mem_append_right _ z)
        · have : c = b := by simpa using z
          subst this
          exact .inr hb) (fun c o n e => kp c o (fun z => n (List.mem_append_left _ (a.own c z))) e) d v h
  refine ⟨⟨fun c o n _ e => kp c o n e, fun c q => ?_⟩, ⟨by rw [setN_eq]; simpa using a.fr.len, fun j s e => ?_⟩, ⟨by simp [a.sim.len], ?_, fun c h1 h2 => ?_, fun c q z => ?_, fun n c e => ?_⟩, w, a.own⟩
  · rcases List.mem_append.mp q with z | z
    · exact .inl z
    · have : c = b := by simpa using z
      subst this
      exact .inr hb
  · rw [setN_eq] at e
    by_cases hj : i = j
    · subst hj
      rw [List.getElem?_set] at e
      simp only [if_true] at e
      split at e
      · rename_i hlt
        cases e
        refine ⟨.ref b, ?_, b, ?_, rfl⟩
        · rw [List.getElem?_set]
          simp [a.fr.len, hlt]
        · rw [← a.sim.len]
          simp
      · cases e
    · rw [List.getElem?_set_ne hj] at e
      obtain ⟨v', e1, r'⟩ := a.fr.slot j s e
      refine ⟨v', by rw [List.getElem?_set_ne hj]; exact e1, ?_⟩
      cases s with
      | r n =>
        obtain ⟨c, e2, e3⟩ := r'
        refine ⟨c, ?_, e3⟩
        have : n < m1.length := (List.getElem?_eq_some_iff.mp e2).1
        rw [List.getElem?_append_left this]
        exact e2
      | v d => exact lift r'
      | row => exact r'
  · refine List.nodup_append.mpr ⟨a.sim.nd, by simp, fun x hx y hy z => ?_⟩
    have : y = b := by simpa using hy
    subst this
    subst z
    exact hbm (List.mem_append_right _ hx)
  · rcases List.mem_append.mp h2 with z | z
    · exact a.sim.dis c h1 z
    · have : c = b := by simpa using z
      subst this
      exact hbm (List.mem_append_left _ h1)
  · rcases List.mem_append.mp q with y | y
    · exact a'.sim.dom c (List.mem_append_left _ y) z
    · rcases List.mem_append.mp y with y | y
      · exact a'.sim.dom c (List.mem_append_right _ y) z
      · have : c = b := by simpa using y
        subst this
        exact hl2 z
  · by_cases hn : n < hp.length
    · rw [List.getElem?_append_left hn] at e
      obtain ⟨c1, e1, cr⟩ := a.sim.cell n c e
      have hm : c1 ∈ m1 := List.mem_of_getElem? e1
      refine ⟨c1, ?_, cr.tr (fun ob => kp c1 ob (fun z => a.sim.dis c1 (a.own c1 z) hm)) fun vs ds r => lifts r⟩
      rw [List.getElem?_append_left (by rw [a.sim.len]; exact hn)]
      exact e1
    · have en : n = hp.length := by
        have := (List.getElem?_eq_some_iff.mp e).1
        simp at this
        omega
      subst en
      have ec : c = ds := by simpa using e.symm
      subst ec
      exact ⟨b, by rw [← a.sim.len]; simp, hl⟩
theorem new_core {f : Fr → Hz → T (List Zl.D)} {i : Nat} {D : Ends} {σ : L2.St} {H : Hp} (h : tS X.K F (sNew i f) D σ H) : tAsg (tN X.K F f) (gName i) D σ H := by
  obtain ⟨ρ, m0, m1, fr, hp, a, h⟩ := h
  refine tN_mk a (T.all_bind h) fun ds hd H' b vs kp a' hb hl r => ?_
  by_cases ok : lstOk ds = true
  case neg => rw [if_neg ok] at hd; exact hd.elim
  rw [if_pos ok] at hd
  obtain ⟨g, at'⟩ := a.more kp a'.row hb (.inl ⟨ok, vs, hl, r⟩) (by rw [hl]; exact fun z => nomatch z) i
  exact hd _ H' _ g at'
theorem znew {i : Nat} {x : Str} {e : Expr} {f : Fr → Hz → T (List Zl.D)} {pos pos' : Pos} (hN : X.N.Nodup) (hi : X.N[i]? = some x) (hx : Loc X.env.scope x) (he : PE X e (tN X.K F f)) (hs : swapsWith e (some (.Name x pos')) pos.line X.env = pure false := by rfl)
    (hf : X.fn x = true ∨ X.env.scope.names.lookup x = some .local := by first | exact .inl rfl | exact .inr rfl | assumption) : PS X (.Assign [.Name x pos'] e pos) (tS X.K F (sNew i f)) :=
  PSimp (ps_set hN hi hx he hs hf) fun D σ H h => new_core h
def sRet (f : Ex) : Sm := fun fr hp => (f fr hp).bind fun d => .ret (.rt d)
theorem zret {e : Expr} {f : Ex} {pos : Pos} (he : PE X e (tX X.K F f)) : PS X (.Return (some e) pos) (tS X.K F (sRet f)) := PSimp (ps_ret he) fun D σ H h => by
  obtain ⟨ρ, m0, m1, fr, hp, a, h⟩ := h
  exact tX_mk a (T.all_bind h) fun d hd H' v kp a' r => hd H' v (fun b o n _ e => kp b o n e) a'.row (r.sub fun _ q => List.mem_append_left _ q)
def sIf (t : Fr → Hz → T Bool) (f g : Sm) : Sm := fun fr hp => (t fr hp).bind fun b => bif b then f fr hp else g fr hp
theorem zifs {c : Expr} {x y : List Stmt} {t : Fr → Hz → T Bool} {f g : Sm} {pos : Pos} (hc : PT X c (tB' X.K F t)) (hx : PSs X x (tS X.K F f)) (hy : PSs X y (tS X.K F g)) : PS X (.If c x y pos) (tS X.K F (sIf t f g)) := PSimp (ps_if hc hx hy) fun D σ H h => by
  obtain ⟨ρ, m0, m1, fr, hp, a, h⟩ := h
  refine tB_mk a (T.all_bind h) fun b hb H' kp a' => ?_
  cases b with
  | true => exact tS_mk a' (.of kp) hb
  | false => exact tS_mk a' (.of kp) hb
def sDrop (f : Ex) : Sm := fun fr hp => (f fr hp).bind fun _ => .ret (.nx fr hp)
theorem zdrop {e : Expr} {f : Ex} {pos : Pos} (he : PE X e (tX X.K F f)) (hs : swapsWith e none pos.line X.env = pure false := by rfl) : PS X (.Expr e pos) (tS X.K F (sDrop f)) := PSimp (ps_expr he hs) fun D σ H h => by
  obtain ⟨ρ, m0, m1, fr, hp, a, h⟩ := h
  exact tX_mk a (T.all_bind h) fun d hd H' v kp a' r => hd m1 H' _ (.of kp) a'
def sFail : Sm := fun _ _ => .fail
/-- what is never come to -/
theorem znever {st : Stmt} : PS X st (tS X.K F sFail) := PSimp ps_never fun D σ H h => by
  obtain ⟨ρ, m0, m1, fr, hp, a, h⟩ := h
  exact h.elim
/-! ### defs -/
def retOf : Out → T Zl.D
  | .rt d => .ret d
  | .nx _ _ => .ret .non
  | _ => .fail
def argFr (n : Nat) : List Zl.D → Fr
  | d :: ds => some (.v d) :: argFr (n - 1) ds
  | [] => List.replicate n none
/-- a def's body, run from its arguments -/
def runB (g : Sm) (n : Nat) : List Zl.D → T Zl.D := fun ds => (g (argFr n ds) []).bind retOf
theorem argFr_eq : ∀ (n : Nat) (ds : List Zl.D), argFr n ds = ds.map (fun d => some (.v d)) ++ List.replicate (n - ds.length) none
  | n, [] => by simp [argFr]
  | n, d :: ds => by
    rw [argFr, argFr_eq (n - 1) ds]
    simp [Nat.sub_sub, Nat.add_comm]
theorem startFr {K : PySem.W.Frag} {m : List Addr} {H : Hp} {N : List Str} {vs : List V} {ds : List Zl.D} (r : Reps K F m H vs ds) : FrR K F none m [] H (L2.start N vs) (argFr N.length ds) := by
  rw [argFr_eq]
  unfold L2.start
  refine ⟨by simp [r.length], fun i s e => ?_⟩
  by_cases hi : i < ds.length
  · rw [List.getElem?_append_left (by simpa using hi), List.getElem?_map] at e
    cases q : ds[i]? with
    | none => rw [q] at e; cases e
    | some d =>
      rw [q] at e
      have e : SV.v d = s := by simpa using e
      subst e
      obtain ⟨v, e1, r1⟩ := r.get q
      have hv : i < vs.length := by rw [r.length]; exact hi
      refine ⟨v, ?_, ?_⟩
      · rw [List.getElem?_append_left (by simpa using hv), List.getElem?_map, e1]
        rfl
      · show Rep K F (m ++ []) H v d
        rw [List.append_nil]
        exact r1
  · rw [List.getElem?_append_right (by simpa using hi)] at e
    rw [List.getElem?_replicate] at e
    split at e <;> cases e
theorem run_core {K : PySem.W.Frag} {g : Sm} {N : List Str} {vs : List V} {H : Hp} {Q : VK} {E : XK} {n : Nat} (h : spP K F (runB g N.length) n vs H Q E) : tS K F g { nx := fun _ H' => Q .non H', rt := Q } (L2.start N vs) H := by
  obtain ⟨_, m, ds, dom, r, h⟩ := h
  refine ⟨none, m, [], argFr N.length ds, [], ⟨startFr r, ⟨rfl, .nil, fun a _ q => by simp at q, fun a q => dom a (by simpa using q), fun n c e => by simp at e⟩, (fun a e => nomatch e), (fun a e => nomatch e)⟩, ?_⟩
  refine T.all_mono (fun o q => ?_) (T.all_bind h)
  cases o with
  | nx fr hp => exact fun m1' H' σ' gr a => q H' .non (fun a o e => gr.keep a o (fun z => nomatch z) (by simp) e) .non
  | rt d => exact fun H' v k w r => q H' v (fun a o e => k a o (fun z => nomatch z) (by simp) e) r
  | bk fr hp => exact q.elim
  | ct fr hp => exact q.elim
/-- THE RULE for a def -/
theorem zdef {P : Program} {w : World} {K : PySem.W.Frag} {mg : Str → Option Value} {base : Heap} {x qual : Str} {st : Stmt} {f : Addr} {fd : FuncData} {N ps : List Str} {k : Nat} {g : Sm} (Fn : L2.Fun K x qual st f fd) (S : FnScope N ps (defScope st))
    (hb : ∀ (cdv : Value) (A : Around) (outer : List Env) (s : Shared) (H : Hp) (E : XK), Room k (A.deeper (PyProof.Rows.envOfC qual (defScope st) s.heap.objs.size f cdv)) → PSs (cxOf CX0 P w K mg base N qual (defScope st) f cdv A outer s H E).nox (defBody st) (tS K F g)) :
    FnOk P w K mg base CX0 (k + 1) f fd ps (spP K F (runB g N.length) ps.length) :=
  Fn.ok S (fun vs H Q E h => h.1) fun cdv A outer s H vs Q E hr h => ⟨_, hb cdv A outer s H E hr, run_core h⟩
end
end Zl
set_option Elab.async false
set_option linter.all false
set_option maxRecDepth 100000
set_option maxHeartbeats 1000000
/-! Z4: what is walked; for, while, comprehensions. -/
namespace Zl
open PySem L2
/-- a later heap, more of it forbidden -/
structure Later (m : List Addr) (H : Hp) (m' : List Addr) (H' : Hp) : Prop where
  new : ∀ a, a ∈ m' → a ∈ m ∨ H a = none
  keep : ∀ a o, a ∉ m → H a = some o → H' a = some o
theorem Later.refl (m : List Addr) (H : Hp) : Later m H m H := ⟨fun _ h => .inl h, fun _ _ _ h => h⟩
theorem Later.trans {m m1 m2 : List Addr} {H H1 H2 : Hp} (x : Later m H m1 H1) (y : Later m1 H1 m2 H2) (hm : ∀ a, a ∈ m → H1 a ≠ none) : Later m H m2 H2 where
  new := fun a q => by
    by_cases n : a ∈ m
    · exact .inl n
    · rcases y.new a q with z | z
      · exact x.new a z
      · refine .inr ?_
        cases e : H a with
        | none => rfl
        | some o => rw [x.keep a o n e] at z; cases z
  keep := fun a o n e => y.keep a o (fun q => (x.new a q).elim n fun z => by rw [z] at e; cases e) (x.keep a o n e)
theorem Rep.later {K : PySem.W.Frag} {F : Ev} {m m' : List Addr} {H H' : Hp} {v : V} {d : D} (h : Rep K F m H v d) (l : Later m H m' H') : Rep K F m' H' v d := Rep.keep l.new l.keep d v h
theorem Reps.later {K : PySem.W.Frag} {F : Ev} {m m' : List Addr} {H H' : Hp} {v : List V} {d : List D} (h : Reps K F m H v d) (l : Later m H m' H') : Reps K F m' H' v d := Reps.keep l.new l.keep d v h
theorem Grow.later {ρ : Option Addr} {m0 m1 m1' : List Addr} {H H' : Hp} (g : Grow ρ m1 H m1' H') (own : ∀ a, ρ = some a → a ∈ m0) : Later (m0 ++ m1) H (m0 ++ m1') H' where
  new := fun a q => by
    rcases List.mem_append.mp q with z | z
    · exact .inl (List.mem_append_left _ z)
    · rcases g.new a z with z | z
      · exact .inl (List.mem_append_right _ z)
      · exact .inr z
  keep := fun a o n e => g.keep a o (fun z => n (List.mem_append_left _ (own a z))) (fun z => n (List.mem_append_right _ z)) e
/-- .. an iterator's own pair need not be known so well -/
def WalkD (K : PySem.W.Frag) (F : Ev) (L : Bool) (m : List Addr) (H : Hp) (J : It) (ds : List D) : Prop :=
  ∃ (G : Hp → Prop) (Y : Nat → Hp → V → Hp → Prop), Walk J ds.length G Y ∧ (∀ m' H', Later m H m' H' → G H') ∧
    ∀ (i : Nat) (d : D) (x : V) (m' : List Addr) (H1 H2 : Hp), ds[i]? = some d → Later m H m' H1 → (∀ a ∈ m', H1 a ≠ none) → Y i H1 x H2 → Same H1 H2 ∧ RepL K F L m' H2 x d
def tI (K : PySem.W.Frag) (F : Ev) (L : Bool) (f : Fr → Hz → T (List D)) : TI := fun σ H R => ∃ ρ m0 m1 fr hp, At K F ρ m0 m1 H σ fr hp ∧ (f fr hp).all fun ds => ∀ J H', Keep ρ H H' → RowA K ρ H' → WalkD K F L (m0 ++ m1) H' J ds → R J H'
theorem tI_mk {K : PySem.W.Frag} {F : Ev} {L : Bool} {ρ : Option Addr} {m0 m1 : List Addr} {H : Hp} {σ : L2.St} {fr : Fr} {hp : Hz} {f : Fr → Hz → T (List D)} {P : List D → Prop} {R : It → Hp → Prop} (a : At K F ρ m0 m1 H σ fr hp) (h : (f fr hp).all P)
    (k : ∀ d, P d → ∀ J H', Keep ρ H H' → At K F ρ m0 m1 H' σ fr hp → WalkD K F L (m0 ++ m1) H' J d → R J H') : tI K F L f σ H R :=
  ⟨ρ, m0, m1, fr, hp, a, T.all_mono (fun d hd J H' kp s w => k d hd J H' kp (a.on kp s) w) h⟩
section
variable {X : Cx} {F : Ev}
theorem walkT {K : PySem.W.Frag} {m : List Addr} {H : Hp} {a : Addr} {vs : List V} {ds : List D} (hs : ∀ m' H', Later m H m' H' → SqT K H' a vs) (r : Reps K F m H vs ds) : WalkD K F false m H (Itt K a) ds := by
  refine ⟨_, _, by rw [← r.length]; exact walk_tup, hs, fun i d x m' H1 H2 e l dom y => ?_⟩
  obtain ⟨rfl, e2⟩ := y
  obtain ⟨v, e3, rv⟩ := r.get e
  rw [e2] at e3
  cases e3
  exact ⟨Same.refl _, .inl (rv.later l)⟩
theorem walkL {K : PySem.W.Frag} {m : List Addr} {H : Hp} {a : Addr} {vs : List V} {ds : List D} (hs : ∀ m' H', Later m H m' H' → SqL K H' a vs) (r : Reps K F m H vs ds) : WalkD K F false m H (Itl K a) ds := by
  refine ⟨_, _, by rw [← r.length]; exact walk_list, hs, fun i d x m' H1 H2 e l dom y => ?_⟩
  obtain ⟨rfl, e2⟩ := y
  obtain ⟨v, e3, rv⟩ := r.get e
  rw [e2] at e3
  cases e3
  exact ⟨Same.refl _, .inl (rv.later l)⟩
def asTup : D → T (List D)
  | .tup xs => .ret xs
  | _ => .fail
def asLst : D → T (List D)
  | .lst xs => .ret xs
  | _ => .fail
theorem all_asTup {d : D} {P : List D → Prop} (h : (asTup d).all P) : ∃ xs, d = .tup xs ∧ P xs := by
  unfold asTup at h
  split at h
  · exact ⟨_, rfl, h⟩
  · exact h.elim
theorem all_asLst {d : D} {P : List D → Prop} (h : (asLst d).all P) : ∃ xs, d = .lst xs ∧ P xs := by
  unfold asLst at h
  split at h
  · exact ⟨_, rfl, h⟩
  · exact h.elim
/-- lo, lo + 1, .. -/
def upto : Int → Nat → List D
  | _, 0 => []
  | lo, n + 1 => .int lo :: upto (lo + 1) n
theorem upto_len : ∀ (n : Nat) (lo : Int), (upto lo n).length = n
  | 0, _ => rfl
  | n + 1, lo => congrArg (· + 1) (upto_len n (lo + 1))
theorem upto_get : ∀ (n : Nat) (lo : Int) (i : Nat) (d : D), (upto lo n)[i]? = some d → d = .int (lo + i)
  | 0, _, _, _, h => by simp [upto] at h
  | n + 1, lo, 0, d, h => by
    have : D.int lo = d := by simpa [upto] using h
    rw [← this]
    simp
  | n + 1, lo, i + 1, d, h => by
    have := upto_get n (lo + 1) i d (by simpa [upto] using h)
    rw [this]
    congr 1
    omega
def smallI (i : Int) : Bool := decide (-1000000 ≤ i) && decide (i ≤ 1000000)
theorem small_of {i : Int} (h : smallI i = true) : -1000000 ≤ i ∧ i ≤ 1000000 := by
  unfold smallI at h
  rw [Bool.and_eq_true] at h
  exact ⟨of_decide_eq_true h.1, of_decide_eq_true h.2⟩
def rng1 : List D → T (List D)
  | [.int j] => guardT (smallI j) (.ret (upto 0 j.toNat))
  | _ => .fail
def rng2 : List D → T (List D)
  | [.int i, .int j] => guardT (smallI i && smallI j) (.ret (upto i (j - i).toNat))
  | _ => .fail
theorem walkR {K : PySem.W.Frag} {m : List Addr} {H : Hp} {lo : Int} {n : Nat} : WalkD K F false m H (Itr lo n) (upto lo n) := by
  refine ⟨_, _, by rw [upto_len]; exact walk_range, fun _ _ _ => trivial, fun i d x m' H1 H2 e l dom y => ?_⟩
  obtain ⟨rfl, rfl⟩ := y
  rw [upto_get n lo i d e]
  exact ⟨Same.refl _, .inl (.int _)⟩
theorem zir1 {tg a : Expr} {g : Fr → Hz → T (List D)} {p pos : Pos} (hg : Gl X "range") (hm : X.mg "range" = none) (ha : PA X [a] (tAs X.K F g)) (hs : starEach [a] X.env = [(false, eval a X.env)] := by rfl) : PI X tg (.Call (.Name "range" p) [a] [] pos) (tI X.K F false fun fr hp => (g fr hp).bind rng1) :=
  PIimp (pi_range1 hg hm ha hs) fun σ H R h => by
    obtain ⟨ρ, m0, m1, fr, hp, a, h⟩ := h
    refine tAs_mk a (T.all_bind h) fun ds hd H' vs kp a' r => ?_
    unfold rng1 at hd
    split at hd
    · rename_i j
      obtain ⟨hj, k⟩ := all_guard hd
      obtain ⟨h1, h2⟩ := small_of hj
      cases r with
      | cons r1 rs =>
        cases rs
        cases r1
        exact ⟨j, rfl, by omega, by omega, k _ H' kp a'.row walkR⟩
    · exact hd.elim
theorem zir2 {tg a b : Expr} {g : Fr → Hz → T (List D)} {p pos : Pos} (hg : Gl X "range") (hm : X.mg "range" = none) (ha : PA X [a, b] (tAs X.K F g)) (hs : starEach [a, b] X.env = [(false, eval a X.env), (false, eval b X.env)] := by rfl) (hs2 : starEach [b] X.env = [(false, eval b X.env)] := by rfl) : PI X tg (.Call (.Name "range" p) [a, b] [] pos) (tI X.K F false fun fr hp => (g fr hp).bind rng2) :=
  PIimp (pi_range2 hg hm ha hs hs2) fun σ H R h => by
    obtain ⟨ρ, m0, m1, fr, hp, a, h⟩ := h
    refine tAs_mk a (T.all_bind h) fun ds hd H' vs kp a' r => ?_
    unfold rng2 at hd
    split at hd
    · rename_i i j
      obtain ⟨hj, k⟩ := all_guard hd
      rw [Bool.and_eq_true] at hj
      obtain ⟨h1, h2⟩ := small_of hj.1
      obtain ⟨h3, h4⟩ := small_of hj.2
      cases r with
      | cons r1 rs =>
        cases rs with
        | cons r2 rs =>
          cases rs
          cases r1
          cases r2
          exact ⟨i, j, rfl, ⟨by omega, by omega, by omega, by omega⟩, k _ H' kp a'.row walkR⟩
    · exact hd.elim
/-! ### for -/
def loopO (k : Fr → Hz → T Out) : Out → T Out
  | .nx fr hp => k fr hp
  | .ct fr hp => k fr hp
  | .bk fr hp => .ret (.nx fr hp)
  | .rt d => .ret (.rt d)
def forS (set : D → Fr → T Fr) (body : Sm) : List D → Fr → Hz → T Out
  | [], fr, hp => .ret (.nx fr hp)
  | d :: ds, fr, hp => (set d fr).bind fun fr1 => (body fr1 hp).bind (loopO (forS set body ds))
def sFor (it : Fr → Hz → T (List D)) (set : D → Fr → T Fr) (body : Sm) : Sm := fun fr hp => (it fr hp).bind fun ds => forS set body ds fr hp
theorem drop_get {α : Type} {l : List α} {i : Nat} (h : i < l.length) : ∃ x, l[i]? = some x ∧ l.drop i = x :: l.drop (i + 1) := ⟨l[i], by simp [h], List.drop_eq_getElem_cons h⟩
theorem zfor {L : Bool} {tg iter : Expr} {body : List Stmt} {it : Fr → Hz → T (List D)} {set : D → Fr → T Fr} {g : TG} {b : Sm} {pos : Pos} (hp : PassesOwn (model X.prog X.w) X.A X.env X.xe) (hc : X.calm = true) (hi : PI X tg iter (tI X.K F L it)) (hg : PG X tg g) (hs : TgR X.K F L set g)
    (hb : PSs X body (tS X.K F b)) (hf : ∀ x, foldedSetIterable iter X.env x = pure x := by intro _; rfl) : PS X (.For tg iter body [] pos) (tS X.K F (sFor it set b)) :=
  PSimp (ps_for hp hc hi hg hb hf) fun D σ H h => by
    obtain ⟨ρ, m0, m1, fr, hz, a, h⟩ := h
    refine tI_mk a (T.all_bind h) fun ds hd J H1 kp a1 w => ?_
    obtain ⟨G, Y, W, hG, hY⟩ := w
    refine for_it W (fun i σ' H' => ∃ m1' fr' hp', Grow ρ m1 H1 m1' H' ∧ At X.K F ρ m0 m1' H' σ' fr' hp' ∧ (forS set b (ds.drop i) fr' hp').all (PostS X.K F ρ m0 m1 H1 D)) ?_ ?_ ?_ ?_
    · exact ⟨m1, fr, hz, .refl _ _ _, a1, T.all_mono (fun _ q => q.on a1.rowN (.of kp)) hd⟩
    · rintro i σ' H' _ ⟨m1', fr', hp', gr, a', _⟩
      exact hG _ _ (gr.later a.own)
    · rintro i x σ' H' H2 hlt ⟨m1', fr', hp', gr, a', q⟩ y
      obtain ⟨d, e1, e2⟩ := drop_get hlt
      obtain ⟨sm, rx⟩ := hY i d x (m0 ++ m1') H' H2 e1 (gr.later a.own) a'.sim.dom y
      rw [e2] at q
      have a2 := a'.same sm
      have gr2 : Grow ρ m1 H1 m1' H2 := gr.trans a'.rowN (.of (.of sm))
      refine hs ρ m0 m1' H2 σ' fr' x d _ a2.fr rx (T.all_mono (fun fr1 q1 σ1 f1 => ?_) (T.all_bind q))
      refine ⟨ρ, m0, m1', fr1, hp', ⟨f1, a2.sim, a2.row, a2.own⟩, T.all_mono (fun o q2 => ?_) (T.all_bind q1)⟩
      cases o with
      | nx fr2 hp2 => exact fun m1'' H'' σ'' g'' a'' => ⟨m1'', fr2, hp2, gr2.trans a2.rowN g'', a'', q2⟩
      | ct fr2 hp2 => exact fun m1'' H'' σ'' g'' a'' => ⟨m1'', fr2, hp2, gr2.trans a2.rowN g'', a'', q2⟩
      | bk fr2 hp2 => exact fun m1'' H'' σ'' g'' a'' => q2 m1'' H'' σ'' (gr2.trans a2.rowN g'') a''
      | rt d => exact fun H'' v k'' w'' r'' => q2 H'' v (gr2.on k'') w'' r''
    · rintro σ' H' ⟨m1', fr', hp', gr, a', q⟩
      rw [List.drop_length] at q
      exact q m1' H' σ' gr a'
/-! ### while -/
end
end Zl
set_option Elab.async false
set_option linter.all false
set_option maxRecDepth 100000
set_option maxHeartbeats 1000000
/-! Z5: list comprehensions. -/
namespace Zl
open PySem L2
theorem wipe_in {σ : L2.St} {j : Nat} : ∀ {vs : List Nat}, j ∈ vs → j < σ.length → (wipe σ vs)[j]? = some none
  | v :: vs, h, hl => by
    unfold wipe
    by_cases e : v = j
    · subst e
      rw [List.getElem?_set_self (by rw [wipe_length]; exact hl)]
    · rw [List.getElem?_set_ne e]
      have : j ∈ vs := by
        rcases List.mem_cons.mp h with z | z
        · exact absurd z.symm e
        · exact z
      exact wipe_in this hl
theorem wipe_set {σ : L2.St} {i : Nat} {x : Option V} {vs : List Nat} (h : i ∈ vs) : wipe (σ.set i x) vs = wipe σ vs := by
  apply List.ext_getElem?
  intro j
  by_cases hl : j < σ.length
  · by_cases hj : j ∈ vs
    · rw [wipe_in hj (by simpa using hl), wipe_in hj hl]
    · rw [wipe_out hj, wipe_out hj, List.getElem?_set_ne]
      rintro rfl
      exact hj h
  · rw [List.getElem?_eq_none (by rw [wipe_length]; simpa using hl), List.getElem?_eq_none (by rw [wipe_length]; omega)]
theorem wipe_wipe {σ : L2.St} {vs : List Nat} : wipe (wipe σ vs) vs = wipe σ vs := by
  apply List.ext_getElem?
  intro j
  by_cases hl : j < σ.length
  · by_cases hj : j ∈ vs
    · rw [wipe_in hj (by rw [wipe_length]; exact hl), wipe_in hj hl]
    · rw [wipe_out hj]
  · rw [List.getElem?_eq_none (by rw [wipe_length, wipe_length]; omega), List.getElem?_eq_none (by rw [wipe_length]; omega)]
def wipeF (fr : Fr) : List Nat → Fr
  | [] => fr
  | v :: vs => setN (wipeF fr vs) v none
theorem wipeF_get {fr : Fr} {i : Nat} {s : SV} : ∀ {vs : List Nat}, (wipeF fr vs)[i]? = some (some s) → fr[i]? = some (some s) ∧ i ∉ vs
  | [], h => ⟨h, by simp⟩
  | v :: vs, h => by
    unfold wipeF at h
    rw [setN_eq] at h
    by_cases hi : v = i
    · subst hi
      by_cases hv : v < (wipeF fr vs).length
      · rw [List.getElem?_set_self hv] at h; cases h
      · rw [List.getElem?_eq_none (by simpa using hv)] at h; cases h
    · rw [List.getElem?_set_ne hi] at h
      obtain ⟨h1, h2⟩ := wipeF_get h
      exact ⟨h1, by simp only [List.mem_cons, not_or]; exact ⟨fun e => hi e.symm, h2⟩⟩
theorem wipeF_len (fr : Fr) : ∀ vs : List Nat, (wipeF fr vs).length = fr.length
  | [] => rfl
  | v :: vs => by unfold wipeF; rw [setN_eq, List.length_set, wipeF_len fr vs]
theorem FrR.wipe {K : PySem.W.Frag} {F : Ev} {ρ : Option Addr} {m0 m1 : List Addr} {H : Hp} {σ : L2.St} {fr : Fr} (a : FrR K F ρ m0 m1 H σ fr) (vs : List Nat) : FrR K F ρ m0 m1 H (wipe σ vs) (wipeF fr vs) := by
  refine ⟨by rw [wipe_length, wipeF_len]; exact a.len, fun i s e => ?_⟩
  obtain ⟨e1, hn⟩ := wipeF_get e
  obtain ⟨v, e2, r⟩ := a.slot i s e1
  exact ⟨v, by rw [wipe_out hn]; exact e2, r⟩
theorem At.wipe {K : PySem.W.Frag} {F : Ev} {ρ : Option Addr} {m0 m1 : List Addr} {H : Hp} {σ : L2.St} {fr : Fr} {hp : Hz} (a : At K F ρ m0 m1 H σ fr hp) (vs : List Nat) : At K F ρ m0 m1 H (wipe σ vs) (wipeF fr vs) hp := ⟨a.fr.wipe vs, a.sim, a.row, a.own⟩
/-- a comprehension's target: only the block's own slots -/
def TgC (K : PySem.W.Frag) (F : Ev) (L : Bool) (vs : List Nat) (set : D → Fr → T Fr) (g : TG) : Prop :=
  ∀ (ρ : Option Addr) (m0 m1 : List Addr) (H : Hp) (σ : L2.St) (fr : Fr) (v : V) (d : D) (Q : L2.St → Hp → Prop), FrR K F ρ m0 m1 H σ fr → RepL K F L (m0 ++ m1) H v d →
    (set d fr).all (fun fr' => ∀ σ', FrR K F ρ m0 m1 H σ' fr' → wipe σ' vs = wipe σ vs → Q σ' H) → g v σ H Q
theorem zgc_name {K : PySem.W.Frag} {F : Ev} {i : Nat} {vs : List Nat} (h : i ∈ vs) : TgC K F false vs (gI i) (gName i) := fun ρ m0 m1 H σ fr v d Q a r k => k _ (FrR.set (s := .v d) a i r.rep) (wipe_set h)
theorem zgc_pair {K : PySem.W.Frag} {F : Ev} {L : Bool} {i j : Nat} {vs : List Nat} (hi : i ∈ vs) (hj : j ∈ vs) : TgC K F L vs (g2 i j) (gTup K 2 (gCons (gName i) (gCons (gName j) gNil))) := fun ρ m0 m1 H σ fr v d Q a r h => by
  unfold g2 at h
  split at h
  · rename_i x y
    obtain ⟨b, ws, rfl, hs, rs⟩ := r.tupR
    cases rs with
    | cons r1 rs =>
      cases rs with
      | cons r2 rs =>
        cases rs
        exact ⟨b, _, rfl, hs, rfl, _, _, rfl, _, _, rfl, rfl, h _ (FrR.set (s := .v y) (FrR.set (s := .v x) a i r1) j r2) (by rw [wipe_set hj, wipe_set hi])⟩
  · exact h.elim
section
variable (K : PySem.W.Frag) (F : Ev)
/-- the new list at B, behind the heap H1 -/
structure LcI (ρ : Option Addr) (m0 m1 : List Addr) (H1 : Hp) (B : Addr) (H : Hp) (acc : List D) : Prop where
  lst : ∃ vs, H B = some (.lst vs) ∧ Reps K F ((B :: m0) ++ m1) H vs acc
  keep : ∀ a o, ρ ≠ some a → H1 a = some o → H a = some o
  row : RowA K ρ H
end
section
variable {K : PySem.W.Frag} {F : Ev} {ρ : Option Addr} {m0 m1 : List Addr} {H1 H H' : Hp} {B : Addr} {acc : List D} {σ : L2.St} {fr : Fr} {hp : Hz}
theorem LcI.start (a : At K F ρ m0 m1 H1 σ fr hp) (hB : H1 B = none) : LcI K F ρ m0 m1 H1 B (upd H1 B (.lst [])) [] :=
  ⟨⟨[], upd_same, .nil⟩, fun c o _ e => same_new hB c o e, a.row.same (same_new hB)⟩
theorem LcI.ne (a : At K F ρ m0 m1 H1 σ fr hp) (hB : H1 B = none) : ρ ≠ some B := fun e => a.rowN B e hB
theorem LcI.later (I : LcI K F ρ m0 m1 H1 B H acc) (own : ∀ a, ρ = some a → a ∈ m0) (hB : H1 B = none) : Later (m0 ++ m1) H1 ((B :: m0) ++ m1) H where
  new := fun a q => by
    rcases List.mem_cons.mp q with z | z
    · exact .inr (by rw [z]; exact hB)
    · exact .inl z
  keep := fun a o n e => I.keep a o (fun z => n (List.mem_append_left _ (own a z))) e
theorem LcI.at (I : LcI K F ρ m0 m1 H1 B H acc) (a : At K F ρ m0 m1 H1 σ fr hp) (hB : H1 B = none) : At K F ρ (B :: m0) m1 H σ fr hp := by
  have l := I.later a.own hB
  have hBm := a.sim.new hB
  refine ⟨⟨a.fr.len, fun i s e => ?_⟩, ⟨a.sim.len, a.sim.nd, fun c q => ?_, fun c q z => ?_, fun n c e => ?_⟩, I.row, fun c e => List.mem_cons_of_mem _ (a.own c e)⟩
  · obtain ⟨v, e1, r⟩ := a.fr.slot i s e
    refine ⟨v, e1, ?_⟩
    cases s with
    | v d => exact Rep.later r l
    | r n => exact r
    | row => exact r
  · rcases List.mem_cons.mp q with z | z
    · rw [z]; exact fun w => hBm (List.mem_append_right _ w)
    · exact a.sim.dis c z
  · have q : c = B ∨ c ∈ m0 ++ m1 := by simpa using q
    rcases q with y | y
    · obtain ⟨vs, e, _⟩ := I.lst
      rw [y, e] at z; cases z
    · by_cases hr : ρ = some c
      · obtain ⟨_, _, _, _, _, e1, _⟩ := I.row c hr
        rw [e1] at z; cases z
      · cases e : H1 c with
        | none => exact a.sim.dom c y e
        | some o => rw [I.keep c o hr e] at z; cases z
  · obtain ⟨b, e1, cr⟩ := a.sim.cell n c e
    have hm : b ∈ m1 := List.mem_of_getElem? e1
    exact ⟨b, e1, cr.tr (fun ob => I.keep b ob (fun z => a.sim.dis b (a.own b z) hm)) fun vs ds r => r.later l⟩
theorem LcI.on (I : LcI K F ρ m0 m1 H1 B H acc) (own : ∀ a, ρ = some a → a ∈ m0) (ne : ρ ≠ some B) (k : Keep ρ H H') (w : RowA K ρ H') : LcI K F ρ m0 m1 H1 B H' acc := by
  obtain ⟨vs, e, r⟩ := I.lst
  exact ⟨⟨vs, k _ _ ne e, Reps.on (m0 := B :: m0) r (fun a z => List.mem_cons_of_mem _ (own a z)) k⟩, fun a o n q => k a o n (I.keep a o n q), w⟩
theorem LcI.push (I : LcI K F ρ m0 m1 H1 B H acc) (a : At K F ρ m0 m1 H1 σ fr hp) (hB : H1 B = none) {v : V} {d : D} (r : Rep K F ((B :: m0) ++ m1) H v d) {vs : List V} (e : H B = some (.lst vs)) : LcI K F ρ m0 m1 H1 B (upd H B (.lst (vs ++ [v]))) (acc ++ [d]) := by
  obtain ⟨vs', e', rs⟩ := I.lst
  rw [e] at e'
  cases e'
  have ku : ∀ c o, c ∉ (B :: m0) ++ m1 → H c = some o → (upd H B (.lst (vs ++ [v]))) c = some o := fun c o n q => by
    rw [upd_ne (fun z => n (by rw [z]; simp))]
    exact q
  refine ⟨⟨_, upd_same, Reps.append (Reps.keep (fun c q => .inl q) ku acc vs rs) (.cons (Rep.keep (fun c q => .inl q) ku d v r) .nil)⟩, fun c o n q => ?_, fun c q => ?_⟩
  · have hc : c ≠ B := fun z => by rw [z, hB] at q; cases q
    rw [upd_ne hc]
    exact I.keep c o n q
  · have hc : B ≠ c := fun z => LcI.ne a hB (by rw [z]; exact q)
    refine (I.row c q).keep (fun xs z => by rw [upd_ne (Ne.symm hc)]; exact z) fun s o xs z => ?_
    have hs : s ≠ B := fun w => by rw [w, e] at z; cases z
    rw [upd_ne hs]
    exact z
/-- the turns -/
def lcF (set : D → Fr → T Fr) (t : Fr → Hz → T Bool) (e : Ex) : List D → Fr → Hz → T (List D)
  | [], _, _ => .ret []
  | d :: ds, fr, hp => (set d fr).bind fun fr1 => (t fr1 hp).bind fun b => bif b then (e fr1 hp).bind fun y => (lcF set t e ds fr hp).bind fun ys => .ret (y :: ys) else lcF set t e ds fr hp
def nLc (it : Fr → Hz → T (List D)) (set : D → Fr → T Fr) (t : Fr → Hz → T Bool) (e : Ex) (vs : List Nat) : Fr → Hz → T (List D) := fun fr hp => (it fr hp).bind fun ds => guardT (few ds 10000) (lcF set t e ds (wipeF fr vs) hp)
def bYes : Fr → Hz → T Bool := fun _ _ => .ret true
theorem lcF_more {set : D → Fr → T Fr} {t : Fr → Hz → T Bool} {e : Ex} {fr : Fr} {hp : Hz} {P : List D → Prop} {acc : List D} {y : D} {ds : List D} (h : ((lcF set t e ds fr hp).bind fun ys => .ret (y :: ys)).all fun ys => P (acc ++ ys)) : (lcF set t e ds fr hp).all fun ys => P ((acc ++ [y]) ++ ys) := by
  refine T.all_mono (fun ys q => ?_) (T.all_bind h)
  have q : P (acc ++ (y :: ys)) := q
  rw [List.append_assoc]
  exact q
end
section
variable {X : Cx} {F : Ev}
theorem ztyes : PTs X [] (tB' X.K F bYes) := ⟨fun pins s σ H Q I h => (pts_nil (X := X)).run pins s σ H Q I (by
  obtain ⟨ρ, m0, m1, fr, hp, a, h⟩ := h
  exact h H (Keep.refl _ _) a.row)⟩
theorem ztone {c : Expr} {t : Fr → Hz → T Bool} (h : PT X c (tB' X.K F t)) : PTs X [c] (tB' X.K F t) := pts_one h
theorem lc_core' {L : Bool} {it : Fr → Hz → T (List D)} {set : D → Fr → T Fr} {t : Fr → Hz → T Bool} {e : Ex} {vs : List Nat} {g : TG} {σ : L2.St} {H : Hp} {Q : VK} (hs : TgC X.K F L vs set g) (h : tN X.K F (nLc it set t e vs) σ H Q) : tLc (tI X.K F L it) g (tB' X.K F t) (tX X.K F e) vs σ H Q := by
  obtain ⟨ρ, m0, m1, fr, hp, a, h⟩ := h
  refine tI_mk a (T.all_bind h) fun ds hd J H1 kp a1 w B hB => ?_
  obtain ⟨hf, hd⟩ := all_guard hd
  obtain ⟨G, Y, W, hG, hY⟩ := w
  have ne := LcI.ne a1 hB
  refine lc_it W (fun i H' => ∃ acc, LcI X.K F ρ m0 m1 H1 B H' acc ∧ acc.length ≤ i ∧ (lcF set t e (ds.drop i) (wipeF fr vs) hp).all fun ys => ∀ H' a vs, Keep ρ H H' → RowA X.K ρ H' → H a = none → H' a = some (.lst vs) → Reps X.K F (m0 ++ (m1 ++ [a])) H' vs (acc ++ ys) → Q (.ref a) H')
    ⟨[], .start a1 hB, Nat.le_refl _, hd⟩ ?_ ?_ ?_
  · rintro i H' _ ⟨acc, I, _, _⟩
    exact hG _ _ (I.later a1.own hB)
  · rintro i x H2 H3 hlt ⟨acc, I, hl, q⟩ y
    obtain ⟨d, e1, e2⟩ := drop_get hlt
    have aw : At X.K F ρ (B :: m0) m1 H2 (wipe σ vs) (wipeF fr vs) hp := (I.at a1 hB).wipe vs
    obtain ⟨sm, rx⟩ := hY i d x _ H2 H3 e1 (I.later a1.own hB) aw.sim.dom y
    rw [e2] at q
    have aw3 := aw.same sm
    have I3 := I.on a1.own ne (.of sm) aw3.row
    refine hs ρ (B :: m0) m1 H3 _ _ x d _ aw3.fr rx (T.all_mono (fun fr1 q1 σ1 f1 ew => ⟨ew.trans wipe_wipe, ?_⟩) (T.all_bind q))
    have at1 : At X.K F ρ (B :: m0) m1 H3 σ1 fr1 hp := ⟨f1, aw3.sim, aw3.row, aw3.own⟩
    refine tB_mk at1 (T.all_bind q1) fun b hb H4 k4 a4 => ?_
    have I4 := I3.on a1.own ne k4 a4.row
    cases b with
    | false => exact ⟨acc, I4, Nat.le_succ_of_le hl, hb⟩
    | true =>
      refine tX_mk a4 (T.all_bind hb) fun yd hy H5 v k5 a5 rv => ?_
      have I5 := I4.on a1.own ne k5 a5.row
      obtain ⟨ws, ew, rw'⟩ := I5.lst
      refine ⟨ws, ew, ?_, acc ++ [yd], I5.push a1 hB rv ew, by simp; exact hl, lcF_more (P := fun zs => ∀ H' a vs, Keep ρ H H' → RowA X.K ρ H' → H a = none → H' a = some (.lst vs) → Reps X.K F (m0 ++ (m1 ++ [a])) H' vs zs → Q (.ref a) H') hy⟩
      have := few_le hf
      have := rw'.length
      have hz : (10000 : Nat) < sizeLine := by decide
      omega
  · rintro H' ⟨acc, I, _, q⟩
    rw [List.drop_length] at q
    obtain ⟨ws, ew, rw'⟩ := I.lst
    have q : ∀ H' a vs, Keep ρ H H' → RowA X.K ρ H' → H a = none → H' a = some (.lst vs) → Reps X.K F (m0 ++ (m1 ++ [a])) H' vs (acc ++ []) → Q (.ref a) H' := q
    refine q H' B ws (kp.trans I.keep) I.row (a.free kp a1.row hB) ew ?_
    rw [List.append_nil]
    refine rw'.sub fun c z => ?_
    rcases List.mem_append.mp z with z | z
    · exact List.mem_append_left _ (List.mem_cons_of_mem _ z)
    · rcases List.mem_append.mp z with z | z
      · exact List.mem_append_right _ z
      · have : c = B := by simpa using z
        rw [this]
        simp
/-- [elt for tg in iter if ..] -/
theorem zlc {L : Bool} {elt tg iter : Expr} {ifs : List Expr} {scope : Scope} {own : List (Str × Nat)} {vs : List Nat} {pos : Pos} {it : Fr → Hz → T (List D)} {set : D → Fr → T Fr} {g : TG} {t : Fr → Hz → T Bool} {e : Ex} (hc : X.calm = true) (hN : X.N.Nodup) (hi : PI X tg iter (tI X.K F L it)) (ok : BlkOk X.N X.env.scope scope own)
    (hs : TgC X.K F L vs set g)
    (hg : ∀ (s : Shared) (H : Hp) (C : Addr) (cl : List (Str × Addr)) (fp : List Addr), PG (X.blk s H scope (PySem.compEnvC scope cl C X.env) fp) tg g) (ht : ∀ (s : Shared) (H : Hp) (C : Addr) (cl : List (Str × Addr)) (fp : List Addr), PTs (X.blk s H scope (PySem.compEnvC scope cl C X.env) fp) ifs (tB' X.K F t))
    (he : ∀ (s : Shared) (H : Hp) (C : Addr) (cl : List (Str × Addr)) (fp : List Addr), PE (X.blk s H scope (PySem.compEnvC scope cl C X.env) fp) elt (tX X.K F e)) (hvs : own.map (·.2) = vs := by rfl) (hf : ∀ x, foldedSetIterable iter X.env x = pure x := by intro _; rfl) :
    PE X (.ListComp elt [⟨tg, iter, ifs, 0⟩] scope pos) (tN X.K F (nLc it set t e vs)) := by
  subst hvs
  exact PEimp (pe_lc hc hN hi ok hg ht he hf) fun σ H Q h => lc_core' hs h
end
end Zl
set_option Elab.async false
set_option linter.all false
set_option maxRecDepth 100000
set_option maxHeartbeats 1000000
/-! Z6: operators, subscripts, built-ins. -/
namespace Zl
open PySem L2 PySem.Spec PyProof.Rows
/-! ### data read back -/
mutual
theorem Rep.dp {K : PySem.W.Frag} {F : Ev} {m : List Addr} {H : Hp} : ∀ (n : Nat) (d : D) (v : V), Rep K F m H v d → okD n d = true → Dp K H v (toPy d)
  | _, .non, _, h, _ => by cases h; exact .non
  | _, .bl b, _, h, _ => by cases h; exact .bl b
  | _, .int i, _, h, _ => by cases h; exact .int i
  | _, .str s, _, h, _ => by cases h; exact .str _
  | n, .ty _, _, _, ok => absurd ok (by cases n <;> simp [okD])
  | n, .fn _, _, _, ok => absurd ok (by cases n <;> simp [okD])
  | n, .dct _ _, _, _, ok => absurd ok (by cases n <;> simp [okD])
  | 0, .tup _, _, _, ok => absurd ok (by simp [okD])
  | 0, .lst _, _, _, ok => absurd ok (by simp [okD])
  | n + 1, .tup ds, _, h, ok => by
    obtain ⟨a, vs, rfl, hs, r⟩ := h.tupR
    exact .tup hs (Reps.dp n ds vs r ok)
  | n + 1, .lst ds, _, h, ok => by
    obtain ⟨a, vs, rfl, _, hs, r⟩ := h.lstR
    exact .lst (.inl (.inl hs)) (Reps.dp n ds vs r ok)
theorem Reps.dp {K : PySem.W.Frag} {F : Ev} {m : List Addr} {H : Hp} : ∀ (n : Nat) (ds : List D) (vs : List V), Reps K F m H vs ds → allO (okD n) ds = true → DpAll K H vs (toPys ds)
  | _, [], _, h, _ => by cases h; exact .nil
  | n, d :: ds, _, h, ok => by
    unfold allO at ok
    by_cases h1 : okD n d = true
    · rw [if_pos h1] at ok
      cases h with
      | cons r rs => exact .cons (Rep.dp n d _ r h1) (Reps.dp n ds _ rs ok)
    · rw [if_neg h1] at ok
      exact absurd ok Bool.false_ne_true
end
theorem okNs_all : ∀ {s : List Nat}, okNs s = true → s.all (· < 0x110000) = true
  | [], _ => rfl
  | x :: xs, h => by
    unfold okNs at h
    by_cases h1 : Nat.blt x 1114112 = true
    · rw [if_pos h1] at h
      rw [List.all_cons, okNs_all h, Bool.and_true]
      exact decide_eq_true (Nat.blt_eq.mp h1)
    · rw [if_neg h1] at h
      exact absurd h Bool.false_ne_true
mutual
theorem okD_lay : ∀ (n : Nat) (d : D), okD n d = true → (toPy d).canLay0 = true ∧ (toPy d).depth ≤ n + 1
  | n, .non, _ => by simp [toPy, PyData.canLay0, PyData.depth]
  | n, .bl b, _ => by simp [toPy, PyData.canLay0, PyData.depth]
  | n, .int i, _ => by simp [toPy, PyData.canLay0, PyData.depth]
  | n, .str s, h => by
    have h : okNs s = true := by cases n <;> simpa [okD] using h
    have e := okNs_all h
    refine ⟨?_, by simp [toPy, PyData.depth]⟩
    simp only [toPy, PyData.canLay0, PyData.strOk]
    simpa using e
  | n, .ty _, ok => absurd ok (by cases n <;> simp [okD])
  | n, .fn _, ok => absurd ok (by cases n <;> simp [okD])
  | n, .dct _ _, ok => absurd ok (by cases n <;> simp [okD])
  | 0, .tup _, ok => absurd ok (by simp [okD])
  | 0, .lst _, ok => absurd ok (by simp [okD])
  | n + 1, .tup ds, ok => by
    obtain ⟨h1, h2⟩ := okDs_lay n ds ok
    refine ⟨by simp only [toPy, PyData.canLay0]; exact h1, ?_⟩
    simp only [toPy, PyData.depth]
    omega
  | n + 1, .lst ds, ok => by
    obtain ⟨h1, h2⟩ := okDs_lay n ds ok
    refine ⟨by simp only [toPy, PyData.canLay0]; exact h1, ?_⟩
    simp only [toPy, PyData.depth]
    omega
theorem okDs_lay : ∀ (n : Nat) (ds : List D), allO (okD n) ds = true → PyData.canLayAll0 (toPys ds) = true ∧ PyData.depthAll (toPys ds) ≤ n + 1
  | n, [], _ => by simp [toPys, PyData.canLayAll0, PyData.depthAll]
  | n, d :: ds, ok => by
    unfold allO at ok
    by_cases h1 : okD n d = true
    · rw [if_pos h1] at ok
      obtain ⟨a1, a2⟩ := okD_lay n d h1
      obtain ⟨b1, b2⟩ := okDs_lay n ds ok
      simp only [toPys, PyData.canLayAll0, PyData.depthAll]
      refine ⟨by rw [a1, b1]; rfl, by omega⟩
    · rw [if_neg h1] at ok
      exact absurd ok Bool.false_ne_true
end
theorem okD_shaped {d : D} (h : okD 12 d = true) : SeqAt.shaped (toPy d) = true := by
  obtain ⟨h1, h2⟩ := okD_lay 12 d h
  unfold SeqAt.shaped
  rw [h1, Bool.true_and]
  exact decide_eq_true (by omega)
/-! ### == and != -/
def dEq (x y : D) : T D := guardT (okD 12 x && okD 12 y) (.ret (.bl (beq 12 x y)))
def dNe (x y : D) : T D := guardT (okD 12 x && okD 12 y) (.ret (.bl (!beq 12 x y)))
section
variable {X : Cx} {F : Ev}
theorem oeq (hu : X.A.units + 64 < cLine) : OpZ X F (compareOp .Eq) dEq := OpZ.of (op_eqD hu) fun m H v u x y Q rx ry h => by
  obtain ⟨ok, k⟩ := all_guard h
  rw [Bool.and_eq_true] at ok
  refine ⟨toPy x, toPy y, rx.dp 12 x v ok.1, ry.dp 12 y u ok.2, okD_shaped ok.1, okD_shaped ok.2, ?_⟩
  rw [eqv_beq 12 x y ok.1 ok.2]
  exact k _ (.bl _)
theorem one (hu : X.A.units + 64 < cLine) : OpZ X F (compareOp .NotEq) dNe := OpZ.of (op_neD hu) fun m H v u x y Q rx ry h => by
  obtain ⟨ok, k⟩ := all_guard h
  rw [Bool.and_eq_true] at ok
  refine ⟨toPy x, toPy y, rx.dp 12 x v ok.1, ry.dp 12 y u ok.2, okD_shaped ok.1, okD_shaped ok.2, ?_⟩
  rw [eqv_beq 12 x y ok.1 ok.2]
  exact k _ (.bl _)
/-! ### ints -/
def dI2 (g : Int → Int → D) (x y : D) : T D := match x, y with
  | .int i, .int j => .ret (g i j)
  | _, _ => .fail
theorem all_dI2 {g : Int → Int → D} {x y : D} {P : D → Prop} (h : (dI2 g x y).all P) : ∃ i j, x = .int i ∧ y = .int j ∧ P (g i j) := by
  unfold dI2 at h
  split at h
  · exact ⟨_, _, rfl, rfl, h⟩
  · exact h.elim
theorem oB0 {f : Value → Value → Sem Value} {g : Int → Int → Bool} (h : OpR X f (rI0 fun i j => .bl (g i j))) : OpZ X F f (dI2 fun i j => .bl (g i j)) := OpZ.of h fun m H v u x y Q rx ry h => by
  obtain ⟨i, j, rfl, rfl, k⟩ := all_dI2 h
  cases rx
  cases ry
  exact ⟨i, j, rfl, rfl, k _ (.bl _)⟩
theorem olt : OpZ X F (compareOp .Lt) (dI2 fun i j => .bl (decide (i < j))) := oB0 op_lt
theorem ole : OpZ X F (compareOp .LtE) (dI2 fun i j => .bl (decide (i ≤ j))) := oB0 op_le
theorem ogt : OpZ X F (compareOp .Gt) (dI2 fun i j => .bl (decide (j < i))) := oB0 op_gt
/-- ints, tuples -/
def dAdd (x y : D) : T D := match x, y with
  | .int i, .int j => .ret (.int (i + j))
  | .tup xs, .tup ys => guardT (few xs 10000 && few ys 10000) (.ret (.tup (xs ++ ys)))
  | _, _ => .fail
theorem small2 {α β : Type} {l : List α} {l' : List β} (h : few l 10000 = true) (h' : few l' 10000 = true) : l.length + l'.length ≤ sizeLine := by
  have h1 := few_le h
  have h2 := few_le h'
  have h3 : (20000 : Nat) ≤ sizeLine := by decide
  omega
def rCatF (K : PySem.W.Frag) : R2 := fun x y H Q => ∃ a b xs ys, x = .ref a ∧ y = .ref b ∧ SqT K H a xs ∧ SqT K H b ys ∧ xs.length + ys.length ≤ sizeLine ∧
  (xs = [] → Q (.ref b) H) ∧ (xs ≠ [] → ys = [] → Q (.ref a) H) ∧ (xs ≠ [] → ys ≠ [] → ∀ p o, H p = none → o.dict = none → Q (.ref p) (upd H p (.frz o (.tup (xs ++ ys)))))
theorem op_catF : OpR X (binaryOp .Add) (rCatF X.K) := by
  intro pins s σ H x y v u Q I rx ry h
  obtain ⟨a, b, xs, ys, rfl, rfl, ha, hb, hz, q0, q1, q2⟩ := h
  cases rx
  cases ry
  obtain ⟨its, r1, p1, _⟩ := I.tuple ha
  obtain ⟨its2, r2, p2, _⟩ := I.tuple hb
  by_cases hx : xs = []
  · subst hx
    cases r1
    exact L2.cat_tup0 p1 p2 ⟨V.ref b, H, I, rfl, q0 rfl⟩
  · refine HT.cat_tup p1 p2 (fun z => hx (r1.nil_iff.mp z)) (fun z => ⟨V.ref a, H, I, rfl, q1 hx (r2.nil_iff.mp z)⟩) (fun z => ?_) (by rw [← r1.length, ← r2.length]; exact hz)
    exact ⟨.ref s.heap.objs.size, _, layTup I (r1.append r2) (by rw [List.length_append]; exact hz), rfl, q2 hx (fun w => z (r2.nil_iff.mpr w)) _ _ (I.hok.fresh (Nat.le_refl _)) rfl⟩
theorem oadd : OpZ X F (binaryOp .Add) dAdd := by
  refine ⟨_, OpR.or op_add op_catF, fun σ fr ρ m0 m1 H hp v u x y Q a rx ry h => ?_⟩
  unfold dAdd at h
  split at h
  · rename_i i j
    cases rx
    cases ry
    exact .inl ⟨i, j, rfl, rfl, h H _ (Keep.refl _ _) a.row (.int _)⟩
  · rename_i xs ys
    obtain ⟨ok, k⟩ := all_guard h
    rw [Bool.and_eq_true] at ok
    have ex := rx
    have ey := ry
    obtain ⟨b, vs, rfl, hs, r1⟩ := rx.tupR
    obtain ⟨c, ws, rfl, ht, r2⟩ := ry.tupR
    refine .inr ⟨b, c, vs, ws, rfl, rfl, hs, ht, ?_, fun e => ?_, fun e1 e2 => ?_, fun e1 e2 p o hp ho => ?_⟩
    · rw [r1.length, r2.length]
      exact small2 ok.1 ok.2
    · subst e
      have e : xs = [] := by cases r1; rfl
      subst e
      exact k H _ (Keep.refl _ _) a.row ey
    · subst e2
      have e : ys = [] := by cases r2; rfl
      subst e
      rw [List.append_nil] at k
      exact k H _ (Keep.refl _ _) a.row ex
    · obtain ⟨k2, a2⟩ := a.upd (o := .frz o (.tup (vs ++ ws))) hp
      exact k _ _ k2 a2.row (.tup (a.sim.new hp) (.new ho) (Reps.append (r1.on a.own k2) (r2.on a.own k2)))
  · exact h.elim
/-- list * int -/
def nRep (f g : Ex) : Fr → Hz → T (List D) := fun fr hp => (f fr hp).bind fun x => (g fr hp).bind fun y => (asLst x).bind fun xs => match y with
  | .int j => guardT (few xs 1000 && decide (-1000 ≤ j) && decide (j ≤ 1000)) (.ret (List.replicate j.toNat xs).flatten)
  | _ => .fail
theorem zrep {a b : Expr} {f g : Ex} {pos : Pos} (ha : PE X a (tX X.K F f)) (hb : PE X b (tX X.K F g)) : PE X (.BinOp a .Mult b pos) (tN X.K F (nRep f g)) := PEimp (pe_op op_rep ha hb) fun σ H Q h => by
  obtain ⟨ρ, m0, m1, fr, hp, a, h⟩ := h
  refine tX_mk a (T.all_bind h) fun x hx H1 v k1 a1 rx => ?_
  refine tX_mk a1 (T.all_bind hx) fun y hy H2 u k2 a2 ry => ?_
  obtain ⟨xs, rfl, h1⟩ := all_asLst (T.all_bind hy)
  split at h1
  · rename_i j
    obtain ⟨ok, k⟩ := all_guard h1
    rw [Bool.and_eq_true, Bool.and_eq_true] at ok
    have j1 := of_decide_eq_true ok.1.2
    have j2 := of_decide_eq_true ok.2
    have j3 := few_le ok.1.1
    cases ry
    obtain ⟨b, vs, rfl, _, e1, r1⟩ := (rx.on a1.own k2).lstR
    refine ⟨b, j, vs, rfl, rfl, e1, by omega, by omega, ?_, fun p hp => ?_⟩
    · have l1 := r1.length
      have l2 : j.toNat ≤ 1000 := by omega
      have l3 : vs.length * j.toNat ≤ 1000 * 1000 := Nat.mul_le_mul (by omega) l2
      have l4 : (1000 * 1000 : Nat) ≤ sizeLine := by decide
      omega
    · obtain ⟨k3, a3⟩ := a2.upd (o := .lst (List.replicate j.toNat vs).flatten) hp
      exact k _ p _ ((k1.trans k2).trans k3) a3.row (a.free (k1.trans k2) a2.row hp) upd_same ((Reps.rep r1 _).more hp (same_new hp))
  · exact h1.elim
/-! ### is None, type(x) is T -/
def isN (f : Ex) : Ex := fun fr hp => (f fr hp).bind fun x => match x with
  | .non => .ret (.bl true)
  | _ => .ret (.bl false)
theorem Rep.isNon {K : PySem.W.Frag} {m : List Addr} {H : Hp} {v : V} {d : D} (r : Rep K F m H v d) : decide (v = V.non) = (match d with | .non => true | _ => false) := by
  cases r <;> rfl
theorem isN_core {f : Ex} {σ : L2.St} {H : Hp} {Q : VK} (h : tX X.K F (isN f) σ H Q) : tIsN (tX X.K F f) σ H Q := by
  obtain ⟨ρ, m0, m1, fr, hp, a, h⟩ := h
  refine tX_mk a (T.all_bind h) fun x hx H1 v k1 a1 rx => ?_
  rw [rx.isNon]
  cases x <;> exact hx H1 _ k1 a1.row (.bl _)
theorem ztisN {a : Expr} {f : Ex} {j} {pos pos' : Pos} (ha : PE X a (tX X.K F f)) : PT X (.Compare a [.Is] [.Constant .none j pos'] pos) (tB' X.K F (b1 (isN f))) := PTimp (pt_cmp (pc_isN ha)) fun σ H Q h => isN_core (b1_core h)
def dTy : D → T D
  | .non => .ret (.ty "NoneType")
  | .bl _ => .ret (.ty "bool")
  | .int _ => .ret (.ty "int")
  | .str _ => .ret (.ty "str")
  | .tup _ => .ret (.ty "tuple")
  | .lst _ => .ret (.ty "list")
  | _ => .fail
/-- type(x) -/
theorem ztype {a : Expr} {f : Ex} {p pos : Pos} (hg : Gl X "type") (hm : X.mg "type" = none) (ha : PE X a (tX X.K F f)) (na : starEach [a] X.env = (false, eval a X.env) :: starEach [] X.env := by rfl) : PE X (.Call (.Name "type" p) [a] [] pos) (tX X.K F (e1 dTy f)) :=
  PEimp (pe_callTy call_type1 hg hm (by decide +kernel) (pa_cons ha pa_nil na) (he := na)) fun σ H Q h => by
    obtain ⟨ρ, m0, m1, fr, hp, a, h⟩ := h
    refine tX_mk a (T.all_bind h) fun x hx H1 v k1 a1 rx => ?_
    cases x <;> first | exact hx.elim | skip
    · cases rx; exact ⟨_, _, rfl, .non, hx H1 _ k1 a1.row (.ty _)⟩
    · cases rx; exact ⟨_, _, rfl, .bl _, hx H1 _ k1 a1.row (.ty _)⟩
    · cases rx; exact ⟨_, _, rfl, .int _, hx H1 _ k1 a1.row (.ty _)⟩
    · cases rx; exact ⟨_, _, rfl, .str _, hx H1 _ k1 a1.row (.ty _)⟩
    · obtain ⟨b, vs, rfl, hs, _⟩ := rx.tupR
      exact ⟨_, _, rfl, .tup hs, hx H1 _ k1 a1.row (.ty _)⟩
    · obtain ⟨b, vs, rfl, _, hs, _⟩ := rx.lstR
      exact ⟨_, _, rfl, .lst (.inl (.inl hs)), hx H1 _ k1 a1.row (.ty _)⟩
def dIsTy (x y : D) : T D := match x, y with
  | .ty m, .ty n => .ret (.bl (decide (m = n)))
  | _, _ => .fail
theorem oisTy : OpZ X F (compareOp .Is) dIsTy := OpZ.of op_isTy fun m H v u x y Q rx ry h => by
  unfold dIsTy at h
  split at h
  · cases rx
    cases ry
    exact ⟨_, _, rfl, rfl, h _ (.bl _)⟩
  · exact h.elim
/-- a built-in class's name -/
theorem zty {x : Str} {n : String} {pos : Pos} (hg : Gl X x) (hm : X.mg x = none) (hv : bootBuiltins x = some (.type n)) (hn : x ≠ "__name__" := by decide) (hd : (x == ("__debug__" : Str)) = false := by decide) : PE X (.Name x pos) (tX X.K F (eC (.ty n))) :=
  zc (pe_bltn (v := .ty n) hg hm hv rfl hn hd) fun _ _ => .ty n
/-! ### a < b < c -/
def eChain (o o' : D → D → T D) (f g k : Ex) : Ex := fun fr hp => (f fr hp).bind fun x => (g fr hp).bind fun y => (o x y).bind fun z => (asB z).bind fun b => bif b then (k fr hp).bind fun w => o' y w else .ret (.bl false)
theorem chain_core {op op' : CmpOp} {o o' : D → D → T D} {f g k : Ex} {r r' : R2}
    (h2 : ∀ (σ : L2.St) (fr : Fr) (ρ : Option Addr) (m0 m1 : List Addr) (H : Hp) (hp : Hz) (v u : V) (x y : D) (Q : VK), At X.K F ρ m0 m1 H σ fr hp → Rep X.K F (m0 ++ m1) H v x → Rep X.K F (m0 ++ m1) H u y →
      ((o x y).all fun d => ∀ H' w, Keep ρ H H' → RowA X.K ρ H' → Rep X.K F (m0 ++ m1) H' w d → Q w H') → r v u H Q)
    (h4 : ∀ (σ : L2.St) (fr : Fr) (ρ : Option Addr) (m0 m1 : List Addr) (H : Hp) (hp : Hz) (v u : V) (x y : D) (Q : VK), At X.K F ρ m0 m1 H σ fr hp → Rep X.K F (m0 ++ m1) H v x → Rep X.K F (m0 ++ m1) H u y →
      ((o' x y).all fun d => ∀ H' w, Keep ρ H H' → RowA X.K ρ H' → Rep X.K F (m0 ++ m1) H' w d → Q w H') → r' v u H Q)
    {σ : L2.St} {H : Hp} {Q : VK} (h : tX X.K F (eChain o o' f g k) σ H Q) : tChain r r' (tX X.K F f) (tX X.K F g) (tX X.K F k) σ H Q := by
  obtain ⟨ρ, m0, m1, fr, hp, a, h⟩ := h
  refine tX_mk a (T.all_bind h) fun x hx H1 v k1 a1 rx => ?_
  refine tX_mk a1 (T.all_bind hx) fun y hy H2 u k2 a2 ry => ?_
  refine h2 σ fr ρ m0 m1 H2 hp v u x y _ a2 (rx.on a1.own k2) ry (T.all_mono (fun d hd H3 w k3 w3 rw' => ?_) (T.all_bind hy))
  obtain ⟨b, rfl, hb⟩ := all_asB (T.all_bind hd)
  cases rw'
  refine ⟨b, rfl, ?_⟩
  have a3 := a2.on k3 w3
  cases b with
  | false => exact hb H3 _ ((k1.trans k2).trans k3) w3 (.bl false)
  | true =>
    refine tX_mk a3 (T.all_bind hb) fun z hz H4 w' k4 a4 rz => ?_
    exact h4 σ fr ρ m0 m1 H4 hp u w' y z _ a4 ((ry.on a2.own k3).on a3.own k4) rz (T.all_mono (fun d hd H5 w5 k5 s5 r5 => hd H5 w5 ((((k1.trans k2).trans k3).trans k4).trans k5) s5 r5) hz)
theorem zchain {a b c : Expr} {op op' : CmpOp} {o o' : D → D → T D} {f g k : Ex} {pos : Pos} (ho : OpZ X F (compareOp op) o) (ho' : OpZ X F (compareOp op') o') (ha : PE X a (tX X.K F f)) (hb : PE X b (tX X.K F g)) (hc : PE X c (tX X.K F k))
    (hm : lastMarks [op, op'] [b, c] = false := by with_unfolding_all rfl) : PE X (.Compare a [op, op'] [b, c] pos) (tX X.K F (eChain o o' f g k)) := by
  obtain ⟨r, h1, h2⟩ := ho
  obtain ⟨r', h3, h4⟩ := ho'
  exact PEimp (pe_chain h1 h3 ha hb hc hm) fun σ H Q h => chain_core (op := op) (op' := op') h2 h4 h
end
end Zl
set_option Elab.async false
set_option linter.all false
set_option maxRecDepth 100000
set_option maxHeartbeats 1000000
/-! Z7: in, subscripts, slices, len, tuple, list, all, any, sorted, isinstance, index. -/
namespace Zl
open PySem L2 PySem.Spec PyProof.Rows
/-! ### in, not in: flat items -/
def flatD : D → Bool
  | .non => true
  | .bl _ => true
  | .int _ => true
  | .str _ => true
  | _ => false
def eqF : D → D → Bool
  | .int a, .int b => eqI a b
  | .str a, .str b => eqNs a b
  | .non, .non => true
  | .bl a, .bl b => a == b
  | .bl a, .int b => eqI (if a then 1 else 0) b
  | .int a, .bl b => eqI a (if b then 1 else 0)
  | _, _ => false
def anyF (x : D) : List D → Bool
  | [] => false
  | y :: ys => if eqF y x then true else anyF x ys
section
variable {X : Cx} {F : Ev}
theorem Rep.flat {K : PySem.W.Frag} {m : List Addr} {H : Hp} {v : V} {d : D} (r : Rep K F m H v d) (h : flatD d = true) : flatV v = true := by
  cases d <;> first | (cases r; rfl) | (exact absurd h (by simp [flatD]))
theorem Rep.eqF {K : PySem.W.Frag} {m : List Addr} {H : Hp} {v u : V} {x y : D} (r : Rep K F m H v x) (q : Rep K F m H u y) (hx : flatD x = true) (hy : flatD y = true) : eqV v u = eqF x y := by
  cases x <;> first | (exact absurd hx (by decide)) | skip
  all_goals (cases y <;> first | (exact absurd hy (by decide)) | skip)
  all_goals cases r
  all_goals cases q
  all_goals first | rfl | exact (eqI_beq _ _).symm | exact str_beq _ _
theorem Reps.flat {K : PySem.W.Frag} {m : List Addr} {H : Hp} : ∀ {vs : List V} {ds : List D}, Reps K F m H vs ds → allO flatD ds = true → vs.all flatV = true
  | _, _, .nil, _ => rfl
  | _, d :: ds, .cons r rs, h => by
    unfold allO at h
    by_cases h1 : flatD d = true
    · rw [if_pos h1] at h
      rw [List.all_cons, r.flat h1, Reps.flat rs h]
      rfl
    · rw [if_neg h1] at h
      exact absurd h Bool.false_ne_true
theorem Reps.anyF {K : PySem.W.Frag} {m : List Addr} {H : Hp} {v : V} {x : D} (q : Rep K F m H v x) (hx : flatD x = true) : ∀ {vs : List V} {ds : List D}, Reps K F m H vs ds → allO flatD ds = true → inV v vs = anyF x ds
  | _, _, .nil, _ => rfl
  | _, d :: ds, .cons r rs, h => by
    unfold allO at h
    by_cases h1 : flatD d = true
    · rw [if_pos h1] at h
      unfold inV
      rw [List.any_cons, r.eqF q h1 hx]
      have ih := Reps.anyF q hx rs h
      unfold inV at ih
      rw [ih]
      show (Zl.eqF d x || Zl.anyF x ds) = if Zl.eqF d x then true else Zl.anyF x ds
      cases Zl.eqF d x <;> rfl
    · rw [if_neg h1] at h
      exact absurd h Bool.false_ne_true
def eIn (neg : Bool) (f : Ex) (g : Fr → Hz → T (List D)) : Ex := fun fr hp => (f fr hp).bind fun x => (g fr hp).bind fun ys => guardT (flatD x && allO flatD ys) (.ret (.bl (if neg then !anyF x ys else anyF x ys)))
theorem in_core {neg : Bool} {f : Ex} {g : Fr → Hz → T (List D)} {σ : L2.St} {H : Hp} {Q : VK} (h : tX X.K F (eIn neg f g) σ H Q) : tOp (rIn X.K neg) (tX X.K F f) (tSq X.K F g) σ H Q := by
  obtain ⟨ρ, m0, m1, fr, hp, a, h⟩ := h
  refine tX_mk a (T.all_bind h) fun x hx H1 v k1 a1 rx => ?_
  refine tSq_mk a1 (T.all_bind hx) fun ys hy H2 u k2 a2 ru => ?_
  obtain ⟨ok, k⟩ := all_guard hy
  rw [Bool.and_eq_true] at ok
  obtain ⟨b, vs, rfl, hs, rs⟩ := ru
  have rx2 := rx.on a1.own k2
  refine ⟨b, vs, rfl, hs.sq, rx2.flat ok.1, rs.flat ok.2, ?_⟩
  rw [Reps.anyF rx2 ok.1 rs ok.2]
  exact k H2 _ (k1.trans k2) a2.row (.bl _)
theorem zin {a b : Expr} {f : Ex} {g : Fr → Hz → T (List D)} {pos : Pos} (ha : PE X a (tX X.K F f)) (hb : PE X b (tSq X.K F g)) (hm : behindInMarks .In b = false := by rfl) : PE X (.Compare a [.In] [b] pos) (tX X.K F (eIn false f g)) := PEimp (pe_cmpR op_in_seq ha hb hm) fun σ H Q h => in_core h
theorem ztni {a b : Expr} {f : Ex} {g : Fr → Hz → T (List D)} {pos : Pos} (ha : PE X a (tX X.K F f)) (hb : PE X b (tSq X.K F g)) (hm : behindInMarks .NotIn b = false := by rfl) : PT X (.Compare a [.NotIn] [b] pos) (tB' X.K F (b1 (eIn true f g))) := PTimp (pt_cmpR op_notIn_seq ha hb hm) fun σ H Q h => in_core (b1_core h)
/-! ### subscripts -/
def gtL {α : Type} : List α → Nat → Option α
  | [], _ => none
  | x :: _, 0 => some x
  | _ :: r, n + 1 => gtL r n
theorem gtL_eq {α : Type} : ∀ (l : List α) (i : Nat), gtL l i = l[i]?
  | [], _ => rfl
  | _ :: _, 0 => rfl
  | _ :: r, n + 1 => by simpa [gtL] using gtL_eq r n
/-- an item by its place, from the end where it is below 0 -/
def atD {α : Type} (xs : List α) (i : Int) : Option α := match i with
  | .ofNat n => gtL xs n
  | .negSucc n => gtL xs.reverse n
theorem atD_atI {α β : Type} {R : α → β → Prop} {xs : List α} {ys : List β} (hl : xs.length = ys.length) (hr : ∀ (i : Nat) (y : β), ys[i]? = some y → ∃ x, xs[i]? = some x ∧ R x y) {i : Int} {y : β} (h : atD ys i = some y) : ∃ x, atI xs i = some x ∧ R x y := by
  unfold atD at h
  cases i with
  | ofNat n =>
    have h : gtL ys n = some y := h
    rw [gtL_eq] at h
    obtain ⟨x, e, r⟩ := hr n y h
    exact ⟨x, atI_nat e, r⟩
  | negSucc n =>
    have h : gtL ys.reverse n = some y := h
    rw [gtL_eq] at h
    have hn : n < ys.length := by simpa using (List.getElem?_eq_some_iff.mp h).1
    rw [List.getElem?_reverse hn] at h
    obtain ⟨x, e, r⟩ := hr _ y h
    refine ⟨x, ?_, r⟩
    unfold atI ixN
    have h1 : ¬ (0 : Int) ≤ Int.negSucc n := by omega
    have h2 : -(xs.length : Int) ≤ Int.negSucc n := by omega
    rw [if_neg h1, if_pos h2]
    have h3 : (Int.negSucc n + (xs.length : Int)).toNat = ys.length - 1 - n := by omega
    show xs[(Int.negSucc n + (xs.length : Int)).toNat]? = some x
    rw [h3]
    exact e
def eIx (f : Fr → Hz → T (List D)) (g : Ex) : Ex := fun fr hp => (f fr hp).bind fun xs => (g fr hp).bind fun y => match y with
  | .int i => ofO (atD xs i)
  | _ => .fail
theorem zix {a b : Expr} {f : Fr → Hz → T (List D)} {g : Ex} {pos : Pos} (ha : PE X a (tSq X.K F f)) (hb : PE X b (tX X.K F g)) (hs : PlainIx b := by exact fun _ _ => rfl) : PE X (.Subscript a b pos) (tX X.K F (eIx f g)) := PEimp (pe_ix ix_seq ha hb hs) fun σ H Q h => by
  obtain ⟨ρ, m0, m1, fr, hp, a, h⟩ := h
  refine tSq_mk a (T.all_bind h) fun xs hx H1 v k1 a1 rx => ?_
  refine tX_mk a1 (T.all_bind hx) fun y hy H2 u k2 a2 ry => ?_
  obtain ⟨b, vs, rfl, hs, rs⟩ := rx
  split at hy
  · rename_i i
    obtain ⟨d, e, k⟩ := all_ofO hy
    cases ry
    obtain ⟨w, e2, rw'⟩ := atD_atI rs.length (fun i y h => rs.get h) e
    have q := k H2 w (k1.trans k2) a2.row (rw'.on a1.own k2)
    rcases (hs.on a1.own k2).sq with hs | hs
    · exact .inl ⟨b, vs, i, w, rfl, rfl, hs, e2, q⟩
    · exact .inr (.inl ⟨b, vs, i, w, rfl, rfl, hs, e2, q⟩)
  · exact hy.elim
/-! ### len, tuple, list, all, any -/
def eLen (g : Fr → Hz → T (List D)) : Ex := fun fr hp => (g fr hp).bind fun xs => .ret (.int xs.length)
theorem zlen {e : Expr} {g : Fr → Hz → T (List D)} {p pos : Pos} (hg : Gl X "len") (hm : X.mg "len" = none) (he : PE X e (tSq X.K F g)) (na : starEach (e :: []) X.env = (false, eval e X.env) :: starEach [] X.env := by rfl) : PE X (.Call (.Name "len" p) [e] [] pos) (tX X.K F (eLen g)) :=
  PEimp (pe_callB call_len_seq hg hm PySem.boot_len (pa_cons he pa_nil na) (he := na)) fun σ H Q h => by
    obtain ⟨ρ, m0, m1, fr, hp, a, h⟩ := h
    refine tSq_mk a (T.all_bind h) fun xs hx H1 v k1 a1 rx => ?_
    obtain ⟨b, vs, rfl, hs, rs⟩ := rx
    refine ⟨b, vs, rfl, hs.sq, ?_⟩
    rw [rs.length]
    exact hx H1 _ k1 a1.row (.int _)
def eTupOf (g : Fr → Hz → T (List D)) : Ex := fun fr hp => (g fr hp).bind fun xs => .ret (.tup xs)
theorem call_tupF : CallR X (.type "tuple") (fun xs H Q => ∃ p ys, xs = [.ref p] ∧ ((SqL X.K H p ys ∧ ∀ l o, H l = none → o.dict = none → Q (.ref l) (upd H l (.frz o (.tup ys)))) ∨ (SqT X.K H p ys ∧ Q (.ref p) H))) := by
  intro pins s σ H xs us Q I r h
  obtain ⟨p, ys, rfl, h⟩ := h
  obtain ⟨u, rfl, rx⟩ := vals1 r
  cases rx
  rcases h with ⟨hq, q⟩ | ⟨hq, q⟩
  · obtain ⟨its, r', pl, hz⟩ := I.list hq
    have hlen := r'.length
    refine call_tuple_list pl.isList (fun h' kp => ?_) (by simp only [List.size_toArray] <;> omega)
    have I1 : Inv X pins σ H { s with heap := h' } := I.kept (t' := s.toks) kp
    exact ⟨.ref h'.objs.size, _, layTup I1 r' hz, rfl, q _ _ (I1.hok.fresh (Nat.le_refl _)) rfl⟩
  · obtain ⟨its, r', pl, hz⟩ := I.tuple hq
    exact call_tuple_same pl ⟨V.ref p, H, I, rfl, q⟩
theorem ztupOf {e : Expr} {g : Fr → Hz → T (List D)} {p pos : Pos} (hg : Gl X "tuple") (hm : X.mg "tuple" = none) (he : PE X e (tSq X.K F g)) (na : starEach (e :: []) X.env = (false, eval e X.env) :: starEach [] X.env := by rfl) : PE X (.Call (.Name "tuple" p) [e] [] pos) (tX X.K F (eTupOf g)) :=
  PEimp (pe_callTy call_tupF hg hm PyProof.Rows.boot_tuple (pa_cons he pa_nil na) (he := na)) fun σ H Q h => by
    obtain ⟨ρ, m0, m1, fr, hp, a, h⟩ := h
    refine tSq_mk a (T.all_bind h) fun xs hx H1 v k1 a1 rx => ?_
    obtain ⟨b, vs, rfl, hs, rs⟩ := rx
    rcases hs with ⟨hn, h1 | h1⟩ | h1
    · refine ⟨b, vs, rfl, .inl ⟨.inl (.inl h1), fun l o hl ho => ?_⟩⟩
      obtain ⟨k3, a3⟩ := a1.upd (o := .frz o (.tup vs)) hl
      exact hx _ _ (k1.trans k3) a3.row (.tup (a1.sim.new hl) (.new ho) (rs.on a1.own k3))
    · refine ⟨b, vs, rfl, .inr ⟨h1.sq, hx H1 _ k1 a1.row (.tup (fun z => (List.mem_append.mp z).elim hn fun z => ?_) h1 rs)⟩⟩
      obtain ⟨n, hn⟩ := List.getElem?_of_mem z
      have hlt : n < hp.length := by rw [← a1.sim.len]; exact (List.getElem?_eq_some_iff.mp hn).1
      obtain ⟨c, e1, cr⟩ := a1.sim.cell n _ (List.getElem?_eq_getElem hlt)
      rw [hn] at e1
      cases e1
      obtain ⟨o, e3, _⟩ := h1
      exact cr.nofz _ _ e3
    · exact ⟨b, vs, rfl, .inr ⟨h1.sq, hx H1 _ k1 a1.row (.tupK h1 rs)⟩⟩
/-- list(x): a new one -/
theorem zlistOf {e : Expr} {g : Fr → Hz → T (List D)} {p pos : Pos} (hg : Gl X "list") (hm : X.mg "list" = none) (he : PE X e (tSq X.K F g)) (na : starEach (e :: []) X.env = (false, eval e X.env) :: starEach [] X.env := by rfl) : PE X (.Call (.Name "list" p) [e] [] pos) (tN X.K F g) :=
  PEimp (pe_callTy call_list_of hg hm PyProof.Rows.boot_list (pa_cons he pa_nil na) (he := na)) fun σ H Q h => by
    obtain ⟨ρ, m0, m1, fr, hp, a, h⟩ := h
    refine tSq_mk a h fun xs hx H1 v k1 a1 rx => ?_
    obtain ⟨b, vs, rfl, hs, rs⟩ := rx
    refine ⟨b, vs, rfl, hs.sq, fun l hl => ?_⟩
    obtain ⟨k3, a3⟩ := a1.upd (o := .lst vs) hl
    exact hx _ l _ (k1.trans k3) a3.row (a.free k1 a1.row hl) upd_same (rs.more hl (same_new hl))
def bools : List D → Option (List Bool)
  | [] => some []
  | .bl b :: r => match bools r with
    | some bs => some (b :: bs)
    | none => none
  | _ :: _ => none
theorem bools_reps {K : PySem.W.Frag} {m : List Addr} {H : Hp} : ∀ {vs : List V} {ds : List D} {bs : List Bool}, Reps K F m H vs ds → bools ds = some bs → vs = bs.map V.bl
  | _, _, _, .nil, h => by
    cases Option.some.inj h
    rfl
  | _, .bl b :: ds, bs, .cons r rs, h => by
    unfold bools at h
    cases e : bools ds with
    | none => rw [e] at h; cases h
    | some cs =>
      rw [e] at h
      cases Option.some.inj h
      rw [bools_reps rs e]
      cases r
      rfl
  | _, .non :: _, _, _, h => nomatch h
  | _, .int _ :: _, _, _, h => nomatch h
  | _, .str _ :: _, _, _, h => nomatch h
  | _, .ty _ :: _, _, _, h => nomatch h
  | _, .fn _ :: _, _, _, h => nomatch h
  | _, .dct _ _ :: _, _, _, h => nomatch h
  | _, .tup _ :: _, _, _, h => nomatch h
  | _, .lst _ :: _, _, _, h => nomatch h
def allBs : List Bool → Bool
  | [] => true
  | b :: r => bif b then allBs r else false
def anyBs : List Bool → Bool
  | [] => false
  | b :: r => bif b then true else anyBs r
theorem allBs_eq : ∀ l, allBs l = l.all id
  | [] => rfl
  | b :: r => by unfold allBs; rw [List.all_cons, allBs_eq r]; cases b <;> rfl
theorem anyBs_eq : ∀ l, anyBs l = l.any id
  | [] => rfl
  | b :: r => by unfold anyBs; rw [List.any_cons, anyBs_eq r]; cases b <;> rfl
def eAll (g : Fr → Hz → T (List D)) : Ex := fun fr hp => (g fr hp).bind fun xs => (ofO (bools xs)).bind fun bs => .ret (.bl (allBs bs))
def eAny (g : Fr → Hz → T (List D)) : Ex := fun fr hp => (g fr hp).bind fun xs => (ofO (bools xs)).bind fun bs => .ret (.bl (anyBs bs))
theorem zall {e : Expr} {g : Fr → Hz → T (List D)} {p pos : Pos} (hc : X.calm = true) (hg : Gl X "all") (hm : X.mg "all" = none) (he : PE X e (tN X.K F g)) (na : starEach (e :: []) X.env = (false, eval e X.env) :: starEach [] X.env := by rfl) : PE X (.Call (.Name "all" p) [e] [] pos) (tX X.K F (eAll g)) :=
  PEimp (pe_callB (cr_all hc) hg hm (by decide +kernel) (pa_cons he pa_nil na) (he := na)) fun σ H Q h => by
    obtain ⟨ρ, m0, m1, fr, hp, a, h⟩ := h
    show tN X.K F g σ H fun x H1 => rAll X.K [x] H1 Q
    refine tN_mk a (T.all_bind h) fun xs hx H1 b vs k1 a1 hb hl rs => ?_
    obtain ⟨bs, e, k⟩ := all_ofO (T.all_bind hx)
    obtain rfl := bools_reps rs e
    refine ⟨b, bs, rfl, .inl (.inl hl), ?_⟩
    rw [← allBs_eq]
    exact k H1 _ k1 a1.row (.bl _)
theorem zany {e : Expr} {g : Fr → Hz → T (List D)} {p pos : Pos} (hc : X.calm = true) (hg : Gl X "any") (hm : X.mg "any" = none) (he : PE X e (tN X.K F g)) (na : starEach (e :: []) X.env = (false, eval e X.env) :: starEach [] X.env := by rfl) : PE X (.Call (.Name "any" p) [e] [] pos) (tX X.K F (eAny g)) :=
  PEimp (pe_callB (cr_any hc) hg hm (by decide +kernel) (pa_cons he pa_nil na) (he := na)) fun σ H Q h => by
    obtain ⟨ρ, m0, m1, fr, hp, a, h⟩ := h
    show tN X.K F g σ H fun x H1 => rAny X.K [x] H1 Q
    refine tN_mk a (T.all_bind h) fun xs hx H1 b vs k1 a1 hb hl rs => ?_
    obtain ⟨bs, e, k⟩ := all_ofO (T.all_bind hx)
    obtain rfl := bools_reps rs e
    refine ⟨b, bs, rfl, .inl (.inl hl), ?_⟩
    rw [← anyBs_eq]
    exact k H1 _ k1 a1.row (.bl _)
end
end Zl
set_option Elab.async false
set_option linter.all false
set_option maxRecDepth 100000
set_option maxHeartbeats 1000000
/-! Z8: sorted ints, isinstance, index, tuple(range), list(range), slices. -/
namespace Zl
open PySem L2 PySem.Spec PyProof.Rows
/-! ### sorted ints -/
def insI (x : Int) : List Int → List Int
  | [] => [x]
  | y :: r => if x ≤ y then x :: y :: r else y :: insI x r
def isort : List Int → List Int
  | [] => []
  | x :: r => insI x (isort r)
theorem insI_perm (x : Int) : ∀ l, (insI x l).Perm (x :: l)
  | [] => .refl _
  | y :: r => by
    unfold insI
    split
    · exact .refl _
    · exact ((insI_perm x r).cons y).trans (List.Perm.swap x y r)
theorem insI_mem {x z : Int} {l : List Int} (h : z ∈ insI x l) : z = x ∨ z ∈ l := List.mem_cons.mp ((insI_perm x l).mem_iff.mp h)
theorem insI_sorted (x : Int) : ∀ l, l.Pairwise (· ≤ ·) → (insI x l).Pairwise (· ≤ ·)
  | [], _ => by simp [insI]
  | y :: r, h => by
    obtain ⟨h1, h2⟩ := List.pairwise_cons.mp h
    unfold insI
    split
    · rename_i hxy
      refine List.pairwise_cons.mpr ⟨fun z hz => ?_, h⟩
      rcases List.mem_cons.mp hz with e | e
      · rw [e]; exact hxy
      · exact Int.le_trans hxy (h1 z e)
    · rename_i hxy
      refine List.pairwise_cons.mpr ⟨fun z hz => ?_, insI_sorted x r h2⟩
      rcases insI_mem hz with e | e
      · rw [e]; omega
      · exact h1 z e
theorem isort_perm : ∀ l, (isort l).Perm l
  | [] => .refl _
  | x :: r => (insI_perm x (isort r)).trans ((isort_perm r).cons x)
theorem isort_sorted : ∀ l, (isort l).Pairwise (· ≤ ·)
  | [] => List.Pairwise.nil
  | x :: r => insI_sorted x _ (isort_sorted r)
def intsO : List D → Option (List Int)
  | [] => some []
  | .int b :: r => match intsO r with
    | some bs => some (b :: bs)
    | none => none
  | _ :: _ => none
theorem ints_reps {K : PySem.W.Frag} {F : Ev} {m : List Addr} {H : Hp} : ∀ {vs : List V} {ds : List D} {bs : List Int}, Reps K F m H vs ds → intsO ds = some bs → vs = bs.map V.int ∧ ds = bs.map D.int
  | _, _, _, .nil, h => by
    cases Option.some.inj h
    exact ⟨rfl, rfl⟩
  | _, .int b :: ds, bs, .cons r rs, h => by
    unfold intsO at h
    cases e : intsO ds with
    | none => rw [e] at h; cases h
    | some cs =>
      rw [e] at h
      cases Option.some.inj h
      obtain ⟨e1, e2⟩ := ints_reps rs e
      rw [e1, e2]
      cases r
      exact ⟨rfl, rfl⟩
  | _, .non :: _, _, _, h => nomatch h
  | _, .bl _ :: _, _, _, h => nomatch h
  | _, .str _ :: _, _, _, h => nomatch h
  | _, .ty _ :: _, _, _, h => nomatch h
  | _, .fn _ :: _, _, _, h => nomatch h
  | _, .dct _ _ :: _, _, _, h => nomatch h
  | _, .tup _ :: _, _, _, h => nomatch h
  | _, .lst _ :: _, _, _, h => nomatch h
theorem reps_ints {K : PySem.W.Frag} {F : Ev} {m : List Addr} {H : Hp} : ∀ bs : List Int, Reps K F m H (bs.map V.int) (bs.map D.int)
  | [] => .nil
  | b :: r => .cons (.int b) (reps_ints r)
def intsD : List Int → List D
  | [] => []
  | b :: r => .int b :: intsD r
theorem intsD_eq : ∀ l, intsD l = l.map D.int
  | [] => rfl
  | b :: r => congrArg (D.int b :: ·) (intsD_eq r)
def nSort (g : Fr → Hz → T (List D)) : Fr → Hz → T (List D) := fun fr hp => (g fr hp).bind fun xs => guardT (few xs 63) ((ofO (intsO xs)).bind fun bs => .ret (intsD (isort bs)))
section
variable {X : Cx} {F : Ev}
theorem zsortI {e : Expr} {g : Fr → Hz → T (List D)} {p pos : Pos} (hg : Gl X "sorted") (hm : X.mg "sorted" = none) (he : PE X e (tN X.K F g)) (na : starEach (e :: []) X.env = (false, eval e X.env) :: starEach [] X.env := by rfl) : PE X (.Call (.Name "sorted" p) [e] [] pos) (tN X.K F (nSort g)) :=
  PEimp (pe_callB cr_sorted hg hm (by decide +kernel) (pa_cons he pa_nil na) (he := na)) fun σ H Q h => by
    obtain ⟨ρ, m0, m1, fr, hp, a, h⟩ := h
    show tN X.K F g σ H fun x H1 => rSorted X.K [x] H1 Q
    refine tN_mk a (T.all_bind h) fun xs hx H1 b vs k1 a1 hb hl rs => ?_
    obtain ⟨hf, hx⟩ := all_guard hx
    obtain ⟨bs, e, k⟩ := all_ofO (T.all_bind hx)
    obtain ⟨e1, e2⟩ := ints_reps rs e
    subst e1
    refine ⟨b, bs, rfl, .inl (.inl hl), ?_, fun ns q hpm hso hq => ?_⟩
    · have h1 := few_le hf
      have h2 := rs.length
      rw [List.length_map] at h2
      omega
    · have e3 : ns = isort bs := PySem.W.ksm_same (hpm.trans (isort_perm bs).symm) hso (isort_sorted bs)
      subst e3
      obtain ⟨k3, a3⟩ := a1.upd (o := .lst ((isort bs).map V.int)) hq
      refine k _ q _ (k1.trans k3) a3.row (a.free k1 a1.row hq) upd_same ?_
      rw [intsD_eq]
      exact reps_ints _
/-! ### tuple(range(n)), list(range(n)) -/
theorem reps_rg {K : PySem.W.Frag} {m : List Addr} {H : Hp} : ∀ (n : Nat) (a : Int), Reps K F m H ((List.range n).map fun i => V.int (a + (i : Nat))) (upto a n)
  | 0, _ => .nil
  | n + 1, a => by
    rw [List.range_succ_eq_map, List.map_cons, List.map_map]
    have h := reps_rg (K := K) (m := m) (H := H) n (a + 1)
    have e : ((fun (i : Nat) => V.int (a + (i : Nat))) ∘ Nat.succ) = fun (i : Nat) => V.int (a + 1 + (i : Nat)) := by
      funext i
      show V.int (a + ((i + 1 : Nat) : Int)) = V.int (a + 1 + (i : Int))
      congr 1
      omega
    rw [e]
    refine .cons ?_ h
    have e2 : a + ((0 : Nat) : Int) = a := by simp
    rw [e2]
    exact .int a
def rg1 (f : Ex) : Fr → Hz → T (List D) := fun fr hp => (f fr hp).bind fun x => rng1 [x]
def tTupRgF (te : L2.St → Hp → (Int → Int → Hp → Prop) → Prop) : TE := fun σ H Q => te σ H fun a b H1 => RgOk a b ∧ ∀ q o, H1 q = none → o.dict = none → Q (.ref q) (upd H1 q (.frz o (.tup (rgV a b))))
theorem pe_tupRgF {e : Expr} {te : L2.St → Hp → (Int → Int → Hp → Prop) → Prop} {p pos : Pos} (hc : X.calm = true) (hg : Gl X "tuple") (hm : X.mg "tuple" = none) (he : PRg X e te) (na : starEach [e] X.env = (false, eval e X.env) :: starEach [] X.env := by rfl) : PE X (.Call (.Name "tuple" p) [e] [] pos) (tTupRgF te) := by
  constructor
  intro pins s σ H Q I h
  refine Call_ (ld_blt I hg hm PyProof.Rows.boot_tuple (PyProof.Rows.callWith_type1 (args_cons (thn (he pins s σ H _ I h) fun x s1 hh => ?_) na) na))
  obtain ⟨r, a, b, t, u, v, H1, ex, hr, I1, ok, q⟩ := hh
  refine args_nil ?_
  subst ex
  obtain ⟨b1, b2, b3, b4, b5⟩ := ok
  refine call_tuple_range (n := (b - a).toNat) (I1.ok.hd hc) hr (small_one b1 b2 b3 b4) (rangeSize_nat a b) b5 fun h' tk acc hk hi => ?_
  have I2 : Inv X pins σ H1 { s1 with heap := h', toks := tk } := I1.kept hk
  have z : (rgV a b).length ≤ sizeLine := by rw [rgV_length, sizeLine_eq]; omega
  have I3 := layTup I2 (vals_rg hi) z
  rw [Array.toArray_toList] at I3
  exact ⟨.ref h'.objs.size, _, I3, rfl, q _ _ (I2.hok.fresh (Nat.le_refl _)) rfl⟩
theorem ztupRg {e : Expr} {f : Ex} {p p2 pos pos2 : Pos} (hc : X.calm = true) (hg : Gl X "tuple") (hm : X.mg "tuple" = none) (hg2 : Gl X "range") (hm2 : X.mg "range" = none) (he : PE X e (tX X.K F f))
    (na : starEach [e] X.env = (false, eval e X.env) :: starEach [] X.env := by rfl) (nb : starEach [.Call (.Name "range" p2) [e] [] pos2] X.env = (false, eval (.Call (.Name "range" p2) [e] [] pos2) X.env) :: starEach [] X.env := by rfl) :
    PE X (.Call (.Name "tuple" p) [.Call (.Name "range" p2) [e] [] pos2] [] pos) (tX X.K F (eTupOf (rg1 f))) :=
  PEimp (pe_tupRgF hc hg hm (prg_1 hg2 hm2 he na) nb) fun σ H Q h => by
    obtain ⟨ρ, m0, m1, fr, hp, a, h⟩ := h
    refine tX_mk a (T.all_bind (T.all_bind h)) fun x hx H1 v k1 a1 rx => ?_
    unfold rng1 at hx
    split at hx
    · rename_i j e
      cases e
      obtain ⟨hj, k⟩ := all_guard hx
      obtain ⟨h1, h2⟩ := small_of hj
      cases rx
      refine ⟨j, rfl, ⟨by omega, by omega, by omega, by omega, by omega⟩, fun q o hq ho => ?_⟩
      obtain ⟨k3, a3⟩ := a1.upd (o := .frz o (.tup (rgV 0 j))) hq
      refine k _ _ (k1.trans k3) a3.row (.tup (a1.sim.new hq) (.new ho) ?_)
      have e0 : (j - 0).toNat = j.toNat := by simp
      unfold rgV
      rw [e0]
      exact reps_rg _ 0
    · exact hx.elim
theorem zlistRg {e : Expr} {f : Ex} {p p2 pos pos2 : Pos} (hc : X.calm = true) (hg : Gl X "list") (hm : X.mg "list" = none) (hg2 : Gl X "range") (hm2 : X.mg "range" = none) (he : PE X e (tX X.K F f))
    (na : starEach [e] X.env = (false, eval e X.env) :: starEach [] X.env := by rfl) (nb : starEach [.Call (.Name "range" p2) [e] [] pos2] X.env = (false, eval (.Call (.Name "range" p2) [e] [] pos2) X.env) :: starEach [] X.env := by rfl) :
    PE X (.Call (.Name "list" p) [.Call (.Name "range" p2) [e] [] pos2] [] pos) (tN X.K F (rg1 f)) :=
  PEimp (pe_listRg hc hg hm (prg_1 hg2 hm2 he na) nb) fun σ H Q h => by
    obtain ⟨ρ, m0, m1, fr, hp, a, h⟩ := h
    refine tX_mk a (T.all_bind h) fun x hx H1 v k1 a1 rx => ?_
    unfold rng1 at hx
    split at hx
    · rename_i j e
      cases e
      obtain ⟨hj, k⟩ := all_guard hx
      obtain ⟨h1, h2⟩ := small_of hj
      cases rx
      refine ⟨j, rfl, ⟨by omega, by omega, by omega, by omega, by omega⟩, fun q hq => ?_⟩
      obtain ⟨k3, a3⟩ := a1.upd (o := .lst (rgV 0 j)) hq
      refine k _ q _ (k1.trans k3) a3.row (a.free k1 a1.row hq) upd_same ?_
      have e0 : (j - 0).toNat = j.toNat := by simp
      unfold rgV
      rw [e0]
      exact reps_rg _ 0
    · exact hx.elim
/-! ### t.index(x), ints -/
def idxI (k : Int) : List Int → Option Nat
  | [] => none
  | x :: r => if eqI x k then some 0 else match idxI k r with
    | some n => some (n + 1)
    | none => none
theorem idxI_some : ∀ {k : Int} {l : List Int} {n : Nat}, idxI k l = some n → k ∈ l ∧ l.idxOf k = n
  | _, [], _, h => nomatch h
  | k, x :: r, n, h => by
    unfold idxI at h
    by_cases e : x = k
    · subst e
      have : eqI x x = true := by simp [eqI]
      rw [if_pos this] at h
      cases Option.some.inj h
      exact ⟨List.mem_cons_self, by simp⟩
    · have : ¬ eqI x k = true := by simp [eqI, e]
      rw [if_neg this] at h
      cases e2 : idxI k r with
      | none => rw [e2] at h; cases h
      | some j =>
        rw [e2] at h
        cases Option.some.inj h
        obtain ⟨h1, h2⟩ := idxI_some e2
        refine ⟨List.mem_cons_of_mem _ h1, ?_⟩
        rw [List.idxOf_cons]
        have : (x == k) = false := beq_eq_false_iff_ne.mpr e
        rw [this, h2]
        rfl
theorem mt_tupIndexI : MtR X "tuple.index" (fun x xs H Q => ∃ p, ∃ ns : List Int, ∃ k j, x = .ref p ∧ xs = [.int k] ∧ SqT X.K H p (ns.map V.int) ∧ idxI k ns = some j ∧ Q (.int (j : Nat)) H) := by
  intro pins s σ H x xs v us Q I rx rxs h
  obtain ⟨p, ns, k, j, rfl, rfl, hs, hj, q⟩ := h
  obtain ⟨u, rfl, t, rfl⟩ := Vals.one rxs
  cases rx
  obtain ⟨its, rv, ht, _⟩ := I.tuple hs
  obtain ⟨h1, h2⟩ := idxI_some hj
  refine PySem.SeqAt.tuple_index_ints (ns := ns) (show s.heap.IsTuple p its.toArray from ht) rv.ints h1 ?_
  rw [h2]
  exact ⟨V.int _, H, I.tok _, ⟨_, rfl⟩, q⟩
def eIdx (f g : Ex) : Ex := fun fr hp => (f fr hp).bind fun x => (asTup x).bind fun xs => (g fr hp).bind fun y => match y with
  | .int k => (ofO (intsO xs)).bind fun ns => (ofO (idxI k ns)).bind fun j => .ret (.int j)
  | _ => .fail
/-- a method of a tuple -/
def tMtT (K : PySem.W.Frag) (r : V → List V → Hp → VK → Prop) (to : TE) (t : TA) : TE := fun σ H Q => to σ H fun x H1 => (∃ a vs, x = .ref a ∧ (TupO H1 a vs ∨ StT K a vs)) ∧ t σ H1 fun xs H2 => r x xs H2 Q
theorem pe_mtT {o e : Expr} {es : List Expr} {to : TE} {t : TA} {name : Str} {apos cpos : Pos} {id : String} {r : V → List V → Hp → VK → Prop} (slot : Slot "tuple" name id) (hty : typeOf (.builtin id) = pure (.type "method_descriptor")) (hm : MtR X id r) (ho : PE X o to) (ha : PA X (e :: es) t)
    (hbase : attributeBase o name X.env (eval o X.env) = eval o X.env := by rfl)
    (hfew : ((backTo cpos (starEach (e :: es) X.env)).all (fun x => !x.1) && (backToKw cpos (keywordEach [] X.env)).all (fun x => x.1.isSome) && decide ((e :: es).length + ([] : List Keyword).length + (if ([] : List Keyword).isEmpty then 0 else 1) < 30)) = true := by rfl)
    (hline : (apos.endLine == cpos.line) = true := by rfl) (hs : starEach (e :: es) X.env = (false, eval e X.env) :: starEach es X.env := by rfl) (hplain : (backTo cpos (starEach es X.env)).any (·.1) = false := by rfl) :
    PE X (.Call (.Attribute o name apos) (e :: es) [] cpos) (tMtT X.K r to t) := by
  constructor
  intro pins s σ H Q I h
  refine wpAny_Call_method_late hbase hfew hline rfl (thn (ho.run pins s σ H _ I h) fun v s1 hh => ?_)
  obtain ⟨x, H1, I1, r1, ⟨a, vs, rfl, ty⟩, q1⟩ := hh
  obtain rfl : v = Value.ref a := r1
  have z : ∃ ob, s1.heap.get? a = some ob ∧ ob.cls = .type "tuple" ∧ ob.dict = none := by
    rcases ty with ⟨ob, e1, e2⟩ | ⟨ob, its, n, ⟨e1, e2, _⟩, e3⟩
    · obtain ⟨g, hz, us, rv, ob2, g2, c2, _⟩ : ObjOk X.prog X.w H1 s1.heap a (.frz ob (.tup vs)) := I1.hok a _ e1
      rw [g] at g2
      cases g2
      exact ⟨ob, g, c2, e2⟩
    · exact ⟨ob, I1.kIn a ob e1, e2, e3⟩
  obtain ⟨ob, g, c, d⟩ := z
  refine ⟨"tuple", id, PySem.F.plainAttrs_tuple, slot, hty, ⟨ob, g, c⟩, fun b e => ?_, ?_⟩
  · cases e
    exact ⟨ob, g, d⟩
  · have hA := ha.run cpos pins s1 σ H1 _ I1 q1
    rw [hs] at hA ⊢
    refine Calls.callWith_builtin (by show (false || (backTo cpos (starEach es X.env)).any (·.1)) = false; rw [hplain] <;> rfl) (Calls.evalArgs_plain (thn hA fun us s2 hh => ?_))
    obtain ⟨ws, H2, I2, r2, q2⟩ := hh
    exact hm pins s2 σ H2 (V.ref a) ws _ us Q I2 rfl r2 q2
theorem zidx {o e : Expr} {f g : Ex} {apos pos : Pos} (ho : PE X o (tX X.K F f)) (he : PE X e (tX X.K F g))
    (hbase : attributeBase o "index" X.env (eval o X.env) = eval o X.env := by rfl)
    (hfew : ((backTo pos (starEach (e :: []) X.env)).all (fun x => !x.1) && (backToKw pos (keywordEach [] X.env)).all (fun x => x.1.isSome) && decide ((e :: []).length + ([] : List Keyword).length + (if ([] : List Keyword).isEmpty then 0 else 1) < 30)) = true := by rfl)
    (hline : (apos.endLine == pos.line) = true := by rfl) (na : starEach (e :: []) X.env = (false, eval e X.env) :: starEach [] X.env := by rfl) :
    PE X (.Call (.Attribute o "index" apos) [e] [] pos) (tX X.K F (eIdx f g)) :=
  PEimp (pe_mtT PySem.F.slot_tuple_index PySem.F.type_tuple_index mt_tupIndexI ho (pa_cons he pa_nil na) hbase hfew hline na rfl) fun σ H Q h => by
    obtain ⟨ρ, m0, m1, fr, hp, a, h⟩ := h
    refine tX_mk a (T.all_bind h) fun x hx H1 v k1 a1 rx => ?_
    obtain ⟨xs, rfl, hx⟩ := all_asTup (T.all_bind hx)
    refine ⟨?_, ?_⟩
    · cases rx with
      | tup _ e _ => exact ⟨_, _, rfl, .inl e⟩
      | tupK e _ => exact ⟨_, _, rfl, .inr e⟩
    · show tX X.K F g σ H1 fun y H2 => _
      refine tX_mk a1 (T.all_bind hx) fun y hy H2 u k2 a2 ry => ?_
      cases y with
      | int k =>
        obtain ⟨ns, e1, hy⟩ := all_ofO (T.all_bind hy)
        obtain ⟨j, e2, k⟩ := all_ofO (T.all_bind hy)
        cases ry
        obtain ⟨b, vs, rfl, hs, rs⟩ := (rx.on a1.own k2).tupR
        obtain ⟨e3, _⟩ := ints_reps rs e1
        subst e3
        exact ⟨b, ns, _, j, rfl, rfl, hs, e2, k H2 _ (k1.trans k2) a2.row (.int _)⟩
      | _ => exact hy.elim
end
end Zl
set_option Elab.async false
set_option linter.all false
set_option maxRecDepth 100000
set_option maxHeartbeats 2000000
/-! ZA: permutations, combinations, product: what the model's tables say of them. -/
namespace Zi
open PySem PySem.Spec PyProof.Rows
theorem mro_pm : mroOf (.type "itertools.permutations") = pure [.type "itertools.permutations", .type "object"] := by rw [mroOf_type]; kernel_rfl
theorem look_pm : typeLookup (.type "itertools.permutations") "__new__" = pure (some (.builtin "itertools.permutations.__new__")) := by rw [typeLookup_type, builtinLookup_eq_fast]; kernel_rfl
theorem sub_pm : isSubtype (.type "itertools.permutations") (.type "itertools.permutations") = pure true := by rw [isSubtype_type]; kernel_rfl
theorem init_pm : Slot "itertools.permutations" "__init__" "object.__init__" :=
  .of (owner := "object") (n := "__init__") (by rw [typeLookup_type, builtinLookup_eq_fast]; kernel_rfl) (by decide +kernel) (by decide +kernel) (by decide +kernel) (by first | exact .inl (by decide +kernel) | exact .inr (by decide +kernel)) (by rw [isSubtype_type]; kernel_rfl)
theorem iter_pm : Slot "itertools.permutations" "__iter__" "itertools.permutations.__iter__" :=
  .of (owner := "itertools.permutations") (n := "__iter__") (by rw [typeLookup_type, builtinLookup_eq_fast]; kernel_rfl) (by decide +kernel) (by decide +kernel) (by decide +kernel) (by first | exact .inl (by decide +kernel) | exact .inr (by decide +kernel)) sub_pm
theorem next_pm : Slot "itertools.permutations" "__next__" "itertools.permutations.__next__" :=
  .of (owner := "itertools.permutations") (n := "__next__") (by rw [typeLookup_type, builtinLookup_eq_fast]; kernel_rfl) (by decide +kernel) (by decide +kernel) (by decide +kernel) (by first | exact .inl (by decide +kernel) | exact .inr (by decide +kernel)) sub_pm
theorem called_pm : TypeCalled "itertools.permutations" "itertools.permutations.__new__" "object.__init__" :=
  ⟨by decide +kernel, by decide +kernel, ⟨_, _, mro_pm⟩, madeBy_type mro_pm look_pm (by decide +kernel), by decide +kernel, sub_pm, init_pm⟩
theorem en_new_pm : entryFor table "itertools.permutations.__new__" = some Builtin.«itertools.permutations.__new__» := entryFor_of_tree (by kernel_rfl)
theorem en_iter_pm : entryFor table "itertools.permutations.__iter__" = some Builtin.«dict_keyiterator.__iter__» :=
  entryFor_alias (id' := "dict_keyiterator.__iter__") (by kernel_rfl) (by first | rfl | decide +kernel | (unfold String.splitOn; simp +decide [String.splitOnAux])) (by decide +kernel) (by kernel_rfl)
theorem en_next_pm : entryFor table "itertools.permutations.__next__" = some Builtin.«itertools.permutations.__next__» := entryFor_of_tree (by kernel_rfl)
theorem owner_pm : Manifest.owners.lookup (String.ofList ['s', 'n', 'o', 'i', 't', 'a', 't', 'u', 'm', 'r', 'e', 'p', '.', 's', 'l', 'o', 'o', 't', 'r', 'e', 't', 'i'].reverse) = some Manifest.sig_itertools_permutations := by kernel_rfl
theorem ar_iter_pm (a : Value) : argsOk "itertools.permutations.__iter__" ⟨[a], []⟩ := by
  unfold argsOk; rw [signature?_of (id := "itertools.permutations.__iter__") (n := ['_', '_', 'r', 'e', 't', 'i', '_', '_']) (o := ['s', 'n', 'o', 'i', 't', 'a', 't', 'u', 'm', 'r', 'e', 'p', '.', 's', 'l', 'o', 'o', 't', 'r', 'e', 't', 'i']) (by kernel_rfl) owner_pm]; kernel_rfl
theorem ar_next_pm (a : Value) : argsOk "itertools.permutations.__next__" ⟨[a], []⟩ := by
  unfold argsOk; rw [signature?_of (id := "itertools.permutations.__next__") (n := ['_', '_', 't', 'x', 'e', 'n', '_', '_']) (o := ['s', 'n', 'o', 'i', 't', 'a', 't', 'u', 'm', 'r', 'e', 'p', '.', 's', 'l', 'o', 'o', 't', 'r', 'e', 't', 'i']) (by kernel_rfl) owner_pm]; kernel_rfl
theorem nodict_pm : typeHasDict (.type "itertools.permutations") = false := by decide +kernel
theorem nolen_pm : typeLookup (.type "itertools.permutations") "__len__" = pure none := by rw [typeLookup_type, builtinLookup_eq_fast]; kernel_rfl
theorem nohint_pm : typeLookup (.type "itertools.permutations") "__length_hint__" = pure none := by rw [typeLookup_type, builtinLookup_eq_fast]; kernel_rfl
theorem plain_pm : plainId "itertools.permutations.__new__" = true := by decide +kernel
theorem mro_cb : mroOf (.type "itertools.combinations") = pure [.type "itertools.combinations", .type "object"] := by rw [mroOf_type]; kernel_rfl
theorem look_cb : typeLookup (.type "itertools.combinations") "__new__" = pure (some (.builtin "itertools.combinations.__new__")) := by rw [typeLookup_type, builtinLookup_eq_fast]; kernel_rfl
theorem sub_cb : isSubtype (.type "itertools.combinations") (.type "itertools.combinations") = pure true := by rw [isSubtype_type]; kernel_rfl
theorem init_cb : Slot "itertools.combinations" "__init__" "object.__init__" :=
  .of (owner := "object") (n := "__init__") (by rw [typeLookup_type, builtinLookup_eq_fast]; kernel_rfl) (by decide +kernel) (by decide +kernel) (by decide +kernel) (by first | exact .inl (by decide +kernel) | exact .inr (by decide +kernel)) (by rw [isSubtype_type]; kernel_rfl)
theorem iter_cb : Slot "itertools.combinations" "__iter__" "itertools.combinations.__iter__" :=
  .of (owner := "itertools.combinations") (n := "__iter__") (by rw [typeLookup_type, builtinLookup_eq_fast]; kernel_rfl) (by decide +kernel) (by decide +kernel) (by decide +kernel) (by first | exact .inl (by decide +kernel) | exact .inr (by decide +kernel)) sub_cb
theorem next_cb : Slot "itertools.combinations" "__next__" "itertools.combinations.__next__" :=
  .of (owner := "itertools.combinations") (n := "__next__") (by rw [typeLookup_type, builtinLookup_eq_fast]; kernel_rfl) (by decide +kernel) (by decide +kernel) (by decide +kernel) (by first | exact .inl (by decide +kernel) | exact .inr (by decide +kernel)) sub_cb
theorem called_cb : TypeCalled "itertools.combinations" "itertools.combinations.__new__" "object.__init__" :=
  ⟨by decide +kernel, by decide +kernel, ⟨_, _, mro_cb⟩, madeBy_type mro_cb look_cb (by decide +kernel), by decide +kernel, sub_cb, init_cb⟩
theorem en_new_cb : entryFor table "itertools.combinations.__new__" = some Builtin.«itertools.combinations.__new__» := entryFor_of_tree (by kernel_rfl)
theorem en_iter_cb : entryFor table "itertools.combinations.__iter__" = some Builtin.«dict_keyiterator.__iter__» :=
  entryFor_alias (id' := "dict_keyiterator.__iter__") (by kernel_rfl) (by first | rfl | decide +kernel | (unfold String.splitOn; simp +decide [String.splitOnAux])) (by decide +kernel) (by kernel_rfl)
theorem en_next_cb : entryFor table "itertools.combinations.__next__" = some Builtin.«itertools.combinations.__next__» := entryFor_of_tree (by kernel_rfl)
theorem owner_cb : Manifest.owners.lookup (String.ofList ['s', 'n', 'o', 'i', 't', 'a', 'n', 'i', 'b', 'm', 'o', 'c', '.', 's', 'l', 'o', 'o', 't', 'r', 'e', 't', 'i'].reverse) = some Manifest.sig_itertools_combinations := by kernel_rfl
theorem ar_iter_cb (a : Value) : argsOk "itertools.combinations.__iter__" ⟨[a], []⟩ := by
  unfold argsOk; rw [signature?_of (id := "itertools.combinations.__iter__") (n := ['_', '_', 'r', 'e', 't', 'i', '_', '_']) (o := ['s', 'n', 'o', 'i', 't', 'a', 'n', 'i', 'b', 'm', 'o', 'c', '.', 's', 'l', 'o', 'o', 't', 'r', 'e', 't', 'i']) (by kernel_rfl) owner_cb]; kernel_rfl
theorem ar_next_cb (a : Value) : argsOk "itertools.combinations.__next__" ⟨[a], []⟩ := by
  unfold argsOk; rw [signature?_of (id := "itertools.combinations.__next__") (n := ['_', '_', 't', 'x', 'e', 'n', '_', '_']) (o := ['s', 'n', 'o', 'i', 't', 'a', 'n', 'i', 'b', 'm', 'o', 'c', '.', 's', 'l', 'o', 'o', 't', 'r', 'e', 't', 'i']) (by kernel_rfl) owner_cb]; kernel_rfl
theorem nodict_cb : typeHasDict (.type "itertools.combinations") = false := by decide +kernel
theorem nolen_cb : typeLookup (.type "itertools.combinations") "__len__" = pure none := by rw [typeLookup_type, builtinLookup_eq_fast]; kernel_rfl
theorem nohint_cb : typeLookup (.type "itertools.combinations") "__length_hint__" = pure none := by rw [typeLookup_type, builtinLookup_eq_fast]; kernel_rfl
theorem plain_cb : plainId "itertools.combinations.__new__" = true := by decide +kernel
theorem ty1_pm (a : Value) : checkTypeCall "itertools.permutations" ⟨[a], []⟩ = pure () := by kernel_rfl
theorem nw1_pm (a : Value) : checkBuiltinCall "itertools.permutations.__new__" ⟨[.type "itertools.permutations", a], []⟩ = pure () := by kernel_rfl
theorem ty2_cb (a b : Value) : checkTypeCall "itertools.combinations" ⟨[a, b], []⟩ = pure () := by kernel_rfl
theorem nw2_cb (a b : Value) : checkBuiltinCall "itertools.combinations.__new__" ⟨[.type "itertools.combinations", a, b], []⟩ = pure () := by kernel_rfl
end Zi
set_option Elab.async false
set_option linter.all false
set_option maxRecDepth 100000
set_option maxHeartbeats 2000000
/-! ZB: permutations and combinations made and asked. -/
namespace Zi
open PySem PySem.Spec PyProof.Rows
open Sem (wp)
/-- a record of a class, and the pool it draws from -/
def IsIt (T : String) (h : Heap) (it pool : Addr) (fs : List Value) (items : List Value) : Prop :=
  h.get? it = some { cls := .type T, data := .fields fs.toArray } ∧ h.get? pool = some { cls := .type "tuple", data := .seq items.toArray } ∧ pool ≠ it
theorem few_no {n : Nat} (h : n ≤ 64) : Builtin.Itertools.itTooMany (n : Int) = false := by
  unfold Builtin.Itertools.itTooMany
  exact decide_eq_false (by omega)
section
variable {prog : Program} {w : World} {A : Around} {E : Value → Shared → Prop} {s : Shared}
theorem code_pm_new {r : Addr} {n : Nat} {t u v : Tok} {Q : Value → Shared → Prop} (hh : A.handled = none) (hr : IsRange s.heap r 0 n 1 t u v) (hn : n ≤ 64)
    (h : ∀ (h' : Heap) (tk : Nat) (acc : Array Value), (∀ b o, s.heap.get? b = some o → h'.get? b = some o) → ItemsOf (fun i v => ∃ t, v = .int (0 + i * 1) t) acc n →
      Q (.ref (h'.objs.size + 1)) { s with heap := (h'.push { cls := .type "tuple", data := .seq acc.toList.toArray }).push { cls := .type "itertools.permutations", data := .fields ([Value.ref h'.objs.size, rawInt 0, rawInt n, .none] ++ (List.range n).map (fun (i : Nat) => rawInt i) ++ (List.range n).map fun (i : Nat) => rawInt ((n : Int) - i)).toArray }, toks := tk }) :
    codeAny (model prog w) A (.call (.builtin "itertools.permutations.__new__") ⟨[.type "itertools.permutations", .ref r], []⟩) (wants Q E) s := by
  refine codeAny_of_tree ?_
  show wpAny _ A.in1 (do checkBuiltinCall "itertools.permutations.__new__" ⟨[.type "itertools.permutations", .ref r], []⟩; again (.builtin "itertools.permutations.__new__" ⟨[.type "itertools.permutations", .ref r], []⟩)) _ _ s
  refine wpAny_bind (wpAny_of_eq (nw1_pm _) (wpAny_pure ⟨plainId_quiet plain_pm _, codeAny_builtin en_new_pm ?_⟩))
  rw [Around.under_plainId plain_pm _]
  have hd := nodict_pm
  have hh1 : A.in1.handled = none := hh
  unfold Builtin.«itertools.permutations.__new__»
  refine wpAny_bind (wpAny_of_eq (a := (Value.type "itertools.permutations", [Value.ref r])) (by kernel_rfl) ?_)
  try dsimp only
  refine wpAny_bind (wpAny_of_eq (a := [some (Value.ref r), none]) (by kernel_rfl) ?_)
  try dsimp only
  refine wpAny_bind (L2.collect_range hh1 hr (n := n) (small_one (by omega) (by omega) (by omega) (by omega)) (by have := rangeSize_nat 0 (n : Int); simpa using this) (by omega) fun h' tk acc hk hi => ?_)
  have el : acc.toList.length = n := by rw [Array.length_toList]; exact hi.1
  have es : acc.toList.toArray.size = n := by simpa using hi.1
  refine wpAny_bind (wpAny_pure ?_)
  rw [el]
  rw [if_neg (by omega)]
  rw [if_neg (by rw [few_no hn]; decide)]
  simp only [newTuple]
  refine wpAny_bind (wpAny_newObj_type ?_ (by show acc.toList.toArray.size ≤ sizeLine; rw [es]; size_fits))
  refine wpAny_bind ?_
  unfold Builtin.Itertools.itNewRecord
  rw [hd]
  rw [if_pos (by decide)]
  refine wpAny_newObj_type ?_ (by
    show (List.toArray _).size ≤ sizeLine + 2
    rw [List.size_toArray]
    simp only [List.length_append, List.length_map, List.length_range, List.length_cons, List.length_nil, Int.toNat_natCast]
    rw [sizeLine_eq]
    omega)
  refine wpAny_pure ?_
  have e0 : (if ((n : Int)).toNat > n then (2 : Int) else 0) = 0 := if_neg (by omega)
  rw [e0, Int.toNat_natCast]
  have q := h h' tk acc hk hi
  have sz : (h'.push { cls := .type "tuple", data := .seq acc.toList.toArray }).objs.size = h'.objs.size + 1 := by simp [Heap.push]
  rw [← sz] at q
  exact q
/-- a new record behind its pool -/
def comH (h1 : Heap) (T : String) (xs : List Value) (fs : List Value) : Heap := (h1.push { cls := .type "tuple", data := .seq xs.toArray }).push { cls := .type T, data := .fields (Value.ref h1.objs.size :: fs).toArray }
theorem comH_it {h1 : Heap} {T : String} {xs fs : List Value} : IsIt T (comH h1 T xs fs) (h1.objs.size + 1) h1.objs.size (Value.ref h1.objs.size :: fs) xs := by
  have sz : (h1.push { cls := .type "tuple", data := .seq xs.toArray }).objs.size = h1.objs.size + 1 := by simp [Heap.push]
  refine ⟨?_, Heap.get?_push_of_some _ (Heap.get?_push_size _ rfl), Nat.ne_of_lt (Nat.lt_succ_self _)⟩
  rw [← sz]
  exact Heap.get?_push_size _ rfl
theorem comH_keep {h1 : Heap} {T : String} {xs fs : List Value} {b : Addr} {o : Obj} (e : h1.get? b = some o) : (comH h1 T xs fs).get? b = some o := Heap.get?_push_of_some _ (Heap.get?_push_of_some _ e)
def pmF0 (n : Nat) : List Value := [rawInt 0, rawInt n, .none] ++ (List.range n).map (fun (i : Nat) => rawInt i) ++ (List.range n).map fun (i : Nat) => rawInt ((n : Int) - i)
theorem call_pm {r : Addr} {n : Nat} {t u v : Tok} {Q : Value → Shared → Prop} (hh : A.handled = none) (hr : IsRange s.heap r 0 n 1 t u v) (hn : n ≤ 64)
    (h : ∀ (h1 : Heap) (tk : Nat) (acc : Array Value), (∀ b o, s.heap.get? b = some o → h1.get? b = some o) → ItemsOf (fun i v => ∃ t, v = .int (0 + i * 1) t) acc n →
      Q (.ref (h1.objs.size + 1)) { s with heap := comH h1 "itertools.permutations" acc.toList (pmF0 n), toks := tk }) :
    wpAny (model prog w) A (call (.type "itertools.permutations") [.ref r]) Q E s := by
  refine callType_codes (Q₁ := fun obj s₁ => s₁.TypeIs obj "itertools.permutations" ∧ Q obj s₁) called_pm (ty1_pm _) F.entry_object_init
    (code_pm_new (A := A.in1) hh hr hn fun h' tk acc hk hacc => ?_) fun obj s₁ h₁ => ?_
  · exact ⟨⟨_, (comH_it (T := "itertools.permutations") (xs := acc.toList) (fs := pmF0 n)).1, rfl⟩, h h' tk acc hk hacc⟩
  · exact ⟨h₁.1, F.args_object_init_2 obj _, object_init_meets called_pm.init.lookup called_pm.made (by decide) prog w A.in1 _ s₁ ⟨h₁.1, rfl, h₁.2⟩⟩
/-! ### the next -/
/-- the record has turned: a new tuple of the row -/
def Turned (T : String) (s : Shared) (it pool : Addr) (fs items row : List Value) (h' : Heap) : Prop :=
  IsIt T h' it pool fs items ∧ h'.get? s.heap.objs.size = some { cls := .type "tuple", data := .seq row.toArray } ∧ ∀ b o, b ≠ it → s.heap.get? b = some o → h'.get? b = some o
theorem IsIt.fld {T : String} {it pool : Addr} {fs items : List Value} (h : IsIt T s.heap it pool fs items) {g : Array Value → Array Value} {fs' : List Value} (e : g fs.toArray = fs'.toArray) :
    IsIt T (s.heap.update it (Obj.mapFields g)) it pool fs' items := by
  obtain ⟨h1, h2, h3⟩ := h
  refine ⟨?_, (Heap.get?_update_other _ _ (Ne.symm h3)).trans h2, h3⟩
  have := Heap.get?_update_self (Obj.mapFields g) h1 rfl
  rw [this]
  show some (Obj.mapFields g { cls := .type T, data := .fields fs.toArray }) = _
  simp only [Obj.mapFields]
  rw [e]
theorem IsIt.push {T : String} {it pool : Addr} {fs items : List Value} (h : IsIt T s.heap it pool fs items) (o : Obj) : IsIt T (s.heap.push o) it pool fs items :=
  ⟨Heap.get?_push_of_some _ h.1, Heap.get?_push_of_some _ h.2.1, h.2.2⟩
theorem set_arr (fs : List Value) (k : Nat) (x : Value) : fs.toArray.setIfInBounds k x = (fs.set k x).toArray := by simp
theorem hand {T : String} {it pool : Addr} {k : Nat} {fs items row : List Value} {R : Fin → Shared → Prop} (hit : IsIt T s.heap it pool fs items) (hk : k < fs.length) (hz : row.length ≤ 64)
    (h : ∀ h', Turned T s it pool (fs.set k (.ref s.heap.objs.size)) items row h' → R (.done (.ret (.ref s.heap.objs.size))) { s with heap := h' }) :
    wpAny (model prog w) A (do let t ← newTuple row; let before ← field (.ref it) k; setField (.ref it) k t; letGo [before] [t]; ret t) R E s := by
  simp only [newTuple]
  refine wpAny_bind (wpAny_newObj_type ?_ (by show (List.toArray _).size ≤ sizeLine; rw [List.size_toArray, sizeLine_eq]; omega))
  have hp := hit.push { cls := .type "tuple", data := .seq row.toArray }
  have hk' : k < fs.toArray.size := by simpa using hk
  refine wpAny_bind (wpAny_field (s := { s with heap := s.heap.push { cls := .type "tuple", data := .seq row.toArray } }) hp.1 rfl (x := fs[k]) (by simp [hk]) ?_)
  refine wpAny_bind (wpAny_setField (s := { s with heap := s.heap.push { cls := .type "tuple", data := .seq row.toArray } }) hp.1 rfl hk' ?_)
  refine wpAny_bind (wpAny_letGo ?_)
  have ne : it ≠ s.heap.objs.size := Nat.ne_of_lt (Heap.lt_size hit.1)
  refine wpAny_pure (h _ ⟨IsIt.fld (s := { s with heap := s.heap.push { cls := .type "tuple", data := .seq row.toArray } }) hp (set_arr _ _ _), ?_, fun b o hb e => ?_⟩)
  · exact (Heap.get?_update_other _ _ ne).trans (Heap.get?_push_size _ rfl)
  · exact (Heap.get?_update_other _ _ (Ne.symm hb)).trans (Heap.get?_push_of_some _ e)
theorem nums (fs : List Value) (ns : List Nat) (k : Nat) (hk : k = fs.length) (f : Value → Nat) (hf : ∀ n t, f (.int n t) = n.toNat) : (List.drop k (fs ++ ns.map fun (i : Nat) => rawInt i)).map f = ns := by
  subst hk
  rw [List.drop_left, List.map_map]
  conv => rhs; rw [← List.map_id ns]
  apply List.map_congr_left
  intro a _
  show f (.int a 0) = a
  rw [hf]
  simp
theorem Turned.back {T : String} {it pool : Addr} {f : Obj → Obj} {fs items row : List Value} {h' : Heap} (t : Turned T { s with heap := s.heap.update it f } it pool fs items row h') : Turned T s it pool fs items row h' := by
  obtain ⟨t1, t2, t3⟩ := t
  have sz : (s.heap.update it f).objs.size = s.heap.objs.size := Heap.size_update ..
  refine ⟨t1, by rw [← sz]; exact t2, fun b o hb e => t3 b o hb ((Heap.get?_update_other _ _ (Ne.symm hb)).trans e)⟩
theorem pm_first {it pool : Addr} {n : Nat} {prev : Value} {ns : List Nat} {items row : List Value} {Q : Option Value → Shared → Prop} (hit : IsIt "itertools.permutations" s.heap it pool ([.ref pool, rawInt 0, rawInt n, prev] ++ ns.map fun (i : Nat) => rawInt i) items)
    (hrow : (ns.take n).map (fun i => items.toArray.getD i .none) = row) (hz : row.length ≤ 64)
    (h : ∀ h', Turned "itertools.permutations" s it pool ([.ref pool, rawInt 1, rawInt n, .ref s.heap.objs.size] ++ ns.map fun (i : Nat) => rawInt i) items row h' → Q (some (.ref s.heap.objs.size)) { s with heap := h' }) :
    wpAny (model prog w) A (callSpecial? (.ref it) "__next__") Q E s := by
  obtain ⟨h1, h2, h3⟩ := id hit
  have hT : s.TypeIs (.ref it) "itertools.permutations" := ⟨_, h1, rfl⟩
  refine wpAny_callSpecial?_slot (name := Str.ofString "__next__") hT next_pm (wpAny_call_entry next_pm hT en_next_pm ?_ (ar_next_pm _))
  unfold Builtin.«itertools.permutations.__next__»
  refine wpAny_bind (wpAny_of_eq (a := (Value.ref it, [])) rfl ?_)
  try dsimp only
  refine wpAny_bind (wpAny_field h1 rfl (x := .ref pool) rfl ?_)
  unfold Builtin.Itertools.itPoolItems
  refine wpAny_bind (wpAny_bind (wpAny_seqItems h2 rfl ?_))
  refine wpAny_pure ?_
  try dsimp only
  unfold Builtin.Itertools.itIntField
  refine wpAny_bind (wpAny_bind (wpAny_field h1 rfl (x := rawInt n) rfl (wpAny_pure ?_)))
  unfold Builtin.Itertools.itNumbersFrom
  refine wpAny_bind ?_
  show wpAny _ _ (load it >>= _) _ _ _
  refine wpAny_bind (wpAny_load h1 ?_)
  refine wpAny_pure ?_
  refine wpAny_bind (wpAny_bind (wpAny_field h1 rfl (x := rawInt 0) rfl (wpAny_pure ?_)))
  have en := nums [.ref pool, rawInt 0, rawInt n, prev] ns 4 rfl
  show wpAny _ _ (setField (.ref it) 1 (rawInt 1) >>= _) _ _ _
  refine wpAny_bind (wpAny_setField h1 rfl (by simp) ?_)
  have hit2 := hit.fld (g := (·.setIfInBounds 1 (rawInt 1))) (set_arr _ _ _)
  try dsimp only
  rw [en _ fun _ _ => rfl, Int.toNat_natCast, hrow]
  refine hand (s := { s with heap := _ }) hit2 (by simp) hz fun h' tr => ⟨_, rfl, ?_⟩
  have sz : (s.heap.update it (Obj.mapFields fun x => x.setIfInBounds 1 (rawInt 1))).objs.size = s.heap.objs.size := Heap.size_update ..
  have q := h h' (by
    have tr := tr.back
    rw [sz] at tr
    exact tr)
  rw [← sz] at q
  exact q
def pmN : Nat → Nat → List Nat
  | 2, 0 => [0, 1, 2, 1]
  | 2, 1 => [0, 1, 2, 1]
  | 2, _ => [1, 0, 1, 1]
  | 3, 0 => [0, 1, 2, 3, 2, 1]
  | 3, 1 => [0, 1, 2, 3, 2, 1]
  | 3, 2 => [0, 2, 1, 3, 1, 1]
  | 3, 3 => [1, 0, 2, 2, 2, 1]
  | 3, 4 => [1, 2, 0, 2, 1, 1]
  | 3, 5 => [2, 0, 1, 1, 2, 1]
  | 3, _ => [2, 1, 0, 1, 1, 1]
  | _, _ => []
def pmSt : Nat → Int
  | 0 => 0
  | _ => 1
def pmCount : Nat → Nat
  | 2 => 2
  | 3 => 6
  | _ => 0
/-- the fields at the i-th turn -/
def pmF (pool : Addr) (n i : Nat) (prev : Value) : List Value := [.ref pool, rawInt (pmSt i), rawInt n, prev] ++ (pmN n i).map fun (i : Nat) => rawInt i
def pmRow (items : List Value) (n i : Nat) : List Value := ((pmN n (i + 1)).take n).map fun j => items.toArray.getD j .none
theorem pm_more {it pool : Addr} {n i : Nat} {prev : Value} {items : List Value} {Q : Option Value → Shared → Prop} (hit : IsIt "itertools.permutations" s.heap it pool (pmF pool n (i + 1) prev) items) (hl : items.length = n)
    (hn : n = 2 ∨ n = 3) (hi : i + 1 < pmCount n)
    (h : ∀ h', Turned "itertools.permutations" s it pool (pmF pool n (i + 2) (.ref s.heap.objs.size)) items (pmRow items n (i + 1)) h' → Q (some (.ref s.heap.objs.size)) { s with heap := h' }) :
    wpAny (model prog w) A (callSpecial? (.ref it) "__next__") Q E s := by
  obtain ⟨h1, h2, h3⟩ := id hit
  have hT : s.TypeIs (.ref it) "itertools.permutations" := ⟨_, h1, rfl⟩
  refine wpAny_callSpecial?_slot (name := Str.ofString "__next__") hT next_pm (wpAny_call_entry next_pm hT en_next_pm ?_ (ar_next_pm _))
  unfold Builtin.«itertools.permutations.__next__»
  refine wpAny_bind (wpAny_of_eq (a := (Value.ref it, [])) rfl ?_)
  try dsimp only
  refine wpAny_bind (wpAny_field h1 rfl (x := .ref pool) rfl ?_)
  unfold Builtin.Itertools.itPoolItems
  refine wpAny_bind (wpAny_bind (wpAny_seqItems h2 rfl ?_))
  refine wpAny_pure ?_
  try dsimp only
  unfold Builtin.Itertools.itIntField
  refine wpAny_bind (wpAny_bind (wpAny_field h1 rfl (x := rawInt n) rfl (wpAny_pure ?_)))
  unfold Builtin.Itertools.itNumbersFrom
  refine wpAny_bind ?_
  show wpAny _ _ (load it >>= _) _ _ _
  refine wpAny_bind (wpAny_load h1 ?_)
  refine wpAny_pure ?_
  refine wpAny_bind (wpAny_bind (wpAny_field h1 rfl (x := rawInt 1) rfl (wpAny_pure ?_)))
  have en := nums [.ref pool, rawInt 1, rawInt n, prev] (pmN n (i + 1)) 4 rfl
  have fin : ∀ (ns' : List Nat) (k : Nat), pmF pool n (i + 2) (.ref s.heap.objs.size) = [.ref pool, rawInt 1, rawInt n, .ref s.heap.objs.size] ++ (ns'.map fun (i : Nat) => rawInt i) → pmRow items n (i + 1) = ((ns'.take k).map fun j => items.toArray.getD j .none) → k ≤ 3 → ns'.length ≤ 64 →
      wpAny (model prog w) A.in1 (do Builtin.Itertools.itSetNumbersFrom (.ref it) 4 ns'; let t ← newTuple ((ns'.take k).map fun j => items.toArray.getD j .none); let before ← field (.ref it) 3; setField (.ref it) 3 t; letGo [before] [t]; ret t) (fun fin s' => ∃ v, fin = Fin.done (Flow.ret v) ∧ Q (some v) s') E s := by
    intro ns' k ef er hk hl
    unfold Builtin.Itertools.itSetNumbersFrom
    refine wpAny_bind ?_
    show wpAny _ _ (updateFields it _) _ _ _
    have hz : (((pmF pool n (i + 1) prev).toArray.extract 0 4) ++ (ns'.map fun (n : Nat) => rawInt n).toArray) = ([.ref pool, rawInt 1, rawInt n, prev] ++ (ns'.map fun (i : Nat) => rawInt i)).toArray := by
      unfold pmF pmSt
      simp
    have hit2 : IsIt "itertools.permutations" _ it pool ([.ref pool, rawInt 1, rawInt n, prev] ++ (ns'.map fun (i : Nat) => rawInt i)) items := hit.fld (g := fun fs => fs.extract 0 4 ++ (ns'.map fun (n : Nat) => rawInt n).toArray) hz
    refine wpAny_updateFields h1 rfl ?_ ?_
    · refine hand (s := { s with heap := _ }) hit2 (by simp) (by rw [List.length_map, List.length_take]; omega) fun h' tr => ⟨_, rfl, ?_⟩
      have sz : (s.heap.update it (Obj.mapFields fun fs => fs.extract 0 4 ++ (ns'.map fun (n : Nat) => rawInt n).toArray)).objs.size = s.heap.objs.size := Heap.size_update ..
      have q := h h' (by
        have tr := tr.back
        rw [sz] at tr
        rw [ef, er]
        exact tr)
      rw [← sz] at q
      exact q
    · rw [hz]
      show (List.toArray _).size ≤ sizeLine + 3
      rw [List.size_toArray, List.length_append, List.length_map, sizeLine_eq]
      simp only [List.length_cons, List.length_nil]
      omega
  have hs : items.toArray.size = n := by simpa using hl
  rw [show (1 : Int) = 1 from rfl]
  try dsimp only
  rw [hs]
  have e0 : ∀ {α : Type} (x : α), x = x := fun _ => rfl
  rcases hn with rfl | rfl
  · have hi' : i = 0 := by simp only [pmCount] at hi; omega
    subst hi'
    exact fin [1, 0, 1, 1] 2 rfl rfl (by decide) (by decide)
  · have hi' : i = 0 ∨ i = 1 ∨ i = 2 ∨ i = 3 ∨ i = 4 := by simp only [pmCount] at hi; omega
    rcases hi' with rfl | rfl | rfl | rfl | rfl
    · exact fin (pmN 3 2) 3 rfl rfl (by decide) (by decide)
    · exact fin (pmN 3 3) 3 rfl rfl (by decide) (by decide)
    · exact fin (pmN 3 4) 3 rfl rfl (by decide) (by decide)
    · exact fin (pmN 3 5) 3 rfl rfl (by decide) (by decide)
    · exact fin (pmN 3 6) 3 rfl rfl (by decide) (by decide)
theorem stopIt {T : String} {it pool : Addr} {fs items : List Value} {R : Fin → Shared → Prop} {Q : Option Value → Shared → Prop} (hh : A.handled = none) (hit : IsIt T s.heap it pool fs items) (hk : 1 < fs.length) (h : ∀ h', Heap.ExtBut it s.heap h' → Q none { s with heap := h' }) :
    wpAny (model prog w) A.in1 (do setField (.ref it) 1 (rawInt 2); Builtin.Itertools.itStop) R (fun e s' => wpAny (model prog w) A (do let b ← isInstance e (.type "StopIteration"); if b = true then pure none else throw e) Q E s') s := by
  refine wpAny_bind (wpAny_setField hit.1 rfl (by simpa using hk) ?_)
  unfold Builtin.Itertools.itStop
  refine wpAny_bind ?_
  simp only [newExc, newTuple]
  refine wpAny_bind (wpAny_newObj_type ?_ (by first | size_fits | trivial))
  refine wpAny_bind (m := firstArgMember _ _) (wpAny_of_eq (a := Value.none) (by first | rfl | (simp only [firstArgMember]; rfl)) ?_)
  refine wpAny_newObj_type ?_ (by size_fits)
  simp only [raiseNew]
  refine wpAny_bind (wpAny_handled ?_)
  rw [show A.in1.handled = none from hh]
  refine wpAny_bind (wpAny_pure (wpAny_throw ?_))
  refine wpAny_bind (wpAny_isInstance (T := "StopIteration") (b := true) ⟨_, Heap.get?_push_size _ rfl, rfl⟩ isSubtype_stop ?_)
  rw [if_pos rfl]
  refine wpAny_pure (h _ ?_)
  refine ((?_ : Heap.ExtBut it s.heap _).push _).push _
  exact fun b ob hb e => (Heap.get?_update_other _ _ (Ne.symm hb)).trans e
theorem pm_end {it pool : Addr} {n : Nat} {prev : Value} {items : List Value} {Q : Option Value → Shared → Prop} (hh : A.handled = none) (hit : IsIt "itertools.permutations" s.heap it pool (pmF pool n (pmCount n) prev) items) (hl : items.length = n) (hn : n = 2 ∨ n = 3)
    (h : ∀ h', Heap.ExtBut it s.heap h' → Q none { s with heap := h' }) : wpAny (model prog w) A (pyNext (.ref it)) Q E s := by
  obtain ⟨h1, h2, h3⟩ := id hit
  have hT : s.TypeIs (.ref it) "itertools.permutations" := ⟨_, h1, rfl⟩
  unfold pyNext
  refine wpAny_bind (wpAny_attempt (wpAny_callSpecial?_slot (name := Str.ofString "__next__") hT next_pm (wpAny_call_entry next_pm hT en_next_pm ?_ (ar_next_pm _))))
  have hs : items.toArray.size = n := by simpa using hl
  unfold Builtin.«itertools.permutations.__next__»
  refine wpAny_bind (wpAny_of_eq (a := (Value.ref it, [])) rfl ?_)
  try dsimp only
  refine wpAny_bind (wpAny_field h1 rfl (x := .ref pool) rfl ?_)
  unfold Builtin.Itertools.itPoolItems
  refine wpAny_bind (wpAny_bind (wpAny_seqItems h2 rfl ?_))
  refine wpAny_pure ?_
  try dsimp only
  unfold Builtin.Itertools.itIntField
  refine wpAny_bind (wpAny_bind (wpAny_field h1 rfl (x := rawInt n) rfl (wpAny_pure ?_)))
  unfold Builtin.Itertools.itNumbersFrom
  refine wpAny_bind ?_
  show wpAny _ _ (load it >>= _) _ _ _
  refine wpAny_bind (wpAny_load h1 ?_)
  refine wpAny_pure ?_
  refine wpAny_bind (wpAny_bind (wpAny_field h1 rfl (x := rawInt 1) (by rcases hn with rfl | rfl <;> rfl) (wpAny_pure ?_)))
  try dsimp only
  rw [hs]
  have sh : wpAny (model prog w) A.in1 (do setField (.ref it) 1 (rawInt 2); Builtin.Itertools.itStop) (fun fin s' => ∃ v, fin = Fin.done (Flow.ret v) ∧ wpAny (model prog w) A (pure (some v)) Q E s')
      (fun e s' => wpAny (model prog w) A (do let b ← isInstance e (.type "StopIteration"); if b = true then pure none else throw e) Q E s') s := stopIt hh hit (by simp [pmF]) h
  rcases hn with rfl | rfl
  · exact sh
  · exact sh
end
end Zi
set_option Elab.async false
set_option linter.all false
set_option maxRecDepth 100000
set_option maxHeartbeats 2000000
/-! ZC: such iterators, collected and walked, over the hand layer. -/
namespace Zi
open PySem PySem.Spec PyProof.Rows L2 Zl
def rowV (l : List Nat) : List V := l.map fun (j : Nat) => V.int j
def rowD (l : List Nat) : D := .tup (l.map fun (j : Nat) => D.int j)
structure Comb (P : Program) (w : World) (T : String) (it pool : Addr) (items : List Value) (n cnt : Nat) (fs : Nat → Value → List Value) (rw : Nat → List Nat) : Prop where
  next : ∀ (A : Around) (E : Value → Shared → Prop) (s : Shared) (i : Nat) (prev : Value) (Q : Option Value → Shared → Prop), i < cnt → IsIt T s.heap it pool (fs i prev) items →
    (∀ h', Turned T s it pool (fs (i + 1) (.ref s.heap.objs.size)) items ((rw i).map fun j => items.toArray.getD j .none) h' → Q (some (.ref s.heap.objs.size)) { s with heap := h' }) → wpAny (model P w) A (pyNext (.ref it)) Q E s
  done : ∀ (A : Around) (E : Value → Shared → Prop) (s : Shared) (prev : Value) (Q : Option Value → Shared → Prop), A.handled = none → IsIt T s.heap it pool (fs cnt prev) items →
    (∀ h', Heap.ExtBut it s.heap h' → Q none { s with heap := h' }) → wpAny (model P w) A (pyNext (.ref it)) Q E s
  self : ∀ (A : Around) (E : Value → Shared → Prop) (s : Shared) (i : Nat) (prev : Value) (Q : Value → Shared → Prop), IsIt T s.heap it pool (fs i prev) items → Q (.ref it) s → wpAny (model P w) A (pyIter (.ref it)) Q E s
  nolen : typeLookup (.type T) "__len__" = pure none
  nohint : typeLookup (.type T) "__length_hint__" = pure none
  noseq : (Value.type T == Value.type "list") = false ∧ (Value.type T == Value.type "tuple") = false
  noown : ["enumerate", "zip", "dict_itemiterator", "dict_reverseitemiterator", "odict_iterator", "itertools.zip_longest", "itertools.pairwise"].contains T = false
  int : ItemsOf (fun i v => ∃ t, v = .int (0 + i * 1) t) items.toArray n
  in_ : ∀ i j, i < cnt → j ∈ rw i → j < n
  few : cnt ≤ 100
  short : ∀ i, i < cnt → (rw i).length ≤ 64
theorem row_vals {items : List Value} {n : Nat} (hI : ItemsOf (fun i v => ∃ t, v = .int (0 + i * 1) t) items.toArray n) : ∀ l : List Nat, (∀ j ∈ l, j < n) → Vals (rowV l) (l.map fun j => items.toArray.getD j .none)
  | [], _ => .nil
  | j :: l, h => by
    have hj : j < items.toArray.size := by rw [hI.1]; exact h j List.mem_cons_self
    obtain ⟨t, e⟩ := hI.2 j items.toArray[j] (Array.getElem?_eq_getElem hj)
    refine .cons ?_ (row_vals hI l fun k hk => h k (List.mem_cons_of_mem _ hk))
    show RelV (V.int j) (items.toArray.getD j .none)
    rw [Array.getD_eq_getD_getElem?, Array.getElem?_eq_getElem hj]
    exact ⟨t, by show items.toArray[j] = _; rw [e]; congr 1; omega⟩
theorem row_reps {K : PySem.W.Frag} {F : Ev} {m : List Addr} {H : Hp} : ∀ l : List Nat, Reps K F m H (rowV l) (l.map fun (j : Nat) => D.int j)
  | [] => .nil
  | j :: l => .cons (.int j) (row_reps l)
section
variable {X : Cx} {T : String} {it pool : Addr} {items : List Value} {n cnt : Nat} {fs : Nat → Value → List Value} {rw' : Nat → List Nat} {pins : List (Addr × Obj)} {σ : L2.St}
/-- one more row: the heap, the invariant -/
theorem Comb.step (C : Comb X.prog X.w T it pool items n cnt fs rw') {H : Hp} {s : Shared} {i : Nat} {prev : Value} (hi : i < cnt) (I : Inv X pins σ H s) (hit : IsIt T s.heap it pool (fs i prev) items) (hf : FpOk X pins H it) {A : Around} {E : Value → Shared → Prop} {Q : Option Value → Shared → Prop}
    (k : ∀ h' o, H s.heap.objs.size = none → o.dict = none → Inv X pins σ (upd H s.heap.objs.size (.frz o (.tup (rowV (rw' i))))) { s with heap := h' } → IsIt T h' it pool (fs (i + 1) (.ref s.heap.objs.size)) items → it < s.heap.objs.size →
      (∀ b o, b ≠ it → s.heap.get? b = some o → h'.get? b = some o) → Q (some (.ref s.heap.objs.size)) { s with heap := h' }) :
    wpAny (model X.prog X.w) A (pyNext (.ref it)) Q E s := by
  refine C.next A E s i prev Q hi hit fun h' tr => ?_
  obtain ⟨t1, t2, t3⟩ := tr
  have hn : H s.heap.objs.size = none := I.hok.fresh (Nat.le_refl _)
  refine k h' _ hn rfl (I.turnedNew (t' := s.toks) (ch := [it]) (fun b o hb e => t3 b o (fun z => hb (by simp [z])) e) (fun b hb => by
    have e : b = it := by simpa using hb
    rw [e]; exact hf) (Nat.le_refl _) ⟨t2, ?_, _, row_vals C.int _ (fun j hj => C.in_ i j hi hj), ⟨_, t2, rfl, _, rfl⟩⟩) t1 (Heap.lt_size hit.1) t3
  have q := C.short i hi
  show (rowV (rw' i)).length ≤ sizeLine
  unfold rowV
  rw [List.length_map, sizeLine_eq]
  omega
theorem Comb.loop (C : Comb X.prog X.w T it pool items n cnt fs rw') {F : Ev} {m : List Addr} {H : Hp} (dom : ∀ a ∈ m, H a ≠ none) {A : Around} (hh : A.handled = none) {S : Addr} {res : Value} (hS1 : S ≠ it) (hS2 : S ≠ pool) {R : Result → Shared → Prop} :
    ∀ (k i : Nat) (s : Shared) (acc : Array Value) (c : Nat) (Hi : Hp) (vs : List V) (prev : Value), cnt - i = k → i ≤ cnt → Inv X pins σ Hi s → IsIt T s.heap it pool (fs i prev) items → s.heap.get? S = some { cls := .type "list", dict := none, data := .seq acc c, slots := #[] } →
    FpOk X pins Hi it → FpOk X pins Hi S → Same H Hi → Vals vs acc.toList → Reps X.K F m Hi vs ((List.range i).map fun j => rowD (rw' j)) → acc.size = i →
    (∀ s' H' acc' c' vs', Inv X pins σ H' s' → s'.heap.get? S = some { cls := .type "list", dict := none, data := .seq acc' c', slots := #[] } → Same H H' → Vals vs' acc'.toList → Reps X.K F m H' vs' ((List.range cnt).map fun j => rowD (rw' j)) → acc'.size = cnt → R (.ok (.ret res)) s') →
    codeAny (model X.prog X.w) A (.builtin "list.extend.loop" ⟨[.ref S, .ref it, res], []⟩) R s := by
  intro k
  induction k with
  | zero =>
    intro i s acc c Hi vs prev hk hi I hit hS f1 f2 sm rv rr hsz hR
    have e : i = cnt := by omega
    subst e
    refine codeAny_builtin PySem.F.entry_extend_loop ?_
    rw [Around.under_plainId PySem.F.plain_extend_loop _]
    show wpAny _ A.in1 (pyNext (.ref it) >>= _) _ _ s
    refine wpAny_bind (C.done _ _ s prev _ hh hit fun h' ex => ?_)
    exact wpAny_pure (hR _ Hi acc c vs (I.turnedL (t' := s.toks) (ch := [it]) (fun b o hb e => ex b o (fun z => hb (by simp [z])) e) fun b hb => by
      have e : b = it := by simpa using hb
      rw [e]; exact f1) (ex S _ hS1 hS) sm rv rr hsz)
  | succ k ih =>
    intro i s acc c Hi vs prev hk hi I hit hS f1 f2 sm rv rr hsz hR
    have hlt : i < cnt := by omega
    refine codeAny_builtin PySem.F.entry_extend_loop ?_
    rw [Around.under_plainId PySem.F.plain_extend_loop _]
    show wpAny _ A.in1 (pyNext (.ref it) >>= _) _ _ s
    refine wpAny_bind (C.step hlt I hit f1 fun h' o hn hd I1 hit1 lt kp => ?_)
    have hS' : h'.get? S = some { cls := .type "list", dict := none, data := .seq acc c, slots := #[] } := kp S _ hS1 hS
    have hSl : S < s.heap.objs.size := Heap.lt_size hS
    have few := C.few
    have hz : sizeLine = 2 ^ 24 := by first | exact sizeLine_eq | rfl
    show wpAny _ A.in1 (updateSeq S (·.push (.ref s.heap.objs.size)) >>= _) _ _ _
    refine wpAny_bind (wpAny_updateSeq (s := { s with heap := h' }) hS' rfl ?_ (by rw [hsz, hz]; omega) (by show (acc.push _).size ≤ sizeLine + 1; rw [Array.size_push, hsz, hz]; omega))
    have up : ∀ b o, b ≠ S → h'.get? b = some o → (h'.update S (Obj.mapSeq (·.push (.ref s.heap.objs.size)))).get? b = some o := fun b o hb e => (Heap.get?_update_other _ _ (Ne.symm hb)).trans e
    have ne1 : it ≠ s.heap.objs.size := Nat.ne_of_lt lt
    have ne2 : S ≠ s.heap.objs.size := Nat.ne_of_lt hSl
    have g1 : FpOk X pins (upd Hi s.heap.objs.size (.frz o (.tup (rowV (rw' i))))) it := ⟨by rw [upd_ne ne1]; exact f1.1, f1.2⟩
    have g2 : FpOk X pins (upd Hi s.heap.objs.size (.frz o (.tup (rowV (rw' i))))) S := ⟨by rw [upd_ne ne2]; exact f2.1, f2.2⟩
    have I2 := I1.turnedL (t' := s.toks) (h' := h'.update S (Obj.mapSeq (·.push (.ref s.heap.objs.size)))) (ch := [S]) (fun b o hb e => up b o (fun z => hb (by simp [z])) e) fun b hb => by
      have e : b = S := by simpa using hb
      rw [e]; exact g2
    have sm2 : Same H (upd Hi s.heap.objs.size (.frz o (.tup (rowV (rw' i))))) := fun b u e => same_new hn b u (sm b u e)
    have nm : s.heap.objs.size ∉ m := fun q => by
      cases e : H s.heap.objs.size with
      | none => exact dom _ q e
      | some u => rw [sm _ u e] at hn; cases hn
    refine wpAny_pure ⟨plainId_quiet PySem.F.plain_extend_loop _, ih (i + 1) _ (acc.push (.ref s.heap.objs.size)) _ _ (vs ++ [.ref s.heap.objs.size]) _ (by omega) hlt I2 ⟨up _ _ (Ne.symm hS1) hit1.1, up _ _ (Ne.symm hS2) hit1.2.1, hit1.2.2⟩
      (Heap.get?_update_self _ hS' rfl) g1 g2 sm2 ?_ ?_ (by rw [Array.size_push, hsz]) hR⟩
    · rw [Array.toList_push]
      exact rv.append (.cons rfl .nil)
    · rw [List.range_succ, List.map_append]
      refine Reps.append (Reps.keep (fun a q => .inl q) (fun a u na e => same_new hn a u e) _ _ rr) (.cons (.tup nm (.new hd) (row_reps _)) .nil)
/-- list(it) inside tuple(it) -/
theorem Comb.collect (C : Comb X.prog X.w T it pool items n cnt fs rw') {F : Ev} {m : List Addr} {H : Hp} (dom : ∀ a ∈ m, H a ≠ none) {A : Around} (hh : A.handled = none) {s : Shared} {prev : Value} (I : Inv X pins σ H s) (hit : IsIt T s.heap it pool (fs 0 prev) items) (hf : FpOk X pins H it) {E : Value → Shared → Prop} {Q : List Value → Shared → Prop}
    (k : ∀ s' H' vs (acc : Array Value), Inv X pins σ H' s' → Same H H' → Vals vs acc.toList → Reps X.K F m H' vs ((List.range cnt).map fun j => rowD (rw' j)) → acc.size = cnt → Q acc.toList s') : wpAny (model X.prog X.w) A (PySem.collect (.ref it)) Q E s := by
  have lt1 : it < s.heap.objs.size := Heap.lt_size hit.1
  have lt2 : pool < s.heap.objs.size := Heap.lt_size hit.2.1
  have hSI : s.heap.objs.size ≠ it := Nat.ne_of_gt lt1
  have few := C.few
  unfold PySem.collect
  refine wpAny_bind (wpAny_runValue (codeAny_builtin PySem.F.entry_proto_collect ?_))
  rw [Around.under_plainId PySem.F.plain_proto_collect _]
  show wpAny _ A.in1 (newList [] >>= fun l => again (.builtin "list.__iadd__" ⟨[l, .ref it], []⟩)) _ _ s
  refine wpAny_bind (wpAny_newObj_type ?_)
  refine wpAny_pure ⟨plainId_quiet PySem.F.plain_list_iadd _, codeAny_builtin PySem.F.entry_list_iadd ?_⟩
  rw [Around.under_plainId PySem.F.plain_list_iadd _]
  show wpAny _ A.in1 (Builtin.List.listExtendWith (.ref s.heap.objs.size) (.ref it) (.ref s.heap.objs.size)) _ _ _
  unfold Builtin.List.listExtendWith
  have hp := hit.push (s := s) { cls := .type "list", data := .seq ([] : List Value).toArray }
  have hT : ({ s with heap := s.heap.push { cls := .type "list", data := .seq ([] : List Value).toArray } } : Shared).TypeIs (.ref it) T := ⟨_, hp.1, rfl⟩
  refine wpAny_bind (wpAny_typeOf hT ?_)
  have h1 : Builtin.List.listSameRef (.ref s.heap.objs.size) (.ref it) = false := by simp [Builtin.List.listSameRef, hSI]
  obtain ⟨h2, h3⟩ := C.noseq
  simp only [h1, h2, h3, Bool.or_false, Bool.false_eq_true, if_false]
  refine wpAny_bind (C.self _ _ { s with heap := _ } 0 prev _ hp ?_)
  refine wpAny_bind (wpAny_holding ?_)
  unfold Builtin.List.listLengthHint
  refine wpAny_bind (wpAny_specialOf hT C.nolen ?_)
  show wpAny _ A.in1 (specialOf (Value.ref it) (Str.ofString "__length_hint__") >>= _) _ _ _
  refine wpAny_bind (wpAny_specialOf hT C.nohint ?_)
  refine wpAny_pure ?_
  show wpAny _ A.in1 (rule "list.extend.makes-room" >>= fun _ => Builtin.List.listTouch (.ref s.heap.objs.size) >>= fun _ =>
    again (.builtin "list.extend.loop" ⟨[.ref s.heap.objs.size, .ref it, .ref s.heap.objs.size], []⟩)) _ _ _
  refine wpAny_bind (wpAny_rule ?_)
  have hS₁ : (s.heap.push { cls := .type "list", data := .seq ([] : List Value).toArray }).get? s.heap.objs.size = some { cls := .type "list", data := .seq ([] : List Value).toArray } := Heap.get?_push_size _ rfl
  refine wpAny_bind ?_
  show wpAny _ A.in1 (updateSeq s.heap.objs.size (·.push .none) >>= fun _ => updateSeq s.heap.objs.size (·.pop)) _ _ _
  refine wpAny_bind (wpAny_updateSeq hS₁ rfl ?_)
  have hS₂ := Heap.get?_update_self (Obj.mapSeq (·.push Value.none)) hS₁ rfl
  refine wpAny_updateSeq hS₂ rfl ?_
  have hS₃ := Heap.get?_update_self (Obj.mapSeq (·.pop)) hS₂ rfl
  have oth : ∀ b o, b ≠ s.heap.objs.size → s.heap.get? b = some o →
      (((s.heap.push { cls := .type "list", data := .seq ([] : List Value).toArray }).update s.heap.objs.size (Obj.mapSeq (·.push Value.none))).update s.heap.objs.size (Obj.mapSeq (·.pop))).get? b = some o :=
    fun b o hb e => (Heap.get?_update_other _ _ (Ne.symm hb)).trans ((Heap.get?_update_other _ _ (Ne.symm hb)).trans (Heap.get?_push_of_some _ e))
  have I1 : Inv X pins σ H { s with heap := (((s.heap.push { cls := .type "list", data := .seq ([] : List Value).toArray }).update s.heap.objs.size (Obj.mapSeq (·.push Value.none))).update s.heap.objs.size (Obj.mapSeq (·.pop))) } :=
    I.kept (t' := s.toks) fun b o e => oth b o (Nat.ne_of_lt (Heap.lt_size e)) e
  have fS : FpOk X pins H s.heap.objs.size := I.fpOk (Nat.le_refl _) (I.hok.fresh (Nat.le_refl _))
  refine wpAny_pure ⟨plainId_quiet PySem.F.plain_extend_loop _, C.loop (F := F) dom hh (Ne.symm (Nat.ne_of_lt lt1)) (Ne.symm (Nat.ne_of_lt lt2)) cnt 0 { s with heap := _ } _ _ H [] prev rfl (Nat.zero_le _) I1 ⟨oth _ _ (Nat.ne_of_lt lt1) hit.1, oth _ _ (Nat.ne_of_lt lt2) hit.2.1, hit.2.2⟩ hS₃ hf fS (Same.refl _) .nil .nil rfl
    fun s' H' acc' c' vs' I' hS' sm rv rr hsz => ?_⟩
  show wpAny _ A (load s.heap.objs.size >>= _) _ _ s'
  exact wpAny_bind (wpAny_load hS' (wpAny_pure (k s' H' vs' acc' I' sm rv rr hsz)))
theorem Comb.code_tup (C : Comb X.prog X.w T it pool items n cnt fs rw') {F : Ev} {m : List Addr} {H : Hp} (dom : ∀ a ∈ m, H a ≠ none) {A : Around} (hh : A.handled = none) {s : Shared} {prev : Value} (I : Inv X pins σ H s) (hit : IsIt T s.heap it pool (fs 0 prev) items) (hf : FpOk X pins H it) {E : Value → Shared → Prop} {Q : Value → Shared → Prop}
    (k : ∀ s' H' vs (acc : List Value), Inv X pins σ H' s' → Same H H' → Vals vs acc → Reps X.K F m H' vs ((List.range cnt).map fun j => rowD (rw' j)) → acc.length = cnt → Q (.ref s'.heap.objs.size) { s' with heap := s'.heap.push { cls := .type "tuple", data := .seq acc.toArray } }) :
    codeAny (model X.prog X.w) A (.call (.builtin "tuple.__new__") ⟨[.type "tuple", .ref it], []⟩) (wants Q E) s := by
  have few := C.few
  refine codeAny_of_tree ?_
  show wpAny _ A.in1 (do checkBuiltinCall "tuple.__new__" ⟨[.type "tuple", .ref it], []⟩; again (.builtin "tuple.__new__" ⟨[.type "tuple", .ref it], []⟩)) _ _ s
  refine wpAny_bind (wpAny_of_eq (PySem.F.newCall_tuple_1 _) (wpAny_pure ⟨plainId_quiet PySem.F.plain_tuple_new _, codeAny_builtin PySem.F.entry_tuple_new ?_⟩))
  rw [Around.under_plainId PySem.F.plain_tuple_new _]
  have hsub := sub_tuple_self
  have hinit := init_tuple_lookup
  have hmh := madeHere_tuple
  have hTI : s.TypeIs (.ref it) T := ⟨_, hit.1, rfl⟩
  obtain ⟨h2, h3⟩ := C.noseq
  wp_walk using wpAny_typeOf hTI, C.collect (A := A.in1) (F := F) dom hh I hit hf
  intro s' H' vs acc I' sm rv rr hsz
  show wpAny _ _ (Builtin.Tuple.tupleExact acc.toList.toArray >>= fun v => ret v) _ _ _
  unfold Builtin.Tuple.tupleExact
  refine wpAny_bind (wpAny_newObj_type ?_ (by show acc.toList.toArray.size ≤ sizeLine; simp only [Array.toArray_toList]; rw [hsz, sizeLine_eq]; omega))
  exact wpAny_pure (k s' H' vs acc.toList I' sm rv rr (by simpa using hsz))
theorem Comb.call_tup (C : Comb X.prog X.w T it pool items n cnt fs rw') {F : Ev} {m : List Addr} {H : Hp} (dom : ∀ a ∈ m, H a ≠ none) {A : Around} (hh : A.handled = none) {s : Shared} {prev : Value} (I : Inv X pins σ H s) (hit : IsIt T s.heap it pool (fs 0 prev) items) (hf : FpOk X pins H it) {E : Value → Shared → Prop} {Q : Value → Shared → Prop}
    (k : ∀ s' H' p o, Inv X pins σ (upd H' p o) s' → Same H H' → H' p = none → (∃ ob vs, o = .frz ob (.tup vs) ∧ ob.dict = none ∧ Reps X.K F m H' vs ((List.range cnt).map fun j => rowD (rw' j))) → Q (.ref p) s') :
    wpAny (model X.prog X.w) A (call (.type "tuple") [.ref it]) Q E s := by
  have few := C.few
  refine callType_codes (Q₁ := fun obj s₁ => s₁.TypeIs obj "tuple" ∧ Q obj s₁) PySem.F.called_tuple (PySem.F.typeCall_tuple_1 _) PySem.F.entry_object_init
    (C.code_tup (A := A.in1) (F := F) dom hh I hit hf fun s' H' vs acc I' sm rv rr hsz => ⟨⟨_, Heap.get?_push_size _ rfl, rfl⟩, ?_⟩) fun obj s₁ h₁ => ?_
  · refine k _ H' s'.heap.objs.size _ (layTup I' rv (by rw [rv.length, hsz, sizeLine_eq]; omega)) sm (I'.hok.fresh (Nat.le_refl _)) ⟨_, vs, rfl, rfl, rr⟩
  · exact ⟨h₁.1, PySem.F.args_object_init_2 obj _, object_init_meets PySem.F.called_tuple.init.lookup PySem.F.called_tuple.made (by decide) X.prog X.w A.in1 _ s₁ ⟨h₁.1, rfl, h₁.2⟩⟩
/-- .. and walked -/
def Itc (cnt : Nat) (rw' : Nat → List Nat) : It := ⟨fun i _ => i < cnt, fun i H x H' => ∃ p o, x = .ref p ∧ H p = none ∧ o.dict = none ∧ H' = upd H p (.frz o (.tup (rowV (rw' i)))), fun i _ => i = cnt⟩
theorem Comb.turn {P : Program} {w : World} {K : PySem.W.Frag} {tg : Expr} (C : Comb P w T it pool items n cnt fs rw') : Turn P w K tg (Itc cnt rw') [it, pool] it (fun i h => ∃ prev, IsIt T h it pool (fs i prev) items) where
  mem := by simp
  obj := fun i h st b hb => by
    obtain ⟨prev, h1, h2, h3⟩ := st
    have e : b = it ∨ b = pool := by simpa using hb
    rcases e with z | z
    · rw [z]; exact ⟨_, h1, fun v q => nomatch q⟩
    · rw [z]; exact ⟨_, h2, fun v q => nomatch q⟩
  keep := fun i h h' st k => by
    obtain ⟨prev, h1, h2, h3⟩ := st
    exact ⟨prev, k it (by simp) _ h1, k pool (by simp) _ h2, h3⟩
  item := by
    intro Y hP hw hK hc i pins s σ H E I hf st hg
    subst hP hw hK
    obtain ⟨prev, hit⟩ := st
    have hg : i < cnt := hg
    refine Comb.step (X := Y) C hg I hit (hf it (by simp)) fun h' o hn hd I1 hit1 lt kp => ?_
    refine ⟨_, rfl, go_of (s := { s with heap := h' }) hit1.1 rfl rfl C.noown ⟨.ref s.heap.objs.size, _, I1, rfl, ⟨_, o, rfl, hn, hd, rfl⟩, ⟨_, hit1⟩, fun b hb => ?_⟩⟩
    have e : b = it ∨ b = pool := by simpa using hb
    have q : b < s.heap.objs.size := by
      rcases e with z | z
      · rw [z]; exact lt
      · rw [z]; exact Heap.lt_size hit.2.1
    rw [upd_ne (Nat.ne_of_lt q)]
    exact (hf b hb).1
  done := by
    intro Y hP hw hK hc i pins s σ H E I hf st hg
    subst hP hw hK
    obtain ⟨prev, hit⟩ := st
    have hg : i = cnt := hg
    subst hg
    exact C.done _ _ s prev _ (I.ok.hd hc) hit fun h' ex => ⟨rfl, I.turnedL (t' := s.toks) (ch := [it]) (fun b o hb e => ex b o (fun z => hb (by simp [z])) e) fun b hb => by
      have e : b = it := by simpa using hb
      rw [e]; exact hf it (by simp)⟩
  self := fun A i s Q E st h => by
    obtain ⟨prev, hit⟩ := st
    exact C.self A E s i prev Q hit h
theorem walkC {K : PySem.W.Frag} {F : Ev} {m : List Addr} {H : Hp} : WalkD K F false m H (Itc cnt rw') ((List.range cnt).map fun j => rowD (rw' j)) := by
  refine ⟨fun _ => True, fun i H x H' => ∃ (p : Addr) (o : Obj), x = .ref p ∧ H p = none ∧ o.dict = none ∧ H' = upd H p (.frz o (.tup (rowV (rw' i)))), ⟨fun i H hi _ => by
    have hi : i < cnt := by simpa using hi
    exact hi, fun H _ => by simp [Itc], fun i H x H' _ _ y => y⟩, fun _ _ _ => trivial, fun i d x m' H1 H2 e l dom y => ?_⟩
  obtain ⟨p, o, rfl, hp, ho, rfl⟩ := y
  have e' : d = rowD (rw' i) := by
    rw [List.getElem?_map] at e
    cases q : (List.range cnt)[i]? with
    | none => rw [q] at e; cases e
    | some j =>
      rw [q] at e
      have hj : i = j := by
        have := List.getElem?_range (n := cnt) (i := i) (by have := (List.getElem?_eq_some_iff.mp q).1; simpa using this)
        rw [this] at q
        exact Option.some.inj q
      subst hj
      exact (Option.some.inj e).symm
  subst e'
  exact ⟨same_new hp, .inl (.tup (fun q => dom _ q hp) (.new ho) (row_reps _))⟩
end
/-! ### permutations(range(n)), n = 2, 3 -/
theorem pm_comb {P : Program} {w : World} {it pool : Addr} {items : List Value} {n : Nat} (hn : n = 2 ∨ n = 3) (hI : ItemsOf (fun i v => ∃ t, v = .int (0 + i * 1) t) items.toArray n) :
    Comb P w "itertools.permutations" it pool items n (pmCount n) (pmF pool n) (fun i => (pmN n (i + 1)).take n) := by
  have hl : items.length = n := by have := hI.1; simpa using this
  refine ⟨fun A E s i prev Q hi hit h => ?_, fun A E s prev Q hh hit h => pm_end hh hit hl hn h, fun A E s i prev Q hit h => ?_, nolen_pm, nohint_pm, by decide, by decide, hI, fun i j hi hj => ?_, ?_, fun i hi => ?_⟩
  · unfold pyNext
    refine wpAny_bind (wpAny_attempt ?_)
    cases i with
    | zero => exact pm_first (ns := pmN n 0) hit (row := (pmN n 0).take n |>.map fun i => items.toArray.getD i .none) rfl (by rw [List.length_map, List.length_take]; omega) fun h' tr => wpAny_pure (h h' (by rcases hn with rfl | rfl <;> exact tr))
    | succ i => exact pm_more hit hl hn hi fun h' tr => wpAny_pure (h h' tr)
  · have hT : s.TypeIs (.ref it) "itertools.permutations" := ⟨_, hit.1, rfl⟩
    refine wpAny_pyIter_slot hT iter_pm (wpAny_call_entry iter_pm hT en_iter_pm ?_ (ar_iter_pm _))
    show wpAny _ _ (ret (.ref it)) _ _ s
    exact wpAny_pure ⟨_, rfl, "itertools.permutations", _, hT, next_pm.lookup, h⟩
  · rcases hn with rfl | rfl
    · have z : ∀ i < 2, ∀ j ∈ (pmN 2 (i + 1)).take 2, j < 2 := by decide
      exact z i hi j hj
    · have z : ∀ i < 6, ∀ j ∈ (pmN 3 (i + 1)).take 3, j < 3 := by decide
      exact z i hi j hj
  · rcases hn with rfl | rfl <;> decide
  · rw [List.length_take]
    omega
end Zi
set_option Elab.async false
set_option linter.all false
set_option maxRecDepth 100000
set_option maxHeartbeats 2000000
/-! ZD: combinations(range(n), r), n = 2, 3. -/
namespace Zi
open PySem PySem.Spec PyProof.Rows L2 Zl
def cbCount : Nat → Nat → Nat
  | 2, 1 => 2
  | 2, 2 => 1
  | 3, 1 => 3
  | 3, 2 => 3
  | 3, 3 => 1
  | _, _ => 0
def cbN : Nat → Nat → Nat → List Nat
  | 2, 1, 0 => [0]
  | 2, 1, 1 => [0]
  | 2, 1, _ => [1]
  | 2, 2, 0 => [0, 1]
  | 2, 2, _ => [0, 1]
  | 3, 1, 0 => [0]
  | 3, 1, 1 => [0]
  | 3, 1, 2 => [1]
  | 3, 1, _ => [2]
  | 3, 2, 0 => [0, 1]
  | 3, 2, 1 => [0, 1]
  | 3, 2, 2 => [0, 2]
  | 3, 2, _ => [1, 2]
  | 3, 3, 0 => [0, 1, 2]
  | 3, 3, _ => [0, 1, 2]
  | _, _, _ => []
def cbF (pool : Addr) (n r i : Nat) (prev : Value) : List Value := [.ref pool, rawInt (pmSt i), prev] ++ (cbN n r i).map fun (i : Nat) => rawInt i
def cbOk (n r : Nat) : Prop := (n = 2 ∧ (r = 1 ∨ r = 2)) ∨ (n = 3 ∧ (r = 1 ∨ r = 2 ∨ r = 3))
section
variable {prog : Program} {w : World} {A : Around} {E : Value → Shared → Prop} {s : Shared}
theorem code_cb_new {a : Addr} {n r : Nat} {t u v t2 : Tok} {Q : Value → Shared → Prop} (hh : A.handled = none) (hr : IsRange s.heap a 0 n 1 t u v) (hn : n ≤ 64) (hrn : r ≤ n)
    (h : ∀ (h' : Heap) (tk : Nat) (acc : Array Value), (∀ b o, s.heap.get? b = some o → h'.get? b = some o) → ItemsOf (fun i v => ∃ t, v = .int (0 + i * 1) t) acc n →
      Q (.ref (h'.objs.size + 1)) { s with heap := comH h' "itertools.combinations" acc.toList ([rawInt 0, .none] ++ (List.range r).map fun (i : Nat) => rawInt i), toks := tk }) :
    codeAny (model prog w) A (.call (.builtin "itertools.combinations.__new__") ⟨[.type "itertools.combinations", .ref a, .int r t2], []⟩) (wants Q E) s := by
  refine codeAny_of_tree ?_
  show wpAny _ A.in1 (do checkBuiltinCall "itertools.combinations.__new__" ⟨[.type "itertools.combinations", .ref a, .int r t2], []⟩; again (.builtin "itertools.combinations.__new__" ⟨[.type "itertools.combinations", .ref a, .int r t2], []⟩)) _ _ s
  refine wpAny_bind (wpAny_of_eq (nw2_cb _ _) (wpAny_pure ⟨plainId_quiet plain_cb _, codeAny_builtin en_new_cb ?_⟩))
  rw [Around.under_plainId plain_cb _]
  have hd := nodict_cb
  have hh1 : A.in1.handled = none := hh
  unfold Builtin.«itertools.combinations.__new__»
  refine wpAny_bind ?_
  wp_delta
  refine wpAny_bind (wpAny_of_eq (a := (Value.type "itertools.combinations", [Value.ref a, .int r t2])) (by kernel_rfl) ?_)
  try dsimp only
  refine wpAny_bind (wpAny_of_eq (a := [some (Value.ref a), some (.int r t2)]) (by kernel_rfl) ?_)
  try dsimp only
  refine wpAny_bind (wpAny_of_eq (a := (r : Int)) ?_ ?_)
  · unfold Builtin.Itertools.itSsizeArg
    have e1 : asIndex (.int (r : Int) t2) = pure (r : Int) := by rfl
    rw [e1, pure_bind, if_neg]
    · have c1 : decide ((r : Int) < -(2 ^ 63 : Int)) = false := decide_eq_false (by omega)
      have c2 : decide ((r : Int) ≥ (2 ^ 63 : Int)) = false := decide_eq_false (by omega)
      rw [c1, c2]
      decide
  refine wpAny_bind (L2.collect_range hh1 hr (n := n) (small_one (by omega) (by omega) (by omega) (by omega)) (by have := rangeSize_nat 0 (n : Int); simpa using this) (by omega) fun h' tk acc hk hi => ?_)
  have el : acc.toList.length = n := by rw [Array.length_toList]; exact hi.1
  have es : acc.toList.toArray.size = n := by simpa using hi.1
  rw [if_neg (by omega)]
  rw [if_neg (by rw [few_no (by omega : r ≤ 64)]; decide)]
  simp only [newTuple]
  refine wpAny_bind (wpAny_newObj_type ?_ (by show acc.toList.toArray.size ≤ sizeLine; rw [es]; size_fits))
  refine wpAny_pure ?_
  refine wpAny_bind ?_
  unfold Builtin.Itertools.itNewRecord
  rw [hd]
  rw [if_pos (by decide)]
  refine wpAny_newObj_type ?_ (by
    show (List.toArray _).size ≤ sizeLine + 2
    rw [List.size_toArray]
    simp only [List.length_append, List.length_map, List.length_range, List.length_cons, List.length_nil, Int.toNat_natCast]
    rw [sizeLine_eq]
    omega)
  refine wpAny_pure ?_
  have e0 : (if ((r : Int)).toNat > acc.toList.length then (2 : Int) else 0) = 0 := if_neg (by rw [el]; omega)
  rw [e0, Int.toNat_natCast]
  have q := h h' tk acc hk hi
  have sz : (h'.push { cls := .type "tuple", data := .seq acc.toList.toArray }).objs.size = h'.objs.size + 1 := by simp [Heap.push]
  rw [← sz] at q
  exact q
theorem call_cb {a : Addr} {n r : Nat} {t u v t2 : Tok} {Q : Value → Shared → Prop} (hh : A.handled = none) (hr : IsRange s.heap a 0 n 1 t u v) (hn : n ≤ 64) (hrn : r ≤ n)
    (h : ∀ (h1 : Heap) (tk : Nat) (acc : Array Value), (∀ b o, s.heap.get? b = some o → h1.get? b = some o) → ItemsOf (fun i v => ∃ t, v = .int (0 + i * 1) t) acc n →
      Q (.ref (h1.objs.size + 1)) { s with heap := comH h1 "itertools.combinations" acc.toList ([rawInt 0, .none] ++ (List.range r).map fun (i : Nat) => rawInt i), toks := tk }) :
    wpAny (model prog w) A (call (.type "itertools.combinations") [.ref a, .int r t2]) Q E s := by
  refine callType_codes (Q₁ := fun obj s₁ => s₁.TypeIs obj "itertools.combinations" ∧ Q obj s₁) called_cb (ty2_cb _ _) PySem.F.entry_object_init
    (code_cb_new (A := A.in1) hh hr hn hrn fun h' tk acc hk hacc => ?_) fun obj s₁ h₁ => ?_
  · exact ⟨⟨_, (comH_it (T := "itertools.combinations") (xs := acc.toList) (fs := [rawInt 0, .none] ++ (List.range r).map fun (i : Nat) => rawInt i)).1, rfl⟩, h h' tk acc hk hacc⟩
  · exact ⟨h₁.1, PySem.F.args_object_init_3 obj _ _, object_init_meets called_cb.init.lookup called_cb.made (by decide) prog w A.in1 _ s₁ ⟨h₁.1, rfl, h₁.2⟩⟩
theorem handK {T : String} {it pool : Addr} {k : Nat} {fs items row : List Value} {R : Fin → Shared → Prop} (hit : IsIt T s.heap it pool fs items) (hk : k < fs.length) (hz : row.length ≤ 64)
    (h : ∀ h', Turned T s it pool (fs.set k (.ref s.heap.objs.size)) items row h' → R (.done (.ret (.ref s.heap.objs.size))) { s with heap := h' }) :
    wpAny (model prog w) A (newTuple row) (fun t s' => wpAny (model prog w) A (do let before ← field (.ref it) k; setField (.ref it) k t; letGo [before] [t]; ret t) R E s') E s := by
  simp only [newTuple]
  refine wpAny_newObj_type ?_ (by show (List.toArray _).size ≤ sizeLine; rw [List.size_toArray, sizeLine_eq]; omega)
  have hp := hit.push { cls := .type "tuple", data := .seq row.toArray }
  have hk' : k < fs.toArray.size := by simpa using hk
  refine wpAny_bind (wpAny_field (s := { s with heap := s.heap.push { cls := .type "tuple", data := .seq row.toArray } }) hp.1 rfl (x := fs[k]) (by simp [hk]) ?_)
  refine wpAny_bind (wpAny_setField (s := { s with heap := s.heap.push { cls := .type "tuple", data := .seq row.toArray } }) hp.1 rfl hk' ?_)
  refine wpAny_bind (wpAny_letGo ?_)
  have ne : it ≠ s.heap.objs.size := Nat.ne_of_lt (Heap.lt_size hit.1)
  refine wpAny_pure (h _ ⟨IsIt.fld (s := { s with heap := s.heap.push { cls := .type "tuple", data := .seq row.toArray } }) hp (set_arr _ _ _), ?_, fun b o hb e => ?_⟩)
  · exact (Heap.get?_update_other _ _ ne).trans (Heap.get?_push_size _ rfl)
  · exact (Heap.get?_update_other _ _ (Ne.symm hb)).trans (Heap.get?_push_of_some _ e)
theorem handC {T : String} {it pool : Addr} {k : Nat} {fs items : List Value} {ns : List Nat} {R : Fin → Shared → Prop} (hit : IsIt T s.heap it pool fs items) (hk : k < fs.length) (hz : ns.length ≤ 64)
    (h : ∀ h', Turned T s it pool (fs.set k (.ref s.heap.objs.size)) items (ns.map fun i => items.toArray.getD i .none) h' → R (.done (.ret (.ref s.heap.objs.size))) { s with heap := h' }) :
    wpAny (model prog w) A (do
      let t ← (do let xs ← Builtin.Itertools.itPoolItems (.ref pool); newTuple (ns.map fun i => xs.getD i .none))
      let before ← field (.ref it) k; setField (.ref it) k t; letGo [before] [t]; ret t) R E s := by
  refine wpAny_bind (wpAny_bind (wpAny_bind (wpAny_seqItems hit.2.1 rfl (wpAny_pure ?_))))
  exact handK hit hk (by rw [List.length_map]; exact hz) h
theorem cb_first {it pool : Addr} {prev : Value} {ns : List Nat} {items : List Value} {Q : Option Value → Shared → Prop} (hit : IsIt "itertools.combinations" s.heap it pool ([.ref pool, rawInt 0, prev] ++ ns.map fun (i : Nat) => rawInt i) items)
    (hz : ns.length ≤ 64)
    (h : ∀ h', Turned "itertools.combinations" s it pool ([.ref pool, rawInt 1, .ref s.heap.objs.size] ++ ns.map fun (i : Nat) => rawInt i) items (ns.map fun i => items.toArray.getD i .none) h' → Q (some (.ref s.heap.objs.size)) { s with heap := h' }) :
    wpAny (model prog w) A (callSpecial? (.ref it) "__next__") Q E s := by
  obtain ⟨h1, h2, h3⟩ := id hit
  have hT : s.TypeIs (.ref it) "itertools.combinations" := ⟨_, h1, rfl⟩
  refine wpAny_callSpecial?_slot (name := Str.ofString "__next__") hT next_cb (wpAny_call_entry next_cb hT en_next_cb ?_ (ar_next_cb _))
  unfold Builtin.«itertools.combinations.__next__»
  wp_delta
  refine wpAny_bind (wpAny_of_eq (a := (Value.ref it, [])) rfl ?_)
  try dsimp only
  refine wpAny_bind (wpAny_field h1 rfl (x := .ref pool) rfl ?_)
  unfold Builtin.Itertools.itNumbersFrom
  refine wpAny_bind ?_
  show wpAny _ _ (load it >>= _) _ _ _
  refine wpAny_bind (wpAny_load h1 ?_)
  refine wpAny_pure ?_
  unfold Builtin.Itertools.itIntField
  refine wpAny_bind (wpAny_bind (wpAny_field h1 rfl (x := rawInt 0) rfl (wpAny_pure ?_)))
  have en := nums [.ref pool, rawInt 0, prev] ns 3 rfl
  show wpAny _ _ (setField (.ref it) 1 (rawInt 1) >>= _) _ _ _
  refine wpAny_bind (wpAny_setField h1 rfl (by simp) ?_)
  have hit2 := hit.fld (g := (·.setIfInBounds 1 (rawInt 1))) (set_arr _ _ _)
  try dsimp only
  rw [en _ fun _ _ => rfl]
  refine handC (s := { s with heap := _ }) hit2 (k := 2) (by simp) hz fun h' tr => ⟨_, rfl, ?_⟩
  have sz : (s.heap.update it (Obj.mapFields fun x => x.setIfInBounds 1 (rawInt 1))).objs.size = s.heap.objs.size := Heap.size_update ..
  have q := h h' (by
    have tr := tr.back
    rw [sz] at tr
    exact tr)
  rw [← sz] at q
  exact q
theorem cb_more {it pool : Addr} {n r i : Nat} {prev : Value} {items : List Value} {Q : Option Value → Shared → Prop} (hit : IsIt "itertools.combinations" s.heap it pool (cbF pool n r (i + 1) prev) items) (hl : items.length = n)
    (hn : cbOk n r) (hi : i + 1 < cbCount n r)
    (h : ∀ h', Turned "itertools.combinations" s it pool (cbF pool n r (i + 2) (.ref s.heap.objs.size)) items ((cbN n r (i + 2)).map fun j => items.toArray.getD j .none) h' → Q (some (.ref s.heap.objs.size)) { s with heap := h' }) :
    wpAny (model prog w) A (callSpecial? (.ref it) "__next__") Q E s := by
  obtain ⟨h1, h2, h3⟩ := id hit
  have hT : s.TypeIs (.ref it) "itertools.combinations" := ⟨_, h1, rfl⟩
  refine wpAny_callSpecial?_slot (name := Str.ofString "__next__") hT next_cb (wpAny_call_entry next_cb hT en_next_cb ?_ (ar_next_cb _))
  unfold Builtin.«itertools.combinations.__next__»
  wp_delta
  refine wpAny_bind (wpAny_of_eq (a := (Value.ref it, [])) rfl ?_)
  try dsimp only
  refine wpAny_bind (wpAny_field h1 rfl (x := .ref pool) rfl ?_)
  unfold Builtin.Itertools.itNumbersFrom
  refine wpAny_bind ?_
  show wpAny _ _ (load it >>= _) _ _ _
  refine wpAny_bind (wpAny_load h1 ?_)
  refine wpAny_pure ?_
  unfold Builtin.Itertools.itIntField
  refine wpAny_bind (wpAny_bind (wpAny_field h1 rfl (x := rawInt 1) rfl (wpAny_pure ?_)))
  have fin : ∀ (ns' : List Nat), cbN n r (i + 2) = ns' → ns'.length ≤ 64 → wpAny (model prog w) A.in1 (do
      Builtin.Itertools.itSetNumbersFrom (.ref it) 3 ns'
      let t ← (do let xs ← Builtin.Itertools.itPoolItems (.ref pool); newTuple (ns'.map fun i => xs.getD i .none))
      let before ← field (.ref it) 2; setField (.ref it) 2 t; letGo [before] [t]; ret t) (fun fin s' => ∃ v, fin = Fin.done (Flow.ret v) ∧ Q (some v) s') E s := by
    intro ns' ef hl
    unfold Builtin.Itertools.itSetNumbersFrom
    refine wpAny_bind ?_
    show wpAny _ _ (updateFields it _) _ _ _
    have hz : (((cbF pool n r (i + 1) prev).toArray.extract 0 3) ++ (ns'.map fun (n : Nat) => rawInt n).toArray) = ([.ref pool, rawInt 1, prev] ++ (ns'.map fun (i : Nat) => rawInt i)).toArray := by
      unfold cbF pmSt
      simp
    have hit2 : IsIt "itertools.combinations" _ it pool ([.ref pool, rawInt 1, prev] ++ (ns'.map fun (i : Nat) => rawInt i)) items := hit.fld (g := fun fs => fs.extract 0 3 ++ (ns'.map fun (n : Nat) => rawInt n).toArray) hz
    refine wpAny_updateFields h1 rfl ?_ ?_
    · refine handC (s := { s with heap := _ }) hit2 (k := 2) (by simp) hl fun h' tr => ⟨_, rfl, ?_⟩
      have sz : (s.heap.update it (Obj.mapFields fun fs => fs.extract 0 3 ++ (ns'.map fun (n : Nat) => rawInt n).toArray)).objs.size = s.heap.objs.size := Heap.size_update ..
      have q := h h' (by
        have tr := tr.back
        rw [sz] at tr
        unfold cbF
        rw [ef]
        exact tr)
      rw [← sz] at q
      exact q
    · rw [hz]
      show (List.toArray _).size ≤ sizeLine + 3
      rw [List.size_toArray, List.length_append, List.length_map, sizeLine_eq]
      simp only [List.length_cons, List.length_nil]
      omega
  have hs : items.toArray.size = n := by simpa using hl
  unfold Builtin.Itertools.itPoolItems
  show wpAny _ _ ((seqItems? (.ref pool) >>= _) >>= _) _ _ _
  refine wpAny_bind (wpAny_bind (wpAny_seqItems h2 rfl (wpAny_pure ?_)))
  try dsimp only
  rw [hs]
  rcases hn with ⟨rfl, rfl | rfl⟩ | ⟨rfl, rfl | rfl | rfl⟩
  · have hi' : i = 0 := by simp only [cbCount] at hi; omega
    subst hi'
    exact fin (cbN 2 1 2) rfl (by decide)
  · simp only [cbCount] at hi; omega
  · have hi' : i = 0 ∨ i = 1 := by simp only [cbCount] at hi; omega
    rcases hi' with rfl | rfl
    · exact fin (cbN 3 1 2) rfl (by decide)
    · exact fin (cbN 3 1 3) rfl (by decide)
  · have hi' : i = 0 ∨ i = 1 := by simp only [cbCount] at hi; omega
    rcases hi' with rfl | rfl
    · exact fin (cbN 3 2 2) rfl (by decide)
    · exact fin (cbN 3 2 3) rfl (by decide)
  · simp only [cbCount] at hi; omega
theorem cb_end {it pool : Addr} {n r : Nat} {prev : Value} {items : List Value} {Q : Option Value → Shared → Prop} (hh : A.handled = none) (hit : IsIt "itertools.combinations" s.heap it pool (cbF pool n r (cbCount n r) prev) items) (hl : items.length = n) (hn : cbOk n r)
    (h : ∀ h', Heap.ExtBut it s.heap h' → Q none { s with heap := h' }) : wpAny (model prog w) A (pyNext (.ref it)) Q E s := by
  obtain ⟨h1, h2, h3⟩ := id hit
  have hT : s.TypeIs (.ref it) "itertools.combinations" := ⟨_, h1, rfl⟩
  unfold pyNext
  refine wpAny_bind (wpAny_attempt (wpAny_callSpecial?_slot (name := Str.ofString "__next__") hT next_cb (wpAny_call_entry next_cb hT en_next_cb ?_ (ar_next_cb _))))
  have hs : items.toArray.size = n := by simpa using hl
  unfold Builtin.«itertools.combinations.__next__»
  wp_delta
  refine wpAny_bind (wpAny_of_eq (a := (Value.ref it, [])) rfl ?_)
  try dsimp only
  refine wpAny_bind (wpAny_field h1 rfl (x := .ref pool) rfl ?_)
  unfold Builtin.Itertools.itNumbersFrom
  refine wpAny_bind ?_
  show wpAny _ _ (load it >>= _) _ _ _
  refine wpAny_bind (wpAny_load h1 ?_)
  refine wpAny_pure ?_
  unfold Builtin.Itertools.itIntField
  refine wpAny_bind (wpAny_bind (wpAny_field h1 rfl (x := rawInt 1) (by rcases hn with ⟨rfl, rfl | rfl⟩ | ⟨rfl, rfl | rfl | rfl⟩ <;> rfl) (wpAny_pure ?_)))
  unfold Builtin.Itertools.itPoolItems
  show wpAny _ _ ((seqItems? (.ref pool) >>= _) >>= _) _ _ _
  refine wpAny_bind (wpAny_bind (wpAny_seqItems h2 rfl (wpAny_pure ?_)))
  try dsimp only
  rw [hs]
  have sh : wpAny (model prog w) A.in1 (do setField (.ref it) 1 (rawInt 2); Builtin.Itertools.itStop) (fun fin s' => ∃ v, fin = Fin.done (Flow.ret v) ∧ wpAny (model prog w) A (pure (some v)) Q E s')
      (fun e s' => wpAny (model prog w) A (do let b ← isInstance e (.type "StopIteration"); if b = true then pure none else throw e) Q E s') s := stopIt hh hit (by simp [cbF]) h
  rcases hn with ⟨rfl, rfl | rfl⟩ | ⟨rfl, rfl | rfl | rfl⟩
  · exact sh
  · exact sh
  · exact sh
  · exact sh
  · exact sh
end
theorem cb_comb {P : Program} {w : World} {it pool : Addr} {items : List Value} {n r : Nat} (hn : cbOk n r) (hI : ItemsOf (fun i v => ∃ t, v = .int (0 + i * 1) t) items.toArray n) :
    Comb P w "itertools.combinations" it pool items n (cbCount n r) (cbF pool n r) (fun i => cbN n r (i + 1)) := by
  have hl : items.length = n := by have := hI.1; simpa using this
  refine ⟨fun A E s i prev Q hi hit h => ?_, fun A E s prev Q hh hit h => cb_end hh hit hl hn h, fun A E s i prev Q hit h => ?_, nolen_cb, nohint_cb, by decide, by decide, hI, fun i j hi hj => ?_, ?_, fun i hi => ?_⟩
  · unfold pyNext
    refine wpAny_bind (wpAny_attempt ?_)
    cases i with
    | zero => exact cb_first (ns := cbN n r 0) hit (by rcases hn with ⟨rfl, rfl | rfl⟩ | ⟨rfl, rfl | rfl | rfl⟩ <;> decide) fun h' tr => wpAny_pure (h h' (by rcases hn with ⟨rfl, rfl | rfl⟩ | ⟨rfl, rfl | rfl | rfl⟩ <;> exact tr))
    | succ i => exact cb_more hit hl hn hi fun h' tr => wpAny_pure (h h' tr)
  · have hT : s.TypeIs (.ref it) "itertools.combinations" := ⟨_, hit.1, rfl⟩
    refine wpAny_pyIter_slot hT iter_cb (wpAny_call_entry iter_cb hT en_iter_cb ?_ (ar_iter_cb _))
    show wpAny _ _ (ret (.ref it)) _ _ s
    exact wpAny_pure ⟨_, rfl, "itertools.combinations", _, hT, next_cb.lookup, h⟩
  · rcases hn with ⟨rfl, rfl | rfl⟩ | ⟨rfl, rfl | rfl | rfl⟩
    · have z : ∀ i < 2, ∀ j ∈ cbN 2 1 (i + 1), j < 2 := by decide
      exact z i hi j hj
    · have z : ∀ i < 1, ∀ j ∈ cbN 2 2 (i + 1), j < 2 := by decide
      exact z i hi j hj
    · have z : ∀ i < 3, ∀ j ∈ cbN 3 1 (i + 1), j < 3 := by decide
      exact z i hi j hj
    · have z : ∀ i < 3, ∀ j ∈ cbN 3 2 (i + 1), j < 3 := by decide
      exact z i hi j hj
    · have z : ∀ i < 1, ∀ j ∈ cbN 3 3 (i + 1), j < 3 := by decide
      exact z i hi j hj
  · rcases hn with ⟨rfl, rfl | rfl⟩ | ⟨rfl, rfl | rfl | rfl⟩ <;> decide
  · rcases hn with ⟨rfl, rfl | rfl⟩ | ⟨rfl, rfl | rfl | rfl⟩
    · have z : ∀ i < 2, (cbN 2 1 (i + 1)).length ≤ 64 := by decide
      exact z i hi
    · have z : ∀ i < 1, (cbN 2 2 (i + 1)).length ≤ 64 := by decide
      exact z i hi
    · have z : ∀ i < 3, (cbN 3 1 (i + 1)).length ≤ 64 := by decide
      exact z i hi
    · have z : ∀ i < 3, (cbN 3 2 (i + 1)).length ≤ 64 := by decide
      exact z i hi
    · have z : ∀ i < 1, (cbN 3 3 (i + 1)).length ≤ 64 := by decide
      exact z i hi
end Zi
set_option Elab.async false
set_option linter.all false
set_option maxRecDepth 100000
set_option maxHeartbeats 2000000
/-! ZE: tuple(permutations(range(n))), for .. in combinations(range(n), r). -/
namespace Zl
open PySem L2 PySem.Spec PyProof.Rows Zi
def permD : D → T D
  | .int (.ofNat 2) => .ret (.tup [.tup [.int 0, .int 1], .tup [.int 1, .int 0]])
  | .int (.ofNat 3) => .ret (.tup [.tup [.int 0, .int 1, .int 2], .tup [.int 0, .int 2, .int 1], .tup [.int 1, .int 0, .int 2], .tup [.int 1, .int 2, .int 0], .tup [.int 2, .int 0, .int 1], .tup [.int 2, .int 1, .int 0]])
  | _ => .fail
theorem all_permD {d : D} {P : D → Prop} (h : (permD d).all P) : ∃ n : Nat, (n = 2 ∨ n = 3) ∧ d = .int n ∧ P (.tup ((List.range (pmCount n)).map fun j => rowD ((pmN n (j + 1)).take n))) := by
  unfold permD at h
  split at h
  · exact ⟨2, .inl rfl, rfl, h⟩
  · exact ⟨3, .inr rfl, rfl, h⟩
  · exact h.elim
def tPerm (te : TE) (F : Ev) (K : PySem.W.Frag) : TE := fun σ H Q => te σ H fun x H1 => ∃ n : Nat, (n = 2 ∨ n = 3) ∧ x = .int n ∧ ∃ m, (∀ a ∈ m, H1 a ≠ none) ∧
  ∀ H' p o, Same H1 H' → H' p = none → (∃ ob vs, o = .frz ob (.tup vs) ∧ ob.dict = none ∧ Reps K F m H' vs ((List.range (pmCount n)).map fun j => rowD ((pmN n (j + 1)).take n))) → Q (.ref p) (upd H' p o)
section
variable {X : Cx} {F : Ev}
theorem pe_perm {e : Expr} {te : TE} {p p2 p3 pos pos2 pos3 : Pos} (hc : X.calm = true) (hg : Gl X "tuple") (hm : X.mg "tuple" = none) (hg2 : Gl X "permutations") (hm2 : X.mg "permutations" = some (.type "itertools.permutations")) (hg3 : Gl X "range") (hm3 : X.mg "range" = none) (he : PE X e te)
    (na : starEach [e] X.env = (false, eval e X.env) :: starEach [] X.env := by rfl) (nb : starEach [.Call (.Name "range" p3) [e] [] pos3] X.env = (false, eval (.Call (.Name "range" p3) [e] [] pos3) X.env) :: starEach [] X.env := by rfl)
    (nc : starEach [.Call (.Name "permutations" p2) [.Call (.Name "range" p3) [e] [] pos3] [] pos2] X.env = (false, eval (.Call (.Name "permutations" p2) [.Call (.Name "range" p3) [e] [] pos3] [] pos2) X.env) :: starEach [] X.env := by rfl) :
    PE X (.Call (.Name "tuple" p) [.Call (.Name "permutations" p2) [.Call (.Name "range" p3) [e] [] pos3] [] pos2] [] pos) (tPerm te F X.K) := by
  constructor
  intro pins s σ H Q I h
  refine Call_ (ld_blt I hg hm PyProof.Rows.boot_tuple (PyProof.Rows.callWith_type1 (args_cons ?_ nc) nc))
  refine wpAny_Call_Name_kw (ld_glob I hg2 hm2 (PyProof.Rows.callWith_type1 (args_cons ?_ nb) nb))
  refine Call_ (ld_blt I hg3 hm3 PyProof.Rows.boot_range (PyProof.Rows.callWith_type1 (one_arg he I h (fun v s2 x H2 I2 r q => ?_) na) na))
  obtain ⟨n, hn, rfl, m, dom, q⟩ := q
  obtain ⟨t, rfl⟩ := r
  refine call_range_1 (args_nil ?_)
  have I3 : Inv X pins σ H2 { s2 with heap := s2.heap.push { cls := .type "range", data := .fields #[.int 0 s2.toks, .int n t, .int 1 (s2.toks + 1)] }, toks := s2.toks + 1 + 1 } := I2.kept fun b u e => Heap.get?_push_of_some _ e
  refine call_pm (s := { s2 with heap := s2.heap.push _, toks := _ }) (n := n) (I3.ok.hd hc) (IsRange.new _ _ _ _ _ _ _) (by omega) fun h1 tk acc hk hi => args_nil ?_
  have I4 : Inv X pins σ H2 { s2 with heap := h1, toks := tk } := I3.kept (t' := tk) (h' := h1) hk
  have I5 : Inv X pins σ H2 { s2 with heap := comH h1 "itertools.permutations" acc.toList (pmF0 n), toks := tk } := I4.kept (t' := tk) fun b u e => comH_keep e
  have f1 : FpOk X pins H2 (h1.objs.size + 1) := I4.fpOk (Nat.le_succ _) (I4.hok.fresh (Nat.le_succ _))
  have C : Comb X.prog X.w "itertools.permutations" (h1.objs.size + 1) h1.objs.size acc.toList n (pmCount n) (pmF h1.objs.size n) (fun i => (pmN n (i + 1)).take n) := pm_comb hn (by simpa using hi)
  refine C.call_tup (F := F) (m := m) dom (prev := .none) (I5.ok.hd hc) I5 (by
    have q := comH_it (h1 := h1) (T := "itertools.permutations") (xs := acc.toList) (fs := pmF0 n)
    rcases hn with rfl | rfl <;> exact q) f1 fun s' H' p o I' sm hp w => ?_
  exact ⟨V.ref p, _, I', rfl, q H' p o sm hp w⟩
theorem zperm {e : Expr} {f : Ex} {p p2 p3 pos pos2 pos3 : Pos} (hc : X.calm = true) (hg : Gl X "tuple") (hm : X.mg "tuple" = none) (hg2 : Gl X "permutations") (hm2 : X.mg "permutations" = some (.type "itertools.permutations")) (hg3 : Gl X "range") (hm3 : X.mg "range" = none) (he : PE X e (tX X.K F f))
    (na : starEach [e] X.env = (false, eval e X.env) :: starEach [] X.env := by rfl) (nb : starEach [.Call (.Name "range" p3) [e] [] pos3] X.env = (false, eval (.Call (.Name "range" p3) [e] [] pos3) X.env) :: starEach [] X.env := by rfl)
    (nc : starEach [.Call (.Name "permutations" p2) [.Call (.Name "range" p3) [e] [] pos3] [] pos2] X.env = (false, eval (.Call (.Name "permutations" p2) [.Call (.Name "range" p3) [e] [] pos3] [] pos2) X.env) :: starEach [] X.env := by rfl) :
    PE X (.Call (.Name "tuple" p) [.Call (.Name "permutations" p2) [.Call (.Name "range" p3) [e] [] pos3] [] pos2] [] pos) (tX X.K F (e1 permD f)) :=
  PEimp (pe_perm (F := F) hc hg hm hg2 hm2 hg3 hm3 he na nb nc) fun σ H Q h => by
    obtain ⟨ρ, m0, m1, fr, hp, a, h⟩ := h
    refine tX_mk a (T.all_bind h) fun x hx H1 v k1 a1 rx => ?_
    obtain ⟨n, hn, rfl, k⟩ := all_permD hx
    cases rx
    refine ⟨n, hn, rfl, m0 ++ m1, a1.sim.dom, fun H' p o sm hp w => ?_⟩
    obtain ⟨ob, vs, rfl, hd, rr⟩ := w
    have a2 := a1.same sm
    obtain ⟨k3, a3⟩ := a2.upd (o := .frz ob (.tup vs)) hp
    exact k _ _ ((k1.trans (.of sm)).trans k3) a3.row (.tup (a2.sim.new hp) (.new hd) (rr.on a2.own k3))
/-! ### combinations -/
def combL : D → D → T (List D)
  | .int (.ofNat 2), .int (.ofNat 1) => .ret [.tup [.int 0], .tup [.int 1]]
  | .int (.ofNat 2), .int (.ofNat 2) => .ret [.tup [.int 0, .int 1]]
  | .int (.ofNat 3), .int (.ofNat 1) => .ret [.tup [.int 0], .tup [.int 1], .tup [.int 2]]
  | .int (.ofNat 3), .int (.ofNat 2) => .ret [.tup [.int 0, .int 1], .tup [.int 0, .int 2], .tup [.int 1, .int 2]]
  | .int (.ofNat 3), .int (.ofNat 3) => .ret [.tup [.int 0, .int 1, .int 2]]
  | _, _ => .fail
theorem all_combL {d e : D} {P : List D → Prop} (h : (combL d e).all P) : ∃ n r : Nat, cbOk n r ∧ d = .int n ∧ e = .int r ∧ P ((List.range (cbCount n r)).map fun j => rowD (cbN n r (j + 1))) := by
  unfold combL at h
  split at h
  · exact ⟨2, 1, .inl ⟨rfl, .inl rfl⟩, rfl, rfl, h⟩
  · exact ⟨2, 2, .inl ⟨rfl, .inr rfl⟩, rfl, rfl, h⟩
  · exact ⟨3, 1, .inr ⟨rfl, .inl rfl⟩, rfl, rfl, h⟩
  · exact ⟨3, 2, .inr ⟨rfl, .inr (.inl rfl)⟩, rfl, rfl, h⟩
  · exact ⟨3, 3, .inr ⟨rfl, .inr (.inr rfl)⟩, rfl, rfl, h⟩
  · exact h.elim
def iComb (ta tb : TE) : TI := fun σ H R => ta σ H fun x H1 => ∃ n : Nat, n ≤ 3 ∧ x = .int n ∧ tb σ H1 fun y H2 => ∃ r : Nat, cbOk n r ∧ y = .int r ∧ R (Itc (cbCount n r) fun i => cbN n r (i + 1)) H2
theorem pi_comb {tg a b : Expr} {ta tb : TE} {p2 p3 pos2 pos3 : Pos} (hc : X.calm = true) (hg2 : Gl X "combinations") (hm2 : X.mg "combinations" = some (.type "itertools.combinations")) (hg3 : Gl X "range") (hm3 : X.mg "range" = none) (ha : PE X a ta) (hb : PE X b tb)
    (na : starEach [a] X.env = (false, eval a X.env) :: starEach [] X.env := by rfl) (nb : starEach [.Call (.Name "range" p3) [a] [] pos3, b] X.env = (false, eval (.Call (.Name "range" p3) [a] [] pos3) X.env) :: starEach [b] X.env := by rfl)
    (nc : starEach [b] X.env = (false, eval b X.env) :: starEach [] X.env := by rfl) (hpl : (backTo pos2 (starEach [b] X.env)).any (·.1) = false := by rfl) :
    PI X tg (.Call (.Name "combinations" p2) [.Call (.Name "range" p3) [a] [] pos3, b] [] pos2) (iComb ta tb) := by
  refine ⟨fun pins s σ H R I h => ?_⟩
  refine wpAny_Call_Name_kw (ld_glob I hg2 hm2 (PyProof.Rows.callWith_type1 (args_cons ?_ nb) nb hpl))
  refine Call_ (ld_blt I hg3 hm3 PyProof.Rows.boot_range (PyProof.Rows.callWith_type1 (one_arg ha I h (fun v s2 x H2 I2 r q => ?_) na) na))
  obtain ⟨n, hn, rfl, q⟩ := q
  obtain ⟨t, rfl⟩ := r
  refine call_range_1 ?_
  have I3 : Inv X ((s2.heap.objs.size, { cls := .type "range", data := .fields #[.int 0 s2.toks, .int n t, .int 1 (s2.toks + 1)] }) :: pins) σ H2 { s2 with heap := s2.heap.push { cls := .type "range", data := .fields #[.int 0 s2.toks, .int n t, .int 1 (s2.toks + 1)] }, toks := s2.toks + 1 + 1 } :=
    ClX.pin_new (t' := s2.toks + 1 + 1) I2 (fun b u e => Heap.get?_push_of_some _ e) (Nat.le_refl _) (Heap.get?_push_size _ rfl) (fun v z => nomatch z)
  refine args_cons (thn (hb.run _ _ σ H2 _ I3 q) fun v s4 hh => ?_) nc
  obtain ⟨y, H4, I4, r4, q4⟩ := hh
  obtain ⟨r, hr, rfl, q4⟩ := q4
  obtain ⟨t2, rfl⟩ := r4
  refine args_nil ?_
  have hrn : r ≤ n := by rcases hr with ⟨rfl, rfl | rfl⟩ | ⟨rfl, rfl | rfl | rfl⟩ <;> omega
  refine call_cb (n := n) (I4.ok.hd hc) (ClX.pin_at I4) (by omega) hrn fun h1 tk acc hk hi => ?_
  have I5 : Inv X pins σ H4 { s4 with heap := h1, toks := tk } := (ClX.unpin I4).kept (t' := tk) (h' := h1) hk
  have I6 : Inv X pins σ H4 { s4 with heap := comH h1 "itertools.combinations" acc.toList ([rawInt 0, .none] ++ (List.range r).map fun (i : Nat) => rawInt i), toks := tk } := I5.kept (t' := tk) fun b u e => comH_keep e
  have f1 : FpOk X pins H4 (h1.objs.size + 1) := I5.fpOk (Nat.le_succ _) (I5.hok.fresh (Nat.le_succ _))
  have f2 : FpOk X pins H4 h1.objs.size := I5.fpOk (Nat.le_refl _) (I5.hok.fresh (Nat.le_refl _))
  have C : Comb X.prog X.w "itertools.combinations" (h1.objs.size + 1) h1.objs.size acc.toList n (cbCount n r) (cbF h1.objs.size n r) (fun i => cbN n r (i + 1)) := cb_comb hr (by simpa using hi)
  have hit : IsIt "itertools.combinations" (comH h1 "itertools.combinations" acc.toList ([rawInt 0, .none] ++ (List.range r).map fun (i : Nat) => rawInt i)) (h1.objs.size + 1) h1.objs.size (cbF h1.objs.size n r 0 .none) acc.toList := by
    have q := comH_it (h1 := h1) (T := "itertools.combinations") (xs := acc.toList) (fs := [rawInt 0, .none] ++ (List.range r).map fun (i : Nat) => rawInt i)
    rcases hr with ⟨rfl, rfl | rfl⟩ | ⟨rfl, rfl | rfl | rfl⟩ <;> exact q
  refine C.self _ _ { s4 with heap := _, toks := _ } 0 .none _ hit ?_
  refine ⟨h1.objs.size + 1, [h1.objs.size + 1, h1.objs.size], _, _, H4, rfl, I6, C.turn, ⟨_, hit⟩, fun b hb => ?_, q4⟩
  have e : b = h1.objs.size + 1 ∨ b = h1.objs.size := by simpa using hb
  rcases e with z | z
  · rw [z]; exact f1
  · rw [z]; exact f2
def n23 : D → T D
  | .int (.ofNat 2) => .ret (.int 2)
  | .int (.ofNat 3) => .ret (.int 3)
  | _ => .fail
theorem all_n23 {d : D} {P : D → Prop} (h : (n23 d).all P) : ∃ n : Nat, n ≤ 3 ∧ d = .int n ∧ P d := by
  unfold n23 at h
  split at h
  · exact ⟨2, by omega, rfl, h⟩
  · exact ⟨3, by omega, rfl, h⟩
  · exact h.elim
def lComb (f g : Ex) : Fr → Hz → T (List D) := fun fr hp => (f fr hp).bind fun x => (n23 x).bind fun x => (g fr hp).bind fun y => combL x y
theorem zicb {tg a b : Expr} {f g : Ex} {p2 p3 pos2 pos3 : Pos} (hc : X.calm = true) (hg2 : Gl X "combinations") (hm2 : X.mg "combinations" = some (.type "itertools.combinations")) (hg3 : Gl X "range") (hm3 : X.mg "range" = none) (ha : PE X a (tX X.K F f)) (hb : PE X b (tX X.K F g))
    (na : starEach [a] X.env = (false, eval a X.env) :: starEach [] X.env := by rfl) (nb : starEach [.Call (.Name "range" p3) [a] [] pos3, b] X.env = (false, eval (.Call (.Name "range" p3) [a] [] pos3) X.env) :: starEach [b] X.env := by rfl)
    (nc : starEach [b] X.env = (false, eval b X.env) :: starEach [] X.env := by rfl) (hpl : (backTo pos2 (starEach [b] X.env)).any (·.1) = false := by rfl) :
    PI X tg (.Call (.Name "combinations" p2) [.Call (.Name "range" p3) [a] [] pos3, b] [] pos2) (tI X.K F false (lComb f g)) :=
  PIimp (pi_comb hc hg2 hm2 hg3 hm3 ha hb na nb nc hpl) fun σ H R h => by
    obtain ⟨ρ, m0, m1, fr, hp, a, h⟩ := h
    refine tX_mk a (T.all_bind h) fun x hx H1 v k1 a1 rx => ?_
    obtain ⟨n, hn, rfl, hx⟩ := all_n23 (T.all_bind hx)
    cases rx
    refine ⟨n, hn, rfl, ?_⟩
    refine tX_mk a1 (T.all_bind hx) fun y hy H2 u k2 a2 ry => ?_
    obtain ⟨n', r, ok, e1, rfl, k⟩ := all_combL hy
    have e2 : n = n' := by
      have := D.int.inj e1
      omega
    subst e2
    cases ry
    exact ⟨r, ok, rfl, k _ H2 (k1.trans k2) a2.row walkC⟩
end
end Zl
set_option Elab.async false
set_option linter.all false
set_option maxRecDepth 100000
set_option maxHeartbeats 2000000
/-! ZF: isinstance, len(set(t)), module constants, is not, parallel stores. -/
namespace Zl
open PySem L2 PySem.Spec PyProof.Rows
/-! ### isinstance -/
/-- a value's class, by name -/
def tyName : D → Option String
  | .non => some "NoneType"
  | .bl _ => some "bool"
  | .int _ => some "int"
  | .str _ => some "str"
  | .tup _ => some "tuple"
  | .lst _ => some "list"
  | _ => none
def tag : D → Nat
  | .non => 0
  | .bl _ => 1
  | .int _ => 2
  | .str _ => 3
  | .tup _ => 4
  | .lst _ => 5
  | _ => 9
section
variable {X : Cx} {F : Ev}
theorem Rep.tyx {m : List Addr} {H : Hp} {v : V} {d : D} {n : String} (r : Rep X.K F m H v d) (h : tyName d = some n) : TyX X.K H v (.type n) := by
  cases d <;> first | (cases h; done) | skip
  · cases h; cases r; exact .base .non
  · cases h; cases r; exact .base (.bl _)
  · cases h; cases r; exact .base (.int _)
  · cases h; cases r; exact .base (.str _)
  · cases h
    cases r with
    | tup hn e rr => obtain ⟨o, e, _⟩ := e; exact .fTuple e
    | tupK e rr => obtain ⟨o, its, n, ⟨e1, e2, _⟩, _⟩ := e; exact .kTuple e1 e2
  · cases h
    cases r with
    | lst hn e rr => exact .base (.lst e)
def clsName : Nat → Option String
  | 1 => some "bool"
  | 2 => some "int"
  | 3 => some "str"
  | 4 => some "tuple"
  | 5 => some "list"
  | _ => none
def isiB (a c : Nat) : Bool := (Nat.beq a 1 && Nat.beq c 2) || Nat.beq a c
theorem isi_tab {a c : Nat} {n k : String} {d : D} (hd : tag d = a) (hn : tyName d = some n) (hk : clsName c = some k) : kitB n k = some (isiB a c) := by
  subst hd
  have hc : c = 1 ∨ c = 2 ∨ c = 3 ∨ c = 4 ∨ c = 5 := by
    unfold clsName at hk
    split at hk <;> first | (cases hk; done) | simp
  cases d <;> first | (cases hn; done) | skip
  all_goals cases hn
  all_goals rcases hc with rfl | rfl | rfl | rfl | rfl
  all_goals cases hk
  all_goals simp only [tag]
  all_goals decide +kernel
def eIsi (c : Nat) (f : Ex) : Ex := fun fr hp => (f fr hp).bind fun x => guardT (!Nat.beq (tag x) 9) (.ret (.bl (isiB (tag x) c)))
theorem tag_name {d : D} (h : (!Nat.beq (tag d) 9) = true) : ∃ n, tyName d = some n := by
  cases d <;> first | exact ⟨_, rfl⟩ | exact absurd h (by simp [tag])
theorem boot_isi : bootBuiltins "isinstance" = some (.builtin "isinstance") := by decide +kernel
theorem zisi {a b : Expr} {f : Ex} {p pos : Pos} (c : Nat) {k : String} (hk : clsName c = some k) (hg : Gl X "isinstance") (hm : X.mg "isinstance" = none) (ha : PE X a (tX X.K F f)) (hb : PE X b (tX X.K F (eC (.ty k))))
    (na : starEach [a, b] X.env = (false, eval a X.env) :: starEach [b] X.env := by rfl) (nb : starEach [b] X.env = (false, eval b X.env) :: starEach [] X.env := by rfl) (hpl : (backTo pos (starEach [b] X.env)).any (·.1) = false := by rfl) :
    PE X (.Call (.Name "isinstance" p) [a, b] [] pos) (tX X.K F (eIsi c f)) :=
  PEimp (pe_callB call_isi hg hm boot_isi (pa_cons ha (pa_cons hb pa_nil nb) na) (he := na) (hpl := hpl)) fun σ H Q h => by
    obtain ⟨ρ, m0, m1, fr, hp, a, h⟩ := h
    refine tX_mk a (T.all_bind h) fun x hx H1 v k1 a1 rx => ?_
    obtain ⟨hg9, hx⟩ := all_guard hx
    refine tX_mk a1 (show ((eC (.ty k)) fr hp).all (fun d => d = .ty k) from rfl) fun y hy H2 u k2 a2 ry => ?_
    subst hy
    cases ry
    obtain ⟨n, hn⟩ := tag_name hg9
    exact ⟨v, .ty k, .type n, .type k, _, rfl, .ty k, (rx.on a1.own k2).tyx hn, kit_ty (isi_tab rfl hn hk), hx H2 _ (k1.trans k2) a2.row (.bl _)⟩
/-- isinstance(x, (c, c')) -/
def eIsi2 (c c' : Nat) (f : Ex) : Ex := fun fr hp => (f fr hp).bind fun x => guardT (!Nat.beq (tag x) 9) (.ret (.bl (isiB (tag x) c || isiB (tag x) c')))
theorem zisi2 {a b b' : Expr} {f : Ex} {p pos tp : Pos} {x1} (c c' : Nat) {k k' : String} (hk : clsName c = some k) (hk' : clsName c' = some k') (hg : Gl X "isinstance") (hm : X.mg "isinstance" = none) (ha : PE X a (tX X.K F f)) (hb : PE X b (tX X.K F (eC (.ty k)))) (hb' : PE X b' (tX X.K F (eC (.ty k'))))
    (na : starEach [a, .Tuple [b, b'] x1 tp] X.env = (false, eval a X.env) :: starEach [.Tuple [b, b'] x1 tp] X.env := by rfl) (nb : starEach [.Tuple [b, b'] x1 tp] X.env = (false, eval (.Tuple [b, b'] x1 tp) X.env) :: starEach [] X.env := by rfl) (hpl : (backTo pos (starEach [.Tuple [b, b'] x1 tp] X.env)).any (·.1) = false := by rfl)
    (nc : starEach [b, b'] X.env = (false, eval b X.env) :: starEach [b'] X.env := by rfl) (nd : starEach [b'] X.env = (false, eval b' X.env) :: starEach [] X.env := by rfl) :
    PE X (.Call (.Name "isinstance" p) [a, .Tuple [b, b'] x1 tp] [] pos) (tX X.K F (eIsi2 c c' f)) :=
  PEimp (pe_callB call_isiT hg hm boot_isi (pa_cons ha (pa_cons (pe_tup (pa_cons hb (pa_cons hb' pa_nil nd) nc)) pa_nil nb) na) (he := na) (hpl := hpl)) fun σ H Q h => by
    obtain ⟨ρ, m0, m1, fr, hp, a, h⟩ := h
    refine tX_mk a (T.all_bind h) fun x hx H1 v k1 a1 rx => ?_
    obtain ⟨hg9, hx⟩ := all_guard hx
    refine tX_mk a1 (show ((eC (.ty k)) fr hp).all (fun d => d = .ty k) from rfl) fun y hy H2 u k2 a2 ry => ?_
    subst hy
    cases ry
    refine tX_mk a2 (show ((eC (.ty k')) fr hp).all (fun d => d = .ty k') from rfl) fun y hy H3 u k3 a3 ry => ?_
    subst hy
    cases ry
    refine ⟨(show 2 ≤ sizeLine from by decide), fun tp htp => ?_⟩
    obtain ⟨n, hn⟩ := tag_name hg9
    have k4 : Keep ρ H3 (upd H3 tp (.tup [.ty k, .ty k'])) := .of (same_new htp)
    have rx3 := ((rx.on a1.own k2).on a2.own k3).on a3.own k4
    have e1 := isi_tab (c := c) rfl hn hk
    have e2 := isi_tab (c := c') rfl hn hk'
    refine ⟨v, tp, [.ty k, .ty k'], .type n, [.type k, .type k'], isiB (tag x) c || isiB (tag x) c', rfl, upd_same, .cons (.ty k) (.cons (.ty k') .nil), rx3.tyx hn, ?_, hx _ _ (((k1.trans k2).trans k3).trans k4) (a3.row.same (same_new htp)) (.bl _)⟩
    refine kitAny_cons (kit_ty e1) (fun z => ?_) fun z => by rw [z]; rfl
    rw [z, Bool.false_or]
    refine kitAny_cons (kit_ty e2) (fun z => ?_) fun z => z
    rw [z]; rfl
/-! ### len(set(t)) -/
def memI (k : Int) : List Int → Bool
  | [] => false
  | x :: r => if eqI x k then true else memI k r
theorem memI_iff {k : Int} : ∀ {l : List Int}, memI k l = true ↔ k ∈ l
  | [] => by simp [memI]
  | x :: r => by
    unfold memI
    by_cases e : x = k
    · subst e
      simp [eqI]
    · have : ¬ eqI x k = true := by simp [eqI, e]
      rw [if_neg this, memI_iff (l := r)]
      simp [Ne.symm e]
def distI : List Int → List Int
  | [] => []
  | x :: r => if memI x r then distI r else x :: distI r
theorem distI_mem {k : Int} : ∀ {l : List Int}, k ∈ distI l ↔ k ∈ l
  | [] => by simp [distI]
  | x :: r => by
    unfold distI
    split
    · rename_i h
      rw [distI_mem (l := r), List.mem_cons]
      refine ⟨.inr, fun q => q.elim (fun e => ?_) id⟩
      rw [e]; exact memI_iff.mp h
    · rw [List.mem_cons, List.mem_cons, distI_mem (l := r)]
theorem distI_nodup : ∀ l : List Int, (distI l).Nodup
  | [] => .nil
  | x :: r => by
    unfold distI
    split
    · exact distI_nodup r
    · rename_i h
      refine List.nodup_cons.mpr ⟨fun q => h (memI_iff.mpr (distI_mem.mp q)), distI_nodup r⟩
def tLenSetT (K : PySem.W.Frag) (ta : TE) : TE := fun σ H Q => ta σ H fun x H1 => ∃ (l : Addr) (ns : List Int), x = .ref l ∧ SqT K H1 l (ns.map V.int) ∧ ns.length ≤ 1000 ∧ Q (.int ((distI ns).length : Nat)) H1
theorem pe_lenSetT {a : Expr} {ta : TE} {p p2 q pos : Pos} (hg : Gl X "len") (hm : X.mg "len" = none) (hg2 : Gl X "set") (hm2 : X.mg "set" = none) (ha : PE X a ta) (hc : X.calm = true)
    (na : starEach [a] X.env = (false, eval a X.env) :: starEach [] X.env := by rfl) : PE X (.Call (.Name "len" p) [.Call (.Name "set" p2) [a] [] q] [] pos) (tLenSetT X.K ta) := by
  refine ⟨fun pins s σ H Q I h => ?_⟩
  refine Call_ (ld_blt I hg hm boot_len ?_)
  refine PyProof.Rows.callWith_builtin1 (PyProof.Rows.args_cons ?_ rfl) rfl rfl
  refine Call_ (ld_blt I hg2 hm2 boot_set ?_)
  refine PyProof.Rows.callWith_type1 (PyProof.Rows.args_cons (thn (ha.run pins s σ H _ I h) fun v s1 ⟨x, H1, I1, r1, q1⟩ => PyProof.Rows.args_nil ?_) na) na rfl
  obtain ⟨l, ns, rfl, hq, hl, q1⟩ := q1
  cases r1
  obtain ⟨its, r, pl, hz⟩ := I1.tuple hq
  refine call_set_tupI ns (I1.ok.hd hc) (show s1.heap.IsTuple l its.toArray from pl) (by simpa using r.ints) (by unfold scanBound; omega) fun h' tk c hS hle hk => ?_
  refine PyProof.Rows.args_nil ?_
  obtain ⟨o, es, ep, t, ho, hex, hd, hge, nd, hmm, hb, hf, hn, _⟩ := hS
  have I2 : Inv X pins σ H1 { s1 with heap := h', toks := tk } := I1.kept hk
  have ec : es.size = (distI ns).length := by
    have p : (es.toList.map keyOf).Perm (distI ns) := (List.perm_ext_iff_of_nodup nd (distI_nodup ns)).mpr fun k => by
      rw [← hmm k, distI_mem]
      simp
    have := p.length_eq
    rw [List.length_map, Array.length_toList] at this
    exact this
  exact call_len_set ho hex hd hf (by rw [hn] <;> omega) ⟨.int ((distI ns).length : Nat), H1, I2.tok _, ⟨_, by rw [ec]⟩, q1⟩
def eLenSet (f : Ex) : Ex := fun fr hp => (f fr hp).bind fun x => (asTup x).bind fun xs => (ofO (intsO xs)).bind fun ns => guardT (few ns 1000) (.ret (.int (distI ns).length))
theorem zlenSet {a : Expr} {f : Ex} {p p2 q pos : Pos} (hg : Gl X "len") (hm : X.mg "len" = none) (hg2 : Gl X "set") (hm2 : X.mg "set" = none) (ha : PE X a (tX X.K F f)) (hc : X.calm = true)
    (na : starEach [a] X.env = (false, eval a X.env) :: starEach [] X.env := by rfl) : PE X (.Call (.Name "len" p) [.Call (.Name "set" p2) [a] [] q] [] pos) (tX X.K F (eLenSet f)) :=
  PEimp (pe_lenSetT hg hm hg2 hm2 ha hc na) fun σ H Q h => by
    obtain ⟨ρ, m0, m1, fr, hp, a, h⟩ := h
    refine tX_mk a (T.all_bind h) fun x hx H1 v k1 a1 rx => ?_
    obtain ⟨xs, rfl, hx⟩ := all_asTup (T.all_bind hx)
    obtain ⟨ns, e1, hx⟩ := all_ofO (T.all_bind hx)
    obtain ⟨hf, k⟩ := all_guard hx
    obtain ⟨b, vs, rfl, hs, rs⟩ := rx.tupR
    obtain ⟨e3, _⟩ := ints_reps rs e1
    subst e3
    exact ⟨b, ns, rfl, hs, few_le hf, k H1 _ k1 a1.row (.int _)⟩
/-! ### is not, constants of the module -/
def dIsNotTy (x y : D) : T D := match x, y with
  | .ty m, .ty n => .ret (.bl (!decide (m = n)))
  | _, _ => .fail
theorem oisNotTy : OpZ X F (compareOp .IsNot) dIsNotTy := OpZ.of op_isNotTy fun m H v u x y Q rx ry h => by
  unfold dIsNotTy at h
  split at h
  · cases rx
    cases ry
    exact ⟨_, _, rfl, rfl, h _ (.bl _)⟩
  · exact h.elim
/-- a static thing of the module -/
theorem zgl {x : Str} {a : Addr} {d : D} {pos : Pos} (hg : Gl X x) (hm : X.mg x = some (.ref a)) (r : ∀ m H, Rep X.K F m H (.ref a) d) (hd : (x == ("__debug__" : Str)) = false := by decide) : PE X (.Name x pos) (tX X.K F (eC d)) :=
  zc (pe_glob (v := V.ref a) hg hm rfl hd) r
/-! ### x, y = a, b -/
def sPar (i j : Nat) (f g : Ex) : Sm := fun fr hp => (f fr hp).bind fun x => (g fr hp).bind fun y => .ret (.nx (setN (setN fr i (some (.v x))) j (some (.v y))) hp)
theorem zpar {i j : Nat} {x y : Str} {a b : Expr} {f g : Ex} {px py pt pos : Pos} {kt k2 pt2} (hc : X.calm = true) (hN : X.N.Nodup) (hi : X.N[i]? = some x) (hj : X.N[j]? = some y) (hij : i ≠ j)
    (hx : X.env.scope.names.lookup x = some .local) (hy : X.env.scope.names.lookup y = some .local) (ha : PE X a (tX X.K F f)) (hb : PE X b (tX X.K F g))
    (hw : swappedStores [.Tuple [.Name x px, .Name y py] kt pt] (.Tuple [a, b] k2 pt2) X.env = pure (some [x, y]))
    (hs : swapsWithSole [.Tuple [.Name x px, .Name y py] kt pt] (.Tuple [a, b] k2 pt2) pos.line X.env = pure false := by rfl)
    (na : starEach [a, b] X.env = (false, eval a X.env) :: starEach [b] X.env := by rfl) (nb : starEach [b] X.env = (false, eval b X.env) :: starEach [] X.env := by rfl) :
    PS X (.Assign [.Tuple [.Name x px, .Name y py] kt pt] (.Tuple [a, b] k2 pt2) pos) (tS X.K F (sPar i j f g)) :=
  PSimp (ps_par hc hN hi hj hij hx hy (pa_cons ha (pa_cons hb pa_nil nb) na) hw hs) fun D σ H h => by
    obtain ⟨ρ, m0, m1, fr, hp, a, h⟩ := h
    refine tX_mk a (T.all_bind h) fun x hx H1 v k1 a1 rx => ?_
    refine tX_mk a1 (T.all_bind hx) fun y hy H2 u k2 a2 ry => ?_
    exact ⟨v, u, rfl, hy m1 H2 _ (.of (k1.trans k2)) ⟨(a2.fr.set (s := .v x) i (rx.on a1.own k2)).set (s := .v y) j ry, a2.sim, a2.row, a2.own⟩⟩
end
end Zl
set_option Elab.async false
set_option linter.all false
set_option maxRecDepth 100000
set_option maxHeartbeats 2000000
/-! ZG: enumerate over a tuple, comprehensions of two clauses. -/
namespace Zl
open PySem L2 PySem.Spec PyProof.Rows
/-! ### enumerate(tuple) -/
theorem meets_enum1 {v : Value} {o : Obj} {H : Heap → Prop} (B : Begins v o H) :
    Meets (Builtin.«enumerate.__new__» ⟨[.type "enumerate", v], []⟩) (fun _ R s => H s.heap ∧ R (.ok (.ret (.ref (s.heap.push o).objs.size))) { s with heap := (s.heap.push o).push { cls := .type "enumerate", data := .fields #[.none, .bool false, .ref s.heap.objs.size, rawInt 0, .none, .none] } }) :=
  .of_wp fun prog w A R s h => by
    obtain ⟨hp, g, d, tk, os⟩ := s; obtain ⟨h1, h⟩ := h
    have hsub := sub_enumerate
    have q1 : ∀ {A' : Around} {E : Value → Shared → Prop} {Q : Value → Shared → Prop}, Q (.ref hp.objs.size) ⟨hp.push o, g, d, tk, os⟩ → wpAny (model prog w) A' (pyIter v) Q E ⟨hp, g, d, tk, os⟩ := fun q => B.iter prog w _ _ ⟨hp, g, d, tk, os⟩ _ h1 q
    wp_walk
    refine wpAny_stack_any fun st => wpAny_pure ?_
    split
    · rename_i c _ _ _ _ _
      cases (c == Value.type "enumerate")
      · wp_walk using q1
        exact ⟨_, rfl, h⟩
      · wp_walk using q1
        exact ⟨_, rfl, h⟩
    · wp_walk using q1
      exact ⟨_, rfl, h⟩
section
variable {prog : Program} {w : World} {A : Around} {E : Value → Shared → Prop} {s : Shared}
theorem call_enumT {t : Addr} {items : Array Value} {Q : Value → Shared → Prop} (h1 : s.heap.IsTuple t items)
    (h : ∀ h', IsEnum h' (s.heap.objs.size + 1) s.heap.objs.size 0 .none → h'.IsTupleIter s.heap.objs.size t 0 → (∀ b o, s.heap.get? b = some o → h'.get? b = some o) → Q (.ref (s.heap.objs.size + 1)) { s with heap := h' }) :
    wpAny (model prog w) A (call (.type "enumerate") [.ref t]) Q E s := by
  have B := begins_tuple t items
  refine callType_new PySem.F.called_enumerate (by decide) (PySem.F.typeCall_enumerate_1 _) (PySem.F.newCall_enumerate_1 _) (fun obj => PySem.F.args_object_init_2 obj _) PySem.F.entry_enumerate_new (meets_enum1 B) ⟨h1, ?_⟩
  have hz : (s.heap.push { cls := .type "tuple_iterator", data := .fields #[.ref t, .int 0 0] }).objs.size = s.heap.objs.size + 1 := Heap.size_push ..
  show _ ∧ _
  rw [hz]
  have he : IsEnum ((s.heap.push { cls := .type "tuple_iterator", data := .fields #[.ref t, .int 0 0] }).push { cls := .type "enumerate", data := .fields #[.none, .bool false, .ref s.heap.objs.size, rawInt 0, .none, .none] }) (s.heap.objs.size + 1) s.heap.objs.size 0 .none := by
    have := Heap.get?_push_size (s.heap.push { cls := .type "tuple_iterator", data := .fields #[.ref t, .int 0 0] }) (o := { cls := .type "enumerate", data := .fields #[.none, .bool false, .ref s.heap.objs.size, rawInt 0, .none, .none] }) rfl
    rw [hz] at this; exact this
  exact ⟨⟨_, he, rfl⟩, h _ he ⟨_, Heap.get?_push_of_some _ (Heap.get?_push_size _ rfl), rfl, rfl⟩ fun b o x => Heap.get?_push_of_some _ (Heap.get?_push_of_some _ x)⟩
end
/-- the tuple at a, each item in a new pair -/
def IteT (K : PySem.W.Frag) (a : Addr) : It :=
  ⟨fun i H => ∃ (xs : List V) (x : V), SqT K H a xs ∧ xs[i]? = some x, fun i H v H' => ∃ T x, v = .ref T ∧ H T = none ∧ H' = upd H T (.tup [.int (i : Nat), x]) ∧ ∀ xs, SqT K H a xs → xs[i]? = some x, fun i H => ∃ xs : List V, SqT K H a xs ∧ xs.length = i⟩
theorem turn_enumT {P : Program} {w : World} {K : PySem.W.Frag} {elts : List Expr} {kk : Nat} {tpos : Pos} (a e it : Addr) :
    Turn P w K (.Tuple elts kk tpos) (IteT K a) [e, it] e (fun i h => (∃ old, IsEnum h e it ((i : Nat) : Int) old) ∧ h.IsTupleIter it a i ∧ e ≠ it ∧ a ≠ it ∧ a ≠ e) where
  mem := by simp
  obj := fun i h st b hb => by
    obtain ⟨⟨old, he⟩, ⟨o, ho, hc, hd⟩, _⟩ := st
    have e' : b = e ∨ b = it := by simpa using hb
    rcases e' with z | z
    · rw [z]; exact ⟨_, he, fun v q => nomatch q⟩
    · rw [z]; exact ⟨o, ho, fun v q => by rw [hd] at q; cases q⟩
  keep := fun i h h' st k => let ⟨⟨old, he⟩, hi, hne⟩ := st; ⟨⟨old, k e (by simp) _ he⟩, hi.at fun o q => k it (by simp) o q, hne⟩
  item := by
    intro X hP hw hK hc i pins s σ H E I hf st hg
    subst hP hw hK
    obtain ⟨⟨old, he⟩, hit, hne, hai, hae⟩ := st
    obtain ⟨xs, x, hq, hx⟩ := hg
    obtain ⟨its, rv, p, hz⟩ := I.tuple hq
    obtain ⟨u, hu, ru⟩ := rv.get hx
    have hel : e < s.heap.objs.size := Heap.lt_size he
    have hil : it < s.heap.objs.size := by obtain ⟨_, q, _⟩ := hit; exact Heap.lt_size q
    have hlt : i < its.toArray.size := by rw [List.size_toArray]; exact (List.getElem?_eq_some_iff.mp hu).1
    have pl : s.heap.IsTuple a its.toArray := p
    have hh : X.A.in1.handled = none := I.ok.hd hc
    refine wpAny_pyNext_enum_itemC (Draws.tuple (A := X.A.in1) hh it a hai its.toArray) he ⟨hit, pl⟩ hlt hne (by simp only [List.mem_cons, List.not_mem_nil, or_false, not_or]; exact ⟨hne, Ne.symm hae⟩) fun y h' tk hP ho hst' hT hsz hk => ?_
    have ey : y = u := by
      have hP : its.toArray[i]? = some y := hP
      rw [List.getElem?_toArray, hu] at hP
      exact (Option.some.inj hP).symm
    subst ey
    refine ⟨_, rfl, wpAny_letOwnedTupleGo_enum (s := { s with heap := h', toks := tk + 1 }) ho fun h'' he' sb => ?_⟩
    have hT2 : h''.get? s.heap.objs.size = some { cls := .type "tuple", data := .seq #[.int i tk, y] } := (sb.2 _ (Nat.ne_of_gt hel)).trans hT
    have new : ObjOk X.prog X.w (upd H s.heap.objs.size (.tup [.int (i : Nat), x])) h'' s.heap.objs.size (.tup [.int (i : Nat), x]) :=
      ⟨by show 2 ≤ sizeLine; decide, [.int i tk, y], .cons ⟨_, rfl⟩ (.cons ru .nil), ⟨_, hT2, rfl, _, rfl⟩⟩
    have I1 : Inv X pins σ (upd H s.heap.objs.size (.tup [.int (i : Nat), x])) { s with heap := h'', toks := tk + 1 } :=
      I.turnedNew (ch := [e, it]) (fun b ob hb q => (sb.2 b (fun z => hb (by simp [z]))).trans (hk b ob (fun z => hb (by simp [z])) (fun z => hb (by simp [z])) q)) hf (Nat.le_refl _) new
    refine ⟨.ref s.heap.objs.size, _, I1, rfl, ⟨_, x, rfl, I.hok.fresh (Nat.le_refl _), rfl, fun ys hy => by rw [I.tuple_inj hy hq]; exact hx⟩, ⟨⟨y, ?_⟩, hst'.1.at fun o q => (sb.2 it (Ne.symm hne)).trans q, hne, hai, hae⟩, fun b hb => ?_⟩
    · have e1 : ((i + 1 : Nat) : Int) = (i : Int) + 1 := by omega
      rw [e1]; exact he'
    · have hb' : b < s.heap.objs.size := by
        have e' : b = e ∨ b = it := by simpa using hb
        rcases e' with z | z
        · rw [z]; exact hel
        · rw [z]; exact hil
      rw [upd_ne (Nat.ne_of_lt hb')]
      exact (hf b hb).1
  done := by
    intro X hP hw hK hc i pins s σ H E I hf st hg
    subst hP hw hK
    obtain ⟨⟨old, he⟩, hit, hne, hai, hae⟩ := st
    obtain ⟨xs, hq, hx⟩ := hg
    obtain ⟨its, rv, p, hz⟩ := I.tuple hq
    obtain ⟨f0, f1, f2, f3, f4, f5⟩ := hf it (by simp)
    have pl : s.heap.IsTuple a its.toArray := p
    have hh : X.A.in1.handled = none := I.ok.hd hc
    have hl : its.toArray.size = i := by rw [List.size_toArray, ← rv.length, hx]
    subst hl
    exact wpAny_pyNext_enum_endD (Draws.tuple (A := X.A.in1) hh it a hai its.toArray) he ⟨hit, pl⟩ fun h' eb => ⟨rfl, I.turned (t' := s.toks) (fun b o hb q => eb b o hb q) f0 f1 f3 f4 f5⟩
  self := fun A i s Q E st h => let ⟨⟨_, he⟩, _⟩ := st; wpAny_pyIter_enum he h
def iEnumT (K : PySem.W.Frag) (ta : TA) : TI := fun σ H R => ta σ H fun vs H1 => ∃ a xs, vs = [.ref a] ∧ SqT K H1 a xs ∧ R (IteT K a) H1
theorem pi_enumT {X : Cx} {e : Expr} {ta : TA} {p pos tpos : Pos} {elts : List Expr} {kk : Nat} (hg : Gl X "enumerate") (hm : X.mg "enumerate" = none) (ha : PA X [e] ta) (hs : starEach [e] X.env = [(false, eval e X.env)] := by rfl) :
    PI X (.Tuple elts kk tpos) (.Call (.Name "enumerate" p) [e] [] pos) (iEnumT X.K ta) := by
  refine ⟨fun pins s σ H R I h => ?_⟩
  refine Call_ (ld_blt I hg hm boot_enumerate (PyProof.Rows.callWith_type1 (thn (ha.run pos pins s σ H _ I h) fun us s1 ⟨vs, H1, I1, r1, q1⟩ => ?_) hs rfl))
  obtain ⟨a, xs, ex, hq, q⟩ := q1
  subst ex
  cases r1 with
  | cons r rr =>
    cases rr
    cases r
    obtain ⟨its, rv, p', hz⟩ := I1.tuple hq
    have pl : s1.heap.IsTuple a its.toArray := p'
    have lt : a < s1.heap.objs.size := by obtain ⟨o, ho, _⟩ := pl; exact Heap.lt_size ho
    refine call_enumT pl fun h' he hit hk => wpAny_pyIter_enum he ?_
    have I2 : Inv X pins σ H1 { s1 with heap := h' } := I1.kept (t' := s1.toks) hk
    refine ⟨s1.heap.objs.size + 1, [s1.heap.objs.size + 1, s1.heap.objs.size], _, _, H1, rfl, I2, turn_enumT a (s1.heap.objs.size + 1) s1.heap.objs.size, ⟨⟨.none, he⟩, hit, Nat.succ_ne_self _, Nat.ne_of_lt lt, Nat.ne_of_lt (Nat.lt_succ_of_lt lt)⟩, fun b hb => ?_, q⟩
    have e' : b = s1.heap.objs.size + 1 ∨ b = s1.heap.objs.size := by simpa using hb
    have hle : s1.heap.objs.size ≤ b := by
      rcases e' with z | z
      · rw [z]; exact Nat.le_add_right _ _
      · rw [z]; exact Nat.le_refl _
    exact I1.fpOk hle (I1.hok.fresh hle)
/-- the items with their places -/
def enumD : Int → List D → List D
  | _, [] => []
  | i, d :: ds => .tup [.int i, d] :: enumD (i + 1) ds
theorem enumD_get : ∀ (ds : List D) (k : Int) (i : Nat) (d : D), (enumD k ds)[i]? = some d → ∃ x, ds[i]? = some x ∧ d = .tup [.int (k + i), x]
  | [], _, _, _, h => by simp [enumD] at h
  | x :: ds, k, 0, d, h => by
    have h : D.tup [.int k, x] = d := by simpa [enumD] using h
    exact ⟨x, rfl, by rw [← h]; simp⟩
  | x :: ds, k, i + 1, d, h => by
    obtain ⟨y, e1, e2⟩ := enumD_get ds (k + 1) i d (by simpa [enumD] using h)
    refine ⟨y, by simpa using e1, ?_⟩
    rw [e2]
    congr 3
    omega
theorem enumD_len : ∀ (ds : List D) (k : Int), (enumD k ds).length = ds.length
  | [], _ => rfl
  | _ :: ds, k => congrArg (· + 1) (enumD_len ds (k + 1))
section
variable {X : Cx} {F : Ev}
theorem walkE {m : List Addr} {H : Hp} {a : Addr} {vs : List V} {ds : List D} (hs : ∀ m' H', Later m H m' H' → SqT X.K H' a vs) (r : Reps X.K F m H vs ds) : WalkD X.K F true m H (IteT X.K a) (enumD 0 ds) := by
  refine ⟨fun H' => SqT X.K H' a vs, fun i H1 x H2 => ∃ T y, x = .ref T ∧ H1 T = none ∧ H2 = upd H1 T (.tup [.int (i : Nat), y]) ∧ vs[i]? = some y, ⟨fun i H' hi hg => ?_, fun H' hg => ⟨vs, hg, by rw [enumD_len, r.length]⟩, fun i H' x H2 hi hg y => ?_⟩, hs, fun i d x m' H1 H2 e l dom y => ?_⟩
  · rw [enumD_len, ← r.length] at hi
    exact ⟨vs, vs[i], hg, List.getElem?_eq_getElem hi⟩
  · obtain ⟨T, y, rfl, hT, rfl, q⟩ := y
    exact ⟨T, y, rfl, hT, rfl, q vs hg⟩
  · obtain ⟨T, y, rfl, hT, rfl, q⟩ := y
    obtain ⟨z, e1, rfl⟩ := enumD_get ds 0 i d e
    obtain ⟨v, e3, rv⟩ := r.get e1
    rw [q] at e3
    cases e3
    have sm := same_new (o := .tup [.int (i : Nat), y]) hT
    refine ⟨sm, .inr ⟨rfl, T, _, _, rfl, rfl, .inl (.inl upd_same), .cons ?_ (.cons (Rep.keep (fun a q => .inl q) (fun a o _ e => sm a o e) _ _ (rv.later l)) .nil)⟩⟩
    have e0 : (0 : Int) + (i : Nat) = (i : Nat) := by omega
    rw [e0]
    exact .int _
def lEnum (f : Ex) : Fr → Hz → T (List D) := fun fr hp => (f fr hp).bind fun x => (asTup x).bind fun xs => .ret (enumD 0 xs)
theorem zienum {e : Expr} {f : Ex} {p pos tpos : Pos} {elts : List Expr} {kk : Nat} (hg : Gl X "enumerate") (hm : X.mg "enumerate" = none) (he : PE X e (tX X.K F f)) (na : starEach [e] X.env = (false, eval e X.env) :: starEach [] X.env := by rfl) (hs : starEach [e] X.env = [(false, eval e X.env)] := by rfl) :
    PI X (.Tuple elts kk tpos) (.Call (.Name "enumerate" p) [e] [] pos) (tI X.K F true (lEnum f)) :=
  PIimp (pi_enumT hg hm (pa_cons he pa_nil na) hs) fun σ H R h => by
    obtain ⟨ρ, m0, m1, fr, hp, a, h⟩ := h
    refine tX_mk a (T.all_bind h) fun x hx H1 v k1 a1 rx => ?_
    obtain ⟨xs, rfl, k⟩ := all_asTup (T.all_bind hx)
    cases rx with
    | tup hn e rr =>
      obtain ⟨o, e, ed⟩ := e
      exact ⟨_, _, rfl, .inl (.inr ⟨o, e⟩), k _ H1 k1 a1.row (walkE (fun m' H2 l => .inl (.inr ⟨o, l.keep _ _ hn e⟩)) rr)⟩
    | tupK e rr => exact ⟨_, _, rfl, e.sq, k _ H1 k1 a1.row (walkE (fun m' H2 l => e.sq) rr)⟩
/-! ### comprehensions of two clauses -/
theorem At.mod {K : PySem.W.Frag} {ρ : Option Addr} {m0 m1 : List Addr} {H H' : Hp} {σ : L2.St} {fr : Fr} {hp : Hz} (a : At K F ρ m0 m1 H σ fr hp) (k : ∀ a o, a ∉ m0 → H a = some o → H' a = some o) (dom : ∀ a ∈ m0, H' a ≠ none) (row : RowA K ρ H') : At K F ρ m0 m1 H' σ fr hp := by
  have rk : ∀ {v : V} {d : D}, Rep K F (m0 ++ m1) H v d → Rep K F (m0 ++ m1) H' v d := fun {v d} r => Rep.keep (fun a q => .inl q) (fun b o n e => k b o (fun z => n (List.mem_append_left _ z)) e) d v r
  have rks : ∀ {v : List V} {d : List D}, Reps K F (m0 ++ m1) H v d → Reps K F (m0 ++ m1) H' v d := fun {v d} r => Reps.keep (fun a q => .inl q) (fun b o n e => k b o (fun z => n (List.mem_append_left _ z)) e) d v r
  refine ⟨⟨a.fr.len, fun i s e => ?_⟩, ⟨a.sim.len, a.sim.nd, a.sim.dis, fun b q z => ?_, fun n c e => ?_⟩, row, a.own⟩
  · obtain ⟨v, e1, r⟩ := a.fr.slot i s e
    refine ⟨v, e1, ?_⟩
    cases s with
    | v d => exact rk r
    | r n => exact r
    | row => exact r
  · rcases List.mem_append.mp q with y | y
    · exact dom b y z
    · cases e : H b with
      | none => exact a.sim.dom b q e
      | some o => rw [k b o (fun w => a.sim.dis b w y) e] at z; cases z
  · obtain ⟨b, e1, cr⟩ := a.sim.cell n c e
    exact ⟨b, e1, cr.tr (fun ob => k b ob (fun w => a.sim.dis b w (List.mem_of_getElem? e1))) fun vs ds r => rks r⟩
def lc2F (set : D → Fr → T Fr) (t : Fr → Hz → T Bool) (it1 : Fr → Hz → T (List D)) (set1 : D → Fr → T Fr) (t1 : Fr → Hz → T Bool) (e : Ex) (vs1 : List Nat) : List D → Fr → Hz → T (List D)
  | [], _, _ => .ret []
  | d :: ds, fr, hp => (set d fr).bind fun fr1 => (t fr1 hp).bind fun b => bif b then (it1 fr1 hp).bind fun ds1 => guardT (few ds1 9999) ((lcF set1 t1 e ds1 (wipeF fr1 vs1) hp).bind fun ys => (lc2F set t it1 set1 t1 e vs1 ds fr hp).bind fun zs => .ret (ys ++ zs))
    else lc2F set t it1 set1 t1 e vs1 ds fr hp
def nLc2 (it : Fr → Hz → T (List D)) (set : D → Fr → T Fr) (t : Fr → Hz → T Bool) (it1 : Fr → Hz → T (List D)) (set1 : D → Fr → T Fr) (t1 : Fr → Hz → T Bool) (e : Ex) (vs vs1 : List Nat) : Fr → Hz → T (List D) := fun fr hp => (it fr hp).bind fun ds => guardT (few ds 1000) (lc2F set t it1 set1 t1 e vs1 ds (wipeF fr vs) hp)
theorem lc2_core' {L L1 : Bool} {it it1 : Fr → Hz → T (List D)} {set set1 : D → Fr → T Fr} {t t1 : Fr → Hz → T Bool} {e : Ex} {vs vs1 : List Nat} {g g1 : TG} {σ : L2.St} {H : Hp} {Q : VK} (hs : TgC X.K F L vs set g) (hs1 : TgC X.K F L1 vs1 set1 g1) (h : tN X.K F (nLc2 it set t it1 set1 t1 e vs vs1) σ H Q) :
    tLc2 (tI X.K F L it) g (tB' X.K F t) (tI X.K F L1 it1) g1 (tB' X.K F t1) (tX X.K F e) vs vs1 σ H Q := by
  obtain ⟨ρ, m0, m1, fr, hp, a, h⟩ := h
  refine tI_mk a (T.all_bind h) fun ds hd J H1 kp a1 w B hB => ?_
  obtain ⟨hf, hd⟩ := all_guard hd
  obtain ⟨G, Y, W, hG, hY⟩ := w
  have ne := LcI.ne a1 hB
  have hf := few_le hf
  have hsl : sizeLine = 2 ^ 24 := by first | exact sizeLine_eq | rfl
  let P : List D → Prop := fun ys => ∀ H' a vs, Keep ρ H H' → RowA X.K ρ H' → H a = none → H' a = some (.lst vs) → Reps X.K F (m0 ++ (m1 ++ [a])) H' vs ys → Q (.ref a) H'
  let Pv : Nat → Hp → Prop := fun i H' => ∃ acc, LcI X.K F ρ m0 m1 H1 B H' acc ∧ acc.length ≤ i * 10000 ∧ (lc2F set t it1 set1 t1 e vs1 (ds.drop i) (wipeF fr vs) hp).all fun ys => P (acc ++ ys)
  refine ⟨fun i m H => m = ds.length - i ∧ i ≤ ds.length ∧ Pv i H, ⟨_, rfl, Nat.zero_le _, [], .start a1 hB, Nat.zero_le _, hd⟩, ?_⟩
  rintro i m H' ⟨rfl, hi, acc, I, hl, q⟩
  have gg := hG _ _ (I.later a1.own hB)
  by_cases hlt : i < ds.length
  · refine .inr ⟨W.goes i H' hlt gg, Pv (i + 1), fun H2 p => ⟨ds.length - (i + 1), by omega, rfl, hlt, p⟩, fun x H2 y => ?_⟩
    have y := W.yields i H' x H2 hlt gg y
    obtain ⟨d, e1, e2⟩ := drop_get hlt
    have aw : At X.K F ρ (B :: m0) m1 H' (wipe σ vs) (wipeF fr vs) hp := (I.at a1 hB).wipe vs
    obtain ⟨sm, rx⟩ := hY i d x _ H' H2 e1 (I.later a1.own hB) aw.sim.dom y
    rw [e2] at q
    have aw3 := aw.same sm
    have I3 := I.on a1.own ne (.of sm) aw3.row
    refine hs ρ (B :: m0) m1 H2 _ _ x d _ aw3.fr rx (T.all_mono (fun fr1 q1 σ1 f1 ew => ⟨ew.trans wipe_wipe, ?_⟩) (T.all_bind q))
    have at1 : At X.K F ρ (B :: m0) m1 H2 σ1 fr1 hp := ⟨f1, aw3.sim, aw3.row, aw3.own⟩
    refine tB_mk at1 (T.all_bind q1) fun b hb H3 k3 a3 => ?_
    have I3' := I3.on a1.own ne k3 a3.row
    cases b with
    | false => exact ⟨acc, I3', by omega, hb⟩
    | true =>
      refine tI_mk a3 (T.all_bind hb) fun ds1 hb J1 H4 k4 a4 w1 => ?_
      obtain ⟨hf1, hb⟩ := all_guard hb
      have hf1 := few_le hf1
      obtain ⟨G1, Y1, W1, hG1, hY1⟩ := w1
      have I4 := I3'.on a1.own ne k4 a4.row
      let Rst : List D → T (List D) := fun ys => (lc2F set t it1 set1 t1 e vs1 (ds.drop (i + 1)) (wipeF fr vs) hp).bind fun zs => .ret (ys ++ zs)
      let Pv1 : Nat → Hp → Prop := fun j H' => ∃ acc, LcI X.K F ρ m0 m1 H1 B H' acc ∧ (∀ a o, a ∉ B :: m0 → H4 a = some o → H' a = some o) ∧ acc.length ≤ i * 10000 + j ∧ (lcF set1 t1 e (ds1.drop j) (wipeF fr1 vs1) hp).all fun ys => (lc2F set t it1 set1 t1 e vs1 (ds.drop (i + 1)) (wipeF fr vs) hp).all fun zs => P (acc ++ (ys ++ zs))
      refine ⟨fun j k H => k = ds1.length - j ∧ j ≤ ds1.length ∧ Pv1 j H, ⟨_, rfl, Nat.zero_le _, acc, I4, fun _ _ _ e => e, hl, T.all_mono (fun ys q => T.all_bind q) (T.all_bind hb)⟩, ?_⟩
      rintro j k H5 ⟨rfl, hj, acc5, I5, kp5, hl5, q5⟩
      have dom5 : ∀ a ∈ B :: m0, H5 a ≠ none := fun a z => (I5.at a1 hB).sim.dom a (List.mem_append_left _ z)
      have a5 : At X.K F ρ (B :: m0) m1 H5 σ1 fr1 hp := a4.mod kp5 dom5 I5.row
      have lt5 : Later ((B :: m0) ++ m1) H4 ((B :: m0) ++ m1) H5 := ⟨fun a q => .inl q, fun a o n e => kp5 a o (fun z => n (List.mem_append_left _ z)) e⟩
      have gg1 := hG1 _ _ lt5
      by_cases hlt1 : j < ds1.length
      · refine .inr ⟨W1.goes j H5 hlt1 gg1, Pv1 (j + 1), fun H6 p => ⟨ds1.length - (j + 1), by omega, rfl, hlt1, p⟩, fun x1 H6 y1 => ?_⟩
        have y1 := W1.yields j H5 x1 H6 hlt1 gg1 y1
        obtain ⟨d1, e3, e4⟩ := drop_get hlt1
        have aw5 := a5.wipe vs1
        obtain ⟨sm1, rx1⟩ := hY1 j d1 x1 _ H5 H6 e3 lt5 a5.sim.dom y1
        rw [e4] at q5
        have aw6 := aw5.same sm1
        have I6 := I5.on a1.own ne (.of sm1) aw6.row
        have own6 : ∀ a, a ∉ B :: m0 → ρ ≠ some a := fun a n z => n (aw6.own a z)
        refine hs1 ρ (B :: m0) m1 H6 _ _ x1 d1 _ aw6.fr rx1 (T.all_mono (fun fr2 q6 σ2 f2 ew1 => ⟨ew1.trans wipe_wipe, ?_⟩) (T.all_bind q5))
        have at6 : At X.K F ρ (B :: m0) m1 H6 σ2 fr2 hp := ⟨f2, aw6.sim, aw6.row, aw6.own⟩
        refine tB_mk at6 (T.all_bind q6) fun b hb7 H7 k7 a7 => ?_
        have I7 := I6.on a1.own ne k7 a7.row
        have kp7 : ∀ a o, a ∉ B :: m0 → H4 a = some o → H7 a = some o := fun a o n e => k7 a o (own6 a n) (sm1 a o (kp5 a o n e))
        cases b with
        | false => exact ⟨acc5, I7, kp7, Nat.le_succ_of_le hl5, hb7⟩
        | true =>
          refine tX_mk a7 (T.all_bind hb7) fun yd hy H8 v k8 a8 rv => ?_
          have I8 := I7.on a1.own ne k8 a8.row
          obtain ⟨ws, ew, rw'⟩ := I8.lst
          refine ⟨ws, ew, ?_, acc5 ++ [yd], I8.push a1 hB rv ew, fun a o n e => ?_, by simp; omega, ?_⟩
          · have := rw'.length
            have : i * 10000 ≤ 1000 * 10000 := Nat.mul_le_mul_right _ (by omega)
            rw [hsl]
            omega
          · have hab : a ≠ B := fun z => n (by rw [z]; exact List.mem_cons_self)
            rw [upd_ne hab]
            exact k8 a o (own6 a n) (kp7 a o n e)
          · refine T.all_mono (fun ys q => ?_) (T.all_bind hy)
            have q : (lc2F set t it1 set1 t1 e vs1 (ds.drop (i + 1)) (wipeF fr vs) hp).all fun zs => P (acc5 ++ ((yd :: ys) ++ zs)) := q
            refine T.all_mono (fun zs q => ?_) q
            have e5 : acc5 ++ [yd] ++ (ys ++ zs) = acc5 ++ ((yd :: ys) ++ zs) := by simp
            rw [e5]
            exact q
      · have ej : j = ds1.length := by omega
        subst ej
        rw [List.drop_length] at q5
        refine .inl ⟨W1.stops H5 gg1, acc5, I5, by omega, ?_⟩
        have q5 : (lc2F set t it1 set1 t1 e vs1 (ds.drop (i + 1)) (wipeF fr vs) hp).all fun zs => P (acc5 ++ ([] ++ zs)) := q5
        exact T.all_mono (fun zs q => by rw [List.nil_append] at q; exact q) q5
  · have ei : i = ds.length := by omega
    subst ei
    rw [List.drop_length] at q
    obtain ⟨ws, ew, rw'⟩ := I.lst
    have q : P (acc ++ []) := q
    refine .inl ⟨W.stops H' gg, q H' B ws (kp.trans I.keep) I.row (a.free kp a1.row hB) ew ?_⟩
    rw [List.append_nil]
    refine rw'.sub fun c z => ?_
    rcases List.mem_append.mp z with z | z
    · exact List.mem_append_left _ (List.mem_cons_of_mem _ z)
    · rcases List.mem_append.mp z with z | z
      · exact List.mem_append_right _ z
      · have : c = B := by simpa using z
        rw [this]
        simp
/-- [elt for tg in iter if .. for tg1 in iter1 if ..] -/
theorem zlc2 {L L1 : Bool} {elt tg iter tg1 iter1 : Expr} {ifs ifs1 : List Expr} {scope : Scope} {own : List (Str × Nat)} {vs vs1 : List Nat} {pos : Pos} {it it1 : Fr → Hz → T (List D)} {set set1 : D → Fr → T Fr} {g g1 : TG} {t t1 : Fr → Hz → T Bool} {e : Ex} (hc : X.calm = true) (hN : X.N.Nodup) (hi : PI X tg iter (tI X.K F L it)) (ok : BlkOk X.N X.env.scope scope own) (hv : ∀ i ∈ vs1, i ∈ vs)
    (hs : TgC X.K F L vs set g) (hs1 : TgC X.K F L1 vs1 set1 g1)
    (hg : ∀ (s : Shared) (H : Hp) (C : Addr) (cl : List (Str × Addr)) (fp : List Addr), PG (X.blk s H scope (PySem.compEnvC scope cl C X.env) fp) tg g) (ht : ∀ (s : Shared) (H : Hp) (C : Addr) (cl : List (Str × Addr)) (fp : List Addr), PTs (X.blk s H scope (PySem.compEnvC scope cl C X.env) fp) ifs (tB' X.K F t))
    (hi1 : ∀ (s : Shared) (H : Hp) (C : Addr) (cl : List (Str × Addr)) (fp : List Addr), PI (X.blk s H scope (PySem.compEnvC scope cl C X.env) fp) tg1 iter1 (tI X.K F L1 it1))
    (hg1 : ∀ (s : Shared) (H : Hp) (C : Addr) (cl : List (Str × Addr)) (fp : List Addr), PG (X.blk s H scope (PySem.compEnvC scope cl C X.env) fp) tg1 g1) (ht1 : ∀ (s : Shared) (H : Hp) (C : Addr) (cl : List (Str × Addr)) (fp : List Addr), PTs (X.blk s H scope (PySem.compEnvC scope cl C X.env) fp) ifs1 (tB' X.K F t1))
    (he : ∀ (s : Shared) (H : Hp) (C : Addr) (cl : List (Str × Addr)) (fp : List Addr), PE (X.blk s H scope (PySem.compEnvC scope cl C X.env) fp) elt (tX X.K F e)) (hvs : own.map (·.2) = vs := by rfl) (hf : ∀ x, foldedSetIterable iter X.env x = pure x := by intro _; rfl) (hf1 : ∀ env x, foldedSetIterable iter1 env x = pure x := by intro _ _; rfl) :
    PE X (.ListComp elt [⟨tg, iter, ifs, 0⟩, ⟨tg1, iter1, ifs1, 0⟩] scope pos) (tN X.K F (nLc2 it set t it1 set1 t1 e vs vs1)) := by
  subst hvs
  exact PEimp (pe_lc2 hc hN hi ok hv hg ht hi1 hg1 ht1 he hf hf1) fun σ H Q h => lc2_core' hs hs1 h
end
end Zl
set_option Elab.async false
set_option linter.all false
set_option maxRecDepth 100000
set_option maxHeartbeats 2000000
/-! ZH: name = [..], the draws' row handed on, drawing. -/
namespace Zl
open PySem L2 PySem.Spec PyProof.Rows
def lst (f : Fr → Hz → T (List D)) : Ex := fun fr hp => (f fr hp).bind fun xs => .ret (.lst xs)
section
variable {X : Cx} {F : Ev}
theorem nl_core {f : Fr → Hz → T (List D)} {σ : L2.St} {H : Hp} {Q : VK} (h : tX X.K F (lst f) σ H Q) : tN X.K F f σ H Q := by
  obtain ⟨ρ, m0, m1, fr, hp, a, h⟩ := h
  refine tN_mk a (T.all_bind h) fun ds hd H' b vs kp a' hb hl r => ?_
  exact hd H' (.ref b) kp a'.row (.lst (a.sim.new hb) hl (r.sub fun _ => sub_more))
theorem setN_core {f : Fr → Hz → T (List D)} {i : Nat} {E : Ends} {te : TE} {σ : L2.St} {H : Hp} (hi : ∀ σ H Q, tN X.K F f σ H Q → te σ H Q) (h : tS X.K F (sSet i (lst f)) E σ H) : tAsg te (gName i) E σ H := by
  have q := set_core h
  exact hi _ _ _ (nl_core q)
theorem zsetLc {i : Nat} {y : Str} {py : Pos} {L : Bool} {elt tg iter : Expr} {ifs : List Expr} {scope : Scope} {own : List (Str × Nat)} {vs : List Nat} {pos spos : Pos} {it : Fr → Hz → T (List D)} {set : D → Fr → T Fr} {g : TG} {t : Fr → Hz → T Bool} {e : Ex} (hc : X.calm = true) (hN : X.N.Nodup) (hy : X.N[i]? = some y) (hyl : X.env.scope.names.lookup y = some .local)
    (hi : PI X tg iter (tI X.K F L it)) (ok : BlkOk X.N X.env.scope scope own)
    (hs : TgC X.K F L vs set g)
    (hg : ∀ (s : Shared) (H : Hp) (C : Addr) (cl : List (Str × Addr)) (fp : List Addr), PG (X.blk s H scope (PySem.compEnvC scope cl C X.env) fp) tg g) (ht : ∀ (s : Shared) (H : Hp) (C : Addr) (cl : List (Str × Addr)) (fp : List Addr), PTs (X.blk s H scope (PySem.compEnvC scope cl C X.env) fp) ifs (tB' X.K F t))
    (he : ∀ (s : Shared) (H : Hp) (C : Addr) (cl : List (Str × Addr)) (fp : List Addr), PE (X.blk s H scope (PySem.compEnvC scope cl C X.env) fp) elt (tX X.K F e))
    (hsw : swapsWith (.ListComp elt [⟨tg, iter, ifs, 0⟩] scope pos) (some (.Name y py)) spos.line X.env = pure true) (hvs : own.map (·.2) = vs := by rfl) (hf : ∀ x, foldedSetIterable iter X.env x = pure x := by intro _; rfl) :
    PS X (.Assign [.Name y py] (.ListComp elt [⟨tg, iter, ifs, 0⟩] scope pos) spos) (tS X.K F (sSet i (lst (nLc it set t e vs)))) := by
  subst hvs
  exact PSimp (ps_setLc hc hN hy hyl hsw hi ok hg ht he hf) fun D σ H h => setN_core (fun σ H Q h => lc_core' hs h) h
theorem zsetLc2 {i : Nat} {y : Str} {py : Pos} {L L1 : Bool} {elt tg iter tg1 iter1 : Expr} {ifs ifs1 : List Expr} {scope : Scope} {own : List (Str × Nat)} {vs vs1 : List Nat} {pos spos : Pos} {it it1 : Fr → Hz → T (List D)} {set set1 : D → Fr → T Fr} {g g1 : TG} {t t1 : Fr → Hz → T Bool} {e : Ex} (hc : X.calm = true) (hN : X.N.Nodup) (hy : X.N[i]? = some y) (hyl : X.env.scope.names.lookup y = some .local)
    (hi : PI X tg iter (tI X.K F L it)) (ok : BlkOk X.N X.env.scope scope own) (hv : ∀ i ∈ vs1, i ∈ vs)
    (hs : TgC X.K F L vs set g) (hs1 : TgC X.K F L1 vs1 set1 g1)
    (hg : ∀ (s : Shared) (H : Hp) (C : Addr) (cl : List (Str × Addr)) (fp : List Addr), PG (X.blk s H scope (PySem.compEnvC scope cl C X.env) fp) tg g) (ht : ∀ (s : Shared) (H : Hp) (C : Addr) (cl : List (Str × Addr)) (fp : List Addr), PTs (X.blk s H scope (PySem.compEnvC scope cl C X.env) fp) ifs (tB' X.K F t))
    (hi1 : ∀ (s : Shared) (H : Hp) (C : Addr) (cl : List (Str × Addr)) (fp : List Addr), PI (X.blk s H scope (PySem.compEnvC scope cl C X.env) fp) tg1 iter1 (tI X.K F L1 it1))
    (hg1 : ∀ (s : Shared) (H : Hp) (C : Addr) (cl : List (Str × Addr)) (fp : List Addr), PG (X.blk s H scope (PySem.compEnvC scope cl C X.env) fp) tg1 g1) (ht1 : ∀ (s : Shared) (H : Hp) (C : Addr) (cl : List (Str × Addr)) (fp : List Addr), PTs (X.blk s H scope (PySem.compEnvC scope cl C X.env) fp) ifs1 (tB' X.K F t1))
    (he : ∀ (s : Shared) (H : Hp) (C : Addr) (cl : List (Str × Addr)) (fp : List Addr), PE (X.blk s H scope (PySem.compEnvC scope cl C X.env) fp) elt (tX X.K F e))
    (hsw : swapsWith (.ListComp elt [⟨tg, iter, ifs, 0⟩, ⟨tg1, iter1, ifs1, 0⟩] scope pos) (some (.Name y py)) spos.line X.env = pure true) (hvs : own.map (·.2) = vs := by rfl) (hf : ∀ x, foldedSetIterable iter X.env x = pure x := by intro _; rfl) (hf1 : ∀ env x, foldedSetIterable iter1 env x = pure x := by intro _ _; rfl) :
    PS X (.Assign [.Name y py] (.ListComp elt [⟨tg, iter, ifs, 0⟩, ⟨tg1, iter1, ifs1, 0⟩] scope pos) spos) (tS X.K F (sSet i (lst (nLc2 it set t it1 set1 t1 e vs vs1)))) := by
  subst hvs
  exact PSimp (ps_setLc2 hc hN hy hyl hsw hi ok hv hg ht hi1 hg1 ht1 he hf hf1) fun D σ H h => setN_core (fun σ H Q h => lc2_core' hs hs1 h) h
/-! ### the draws' row handed on -/
def spR (K : PySem.W.Frag) (F : Ev) (f : List D → T D) (n : Nat) : Sp := fun vs H Q _ => ∃ a ws m ds, vs = .ref a :: ws ∧ ws.length = n ∧ a ∈ m ∧ (∀ b ∈ m, H b ≠ none) ∧ RowOk K H a ∧ Reps K F m H ws ds ∧ (f ds).all fun d => ∀ H' v, Keep (some a) H H' → RowOk K H' a → Rep K F m H' v d → Q v H'
def isRow (fr : Fr) (i : Nat) : Bool := match gt fr i with
  | some .row => true
  | _ => false
theorem isRow_eq {fr : Fr} {i : Nat} (h : isRow fr i = true) : gt fr i = some .row := by
  unfold isRow at h
  split at h
  · assumption
  · cases h
def eCallR (i : Nat) (f : List D → T D) (n : Nat) (g : Fr → Hz → T (List D)) : Ex := fun fr hp => guardT (isRow fr i) ((g fr hp).bind fun ds => guardT (Nat.beq ds.length n) (f ds))
theorem zcallR {es : List Expr} {x y : Str} {p p2 pos : Pos} {f : List D → T D} {n k i : Nat} {fa : Addr} {fd : FuncData} {ps : List Str} {g : Fr → Hz → T (List D)} (G : FnOk X.prog X.w X.K X.mg X.base CX0 k fa fd ps (spR X.K F f n)) (hr : Room k X.A) (hg : Gl X x) (hm : X.mg x = some (.ref fa))
    (hk : PySem.W.keepIn X.K (.ref fa) = true) (hb : Binds X.K fd ps []) (hN : X.N[i]? = some y) (hv : Vis X.env.scope y) (ha : PA X es (tAs X.K F g)) (hdb : (x == ("__debug__" : Str)) = false := by decide)
    (hdy : (y == ("__debug__" : Str)) = false := by decide) (hcd : (y == ("__classdict__" : Str)) = false := by decide) (he : starEach (.Name y p2 :: es) X.env = (false, eval (.Name y p2) X.env) :: starEach es X.env := by rfl) (hpl : (backTo pos (starEach es X.env)).any (·.1) = false := by rfl) :
    PE X (.Call (.Name x p) (.Name y p2 :: es) [] pos) (tX X.K F (eCallR i f n g)) :=
  PEimp (pe_call (E := E0) G hr hg hm hk hb .nil pass0 (pa_cons (pe_var hN hv hdy hcd) ha he) hdb he hpl) fun σ H Q h => by
    obtain ⟨ρ, m0, m1, fr, hp, a, h⟩ := h
    obtain ⟨h1, h⟩ := all_guard h
    obtain ⟨v, e1, b, e2, rfl⟩ := a.get (isRow_eq h1)
    refine ⟨_, e1, ?_⟩
    refine tAs_mk a (T.all_bind h) fun ds hd H1 vs k1 a1 r => ?_
    obtain ⟨hn, k⟩ := all_guard hd
    rw [List.append_nil]
    refine ⟨b, vs, m0 ++ m1, ds, rfl, by rw [r.length]; exact Nat.eq_of_beq_eq_true hn, List.mem_append_left _ (a.own b e2), a1.sim.dom, a1.row b e2, r, T.all_mono (fun d hd H' v kp w rv => ?_) k⟩
    have kr : Keep ρ H1 H' := fun c o n e => kp c o (fun z => n (by rw [e2]; exact z)) e
    exact hd H' v (k1.trans kr) (fun c z => by rw [e2] at z; cases z; exact w) rv
/-- a def's body, run from the row and its arguments -/
def runR (g : Sm) (n : Nat) : List D → T D := fun ds => (g (some .row :: argFr (n - 1) ds) []).bind retOf
theorem run_coreR {K : PySem.W.Frag} {g : Sm} {N : List Str} {vs : List V} {H : Hp} {Q : VK} {E : XK} {n : Nat} (hN : 0 < N.length) (h : spR K F (runR g N.length) n vs H Q E) : tS K F g { nx := fun _ H' => Q .non H', rt := Q } (L2.start N vs) H := by
  obtain ⟨a, ws, m, ds, rfl, hn, ha, dom, row, r, h⟩ := h
  have fr0 := startFr (N := N.tail) r
  obtain ⟨n0, N', rfl⟩ : ∃ n0 N', N = n0 :: N' := by
    cases N with
    | nil => cases hN
    | cons x y => exact ⟨x, y, rfl⟩
  have es : L2.start (n0 :: N') (.ref a :: ws) = some (.ref a) :: L2.start N' ws := by simp [L2.start]
  have hA : At K F (some a) m [] H (L2.start (n0 :: N') (.ref a :: ws)) (some .row :: argFr N'.length ds) [] := by
    refine ⟨⟨?_, fun i s e => ?_⟩, ⟨rfl, .nil, fun a _ q => by simp at q, fun a q => dom a (by simpa using q), fun n c e => by simp at e⟩, fun b e => by cases e; exact row, fun b e => by cases e; exact ha⟩
    · rw [es]
      have := fr0.len
      simpa using this
    · rw [es]
      cases i with
      | zero =>
        have e : SV.row = s := by simpa using e
        subst e
        exact ⟨.ref a, rfl, a, rfl, rfl⟩
      | succ i =>
        have e : (argFr N'.length ds)[i]? = some (some s) := by simpa using e
        obtain ⟨v, e1, r1⟩ := fr0.slot i s e
        refine ⟨v, by simpa using e1, ?_⟩
        cases s with
        | v d => exact r1
        | r n => exact r1
        | row =>
          obtain ⟨b, e3, _⟩ := r1
          cases e3
  refine ⟨some a, m, [], some .row :: argFr N'.length ds, [], hA, ?_⟩
  have h : ((g (some .row :: argFr N'.length ds) []).bind retOf).all _ := h
  refine T.all_mono (fun o q => ?_) (T.all_bind h)
  cases o with
  | nx fr hp => exact fun m1' H' σ' gr at' => q H' .non (fun b o n e => gr.keep b o n (by simp) e) (at'.row a rfl) .non
  | rt d => exact fun H' v k w r => q H' v (fun b o n e => k b o n (by simp) e) (w a rfl) r
  | bk fr hp => exact q.elim
  | ct fr hp => exact q.elim
theorem zdefR {P : Program} {w : World} {K : PySem.W.Frag} {mg : Str → Option Value} {base : Heap} {x qual : Str} {st : Stmt} {f : Addr} {fd : FuncData} {N ps : List Str} {k : Nat} {g : Sm} (Fn : L2.Fun K x qual st f fd) (S : FnScope N ps (defScope st)) (hN : 0 < N.length) (hp : 0 < ps.length)
    (hb : ∀ (cdv : Value) (A : Around) (outer : List Env) (s : Shared) (H : Hp) (E : XK), Room k (A.deeper (PyProof.Rows.envOfC qual (defScope st) s.heap.objs.size f cdv)) → PSs (cxOf CX0 P w K mg base N qual (defScope st) f cdv A outer s H E).nox (defBody st) (tS K F g)) :
    FnOk P w K mg base CX0 (k + 1) f fd ps (spR K F (runR g N.length) (ps.length - 1)) :=
  Fn.ok S (fun vs H Q E h => by
    obtain ⟨a, ws, m, ds, rfl, hn, _⟩ := h
    rw [List.length_cons, hn]
    omega) fun cdv A outer s H vs Q E hr h => ⟨_, hb cdv A outer s H E hr, run_coreR hN h⟩
end
end Zl
set_option Elab.async false
set_option linter.all false
set_option maxRecDepth 100000
set_option maxHeartbeats 2000000
/-! ZI: walks of what is a list or a tuple; + of lists as values; drawing; a law's frame. -/
namespace Zl
open PySem L2 PySem.Spec PyProof.Rows
section
variable {X : Cx} {F : Ev}
def iSeq (K : PySem.W.Frag) (te : TE) : TI := fun σ H R => te σ H fun x H1 => ∃ a, x = .ref a ∧ ((∃ xs, SqT K H1 a xs ∧ R (Itt K a) H1) ∨ (∃ xs, SqL K H1 a xs ∧ R (Itl K a) H1))
theorem pi_seq {tg e : Expr} {te : TE} (he : PE X e te) : PI X tg e (iSeq X.K te) := by
  constructor
  intro pins s σ H R I h
  refine thn (he.run pins s σ H _ I h) fun v s1 hh => ?_
  obtain ⟨x, H1, I1, r1, a, rfl, q⟩ := hh
  cases r1
  have fp : ∀ b ∈ [s1.heap.objs.size], FpOk X pins H1 b := fun b hb => by
    cases List.mem_singleton.mp hb
    exact I1.fpOk (Nat.le_refl _) (I1.hok.fresh (Nat.le_refl _))
  rcases q with ⟨xs, hq, q⟩ | ⟨xs, hq, q⟩
  · obtain ⟨its, rv, p, hz⟩ := I1.tuple hq
    exact wpAny_pyIter_tuple (show s1.heap.IsTuple a its.toArray from p) ⟨_, [_], _, _, H1, rfl, I1.kept (t' := s1.toks) fun b o e => Heap.get?_push_of_some _ e, turn_tuple a _, ⟨_, Heap.get?_push_size _ rfl, rfl, rfl⟩, fp, q⟩
  · obtain ⟨its, rv, p, hz⟩ := I1.list hq
    exact wpAny_pyIter_list p.isList ⟨_, [_], _, _, H1, rfl, I1.kept (t' := s1.toks) fun b o e => Heap.get?_push_of_some _ e, turn_list a _, ⟨_, Heap.get?_push_size _ rfl, rfl, rfl⟩, fp, q⟩
def lSeq (f : Ex) : Fr → Hz → T (List D) := fun fr hp => (f fr hp).bind asL
/-- over a tuple or a list -/
theorem zis {tg e : Expr} {f : Ex} (h : PE X e (tX X.K F f)) : PI X tg e (tI X.K F false (lSeq f)) := PIimp (pi_seq h) fun σ H R h => by
  obtain ⟨ρ, m0, m1, fr, hp, a, h⟩ := h
  refine tX_mk a (T.all_bind h) fun d hd H' v kp a' r => ?_
  obtain ⟨xs, e, k⟩ := all_asL hd
  cases d <;> first | (cases e; done) | skip
  · obtain rfl := Option.some.inj e
    cases r with
    | tup hn e rr =>
      obtain ⟨o, e, ed⟩ := e
      exact ⟨_, rfl, .inl ⟨_, .inl (.inr ⟨o, e⟩), k _ H' kp a'.row (walkT (fun m' H2 l => .inl (.inr ⟨o, l.keep _ _ hn e⟩)) rr)⟩⟩
    | tupK e rr => exact ⟨_, rfl, .inl ⟨_, e.sq, k _ H' kp a'.row (walkT (fun m' H2 l => e.sq) rr)⟩⟩
  · obtain rfl := Option.some.inj e
    obtain ⟨b, vs, rfl, hn, e, rr⟩ := r.lstR
    exact ⟨_, rfl, .inr ⟨_, .inl (.inl e), k _ H' kp a'.row (walkL (fun m' H2 l => .inl (.inl (l.keep _ _ hn e))) rr)⟩⟩
/-- ints, tuples, lists -/
def dPlus (x y : D) : T D := match x, y with
  | .int i, .int j => .ret (.int (i + j))
  | .tup xs, .tup ys => guardT (few xs 10000 && few ys 10000) (.ret (.tup (xs ++ ys)))
  | .lst xs, .lst ys => guardT (few xs 10000 && few ys 10000) (.ret (.lst (xs ++ ys)))
  | _, _ => .fail
theorem oplus : OpZ X F (binaryOp .Add) dPlus := by
  obtain ⟨r, h1, h2⟩ := oadd (X := X) (F := F)
  refine ⟨_, OpR.or h1 op_cat, fun σ fr ρ m0 m1 H hp v u x y Q a rx ry h => ?_⟩
  by_cases hl : ∃ xs ys, x = .lst xs ∧ y = .lst ys
  · obtain ⟨xs, ys, rfl, rfl⟩ := hl
    obtain ⟨ok, k⟩ := all_guard (show (guardT (few xs 10000 && few ys 10000) (T.ret (D.lst (xs ++ ys)))).all _ from h)
    rw [Bool.and_eq_true] at ok
    obtain ⟨b, vs, rfl, _, e1, r1⟩ := rx.lstR
    obtain ⟨c, ws, rfl, _, e2, r2⟩ := ry.lstR
    refine .inr ⟨b, c, vs, ws, rfl, rfl, e1, e2, by rw [r1.length, r2.length]; exact small2 ok.1 ok.2, fun p hp => ?_⟩
    obtain ⟨k3, a3⟩ := a.upd (o := .lst (vs ++ ws)) hp
    exact k _ _ k3 a3.row (.lst (a.sim.new hp) upd_same (Reps.append (r1.on a.own k3) (r2.on a.own k3)))
  · refine .inl (h2 σ fr ρ m0 m1 H hp v u x y Q a rx ry ?_)
    unfold dPlus at h
    split at h
    · exact h
    · exact h
    · exact (hl ⟨_, _, rfl, rfl⟩).elim
    · exact h.elim
end
/-! ### drawing -/
def taken : List D → T D
  | [.int n] => guardT (decide (1 ≤ n) && decide (n ≤ 1000000)) (.draw n.toNat fun i => .ret (.int i))
  | _ => .fail
section
variable {X : Cx}
theorem ixN_nat {n k : Nat} (h : k < n) : ixN n (k : Int) = some k := by
  unfold ixN
  have h1 : (0 : Int) ≤ (k : Int) := by omega
  rw [if_pos h1]
  have h2 : ((k : Int)) < (n : Int) := by omega
  first | (rw [if_pos h2]; rfl) | (simp [h2]; done) | (simp; omega)
end
end Zl
set_option Elab.async false
set_option linter.all false
set_option maxRecDepth 100000
set_option maxHeartbeats 2000000
/-! ZJ: what the generated texts lean on. -/
namespace Zl
open PySem L2 PySem.Spec PyProof.Rows
structure Gd (K : PySem.W.Frag) (mg : Str → Option Value) (x : Str) (st : Stmt) (ps : List Str) (a : Addr) (fd : FuncData) : Prop where
  fn : L2.Fun K x x st a fd
  mg : mg x = some (.ref a)
  kp : PySem.W.keepIn K (.ref a) = true
  b : Binds K fd ps []
/-- some defs by number -/
abbrev F1 (w : World) (fs : List Addr) : Ev := ⟨fun k => fs[k]?, w⟩
def lR1 (g : Fr → Hz → T (List D)) : Fr → Hz → T (List D) := fun fr hp => (g fr hp).bind rng1
def lR2 (g : Fr → Hz → T (List D)) : Fr → Hz → T (List D) := fun fr hp => (g fr hp).bind rng2
theorem boot_int : bootBuiltins "int" = some (.type "int") := by decide +kernel
theorem boot_str : bootBuiltins "str" = some (.type "str") := by decide +kernel
theorem boot_bool : bootBuiltins "bool" = some (.type "bool") := by decide +kernel
theorem boot_tuple : bootBuiltins "tuple" = some (.type "tuple") := by decide +kernel
theorem boot_list : bootBuiltins "list" = some (.type "list") := by decide +kernel
section
variable {P : Program} {w : World} {K : PySem.W.Frag} {mg : Str → Option Value} {base : Heap} {F : Ev}
/-- a promise that is never asked -/
theorem fnNo {x qual : Str} {st : Stmt} {f : Addr} {fd : FuncData} {N ps : List Str} {k n : Nat} (Fn : L2.Fun K x qual st f fd) (S : FnScope N ps (defScope st)) : FnOk P w K mg base CX0 (k + 1) f fd ps (spP K F (fun _ => .fail) n) :=
  Fn.ok S (fun vs H Q E h => by obtain ⟨_, m, ds, _, _, h⟩ := h; exact h.elim) fun cdv A outer s H vs Q E hr h => by
    obtain ⟨_, m, ds, _, _, h⟩ := h
    exact h.elim
/-! ### the law -/
def spLaw (K : PySem.W.Frag) : Sp := fun vs H Q _ => ∃ (a : Addr) (ns : List Int), vs = [.ref a] ∧ SqL K H a (ns.map V.int) ∧ ns.length ≤ 63 ∧ ∀ H', Q (.bl true) H'
def lawT (g : Sm) (n : Nat) : T D := (g (none :: some .row :: List.replicate (n - 2) none) []).bind retOf
def tRow (z : Int) (t : TS) : TS := tSeq (tAsg (tLst (tCons (tVar 0) (tCons (tC (.int 0)) (tCons (tC (.int z)) (tCons (tC (.int 0)) tNil))))) (gName 1)) t
theorem row_core {g : Sm} {N : List Str} {a : Addr} {ns : List Int} {H : Hp} {z : Int} {Q : VK} (hN : 2 ≤ N.length) (hs : ScrOk K H a (ns.map V.int)) (hl : ns.length ≤ 63) (hall : (lawT g N.length).all fun d => d = .bl true) (q : ∀ H', Q (.bl true) H') :
    tRow z (tS K F g) { nx := fun _ H' => Q .non H', rt := Q } (L2.start N [.ref a]) H := by
  obtain ⟨n0, n1, N', rfl⟩ : ∃ n0 n1 N', N = n0 :: n1 :: N' := by
    match N, hN with
    | n0 :: n1 :: N', _ => exact ⟨n0, n1, N', rfl⟩
  have es : L2.start (n0 :: n1 :: N') [V.ref a] = some (.ref a) :: none :: List.replicate N'.length none := by simp [L2.start, List.replicate_succ]
  rw [es]
  refine ⟨_, rfl, (show 4 ≤ sizeLine from by decide), fun p hp => ?_⟩
  have e2 : (some (V.ref a) :: none :: List.replicate N'.length none).set 1 (some (.ref p)) = some (V.ref a) :: some (.ref p) :: List.replicate N'.length none := rfl
  show tS K F g _ ((some (V.ref a) :: none :: List.replicate N'.length none).set 1 (some (.ref p))) _
  rw [e2]
  have hk : ∀ o, H a = some (.frz o (.lst (ns.map V.int))) → (upd H p (.lst [.ref a, .int 0, .int z, .int 0])) a = some (.frz o (.lst (ns.map V.int))) := fun o e => by
    rw [upd_ne (ne_of_none e hp)]; exact e
  have row : RowOk K (upd H p (.lst [.ref a, .int 0, .int z, .int 0])) p := ⟨a, ns, 0, z, 0, upd_same, hs.keep hk, hl, by decide⟩
  refine ⟨some p, [p], [], none :: some .row :: List.replicate N'.length none, [], ⟨⟨by simp, fun i s e => ?_⟩, ⟨rfl, .nil, fun a _ q => by simp at q, fun b hb z => ?_, fun n c e => by simp at e⟩, fun b e => by cases e; exact row, fun b e => by cases e; simp⟩, ?_⟩
  · match i with
    | 0 => simp at e
    | 1 =>
      have e : SV.row = s := by simpa using e
      subst e
      exact ⟨.ref p, rfl, p, rfl, rfl⟩
    | i + 2 =>
      have e : (List.replicate N'.length (none : Option SV))[i]? = some (some s) := by simpa using e
      rw [List.getElem?_replicate] at e
      split at e <;> cases e
  · have e : b = p := by simpa using hb
    rw [e, upd_same] at z
    cases z
  · have hall : ((g (none :: some .row :: List.replicate N'.length none) []).bind retOf).all fun d => d = .bl true := hall
    refine T.all_mono (fun o qo => ?_) (T.all_bind hall)
    cases o with
    | nx fr hp =>
      have qo : D.non = D.bl true := qo
      cases qo
    | rt d =>
      have qo : d = D.bl true := qo
      subst qo
      intro H' v k w' r
      cases r
      exact q H'
    | bk fr hp => exact qo.elim
    | ct fr hp => exact qo.elim
/-- the body is run while the script is locked; it is not unlocked -/
theorem pss_lock {X : Cx} {st : List Stmt} {t : TS} (h : PSs X st t) : PSs X st fun D σ H => t D σ H ∨ ∃ d u, H d = some u ∧ Mut (some u) ∧ ∀ od, t D σ (upd H d (.frz od u)) := by
  constructor
  intro pins s σ H D I hw
  rcases hw with hw | ⟨d, u, hd, mu, hw⟩
  · exact h.run pins s σ H D I hw
  · obtain ⟨od, I1⟩ := I.lock hd mu
    exact h.run pins s σ _ D I1 (hw od)
/-- THE RULE for a law whose first statement makes the draws' row -/
theorem law_ok {qual : Str} {st : Stmt} {f : Addr} {fd : FuncData} {N : List Str} {k : Nat} {g : Sm} {z : Int} (Fn : L2.Fun K "law" qual st f fd) (S : FnScope N ["script"] (defScope st)) (hN : 2 ≤ N.length) (hall : (lawT g N.length).all fun d => d = .bl true)
    (hb : ∀ (cdv : Value) (A : Around) (outer : List Env) (s : Shared) (H : Hp) (E : XK), Room k (A.deeper (PyProof.Rows.envOfC qual (defScope st) s.heap.objs.size f cdv)) → PSs (cxOf CX0 P w K mg base N qual (defScope st) f cdv A outer s H E).nox (defBody st) (tRow z (tS K F g))) :
    FnOk P w K mg base CX0 (k + 1) f fd ["script"] (spLaw K) :=
  Fn.ok S (fun vs H Q E h => by
    obtain ⟨a, ns, rfl, _⟩ := h
    rfl) fun cdv A outer s H vs Q E hr h => by
    obtain ⟨a, ns, rfl, hs, hl, q⟩ := h
    refine ⟨_, pss_lock (hb cdv A outer s H E hr), ?_⟩
    rcases hs with (hs | hs) | hs
    · exact .inr ⟨a, _, hs, trivial, fun od => row_core hN (.inl ⟨od, upd_same⟩) hl hall q⟩
    · exact .inl (row_core hN (.inl hs) hl hall q)
    · exact .inl (row_core hN (.inr hs) hl hall q)
/-- a tuple of ints in the module -/
theorem rep_ints {a : Addr} {ns : List Int} (h : StT K a (ns.map V.int)) (m : List Addr) (H : Hp) : Rep K F m H (.ref a) (.tup (ns.map D.int)) := .tupK h (reps_ints ns)
end
end Zl
set_option Elab.async false
set_option linter.all false
/-! ZK: a law's tree, checked. -/
namespace Zl
end Zl
set_option Elab.async false
set_option linter.all false
set_option maxRecDepth 100000
set_option maxHeartbeats 2000000
/-! ZL: the same readings, each value brought to its own form before it is handed on (so that the kernel runs them fast). -/
namespace Zl
open PySem L2 PySem.Spec PyProof.Rows
section
variable {β : Type}
def forceI : Int → (Int → β) → β
  | .ofNat 0, k => k (.ofNat 0)
  | .ofNat 1, k => k (.ofNat 1)
  | .ofNat 2, k => k (.ofNat 2)
  | .ofNat 3, k => k (.ofNat 3)
  | .ofNat (n + 4), k => k (.ofNat (n + 4))
  | .negSucc 0, k => k (.negSucc 0)
  | .negSucc (n + 1), k => k (.negSucc (n + 1))
theorem forceI_eq (i : Int) (k : Int → β) : forceI i k = k i := by
  unfold forceI
  split <;> rfl
def forceB : Bool → (Bool → β) → β
  | true, k => k true
  | false, k => k false
theorem forceB_eq (b : Bool) (k : Bool → β) : forceB b k = k b := by cases b <;> rfl
mutual
def force : D → (D → β) → β
  | .int i, k => forceI i fun i => k (.int i)
  | .bl b, k => forceB b fun b => k (.bl b)
  | .tup xs, k => forceL xs fun xs => k (.tup xs)
  | .lst xs, k => forceL xs fun xs => k (.lst xs)
  | .non, k => k .non
  | .str s, k => k (.str s)
  | .ty n, k => k (.ty n)
  | .fn n, k => k (.fn n)
  | .dct ks vs, k => forceL ks fun ks => forceL vs fun vs => k (.dct ks vs)
def forceL : List D → (List D → β) → β
  | [], k => k []
  | x :: xs, k => force x fun x => forceL xs fun xs => k (x :: xs)
end
mutual
theorem force_eq : ∀ (d : D) (k : D → β), force d k = k d
  | .int i, k => by unfold force; exact forceI_eq i _
  | .bl b, k => by unfold force; exact forceB_eq b _
  | .tup xs, k => by unfold force; exact forceL_eq xs _
  | .lst xs, k => by unfold force; exact forceL_eq xs _
  | .non, k => by unfold force; rfl
  | .str s, k => by unfold force; rfl
  | .ty n, k => by unfold force; rfl
  | .fn n, k => by unfold force; rfl
  | .dct ks vs, k => by
    unfold force
    rw [forceL_eq ks]
    exact forceL_eq vs _
theorem forceL_eq : ∀ (ds : List D) (k : List D → β), forceL ds k = k ds
  | [], k => by unfold forceL; rfl
  | x :: xs, k => by
    unfold forceL
    rw [force_eq x]
    exact forceL_eq xs _
end
def forceO : Option SV → (Option SV → β) → β
  | none, k => k none
  | some (.v d), k => k (some (.v d))
  | some (.r n), k => k (some (.r n))
  | some .row, k => k (some .row)
theorem forceO_eq (o : Option SV) (k : Option SV → β) : forceO o k = k o := by
  unfold forceO
  split <;> rfl
def forceF : Fr → (Fr → β) → β
  | [], k => k []
  | x :: xs, k => forceO x fun x => forceF xs fun xs => k (x :: xs)
theorem forceF_eq : ∀ (fr : Fr) (k : Fr → β), forceF fr k = k fr
  | [], k => rfl
  | x :: xs, k => by
    unfold forceF
    rw [forceO_eq]
    exact forceF_eq xs _
end
def sRetF (f : Ex) : Sm := fun fr hp => (f fr hp).bind fun d => force d fun d => .ret (.rt d)
theorem sRetF_eq (f : Ex) : sRetF f = sRet f := by
  funext fr hp
  unfold sRetF sRet
  congr 1
  funext d
  rw [force_eq]
def sParF (i j : Nat) (f g : Ex) : Sm := fun fr hp => (f fr hp).bind fun x => force x fun x => (g fr hp).bind fun y => force y fun y => forceF (setN (setN fr i (some (.v x))) j (some (.v y))) fun fr => .ret (.nx fr hp)
theorem sParF_eq (i j : Nat) (f g : Ex) : sParF i j f g = sPar i j f g := by
  funext fr hp
  unfold sParF sPar
  congr 1
  funext x
  rw [force_eq]
  congr 1
  funext y
  rw [force_eq, forceF_eq]
def gIF (i : Nat) : D → Fr → T Fr := fun d fr => force d fun d => forceF (setN fr i (some (.v d))) .ret
theorem gIF_eq (i : Nat) : gIF i = gI i := by
  funext d fr
  unfold gIF gI
  rw [force_eq, forceF_eq]
abbrev i0 : D := .int (.ofNat 0)
abbrev i1 : D := .int (.ofNat 1)
abbrev i2 : D := .int (.ofNat 2)
def T.width {α : Type} : T α → Nat
  | .draw n _ => n
  | _ => 0
def T.sub {α : Type} : T α → Nat → T α
  | .draw _ k, i => k i
  | _, _ => .fail
section
variable {X : Cx} {F : Ev}
theorem PSf {st : Stmt} {f g : Sm} (e : g = f) (h : PS X st (tS X.K F f)) : PS X st (tS X.K F g) := by rw [e]; exact h
theorem PEf {st : Expr} {f g : Ex} (e : g = f) (h : PE X st (tX X.K F f)) : PE X st (tX X.K F g) := by rw [e]; exact h
theorem TgRf {K : PySem.W.Frag} {L : Bool} {s s' : D → Fr → T Fr} {g : TG} (e : s' = s) (h : TgR K F L s g) : TgR K F L s' g := by rw [e]; exact h
theorem TgCf {K : PySem.W.Frag} {L : Bool} {vs : List Nat} {s s' : D → Fr → T Fr} {g : TG} (e : s' = s) (h : TgC K F L vs s g) : TgC K F L vs s' g := by rw [e]; exact h
end
end Zl
set_option Elab.async false
set_option linter.all false
set_option maxRecDepth 100000
set_option maxHeartbeats 2000000
/-! ZM: faster comparisons, the same readings. -/
namespace Zl
open PySem L2 PySem.Spec PyProof.Rows
def eqIf : Int → Int → Bool
  | .ofNat a, .ofNat b => Nat.beq a b
  | .negSucc a, .negSucc b => Nat.beq a b
  | _, _ => false
theorem natBeq (a b : Nat) : Nat.beq a b = decide (a = b) := by
  by_cases h : a = b
  · subst h; simp
  · rw [decide_eq_false h]
    cases e : Nat.beq a b with
    | false => rfl
    | true => exact absurd (Nat.eq_of_beq_eq_true e) h
theorem eqIf_eq (a b : Int) : eqIf a b = eqI a b := by
  unfold eqIf eqI
  cases a <;> cases b
  · show Nat.beq _ _ = _
    rw [natBeq]
    exact decide_eq_decide.mpr ⟨fun h => by rw [h], fun h => Int.ofNat.inj h⟩
  · rw [decide_eq_false (by intro h; cases h)]
  · rw [decide_eq_false (by intro h; cases h)]
  · show Nat.beq _ _ = _
    rw [natBeq]
    exact decide_eq_decide.mpr ⟨fun h => by rw [h], fun h => Int.negSucc.inj h⟩
def ltIf : Int → Int → Bool
  | .ofNat a, .ofNat b => Nat.blt a b
  | .negSucc _, .ofNat _ => true
  | .ofNat _, .negSucc _ => false
  | .negSucc a, .negSucc b => Nat.blt b a
theorem ltIf_eq (a b : Int) : ltIf a b = decide (a < b) := by
  unfold ltIf
  cases a <;> cases b
  · rename_i x y
    show Nat.blt x y = decide ((x : Int) < (y : Int))
    rw [Bool.eq_iff_iff, Nat.blt_eq, decide_eq_true_iff]
    omega
  · rename_i x y
    exact (decide_eq_false (by show ¬ ((x : Int) < Int.negSucc y); omega)).symm
  · rename_i x y
    exact (decide_eq_true (show Int.negSucc x < (y : Int) by omega)).symm
  · rename_i x y
    show Nat.blt y x = _
    rw [Bool.eq_iff_iff, Nat.blt_eq, decide_eq_true_iff]
    omega
def leIf (a b : Int) : Bool := bif ltIf b a then false else true
theorem leIf_eq (a b : Int) : leIf a b = decide (a ≤ b) := by
  unfold leIf
  rw [ltIf_eq]
  by_cases h : b < a
  · rw [decide_eq_true h, decide_eq_false (by omega)]; rfl
  · rw [decide_eq_false h, decide_eq_true (by omega)]; rfl
/-- == with a short way for ints -/
def dEqF (x y : D) : T D := match x, y with
  | .int a, .int b => .ret (.bl (eqIf a b))
  | _, _ => dEq x y
def dNeF (x y : D) : T D := match x, y with
  | .int a, .int b => .ret (.bl (bif eqIf a b then false else true))
  | _, _ => dNe x y
theorem dEqF_eq : dEqF = dEq := by
  funext x y
  unfold dEqF
  split
  · rw [eqIf_eq]; rfl
  · rfl
theorem dNeF_eq : dNeF = dNe := by
  funext x y
  unfold dNeF
  split
  · rename_i a b
    rw [eqIf_eq]
    show T.ret (D.bl (bif eqI a b then false else true)) = T.ret (D.bl (!eqI a b))
    cases eqI a b <;> rfl
  · rfl
section
variable {X : Cx} {F : Ev}
theorem OpZf {f : Value → Value → Sem Value} {o o' : D → D → T D} (e : o' = o) (h : OpZ X F f o) : OpZ X F f o' := by rw [e]; exact h
theorem oeqF (hu : X.A.units + 64 < cLine) : OpZ X F (compareOp .Eq) dEqF := OpZf dEqF_eq (oeq hu)
theorem oneF (hu : X.A.units + 64 < cLine) : OpZ X F (compareOp .NotEq) dNeF := OpZf dNeF_eq (one hu)
def dLt : D → D → T D := dI2 fun i j => .bl (ltIf i j)
def dLe : D → D → T D := dI2 fun i j => .bl (leIf i j)
def dGt : D → D → T D := dI2 fun i j => .bl (ltIf j i)
theorem oltF : OpZ X F (compareOp .Lt) dLt := OpZf (by unfold dLt; congr 1; funext i j; rw [ltIf_eq]) olt
theorem oleF : OpZ X F (compareOp .LtE) dLe := OpZf (by unfold dLe; congr 1; funext i j; rw [leIf_eq]) ole
theorem ogtF : OpZ X F (compareOp .Gt) dGt := OpZf (by unfold dGt; congr 1; funext i j; rw [ltIf_eq]) ogt
end
/-- in, with a short way for ints -/
def anyI (k : Int) : List D → Option Bool
  | [] => some false
  | .int a :: r => bif eqIf a k then (match anyI k r with | some _ => some true | none => none) else anyI k r
  | _ :: _ => none
theorem anyI_some : ∀ {k : Int} {l : List D} {b : Bool}, anyI k l = some b → allO flatD l = true ∧ anyF (.int k) l = b
  | k, [], b, h => by
    cases h
    exact ⟨rfl, rfl⟩
  | k, .int a :: r, b, h => by
    unfold anyI at h
    unfold allO anyF
    rw [if_pos (show flatD (.int a) = true from rfl)]
    show _ ∧ (if eqI a k then true else anyF (.int k) r) = b
    rw [← eqIf_eq]
    cases e : eqIf a k with
    | true =>
      rw [e] at h
      cases q : anyI k r with
      | none => rw [q] at h; cases h
      | some c =>
        rw [q] at h
        cases h
        exact ⟨(anyI_some q).1, by simp⟩
    | false =>
      rw [e] at h
      obtain ⟨h1, h2⟩ := anyI_some (show anyI k r = some b from h)
      exact ⟨h1, by simpa using h2⟩
  | k, .non :: r, b, h => by cases h
  | k, .bl _ :: r, b, h => by cases h
  | k, .str _ :: r, b, h => by cases h
  | k, .ty _ :: r, b, h => by cases h
  | k, .fn _ :: r, b, h => by cases h
  | k, .dct _ _ :: r, b, h => by cases h
  | k, .tup _ :: r, b, h => by cases h
  | k, .lst _ :: r, b, h => by cases h
def inD (neg : Bool) (x : D) (ys : List D) : T D := guardT (flatD x && allO flatD ys) (.ret (.bl (if neg then !anyF x ys else anyF x ys)))
def inF (neg : Bool) (x : D) (ys : List D) : T D := match x with
  | .int k => match anyI k ys with
    | some b => .ret (.bl (bif neg then (bif b then false else true) else b))
    | none => inD neg x ys
  | _ => inD neg x ys
theorem inF_eq (neg : Bool) (x : D) (ys : List D) : inF neg x ys = inD neg x ys := by
  unfold inF
  split
  · rename_i k
    split
    · rename_i b e
      obtain ⟨h1, h2⟩ := anyI_some e
      unfold inD
      rw [h1, h2]
      show _ = T.ret _
      cases neg <;> cases b <;> rfl
    · rfl
  · rfl
def eInF (neg : Bool) (f : Ex) (g : Fr → Hz → T (List D)) : Ex := fun fr hp => (f fr hp).bind fun x => (g fr hp).bind fun ys => inF neg x ys
theorem eInF_eq (neg : Bool) (f : Ex) (g : Fr → Hz → T (List D)) : eInF neg f g = eIn neg f g := by
  funext fr hp
  unfold eInF eIn
  congr 1
  funext x
  congr 1
  funext ys
  exact inF_eq neg x ys
/-- x.index(k) -/
def idxF (k : Int) : List D → Option Nat
  | [] => none
  | .int a :: r => bif eqIf a k then (match intsO r with | some _ => some 0 | none => none) else match idxF k r with
    | some n => some (n + 1)
    | none => none
  | _ :: _ => none
def idxD (k : Int) (xs : List D) : T D := (ofO (intsO xs)).bind fun ns => (ofO (idxI k ns)).bind fun j => .ret (.int j)
theorem idxF_some : ∀ {k : Int} {l : List D} {n : Nat}, idxF k l = some n → ∃ ns, intsO l = some ns ∧ idxI k ns = some n
  | k, [], n, h => by cases h
  | k, .int a :: r, n, h => by
    unfold idxF at h
    unfold intsO
    cases e : eqIf a k with
    | true =>
      rw [e] at h
      cases q : intsO r with
      | none => rw [q] at h; cases h
      | some ns =>
        rw [q] at h
        cases h
        refine ⟨a :: ns, rfl, ?_⟩
        unfold idxI
        rw [← eqIf_eq, e]
        rfl
    | false =>
      rw [e] at h
      cases q : idxF k r with
      | none => rw [q] at h; cases h
      | some m =>
        rw [q] at h
        cases h
        obtain ⟨ns, h1, h2⟩ := idxF_some q
        rw [h1]
        refine ⟨a :: ns, rfl, ?_⟩
        unfold idxI
        rw [← eqIf_eq, e, h2]
        rfl
  | k, .non :: r, b, h => by cases h
  | k, .bl _ :: r, b, h => by cases h
  | k, .str _ :: r, b, h => by cases h
  | k, .ty _ :: r, b, h => by cases h
  | k, .fn _ :: r, b, h => by cases h
  | k, .dct _ _ :: r, b, h => by cases h
  | k, .tup _ :: r, b, h => by cases h
  | k, .lst _ :: r, b, h => by cases h
def eIdxF (f g : Ex) : Ex := fun fr hp => (f fr hp).bind fun x => (asTup x).bind fun xs => (g fr hp).bind fun y => match y with
  | .int k => match idxF k xs with
    | some n => .ret (.int (.ofNat n))
    | none => idxD k xs
  | _ => .fail
theorem eIdxF_eq (f g : Ex) : eIdxF f g = eIdx f g := by
  funext fr hp
  unfold eIdxF eIdx
  congr 1
  funext x
  congr 1
  funext xs
  congr 1
  funext y
  split
  · rename_i k
    show _ = idxD k xs
    split
    · rename_i n e
      obtain ⟨ns, h1, h2⟩ := idxF_some e
      unfold idxD
      rw [h1]
      show _ = (ofO (idxI k ns)).bind _
      rw [h2]
      rfl
    · rfl
  · rename_i h
    first
    | rfl
    | (split
       · exact (h _ rfl).elim
       · rfl)
theorem PTf {X : Cx} {F : Ev} {e : Expr} {f g : Ex} (q : g = f) (h : PT X e (tB' X.K F (b1 f))) : PT X e (tB' X.K F (b1 g)) := by rw [q]; exact h
def aCF (f : Ex) (g : Fr → Hz → T (List D)) : Fr → Hz → T (List D) := fun fr hp => (f fr hp).bind fun x => force x fun x => (g fr hp).bind fun xs => .ret (x :: xs)
theorem aCF_eq (f : Ex) (g : Fr → Hz → T (List D)) : aCF f g = aC f g := by
  funext fr hp
  unfold aCF aC
  congr 1
  funext x
  rw [force_eq]
theorem PAf {X : Cx} {F : Ev} {es : List Expr} {f g : Fr → Hz → T (List D)} (q : g = f) (h : PA X es (tAs X.K F f)) : PA X es (tAs X.K F g) := by rw [q]; exact h
/-- name = value, the value in its own form already after this -/
def sSetV (i : Nat) (f : Ex) : Sm := fun fr hp => (f fr hp).bind fun d => force d fun d => .ret (.nx (setN fr i (some (.v d))) hp)
theorem sSetV_eq (i : Nat) (f : Ex) : sSetV i f = sSet i f := by
  funext fr hp
  unfold sSetV sSet
  congr 1
  funext d
  rw [force_eq]
def gIX (i : Nat) : D → Fr → T Fr := fun d fr => forceF (setN fr i (some (.v d))) .ret
theorem gIX_eq (i : Nat) : gIX i = gI i := by
  funext d fr
  unfold gIX gI
  rw [forceF_eq]
def g2E (i j : Nat) : D → Fr → T Fr := fun d fr => match d with
  | .tup [x, y] => force x fun x => forceF (setN (setN fr i (some (.v x))) j (some (.v y))) .ret
  | _ => .fail
theorem g2E_eq (i j : Nat) : g2E i j = g2 i j := by
  funext d fr
  unfold g2E g2
  split
  · rw [force_eq, forceF_eq]
  · rename_i h
    first
    | rfl
    | (split
       · exact (h _ _ rfl).elim
       · rfl)
end Zl
set_option Elab.async false
set_option linter.all false
set_option maxRecDepth 100000
set_option maxHeartbeats 2000000
/-! ZN: dicts whose keys are tuples (of tuples, ints, texts). -/
namespace Zl
open PySem L2 PySem.Spec PyProof.Rows
section
variable {X : Cx} {F : Ev} {pins : List (Addr × Obj)} {σ : L2.St} {H : Hp} {s : Shared} {m : List Addr}
mutual
theorem Rep.nest (I : Inv X pins σ H s) : ∀ (d : D) (v : V) (u : Value) (n : NestedKey), Rep X.K F m H v d → RelV v u → nk d = some n → NestedIs s.heap n u
  | .non, _, _, n, r, ru, e => by
    cases r
    cases e
    cases (show _ = Value.none from ru)
    exact .none
  | .int i, _, _, n, r, ru, e => by
    cases r
    cases e
    obtain ⟨t, rfl⟩ := ru
    exact .int i t
  | .str x, _, _, n, r, ru, e => by
    cases r
    cases e
    obtain ⟨t, rfl⟩ := ru
    exact .text _ t
  | .tup ds, _, _, n, r, ru, e => by
    unfold nk at e
    cases q : nks ds with
    | none => rw [q] at e; cases e
    | some ks =>
      rw [q] at e
      cases e
      obtain ⟨a, vs, rfl, hs, rs⟩ := r.tupR
      cases ru
      obtain ⟨its, rv, ⟨o, ho, hc, k, hd⟩, hz⟩ := I.tuple hs
      exact .tup ho hc hd (by simpa using Reps.nest I ds vs its ks rs rv q)
  | .bl _, _, _, n, r, ru, e => by cases e
  | .ty _, _, _, n, r, ru, e => by cases e
  | .fn _, _, _, n, r, ru, e => by cases e
  | .lst _, _, _, n, r, ru, e => by cases e
  | .dct _ _, _, _, n, r, ru, e => by cases e
theorem Reps.nest (I : Inv X pins σ H s) : ∀ (ds : List D) (vs : List V) (us : List Value) (ns : List NestedKey), Reps X.K F m H vs ds → Vals vs us → nks ds = some ns → NestedAll s.heap ns us
  | [], _, _, ns, r, ru, e => by
    cases r
    cases ru
    cases e
    exact .nil
  | d :: ds, _, _, ns, r, ru, e => by
    unfold nks at e
    cases r with
    | cons r rs =>
    cases ru with
    | cons ru rus =>
    cases q : nk d with
    | none => rw [q] at e; cases e
    | some k =>
      cases q2 : nks ds with
      | none => rw [q, q2] at e; cases e
      | some ks =>
        rw [q, q2] at e
        cases e
        exact .cons (Rep.nest I d _ _ k r ru q) (Reps.nest I ds _ _ ks rs rus q2)
end
theorem nks_get : ∀ {ds : List D} {ns : List NestedKey} {i : Nat} {n : NestedKey}, nks ds = some ns → ns[i]? = some n → ∃ d, ds[i]? = some d ∧ nk d = some n
  | [], ns, i, n, e, h => by cases e; simp at h
  | d :: ds, ns, i, n, e, h => by
    unfold nks at e
    cases q : nk d with
    | none => rw [q] at e; cases e
    | some k =>
      cases q2 : nks ds with
      | none => rw [q, q2] at e; cases e
      | some ks =>
        rw [q, q2] at e
        cases e
        cases i with
        | zero =>
          have h : k = n := by simpa using h
          subst h
          exact ⟨d, rfl, q⟩
        | succ i => exact nks_get (i := i) q2 (by simpa using h)
/-- the dict as the library tells it -/
theorem dct_of (I : Inv X pins σ H s) (hw : F.w = X.w) {a : Addr} {xs : List (NestedKey × Addr × Value)} {ep : Nat} {vv : List V} {ks : List D} (h : H a = some (dctO F.w xs ep a)) (ok : DctOk xs vv ks) (rk : Reps X.K F m H (dKeys xs) ks) : s.heap.DictOfH (nestedKind X.prog X.w) a xs := by
  obtain ⟨⟨_, o, es, ho, hc, hd, he⟩, _⟩ : ObjOk X.prog X.w H s.heap a (dctO F.w xs ep a) := I.hok a _ h
  refine ⟨o, es, ep, ho, hc, hd, by rw [he, hw]; rfl, fun x hx => ⟨?_, ok.dp x hx⟩, ok.nd⟩
  obtain ⟨i, hi⟩ := List.mem_iff_getElem?.mp hx
  have h1 : (xs.map (·.1))[i]? = some x.1 := by rw [List.getElem?_map, hi]; rfl
  obtain ⟨d, e1, e2⟩ := nks_get ok.nk h1
  obtain ⟨v, e3, r⟩ := rk.get e1
  have e4 : (dKeys xs)[i]? = some (.ref x.2.1) := by unfold dKeys; rw [List.getElem?_map, hi]; rfl
  rw [e4] at e3
  cases e3
  exact Rep.nest I d (.ref x.2.1) (.ref x.2.1) x.1 r rfl e2
/-! ### d[k] -/
/-- the value at a key -/
def lookD (n : NestedKey) : List D → List D → Option D
  | k :: ks, v :: vs => match nk k with
    | some m => bif NestedKey.beq m n then some v else lookD n ks vs
    | none => none
  | _, _ => none
theorem lookD_some : ∀ {n : NestedKey} {xs : List (NestedKey × Addr × Value)} {vv : List V} {ks vs : List D} {d : D}, nks ks = some (xs.map (·.1)) → Vals vv (xs.map (·.2.2)) → Reps X.K F m H vv vs → lookD n ks vs = some d → ∃ p v, atKey xs n = some p ∧ RelV v p.2 ∧ Rep X.K F m H v d
  | n, [], vv, ks, vs, d, e1, e2, r, h => by
    cases ks with
    | nil => unfold lookD at h; cases h
    | cons k ks =>
      unfold nks at e1
      cases q : nk k <;> rw [q] at e1 <;> (try (cases q2 : nks ks <;> rw [q2] at e1)) <;> cases e1
  | n, x :: xs, vv, ks, vs, d, e1, e2, r, h => by
    cases ks with
    | nil => unfold lookD at h; cases h
    | cons k ks =>
      cases e2 with
      | cons r1 e2 =>
      cases r with
      | cons rv rs =>
      unfold nks at e1
      cases q : nk k with
      | none => rw [q] at e1; cases e1
      | some k' =>
        cases q2 : nks ks with
        | none => rw [q, q2] at e1; cases e1
        | some ks' =>
          rw [q, q2] at e1
          have e1 := Option.some.inj e1
          rw [List.map_cons] at e1
          obtain ⟨e3, e4⟩ := List.cons.inj e1
          subst e3
          unfold lookD at h
          rw [q] at h
          have h : (bif NestedKey.beq x.1 n then some _ else lookD n ks _) = some d := h
          cases b : NestedKey.beq x.1 n with
          | true =>
            rw [b] at h
            cases Option.some.inj (show some _ = some d from h)
            have e5 := NestedKey.eq_of_beq _ _ b
            refine ⟨x.2, _, ?_, r1, rv⟩
            unfold atKey
            rw [List.find?_cons, decide_eq_true e5]
            rfl
          | false =>
            rw [b] at h
            obtain ⟨p, v, h1, h2, h3⟩ := lookD_some (xs := xs) (by rw [q2, e4]) e2 rs (show lookD n ks _ = some d from h)
            refine ⟨p, v, ?_, h2, h3⟩
            have ne : ¬ x.1 = n := fun e => by rw [e, NestedKey.beq_self] at b; cases b
            unfold atKey
            rw [List.find?_cons, decide_eq_false ne]
            exact h1
end
section
variable {X : Cx} {F : Ev}
def ixD (x y : D) : T D := match x with
  | .dct ks vs => match y with
    | .tup ds => (ofO (nk (.tup ds))).bind fun n => guardT (Nat.ble n.depth 8) (ofO (lookD n ks vs))
    | _ => .fail
  | _ => .fail
def eIxD (f g : Ex) : Ex := fun fr hp => (f fr hp).bind fun x => (g fr hp).bind fun y => ixD x y
theorem all_ixD {x y : D} {P : D → Prop} (h : (ixD x y).all P) : ∃ ks vs ds n d, x = .dct ks vs ∧ y = .tup ds ∧ nk (.tup ds) = some n ∧ n.depth ≤ 8 ∧ lookD n ks vs = some d ∧ P d := by
  unfold ixD at h
  split at h
  · split at h
    · obtain ⟨n, e, h⟩ := all_ofO (T.all_bind h)
      obtain ⟨hd, h⟩ := all_guard h
      obtain ⟨d, e2, h⟩ := all_ofO h
      exact ⟨_, _, _, n, d, rfl, rfl, e, Nat.le_of_ble_eq_true hd, e2, h⟩
    · exact h.elim
  · exact h.elim
def rIxD (X : Cx) (F : Ev) : R2 := fun x y H Q => ∃ (m : List Addr) (a b : Addr) (xs : List (NestedKey × Addr × Value)) (ep : Nat) (vv : List V) (ks : List D) (n : NestedKey) (p : Addr × Value) (v : V) (ds : List D), x = .ref a ∧ y = .ref b ∧ H a = some (dctO F.w xs ep a) ∧ DctOk xs vv ks ∧ Reps X.K F m H (dKeys xs) ks ∧ Rep X.K F m H (.ref b) (.tup ds) ∧ nk (.tup ds) = some n ∧ n.depth ≤ 8 ∧ atKey xs n = some p ∧ RelV v p.2 ∧ Q v H
theorem ix_dct (hu : X.A.units + 64 < cLine) (hw : F.w = X.w) : IxR X (rIxD X F) := by
  intro value slice pins s σ H x y v u Q I rx ry h hs
  obtain ⟨m, a, b, xs, ep, vv, ks, n, p, w', ds, rfl, rfl, h1, ok, rk, rb, hn, hd, hp, rv, q⟩ := h
  cases rx
  cases ry
  have dd := dct_of I hw h1 ok rk
  have nb := Rep.nest I (.tup ds) (.ref b) (.ref b) n rb rfl hn
  have hu1 : (nestedKind X.prog X.w).room X.A.in1 := by
    show X.A.units + 1 + 8 < cLine
    omega
  exact subscriptTail_builtinR (x := p.2) dd.typeIs slot_dict_getitem.lookup (wpAny_getItem_heap (Q := fun r s' => r = p.2 ∧ EP X pins σ Q r s') hu1 ⟨nb, hd⟩ dd hp ⟨rfl, _, H, I.tok _, rv, q⟩) hs
theorem zixd {a b : Expr} {f g : Ex} {pos : Pos} (hu : X.A.units + 64 < cLine) (hw : F.w = X.w) (ha : PE X a (tX X.K F f)) (hb : PE X b (tX X.K F g)) (hs : PlainIx b := by exact fun _ _ => rfl) : PE X (.Subscript a b pos) (tX X.K F (eIxD f g)) :=
  PEimp (pe_ix (ix_dct (F := F) hu hw) ha hb hs) fun σ H Q h => by
    obtain ⟨ρ, m0, m1, fr, hp, a, h⟩ := h
    refine tX_mk a (T.all_bind h) fun x hx H1 v k1 a1 rx => ?_
    refine tX_mk a1 (T.all_bind hx) fun y hy H2 u k2 a2 ry => ?_
    obtain ⟨ks, vs, ds, n, d, rfl, rfl, hn, hd, hl, hk⟩ := all_ixD hy
    have rx2 := rx.on a1.own k2
    cases rx2 with
    | dct hna e ok r1 r2 =>
      obtain ⟨p, v, h1, h2, h3⟩ := lookD_some ok.nk ok.vs r2 hl
      have ry0 := ry
      obtain ⟨b, _, rfl, _⟩ := ry.tupR
      exact ⟨m0 ++ m1, _, b, _, _, _, ks, n, p, v, ds, rfl, rfl, e, ok, r1, ry0, hn, hd, h1, h2, hk H2 v (k1.trans k2) a2.row h3⟩
end
end Zl
set_option Elab.async false
set_option linter.all false
set_option maxRecDepth 100000
set_option maxHeartbeats 2000000
/-! ZO: {k: v for .. in ..} for any kind of dict object that a store can turn. -/
namespace Zl
open PySem L2 PySem.Spec PyProof.Rows
/-- D[y] = z, over the abstract heap: what must be known before, and what then holds -/
def StoreR (X : Cx) (St : Addr → V → V → Hp → (Hp → Prop) → Prop) : Prop :=
  ∀ (Y : Cx), Y.prog = X.prog → Y.w = X.w → Y.K = X.K → Y.A = X.A → ∀ (pins : List (Addr × Obj)) (σ : L2.St) (H : Hp) (s : Shared) (D : Addr) (y z : V) (u r : Value) (N : Hp → Prop) (E : Value → Shared → Prop), Inv Y pins σ H s → RelV y u → RelV z r → St D y z H N →
    wpAny (model X.prog X.w) X.A (dictSet D u r) (fun _ s' => ∃ H', Inv Y pins σ H' s' ∧ N H') E s
def tDcG (wi : TI) (g : TG) (tt : TT) (tk tv : TE) (vs : List Nat) (o0 : Addr → HO) (St : Addr → V → V → Hp → (Hp → Prop) → Prop) : TE := fun σ H Q => wi σ H fun J H1 => ∀ D, H1 D = none → ∃ W : Nat → Nat → Hp → Prop, (∃ m, W 0 m (upd H1 D (o0 D))) ∧ ∀ i m H, W i m H →
  (J.stop i H ∧ Q (.ref D) H) ∨ (J.go i H ∧ ∃ Nx : Hp → Prop, (∀ H', Nx H' → ∃ m', m' < m ∧ W (i + 1) m' H') ∧ ∀ x H', J.yld i H x H' → g x (wipe σ vs) H' fun σ2 H2 => wipe σ2 vs = wipe σ vs ∧ tt σ2 H2 fun b H3 =>
    if b = true then tk σ2 H3 fun y H4 => tv σ2 H4 fun z H5 => St D y z H5 Nx else Nx H3)
section
variable {X : Cx}
theorem dcg_core {pins : List (Addr × Obj)} {s : Shared} {σ : L2.St} {H : Hp} {Q : VK} {kx vx tg iter : Expr} {ifs : List Expr} {sc : Scope} {own : List (Str × Nat)} {pos pos' : Pos} {wi : TI} {g : TG} {tt : TT} {tk tv : TE} {use : Option (Value → Sem Unit)} {Qf : Value → Shared → Prop} {o0 : Addr → HO} {St : Addr → V → V → Hp → (Hp → Prop) → Prop}
    (hc : X.calm = true) (hN : X.N.Nodup) (I : Inv X pins σ H s) (hi : PI X tg iter wi) (ok : BlkOk X.N X.env.scope sc own)
    (h0 : ∀ (h : Heap) (H : Hp), sysModules < h.objs.size → ObjOk X.prog X.w H (h.push { cls := .type "dict", data := .dict #[] }) h.objs.size (o0 h.objs.size)) (hst : StoreR X St)
    (hg : ∀ (s : Shared) (H : Hp) (C : Addr) (cl : List (Str × Addr)) (fp : List Addr), PG (X.blk s H sc (compEnvC sc cl C X.env) fp) tg g) (ht : ∀ (s : Shared) (H : Hp) (C : Addr) (cl : List (Str × Addr)) (fp : List Addr), PTs (X.blk s H sc (compEnvC sc cl C X.env) fp) ifs tt)
    (hk : ∀ (s : Shared) (H : Hp) (C : Addr) (cl : List (Str × Addr)) (fp : List Addr), PE (X.blk s H sc (compEnvC sc cl C X.env) fp) kx tk) (he : ∀ (s : Shared) (H : Hp) (C : Addr) (cl : List (Str × Addr)) (fp : List Addr), PE (X.blk s H sc (compEnvC sc cl C X.env) fp) vx tv)
    (hs : ∀ x, foldedSetIterable iter X.env x = pure x) (h : tDcG wi g tt tk tv (own.map (·.2)) o0 St σ H Q)
    (hRR : ∀ D C s' m H', Inv X pins σ H' s' → Q (.ref D) H' → s'.heap.Ns C m → FpOk X pins H' C → compPost (model X.prog X.w) X.A X.xe use Qf (.ref D) C (.ok .next) s') :
    wpAny (model X.prog X.w) X.A (comprehension (.DictComp kx vx [⟨tg, iter, ifs, 0⟩] sc pos) sc X.env pos' newDict false (eval iter X.env) use) Qf X.xe s := by
  have cl : ∀ y ∈ sc.names, y.2 = .free → ∃ c, X.env.cells.lookup y.1 = some c := fun y hy e => (ok.free y hy e).elim (fun k => I.ok.has _ (.inl k)) fun k => I.ok.has _ (.inr k)
  refine wpAny_comprehension_free (use := use) rfl hs (closure_ok cl) ok.kind (fun y hy e => by rw [ok.uniq y hy, e]) (thn (hi.run pins s σ H _ I h) fun _ sA hA => thn hA fun _ sB hB => ?_)
  obtain ⟨it, fp, tn, J, HB, rfl, IB, T, tB, fB, q⟩ := hB
  refine wpAny_newObj_type (newEnv_comp ?_)
  have hDn : HB sB.heap.objs.size = none := IB.hok.fresh (Nat.le_refl _)
  obtain ⟨W, ⟨m0, w0⟩, turn⟩ := q _ hDn
  -- the dict is laid
  have new := h0 sB.heap (upd HB sB.heap.objs.size (o0 sB.heap.objs.size)) IB.big
  generalize eD : sB.heap.objs.size = D at *
  generalize eC : ({ sB with heap := sB.heap.push { cls := .type "dict", data := .dict #[] } } : Shared) = sC
  have hC : sC.heap = sB.heap.push { cls := .type "dict", data := .dict #[] } := by rw [← eC]
  have kBC : ∀ b o, sB.heap.get? b = some o → sC.heap.get? b = some o := fun b o e => by rw [hC]; exact Heap.get?_push_of_some _ e
  have IC : Inv X pins σ (upd HB D (o0 D)) sC := by
    rw [← eC]
    exact IB.laid (t' := sB.toks) (fun b o e => Heap.get?_push_of_some _ e) (Nat.le_of_eq eD) new
  have low : ∀ b ∈ fp, b < D := fun b hb => by
    obtain ⟨o, e, _⟩ := T.obj _ _ tB b hb
    rw [← eD]
    exact Heap.lt_size e
  have fC : ∀ b ∈ fp, FpOk X pins (upd HB D (o0 D)) b ∧ b < sC.heap.objs.size := fun b hb =>
    ⟨⟨(upd_ne (Nat.ne_of_lt (low b hb))).trans (fB b hb).1, (fB b hb).2⟩, by rw [hC, Heap.size_push, eD]; exact Nat.lt_succ_of_lt (low b hb)⟩
  have IK := block_start IC ok hN fC
  -- the block's own parts
  generalize eN : sC.heap.objs.size = C at *
  have pg := hg sC (upd HB D (o0 D)) C (cellsFrom (C + 1) sc.names (cloFrom X.env.cells sc.names [])) fp
  have pt := ht sC (upd HB D (o0 D)) C (cellsFrom (C + 1) sc.names (cloFrom X.env.cells sc.names [])) fp
  have pk := hk sC (upd HB D (o0 D)) C (cellsFrom (C + 1) sc.names (cloFrom X.env.cells sc.names [])) fp
  have pv := he sC (upd HB D (o0 D)) C (cellsFrom (C + 1) sc.names (cloFrom X.env.cells sc.names [])) fp
  show codeAny _ _ (.compStart (.DictComp kx vx [⟨tg, iter, ifs, 0⟩] sc pos) 0 (.ref it) (.ref D) (compEnvC sc (cellsFrom (C + 1) sc.names (cloFrom X.env.cells sc.names [])) C X.env)) (compPost (model X.prog X.w) X.A X.xe use Qf (.ref D) C) { sC with heap := pushCells (sC.heap.push { cls := .type "dict", data := .dict #[] }) sc.names }
  generalize eE : compEnvC sc (cellsFrom (C + 1) sc.names (cloFrom X.env.cells sc.names [])) C X.env = ce at IK pg pt pk pv ⊢
  have eL : ce.locals = C := by rw [← eE]; rfl
  generalize eK : ({ sC with heap := pushCells (sC.heap.push { cls := .type "dict", data := .dict #[] }) sc.names } : Shared) = sK at IK ⊢
  have tK : tn 0 sK.heap := T.keep _ _ _ tB fun b _ o e => by rw [← eK]; exact pushCells_keeps _ _ _ _ (Heap.get?_push_of_some _ (kBC b o e))
  have free0 : ∀ b ∈ fp, (upd HB D (o0 D)) b = none := fun b hb => (fC b hb).1.1
  generalize eH : upd HB D (o0 D) = HC at *
  let Y := X.blk sC HC sc ce fp
  have okfp : ∀ {σ' : L2.St} {H' : Hp} {s' : Shared}, Inv Y [] σ' H' s' → (∀ b ∈ fp, H' b = none) → ∀ b ∈ fp, FpOk Y [] H' b := fun {σ' H' s'} I' hn b hb =>
    ⟨hn b hb, (I'.ok.exf b hb).1, I'.ok.exfs b hb, .inl hb, fun x c e => (I'.ok.exf b hb).2 x c e, fun p hp => (List.not_mem_nil (show p ∈ ([] : List (Addr × Obj)) from hp)).elim⟩
  let Pn : Nat → Shared → Prop := fun n s' => ∃ i H', Inv Y [] (wipe σ (own.map (·.2))) H' s' ∧ tn i s'.heap ∧ (∀ b ∈ fp, H' b = none) ∧ W i n H'
  have loop : codeAny (model X.prog X.w) X.A (.compLoop (.DictComp kx vx [⟨tg, iter, ifs, 0⟩] sc pos) 0 (.ref it) (.ref D) ce) (compPost (model X.prog X.w) X.A X.xe use Qf (.ref D) C) sK := by
    refine compLoop_anyD Pn ?_ m0 ⟨0, HC, IK, tK, free0, w0⟩
    rintro n s5 ⟨i, H5, I5, t5, n5, w5⟩
    rcases turn i n H5 w5 with ⟨stop, qq⟩ | ⟨go, Nx, hNx, step⟩
    · refine thnF (T.done Y rfl rfl rfl hc i [] s5 _ H5 (fun _ _ => False) I5 (okfp I5 n5) t5 stop) fun r s6 hr => ?_
      obtain ⟨rfl, I6⟩ := hr
      have back : Inv X pins σ H5 s6 := IC.call' (ch := fp) I6.os I6.base I6.hok I6.bare fun b hb => ⟨(fC b hb).1.2.2.2.1, (fC b hb).1.2.1, (fC b hb).1.2.2.2.2.1, (fC b hb).1.2.2.2.2.2⟩
      have nC : H5 C = none := by rw [← eL]; exact I6.free
      obtain ⟨mm, hn, _⟩ := I6.loc
      have hn : s6.heap.Ns ce.locals mm := hn
      rw [eL] at hn
      exact hRR D C s6 mm H5 back qq hn (IC.fpOk (Nat.le_of_eq eN) nC)
    · refine thnF (T.item Y rfl rfl rfl hc i [] s5 _ H5 (fun _ _ => False) I5 (okfp I5 n5) t5 go) fun r s6 hr => ?_
      obtain ⟨u, rfl, h6⟩ := hr
      refine thnF h6 fun _ s7 h7 => ?_
      obtain ⟨x, H7, I7, r7, y7, t7, n7⟩ := h7
      refine thnF (pg.run _ s7 _ H7 x u _ (I7.pinned (okfp I7 n7) (T.obj _ _ t7)) r7 (step x H7 y7)) fun _ s8 h8 => ?_
      obtain ⟨σ8, H8, I8, ew, q8⟩ := h8
      refine thnF (pt.run _ s8 σ8 H8 _ I8 q8) fun b s9 h9 => ?_
      obtain ⟨H9, I9, q9⟩ := h9
      have next : ∀ (s' : Shared) (H' : Hp), Inv Y ([] ++ pinsAt fp s7.heap) σ8 H' s' → Nx H' → ∃ k, k < n ∧ Pn k s' := fun s' H' I' nx => by
        obtain ⟨k, hk, w'⟩ := hNx H' nx
        have there : ∀ b ∈ fp, ∃ o, s7.heap.get? b = some o ∧ s'.heap.get? b = some o ∧ H' b = none := fun b hb => by
          obtain ⟨o, e, _⟩ := T.obj _ _ t7 b hb
          have z := I'.pin (b, o) (List.mem_append_right _ (List.mem_append_right _ (mem_pinsAt hb e)))
          exact ⟨o, e, z.1, z.2.1⟩
        refine ⟨k, hk, i + 1, H', (I'.unpinned (pins := [])).weak (by rw [← wipe_length σ8 (own.map (·.2)), ← ew]) (fun j v e => ?_), T.keep _ _ _ t7 fun b hb o e => ?_, fun b hb => (there b hb).elim fun _ z => z.2.2, w'⟩
        · rw [← ew] at e
          exact (wipe_some e).1
        · obtain ⟨o', e1, e2, _⟩ := there b hb
          rw [e] at e1
          cases e1
          exact e2
      cases b with
      | false => exact next s9 H9 I9 q9
      | true =>
        refine thnF (pk.run _ s9 σ8 H9 _ I9 q9) fun z s10 h10 => ?_
        obtain ⟨yk, H10, I10, r10, q10⟩ := h10
        refine thnF (pv.run _ s10 σ8 H10 _ I10 q10) fun z2 s11 h11 => ?_
        obtain ⟨yv, H11, I11, r11, q11⟩ := h11
        refine thn (hst Y rfl rfl rfl rfl _ σ8 H11 s11 D yk yv z z2 Nx _ I11 r10 r11 q11) fun _ s12 h12 => ?_
        obtain ⟨H12, I12, nx⟩ := h12
        exact next s12 H12 I12 nx
  exact codeAny_compStart_dict loop (T.self X.A 0 _ _ _ tK loop)
theorem pe_dcg {kx vx tg iter : Expr} {ifs : List Expr} {sc : Scope} {own : List (Str × Nat)} {pos : Pos} {wi : TI} {g : TG} {tt : TT} {tk tv : TE} {o0 : Addr → HO} {St : Addr → V → V → Hp → (Hp → Prop) → Prop} (hc : X.calm = true) (hN : X.N.Nodup) (hi : PI X tg iter wi) (ok : BlkOk X.N X.env.scope sc own)
    (h0 : ∀ (h : Heap) (H : Hp), sysModules < h.objs.size → ObjOk X.prog X.w H (h.push { cls := .type "dict", data := .dict #[] }) h.objs.size (o0 h.objs.size)) (hst : StoreR X St)
    (hg : ∀ (s : Shared) (H : Hp) (C : Addr) (cl : List (Str × Addr)) (fp : List Addr), PG (X.blk s H sc (compEnvC sc cl C X.env) fp) tg g) (ht : ∀ (s : Shared) (H : Hp) (C : Addr) (cl : List (Str × Addr)) (fp : List Addr), PTs (X.blk s H sc (compEnvC sc cl C X.env) fp) ifs tt)
    (hk : ∀ (s : Shared) (H : Hp) (C : Addr) (cl : List (Str × Addr)) (fp : List Addr), PE (X.blk s H sc (compEnvC sc cl C X.env) fp) kx tk) (he : ∀ (s : Shared) (H : Hp) (C : Addr) (cl : List (Str × Addr)) (fp : List Addr), PE (X.blk s H sc (compEnvC sc cl C X.env) fp) vx tv)
    (hs : ∀ x, foldedSetIterable iter X.env x = pure x := by intro _; rfl) : PE X (.DictComp kx vx [⟨tg, iter, ifs, 0⟩] sc pos) (tDcG wi g tt tk tv (own.map (·.2)) o0 St) := by
  constructor
  intro pins s σ H Q I h
  rw [arm_eval_DictComp]
  refine dcg_core hc hN I hi ok h0 hst hg ht hk he hs h fun D C s' mm H' I' q hn f => ⟨mm, hn, fun h2 sb => ?_⟩
  obtain ⟨f0, f1, _, f3, f4, f5⟩ := f
  exact ⟨.ref D, H', I'.turned (t' := s'.toks) (fun b o hb e => (sb.2 b hb).trans e) f0 f1 f3 f4 f5, rfl, q⟩
/-! ### keys that are tuples -/
variable {F : Ev}
theorem dct_ok {w : World} {h : Heap} {H : Hp} {a : Addr} {xs : List (NestedKey × Addr × Value)} (hs : (a == sysModules) = false) (x : h.DictOfH (nestedKind X.prog X.w) a xs) (hw : w = X.w) : ∃ ep, ObjOk X.prog X.w H h a (dctO w xs ep a) := by
  obtain ⟨o, es, ep, ho, hc, hd, he, _⟩ := x
  subst hw
  exact ⟨ep, ⟨hs, o, es, ho, hc, hd, he⟩, ⟨o, ho⟩, fun h1 h2 p k => let ⟨q, o, es, ho, r⟩ := p; ⟨q, o, es, k o ho, r⟩⟩
def StN (X : Cx) (F : Ev) : Addr → V → V → Hp → (Hp → Prop) → Prop := fun D y z H N => ∃ (m : List Addr) (xs : List (NestedKey × Addr × Value)) (ep : Nat) (vv : List V) (ks : List Zl.D) (ka : Addr) (ds : List Zl.D) (n : NestedKey), y = .ref ka ∧ H D = some (dctO F.w xs ep D) ∧ DctOk xs vv ks ∧ Reps X.K F m H (dKeys xs) ks ∧ Rep X.K F m H (.ref ka) (.tup ds) ∧ nk (.tup ds) = some n ∧ n.depth ≤ 8 ∧ n ∉ xs.map (·.1) ∧
  ∀ r ep', RelV z r → N (upd H D (dctO F.w (xs ++ [(n, ka, r)]) ep' D))
theorem store_nested (hu : X.A.units + 64 < cLine) (hw : F.w = X.w) : StoreR X (StN X F) := by
  intro Y e1 e2 e3 e4 pins σ H s D y z u r N E I ry rz h
  obtain ⟨m, xs, ep, vv, ks, ka, ds, n, rfl, hD, ok, rk, rb, hn, hd, hf, k⟩ := h
  cases ry
  rw [← e3] at rk rb
  have dd := dct_of (F := F) I (hw.trans e2.symm) hD ok rk
  have nb := Rep.nest I (.tup ds) (.ref ka) (.ref ka) n rb rfl hn
  rw [← e1, ← e2]
  have room : (nestedKind Y.prog Y.w).room X.A := by
    show X.A.units + 8 < cLine
    omega
  have hz : xs.length ≤ sizeLine := Nat.le_trans ok.sz (by decide)
  refine wpAny_dictSet_heap (knd := nestedKind Y.prog Y.w) room ⟨nb, hd⟩ dd (fun h' dd' sb => ?_) hz
  have no : atKey xs n = none := atKey_none_of_get fun j p e => hf (List.mem_map.mpr ⟨(n, p), List.mem_of_getElem? e, rfl⟩)
  rw [storedH_new no] at dd'
  have he : ∃ q, h'.get? D = some q := let ⟨q, _, _, hq, _⟩ := dd'; ⟨q, hq⟩
  have hs : (D == sysModules) = false := (show ObjOk Y.prog Y.w H s.heap D (dctO F.w xs ep D) from I.hok D _ hD).1.1
  obtain ⟨ep', new⟩ := dct_ok (X := Y) (H := upd H D (.own D)) hs dd' (hw.trans e2.symm)
  exact ⟨_, d_write I (by rw [hD]; exact True.intro) sb he new, k r ep' rz⟩
end
end Zl
set_option Elab.async false
set_option linter.all false
set_option maxRecDepth 100000
set_option maxHeartbeats 2000000
/-! ZP: {k: v for .. in ..}, keys tuples, as a value. -/
namespace Zl
open PySem L2 PySem.Spec PyProof.Rows
/-- the key n is not among ks -/
def freshK (n : NestedKey) : List D → Bool
  | [] => true
  | k :: ks => match nk k with
    | some m => bif NestedKey.beq m n then false else freshK n ks
    | none => false
theorem freshK_of {n : NestedKey} : ∀ {ks : List D} {ns : List NestedKey}, freshK n ks = true → nks ks = some ns → n ∉ ns
  | [], ns, _, e => by cases e; simp
  | k :: ks, ns, h, e => by
    unfold nks at e
    unfold freshK at h
    cases q : nk k with
    | none => rw [q] at e; cases e
    | some k' =>
      cases q2 : nks ks with
      | none => rw [q, q2] at e; cases e
      | some ks' =>
        rw [q, q2] at e
        cases e
        rw [q] at h
        have h : (bif NestedKey.beq k' n then false else freshK n ks) = true := h
        cases b : NestedKey.beq k' n with
        | true => rw [b] at h; cases h
        | false =>
          rw [b] at h
          have ih := freshK_of (ks := ks) h q2
          intro z
          rcases List.mem_cons.mp z with z | z
          · rw [z, NestedKey.beq_self] at b; cases b
          · exact ih z
theorem nks_append : ∀ {ks : List D} {ns : List NestedKey} {k : D} {n : NestedKey}, nks ks = some ns → nk k = some n → nks (ks ++ [k]) = some (ns ++ [n])
  | [], ns, k, n, e, h => by
    cases e
    show (match nk k, nks [] with | some k, some ks => some (k :: ks) | _, _ => none) = _
    rw [h]
    rfl
  | x :: ks, ns, k, n, e, h => by
    unfold nks at e
    cases q : nk x with
    | none => rw [q] at e; cases e
    | some k' =>
      cases q2 : nks ks with
      | none => rw [q, q2] at e; cases e
      | some ks' =>
        rw [q, q2] at e
        cases e
        show (match nk x, nks (ks ++ [k]) with | some k, some ks => some (k :: ks) | _, _ => none) = _
        rw [q, nks_append q2 h]
        rfl
/-- one more entry -/
def putD (ks vs : List D) (y z : D) : T (List D × List D) := match y with
  | .tup ds => (ofO (nk (.tup ds))).bind fun n => guardT (Nat.ble n.depth 8 && freshK n ks && few ks 9000) (.ret (ks ++ [y], vs ++ [z]))
  | _ => .fail
theorem all_putD {ks vs : List D} {y z : D} {P : List D × List D → Prop} (h : (putD ks vs y z).all P) : ∃ ds n, y = .tup ds ∧ nk (.tup ds) = some n ∧ n.depth ≤ 8 ∧ freshK n ks = true ∧ ks.length ≤ 9000 ∧ P (ks ++ [y], vs ++ [z]) := by
  unfold putD at h
  split at h
  · obtain ⟨n, e, h⟩ := all_ofO (T.all_bind h)
    obtain ⟨hg, h⟩ := all_guard h
    rw [Bool.and_eq_true, Bool.and_eq_true] at hg
    exact ⟨_, n, rfl, e, Nat.le_of_ble_eq_true hg.1.1, hg.1.2, few_le hg.2, h⟩
  · exact h.elim
def dcF (set : D → Fr → T Fr) (t : Fr → Hz → T Bool) (ek ev : Ex) : List D → Fr → Hz → List D → List D → T D
  | [], _, _, ks, vs => .ret (.dct ks vs)
  | d :: ds, fr, hp, ks, vs => (set d fr).bind fun fr1 => (t fr1 hp).bind fun b => bif b then (ek fr1 hp).bind fun y => (ev fr1 hp).bind fun z => (putD ks vs y z).bind fun q => dcF set t ek ev ds fr hp q.1 q.2 else dcF set t ek ev ds fr hp ks vs
def eDc (it : Fr → Hz → T (List D)) (set : D → Fr → T Fr) (t : Fr → Hz → T Bool) (ek ev : Ex) (own : List Nat) : Ex := fun fr hp => (it fr hp).bind fun ds => dcF set t ek ev ds (wipeF fr own) hp [] []
section
variable (K : PySem.W.Frag) (F : Ev)
/-- the new dict at B, behind the heap H1 -/
structure DcI (ρ : Option Addr) (m0 m1 : List Addr) (H1 : Hp) (B : Addr) (H : Hp) (ks vs : List D) : Prop where
  dct : ∃ xs ep vv, H B = some (dctO F.w xs ep B) ∧ DctOk xs vv ks ∧ Reps K F ((B :: m0) ++ m1) H (dKeys xs) ks ∧ Reps K F ((B :: m0) ++ m1) H vv vs
  keep : ∀ a o, ρ ≠ some a → H1 a = some o → H a = some o
  row : RowA K ρ H
end
section
variable {K : PySem.W.Frag} {F : Ev} {ρ : Option Addr} {m0 m1 : List Addr} {H1 H H' : Hp} {B : Addr} {ks vs : List D} {σ : L2.St} {fr : Fr} {hp : Hz}
theorem DcI.start (a : At K F ρ m0 m1 H1 σ fr hp) (hB : H1 B = none) : DcI K F ρ m0 m1 H1 B (upd H1 B (dctO F.w [] 0 B)) [] [] :=
  ⟨⟨[], 0, [], upd_same, ⟨rfl, .nil, fun x h => (List.not_mem_nil h).elim, .nil, Nat.zero_le _⟩, .nil, .nil⟩, fun c o _ e => same_new hB c o e, a.row.same (same_new hB)⟩
theorem DcI.later (I : DcI K F ρ m0 m1 H1 B H ks vs) (own : ∀ a, ρ = some a → a ∈ m0) (hB : H1 B = none) : Later (m0 ++ m1) H1 ((B :: m0) ++ m1) H where
  new := fun a q => (List.mem_cons.mp q).elim (fun z => .inr (by rw [z]; exact hB)) .inl
  keep := fun a o n e => I.keep a o (fun z => n (List.mem_append_left _ (own a z))) e
theorem DcI.at (I : DcI K F ρ m0 m1 H1 B H ks vs) (a : At K F ρ m0 m1 H1 σ fr hp) (hB : H1 B = none) : At K F ρ (B :: m0) m1 H σ fr hp := by
  have l := I.later a.own hB
  have hBm := a.sim.new hB
  refine ⟨⟨a.fr.len, fun i s e => ?_⟩, ⟨a.sim.len, a.sim.nd, fun c q => ?_, fun c q z => ?_, fun n c e => ?_⟩, I.row, fun c e => List.mem_cons_of_mem _ (a.own c e)⟩
  · obtain ⟨v, e1, r⟩ := a.fr.slot i s e
    refine ⟨v, e1, ?_⟩
    cases s with
    | v d => exact Rep.later r l
    | r n => exact r
    | row => exact r
  · rcases List.mem_cons.mp q with z | z
    · rw [z]; exact fun w => hBm (List.mem_append_right _ w)
    · exact a.sim.dis c z
  · have q : c = B ∨ c ∈ m0 ++ m1 := by simpa using q
    rcases q with y | y
    · obtain ⟨xs, ep, vv, e, _⟩ := I.dct
      rw [y, e] at z; cases z
    · by_cases hr : ρ = some c
      · obtain ⟨_, _, _, _, _, e1, _⟩ := I.row c hr
        rw [e1] at z; cases z
      · cases e : H1 c with
        | none => exact a.sim.dom c y e
        | some o => rw [I.keep c o hr e] at z; cases z
  · obtain ⟨b, e1, cr⟩ := a.sim.cell n c e
    exact ⟨b, e1, cr.tr (fun ob => I.keep b ob (fun z => a.sim.dis b (a.own b z) (List.mem_of_getElem? e1))) fun vs ds r => r.later l⟩
theorem DcI.on (I : DcI K F ρ m0 m1 H1 B H ks vs) (own : ∀ a, ρ = some a → a ∈ m0) (ne : ρ ≠ some B) (k : Keep ρ H H') (w : RowA K ρ H') : DcI K F ρ m0 m1 H1 B H' ks vs := by
  obtain ⟨xs, ep, vv, e, ok, r1, r2⟩ := I.dct
  have own' : ∀ a, ρ = some a → a ∈ B :: m0 := fun a z => List.mem_cons_of_mem _ (own a z)
  exact ⟨⟨xs, ep, vv, k _ _ ne e, ok, Reps.on (m0 := B :: m0) r1 own' k, Reps.on (m0 := B :: m0) r2 own' k⟩, fun a o n q => k a o n (I.keep a o n q), w⟩
theorem DcI.push (I : DcI K F ρ m0 m1 H1 B H ks vs) (a : At K F ρ m0 m1 H1 σ fr hp) (hB : H1 B = none) {ka : Addr} {ds : List D} {z : V} {d : D} {n : NestedKey} {xs : List (NestedKey × Addr × Value)} {ep : Nat} {vv : List V} (ex : H B = some (dctO F.w xs ep B)) (ok : DctOk xs vv ks) (rv : Reps K F ((B :: m0) ++ m1) H vv vs) (rk : Reps K F ((B :: m0) ++ m1) H (dKeys xs) ks)
    (ry : Rep K F ((B :: m0) ++ m1) H (.ref ka) (.tup ds)) (rz : Rep K F ((B :: m0) ++ m1) H z d) (hn : nk (.tup ds) = some n) (hd : n.depth ≤ 8) (hf : freshK n ks = true) (hl : ks.length ≤ 9000) {r : Value} {ep' : Nat} (hr : RelV z r) :
    DcI K F ρ m0 m1 H1 B (upd H B (dctO F.w (xs ++ [(n, ka, r)]) ep' B)) (ks ++ [.tup ds]) (vs ++ [d]) := by
  have ku : ∀ c o, c ∉ (B :: m0) ++ m1 → H c = some o → (upd H B (dctO F.w (xs ++ [(n, ka, r)]) ep' B)) c = some o := fun c o q e => by
    rw [upd_ne (fun z => q (by rw [z]; simp))]
    exact e
  have up : ∀ {v : V} {d : D}, Rep K F ((B :: m0) ++ m1) H v d → Rep K F ((B :: m0) ++ m1) (upd H B (dctO F.w (xs ++ [(n, ka, r)]) ep' B)) v d := fun {v d} q => Rep.keep (fun c q => .inl q) ku d v q
  have ups : ∀ {v : List V} {d : List D}, Reps K F ((B :: m0) ++ m1) H v d → Reps K F ((B :: m0) ++ m1) (upd H B (dctO F.w (xs ++ [(n, ka, r)]) ep' B)) v d := fun {v d} q => Reps.keep (fun c q => .inl q) ku d v q
  have hx : xs.length = ks.length := by
    have := rk.length
    unfold dKeys at this
    rw [List.length_map] at this
    exact this
  refine ⟨⟨xs ++ [(n, ka, r)], ep', vv ++ [z], upd_same, ⟨?_, ?_, fun x hx => ?_, ?_, ?_⟩, ?_, Reps.append (ups rv) (.cons (up rz) .nil)⟩, fun c o q e => ?_, fun c q => ?_⟩
  · rw [List.map_append]
    exact nks_append ok.nk hn
  · rw [List.map_append]
    refine List.nodup_append.mpr ⟨ok.nd, by simp, fun x hx y hy e => ?_⟩
    have : y = n := by simpa using hy
    rw [e, this] at hx
    exact freshK_of hf ok.nk hx
  · rcases List.mem_append.mp hx with q | q
    · exact ok.dp x q
    · have : x = (n, ka, r) := by simpa using q
      rw [this]; exact hd
  · rw [List.map_append]
    exact ok.vs.append (.cons hr .nil)
  · rw [List.length_append, hx]
    simp only [List.length_cons, List.length_nil]
    omega
  · unfold dKeys
    rw [List.map_append]
    exact Reps.append (ups rk) (.cons (up ry) .nil)
  · have hc : c ≠ B := fun z => by rw [z, hB] at e; cases e
    rw [upd_ne hc]
    exact I.keep c o q e
  · have hc : B ≠ c := fun z => a.rowN B (by rw [z]; exact q) hB
    refine (I.row c q).keep (fun xs z => by rw [upd_ne (Ne.symm hc)]; exact z) fun s o xs z => ?_
    have hs : s ≠ B := fun w => by rw [w, ex] at z; cases z
    rw [upd_ne hs]
    exact z
end
section
variable {X : Cx} {F : Ev}
theorem dc_core' {L : Bool} {it : Fr → Hz → T (List D)} {set : D → Fr → T Fr} {t : Fr → Hz → T Bool} {ek ev : Ex} {own : List Nat} {g : TG} {σ : L2.St} {H : Hp} {Q : VK} (hs : TgC X.K F L own set g) (h : tX X.K F (eDc it set t ek ev own) σ H Q) :
    tDcG (tI X.K F L it) g (tB' X.K F t) (tX X.K F ek) (tX X.K F ev) own (dctO F.w [] 0) (StN X F) σ H Q := by
  obtain ⟨ρ, m0, m1, fr, hp, a, h⟩ := h
  refine tI_mk a (T.all_bind h) fun ds hd J H1 kp a1 w B hB => ?_
  obtain ⟨G, Y, W, hG, hY⟩ := w
  have ne : ρ ≠ some B := fun e => a1.rowN B e hB
  let P : D → Prop := fun d => ∀ H' w, Keep ρ H H' → RowA X.K ρ H' → Rep X.K F (m0 ++ m1) H' w d → Q w H'
  let Pv : Nat → Hp → Prop := fun i H' => ∃ ks vs, DcI X.K F ρ m0 m1 H1 B H' ks vs ∧ (dcF set t ek ev (ds.drop i) (wipeF fr own) hp ks vs).all P
  refine ⟨fun i m H => m = ds.length - i ∧ i ≤ ds.length ∧ Pv i H, ⟨_, rfl, Nat.zero_le _, [], [], .start a1 hB, hd⟩, ?_⟩
  rintro i m H' ⟨rfl, hi, ks, vs, I, q⟩
  have gg := hG _ _ (I.later a1.own hB)
  by_cases hlt : i < ds.length
  · refine .inr ⟨W.goes i H' hlt gg, Pv (i + 1), fun H2 p => ⟨ds.length - (i + 1), by omega, rfl, hlt, p⟩, fun x H2 y => ?_⟩
    have y := W.yields i H' x H2 hlt gg y
    obtain ⟨d, e1, e2⟩ := drop_get hlt
    have aw : At X.K F ρ (B :: m0) m1 H' (wipe σ own) (wipeF fr own) hp := (I.at a1 hB).wipe own
    obtain ⟨sm, rx⟩ := hY i d x _ H' H2 e1 (I.later a1.own hB) aw.sim.dom y
    rw [e2] at q
    have aw3 := aw.same sm
    have I3 := I.on a1.own ne (.of sm) aw3.row
    refine hs ρ (B :: m0) m1 H2 _ _ x d _ aw3.fr rx (T.all_mono (fun fr1 q1 σ1 f1 ew => ⟨ew.trans wipe_wipe, ?_⟩) (T.all_bind q))
    have at1 : At X.K F ρ (B :: m0) m1 H2 σ1 fr1 hp := ⟨f1, aw3.sim, aw3.row, aw3.own⟩
    refine tB_mk at1 (T.all_bind q1) fun b hb H3 k3 a3 => ?_
    have I4 := I3.on a1.own ne k3 a3.row
    cases b with
    | false => exact ⟨ks, vs, I4, hb⟩
    | true =>
      refine tX_mk a3 (T.all_bind hb) fun yd hy H5 yv k5 a5 ry => ?_
      refine tX_mk a5 (T.all_bind hy) fun zd hz H6 zv k6 a6 rz => ?_
      have I6 := (I4.on a1.own ne k5 a5.row).on a1.own ne k6 a6.row
      obtain ⟨dd, n, rfl, hn, hdp, hf, hl, hk⟩ := all_putD (T.all_bind hz)
      have ry6 := ry.on a5.own k6
      have ry7 := ry6
      obtain ⟨ka, _, rfl, _⟩ := ry6.tupR
      obtain ⟨xs, ep, vv, ex, ok, r1, r2⟩ := I6.dct
      exact ⟨(B :: m0) ++ m1, xs, ep, vv, ks, ka, dd, n, rfl, ex, ok, r1, ry7, hn, hdp, freshK_of hf ok.nk, fun r ep' hr => ⟨_, _, I6.push a1 hB ex ok r2 r1 ry7 rz hn hdp hf hl hr, hk⟩⟩
  · have ei : i = ds.length := by omega
    subst ei
    rw [List.drop_length] at q
    obtain ⟨xs, ep, vv, ex, ok, r1, r2⟩ := I.dct
    have sb : ∀ c, c ∈ m0 ++ m1 → c ∈ (B :: m0) ++ m1 := fun c z => List.mem_cons_of_mem _ z
    have q : P (.dct ks vs) := q
    exact .inl ⟨W.stops H' gg, q H' (.ref B) (kp.trans I.keep) I.row (.dct (a1.sim.new hB) ex ok (r1.sub sb) (r2.sub sb))⟩
/-- {k: v for tg in iter if ..}, the keys tuples -/
theorem zdc {L : Bool} {kx vx tg iter : Expr} {ifs : List Expr} {scope : Scope} {own : List (Str × Nat)} {vs : List Nat} {pos : Pos} {it : Fr → Hz → T (List D)} {set : D → Fr → T Fr} {g : TG} {t : Fr → Hz → T Bool} {ek ev : Ex} (hc : X.calm = true) (hu : X.A.units + 64 < cLine) (hw : F.w = X.w) (hN : X.N.Nodup) (hi : PI X tg iter (tI X.K F L it)) (ok : BlkOk X.N X.env.scope scope own)
    (hs : TgC X.K F L vs set g)
    (hg : ∀ (s : Shared) (H : Hp) (C : Addr) (cl : List (Str × Addr)) (fp : List Addr), PG (X.blk s H scope (PySem.compEnvC scope cl C X.env) fp) tg g) (ht : ∀ (s : Shared) (H : Hp) (C : Addr) (cl : List (Str × Addr)) (fp : List Addr), PTs (X.blk s H scope (PySem.compEnvC scope cl C X.env) fp) ifs (tB' X.K F t))
    (hk : ∀ (s : Shared) (H : Hp) (C : Addr) (cl : List (Str × Addr)) (fp : List Addr), PE (X.blk s H scope (PySem.compEnvC scope cl C X.env) fp) kx (tX X.K F ek)) (he : ∀ (s : Shared) (H : Hp) (C : Addr) (cl : List (Str × Addr)) (fp : List Addr), PE (X.blk s H scope (PySem.compEnvC scope cl C X.env) fp) vx (tX X.K F ev))
    (hvs : own.map (·.2) = vs := by rfl) (hf : ∀ x, foldedSetIterable iter X.env x = pure x := by intro _; rfl) : PE X (.DictComp kx vx [⟨tg, iter, ifs, 0⟩] scope pos) (tX X.K F (eDc it set t ek ev vs)) := by
  subst hvs
  refine PEimp (pe_dcg hc hN hi ok (fun h H hb => ?_) (store_nested hu hw) hg ht hk he hf) fun σ H Q h => dc_core' hs h
  exact ⟨⟨beq_eq_false_iff_ne.mpr (Ne.symm (Nat.ne_of_lt hb)), _, #[], Heap.get?_push_size _ rfl, ⟨rfl, rfl, rfl⟩, rfl, rfl⟩, ⟨_, Heap.get?_push_size _ rfl⟩, fun h1 h2 p k => let ⟨q, o, es, ho, r⟩ := p; ⟨q, o, es, k o ho, r⟩⟩
end
end Zl
set_option Elab.async false
set_option linter.all false
set_option maxRecDepth 100000
set_option maxHeartbeats 2000000
/-! ZQ: zip of two lists or two tuples; d.items() of a dict whose keys are tuples. -/
namespace Zl
open PySem L2 PySem.Spec PyProof.Rows RZ
def zipD : List D → List D → List D
  | x :: xs, y :: ys => .tup [x, y] :: zipD xs ys
  | _, _ => []
theorem zipD_get : ∀ (xs ys : List D) (i : Nat) (d : D), (zipD xs ys)[i]? = some d → ∃ x y, xs[i]? = some x ∧ ys[i]? = some y ∧ d = .tup [x, y]
  | [], _, _, _, h => by simp [zipD] at h
  | _ :: _, [], _, _, h => by simp [zipD] at h
  | x :: xs, y :: ys, 0, d, h => by
    have h : D.tup [x, y] = d := by simpa [zipD] using h
    exact ⟨x, y, rfl, rfl, h.symm⟩
  | x :: xs, y :: ys, i + 1, d, h => by
    obtain ⟨a, b, e1, e2, e3⟩ := zipD_get xs ys i d (by simpa [zipD] using h)
    exact ⟨a, b, by simpa using e1, by simpa using e2, e3⟩
theorem zipD_len : ∀ (xs ys : List D), (zipD xs ys).length = min xs.length ys.length
  | [], _ => by simp [zipD]
  | _ :: _, [] => by simp [zipD]
  | x :: xs, y :: ys => by simp only [zipD, List.length_cons, zipD_len xs ys]; omega
/-- an iterator's pair of two known values -/
theorem pairL {K : PySem.W.Frag} {F : Ev} {m : List Addr} {H1 : Hp} {T : Addr} {x y : V} {dx dy : D} (hT : H1 T = none) (rx : Rep K F m H1 x dx) (ry : Rep K F m H1 y dy) : Same H1 (upd H1 T (.tup [x, y])) ∧ RepL K F true m (upd H1 T (.tup [x, y])) (.ref T) (.tup [dx, dy]) := by
  have sm := same_new (o := .tup [x, y]) hT
  have up : ∀ {v : V} {d : D}, Rep K F m H1 v d → Rep K F m (upd H1 T (.tup [x, y])) v d := fun {v d} q => Rep.keep (fun a q => .inl q) (fun a o _ e => sm a o e) _ _ q
  exact ⟨sm, .inr ⟨rfl, T, _, _, rfl, rfl, .inl (.inl upd_same), .cons (up rx) (.cons (up ry) .nil)⟩⟩
section
variable {X : Cx} {F : Ev}
theorem walkZT {m : List Addr} {H : Hp} {a b : Addr} {vs ws : List V} {ds es : List D} (hs : ∀ m' H', Later m H m' H' → SqT X.K H' a vs ∧ SqT X.K H' b ws) (r : Reps X.K F m H vs ds) (q : Reps X.K F m H ws es) : WalkD X.K F true m H (ItzT X.K a b) (zipD ds es) := by
  refine ⟨fun H' => SqT X.K H' a vs ∧ SqT X.K H' b ws, fun i H1 x H2 => ∃ T y z, x = .ref T ∧ H1 T = none ∧ H2 = upd H1 T (.tup [y, z]) ∧ vs[i]? = some y ∧ ws[i]? = some z, ⟨fun i H' hi hg => ?_, fun H' hg => ?_, fun i H' x H2 hi hg y => ?_⟩, hs, fun i d x m' H1 H2 e l dom y => ?_⟩
  · rw [zipD_len, ← r.length, ← q.length] at hi
    exact ⟨vs, ws, vs[i]'(by omega), ws[i]'(by omega), hg.1, hg.2, List.getElem?_eq_getElem _, List.getElem?_eq_getElem _⟩
  · refine ⟨vs, ws, hg.1, hg.2, ?_⟩
    rw [zipD_len, r.length, q.length]
    omega
  · obtain ⟨T, y, z, rfl, hT, rfl, h1, h2⟩ := y
    exact ⟨T, y, z, rfl, hT, rfl, h1 vs hg.1, h2 ws hg.2⟩
  · obtain ⟨T, y, z, rfl, hT, rfl, h1, h2⟩ := y
    obtain ⟨dx, dy, e1, e2, rfl⟩ := zipD_get ds es i d e
    obtain ⟨v1, e3, rv⟩ := r.get e1
    obtain ⟨v2, e4, rw'⟩ := q.get e2
    rw [h1] at e3
    rw [h2] at e4
    cases e3
    cases e4
    exact pairL hT (rv.later l) (rw'.later l)
theorem walkZL {m : List Addr} {H : Hp} {a b : Addr} {vs ws : List V} {ds es : List D} (hs : ∀ m' H', Later m H m' H' → SqL X.K H' a vs ∧ SqL X.K H' b ws) (r : Reps X.K F m H vs ds) (q : Reps X.K F m H ws es) : WalkD X.K F true m H (Itz X.K a b) (zipD ds es) := by
  refine ⟨fun H' => SqL X.K H' a vs ∧ SqL X.K H' b ws, fun i H1 x H2 => ∃ T y z, x = .ref T ∧ H1 T = none ∧ H2 = upd H1 T (.tup [y, z]) ∧ vs[i]? = some y ∧ ws[i]? = some z, ⟨fun i H' hi hg => ?_, fun H' hg => ?_, fun i H' x H2 hi hg y => ?_⟩, hs, fun i d x m' H1 H2 e l dom y => ?_⟩
  · rw [zipD_len, ← r.length, ← q.length] at hi
    exact ⟨vs, ws, vs[i]'(by omega), ws[i]'(by omega), hg.1, hg.2, List.getElem?_eq_getElem _, List.getElem?_eq_getElem _⟩
  · refine ⟨vs, ws, hg.1, hg.2, ?_⟩
    rw [zipD_len, r.length, q.length]
    omega
  · obtain ⟨T, y, z, rfl, hT, rfl, h1, h2⟩ := y
    exact ⟨T, y, z, rfl, hT, rfl, h1 vs hg.1, h2 ws hg.2⟩
  · obtain ⟨T, y, z, rfl, hT, rfl, h1, h2⟩ := y
    obtain ⟨dx, dy, e1, e2, rfl⟩ := zipD_get ds es i d e
    obtain ⟨v1, e3, rv⟩ := r.get e1
    obtain ⟨v2, e4, rw'⟩ := q.get e2
    rw [h1] at e3
    rw [h2] at e4
    cases e3
    cases e4
    exact pairL hT (rv.later l) (rw'.later l)
def zip2 : D → D → T (List D)
  | .tup xs, .tup ys => .ret (zipD xs ys)
  | .lst xs, .lst ys => .ret (zipD xs ys)
  | _, _ => .fail
theorem all_zip2 {x y : D} {P : List D → Prop} (h : (zip2 x y).all P) : (∃ xs ys, x = .tup xs ∧ y = .tup ys ∧ P (zipD xs ys)) ∨ ∃ xs ys, x = .lst xs ∧ y = .lst ys ∧ P (zipD xs ys) := by
  unfold zip2 at h
  split at h
  · exact .inl ⟨_, _, rfl, rfl, h⟩
  · exact .inr ⟨_, _, rfl, rfl, h⟩
  · exact h.elim
def lZip (f g : Ex) : Fr → Hz → T (List D) := fun fr hp => (f fr hp).bind fun x => (g fr hp).bind fun y => zip2 x y
/-- what stays of a tuple, of a list -/
theorem Rep.stayT {m : List Addr} {H : Hp} {v : V} {ds : List D} (r : Rep X.K F m H v (.tup ds)) : ∃ a vs, v = .ref a ∧ SqT X.K H a vs ∧ (∀ m' H', Later m H m' H' → SqT X.K H' a vs) ∧ Reps X.K F m H vs ds := by
  cases r with
  | tup hn e rr =>
    obtain ⟨o, e, ed⟩ := e
    exact ⟨_, _, rfl, .inl (.inr ⟨o, e⟩), fun m' H2 l => .inl (.inr ⟨o, l.keep _ _ hn e⟩), rr⟩
  | tupK e rr => exact ⟨_, _, rfl, e.sq, fun m' H2 l => e.sq, rr⟩
theorem Rep.stayL {m : List Addr} {H : Hp} {v : V} {ds : List D} (r : Rep X.K F m H v (.lst ds)) : ∃ a vs, v = .ref a ∧ SqL X.K H a vs ∧ (∀ m' H', Later m H m' H' → SqL X.K H' a vs) ∧ Reps X.K F m H vs ds := by
  obtain ⟨b, vs, rfl, hn, e, rr⟩ := r.lstR
  exact ⟨b, vs, rfl, .inl (.inl e), fun m' H2 l => .inl (.inl (l.keep _ _ hn e)), rr⟩
theorem zizip {e e2 : Expr} {f g : Ex} {p pos tpos : Pos} {elts : List Expr} {kk : Nat} (hg : Gl X "zip") (hm : X.mg "zip" = none) (he : PE X e (tX X.K F f)) (he2 : PE X e2 (tX X.K F g))
    (na : starEach [e, e2] X.env = (false, eval e X.env) :: starEach [e2] X.env := by rfl) (nb : starEach [e2] X.env = (false, eval e2 X.env) :: starEach [] X.env := by rfl) (hpl : (backTo pos (starEach [e2] X.env)).any (·.1) = false := by rfl) :
    PI X (.Tuple elts kk tpos) (.Call (.Name "zip" p) [e, e2] [] pos) (tI X.K F true (lZip f g)) :=
  PIimp (pi_zipA hg hm (pa_cons he (pa_cons he2 pa_nil nb) na) na hpl) fun σ H R h => by
    obtain ⟨ρ, m0, m1, fr, hp, a, h⟩ := h
    refine tX_mk a (T.all_bind h) fun x hx H1 v k1 a1 rx => ?_
    refine tX_mk a1 (T.all_bind hx) fun y hy H2 u k2 a2 ry => ?_
    rcases all_zip2 hy with ⟨xs, ys, rfl, rfl, k⟩ | ⟨xs, ys, rfl, rfl, k⟩
    · obtain ⟨b, vs, rfl, q1, l1, r1⟩ := (rx.on a1.own k2).stayT
      obtain ⟨c, ws, rfl, q2, l2, r2⟩ := ry.stayT
      exact ⟨b, c, vs, ws, rfl, .inr ⟨q1, q2, k _ H2 (k1.trans k2) a2.row (walkZT (fun m' H' l => ⟨l1 m' H' l, l2 m' H' l⟩) r1 r2)⟩⟩
    · obtain ⟨b, vs, rfl, q1, l1, r1⟩ := (rx.on a1.own k2).stayL
      obtain ⟨c, ws, rfl, q2, l2, r2⟩ := ry.stayL
      exact ⟨b, c, vs, ws, rfl, .inl ⟨q1, q2, k _ H2 (k1.trans k2) a2.row (walkZL (fun m' H' l => ⟨l1 m' H' l, l2 m' H' l⟩) r1 r2)⟩⟩
end
end Zl
set_option Elab.async false
set_option linter.all false
set_option maxRecDepth 100000
set_option maxHeartbeats 2000000
/-! ZR: for k, v in d.items(), the keys tuples. -/
namespace Zl
open PySem L2 PySem.Spec PyProof.Rows
/-- the dict at d, each entry in a new pair -/
def Itd (w : World) (d : Addr) (xs : List (NestedKey × Addr × Value)) (ep : Nat) (vv : List V) : It :=
  ⟨fun i H => H d = some (dctO w xs ep d) ∧ i < xs.length, fun i H v H' => ∃ T k z, v = .ref T ∧ H T = none ∧ H' = upd H T (.tup [k, z]) ∧ (dKeys xs)[i]? = some k ∧ vv[i]? = some z, fun i H => H d = some (dctO w xs ep d) ∧ i = xs.length⟩
def entsD (w : World) (xs : List (NestedKey × Addr × Value)) : List DictEntry := xs.map fun x => ⟨NestedKey.hash w x.1, .ref x.2.1, x.2.2⟩
section
variable {X : Cx} {F : Ev} {pins : List (Addr × Obj)} {σ : L2.St} {H : Hp} {s : Shared}
theorem dct_raw (I : Inv X pins σ H s) {w : World} {a : Addr} {xs : List (NestedKey × Addr × Value)} {ep : Nat} (h : H a = some (dctO w xs ep a)) : (a == sysModules) = false ∧ DT.Raw s.heap a (entsD w xs).toArray ep := by
  obtain ⟨⟨hs, o, es, ho, hc, hd, he⟩, _⟩ : ObjOk X.prog X.w H s.heap a (dctO w xs ep a) := I.hok a _ h
  refine ⟨hs, o, ho, hc, ?_⟩
  rw [hd]
  congr 1
  unfold entsD
  rw [← he]
theorem turn_itemsN {P : Program} {w : World} {K : PySem.W.Frag} {elts : List Expr} {kk : Nat} {tpos : Pos} {w' : World} {d it : Addr} {xs : List (NestedKey × Addr × Value)} {ep : Nat} {vv : List V} (hv : Vals vv (xs.map (·.2.2))) :
    Turn P w K (.Tuple elts kk tpos) (Itd w' d xs ep vv) [it] it (fun i h => ∃ ok ov, IsItemIter h it d i xs.length ep ok ov) where
  mem := by simp
  obj := fun i h st b hb => by
    obtain ⟨ok, ov, e⟩ := st
    cases List.mem_singleton.mp hb
    exact ⟨_, e, fun v z => nomatch z⟩
  keep := fun i h h' st k => let ⟨ok, ov, e⟩ := st; ⟨ok, ov, k it (by simp) _ e⟩
  item := by
    intro Y hP hw hK hc i pins s σ H E I hf st hg
    subst hP hw hK
    obtain ⟨hd, hi⟩ := hg
    obtain ⟨ok, ov, he⟩ := st
    obtain ⟨hs, raw⟩ := dct_raw I hd
    have hsz : (entsD w' xs).toArray.size = xs.length := by unfold entsD; simp
    have hi' : i < (entsD w' xs).toArray.size := by rw [hsz]; exact hi
    have hlt : it < s.heap.objs.size := Heap.lt_size he
    have ek : (entsD w' xs).toArray[i] = ⟨NestedKey.hash w' xs[i].1, .ref xs[i].2.1, xs[i].2.2⟩ := by
      have q : (entsD w' xs)[i]? = some ⟨NestedKey.hash w' xs[i].1, .ref xs[i].2.1, xs[i].2.2⟩ := by
        unfold entsD
        rw [List.getElem?_map, List.getElem?_eq_getElem hi]
        rfl
      have q2 : (entsD w' xs).toArray[i]? = some ⟨NestedKey.hash w' xs[i].1, .ref xs[i].2.1, xs[i].2.2⟩ := by
        rw [List.getElem?_toArray]
        exact q
      rw [Array.getElem?_eq_getElem hi'] at q2
      exact Option.some.inj q2
    have hx : (xs.map (·.2.2))[i]? = some xs[i].2.2 := by rw [List.getElem?_map, List.getElem?_eq_getElem hi]; rfl
    obtain ⟨z, hz, rz⟩ : ∃ z, vv[i]? = some z ∧ RelV z xs[i].2.2 := by
      have hl : i < vv.length := by rw [hv.length, List.length_map]; exact hi
      obtain ⟨u, hu, ru⟩ := hv.get (List.getElem?_eq_getElem hl)
      rw [hx] at hu
      cases hu
      exact ⟨_, List.getElem?_eq_getElem hl, ru⟩
    have hkk : (dKeys xs)[i]? = some (.ref xs[i].2.1) := by unfold dKeys; rw [List.getElem?_map, List.getElem?_eq_getElem hi]; rfl
    rw [← hsz] at he
    refine DT.nextI he raw hi' fun h' ho hT hzz hk => ?_
    refine ⟨_, rfl, wpAny_letOwnedTupleGo_items (s := { s with heap := h' }) ho fun h2 he' sb => ?_⟩
    have hT2 := (sb.2 _ (Nat.ne_of_gt hlt)).trans hT
    rw [ek] at hT2
    have new : ObjOk Y.prog Y.w (upd H s.heap.objs.size (.tup [.ref xs[i].2.1, z])) h2 s.heap.objs.size (.tup [.ref xs[i].2.1, z]) :=
      ⟨by show 2 ≤ sizeLine; decide, [.ref xs[i].2.1, xs[i].2.2], .cons rfl (.cons rz .nil), ⟨_, hT2, rfl, _, rfl⟩⟩
    have I1 := I.turnedNew (t' := s.toks) (h' := h2) (ch := [it]) (fun b ob hb e => (sb.2 b (by simpa using hb)).trans (hk b ob (by simpa using hb) e)) hf (Nat.le_refl _) new
    rw [hsz] at he'
    refine ⟨.ref s.heap.objs.size, _, I1, rfl, ⟨_, _, _, rfl, I.hok.fresh (Nat.le_refl _), rfl, hkk, hz⟩, ⟨_, _, he'⟩, fun b hb => ?_⟩
    cases List.mem_singleton.mp hb
    rw [upd_ne (Nat.ne_of_lt hlt)]
    exact (hf _ hb).1
  done := by
    intro Y hP hw hK hc i pins s σ H E I hf st hg
    subst hP hw hK
    obtain ⟨hd, hi⟩ := hg
    obtain ⟨ok, ov, he⟩ := st
    obtain ⟨hs, raw⟩ := dct_raw I hd
    have hsz : (entsD w' xs).toArray.size = xs.length := by unfold entsD; simp
    rw [← hsz] at he
    exact DT.endI (I.ok.hd hc) he raw (by rw [hsz, hi]; exact Nat.le_refl _) fun h' eb => ⟨rfl, I.turnedL (t' := s.toks) (ch := [it]) (fun b ob hb e => eb b ob (by simpa using hb) e) hf⟩
  self := fun A i s Q E st h => let ⟨_, _, e⟩ := st; PySem.W.kcp_self e h
def iItemsN (K : PySem.W.Frag) (F : Ev) (td : TE) : TI := fun σ H R => td σ H fun x H1 => ∃ d xs ep vv, x = .ref d ∧ H1 d = some (dctO F.w xs ep d) ∧ Vals vv (xs.map (·.2.2)) ∧ R (Itd F.w d xs ep vv) H1
theorem pi_itemsN {o : Expr} {td : TE} {apos cpos tpos : Pos} {elts : List Expr} {kk : Nat} (ho : PE X o td) (hbase : attributeBase o "items" X.env (eval o X.env) = eval o X.env := by rfl) (hline : (apos.endLine == cpos.line) = true := by rfl) :
    PI X (.Tuple elts kk tpos) (.Call (.Attribute o "items" apos) [] [] cpos) (iItemsN X.K F td) := by
  constructor
  intro pins s σ H R I h
  refine wpAny_Call_method0_late hbase hline (thn (ho.run pins s σ H _ I h) fun v s1 hh => ?_)
  obtain ⟨x, H1, I1, r1, d, xs, ep, vv, rfl, hd, hv, q⟩ := hh
  cases r1
  obtain ⟨hs, raw⟩ := dct_raw I1 hd
  obtain ⟨o1, ho1, hc1, hd1⟩ := id raw
  refine ⟨"dict", "dict.items", PySem.F.plainAttrs_dict, PySem.F.slot_dict_items, PySem.F.type_dict_items, ⟨o1, ho1, hc1.1⟩, fun a e => ?_, ?_⟩
  · cases e
    exact ⟨o1, ho1, hc1.2.1⟩
  · refine Calls.callWith_builtin rfl (PySem.evalArgs_none (DT.callItems hs raw ?_))
    have I2 : Inv X pins σ H1 { s1 with heap := s1.heap.push { cls := .type "dict_items", data := .fields #[.ref d] } } := I1.kept (t' := s1.toks) fun b u e => Heap.get?_push_of_some _ e
    refine DT.iterI ⟨_, Heap.get?_push_size _ rfl, rfl, rfl⟩ (raw.push _) ?_
    have I3 := I2.kept (t' := s1.toks) (h' := (s1.heap.push { cls := .type "dict_items", data := .fields #[.ref d] }).push { cls := .type "dict_itemiterator", data := .fields #[.none, .bool false, .ref d, .int 0 0, .int (entsD F.w xs).toArray.size 0, .int ep 0, .none, .none] }) fun b u e => Heap.get?_push_of_some _ e
    refine ⟨_, [_], _, _, H1, rfl, I3, turn_itemsN hv, ⟨.none, .none, ?_⟩, fun b hb => ?_, q⟩
    · have hsz : (entsD F.w xs).toArray.size = xs.length := by unfold entsD; simp
      rw [← hsz]
      exact Heap.get?_push_size _ rfl
    · cases List.mem_singleton.mp hb
      exact I2.fpOk (Nat.le_refl _) (I2.hok.fresh (Nat.le_refl _))
/-- a dict's entries as pairs -/
def lItems (f : Ex) : Fr → Hz → T (List D) := fun fr hp => (f fr hp).bind fun x => match x with
  | .dct ks vs => .ret (zipD ks vs)
  | _ => .fail
theorem zitems {o : Expr} {f : Ex} {apos cpos tpos : Pos} {elts : List Expr} {kk : Nat} (ho : PE X o (tX X.K F f)) (hbase : attributeBase o "items" X.env (eval o X.env) = eval o X.env := by rfl) (hline : (apos.endLine == cpos.line) = true := by rfl) :
    PI X (.Tuple elts kk tpos) (.Call (.Attribute o "items" apos) [] [] cpos) (tI X.K F true (lItems f)) :=
  PIimp (pi_itemsN (F := F) ho hbase hline) fun σ H R h => by
    obtain ⟨ρ, m0, m1, fr, hp, a, h⟩ := h
    refine tX_mk a (T.all_bind h) fun x hx H1 v k1 a1 rx => ?_
    cases x <;> first | exact hx.elim | skip
    rename_i ks vs
    cases rx with
    | dct hn e ok r1 r2 =>
      rename_i d xs ep vv
      refine ⟨d, xs, ep, vv, rfl, e, ok.vs, hx _ H1 k1 a1.row ?_⟩
      have l1 := r1.length
      have l2 := r2.length
      have l3 := ok.vs.length
      rw [List.length_map] at l3
      have l4 : (dKeys xs).length = xs.length := by unfold dKeys; simp
      refine ⟨fun H' => H' d = some (dctO F.w xs ep d), fun i H1 x H2 => ∃ T y z, x = .ref T ∧ H1 T = none ∧ H2 = upd H1 T (.tup [y, z]) ∧ (dKeys xs)[i]? = some y ∧ vv[i]? = some z, ⟨fun i H' hi hg => ?_, fun H' hg => ⟨hg, ?_⟩, fun i H' x H2 hi hg y => y⟩, fun m' H' l => l.keep _ _ hn e, fun i d x m' H1 H2 e l dom y => ?_⟩
      · rw [zipD_len] at hi
        exact ⟨hg, by omega⟩
      · rw [zipD_len]
        omega
      · obtain ⟨T, y, z, rfl, hT, rfl, h1, h2⟩ := y
        obtain ⟨dx, dy, e1, e2, rfl⟩ := zipD_get ks vs i d e
        obtain ⟨v1, e3, rv⟩ := r1.get e1
        obtain ⟨v2, e4, rw'⟩ := r2.get e2
        rw [h1] at e3
        rw [h2] at e4
        cases e3
        cases e4
        exact pairL hT (rv.later l) (rw'.later l)
end
end Zl
set_option Elab.async false
set_option linter.all false
set_option maxRecDepth 100000
set_option maxHeartbeats 2000000
/-! ZS: slices of tuples. -/
namespace Zl
open PySem L2 PySem.Spec PyProof.Rows
def rSlF (K : PySem.W.Frag) : V → Option Int → Option Int → Hp → VK → Prop := fun x lo hi H Q => ∃ a xs, x = .ref a ∧ SqT K H a xs ∧ (HT.sIx xs.length 0 lo = 0 ∧ HT.sIx xs.length xs.length hi = xs.length → Q (.ref a) H) ∧
  (¬ (HT.sIx xs.length 0 lo = 0 ∧ HT.sIx xs.length xs.length hi = xs.length) → ∀ p o, H p = none → o.dict = none → Q (.ref p) (upd H p (.frz o (.tup (cutV xs lo hi)))))
/-- the items lo .. hi of data -/
def cutD (xs : List D) (lo hi : Option Int) : List D := (xs.drop (HT.sIx xs.length 0 lo)).take (HT.sIx xs.length xs.length hi - HT.sIx xs.length 0 lo)
section
variable {X : Cx} {F : Ev}
theorem sl_tupF : SlR X (rSlF X.K) := by
  intro pins s σ H x v vl vu lo hi sl Q I rx hs pl pu h
  obtain ⟨a, xs, rfl, hx, q1, q2⟩ := h
  cases rx
  obtain ⟨its, r, ht, hz⟩ := I.tuple hx
  have hlen : its.toArray.size = xs.length := by rw [List.size_toArray, r.length]
  refine ⟨"tuple", _, PyProof.Rows.slot_tuple_getitem.lookup, ht.typeIs, ?_⟩
  by_cases hw : HT.sIx xs.length 0 lo = 0 ∧ HT.sIx xs.length xs.length hi = xs.length
  · exact getItem_tuple_whole ht hs pl pu (by rw [hlen]; exact hw) ⟨.ref a, H, I, rfl, q1 hw⟩
  · refine HT.getItem_tuple_cut ht hs pl pu (by rw [hlen]; exact hw) ?_ (by rw [hlen]; exact hz)
    rw [hlen]
    have rc : Vals (cutV xs lo hi) ((its.drop (HT.sIx xs.length 0 lo)).take (HT.sIx xs.length xs.length hi - HT.sIx xs.length 0 lo)) := (r.drop _).take _
    exact ⟨.ref s.heap.objs.size, _, layTup I rc (Nat.le_trans (cutV_length xs lo hi) hz), rfl, q2 hw _ _ (I.hok.fresh (Nat.le_refl _)) rfl⟩
/-- a part that is left out, or an int -/
def pNo : Fr → Hz → T (Option Int) := fun _ _ => .ret none
def pYes (f : Ex) : Fr → Hz → T (Option Int) := fun fr hp => (f fr hp).bind fun x => match x with
  | .int i => .ret (some i)
  | _ => .fail
def tP (K : PySem.W.Frag) (F : Ev) (f : Fr → Hz → T (Option Int)) : TO := fun σ H Q => ∃ ρ m0 m1 fr hp, At K F ρ m0 m1 H σ fr hp ∧ (f fr hp).all fun o => ∀ H', Keep ρ H H' → RowA K ρ H' → Q o H'
theorem POimp {e : Option Expr} {t t' : TO} (h : PO X e t) (hi : ∀ σ H Q, t' σ H Q → t σ H Q) : PO X e t' := ⟨fun pins s σ H Q I q => h.run pins s σ H Q I (hi σ H Q q)⟩
theorem zpno : PO X none (tP X.K F pNo) := POimp po_none fun σ H Q h => by
  obtain ⟨ρ, m0, m1, fr, hp, a, h⟩ := h
  exact h H (Keep.refl _ _) a.row
theorem zpyes {e : Expr} {f : Ex} (h : PE X e (tX X.K F f)) : PO X (some e) (tP X.K F (pYes f)) := POimp (po_some h) fun σ H Q h => by
  obtain ⟨ρ, m0, m1, fr, hp, a, h⟩ := h
  refine tX_mk a (T.all_bind h) fun x hx H1 v k1 a1 rx => ?_
  split at hx
  · cases rx
    exact ⟨_, rfl, hx H1 k1 a1.row⟩
  · exact hx.elim
def eSl (f : Ex) (g k : Fr → Hz → T (Option Int)) : Ex := fun fr hp => (f fr hp).bind fun x => (asTup x).bind fun xs => (g fr hp).bind fun lo => (k fr hp).bind fun hi => .ret (.tup (cutD xs lo hi))
theorem zsl {e : Expr} {lo hi : Option Expr} {f : Ex} {g k : Fr → Hz → T (Option Int)} {p2 pos : Pos} (he : PE X e (tX X.K F f)) (hl : PO X lo (tP X.K F g)) (hh : PO X hi (tP X.K F k)) : PE X (.Subscript e (.Slice lo hi none p2) pos) (tX X.K F (eSl f g k)) :=
  PEimp (pe_slice sl_tupF he hl hh) fun σ H Q h => by
    obtain ⟨ρ, m0, m1, fr, hp, a, h⟩ := h
    refine tX_mk a (T.all_bind h) fun x hx H1 v k1 a1 rx => ?_
    obtain ⟨xs, rfl, hx⟩ := all_asTup (T.all_bind hx)
    refine ⟨ρ, m0, m1, fr, hp, a1, T.all_mono (fun l hl H2 k2 w2 => ?_) (T.all_bind hx)⟩
    have a2 := a1.on k2 w2
    refine ⟨ρ, m0, m1, fr, hp, a2, T.all_mono (fun u hu H3 k3 w3 => ?_) (T.all_bind hl)⟩
    have a3 := a2.on k3 w3
    have rx3 := (rx.on a1.own k2).on a2.own k3
    have ex := rx3
    obtain ⟨b, vs, rfl, hs, rs⟩ := rx3.tupR
    have q : ∀ H' w, Keep ρ H H' → RowA X.K ρ H' → Rep X.K F (m0 ++ m1) H' w (.tup (cutD xs l u)) → Q w H' := hu
    have hln := rs.length
    refine ⟨b, vs, rfl, hs, fun hw => ?_, fun _ p o hp ho => ?_⟩
    · rw [hln] at hw
      have e : cutD xs l u = xs := by
        unfold cutD
        rw [hw.1, hw.2, List.drop_zero, Nat.sub_zero, List.take_length]
      refine q H3 _ ((k1.trans k2).trans k3) a3.row ?_
      rw [e]
      exact ex
    · obtain ⟨k4, a4⟩ := a3.upd (o := .frz o (.tup (cutV vs l u))) hp
      have rc : Reps X.K F (m0 ++ m1) H3 (cutV vs l u) (cutD xs l u) := by
        unfold cutV cutD
        rw [hln]
        exact Reps.take _ (Reps.drop _ rs)
      exact q _ _ (((k1.trans k2).trans k3).trans k4) a4.row (.tup (a3.sim.new hp) (.new ho) (rc.on a3.own k4))
end
end Zl
set_option Elab.async false
set_option linter.all false
set_option maxRecDepth 100000
set_option maxHeartbeats 2000000
/-! ZT: the frame's own lists changed in place: append, x[i] = v. -/
namespace Zl
open PySem L2 PySem.Spec PyProof.Rows
section
variable {K : PySem.W.Frag} {F : Ev} {ρ : Option Addr} {m0 m1 : List Addr} {H : Hp} {σ : L2.St} {fr : Fr} {hp : Hz}
/-- one own list anew -/
theorem At.setCell (a : At K F ρ m0 m1 H σ fr hp) {n : Nat} {b : Addr} {w : HO} {ds : List D} (e1 : m1[n]? = some b) (r : (∀ (vs : List V) (ds : List D), Reps K F (m0 ++ m1) H vs ds → Reps K F (m0 ++ m1) (L2.upd H b w) vs ds) → CellR K F (m0 ++ m1) (L2.upd H b w) b ds) : At K F ρ m0 m1 (L2.upd H b w) σ fr (setN hp n ds) ∧ Grow ρ m1 H m1 (L2.upd H b w) := by
  have hb1 : b ∈ m1 := List.mem_of_getElem? e1
  have hb : b ∈ m0 ++ m1 := List.mem_append_right _ hb1
  have hb0 : b ∉ m0 := fun z => a.sim.dis b z hb1
  have ku : ∀ c o, c ∉ m0 ++ m1 → H c = some o → (L2.upd H b w) c = some o := fun c o q e => by
    rw [upd_ne (fun z => q (by rw [z]; exact hb))]
    exact e
  have up : ∀ {v : V} {d : D}, Rep K F (m0 ++ m1) H v d → Rep K F (m0 ++ m1) (L2.upd H b w) v d := fun {v d} q => Rep.keep (fun c q => .inl q) ku d v q
  have ups : ∀ {v : List V} {d : List D}, Reps K F (m0 ++ m1) H v d → Reps K F (m0 ++ m1) (L2.upd H b w) v d := fun {v d} q => Reps.keep (fun c q => .inl q) ku d v q
  have hlt : n < hp.length := by rw [← a.sim.len]; exact (List.getElem?_eq_some_iff.mp e1).1
  refine ⟨⟨⟨a.fr.len, fun i s e => ?_⟩, ⟨by rw [setN_eq, List.length_set]; exact a.sim.len, a.sim.nd, a.sim.dis, fun c q z => ?_, fun k c e => ?_⟩, fun c q => ?_, a.own⟩, ⟨fun c o _ nm e => ?_, fun c q => .inl q⟩⟩
  · obtain ⟨v, e2, q⟩ := a.fr.slot i s e
    refine ⟨v, e2, ?_⟩
    cases s with
    | v d => exact up q
    | r n => exact q
    | row => exact q
  · by_cases hc : c = b
    · rw [hc, upd_same] at z; cases z
    · rw [upd_ne hc] at z
      exact a.sim.dom c q z
  · rw [setN_eq] at e
    by_cases hk : n = k
    · subst hk
      rw [List.getElem?_set_self hlt] at e
      cases e
      exact ⟨b, e1, r fun vs ds q => ups q⟩
    · rw [List.getElem?_set_ne hk] at e
      obtain ⟨b', e2, cr⟩ := a.sim.cell k c e
      have hne : b' ≠ b := fun z => hk ((List.getElem?_inj (List.getElem?_eq_some_iff.mp e1).1 a.sim.nd).mp (by rw [e1, e2, z]))
      exact ⟨b', e2, cr.tr (fun ob z => by rw [upd_ne hne]; exact z) fun vs ds q => ups q⟩
  · have hc : c ≠ b := fun z => hb0 (by rw [← z]; exact a.own c q)
    refine (a.row c q).keep (fun xs z => by rw [upd_ne hc]; exact z) fun s o xs z => ?_
    have hs : s ≠ b := fun w' => by
      obtain ⟨c', hc'⟩ : ∃ c', hp[n]? = some c' := ⟨hp[n], List.getElem?_eq_getElem hlt⟩
      obtain ⟨b', e2, cr⟩ := a.sim.cell n c' hc'
      rw [e1] at e2
      cases e2
      rw [w'] at z
      exact cr.nofz _ _ z
    rw [upd_ne hs]
    exact z
  · rw [upd_ne (fun z => nm (by rw [z]; exact hb1))]
    exact e
end
section
variable {X : Cx} {F : Ev}
/-- name.append(e), the name an own list's -/
def sApp (i : Nat) (f : Ex) : Sm := fun fr hp => match gt fr i with
  | some (.r n) => (ofO hp[n]?).bind fun xs => guardT (lstOk xs && few xs 10000) ((f fr hp).bind fun d => guardT (lstOk (xs ++ [d])) (.ret (.nx fr (setN hp n (xs ++ [d])))))
  | _ => .fail
theorem zapp {i : Nat} {x : Str} {e : Expr} {f : Ex} {p apos cpos pos : Pos} (hN : X.N[i]? = some x) (hv : Vis X.env.scope x) (he : PE X e (tX X.K F f)) (hd : (x == ("__debug__" : Str)) = false := by decide) (hcd : (x == ("__classdict__" : Str)) = false := by decide)
    (hbase : attributeBase (.Name x p) "append" X.env (eval (.Name x p) X.env) = eval (.Name x p) X.env := by rfl)
    (hfew : ((backTo cpos (starEach (e :: []) X.env)).all (fun x => !x.1) && (backToKw cpos (keywordEach [] X.env)).all (fun x => x.1.isSome) && decide ((e :: []).length + ([] : List Keyword).length + (if ([] : List Keyword).isEmpty then 0 else 1) < 30)) = true := by rfl)
    (hline : (apos.endLine == cpos.line) = true := by rfl) (na : starEach (e :: []) X.env = (false, eval e X.env) :: starEach [] X.env := by rfl) (hs : swapsWith (.Call (.Attribute (.Name x p) "append" apos) [e] [] cpos) none pos.line X.env = pure false := by rfl) :
    PS X (.Expr (.Call (.Attribute (.Name x p) "append" apos) [e] [] cpos) pos) (tS X.K F (sApp i f)) :=
  PSimp (ps_expr (pe_bm PySem.F.plainAttrs_list PySem.F.slot_list_append PySem.F.type_list_append mt_append (pe_var hN hv hd hcd) (pa_cons he pa_nil na) hbase hfew hline na) hs) fun D σ H h => by
    obtain ⟨ρ, m0, m1, fr, hp, a, h⟩ := h
    unfold sApp at h
    split at h
    · rename_i n eg
      obtain ⟨v, e1, b, e2, rfl⟩ := a.get eg
      obtain ⟨xs, e5, h⟩ := all_ofO (T.all_bind h)
      obtain ⟨hf, h⟩ := all_guard h
      rw [Bool.and_eq_true] at hf
      refine ⟨_, e1, ?_, ?_⟩
      · obtain ⟨b', e3, cr⟩ := a.sim.cell n _ e5
        obtain ⟨vs, e4, _⟩ := cr.lst hf.1
        rw [e2] at e3
        cases e3
        exact .inl ⟨rfl, _, SqL.of e4⟩
      · refine tX_mk a (T.all_bind h) fun d hd H1 u k1 a1 r => ?_
        obtain ⟨hf2, hk⟩ := all_guard hd
        obtain ⟨b', e3, cr⟩ := a1.sim.cell n xs e5
        obtain ⟨vs, e4, rs⟩ := cr.lst hf.1
        rw [e2] at e3
        cases e3
        refine ⟨b, vs, u, rfl, rfl, e4, ?_, ?_⟩
        · have h1 := few_le hf.2
          have h2 := rs.length
          have h3 : (10000 : Nat) < sizeLine := by decide
          omega
        · obtain ⟨a2, g2⟩ := a1.setCell (w := .lst (vs ++ [u])) (ds := xs ++ [d]) e2 (fun up => .inl ⟨hf2, _, upd_same, up _ _ (Reps.append rs (.cons r .nil))⟩)
          have g1 : Grow ρ m1 H m1 H1 := .of k1
          exact hk m1 _ σ (g1.trans a1.rowN g2) a2
    · exact h.elim
/-- name[g] = f, the name an own list's -/
def sPut (i : Nat) (g f : Ex) : Sm := fun fr hp => match gt fr i with
  | some (.r n) => (f fr hp).bind fun d => (g fr hp).bind fun y => match y with
    | .int j => (ofO hp[n]?).bind fun xs => (ofO (ixN xs.length j)).bind fun k => guardT (lstOk xs && lstOk (setN xs k d)) (.ret (.nx fr (setN hp n (setN xs k d))))
    | _ => .fail
  | _ => .fail
theorem zput {i : Nat} {x : Str} {e ix : Expr} {f g : Ex} {p p2 pos : Pos} (hN : X.N[i]? = some x) (hv : Vis X.env.scope x) (he : PE X e (tX X.K F f)) (hi : PE X ix (tX X.K F g)) (hd : (x == ("__debug__" : Str)) = false := by decide) (hcd : (x == ("__classdict__" : Str)) = false := by decide)
    (ha : ∀ v, assign (.Subscript (.Name x p) ix p2) X.env v = (do
      let ov ← holding [v] (eval (.Name x p) X.env)
      let iv ← holding [v, ov] (eval ix X.env)
      standAt p2
      holding [v, ov, iv] (setItem ov iv v)
      release [v, ov, iv] []) := by intro _; rfl) (h2 : swapsWithSole [.Subscript (.Name x p) ix p2] e pos.line X.env = pure false := by rfl) (h3 : swappedStores [.Subscript (.Name x p) ix p2] e X.env = pure none := by rfl)
    (h4 : (assignEach [.Subscript (.Name x p) ix p2] X.env).map (·.2) = [assign (.Subscript (.Name x p) ix p2) X.env] := by rfl) :
    PS X (.Assign [.Subscript (.Name x p) ix p2] e pos) (tS X.K F (sPut i g f)) :=
  PSimp (ps_asg he (pg_sub (pe_var hN hv hd hcd) hi set_list ha) h2 h3 h4) fun D σ H h => by
    obtain ⟨ρ, m0, m1, fr, hp, a, h⟩ := h
    unfold sPut at h
    split at h
    · rename_i n eg
      obtain ⟨v, e1, b, e2, rfl⟩ := a.get eg
      refine tX_mk a (T.all_bind h) fun d hd H1 u k1 a1 r => ?_
      refine ⟨_, e1, ?_⟩
      refine tX_mk a1 (T.all_bind hd) fun y hy H2 iv k2 a2 ri => ?_
      split at hy
      · rename_i j
        obtain ⟨xs, e5, hy⟩ := all_ofO (T.all_bind hy)
        obtain ⟨k, e6, hk⟩ := all_ofO (T.all_bind hy)
        obtain ⟨hf, hk⟩ := all_guard hk
        rw [Bool.and_eq_true] at hf
        cases ri
        obtain ⟨b', e3, cr⟩ := a2.sim.cell n xs e5
        obtain ⟨vs, e4, rs⟩ := cr.lst hf.1
        rw [e2] at e3
        cases e3
        refine ⟨b, vs, j, k, rfl, rfl, e4, by rw [rs.length]; exact e6, ?_⟩
        have rs2 := Reps.set (r.on a1.own k2) (vs := vs) (ds := xs) k rs
        rw [← setN_eq xs] at rs2
        obtain ⟨a3, g3⟩ := a2.setCell (w := .lst (vs.set k u)) (ds := setN xs k d) e2 (fun up => .inl ⟨hf.2, _, upd_same, up _ _ rs2⟩)
        exact hk m1 _ σ ((Grow.of (k1.trans k2)).trans a2.rowN g3) a3
      · exact hy.elim
    · exact h.elim
end
end Zl
set_option Elab.async false
set_option linter.all false
set_option maxRecDepth 100000
set_option maxHeartbeats 2000000
/-! ZU: the frame's own dicts of ints; dicts of the text; list(d.values()); list.index of data; x, y, z = a, b, c; a def that a name holds. -/
namespace Zl
open PySem L2 PySem.Spec PyProof.Rows
/-! ### tables of int keys -/
def anyK (j : Int) : List D → Bool
  | .int i :: r => if eqI i j then true else anyK j r
  | _ => false
def getK (j : Int) : List D → List D → Option D
  | .int i :: ks, v :: vs => if eqI i j then some v else getK j ks vs
  | _, _ => none
def mapK (j : Int) (d : D) : List D → List D → List D
  | .int i :: ks, v :: vs => (if eqI i j then d else v) :: mapK j d ks vs
  | _, _ => []
theorem eqI_key (i j : Int) : eqI i j = decide ((Sum.inl i : Key) = Sum.inl j) := by rw [key_ll]; exact eqI_beq i j
section
variable {K : PySem.W.Frag} {F : Ev} {m : List Addr} {H : Hp}
theorem anyK_eq (j : Int) : ∀ (kvs : List (Key × V)) (is : List Int), kvs.map (·.1) = is.map Sum.inl → (kvs.any fun kv => decide (kv.1 = Sum.inl j)) = anyK j (is.map D.int)
  | [], [], _ => rfl
  | [], _ :: _, e => by simp at e
  | _ :: _, [], e => by simp at e
  | (k, x) :: r, i :: is, e => by
    rw [List.map_cons, List.map_cons] at e
    injection e with e1 e2
    have e1 : k = Sum.inl i := e1
    subst e1
    rw [List.any_cons, anyK_eq j r is e2, List.map_cons]
    show (decide ((Sum.inl i : Key) = Sum.inl j) || _) = if eqI i j then true else anyK j (is.map D.int)
    rw [← eqI_key]
    cases eqI i j <;> rfl
theorem getK_ok (j : Int) : ∀ {kvs : List (Key × V)} {is : List Int} {us : List D}, kvs.map (·.1) = is.map Sum.inl → Reps K F m H (kvs.map (·.2)) us →
    match getK j (is.map D.int) us with
    | some d => ∃ v, valV kvs (Sum.inl j) = some v ∧ Rep K F m H v d
    | none => valV kvs (Sum.inl j) = none
  | [], [], us, _, r => by cases r; rfl
  | [], _ :: _, _, e, _ => by simp at e
  | _ :: _, [], _, e, _ => by simp at e
  | (k, x) :: t, i :: is, us, e, r => by
    rw [List.map_cons, List.map_cons] at e
    injection e with e1 e2
    have e1 : k = Sum.inl i := e1
    subst e1
    rw [List.map_cons] at r
    cases r with
    | cons r1 r2 =>
    rename_i d ds
    rw [List.map_cons]
    show match (if eqI i j then some d else getK j (is.map D.int) ds) with
      | some d => ∃ v, valV ((Sum.inl i, x) :: t) (Sum.inl j) = some v ∧ Rep K F m H v d
      | none => valV ((Sum.inl i, x) :: t) (Sum.inl j) = none
    by_cases h : eqI i j = true
    · rw [if_pos h]
      rw [eqI_key] at h
      exact ⟨x, valV_pos (of_decide_eq_true h), r1⟩
    · rw [if_neg h]
      rw [eqI_key] at h
      rw [valV_neg (p := ((Sum.inl i : Key), x)) (k := Sum.inl j) (fun z => h (decide_eq_true z))]
      exact getK_ok j e2 r2
theorem mapK_ok {j : Int} {v : V} {d : D} (rv : Rep K F m H v d) : ∀ {kvs : List (Key × V)} {is : List Int} {us : List D}, kvs.map (·.1) = is.map Sum.inl → Reps K F m H (kvs.map (·.2)) us →
    (kvs.map fun kv => if kv.1 = Sum.inl j then (kv.1, v) else kv).map (·.1) = is.map Sum.inl ∧ Reps K F m H ((kvs.map fun kv => if kv.1 = Sum.inl j then (kv.1, v) else kv).map (·.2)) (mapK j d (is.map D.int) us)
  | [], [], us, _, r => by cases r; exact ⟨rfl, .nil⟩
  | [], _ :: _, _, e, _ => by simp at e
  | _ :: _, [], _, e, _ => by simp at e
  | (k, x) :: t, i :: is, us, e, r => by
    rw [List.map_cons, List.map_cons] at e
    injection e with e1 e2
    have e1 : k = Sum.inl i := e1
    subst e1
    rw [List.map_cons] at r
    cases r with
    | cons r1 r2 =>
    rename_i c cs
    obtain ⟨g1, g2⟩ := mapK_ok rv e2 r2
    rw [List.map_cons, List.map_cons, List.map_cons, List.map_cons]
    by_cases h : eqI i j = true
    · have h' := h
      rw [eqI_key] at h'
      have hk := of_decide_eq_true h'
      refine ⟨?_, ?_⟩
      · rw [if_pos hk, g1]
      · show Reps K F m H _ ((if eqI i j then d else c) :: mapK j d (is.map D.int) cs)
        rw [if_pos hk, if_pos h]
        exact .cons rv g2
    · have h' := h
      rw [eqI_key] at h'
      have hk : ¬ (Sum.inl i : Key) = Sum.inl j := fun z => h' (decide_eq_true z)
      refine ⟨?_, ?_⟩
      · rw [if_neg hk, g1]
      · show Reps K F m H _ ((if eqI i j then d else c) :: mapK j d (is.map D.int) cs)
        rw [if_neg hk, if_neg h]
        exact .cons r1 g2
def putKD (j : Int) (d : D) (ks vs : List D) : D := if anyK j ks then .dct ks (mapK j d ks vs) else .dct (ks ++ [.int j]) (vs ++ [d])
theorem putK_ok {j : Int} {v : V} {d : D} (rv : Rep K F m H v d) {kvs : List (Key × V)} {is : List Int} {us : List D} (e : kvs.map (·.1) = is.map Sum.inl) (r : Reps K F m H (kvs.map (·.2)) us) :
    ∃ (is' : List Int) (us' : List D), putKD j d (is.map D.int) us = .dct (is'.map D.int) us' ∧ (putK kvs (Sum.inl j) v).map (·.1) = is'.map Sum.inl ∧ Reps K F m H ((putK kvs (Sum.inl j) v).map (·.2)) us' := by
  unfold putKD putK
  rw [anyK_eq j kvs is e]
  by_cases h : anyK j (is.map D.int) = true
  · rw [if_pos h, if_pos h]
    obtain ⟨g1, g2⟩ := mapK_ok rv e r
    exact ⟨is, _, rfl, g1, g2⟩
  · rw [if_neg h, if_neg h]
    refine ⟨is ++ [j], us ++ [d], by rw [List.map_append]; rfl, ?_, ?_⟩
    · rw [List.map_append, List.map_append, e]; rfl
    · rw [List.map_append]
      exact Reps.append r (.cons rv .nil)
/-- the cell of a dict -/
theorem CellR.dct {a : Addr} {ks us : List D} (c : CellR K F m H a [.dct ks us]) : ∃ (kvs : List (Key × V)) (is : List Int), ks = is.map D.int ∧ H a = some (.dK kvs) ∧ kvs.map (·.1) = is.map Sum.inl ∧ Reps K F m H (kvs.map (·.2)) us := by
  rcases c with c | ⟨kvs, is, us', e, c⟩
  · exact absurd c.1 Bool.false_ne_true
  · injection e with e1 e2
    injection e1 with e3 e4
    subst e3 e4
    exact ⟨kvs, is, rfl, c⟩
end
section
variable {X : Cx} {F : Ev}
/-! ### the frame's own dicts -/
def asDct : List D → T (List D × List D)
  | [.dct ks vs] => .ret (ks, vs)
  | _ => .fail
theorem all_asDct {xs : List D} {P : List D × List D → Prop} (h : (asDct xs).all P) : ∃ ks vs, xs = [.dct ks vs] ∧ P (ks, vs) := by
  unfold asDct at h
  split at h
  · exact ⟨_, _, rfl, h⟩
  · exact h.elim
def cellD (fr : Fr) (hp : Hz) (i : Nat) : T (Nat × List D × List D) := match gt fr i with
  | some (.r n) => (ofO hp[n]?).bind fun xs => (asDct xs).bind fun t => .ret (n, t)
  | _ => .fail
theorem all_cellD {fr : Fr} {hp : Hz} {i : Nat} {P : Nat × List D × List D → Prop} (h : (cellD fr hp i).all P) : ∃ n ks vs, gt fr i = some (.r n) ∧ hp[n]? = some [.dct ks vs] ∧ P (n, ks, vs) := by
  unfold cellD at h
  split at h
  · rename_i n e
    obtain ⟨xs, e2, h⟩ := all_ofO (T.all_bind h)
    obtain ⟨ks, vs, rfl, h⟩ := all_asDct (T.all_bind h)
    exact ⟨n, ks, vs, e, e2, h⟩
  · exact h.elim
def asI : D → T Int
  | .int i => .ret i
  | _ => .fail
theorem all_asI {d : D} {P : Int → Prop} (h : (asI d).all P) : ∃ i, d = .int i ∧ P i := by
  unfold asI at h
  split at h
  · exact ⟨_, rfl, h⟩
  · exact h.elim
/-- the dict behind a name -/
theorem At.dct {ρ : Option Addr} {m0 m1 : List Addr} {H : Hp} {σ : L2.St} {fr : Fr} {hp : Hz} (a : At X.K F ρ m0 m1 H σ fr hp) {i n : Nat} {ks us : List D} (e : gt fr i = some (.r n)) (e2 : hp[n]? = some [.dct ks us]) :
    ∃ (b : Addr) (kvs : List (Key × V)) (is : List Int), σ[i]? = some (some (.ref b)) ∧ m1[n]? = some b ∧ ks = is.map D.int ∧ H b = some (.dK kvs) ∧ kvs.map (·.1) = is.map Sum.inl ∧ Reps X.K F (m0 ++ m1) H (kvs.map (·.2)) us := by
  obtain ⟨v, e1, b, e3, rfl⟩ := a.get e
  obtain ⟨b', e4, cr⟩ := a.sim.cell n _ e2
  rw [e3] at e4
  cases e4
  obtain ⟨kvs, is, g1, g2, g3, g4⟩ := cr.dct
  exact ⟨b, kvs, is, e1, e3, g1, g2, g3, g4⟩
/-- name[g], the name an own dict's -/
def eGetD (i : Nat) (g : Ex) : Ex := fun fr hp => (cellD fr hp i).bind fun t => (g fr hp).bind fun y => (asI y).bind fun j => ofO (getK j t.2.1 t.2.2)
theorem zgetD {i : Nat} {x : Str} {ix : Expr} {g : Ex} {p pos : Pos} (hu : X.A.units + 64 < cLine) (hN : X.N[i]? = some x) (hv : Vis X.env.scope x) (hi : PE X ix (tX X.K F g)) (hd : (x == ("__debug__" : Str)) = false := by decide) (hcd : (x == ("__classdict__" : Str)) = false := by decide) (hs : NoSl ix := by exact fun _ _ => rfl) :
    PE X (.Subscript (.Name x p) ix pos) (tX X.K F (eGetD i g)) :=
  PEimp (pe_dget (by omega) (pe_var hN hv hd hcd) hi hs) fun σ H Q h => by
    obtain ⟨ρ, m0, m1, fr, hp, a, h⟩ := h
    obtain ⟨n, ks, us, e1, e2, h⟩ := all_cellD (T.all_bind h)
    obtain ⟨b, kvs, is, f1, f2, rfl, f4, f5, f6⟩ := a.dct e1 e2
    refine ⟨_, f1, ?_⟩
    refine tX_mk a (T.all_bind h) fun y hy H1 u k1 a1 ry => ?_
    obtain ⟨j, rfl, hy⟩ := all_asI (T.all_bind hy)
    obtain ⟨d, e3, hy⟩ := all_ofO hy
    cases ry
    have k4 : H1 b = some (.dK kvs) := k1 b _ (fun z => a.sim.dis b (a.own b z) (List.mem_of_getElem? f2)) f4
    have q := getK_ok j f5 (f6.on a.own k1)
    rw [e3] at q
    obtain ⟨v, g1, g2⟩ := q
    refine ⟨b, v, rfl, ?_, hy H1 v k1 a1.row g2⟩
    rw [← g1]
    exact DGet.k (k := Sum.inl j) k4
/-- g in name -/
def eInD (neg : Bool) (i : Nat) (g : Ex) : Ex := fun fr hp => (g fr hp).bind fun y => (cellD fr hp i).bind fun t => (asI y).bind fun j => .ret (.bl (if neg then !(getK j t.2.1 t.2.2).isSome else (getK j t.2.1 t.2.2).isSome))
theorem inD_core {neg : Bool} {i : Nat} {g : Ex} {σ : L2.St} {H : Hp} {Q : VK} (h : tX X.K F (eInD neg i g) σ H Q) :
    tX X.K F g σ H fun y H1 => ∃ v, σ[i]? = some (some v) ∧ ∃ a o, v = .ref a ∧ DGet H1 a y o ∧ Q (.bl (if neg then !o.isSome else o.isSome)) H1 := by
  obtain ⟨ρ, m0, m1, fr, hp, a, h⟩ := h
  refine tX_mk a (T.all_bind h) fun y hy H1 u k1 a1 ry => ?_
  obtain ⟨n, ks, us, e1, e2, hy⟩ := all_cellD (T.all_bind hy)
  obtain ⟨j, rfl, hy⟩ := all_asI (T.all_bind hy)
  obtain ⟨b, kvs, is, f1, f2, rfl, f4, f5, f6⟩ := a1.dct e1 e2
  cases ry
  refine ⟨_, f1, b, _, rfl, DGet.k (k := Sum.inl j) f4, ?_⟩
  have q := getK_ok j f5 f6
  have e : (valV kvs (Sum.inl j)).isSome = (getK j (is.map D.int) us).isSome := by
    cases e3 : getK j (is.map D.int) us with
    | none => rw [e3] at q; rw [show valV kvs (Sum.inl j) = none from q]; rfl
    | some d => rw [e3] at q; obtain ⟨v, g1, _⟩ := q; rw [g1]; rfl
  have hy := hy H1 (.bl _) k1 a1.row (.bl _)
  rw [← e] at hy
  exact hy
theorem ztniD {i : Nat} {x : Str} {ix : Expr} {g : Ex} {p pos : Pos} (hu : X.A.units + 64 < cLine) (hN : X.N[i]? = some x) (hv : Vis X.env.scope x) (hi : PE X ix (tX X.K F g)) (hd : (x == ("__debug__" : Str)) = false := by decide) (hcd : (x == ("__classdict__" : Str)) = false := by decide) :
    PT X (.Compare ix [.NotIn] [.Name x p] pos) (tB' X.K F (b1 (eInD true i g))) := PTimp (pt_cmp (pc_dnotin (by omega) hi (pe_var hN hv hd hcd))) fun σ H Q h => inD_core (neg := true) (b1_core h)
/-- name[g] = f -/
def sPutD (i : Nat) (g f : Ex) : Sm := fun fr hp => (cellD fr hp i).bind fun t => (f fr hp).bind fun d => (g fr hp).bind fun y => (asI y).bind fun j => guardT (few t.2.1 9000) (.ret (.nx fr (setN hp t.1 [putKD j d t.2.1 t.2.2])))
theorem zputD {i : Nat} {x : Str} {e ix : Expr} {f g : Ex} {p p2 pos : Pos} (hu : X.A.units + 64 < cLine) (hN : X.N[i]? = some x) (hv : Vis X.env.scope x) (he : PE X e (tX X.K F f)) (hi : PE X ix (tX X.K F g)) (hd : (x == ("__debug__" : Str)) = false := by decide) (hcd : (x == ("__classdict__" : Str)) = false := by decide)
    (ha : ∀ v, assign (.Subscript (.Name x p) ix p2) X.env v = (do
      let ov ← holding [v] (eval (.Name x p) X.env)
      let iv ← holding [v, ov] (eval ix X.env)
      standAt p2
      holding [v, ov, iv] (setItem ov iv v)
      release [v, ov, iv] []) := by intro _; rfl) (h2 : swapsWithSole [.Subscript (.Name x p) ix p2] e pos.line X.env = pure false := by rfl) (h3 : swappedStores [.Subscript (.Name x p) ix p2] e X.env = pure none := by rfl)
    (h4 : (assignEach [.Subscript (.Name x p) ix p2] X.env).map (·.2) = [assign (.Subscript (.Name x p) ix p2) X.env] := by rfl) :
    PS X (.Assign [.Subscript (.Name x p) ix p2] e pos) (tS X.K F (sPutD i g f)) :=
  PSimp (ps_asg he (pg_sub (pe_var hN hv hd hcd) hi (set_dict (by omega)) ha) h2 h3 h4) fun D σ H h => by
    obtain ⟨ρ, m0, m1, fr, hp, a, h⟩ := h
    obtain ⟨n, ks, us, e1, e2, h⟩ := all_cellD (T.all_bind h)
    refine tX_mk a (T.all_bind h) fun d hd H1 u k1 a1 r => ?_
    obtain ⟨b0, _, _, f0, _⟩ := a1.dct e1 e2
    refine ⟨_, f0, ?_⟩
    refine tX_mk a1 (T.all_bind hd) fun y hy H2 iv k2 a2 ri => ?_
    obtain ⟨j, rfl, hy⟩ := all_asI (T.all_bind hy)
    obtain ⟨hf, hk⟩ := all_guard hy
    obtain ⟨b, kvs, is, f1, f2, rfl, f4, f5, f6⟩ := a2.dct e1 e2
    rw [f0] at f1
    cases f1
    cases ri
    obtain ⟨is', us', g1, g2, g3⟩ := putK_ok (j := j) (r.on a1.own k2) f5 f6
    have hl : kvs.length < sizeLine := by
      have h1 := few_le hf
      have h2 := congrArg List.length f5
      rw [List.length_map, List.length_map] at h2
      rw [List.length_map] at h1
      have h3 : (10000 : Nat) < sizeLine := by decide
      omega
    refine ⟨_, _, rfl, DPut.k (k := Sum.inl j) f4 hl, ?_⟩
    obtain ⟨a3, g4⟩ := a2.setCell (w := .dK (putK kvs (Sum.inl j) u)) (ds := [putKD j d (is.map Zl.D.int) us]) f2 (fun up => .inr ⟨_, is', us', by rw [g1], upd_same, g2, up _ _ g3⟩)
    exact hk m1 _ σ ((Grow.of (k1.trans k2)).trans a2.rowN g4) a3
/-- list(name.values()) -/
def nVals (i : Nat) : Fr → Hz → T (List D) := fun fr hp => (cellD fr hp i).bind fun t => .ret t.2.2
theorem zlistVals {i : Nat} {x : Str} {p p2 apos cpos pos : Pos} (hc : X.calm = true) (hN : X.N[i]? = some x) (hv : Vis X.env.scope x) (hg : Gl X "list") (hm : X.mg "list" = none) (hd : (x == ("__debug__" : Str)) = false := by decide) (hcd : (x == ("__classdict__" : Str)) = false := by decide)
    (hbase : attributeBase (.Name x p2) "values" X.env (eval (.Name x p2) X.env) = eval (.Name x p2) X.env := by rfl) (hline : (apos.endLine == cpos.line) = true := by rfl)
    (na : starEach [.Call (.Attribute (.Name x p2) "values" apos) [] [] cpos] X.env = (false, eval (.Call (.Attribute (.Name x p2) "values" apos) [] [] cpos) X.env) :: starEach [] X.env := by rfl) :
    PE X (.Call (.Name "list" p) [.Call (.Attribute (.Name x p2) "values" apos) [] [] cpos] [] pos) (tN X.K F (nVals i)) := by
  constructor
  intro pins s σ H Q I h
  obtain ⟨ρ, m0, m1, fr, hp, a, h⟩ := h
  obtain ⟨n, ks, us, e1, e2, h⟩ := all_cellD (T.all_bind h)
  obtain ⟨b, kvs, is, f1, f2, rfl, f4, f5, f6⟩ := a.dct e1 e2
  refine wpAny_Call_Name_kw (ld_blt I hg hm PyProof.Rows.boot_list ?_)
  refine PyProof.Rows.callWith_type1 ?_ na rfl
  rw [na]
  refine Calls.spliced_cons ?_
  have hx := pe_var (X := X) (pos := p2) hN hv hd hcd
  refine wpAny_Call_method (id := "dict.values") (T := "dict") hbase rfl hline PySem.F.plainAttrs_dict PySem.F.slot_dict_values PySem.F.type_dict_values (thn (hx.run pins s σ H (fun v H1 => v = .ref b ∧ H1 = H) I ⟨_, f1, rfl, rfl⟩) fun u s1 z => ?_)
  obtain ⟨_, H1, I1, rx, e5, e6⟩ := z
  rw [e6] at I1
  rw [e5] at rx
  cases rx
  obtain ⟨hz, lo, vs, kv, dd⟩ := dk_of I1.hok f4
  obtain ⟨ep, dat⟩ := dd.dictAt
  have lk : kvs.length = vs.length := kv.length
  refine ⟨dd.typeIs, dd.mapOf.noDict, ?_⟩
  show wpAny _ _ (callWith cpos (.builtin "dict.values") [.ref b] [] []) _ X.xe s1
  refine method_meetsIn PySem.F.slot_dict_values PySem.F.entry_dict_values rfl (PySem.evalArgs_none ⟨rfl, dd.typeIs, PySem.F.args_dict_values_1 _, _, meets_dict_values (mixKind X.prog X.w) b lo, ⟨vs, dd⟩, ?_⟩)
  refine Calls.spliced_nil ?_
  have vw : ∀ ob, ob = ({ cls := .type "dict_values", data := .fields #[.ref b] } : Obj) → (s1.heap.push ob).IsValuesView s1.heap.objs.size b := fun ob e => by subst e; exact ⟨_, Heap.get?_push_size _ rfl, rfl, rfl⟩
  have I2 : L2.Inv X pins σ H { s1 with heap := s1.heap.push { cls := .type "dict_values", data := .fields #[.ref b] } } := I1.kept (t' := s1.toks) fun _ _ q => Heap.get?_push_of_some _ q
  refine PySem.W.kdl_call (PySem.W.kdl_values (knd := mixKind X.prog X.w) (kvs := vs) (ep := ep)) (I1.ok.hd hc) ⟨vw _ rfl, dat.push _⟩ (by rw [← lk]; exact hz) fun h' tk acc c hk hS hacc => ?_
  have hl : (kvs.map (·.2)).length ≤ sizeLine := by rw [List.length_map]; exact hz
  have hnew := I2.hok.fresh (Nat.le_refl _)
  have rv : Vals (kvs.map (·.2)) acc.toList := by
    have el : acc.toList.length = vs.length := by rw [Array.length_toList]; exact hacc.1
    refine vals_of_at (by rw [List.length_map, el, lk]) fun j x w h1 h2 => ?_
    obtain ⟨k, hk2⟩ := hacc.2 j w (by rw [← Array.getElem?_toList]; exact h2)
    rw [List.getElem?_map] at h1
    cases e3 : kvs[j]? with
    | none => rw [e3] at h1; cases h1
    | some kx =>
      rw [e3] at h1
      cases h1
      obtain ⟨q', g1, g2, g3⟩ := paired_get kv e3
      rw [hk2] at g1
      cases g1
      exact g3
  refine ⟨.ref _, _, I2.laid (t' := tk) hk (Nat.le_refl _) (show ObjOk X.prog X.w _ _ _ (.lst (kvs.map (·.2))) from ⟨hl, acc.toList, c, rv, by rw [Array.toArray_toList]; exact hS⟩), rfl, ?_⟩
  obtain ⟨k3, a3⟩ := a.upd (o := .lst (kvs.map (·.2))) hnew
  exact h _ _ _ k3 a3.row hnew upd_same (f6.more hnew (same_new hnew))
end
end Zl
set_option Elab.async false
set_option linter.all false
set_option maxRecDepth 100000
set_option maxHeartbeats 2000000
/-! ZV: dicts of the text; list.index of data; x, y, z = a, b, c; a def that a name holds. -/
namespace Zl
open PySem L2 PySem.Spec PyProof.Rows
/-! ### dicts of the text -/
structure SDk (P : Program) (w : World) (K : PySem.W.Frag) (a : Addr) (kvs : List (Key × V)) : Prop where
  lo : (a == sysModules) = false
  at' : ∀ h, K.In h → ∃ vs, KV kvs vs ∧ h.DictOf (mixKind P w) a vs
def kOf : D → Option Key
  | .int i => some (.inl i)
  | .str s => some (.inr ⟨s.toArray⟩)
  | _ => none
inductive TabR (K : PySem.W.Frag) (F : Ev) : List (Key × V) → List (D × D) → Prop
  | nil : TabR K F [] []
  | cons {k : Key} {v : V} {x d : D} {kvs : List (Key × V)} {t : List (D × D)} : kOf x = some k → (∀ m H, Rep K F m H v d) → TabR K F kvs t → TabR K F ((k, v) :: kvs) ((x, d) :: t)
def tabGet (x : D) : List (D × D) → Option D
  | [] => none
  | (k, v) :: r => if eqF k x then some v else tabGet x r
theorem str_inj {a b : List Nat} (h : (⟨a.toArray⟩ : Str) = ⟨b.toArray⟩) : a = b := by
  injection h with h
  simpa using h
theorem eqF_kOf {x y : D} {j k : Key} (hx : kOf x = some j) (hy : kOf y = some k) : eqF x y = decide (j = k) := by
  cases x <;> first | (cases hx; done) | skip
  all_goals (cases y <;> first | (cases hy; done) | skip)
  all_goals (cases hx; cases hy)
  · exact eqI_key _ _
  · exact (key_lr _ _).symm
  · exact (key_rl _ _).symm
  · rename_i a b
    show eqNs a b = _
    rw [eqNs_iff, key_rr]
    by_cases h : a = b
    · subst h; simp
    · rw [decide_eq_false h, decide_eq_false (fun z => h (str_inj z))]
theorem tabGet_ok {K : PySem.W.Frag} {F : Ev} {x : D} {k : Key} (hx : kOf x = some k) : ∀ {kvs : List (Key × V)} {t : List (D × D)}, TabR K F kvs t →
    match tabGet x t with
    | some d => ∃ v, valV kvs k = some v ∧ ∀ m H, Rep K F m H v d
    | none => valV kvs k = none
  | _, _, .nil => rfl
  | _, _, .cons (k := j) (v := v) (x := y) (d := d) (kvs := kvs) (t := t) h1 h2 h3 => by
    show match (if eqF y x then some d else tabGet x t) with
      | some d => ∃ u, valV ((j, v) :: kvs) k = some u ∧ ∀ m H, Rep K F m H u d
      | none => valV ((j, v) :: kvs) k = none
    have e := eqF_kOf h1 hx
    by_cases h : eqF y x = true
    · rw [if_pos h]
      rw [e] at h
      exact ⟨v, valV_pos (of_decide_eq_true h), h2⟩
    · rw [if_neg h]
      rw [e] at h
      rw [valV_neg (p := (j, v)) (fun z => h (decide_eq_true z))]
      exact tabGet_ok hx h3
def asK (x : D) : T D := match x with
  | .int i => .ret (.int i)
  | .str s => .ret (.str s)
  | _ => .fail
theorem all_asK {x : D} {P : D → Prop} (h : (asK x).all P) : ∃ k, kOf x = some k ∧ P x := by
  unfold asK at h
  split at h
  · exact ⟨_, rfl, h⟩
  · exact ⟨_, rfl, h⟩
  · exact h.elim
theorem rep_kOf {K : PySem.W.Frag} {F : Ev} {m : List Addr} {H : Hp} {v : V} {x : D} {k : Key} (r : Rep K F m H v x) (h : kOf x = some k) : v = kV k := by
  cases x <;> first | (cases h; done) | skip
  all_goals (cases h; cases r; rfl)
section
variable {X : Cx} {F : Ev} {b : Addr} {kvs : List (Key × V)} {tb : List (D × D)}
theorem op_sdNotIn (S : SDk X.prog X.w X.K b kvs) : OpR X (compareOp .NotIn) (fun x y H Q => ∃ k, x = kV k ∧ y = .ref b ∧ Q (.bl (!(valV kvs k).isSome)) H) := by
  intro pins s σ H x y v u Q I rx ry h
  obtain ⟨k, rfl, rfl, q⟩ := h
  cases ry
  obtain ⟨vs, rel, dd⟩ := S.at' _ I.kIn
  refine wpAny_notIn_of (kV_is rx) S.lo dd.mapOf ?_
  rw [← (rel.val k).isSome_eq]
  exact ⟨.bl _, H, I.tok _, rfl, q⟩
theorem ix_sd (S : SDk X.prog X.w X.K b kvs) : IxR X (fun x y H Q => ∃ k v, x = .ref b ∧ y = kV k ∧ valV kvs k = some v ∧ Q v H) := by
  intro value slice pins s σ H x y v u Q I rx ry h hs
  obtain ⟨k, w', rfl, rfl, l, q⟩ := h
  cases rx
  obtain ⟨vs, rel, dd⟩ := S.at' _ I.kIn
  obtain ⟨r, hr, rr⟩ := RelO.some_of (v := w') (o := valueAt vs k) (by rw [← l]; exact rel.val k)
  exact subscriptTail_builtinR (x := r) dd.typeIs slot_dict_getitem.lookup (wpAny_getItem_of (Q := fun z s' => z = r ∧ EP X pins σ Q z s') (kV_is ry) dd.mapOf hr ⟨rfl, w', H, I.tok _, rr, q⟩) hs
/-- e in NAME, NAME a dict of the text -/
def eInT (neg : Bool) (tb : List (D × D)) (f : Ex) : Ex := fun fr hp => (f fr hp).bind fun x => (asK x).bind fun y => .ret (.bl (if neg then !(tabGet y tb).isSome else (tabGet y tb).isSome))
theorem inT_core {neg : Bool} {f : Ex} {σ : L2.St} {H : Hp} {Q : VK} (R : TabR X.K F kvs tb) (h : tX X.K F (eInT neg tb f) σ H Q) : tX X.K F f σ H fun x H1 => ∃ k, x = kV k ∧ (V.ref b : V) = .ref b ∧ Q (.bl (if neg then !(valV kvs k).isSome else (valV kvs k).isSome)) H1 := by
  obtain ⟨ρ, m0, m1, fr, hp, a, h⟩ := h
  refine tX_mk a (T.all_bind h) fun x hx H1 v k1 a1 rx => ?_
  obtain ⟨k, ek, hx⟩ := all_asK (T.all_bind hx)
  refine ⟨k, rep_kOf rx ek, rfl, ?_⟩
  have q := tabGet_ok ek R
  have e : (valV kvs k).isSome = (tabGet x tb).isSome := by
    cases e3 : tabGet x tb with
    | none => rw [e3] at q; rw [show valV kvs k = none from q]; rfl
    | some d => rw [e3] at q; obtain ⟨v, g1, _⟩ := q; rw [g1]; rfl
  rw [e]
  exact hx H1 _ k1 a1.row (.bl _)
section
variable {x : Str} {e : Expr} {f : Ex} {p pos : Pos} (hg : Gl X x) (hm : X.mg x = some (.ref b)) (S : SDk X.prog X.w X.K b kvs) (R : TabR X.K F kvs tb)
include hg hm S R
theorem ztniT (he : PE X e (tX X.K F f)) (hd : (x == ("__debug__" : Str)) = false := by decide) (hk : behindInMarks .NotIn (.Name x p) = false := by rfl) : PT X (.Compare e [.NotIn] [.Name x p] pos) (tB' X.K F (b1 (eInT true tb f))) :=
  PTimp (pt_cmpR (op_sdNotIn S) he (pe_glob (v := V.ref b) hg hm rfl hd) hk) fun σ H Q h => inT_core (neg := true) R (b1_core h)
/-- NAME[e], NAME a dict of the text -/
def eIxT (tb : List (D × D)) (f : Ex) : Ex := fun fr hp => (f fr hp).bind fun x => (asK x).bind fun y => ofO (tabGet y tb)
theorem zixT (he : PE X e (tX X.K F f)) (hd : (x == ("__debug__" : Str)) = false := by decide) (hs : PlainIx e := by exact fun _ _ => rfl) : PE X (.Subscript (.Name x p) e pos) (tX X.K F (eIxT tb f)) :=
  PEimp (pe_ix (ix_sd S) (pe_glob (v := V.ref b) hg hm rfl hd) he hs) fun σ H Q h => by
    obtain ⟨ρ, m0, m1, fr, hp, a, h⟩ := h
    refine tX_mk a (T.all_bind h) fun x hx H1 v k1 a1 rx => ?_
    obtain ⟨k, ek, hx⟩ := all_asK (T.all_bind hx)
    obtain ⟨d, e3, hx⟩ := all_ofO hx
    have q := tabGet_ok ek R
    rw [e3] at q
    obtain ⟨u, g1, g2⟩ := q
    exact ⟨k, u, rfl, rep_kOf rx ek, g1, hx H1 u k1 a1.row (g2 _ _)⟩
end
/-! ### x, y, z = a, b, c -/
def sPar3 (i j l : Nat) (f g h : Ex) : Sm := fun fr hp => (f fr hp).bind fun x => (g fr hp).bind fun y => (h fr hp).bind fun z => .ret (.nx (setN (setN (setN fr i (some (.v x))) j (some (.v y))) l (some (.v z))) hp)
theorem zpar3 {i j l : Nat} {x y z : Str} {a b c : Expr} {f g h : Ex} {px py pz pt pos : Pos} {kt k2 pt2} (hc : X.calm = true) (hN : X.N.Nodup) (hi : X.N[i]? = some x) (hj : X.N[j]? = some y) (hl : X.N[l]? = some z) (hij : i ≠ j) (hil : i ≠ l) (hjl : j ≠ l)
    (hx : X.env.scope.names.lookup x = some .local) (hy : X.env.scope.names.lookup y = some .local) (hz : X.env.scope.names.lookup z = some .local) (ha : PE X a (tX X.K F f)) (hb : PE X b (tX X.K F g)) (hcc : PE X c (tX X.K F h))
    (hw : swappedStores [.Tuple [.Name x px, .Name y py, .Name z pz] kt pt] (.Tuple [a, b, c] k2 pt2) X.env = pure (some [x, y, z]))
    (hs : swapsWithSole [.Tuple [.Name x px, .Name y py, .Name z pz] kt pt] (.Tuple [a, b, c] k2 pt2) pos.line X.env = pure false := by rfl)
    (na : starEach [a, b, c] X.env = (false, eval a X.env) :: starEach [b, c] X.env := by rfl) (nb : starEach [b, c] X.env = (false, eval b X.env) :: starEach [c] X.env := by rfl) (nc : starEach [c] X.env = (false, eval c X.env) :: starEach [] X.env := by rfl) :
    PS X (.Assign [.Tuple [.Name x px, .Name y py, .Name z pz] kt pt] (.Tuple [a, b, c] k2 pt2) pos) (tS X.K F (sPar3 i j l f g h)) :=
  PSimp (ps_par3 hc hN hi hj hl hij hil hjl hx hy hz (pa_cons ha (pa_cons hb (pa_cons hcc pa_nil nc) nb) na) hw hs) fun D σ H hh => by
    obtain ⟨ρ, m0, m1, fr, hp, a, hh⟩ := hh
    refine tX_mk a (T.all_bind hh) fun x hx H1 v k1 a1 rx => ?_
    refine tX_mk a1 (T.all_bind hx) fun y hy H2 u k2 a2 ry => ?_
    refine tX_mk a2 (T.all_bind hy) fun z hz H3 t k3 a3 rz => ?_
    have k23 := k2.trans k3
    exact ⟨v, u, t, rfl, hz m1 H3 _ (.of ((k1.trans k2).trans k3)) ⟨((a3.fr.set (s := .v x) i (rx.on a1.own k23)).set (s := .v y) j (ry.on a2.own k3)).set (s := .v z) l rz, a3.sim, a3.row, a3.own⟩⟩
/-! ### list.index of data -/
def fstIx (y : D) : List D → Nat → Option Nat
  | [], _ => none
  | z :: r, n => if beq 12 z y then some n else fstIx y r (n + 1)
theorem fstIx_ok {y : D} : ∀ {zs : List D} {n j : Nat}, fstIx y zs n = some j → ∃ k z, j = n + k ∧ zs[k]? = some z ∧ beq 12 z y = true ∧ ∀ (i : Nat) (u : D), i < k → zs[i]? = some u → beq 12 u y = false
  | [], _, _, h => by cases h
  | z :: r, n, j, h => by
    unfold fstIx at h
    by_cases e : beq 12 z y = true
    · rw [if_pos e] at h
      cases h
      exact ⟨0, z, rfl, rfl, e, fun i u hi => absurd hi (Nat.not_lt_zero i)⟩
    · rw [if_neg e] at h
      obtain ⟨k, u, h1, h2, h3, h4⟩ := fstIx_ok h
      refine ⟨k + 1, u, by omega, by simpa using h2, h3, fun i v hi hv => ?_⟩
      cases i with
      | zero =>
        have hv : z = v := by simpa using hv
        subst hv
        exact Bool.eq_false_iff.mpr e
      | succ i => exact h4 i v (by omega) (by simpa using hv)
theorem toPys_get : ∀ (ds : List D) (i : Nat), (toPys ds)[i]? = (ds[i]?).map toPy
  | [], i => by simp [toPys]
  | d :: ds, 0 => by simp [toPys]
  | d :: ds, i + 1 => by simpa [toPys] using toPys_get ds i
theorem allO_get {f : D → Bool} : ∀ {ds : List D} {i : Nat} {d : D}, allO f ds = true → ds[i]? = some d → f d = true
  | [], i, d, _, e => by simp at e
  | x :: r, i, d, h, e => by
    unfold allO at h
    by_cases hx : f x = true
    · rw [if_pos hx] at h
      cases i with
      | zero => have e : x = d := by simpa using e
                subst e; exact hx
      | succ i => exact allO_get h (by simpa using e)
    · rw [if_neg hx] at h; exact absurd h Bool.false_ne_true
def eIdxL (f g : Ex) : Ex := fun fr hp => (f fr hp).bind fun x => match x with
  | .lst xs => (g fr hp).bind fun y => guardT (okD 12 (.lst xs) && (allO (okD 12) xs && okD 12 y)) ((ofO (fstIx y xs 0)).bind fun j => .ret (.int (.ofNat j)))
  | _ => .fail
theorem zidxL {o e : Expr} {f g : Ex} {apos pos : Pos} (hu : X.A.units + 80 < cLine) (ho : PE X o (tX X.K F f)) (he : PE X e (tX X.K F g))
    (hbase : attributeBase o "index" X.env (eval o X.env) = eval o X.env := by rfl)
    (hfew : ((backTo pos (starEach (e :: []) X.env)).all (fun x => !x.1) && (backToKw pos (keywordEach [] X.env)).all (fun x => x.1.isSome) && decide ((e :: []).length + ([] : List Keyword).length + (if ([] : List Keyword).isEmpty then 0 else 1) < 30)) = true := by rfl)
    (hline : (apos.endLine == pos.line) = true := by rfl) (na : starEach (e :: []) X.env = (false, eval e X.env) :: starEach [] X.env := by rfl) :
    PE X (.Call (.Attribute o "index" apos) [e] [] pos) (tX X.K F (eIdxL f g)) :=
  PEimp (pe_bm PySem.F.plainAttrs_list PySem.F.slot_list_index PySem.F.type_list_index (mt_indexD (by omega)) ho (pa_cons he pa_nil na) hbase hfew hline na) fun σ H Q h => by
    obtain ⟨ρ, m0, m1, fr, hp, a, h⟩ := h
    refine tX_mk a (T.all_bind h) fun x hx H1 v k1 a1 rx => ?_
    cases x <;> first | exact hx.elim | skip
    rename_i xs
    obtain ⟨b, vs, rfl, hn, hl, rs⟩ := rx.lstR
    refine ⟨.inl ⟨rfl, _, SqL.of hl⟩, ?_⟩
    show tX X.K F g σ H1 fun y H2 => _
    refine tX_mk a1 (T.all_bind hx) fun y hy H2 u k2 a2 ry => ?_
    obtain ⟨ok, hy⟩ := all_guard hy
    rw [Bool.and_eq_true, Bool.and_eq_true] at ok
    obtain ⟨j, ej, hy⟩ := all_ofO (T.all_bind hy)
    obtain ⟨k, z, rfl, e2, e3, e4⟩ := fstIx_ok ej
    have ry2 := ry.dp 12 y u ok.2.2
    have rx2 := (rx.on a1.own k2).dp 12 (.lst xs) (.ref b) ok.1
    refine ⟨b, u, toPy y, toPys xs, k, toPy z, rfl, rfl, rx2, ry2, okD_shaped ok.1, okD_shaped ok.2.2, ?_, ?_, fun i z' hi hz => ?_, ?_⟩
    · rw [toPys_get, e2]; rfl
    · rw [eqv_beq 12 z y (allO_get ok.2.1 e2) ok.2.2]; exact e3
    · rw [toPys_get] at hz
      cases e5 : xs[i]? with
      | none => rw [e5] at hz; cases hz
      | some u' =>
        rw [e5] at hz
        cases hz
        rw [eqv_beq 12 u' y (allO_get ok.2.1 e5) ok.2.2]
        exact e4 i u' hi e5
    · rw [Nat.zero_add] at hy
      exact hy H2 _ (k1.trans k2) a2.row (.int _)
end
end Zl
set_option Elab.async false
set_option linter.all false
set_option maxRecDepth 100000
set_option maxHeartbeats 2000000
/-! ZW: sorted(a dict of the text); calls of a def that a name holds. -/
namespace Zl
open PySem L2 PySem.Spec PyProof.Rows
section
variable {X : Cx} {F : Ev} {b : Addr} {kvs : List (Key × V)} {ks : List Str}
theorem cr_sortT (hc : X.calm = true) (S : SDk X.prog X.w X.K b kvs) (hk : kvs.map (·.1) = ks.map Sum.inr) (h60 : ks.length < 60) :
    CallR X (.builtin "sorted") (fun xs H Q => xs = [.ref b] ∧ ∀ ys p, ys.Perm ks → sortedS ys = true → H p = none → Q (.ref p) (L2.upd H p (.lst (ys.map V.str)))) := by
  intro pins s σ H xs us Q I r h
  obtain ⟨rfl, h⟩ := h
  obtain ⟨u, rfl, rx⟩ := vals1 r
  cases rx
  obtain ⟨vs, rel, dd⟩ := S.at' _ I.kIn
  obtain ⟨ep, dat⟩ := dd.dictAt
  have kk : vs.map (·.1) = ks.map Sum.inr := by rw [← rel.keys]; exact hk
  have nl : vs.length = ks.length := by
    have := congrArg List.length kk
    simpa using this
  have sl : (64 : Nat) ≤ sizeLine := by decide
  refine Calls.call_function_entry kind_sorted plain_sorted entry_sorted (args_sorted1 _) ?_
  unfold Builtin.«sorted»
  refine wpAny_bind (m := checkCount "sorted" 1 1 _) (wpAny_pure ?_)
  refine wpAny_bind (PySem.W.kdu_collect (PySem.W.kdl_dict (kvs := vs) (ep := ep) (knd := mixKind X.prog X.w) S.lo) (A := X.A.in1) (I.ok.hd hc) dat (by omega) fun h1 t1 out keep got => ?_)
  have ol : out.toList.length = ks.length := by rw [Array.length_toList, got.1, nl]
  have st : StrsAre out.toList ks := by
    refine L2.strs_at ol fun j v e => ?_
    obtain ⟨k, x, g1, g2⟩ := got.2 j v (by rw [← Array.getElem?_toList]; exact e)
    have g3 : (vs.map (·.1))[j]? = some k := by
      rw [List.getElem?_map, g1]
      rfl
    rw [kk, List.getElem?_map] at g3
    cases g4 : ks[j]? with
    | none =>
      rw [g4] at g3
      cases g3
    | some y =>
      rw [g4] at g3
      cases g3
      obtain ⟨t, ev⟩ := Value.isStrOf_shape (x := y) (v := v) g2
      exact ⟨y, t, rfl, ev⟩
  have I1 : L2.Inv X pins σ H { s with heap := h1, toks := t1 } := I.kept keep
  refine wpAny_bind (wpAny_newList ?_ (by omega))
  have lo : (h1.push (seqObj "list" out.toList.toArray 0)).get? h1.objs.size = some (seqObj "list" out.toList.toArray 0) := Heap.get?_push_size _ rfl
  show wpAny _ _ _ _ _ { s with toks := t1, heap := h1.push (seqObj "list" out.toList.toArray 0) }
  refine wpAny_bind (wpAny_holding (wpAny_call_entry slot_list_sort ⟨_, lo, rfl⟩ entry_list_sort ?_ (args_list_sort _)))
  refine list_sort_treeK (s := { s with toks := t1, heap := h1.push (seqObj "list" out.toList.toArray 0) }) strKind_oneLt lo st.keysOf (fun a c rest e => keyKind_strs (by rw [← e]; exact st)) (by omega) fun z' hp hs => ⟨_, rfl, ?_⟩
  obtain ⟨ys, g1, g2, g3⟩ := sorted_out_str st hp hs
  obtain ⟨e', he'⟩ := sortedHeap_at (out := (arrOf z').map (·.2)) (vs := out.toList) lo
  have yl : (ys.map V.str).length ≤ sizeLine := by
    rw [List.length_map, g2.length_eq]
    omega
  have ok : ∀ (H' : Hp) , ObjOk X.prog X.w H' _ h1.objs.size (.lst (ys.map V.str)) := fun H' => ⟨yl, ((arrOf z').map (·.2)).toList, e', vals_of_strs g1, by rw [Array.toArray_toList]; exact he'⟩
  refine wpAny_pure ⟨_, rfl, .ref h1.objs.size, L2.upd H h1.objs.size (.lst (ys.map V.str)), I1.laid (t' := t1) (fun c o e => ?_) (Nat.le_refl _) (ok _), rfl, h ys _ g2 g3 (I1.hok.fresh (Nat.le_refl _))⟩
  have cl : c < h1.objs.size := Heap.lt_size e
  rw [sortedHeap_old (Nat.ne_of_lt cl) (by rw [size_push']; exact Nat.lt_succ_of_lt cl)]
  exact Heap.get?_push_of_some _ e
theorem reps_strs {K : PySem.W.Frag} {F : Ev} {m : List Addr} {H : Hp} : ∀ ys : List (List Nat), Reps K F m H ((ys.map fun y => (⟨y.toArray⟩ : Str)).map V.str) (ys.map D.str)
  | [] => .nil
  | y :: ys => .cons (.str y) (reps_strs ys)
theorem zsortT {x : Str} {ss : List (List Nat)} {p p2 pos : Pos} (hc : X.calm = true) (hg0 : Gl X "sorted") (hm0 : X.mg "sorted" = none) (hg : Gl X x) (hm : X.mg x = some (.ref b)) (S : SDk X.prog X.w X.K b kvs) (hk : kvs.map (·.1) = (ss.map fun y => (⟨y.toArray⟩ : Str)).map Sum.inr) (hl : ss.length < 60)
    (one : ∀ ys : List Str, ys.Perm (ss.map fun y => (⟨y.toArray⟩ : Str)) → sortedS ys = true → ys = ss.map fun y => (⟨y.toArray⟩ : Str))
    (hd : (x == ("__debug__" : Str)) = false := by decide) (na : starEach [.Name x p2] X.env = (false, eval (.Name x p2) X.env) :: starEach [] X.env := by rfl) :
    PE X (.Call (.Name "sorted" p) [.Name x p2] [] pos) (tN X.K F (fun _ _ => .ret (ss.map D.str))) :=
  PEimp (pe_callB (cr_sortT hc S hk (by simpa using hl)) hg0 hm0 (by decide +kernel) (pa_cons (pe_glob (v := V.ref b) hg hm rfl hd) pa_nil na) (he := na)) fun σ H Q h => by
    obtain ⟨ρ, m0, m1, fr, hp, a, h⟩ := h
    refine ⟨rfl, fun ys p hp hs hf => ?_⟩
    rw [one ys hp hs]
    obtain ⟨k3, a3⟩ := a.upd (o := .lst ((ss.map fun y => (⟨y.toArray⟩ : Str)).map V.str)) hf
    exact h _ p _ k3 a3.row hf upd_same (reps_strs ss)
end
/-! ### a def that a name holds -/
section
variable {X : Cx} {F : Ev}
/-- name(es): the name holds the k-th def -/
def eCallV (i : Nat) (rs : List (List D → T D)) (n : Nat) (g : Fr → Hz → T (List D)) : Ex := fun fr hp => match gt fr i with
  | some (.v (.fn k)) => (ofO (gtL rs k)).bind fun r => eCall r n g fr hp
  | _ => .fail
def tQ (K : PySem.W.Frag) (F : Ev) (i q n : Nat) (f : List D → T D) (g : Fr → Hz → T (List D)) : TE := fun σ H Q => ∃ ρ m0 m1 fr hp, At K F ρ m0 m1 H σ fr hp ∧ gt fr i = some (.v (.fn q)) ∧ (eCall f n g fr hp).all fun d => ∀ H' v, Keep ρ H H' → RowA K ρ H' → Rep K F (m0 ++ m1) H' v d → Q v H'
/-- one def of the list -/
theorem zcallQ {e : Expr} {es : List Expr} {x : Str} {p pos : Pos} {i j k n q : Nat} {f : List D → T D} {fa : Addr} {fd : FuncData} {ps : List Str} {g : Fr → Hz → T (List D)} (G : FnOk X.prog X.w X.K X.mg X.base CX0 k fa fd ps (spP X.K F f n)) (kp : PySem.W.keepIn X.K (.ref fa) = true) (hb : Binds X.K fd ps []) (hF : F.fn q = some fa) (hr : Room j X.A) (hk : k ≤ j) (hN : X.N[i]? = some x) (hv : Vis X.env.scope x) (ha : PA X (e :: es) (tAs X.K F g))
    (hd : (x == ("__debug__" : Str)) = false := by decide) (hcd : (x == ("__classdict__" : Str)) = false := by decide)
    (he : starEach (e :: es) X.env = (false, eval e X.env) :: starEach es X.env := by rfl) (hpl : (backTo pos (starEach es X.env)).any (·.1) = false := by rfl) :
    PE X (.Call (.Name x p) (e :: es) [] pos) (tQ X.K F i q n f g) :=
  PEimp (C8.pe_cv ⟨_, _, G, kp, hb⟩ ⟨_, _, G, kp, hb⟩ hr hk hk hN hv ha hd hcd he hpl) fun σ H Q h => by
    obtain ⟨ρ, m0, m1, fr, hp, a, e1, h⟩ := h
    obtain ⟨v, e2, r⟩ := a.get e1
    have r : Rep X.K F (m0 ++ m1) H v (.fn q) := r
    cases r with
    | fn e3 =>
      rw [hF] at e3
      cases e3
      refine .inl ⟨e2, ?_⟩
      have h0 : tX X.K F (eCall f n g) σ H Q := ⟨ρ, m0, m1, fr, hp, a, h⟩
      have h1 := zcall_core (E := E0) h0
      have e : (fun (vs : List V) H1 => spP X.K F f n (vs ++ []) H1 Q E0) = fun vs H1 => spP X.K F f n vs H1 Q E0 := by
        funext vs H1
        rw [List.append_nil]
      have h2 : tAs X.K F g σ H (fun vs H1 => spP X.K F f n (vs ++ []) H1 Q E0) := h1
      rw [e] at h2
      exact h2
theorem zcallV4 {e : Expr} {i n : Nat} {f0 f1 f2 f3 : List D → T D} {g : Fr → Hz → T (List D)} (h0 : PE X e (tQ X.K F i 0 n f0 g)) (h1 : PE X e (tQ X.K F i 1 n f1 g)) (h2 : PE X e (tQ X.K F i 2 n f2 g)) (h3 : PE X e (tQ X.K F i 3 n f3 g)) : PE X e (tX X.K F (eCallV i [f0, f1, f2, f3] n g)) :=
  ⟨fun pins s σ H Q I h => by
    obtain ⟨ρ, m0, m1, fr, hp, a, h⟩ := h
    unfold eCallV at h
    split at h
    · rename_i k eg
      match k, eg, h with
      | 0, eg, h => exact h0.run pins s σ H Q I ⟨ρ, m0, m1, fr, hp, a, eg, h⟩
      | 1, eg, h => exact h1.run pins s σ H Q I ⟨ρ, m0, m1, fr, hp, a, eg, h⟩
      | 2, eg, h => exact h2.run pins s σ H Q I ⟨ρ, m0, m1, fr, hp, a, eg, h⟩
      | 3, eg, h => exact h3.run pins s σ H Q I ⟨ρ, m0, m1, fr, hp, a, eg, h⟩
      | k + 4, eg, h => exact h.elim
    · exact h.elim⟩
end
end Zl
set_option Elab.async false
set_option linter.all false
set_option maxRecDepth 100000
set_option maxHeartbeats 2000000
/-! ZX: x, y = a, {} and x, y, z = a, b, a list of one's own. -/
namespace Zl
open PySem L2 PySem.Spec PyProof.Rows
section
variable {X : Cx} {F : Ev}
def sParD (i j : Nat) (f : Ex) : Sm := fun fr hp => (f fr hp).bind fun x => .ret (.nx (setN (setN fr i (some (.v x))) j (some (.r hp.length))) (hp ++ [[.dct [] []]]))
/-- .. where a comprehension sees a name -/
theorem zparDc {i j : Nat} {x y : Str} {a : Expr} {f : Ex} {px py pt pd pos : Pos} {kt k2 pt2} (hc : X.calm = true) (gi : PG X (.Name x px) (gName i)) (gj : PG X (.Name y py) (gName j)) (ha : PE X a (tX X.K F f))
    (h1 : (assignEach [.Name x px, .Name y py] X.env).map (·.2) = assign (.Name x px) X.env :: (assignEach [.Name y py] X.env).map (·.2) := by rfl) (h2 : (assignEach [.Name y py] X.env).map (·.2) = assign (.Name y py) X.env :: (assignEach [] X.env).map (·.2) := by rfl)
    (h3 : (assignEach [.Name x px, .Name y py] X.env).length = 2 := by rfl) (h4 : (assignEach [.Name x px, .Name y py] X.env).findIdx? (·.1) = none := by rfl)
    (hs : swapsWithSole [.Tuple [.Name x px, .Name y py] kt pt] (.Tuple [a, .Dict [] [] pd] k2 pt2) pos.line X.env = pure false := by rfl) (hw : swappedStores [.Tuple [.Name x px, .Name y py] kt pt] (.Tuple [a, .Dict [] [] pd] k2 pt2) X.env = pure none := by rfl)
    (h5 : (assignEach [.Tuple [.Name x px, .Name y py] kt pt] X.env).map (·.2) = [assign (.Tuple [.Name x px, .Name y py] kt pt) X.env] := by rfl)
    (na : starEach [a, .Dict [] [] pd] X.env = (false, eval a X.env) :: starEach [.Dict [] [] pd] X.env := by rfl) (nb : starEach [.Dict [] [] pd] X.env = (false, eval (.Dict [] [] pd) X.env) :: starEach [] X.env := by rfl) :
    PS X (.Assign [.Tuple [.Name x px, .Name y py] kt pt] (.Tuple [a, .Dict [] [] pd] k2 pt2) pos) (tS X.K F (sParD i j f)) :=
  PSimp (ps_asg (pe_tup (pa_cons ha (pa_cons pe_dnewK pa_nil nb) na)) (pg_tup hc (pgs_cons gi (pgs_cons gj pgs_nil h2) h1) h3 h4) hs hw h5) fun D σ H h => by
    obtain ⟨ρ, m0, m1, fr, hp, a, h⟩ := h
    refine tX_mk a (T.all_bind h) fun x hx H1 v k1 a1 rx => ?_
    intro p hq
    refine ⟨(show 2 ≤ sizeLine from by decide), fun q hq2 => ?_⟩
    have a2 : At X.K F ρ m0 m1 H1 (σ.set i (some v)) (setN fr i (some (.v x))) hp := ⟨a1.fr.set (s := .v x) i rx, a1.sim, a1.row, a1.own⟩
    obtain ⟨k3, a3⟩ := a2.upd (o := .dK []) hq
    obtain ⟨g, at'⟩ := a2.more (ds := [.dct [] []]) k3 a3.row hq (.inr ⟨[], [], [], rfl, upd_same, rfl, .nil⟩) (by rw [upd_same]; exact fun z => nomatch z) j
    obtain ⟨k4, a4⟩ := at'.upd (o := .tup [v, .ref p]) hq2
    refine ⟨q, [v, .ref p], rfl, .inl (.inl upd_same), rfl, v, [.ref p], rfl, .ref p, [], rfl, rfl, ?_⟩
    exact hx _ _ _ (((Grow.of k1).trans a1.rowN g).trans at'.rowN (.of k4)) a4
def sPar3N (i j l : Nat) (f g : Ex) (h : Fr → Hz → T (List Zl.D)) : Sm := fun fr hp => (f fr hp).bind fun x => (g fr hp).bind fun y => (h fr hp).bind fun z => if lstOk z then .ret (.nx (setN (setN (setN fr i (some (.v x))) j (some (.v y))) l (some (.r hp.length))) (hp ++ [z])) else .fail
/-- .. where a comprehension sees a name -/
theorem zpar3Nc {i j l : Nat} {x y z : Str} {a b c : Expr} {f g : Ex} {h : Fr → Hz → T (List D)} {px py pz pt pos : Pos} {kt k2 pt2} (hc : X.calm = true) (gi : PG X (.Name x px) (gName i)) (gj : PG X (.Name y py) (gName j)) (gl : PG X (.Name z pz) (gName l)) (ha : PE X a (tX X.K F f)) (hb : PE X b (tX X.K F g)) (hcc : PE X c (tN X.K F h))
    (h1 : (assignEach [.Name x px, .Name y py, .Name z pz] X.env).map (·.2) = assign (.Name x px) X.env :: (assignEach [.Name y py, .Name z pz] X.env).map (·.2) := by rfl) (h2 : (assignEach [.Name y py, .Name z pz] X.env).map (·.2) = assign (.Name y py) X.env :: (assignEach [.Name z pz] X.env).map (·.2) := by rfl) (h2' : (assignEach [.Name z pz] X.env).map (·.2) = assign (.Name z pz) X.env :: (assignEach [] X.env).map (·.2) := by rfl)
    (h3 : (assignEach [.Name x px, .Name y py, .Name z pz] X.env).length = 3 := by rfl) (h4 : (assignEach [.Name x px, .Name y py, .Name z pz] X.env).findIdx? (·.1) = none := by rfl)
    (hs : swapsWithSole [.Tuple [.Name x px, .Name y py, .Name z pz] kt pt] (.Tuple [a, b, c] k2 pt2) pos.line X.env = pure false := by rfl) (hw : swappedStores [.Tuple [.Name x px, .Name y py, .Name z pz] kt pt] (.Tuple [a, b, c] k2 pt2) X.env = pure none := by rfl)
    (h5 : (assignEach [.Tuple [.Name x px, .Name y py, .Name z pz] kt pt] X.env).map (·.2) = [assign (.Tuple [.Name x px, .Name y py, .Name z pz] kt pt) X.env] := by rfl)
    (na : starEach [a, b, c] X.env = (false, eval a X.env) :: starEach [b, c] X.env := by rfl) (nb : starEach [b, c] X.env = (false, eval b X.env) :: starEach [c] X.env := by rfl) (nc : starEach [c] X.env = (false, eval c X.env) :: starEach [] X.env := by rfl) :
    PS X (.Assign [.Tuple [.Name x px, .Name y py, .Name z pz] kt pt] (.Tuple [a, b, c] k2 pt2) pos) (tS X.K F (sPar3N i j l f g h)) :=
  PSimp (ps_asg (pe_tup (pa_cons ha (pa_cons hb (pa_cons hcc pa_nil nc) nb) na)) (pg_tup hc (pgs_cons gi (pgs_cons gj (pgs_cons gl pgs_nil h2') h2) h1) h3 h4) hs hw h5) fun D σ H hh => by
    obtain ⟨ρ, m0, m1, fr, hp, a, hh⟩ := hh
    refine tX_mk a (T.all_bind hh) fun x hx H1 v k1 a1 rx => ?_
    refine tX_mk a1 (T.all_bind hx) fun y hy H2 u k2 a2 ry => ?_
    have a3 : At X.K F ρ m0 m1 H2 ((σ.set i (some v)).set j (some u)) (setN (setN fr i (some (.v x))) j (some (.v y))) hp := ⟨(a2.fr.set (s := .v x) i (rx.on a1.own k2)).set (s := .v y) j ry, a2.sim, a2.row, a2.own⟩
    refine tN_mk a2 (T.all_bind hy) fun ds hd H3 b vs k4 a4 hb hl' r => ?_
    by_cases ok : lstOk ds = true
    case neg => rw [if_neg ok] at hd; exact hd.elim
    rw [if_pos ok] at hd
    obtain ⟨g, at'⟩ := a3.more k4 a4.row hb (.inl ⟨ok, vs, hl', r⟩) (by rw [hl']; exact fun z => nomatch z) l
    refine ⟨(show 3 ≤ sizeLine from by decide), fun q hq2 => ?_⟩
    obtain ⟨k5, a5⟩ := at'.upd (o := .tup [v, u, .ref b]) hq2
    refine ⟨q, [v, u, .ref b], rfl, .inl (.inl upd_same), rfl, v, [u, .ref b], rfl, u, [.ref b], rfl, .ref b, [], rfl, rfl, ?_⟩
    exact hd _ _ _ (((Grow.of (k1.trans k2)).trans a2.rowN g).trans at'.rowN (.of k5)) a5
/-! ### what the texts of the defs lean on -/
theorem units80 {k : Nat} {A : Around} (r : Room k A) : A.units + 80 < cLine := by have := r.un; omega
/-- the entries of a dict of the text -/
inductive EntR (w : World) : List DictEntry → List (Key × V) → Prop
  | nil : EntR w [] []
  | cons {e : DictEntry} {k : Key} {v : V} {es : List DictEntry} {kvs : List (Key × V)} : keyIs k e.key = true → e.hash = keyH w k → RelV v e.val → EntR w es kvs → EntR w (e :: es) ((k, v) :: kvs)
theorem EntR.out {P : Program} {w : World} : ∀ {es : List DictEntry} {kvs : List (Key × V)}, EntR w es kvs → ∃ vs : List (Key × Value), KV kvs vs ∧ Pairs (mixKind P w) es vs ∧ vs.map (·.1) = kvs.map (·.1) ∧ ∀ e ∈ es, ∃ k, (mixKind P w).is k e.key = true ∧ e.hash = (mixKind P w).hash k
  | _, _, .nil => ⟨[], .nil, .nil, rfl, fun e h => (List.not_mem_nil h).elim⟩
  | _, _, .cons (e := e) (k := k) h1 h2 h3 h4 => by
    obtain ⟨vs, g1, g2, g3, g4⟩ := EntR.out (P := P) h4
    refine ⟨(k, e.val) :: vs, .cons ⟨rfl, h3⟩ g1, .cons h1 rfl g2, by rw [List.map_cons, List.map_cons, g3], fun e' h => ?_⟩
    rcases List.mem_cons.mp h with z | z
    · rw [z]; exact ⟨k, h1, h2⟩
    · exact g4 e' z
theorem sdk_of {P : Program} {w : World} {K : PySem.W.Frag} {a : Addr} {es : Array DictEntry} {n : Nat} {kvs : List (Key × V)} (hl : K.lookup a = some ⟨.type "dict", none, .dict es n, #[]⟩) (lo : (a == sysModules) = false) (h : EntR w es.toList kvs) (nd : (kvs.map (·.1)).Nodup) : SDk P w K a kvs where
  lo := lo
  at' := fun H X => by
    obtain ⟨vs, g1, g2, g3, g4⟩ := h.out (P := P)
    exact ⟨vs, g1, _, es, n, X _ _ hl, ⟨rfl, rfl, rfl⟩, rfl, fun e he => g4 e (Array.mem_toList_iff.mpr he), g2, by rw [g3]; exact nd⟩
end
end Zl
set_option Elab.async false
set_option linter.all false
set_option maxRecDepth 100000
/-! ZY: readings where a list is not known, item by item. -/
namespace Zl
open PySem L2
theorem few_of {α : Type} : ∀ {l : List α} {n : Nat}, l.length ≤ n → few l n = true
  | [], _, _ => by unfold few; rfl
  | _ :: _, 0, h => absurd h (by simp)
  | _ :: r, n + 1, h => few_of (l := r) (by simpa using h)
/-- a list of n numbers -/
@[irreducible] def rl (g : Nat → Nat) (n : Nat) : List D := (List.range n).map fun i => D.int (.ofNat (g i))
theorem rl_def (g : Nat → Nat) (n : Nat) : rl g n = (List.range n).map fun i => D.int (.ofNat (g i)) := by unfold rl; rfl
theorem rl_len (g : Nat → Nat) (n : Nat) : (rl g n).length = n := by simp [rl]
theorem gtL_rl {g : Nat → Nat} {n i : Nat} (h : i < n) : gtL (rl g n) i = some (.int (.ofNat (g i))) := by rw [gtL_eq]; simp [rl, h]
theorem rl_get {g : Nat → Nat} {n i : Nat} {d : D} (h : (rl g n)[i]? = some d) : i < n ∧ d = .int (.ofNat (g i)) := by
  unfold rl at h
  rw [List.getElem?_map] at h
  by_cases hi : i < n
  · rw [List.getElem?_range hi] at h
    exact ⟨hi, (Option.some.inj h).symm⟩
  · rw [List.getElem?_eq_none (by simpa using hi)] at h
    cases h
theorem rl_mem {g : Nat → Nat} {n : Nat} {d : D} (h : d ∈ rl g n) : ∃ i, i < n ∧ d = .int (.ofNat (g i)) := by
  obtain ⟨i, hi⟩ := List.mem_iff_getElem?.mp h
  exact ⟨i, rl_get hi⟩
theorem setN_rl {g : Nat → Nat} {n k v : Nat} : setN (rl g n) k (.int (.ofNat v)) = rl (fun i => if i = k then v else g i) n := by
  rw [setN_eq]
  apply List.ext_getElem?
  intro j
  by_cases hj : j < n
  · have e1 : (rl (fun i => if i = k then v else g i) n)[j]? = some (.int (.ofNat (if j = k then v else g j))) := by simp [rl, hj]
    have e2 : (rl g n)[j]? = some (.int (.ofNat (g j))) := by simp [rl, hj]
    rw [e1, List.getElem?_set]
    by_cases hk : k = j
    · subst hk
      simp [rl_len, hj]
    · rw [if_neg hk, if_neg (fun z => hk z.symm), e2]
  · rw [List.getElem?_eq_none (by simp [rl_len]; omega), List.getElem?_eq_none (by simp [rl_len]; omega)]
theorem lstOk_rl (g : Nat → Nat) (n : Nat) : lstOk (rl g n) = true := by
  cases n with
  | zero => unfold rl; rfl
  | succ n => unfold rl; rw [List.range_succ_eq_map]; rfl
theorem T.bindE {α β : Type} {t : T α} {a : α} (h : t = .ret a) (k : α → T β) : t.bind k = k a := by rw [h]; rfl
/-- for, with an invariant that knows what was walked -/
theorem forS_inv {set : D → Fr → T Fr} {body : Sm} (J : List D → Fr → Hz → Prop) : ∀ (rest done : List D) (fr : Fr) (hp : Hz),
    (∀ done x, x ∈ rest → ∀ fr hp, J done fr hp → ∃ fr1 fr' hp', set x fr = .ret fr1 ∧ body fr1 hp = .ret (.nx fr' hp') ∧ J (done ++ [x]) fr' hp') → J done fr hp →
    ∃ fr' hp', forS set body rest fr hp = .ret (.nx fr' hp') ∧ J (done ++ rest) fr' hp'
  | [], done, fr, hp, _, j => ⟨fr, hp, rfl, by rw [List.append_nil]; exact j⟩
  | x :: r, done, fr, hp, h, j => by
    obtain ⟨fr1, fr', hp', e1, e2, j'⟩ := h done x (by simp) fr hp j
    obtain ⟨fr2, hp2, e3, j2⟩ := forS_inv J r (done ++ [x]) fr' hp' (fun d y hy => h d y (List.mem_cons_of_mem _ hy)) j'
    refine ⟨fr2, hp2, ?_, by rw [List.append_assoc] at j2; exact j2⟩
    show ((set x fr).bind fun fr1 => (body fr1 hp).bind (loopO (forS set body r))) = _
    rw [T.bindE e1, T.bindE e2]
    exact e3
/-- a comprehension, item by item -/
theorem lcF_map {set : D → Fr → T Fr} {t : Fr → Hz → T Bool} {e : Ex} {fr : Fr} {hp : Hz} (b : D → Bool) (v : D → D) : ∀ ds : List D,
    (∀ d ∈ ds, ∃ fr1, set d fr = .ret fr1 ∧ t fr1 hp = .ret (b d) ∧ (b d = true → e fr1 hp = .ret (v d))) → lcF set t e ds fr hp = .ret ((ds.filter b).map v)
  | [], _ => rfl
  | d :: ds, h => by
    obtain ⟨fr1, e1, e2, e3⟩ := h d (by simp)
    have ih := lcF_map b v ds fun x hx => h x (List.mem_cons_of_mem _ hx)
    show ((set d fr).bind fun fr1 => (t fr1 hp).bind fun b => bif b then (e fr1 hp).bind fun y => (lcF set t e ds fr hp).bind fun ys => .ret (y :: ys) else lcF set t e ds fr hp) = _
    rw [T.bindE e1, T.bindE e2, ih]
    cases q : b d with
    | true =>
      show ((e fr1 hp).bind fun y => ((T.ret ((ds.filter b).map v)).bind fun ys => .ret (y :: ys))) = _
      rw [T.bindE (e3 q), List.filter_cons_of_pos q]
      rfl
    | false =>
      rw [List.filter_cons_of_neg (by rw [q]; exact Bool.false_ne_true)]
      rfl
def okKey (ks : List D) (y : D) : Bool := match y with
  | .tup ds => match nk (.tup ds) with
    | some n => Nat.ble n.depth 8 && freshK n ks && few ks 9000
    | none => false
  | _ => false
def okKeys : List D → List D → Bool
  | _, [] => true
  | ks, y :: r => bif okKey ks y then okKeys (ks ++ [y]) r else false
theorem putD_ok {ks vs : List D} {y z : D} (h : okKey ks y = true) : putD ks vs y z = .ret (ks ++ [y], vs ++ [z]) := by
  unfold okKey at h
  split at h
  · rename_i ds
    unfold putD
    split at h
    · rename_i n e
      show ((ofO (nk (.tup ds))).bind _) = _
      rw [e]
      show guardT _ _ = _
      rw [h]
      rfl
    · cases h
  · cases h
/-- {k: v for k, v' in zip(..)} -/
theorem dcF_zip {set : D → Fr → T Fr} {ek ev : Ex} {fr : Fr} {hp : Hz} (val : D → D) : ∀ (xs ys ks vs : List D), xs.length = ys.length → okKeys ks xs = true →
    (∀ x y, y ∈ ys → ∃ fr1, set (.tup [x, y]) fr = .ret fr1 ∧ ek fr1 hp = .ret x ∧ ev fr1 hp = .ret (val y)) →
    dcF set bYes ek ev (zipD xs ys) fr hp ks vs = .ret (.dct (ks ++ xs) (vs ++ ys.map val))
  | [], [], ks, vs, _, _, _ => by rw [List.append_nil, List.map_nil, List.append_nil]; rfl
  | [], _ :: _, _, _, h, _, _ => by simp at h
  | _ :: _, [], _, _, h, _, _ => by simp at h
  | x :: xs, y :: ys, ks, vs, hl, hk, h => by
    obtain ⟨fr1, e1, e2, e3⟩ := h x y (by simp)
    unfold okKeys at hk
    cases q : okKey ks x with
    | false => rw [q] at hk; cases hk
    | true =>
      rw [q] at hk
      have ih := dcF_zip val xs ys (ks ++ [x]) (vs ++ [val y]) (by simpa using hl) hk fun a b hb => h a b (List.mem_cons_of_mem _ hb)
      show ((set (.tup [x, y]) fr).bind fun fr1 => (ek fr1 hp).bind fun y => (ev fr1 hp).bind fun z => (putD ks vs y z).bind fun q => dcF set bYes ek ev (zipD xs ys) fr hp q.1 q.2) = _
      rw [T.bindE e1, T.bindE e2, T.bindE e3, T.bindE (putD_ok q)]
      show dcF set bYes ek ev (zipD xs ys) fr hp (ks ++ [x]) (vs ++ [val y]) = _
      rw [ih]
      simp
/-- the place of a key -/
def lookP (n : NestedKey) : List D → Nat → Option Nat
  | [], _ => none
  | k :: ks, i => match nk k with
    | some m => bif NestedKey.beq m n then some i else lookP n ks (i + 1)
    | none => none
theorem lookD_at {n : NestedKey} : ∀ {ks vs : List D} {i j : Nat} {d : D}, lookP n ks i = some j → ks.length = vs.length → vs[j - i]? = some d → lookD n ks vs = some d ∧ i ≤ j
  | [], _, _, _, _, h, _, _ => by cases h
  | _ :: _, [], _, _, _, _, hl, _ => by simp at hl
  | k :: ks, v :: vs, i, j, d, h, hl, hd => by
    unfold lookP at h
    unfold lookD
    split at h
    · rename_i m e
      first | rw [e] | skip
      cases q : NestedKey.beq m n with
      | true =>
        rw [q] at h
        cases h
        rw [Nat.sub_self] at hd
        have hd : v = d := by simpa using hd
        subst hd
        exact ⟨by first | (simp only [q]; rfl) | rfl, Nat.le_refl _⟩
      | false =>
        rw [q] at h
        have h : lookP n ks (i + 1) = some j := h
        have hle : i + 1 ≤ j := by
          -- the place found lies behind
          exact lookP_le h
        have hd' : vs[j - (i + 1)]? = some d := by
          have e2 : j - i = (j - (i + 1)) + 1 := by omega
          rw [e2] at hd
          simpa using hd
        obtain ⟨a, b⟩ := lookD_at h (by simpa using hl) hd'
        exact ⟨by first | (simp only [q]; exact a) | exact a, by omega⟩
    · cases h
where
  lookP_le {n : NestedKey} : ∀ {ks : List D} {i j : Nat}, lookP n ks i = some j → i ≤ j
    | [], _, _, h => by cases h
    | k :: ks, i, j, h => by
      unfold lookP at h
      split at h
      · rename_i m e
        cases q : NestedKey.beq m n with
        | true => rw [q] at h; cases h; exact Nat.le_refl _
        | false =>
          rw [q] at h
          have := lookP_le (ks := ks) (i := i + 1) (j := j) h
          omega
      · cases h
theorem bools_map (f : D → Bool) : ∀ l : List D, bools (l.map fun x => D.bl (f x)) = some (l.map f)
  | [] => rfl
  | x :: l => by
    show (match bools (l.map fun x => D.bl (f x)) with
      | some bs => some (f x :: bs)
      | none => none) = _
    rw [bools_map f l]
    rfl
theorem allBs_map (f : D → Bool) : ∀ l : List D, allBs (l.map f) = l.all f
  | [] => rfl
  | x :: l => by
    have ih := allBs_map f l
    show allBs (f x :: l.map f) = (f x && l.all f)
    rw [← ih]
    show (bif f x then allBs (l.map f) else false) = _
    cases f x <;> rfl
end Zl
set_option Elab.async false
set_option linter.all false
/-! ZZ: how readings run, step by step (big steps without draws). -/
namespace Zl
open PySem L2
section
variable {fr fr' fr1 : Fr} {hp hp' : Hz} {f g h : Ex} {s s' : Sm} {as : Fr → Hz → T (List D)} {d x y : D} {ds xs ys : List D} {b : Bool} {i j n : Nat}
theorem nB {s : Sm} {ds : List D} (e : argFr n ds = fr) (h : s fr [] = .ret (.rt d)) : runB s n ds = .ret d := by
  unfold runB; rw [e, h]; rfl
theorem nBn {s : Sm} {ds : List D} (e : argFr n ds = fr) (h : s fr [] = .ret (.nx fr' hp')) : runB s n ds = .ret .non := by
  unfold runB; rw [e, h]; rfl
theorem nSeq (h1 : s fr hp = .ret (.nx fr' hp')) {o : T Out} (h2 : s' fr' hp' = o) : sSeq s s' fr hp = o := by
  unfold sSeq; rw [h1]; exact h2
theorem nNil : sNil fr hp = .ret (.nx fr hp) := rfl
theorem nDrop (h1 : f fr hp = .ret d) : sDrop f fr hp = .ret (.nx fr hp) := by
  unfold sDrop; rw [h1]; rfl
theorem nSet (h1 : f fr hp = .ret d) (e : setN fr i (some (.v d)) = fr') : sSet i f fr hp = .ret (.nx fr' hp) := by
  unfold sSet; rw [h1, ← e]; rfl
theorem nSetV (h1 : f fr hp = .ret d) (e : setN fr i (some (.v d)) = fr') : sSetV i f fr hp = .ret (.nx fr' hp) := by
  rw [sSetV_eq]; exact nSet h1 e
theorem nRet (h1 : f fr hp = .ret d) : sRet f fr hp = .ret (.rt d) := by
  unfold sRet; rw [h1]; rfl
theorem nRetF (h1 : f fr hp = .ret d) : sRetF f fr hp = .ret (.rt d) := by
  rw [sRetF_eq]; exact nRet h1
theorem nIfT {t : Fr → Hz → T Bool} {o : T Out} (h1 : t fr hp = .ret true) (h2 : s fr hp = o) : sIf t s s' fr hp = o := by
  unfold sIf; rw [h1]; exact h2
theorem nIfF {t : Fr → Hz → T Bool} {o : T Out} (h1 : t fr hp = .ret false) (h2 : s' fr hp = o) : sIf t s s' fr hp = o := by
  unfold sIf; rw [h1]; exact h2
theorem nFor {it : Fr → Hz → T (List D)} {set : D → Fr → T Fr} {o : T Out} (h1 : it fr hp = .ret ds) (h2 : forS set s ds fr hp = o) : sFor it set s fr hp = o := by
  unfold sFor; rw [h1]; exact h2
theorem nNew {nl : Fr → Hz → T (List D)} (h1 : nl fr hp = .ret xs) (h2 : lstOk xs = true) (e : setN fr i (some (.r hp.length)) = fr') (e2 : hp ++ [xs] = hp') : sNew i nl fr hp = .ret (.nx fr' hp') := by
  unfold sNew; rw [h1]; show (if lstOk xs then _ else _) = _; rw [if_pos h2, e, e2]
theorem nApp (e : gt fr i = some (.r n)) (e2 : hp[n]? = some xs) (k : (lstOk xs && few xs 10000) = true) (h1 : f fr hp = .ret d) (k2 : lstOk (xs ++ [d]) = true) (e3 : setN hp n (xs ++ [d]) = hp') : sApp i f fr hp = .ret (.nx fr hp') := by
  unfold sApp
  rw [e]
  show ((ofO hp[n]?).bind _) = _
  rw [e2]
  show guardT _ _ = _
  rw [k]
  show ((f fr hp).bind _) = _
  rw [h1]
  show guardT _ _ = _
  rw [k2, e3]
  rfl
theorem nV (e : gt fr i = some (.v d)) : eV i fr hp = .ret d := by
  unfold eV; rw [e]; rfl
theorem nC : eC d fr hp = .ret d := rfl
theorem nVs (e : gt fr i = some (.r n)) (e2 : hp[n]? = some xs) (k : lstOk xs = true) : eVs i fr hp = .ret xs := by
  unfold eVs; rw [e]; show ((ofO hp[n]?).bind _) = _; rw [e2]; show (if lstOk xs then _ else _) = _; rw [if_pos k]
theorem nN : aN fr hp = .ret [] := rfl
theorem nA (h1 : f fr hp = .ret x) (h2 : as fr hp = .ret xs) : aC f as fr hp = .ret (x :: xs) := by
  unfold aC; rw [h1]; show ((as fr hp).bind _) = _; rw [h2]; rfl
theorem nAF (h1 : f fr hp = .ret x) (h2 : as fr hp = .ret xs) : aCF f as fr hp = .ret (x :: xs) := by
  rw [aCF_eq]; exact nA h1 h2
theorem nCall {r : List D → T D} {o : T D} (h1 : as fr hp = .ret ds) (hn : Nat.beq ds.length n = true) (h2 : r ds = o) : eCall r n as fr hp = o := by
  unfold eCall; rw [h1]; show guardT _ _ = _; rw [hn]; exact h2
theorem nLseqT (h1 : f fr hp = .ret (.tup xs)) : lSeq f fr hp = .ret xs := by
  unfold lSeq; rw [h1]; rfl
theorem nLseqL (h1 : f fr hp = .ret (.lst xs)) : lSeq f fr hp = .ret xs := by
  unfold lSeq; rw [h1]; rfl
theorem nIx (h1 : as fr hp = .ret xs) (h2 : g fr hp = .ret (.int (.ofNat n))) (e : gtL xs n = some d) : eIx as g fr hp = .ret d := by
  unfold eIx; rw [h1]; show ((g fr hp).bind _) = _; rw [h2]; show ofO (gtL xs n) = _; rw [e]; rfl
theorem nLen (h1 : as fr hp = .ret xs) (e : xs.length = n) : eLen as fr hp = .ret (.int (.ofNat n)) := by
  unfold eLen; rw [h1, ← e]; rfl
theorem nTup (h1 : as fr hp = .ret xs) : eTupOf as fr hp = .ret (.tup xs) := by
  unfold eTupOf; rw [h1]; rfl
theorem nLst (h1 : as fr hp = .ret xs) : lst as fr hp = .ret (.lst xs) := by
  unfold lst; rw [h1]; rfl
theorem nB1 (h1 : f fr hp = .ret (.bl b)) : b1 f fr hp = .ret b := by
  unfold b1; rw [h1]; rfl
theorem nNot {t : Fr → Hz → T Bool} {c : Bool} (h1 : t fr hp = .ret b) (e : (!b) = c) : bNot t fr hp = .ret c := by
  unfold bNot; rw [h1, ← e]; rfl
theorem nOrF {t t' : Fr → Hz → T Bool} {o : T Bool} (h1 : t fr hp = .ret false) (h2 : t' fr hp = o) : bOr t t' fr hp = o := by
  unfold bOr; rw [h1]; exact h2
theorem n2 {op : D → D → T D} {o : T D} (h1 : f fr hp = .ret x) (h2 : g fr hp = .ret y) (h3 : op x y = o) : e2 op f g fr hp = o := by
  unfold e2; rw [h1]; show ((g fr hp).bind _) = _; rw [h2]; exact h3
theorem nIfE {t : Fr → Hz → T Bool} {o : T D} (h1 : t fr hp = .ret b) (h2 : (bif b then f fr hp else g fr hp) = o) : eIf t f g fr hp = o := by
  unfold eIf; rw [h1]; exact h2
theorem nLc1 {it : Fr → Hz → T (List D)} {set : D → Fr → T Fr} {t : Fr → Hz → T Bool} {e : Ex} {vs : List Nat} {o : T (List D)} (h1 : it fr hp = .ret ds) (h2 : few ds 10000 = true) (e1 : wipeF fr vs = fr1) (h3 : lcF set t e ds fr1 hp = o) : nLc it set t e vs fr hp = o := by
  unfold nLc; rw [h1]; show guardT _ _ = _; rw [h2, e1]; exact h3
theorem nDc {it : Fr → Hz → T (List D)} {set : D → Fr → T Fr} {t : Fr → Hz → T Bool} {ek ev : Ex} {vs : List Nat} {o : T D} (h1 : it fr hp = .ret ds) (e1 : wipeF fr vs = fr1) (h3 : dcF set t ek ev ds fr1 hp [] [] = o) : eDc it set t ek ev vs fr hp = o := by
  unfold eDc; rw [h1, e1]; exact h3
theorem nZip (h1 : f fr hp = .ret (.tup xs)) (h2 : g fr hp = .ret (.tup ys)) : lZip f g fr hp = .ret (zipD xs ys) := by
  unfold lZip; rw [h1]; show ((g fr hp).bind _) = _; rw [h2]; rfl
theorem nItems (h1 : f fr hp = .ret (.dct xs ys)) : lItems f fr hp = .ret (zipD xs ys) := by
  unfold lItems; rw [h1]; rfl
theorem nEnum (h1 : f fr hp = .ret (.tup xs)) : lEnum f fr hp = .ret (enumD 0 xs) := by
  unfold lEnum; rw [h1]; rfl
theorem nR1 (h1 : as fr hp = .ret xs) {o : T (List D)} (h2 : rng1 xs = o) : lR1 as fr hp = o := by
  unfold lR1; rw [h1]; exact h2
theorem nIxD {ks vs : List D} (h1 : f fr hp = .ret (.dct ks vs)) (h2 : g fr hp = .ret y) {o : T D} (h3 : ixD (.dct ks vs) y = o) : eIxD f g fr hp = o := by
  unfold eIxD; rw [h1]; show ((g fr hp).bind _) = _; rw [h2]; exact h3
theorem nAll (h1 : as fr hp = .ret xs) {bs : List Bool} (h2 : bools xs = some bs) (e : allBs bs = b) : eAll as fr hp = .ret (.bl b) := by
  unfold eAll; rw [h1]; show ((ofO (bools xs)).bind _) = _; rw [h2, ← e]; rfl
theorem nGI (e : setN fr i (some (.v d)) = fr') : gIX i d fr = .ret fr' := by rw [gIX_eq, ← e]; rfl
theorem nGF (e : setN fr i (some (.v d)) = fr') : gIF i d fr = .ret fr' := by rw [gIF_eq, ← e]; rfl
theorem nG2 (e : setN (setN fr i (some (.v x))) j (some (.v y)) = fr') : g2E i j (.tup [x, y]) fr = .ret fr' := by rw [g2E_eq, ← e]; rfl
end
end Zl
set_option Elab.async false
set_option linter.all false
/-! ZZA: what the lemmas of a law for any rule lean on. -/
namespace Zl
open PySem L2
def isNon : T D → Bool
  | .ret .non => true
  | _ => false
theorem isNon_eq {t : T D} (h : isNon t = true) : t = .ret .non := by
  unfold isNon at h
  split at h
  · rfl
  · cases h
def isBl : T D → Bool
  | .ret (.bl _) => true
  | _ => false
def unBl : T D → Bool
  | .ret (.bl b) => b
  | _ => false
theorem isBl_eq {t : T D} (h : isBl t = true) : t = .ret (.bl (unBl t)) := by
  unfold isBl at h
  split at h
  · rfl
  · cases h
def isTr : T D → Bool
  | .ret (.bl true) => true
  | _ => false
theorem isTr_eq {t : T D} (h : isTr t = true) : t = .ret (.bl true) := by
  unfold isTr at h
  split at h
  · rfl
  · cases h
def unN : T D → Nat
  | .ret (.int (.ofNat n)) => n
  | _ => 0
def isN' : T D → Bool
  | .ret (.int (.ofNat _)) => true
  | _ => false
theorem isN_eq {t : T D} (h : isN' t = true) : t = .ret (.int (.ofNat (unN t))) := by
  unfold isN' at h
  split at h
  · rfl
  · cases h
def isTup : D → Bool
  | .tup _ => true
  | _ => false
def tupL (d : D) (n : Nat) : Bool := match d with
  | .tup xs => Nat.beq xs.length n
  | _ => false
def unT : D → List D
  | .tup xs => xs
  | .lst xs => xs
  | _ => []
theorem tupL_eq {d : D} {n : Nat} (h : tupL d n = true) : d = .tup (unT d) ∧ (unT d).length = n := by
  unfold tupL at h
  split at h
  · exact ⟨rfl, Nat.eq_of_beq_eq_true h⟩
  · cases h
/-- a check of each item with its place -/
def allIx (f : Nat → D → Bool) : List D → Nat → Bool
  | [], _ => true
  | x :: r, i => bif f i x then allIx f r (i + 1) else false
theorem allIx_at {f : Nat → D → Bool} : ∀ {xs : List D} {k i : Nat} {x : D}, allIx f xs k = true → gtL xs i = some x → f (k + i) x = true
  | [], _, _, _, _, h => by unfold gtL at h; cases h
  | y :: r, k, i, x, h, e => by
    unfold allIx at h
    cases q : f k y with
    | false => rw [q] at h; cases h
    | true =>
      rw [q] at h
      cases i with
      | zero =>
        have e : some y = some x := e
        cases e
        exact q
      | succ i =>
        have := allIx_at (xs := r) (k := k + 1) (i := i) h e
        rw [show k + 1 + i = k + (i + 1) by omega] at this
        exact this
theorem gtL_lt {xs : List D} {i : Nat} (h : i < xs.length) : ∃ x, gtL xs i = some x := by
  rw [gtL_eq]
  exact ⟨_, List.getElem?_eq_getElem h⟩
theorem gtL_len {xs : List D} {i : Nat} {x : D} (h : gtL xs i = some x) : i < xs.length := by
  rw [gtL_eq] at h
  exact (List.getElem?_eq_some_iff.mp h).1
/-- a key's place in the rows -/
def keyOk (rows : List D) (i : Nat) (r : D) : Bool := match r with
  | .tup ds => match nk (.tup ds) with
    | some n => Nat.ble n.depth 8 && (match lookP n rows 0 with
      | some j => Nat.beq i j
      | none => false)
    | none => false
  | _ => false
theorem ixD_at {rows vs : List D} {i : Nat} {r d : D} (h : keyOk rows i r = true) (hl : rows.length = vs.length) (hd : vs[i]? = some d) : ixD (.dct rows vs) r = .ret d := by
  unfold keyOk at h
  split at h
  · rename_i ds
    split at h
    · rename_i n e
      rw [Bool.and_eq_true] at h
      split at h
      · rename_i j e2
        have ej := Nat.eq_of_beq_eq_true h.2
        subst ej
        show ((ofO (nk (.tup ds))).bind fun n => guardT (Nat.ble n.depth 8) (ofO (lookD n rows vs))) = _
        rw [e]
        show guardT (Nat.ble n.depth 8) (ofO (lookD n rows vs)) = _
        rw [h.1, (lookD_at e2 hl hd).1]
        rfl
      · exact absurd h.2 Bool.false_ne_true
    · cases h
  · cases h
/-! a sublist by its marks -/
def fl : List Bool → List D → List D
  | b :: bs, x :: xs => bif b then x :: fl bs xs else fl bs xs
  | _, _ => []
theorem filter_fl (c : D → Bool) : ∀ xs : List D, xs.filter c = fl (xs.map c) xs
  | [] => rfl
  | x :: xs => by
    show _ = bif c x then x :: fl (xs.map c) xs else fl (xs.map c) xs
    rw [← filter_fl c xs]
    cases q : c x with
    | true => rw [List.filter_cons_of_pos q]; rfl
    | false => rw [List.filter_cons_of_neg (by rw [q]; exact Bool.false_ne_true)]; rfl
def allBL : Nat → (List Bool → Bool) → Bool
  | 0, f => f []
  | n + 1, f => allBL n (fun l => f (true :: l)) && allBL n (fun l => f (false :: l))
theorem allBL_at : ∀ {n : Nat} {f : List Bool → Bool}, allBL n f = true → ∀ bs : List Bool, bs.length = n → f bs = true
  | 0, f, h, [], _ => h
  | 0, f, h, _ :: _, e => by simp at e
  | n + 1, f, h, [], e => by simp at e
  | n + 1, f, h, b :: bs, e => by
    unfold allBL at h
    rw [Bool.and_eq_true] at h
    cases b with
    | true => exact allBL_at (f := fun l => f (true :: l)) h.1 bs (by simpa using e)
    | false => exact allBL_at (f := fun l => f (false :: l)) h.2 bs (by simpa using e)
theorem filter_empty (b : D → Bool) : ∀ l : List D, (l.filter b).isEmpty = l.all fun x => !b x
  | [] => rfl
  | x :: l => by
    rw [List.all_cons, ← filter_empty b l]
    cases q : b x with
    | true => rw [List.filter_cons_of_pos q]; rfl
    | false => rw [List.filter_cons_of_neg (by rw [q]; exact Bool.false_ne_true)]; rfl
theorem okD_ints : ∀ (l : List D), (∀ d ∈ l, ∃ i, d = .int i) → allO (okD 11) l = true
  | [], _ => rfl
  | d :: l, h => by
    obtain ⟨i, rfl⟩ := h d (by simp)
    have := okD_ints l fun x hx => h x (List.mem_cons_of_mem _ hx)
    unfold allO
    rw [if_pos (by unfold okD; rfl)]
    exact this
theorem dEq_nil {l : List D} (h : ∀ d ∈ l, ∃ i, d = .int i) : dEqF (.lst l) (.lst []) = .ret (.bl l.isEmpty) := by
  show dEq (.lst l) (.lst []) = _
  unfold dEq
  have e1 : okD 12 (.lst l) = true := by unfold okD; exact okD_ints l h
  have e2 : okD 12 (.lst []) = true := by unfold okD; rfl
  rw [e1, e2]
  cases l <;> rfl
theorem lstOk_tups {l : List D} (h : ∀ d ∈ l, isTup d = true) : lstOk l = true := by
  cases l with
  | nil => rfl
  | cons d r =>
    have := h d (by simp)
    cases d <;> first | rfl | cases this
theorem dPlus_lst {xs ys : List D} (h : (few xs 10000 && few ys 10000) = true) : dPlus (.lst xs) (.lst ys) = .ret (.lst (xs ++ ys)) := by
  show guardT _ _ = _
  rw [h]
  rfl
section
variable {fr fr' : Fr} {hp hp' : Hz} {f g f' g' : Ex} {as as' : Fr → Hz → T (List D)}
theorem kIx (h1 : as fr hp = as' fr' hp') (h2 : g fr hp = g' fr' hp') : eIx as g fr hp = eIx as' g' fr' hp' := by unfold eIx; rw [h1, h2]
theorem kLseq (h1 : f fr hp = f' fr' hp') : lSeq f fr hp = lSeq f' fr' hp' := by unfold lSeq; rw [h1]
theorem k2 {op : D → D → T D} (h1 : f fr hp = f' fr' hp') (h2 : g fr hp = g' fr' hp') : e2 op f g fr hp = e2 op f' g' fr' hp' := by unfold e2; rw [h1, h2]
theorem kB1 (h1 : f fr hp = f' fr' hp') : b1 f fr hp = b1 f' fr' hp' := by unfold b1; rw [h1]
theorem kIdxF (h1 : f fr hp = f' fr' hp') (h2 : g fr hp = g' fr' hp') : eIdxF f g fr hp = eIdxF f' g' fr' hp' := by unfold eIdxF; rw [h1, h2]
theorem kT (h1 : as fr hp = as' fr' hp') : eT as fr hp = eT as' fr' hp' := by unfold eT; rw [h1]
theorem kA (h1 : f fr hp = f' fr' hp') (h2 : as fr hp = as' fr' hp') : aC f as fr hp = aC f' as' fr' hp' := by unfold aC; rw [h1, h2]
theorem kSl {p q p' q' : Fr → Hz → T (Option Int)} (h1 : f fr hp = f' fr' hp') (h2 : p fr hp = p' fr' hp') (h3 : q fr hp = q' fr' hp') : eSl f p q fr hp = eSl f' p' q' fr' hp' := by unfold eSl; rw [h1, h2, h3]
theorem kYes (h1 : f fr hp = f' fr' hp') : pYes f fr hp = pYes f' fr' hp' := by unfold pYes; rw [h1]
end
theorem forS_pre {set : D → Fr → T Fr} {body : Sm} (J : List D → Fr → Hz → Prop) (whole : List D) (h : ∀ (done : List D) (x : D) (rest : List D), whole = done ++ x :: rest → ∀ fr hp, J done fr hp → ∃ fr1 fr' hp', set x fr = .ret fr1 ∧ body fr1 hp = .ret (.nx fr' hp') ∧ J (done ++ [x]) fr' hp') :
    ∀ (rest done : List D) (fr : Fr) (hp : Hz), whole = done ++ rest → J done fr hp → ∃ fr' hp', forS set body rest fr hp = .ret (.nx fr' hp') ∧ J whole fr' hp'
  | [], done, fr, hp, e, j => ⟨fr, hp, rfl, by rw [e, List.append_nil]; exact j⟩
  | x :: r, done, fr, hp, e, j => by
    obtain ⟨fr1, fr', hp', e1, e2, j'⟩ := h done x r e fr hp j
    obtain ⟨fr2, hp2, e3, j2⟩ := forS_pre J whole h r (done ++ [x]) fr' hp' (by rw [e, List.append_assoc]; rfl) j'
    refine ⟨fr2, hp2, ?_, j2⟩
    show ((set x fr).bind fun fr1 => (body fr1 hp).bind (loopO (forS set body r))) = _
    rw [T.bindE e1, T.bindE e2]
    exact e3
/-- for, with draws -/
theorem forS_all {set : D → Fr → T Fr} {body : Sm} (J : Fr → Hz → Prop) : ∀ (xs : List D) (fr : Fr) (hp : Hz),
    (∀ x ∈ xs, ∀ fr hp, J fr hp → ∃ fr1, set x fr = .ret fr1 ∧ (body fr1 hp).all fun o => ∃ fr' hp', o = .nx fr' hp' ∧ J fr' hp') → J fr hp → (forS set body xs fr hp).all fun o => ∃ fr' hp', o = .nx fr' hp' ∧ J fr' hp'
  | [], fr, hp, _, j => ⟨fr, hp, rfl, j⟩
  | x :: r, fr, hp, h, j => by
    obtain ⟨fr1, e1, h1⟩ := h x (by simp) fr hp j
    show ((set x fr).bind fun fr1 => (body fr1 hp).bind (loopO (forS set body r))).all _
    rw [T.bindE e1]
    refine T.bind_all (T.all_mono (fun o ho => ?_) h1)
    obtain ⟨fr', hp', rfl, j'⟩ := ho
    exact forS_all J r fr' hp' (fun y hy => h y (List.mem_cons_of_mem _ hy)) j'
theorem zipD_ix : ∀ {xs ys : List D} {i : Nat} {x y : D}, xs[i]? = some x → ys[i]? = some y → (zipD xs ys)[i]? = some (.tup [x, y])
  | [], _, _, _, _, h, _ => by simp at h
  | _ :: _, [], _, _, _, _, h => by simp at h
  | a :: xs, b :: ys, 0, x, y, h1, h2 => by
    have h1 : a = x := by simpa using h1
    have h2 : b = y := by simpa using h2
    subst h1 h2
    rfl
  | a :: xs, b :: ys, i + 1, x, y, h1, h2 => zipD_ix (i := i) (xs := xs) (ys := ys) (by simpa using h1) (by simpa using h2)
theorem zip_range {xs : List D} {g : Nat → Nat} {n : Nat} (v : D → D) (hl : xs.length = n) : zipD xs ((rl g n).map v) = (List.range n).map fun i => D.tup [(gtL xs i).getD .non, v (.int (.ofNat (g i)))] := by
  apply List.ext_getElem?
  intro i
  by_cases hi : i < n
  · obtain ⟨x, ex⟩ := gtL_lt (xs := xs) (i := i) (by omega)
    have e1 : ((rl g n).map v)[i]? = some (v (.int (.ofNat (g i)))) := by
      rw [List.getElem?_map, ← gtL_eq, gtL_rl hi]
      rfl
    have ex' := ex
    rw [gtL_eq] at ex'
    rw [zipD_ix ex' e1, List.getElem?_map, List.getElem?_range hi]
    show _ = some (D.tup [(gtL xs i).getD .non, _])
    rw [ex]
    rfl
  · have e2 : ((List.range n).map fun i => D.tup [(gtL xs i).getD .non, v (.int (.ofNat (g i)))])[i]? = none := List.getElem?_eq_none (by simp; omega)
    rw [e2]
    cases e : (zipD xs ((rl g n).map v))[i]? with
    | none => rfl
    | some d =>
      obtain ⟨x, y, e1, _⟩ := zipD_get _ _ _ _ e
      have := (List.getElem?_eq_some_iff.mp e1).1
      omega
theorem nTaken {fr : Fr} {hp : Hz} {as : Fr → Hz → T (List D)} {i n : Nat} (h1 : as fr hp = .ret [.int (.ofNat n)]) (h2 : isRow fr i = true) (h3 : (decide (1 ≤ (Int.ofNat n)) && decide ((Int.ofNat n) ≤ 1000000)) = true) : eCallR i taken 1 as fr hp = .draw n fun j => .ret (.int (j : Nat)) := by
  unfold eCallR
  rw [h2]
  show ((as fr hp).bind _) = _
  rw [h1]
  show guardT (decide (1 ≤ (Int.ofNat n)) && decide ((Int.ofNat n) ≤ 1000000)) _ = _
  rw [h3]
  rfl
mutual
/-- the same tree, of ints and tuples -/
def eqD : D → D → Bool
  | .int (.ofNat a), .int (.ofNat b) => Nat.beq a b
  | .tup xs, .tup ys => eqDs xs ys
  | _, _ => false
def eqDs : List D → List D → Bool
  | [], [] => true
  | x :: xs, y :: ys => bif eqD x y then eqDs xs ys else false
  | _, _ => false
end
mutual
theorem eqD_eq : ∀ (a b : D), eqD a b = true → a = b
  | .int (.ofNat a), b, h => by
    cases b with
    | int j =>
      cases j with
      | ofNat c =>
        unfold eqD at h
        rw [Nat.eq_of_beq_eq_true h]
      | negSucc c => unfold eqD at h; cases h
    | _ => unfold eqD at h; cases h
  | .tup xs, b, h => by
    cases b with
    | tup ys =>
      unfold eqD at h
      rw [eqDs_eq xs ys h]
    | _ => unfold eqD at h; cases h
  | .int (.negSucc _), _, h => by unfold eqD at h; cases h
  | .non, _, h => by unfold eqD at h; cases h
  | .bl _, _, h => by unfold eqD at h; cases h
  | .str _, _, h => by unfold eqD at h; cases h
  | .ty _, _, h => by unfold eqD at h; cases h
  | .fn _, _, h => by unfold eqD at h; cases h
  | .lst _, _, h => by unfold eqD at h; cases h
  | .dct _ _, _, h => by unfold eqD at h; cases h
theorem eqDs_eq : ∀ (a b : List D), eqDs a b = true → a = b
  | [], [], _ => rfl
  | [], _ :: _, h => by unfold eqDs at h; cases h
  | _ :: _, [], h => by unfold eqDs at h; cases h
  | x :: xs, y :: ys, h => by
    unfold eqDs at h
    cases q : eqD x y with
    | false => rw [q] at h; cases h
    | true =>
      rw [q] at h
      rw [eqD_eq x y q, eqDs_eq xs ys h]
end
def isEq (t : T D) (y : D) : Bool := match t with
  | .ret d => eqD d y
  | _ => false
theorem isEq_eq {t : T D} {y : D} (h : isEq t y = true) : t = .ret y := by
  unfold isEq at h
  split at h
  · rw [eqD_eq _ _ h]
  · cases h
def someN (o : Option Nat) (n : Nat) : Bool := match o with
  | some m => Nat.beq m n
  | none => false
theorem someN_eq {o : Option Nat} {n : Nat} (h : someN o n = true) : o = some n := by
  unfold someN at h
  split at h
  · rw [Nat.eq_of_beq_eq_true h]
  · cases h
/-- xs.index(y), by its parts -/
theorem nIdxL {fr : Fr} {hp : Hz} {f g : Ex} {xs : List D} {y : D} {j : Nat} (h1 : f fr hp = .ret (.lst xs)) (h2 : g fr hp = .ret y) (h3 : (okD 12 (.lst xs) && (allO (okD 12) xs && okD 12 y)) = true) (h4 : fstIx y xs 0 = some j) : eIdxL f g fr hp = .ret (.int (.ofNat j)) := by
  unfold eIdxL
  rw [h1]
  show ((g fr hp).bind _) = _
  rw [h2]
  show guardT _ ((ofO (fstIx y xs 0)).bind _) = _
  rw [h3, h4]
  rfl
theorem sPut_all {i : Nat} {val idx : Ex} {fr : Fr} {g : Nat → Nat} {n c : Nat} (e : gt fr i = some (.r 0)) (hv : val fr [rl g n] = .draw c fun j => .ret (.int (j : Nat))) (hi : idx fr [rl g n] = .draw n fun j => .ret (.int (j : Nat))) (hb : ∀ i, i < n → g i < c) :
    (sPut i idx val fr [rl g n]).all fun o => ∃ g', (∀ i, i < n → g' i < c) ∧ o = .nx fr [rl g' n] := by
  unfold sPut
  rw [e]
  show ((val fr [rl g n]).bind _).all _
  rw [hv]
  intro v hv'
  show ((idx fr [rl g n]).bind _).all _
  rw [hi]
  intro k hk
  show ((ofO (ixN (rl g n).length (k : Int))).bind fun k' => guardT (lstOk (rl g n) && lstOk (setN (rl g n) k' (.int (.ofNat v)))) (T.ret (Out.nx fr (setN [rl g n] 0 (setN (rl g n) k' (.int (.ofNat v))))))).all _
  rw [rl_len, ixN_nat hk]
  show (guardT (lstOk (rl g n) && lstOk (setN (rl g n) k (.int (.ofNat v)))) (T.ret (Out.nx fr (setN [rl g n] 0 (setN (rl g n) k (.int (.ofNat v))))))).all _
  rw [setN_rl, lstOk_rl, lstOk_rl]
  refine ⟨fun i => if i = k then v else g i, fun i hi => ?_, rfl⟩
  show (if i = k then v else g i) < c
  by_cases h : i = k
  · rw [if_pos h]; exact hv'
  · rw [if_neg h]; exact hb i hi
theorem sFor_draw {X : Ex} {set : D → Fr → T Fr} {body : Sm} {fr : Fr} {hp : Hz} {m : Nat} {P : Out → Prop} (hm : m ≤ 1000) (hx : X fr hp = .draw m fun j => .ret (.int (j : Nat))) (h : ∀ n, n < m → (forS set body (upto 0 n) fr hp).all P) : (sFor (lR1 (aC X aN)) set body fr hp).all P := by
  unfold sFor lR1 aC
  rw [hx]
  intro n hn
  have e : rng1 [.int (n : Nat)] = .ret (upto 0 n) := by
    show guardT (smallI (n : Int)) (.ret (upto 0 (n : Int).toNat)) = _
    have : smallI (n : Int) = true := by
      unfold smallI
      rw [decide_eq_true (by omega), decide_eq_true (by omega)]
      rfl
    rw [this, Int.toNat_natCast]
    rfl
  show ((rng1 [.int (n : Nat)]).bind fun ds => forS set body ds fr hp).all P
  rw [e]
  exact h n hn
theorem rl_id_all (n : Nat) (f : D → Bool) : (rl (fun i => i) n).all f = (List.range n).all fun i => f (.int (.ofNat i)) := by
  unfold rl
  rw [List.all_map]
  rfl
theorem all_of_sub {α : Type} {t : T α} {P : α → Prop} {n : Nat} (hn : n ≠ 0) (hw : t.width = n) (h : ∀ i, i < n → (t.sub i).all P) : t.all P := by
  cases t with
  | ret d => exact absurd hw.symm hn
  | fail => exact absurd hw.symm hn
  | draw m k =>
    have hw : m = n := hw
    subst hw
    exact fun i hi => h i hi
/-- every end is True (a structure, so that nobody looks into it) -/
structure RtAll (t : T Out) : Prop where
  out : t.all fun o => o = .rt (.bl true)
theorem RtAll.eq {t t' : T Out} (e : t = t') (h : RtAll t') : RtAll t := by rw [e]; exact h
theorem RtAll.leaf {t : T Out} {g : Sm} {fr : Fr} {hp : Hz} (e : t = .ret (.nx fr hp)) (h : RtAll (g fr hp)) : t.all fun a => (seqO g a).all fun o => o = .rt (.bl true) := by
  rw [e]
  exact h.out
theorem RtAll.law {t : T D} {t' : T Out} (e : t = t'.bind retOf) (h : RtAll t') : t.all fun d => d = .bl true := by
  rw [e]
  exact T.bind_all (T.all_mono (fun o ho => by rw [ho]; rfl) h.out)
theorem nCallV {fr : Fr} {hp : Hz} {as : Fr → Hz → T (List D)} {i k n : Nat} {rs : List (List D → T D)} {r : List D → T D} {o : T D} (e : gt fr i = some (.v (.fn k))) (e2 : gtL rs k = some r) (h : eCall r n as fr hp = o) : eCallV i rs n as fr hp = o := by
  unfold eCallV
  rw [e]
  show ((ofO (gtL rs k)).bind fun r => eCall r n as fr hp) = _
  rw [e2]
  exact h
theorem nPar3N {fr fr' : Fr} {hp hp' : Hz} {i j l : Nat} {f g : Ex} {h : Fr → Hz → T (List D)} {x y : D} {z : List D} (h1 : f fr hp = .ret x) (h2 : g fr hp = .ret y) (h3 : h fr hp = .ret z) (ok : lstOk z = true) (e : setN (setN (setN fr i (some (.v x))) j (some (.v y))) l (some (.r hp.length)) = fr') (e2 : hp ++ [z] = hp') : sPar3N i j l f g h fr hp = .ret (.nx fr' hp') := by
  unfold sPar3N
  rw [h1]
  show ((g fr hp).bind _) = _
  rw [h2]
  show ((h fr hp).bind _) = _
  rw [h3]
  show (if lstOk z then _ else _) = _
  rw [if_pos ok, e, e2]
theorem lcF_ix {set : D → Fr → T Fr} {e : Ex} {fr : Fr} {hp : Hz} (w : Nat → D) : ∀ (ds : List D) (k : Nat), (∀ i x, gtL ds i = some x → ∃ fr1, set x fr = .ret fr1 ∧ e fr1 hp = .ret (w (k + i))) → lcF set bYes e ds fr hp = .ret ((List.range ds.length).map fun i => w (k + i))
  | [], k, _ => rfl
  | d :: ds, k, h => by
    obtain ⟨fr1, e1, e2⟩ := h 0 d rfl
    have ih := lcF_ix w ds (k + 1) fun i x hx => by
      have := h (i + 1) x hx
      rw [show k + (i + 1) = k + 1 + i by omega] at this
      exact this
    show ((set d fr).bind fun fr1 => (bYes fr1 hp).bind fun b => bif b then (e fr1 hp).bind fun y => (lcF set bYes e ds fr hp).bind fun ys => .ret (y :: ys) else lcF set bYes e ds fr hp) = _
    rw [T.bindE e1]
    show ((e fr1 hp).bind fun y => (lcF set bYes e ds fr hp).bind fun ys => .ret (y :: ys)) = _
    rw [T.bindE e2, ih]
    show T.ret (w (k + 0) :: _) = _
    rw [List.length_cons, List.range_succ_eq_map, List.map_cons, List.map_map]
    congr 2
    apply List.map_congr_left
    intro i _
    show w (k + 1 + i) = w (k + (i + 1))
    rw [show k + 1 + i = k + (i + 1) by omega]
theorem dLt_nat (a b : Nat) : dLt (.int (.ofNat a)) (.int (.ofNat b)) = .ret (.bl (Nat.blt a b)) := rfl
end Zl
set_option Elab.async false
set_option linter.all false
set_option maxRecDepth 1000000
set_option maxHeartbeats 4000000
namespace Zl
open PySem L2 PySem.Spec PyProof.Rows
def top (i : Nat) : Stmt := PySem.Challenge.pw_dealclashes_k01_whole_rules.main.body.getD i (.Pass ⟨0, 0, 0, 0⟩)
def tb_CHOICES : List (D × D) := [(.int 4, .int 2), (.int 216, .int 6)]
def tb_TOLD : List (D × D) := [(.str [97, 115, 107, 115], .fn 0), (.str [107, 101, 101, 112], .fn 1), (.str [114, 105, 110, 103, 115], .fn 2), (.str [116, 117, 114, 110, 115], .fn 3)]
def ks_TOLD : List (List Nat) := [[97, 115, 107, 115], [107, 101, 101, 112], [114, 105, 110, 103, 115], [116, 117, 114, 110, 115]]
theorem one0_TOLD : ∀ a ∈ (ks_TOLD.map fun y => (⟨y.toArray⟩ : Str)), ∀ b ∈ (ks_TOLD.map fun y => (⟨y.toArray⟩ : Str)), ∀ c ∈ (ks_TOLD.map fun y => (⟨y.toArray⟩ : Str)), ∀ d ∈ (ks_TOLD.map fun y => (⟨y.toArray⟩ : Str)), (sortedS [a, b, c, d] && [a, b, c, d].isPerm (ks_TOLD.map fun y => (⟨y.toArray⟩ : Str))) = true → [a, b, c, d] = ks_TOLD.map fun y => (⟨y.toArray⟩ : Str) := by decide +kernel
theorem one_TOLD : ∀ ys : List Str, ys.Perm (ks_TOLD.map fun y => (⟨y.toArray⟩ : Str)) → sortedS ys = true → ys = ks_TOLD.map fun y => (⟨y.toArray⟩ : Str) := fun ys hp hs => by
  have hl : ys.length = 4 := hp.length_eq
  match ys, hl, hp, hs with
  | [a, b, c, d], _, hp, hs => exact one0_TOLD a (hp.mem_iff.mp (by simp)) b (hp.mem_iff.mp (by simp)) c (hp.mem_iff.mp (by simp)) d (hp.mem_iff.mp (by simp)) (by rw [hs, List.isPerm_iff.mpr hp]; rfl)
structure Txt (P : Program) (w : World) (K : PySem.W.Frag) (mg : Str → Option Value) (fs : List Addr) (aP : Addr) (ad_CHOICES : Addr) (kv_CHOICES : List (Key × V)) (ad_TOLD : Addr) (kv_TOLD : List (Key × V)) : Prop where
  nb_all : mg "all" = none
  nb_any : mg "any" = none
  nb_bool : mg "bool" = none
  nb_enumerate : mg "enumerate" = none
  nb_int : mg "int" = none
  nb_isinstance : mg "isinstance" = none
  nb_len : mg "len" = none
  nb_list : mg "list" = none
  nb_range : mg "range" = none
  nb_set : mg "set" = none
  nb_sorted : mg "sorted" = none
  nb_str : mg "str" = none
  nb_tuple : mg "tuple" = none
  nb_type : mg "type" = none
  nb_zip : mg "zip" = none
  mg_permutations : mg "permutations" = some (.type "itertools.permutations")
  mg_combinations : mg "combinations" = some (.type "itertools.combinations")
  mg_PEOPLE : mg "PEOPLE" = some (.ref aP)
  pP : StT K aP [V.int 2, V.int 3]
  mg_CHOICES : mg "CHOICES" = some (.ref ad_CHOICES)
  sd_CHOICES : SDk P w K ad_CHOICES kv_CHOICES
  tb_CHOICES : TabR K (F1 w fs) kv_CHOICES tb_CHOICES
  mg_TOLD : mg "TOLD" = some (.ref ad_TOLD)
  sd_TOLD : SDk P w K ad_TOLD kv_TOLD
  tb_TOLD : TabR K (F1 w fs) kv_TOLD tb_TOLD
  hk_TOLD : kv_TOLD.map (·.1) = (ks_TOLD.map fun y => (⟨y.toArray⟩ : Str)).map Sum.inr
theorem Txt.rep_PEOPLE {P : Program} {w : World} {K : PySem.W.Frag} {mg : Str → Option Value} {fs : List Addr} {aP : Addr} {ad_CHOICES : Addr} {kv_CHOICES : List (Key × V)} {ad_TOLD : Addr} {kv_TOLD : List (Key × V)} (T : Txt P w K mg fs aP ad_CHOICES kv_CHOICES ad_TOLD kv_TOLD) (m : List Addr) (H : Hp) : Rep K (F1 w fs) m H (.ref aP) (.tup [.int 2, .int 3]) := rep_ints (ns := [2, 3]) T.pP m H
section
variable {P : Program} {w : World} {K : PySem.W.Frag} {mg : Str → Option Value} {fs : List Addr} {aP : Addr} {ad_CHOICES : Addr} {kv_CHOICES : List (Key × V)} {ad_TOLD : Addr} {kv_TOLD : List (Key × V)} {base : Heap}
/-! _law_orders -/
abbrev s_law_orders : Stmt := top 50
abbrev N_law_orders : List Str := ["many"]
theorem sc_law_orders : FnScope ["many", "found", "turn", "longer", "one", "number"] N_law_orders (defScope s_law_orders) := ⟨rfl, rfl, rfl, by decide +kernel, rfl, by decide +kernel, by decide +kernel⟩
def r_law_orders : List D → T D := runB (
    (sSeq (sSetV 1 (lst (nL (aC (eT aN) aN))))
    (sSeq (sFor (lR1 (aC (eV 0) aN)) (gIF 2)
    (sSeq (sSetV 3 (lst (nL aN)))
    (sSeq (sFor (lSeq (eV 1)) (gIX 4)
    (sSetV 3 (e2 dPlus (eV 3) (lst (nLc (lR1 (aC (eV 0) aN)) (gIF 5) (b1 (eInF true (eV 5) (lSeq (eV 4)))) (e2 dPlus (eV 4) (eT (aC (eV 5) aN))) [5])))))
    (sSet 1 (eV 3)))))
    (sRet (eV 1))))) 6
def c_law_orders_0 : D := .lst [.tup [i0, i1], .tup [i1, i0]]
theorem e_law_orders_0 : r_law_orders [.int (.ofNat 2)] = .ret c_law_orders_0 := by kernel_rfl
def c_law_orders_1 : D := .lst [.tup [i0, i1, i2], .tup [i0, i2, i1], .tup [i1, i0, i2], .tup [i1, i2, i0], .tup [i2, i0, i1], .tup [i2, i1, i0]]
theorem e_law_orders_1 : r_law_orders [.int (.ofNat 3)] = .ret c_law_orders_1 := by kernel_rfl
def m_law_orders : List D → T D
  | [.int (.ofNat 2)] => .ret c_law_orders_0
  | [.int (.ofNat 3)] => .ret c_law_orders_1
  | x => r_law_orders x
theorem m_law_orders_eq : m_law_orders = r_law_orders := by
  funext x
  unfold m_law_orders
  split
  · exact (e_law_orders_0).symm
  · exact (e_law_orders_1).symm
  · rfl
theorem ok_law_orders {a_law_orders : Addr} {d_law_orders : FuncData} (G_law_orders : Gd K mg "_law_orders" s_law_orders N_law_orders a_law_orders d_law_orders) (Tx : Txt P w K mg fs aP ad_CHOICES kv_CHOICES ad_TOLD kv_TOLD) : FnOk P w K mg base CX0 1 a_law_orders d_law_orders N_law_orders (spP K (F1 w fs) m_law_orders 1) := by
  have sc := sc_law_orders
  rw [m_law_orders_eq]
  refine zdef (F := F1 w fs) (N := ["many", "found", "turn", "longer", "one", "number"]) G_law_orders.fn sc fun cdv A outer s H E hr => ?_
  have hu := hr.units
  have hu2 := units80 hr
  let N : List Str := ["many", "found", "turn", "longer", "one", "number"]
  exact (zcons (PSf (sSetV_eq _ _) (zset (i := 1) sc.nd rfl (by first | exact Or.inl rfl | exact Or.inr rfl) (PEnl (zl (zac (zt zan) zan)))))
    (zcons (zfor PassesOwn.never rfl (zir1 (by rfl) Tx.nb_range (zac (zv 0) zan)) (pg_name (i := 2) sc.nd rfl (by first | exact Or.inl rfl | exact Or.inr rfl)) (TgRf (gIF_eq _) (zg_name 2))
    (zcons (PSf (sSetV_eq _ _) (zset (i := 3) sc.nd rfl (by first | exact Or.inl rfl | exact Or.inr rfl) (PEnl (zl zan))))
    (zcons (zfor PassesOwn.never rfl (zis (zv 1)) (pg_name (i := 4) sc.nd rfl (by first | exact Or.inl rfl | exact Or.inr rfl)) (TgRf (gIX_eq _) (zg_name 4))
    (zlast (PSf (sSetV_eq _ _) (zset (i := 3) sc.nd rfl (by first | exact Or.inl rfl | exact Or.inr rfl) (zop oplus (zv 3) (PEnl (zlc rfl sc.nd (zir1 (by rfl) Tx.nb_range (zac (zv 0) zan)) (blkOk_by (own := [("number", 5)]) (N := N) (sc := (defScope s_law_orders)) (by first | decide +kernel | rfl | with_unfolding_all rfl)) (TgCf (gIF_eq _) (zgc_name (by decide))) (fun _ _ _ _ _ => (pg_name (i := 5) sc.nd rfl (by first | exact Or.inl rfl | exact Or.inr rfl))) (fun _ _ _ _ _ => (ztone (PTf (eInF_eq _ _ _) (ztni (zv 5) (PEseq (zv 4)))))) (fun _ _ _ _ _ => (zop oplus (zv 4) (zt (zac (zv 5) zan)))))))))))
    (zlast (zset (i := 1) sc.nd rfl (by first | exact Or.inl rfl | exact Or.inr rfl) (zv 3))))))
    (zlast (zret (zv 1)))))
/-! _law_before -/
abbrev s_law_before : Stmt := top 52
abbrev N_law_before : List Str := ["ranking", "one", "other"]
theorem sc_law_before : FnScope ["ranking", "one", "other"] N_law_before (defScope s_law_before) := ⟨rfl, rfl, rfl, by decide +kernel, rfl, by decide +kernel, by decide +kernel⟩
def r_law_before : List D → T D := runB (
    (sRetF (e2 dLt (eIdxF (eV 0) (eV 1)) (eIdxF (eV 0) (eV 2))))) 3
theorem ok_law_before {a_law_before : Addr} {d_law_before : FuncData} (G_law_before : Gd K mg "_law_before" s_law_before N_law_before a_law_before d_law_before) (Tx : Txt P w K mg fs aP ad_CHOICES kv_CHOICES ad_TOLD kv_TOLD) : FnOk P w K mg base CX0 1 a_law_before d_law_before N_law_before (spP K (F1 w fs) r_law_before 3) := by
  have sc := sc_law_before
  refine zdef (F := F1 w fs) (N := ["ranking", "one", "other"]) G_law_before.fn sc fun cdv A outer s H E hr => ?_
  have hu := hr.units
  have hu2 := units80 hr
  let N : List Str := ["ranking", "one", "other"]
  exact (zlast (PSf (sRetF_eq _) (zret (zcmp oltF (PEf (eIdxF_eq _ _) (zidx (zv 0) (zv 1))) (PEf (eIdxF_eq _ _) (zidx (zv 0) (zv 2)))))))
/-! _law_gains -/
abbrev s_law_gains : Stmt := top 53
abbrev N_law_gains : List Str := ["row", "dealing", "other", "group"]
theorem sc_law_gains : FnScope ["row", "dealing", "other", "group", "worse", "who"] N_law_gains (defScope s_law_gains) := ⟨rfl, rfl, rfl, by decide +kernel, rfl, by decide +kernel, by decide +kernel⟩
def r_law_gains : List D → T D := runB (
    (sSeq (sSetV 4 (lst (nLc (lSeq (eV 3)) (gIX 5) (b1 (eCall r_law_before 3 (aC (eIx (lSeq (eV 0)) (eV 5)) (aC (eIx (lSeq (eV 2)) (eV 5)) (aC (eIx (lSeq (eV 1)) (eV 5)) aN))))) (eV 5) [5])))
    (sRetF (eAnd (e2 dEqF (eV 4) (lst (nL aN))) (e2 dNeF (lst (nLc (lSeq (eV 3)) (gIX 5) (b1 (e2 dNeF (eIx (lSeq (eV 1)) (eV 5)) (eIx (lSeq (eV 2)) (eV 5)))) (eV 5) [5])) (lst (nL aN))))))) 6
theorem ok_law_gains {a_law_gains : Addr} {d_law_gains : FuncData} (G_law_gains : Gd K mg "_law_gains" s_law_gains N_law_gains a_law_gains d_law_gains) (Tx : Txt P w K mg fs aP ad_CHOICES kv_CHOICES ad_TOLD kv_TOLD) {a_law_before : Addr} {d_law_before : FuncData} (G_law_before : Gd K mg "_law_before" s_law_before N_law_before a_law_before d_law_before) (O_law_before : FnOk P w K mg base CX0 1 a_law_before d_law_before N_law_before (spP K (F1 w fs) r_law_before 3)) : FnOk P w K mg base CX0 2 a_law_gains d_law_gains N_law_gains (spP K (F1 w fs) r_law_gains 4) := by
  have sc := sc_law_gains
  refine zdef (F := F1 w fs) (N := ["row", "dealing", "other", "group", "worse", "who"]) G_law_gains.fn sc fun cdv A outer s H E hr => ?_
  have hu := hr.units
  have hu2 := units80 hr
  let N : List Str := ["row", "dealing", "other", "group", "worse", "who"]
  exact (zcons (PSf (sSetV_eq _ _) (zsetLc (i := 4) rfl sc.nd rfl rfl (zis (zv 3)) (blkOk_by (own := [("who", 5)]) (N := N) (sc := (defScope s_law_gains)) (by first | decide +kernel | rfl | with_unfolding_all rfl)) (TgCf (gIX_eq _) (zgc_name (by decide))) (fun _ _ _ _ _ => (pg_name (i := 5) sc.nd rfl (by first | exact Or.inl rfl | exact Or.inr rfl))) (fun _ _ _ _ _ => (ztone (ztv ((zcall O_law_before (hr.mono (by omega)) (by rfl) G_law_before.mg G_law_before.kp G_law_before.b (zac (zix (PEseq (zv 0)) (zv 5)) (zac (zix (PEseq (zv 2)) (zv 5)) (zac (zix (PEseq (zv 1)) (zv 5)) zan)))))))) (fun _ _ _ _ _ => (zv 5)) (sw_true rfl rfl rfl (by decide +kernel))))
    (zlast (PSf (sRetF_eq _) (zret (zand (zcmp (oeqF hu) (zv 4) (PEnl (zl zan))) (zone (zcmp (oneF hu) (PEnl (zlc rfl sc.nd (zis (zv 3)) (blkOk_by (own := [("who", 5)]) (N := N) (sc := (defScope s_law_gains)) (by first | decide +kernel | rfl | with_unfolding_all rfl)) (TgCf (gIX_eq _) (zgc_name (by decide))) (fun _ _ _ _ _ => (pg_name (i := 5) sc.nd rfl (by first | exact Or.inl rfl | exact Or.inr rfl))) (fun _ _ _ _ _ => (ztone (ztc (oneF hu) (zix (PEseq (zv 1)) (zv 5)) (zix (PEseq (zv 2)) (zv 5))))) (fun _ _ _ _ _ => (zv 5)))) (PEnl (zl zan)))))))))
/-! _law_blocker -/
abbrev s_law_blocker : Stmt := top 54
abbrev N_law_blocker : List Str := ["row", "dealing"]
theorem sc_law_blocker : FnScope ["row", "dealing", "people", "groups_v", "some", "one", "group", "who"] N_law_blocker (defScope s_law_blocker) := ⟨rfl, rfl, rfl, by decide +kernel, rfl, by decide +kernel, by decide +kernel⟩
def r_law_blocker : List D → T D := runB (
    (sSeq (sParF 2 3 (lst (rg1 (eLen (lSeq (eV 0))))) (lst (nL (aC (eT (aC (eC (.int 0)) aN)) (aC (eT (aC (eC (.int 1)) aN)) (aC (eT (aC (eC (.int 0)) (aC (eC (.int 1)) aN))) aN))))))
    (sSeq (sIf (b1 (e2 dEqF (eLen (lSeq (eV 0))) (eC (.int 3))))
    (sSetV 3 (lst (nL (aC (eT (aC (eC (.int 0)) aN)) (aC (eT (aC (eC (.int 1)) aN)) (aC (eT (aC (eC (.int 2)) aN)) (aC (eT (aC (eC (.int 0)) (aC (eC (.int 1)) aN))) (aC (eT (aC (eC (.int 0)) (aC (eC (.int 2)) aN))) (aC (eT (aC (eC (.int 1)) (aC (eC (.int 2)) aN))) (aC (eT (aC (eC (.int 0)) (aC (eC (.int 1)) (aC (eC (.int 2)) aN)))) aN)))))))))) sNil)
    (sSeq (sSetV 4 (lst (nLc (lSeq (eCall m_law_orders 1 (aCF (eLen (lSeq (eV 0))) aN))) (gIX 5) (b1 (e2 dNeF (eV 5) (eV 1))) (eV 5) [5])))
    (sSeq (sFor (lSeq (eV 3)) (gIX 6)
    (sFor (lSeq (eV 4)) (gIX 5)
    (sIf (bAnd (b1 (eCall r_law_gains 4 (aC (eV 0) (aC (eV 5) (aC (eV 1) (aC (eV 6) aN)))))) (b1 (e2 dEqF (lst (nSort (nLc (lSeq (eV 6)) (gIX 7) bYes (eIx (lSeq (eV 5)) (eV 7)) [7]))) (lst (lSeq (eV 6))))))
    (sIf (b1 (e2 dEqF (lst (nLc (lSeq (eV 2)) (gIX 7) (bAnd (b1 (eInF true (eV 7) (lSeq (eV 6)))) (b1 (e2 dNeF (eIx (lSeq (eV 5)) (eV 7)) (eV 7)))) (eV 7) [7])) (lst (nL aN))))
    (sRet (eV 6)) sNil) sNil)))
    (sRet (eC .non))))))) 8
theorem ok_law_blocker {a_law_blocker : Addr} {d_law_blocker : FuncData} (G_law_blocker : Gd K mg "_law_blocker" s_law_blocker N_law_blocker a_law_blocker d_law_blocker) (Tx : Txt P w K mg fs aP ad_CHOICES kv_CHOICES ad_TOLD kv_TOLD) {a_law_orders : Addr} {d_law_orders : FuncData} (G_law_orders : Gd K mg "_law_orders" s_law_orders N_law_orders a_law_orders d_law_orders) (O_law_orders : FnOk P w K mg base CX0 1 a_law_orders d_law_orders N_law_orders (spP K (F1 w fs) m_law_orders 1)) {a_law_gains : Addr} {d_law_gains : FuncData} (G_law_gains : Gd K mg "_law_gains" s_law_gains N_law_gains a_law_gains d_law_gains) (O_law_gains : FnOk P w K mg base CX0 2 a_law_gains d_law_gains N_law_gains (spP K (F1 w fs) r_law_gains 4)) : FnOk P w K mg base CX0 3 a_law_blocker d_law_blocker N_law_blocker (spP K (F1 w fs) r_law_blocker 2) := by
  have sc := sc_law_blocker
  refine zdef (F := F1 w fs) (N := ["row", "dealing", "people", "groups_v", "some", "one", "group", "who"]) G_law_blocker.fn sc fun cdv A outer s H E hr => ?_
  have hu := hr.units
  have hu2 := units80 hr
  let N : List Str := ["row", "dealing", "people", "groups_v", "some", "one", "group", "who"]
  exact (zcons (PSf (sParF_eq _ _ _ _) (zpar (i := 2) (j := 3) rfl sc.nd rfl rfl (by decide) rfl rfl (PEnl (zlistRg rfl (by rfl) Tx.nb_list (by rfl) Tx.nb_range (zlen (by rfl) Tx.nb_len (PEseq (zv 0))))) (PEnl (zl (zac (zt (zac zint zan)) (zac (zt (zac zint zan)) (zac (zt (zac zint (zac zint zan))) zan))))) (by with_unfolding_all rfl)))
    (zcons (zifs (ztc (oeqF hu) (zlen (by rfl) Tx.nb_len (PEseq (zv 0))) zint)
    (zlast (PSf (sSetV_eq _ _) (zset (i := 3) sc.nd rfl (by first | exact Or.inl rfl | exact Or.inr rfl) (PEnl (zl (zac (zt (zac zint zan)) (zac (zt (zac zint zan)) (zac (zt (zac zint zan)) (zac (zt (zac zint (zac zint zan))) (zac (zt (zac zint (zac zint zan))) (zac (zt (zac zint (zac zint zan))) (zac (zt (zac zint (zac zint (zac zint zan)))) zan)))))))))))) znil)
    (zcons (PSf (sSetV_eq _ _) (zsetLc (i := 4) rfl sc.nd rfl rfl (zis ((zcall O_law_orders (hr.mono (by omega)) (by rfl) G_law_orders.mg G_law_orders.kp G_law_orders.b (PAf (aCF_eq _ _) (zac (zlen (by rfl) Tx.nb_len (PEseq (zv 0))) zan))))) (blkOk_by (own := [("one", 5)]) (N := N) (sc := (defScope s_law_blocker)) (by first | decide +kernel | rfl | with_unfolding_all rfl)) (TgCf (gIX_eq _) (zgc_name (by decide))) (fun _ _ _ _ _ => (pg_name (i := 5) sc.nd rfl (by first | exact Or.inl rfl | exact Or.inr rfl))) (fun _ _ _ _ _ => (ztone (ztc (oneF hu) (zv 5) (zv 1)))) (fun _ _ _ _ _ => (zv 5)) (sw_true rfl rfl rfl (by decide +kernel))))
    (zcons (zfor PassesOwn.never rfl (zis (zv 3)) (pg_name (i := 6) sc.nd rfl (by first | exact Or.inl rfl | exact Or.inr rfl)) (TgRf (gIX_eq _) (zg_name 6))
    (zlast (zfor PassesOwn.never rfl (zis (zv 4)) (pg_name (i := 5) sc.nd rfl (by first | exact Or.inl rfl | exact Or.inr rfl)) (TgRf (gIX_eq _) (zg_name 5))
    (zlast (zifs (PW.pt (ztand (ztv ((zcall O_law_gains (hr.mono (by omega)) (by rfl) G_law_gains.mg G_law_gains.kp G_law_gains.b (zac (zv 0) (zac (zv 5) (zac (zv 1) (zac (zv 6) zan))))))) (ztand1 (ztc (oeqF hu) (PEnl (zsortI (by rfl) Tx.nb_sorted (zlc rfl sc.nd (zis (zv 6)) (blkOk_by (own := [("who", 7)]) (N := N) (sc := (defScope s_law_blocker)) (by first | decide +kernel | rfl | with_unfolding_all rfl)) (TgCf (gIX_eq _) (zgc_name (by decide))) (fun _ _ _ _ _ => (pg_name (i := 7) sc.nd rfl (by first | exact Or.inl rfl | exact Or.inr rfl))) (fun _ _ _ _ _ => ztyes) (fun _ _ _ _ _ => (zix (PEseq (zv 5)) (zv 7)))))) (PEnl (zlistOf (by rfl) Tx.nb_list (PEseq (zv 6))))))))
    (zlast (zifs (ztc (oeqF hu) (PEnl (zlc rfl sc.nd (zis (zv 2)) (blkOk_by (own := [("who", 7)]) (N := N) (sc := (defScope s_law_blocker)) (by first | decide +kernel | rfl | with_unfolding_all rfl)) (TgCf (gIX_eq _) (zgc_name (by decide))) (fun _ _ _ _ _ => (pg_name (i := 7) sc.nd rfl (by first | exact Or.inl rfl | exact Or.inr rfl))) (fun _ _ _ _ _ => (ztone (PW.pt (ztand (PTf (eInF_eq _ _ _) (ztni (zv 7) (PEseq (zv 6)))) (ztand1 (ztc (oneF hu) (zix (PEseq (zv 5)) (zv 7)) (zv 7))))))) (fun _ _ _ _ _ => (zv 7)))) (PEnl (zl zan)))
    (zlast (zret (zv 6))) znil)) znil)))))
    (zlast (zret znon))))))
/-! _law_dealt -/
abbrev s_law_dealt : Stmt := top 56
abbrev N_law_dealt : List Str := ["name", "row"]
theorem sc_law_dealt : FnScope ["name", "row", "people", "found", "who", "thing", "place", "one"] N_law_dealt (defScope s_law_dealt) := ⟨rfl, rfl, rfl, by decide +kernel, rfl, by decide +kernel, by decide +kernel⟩
def r_law_dealt : List D → T D := runB (
    (sSeq (sParD 2 3 (lst (rg1 (eLen (lSeq (eV 1))))))
    (sSeq (sIf (b1 (e2 dEqF (eV 0) (eC (.str [107, 101, 101, 112]))))
    (sRetF (eTupOf (lSeq (eV 2)))) sNil)
    (sSeq (sIf (b1 (e2 dEqF (eV 0) (eC (.str [116, 117, 114, 110, 115]))))
    (sFor (lSeq (eV 2)) (gIX 4)
    (sPutD 3 (eV 4) (eIx (lSeq (lst (nLc (lSeq (eIx (lSeq (eV 1)) (eV 4))) (gIX 5) (b1 (eInF true (eV 5) (lSeq (lst (nVals 3))))) (eV 5) [5]))) (eC (.int 0))))) sNil)
    (sSeq (sIf (b1 (e2 dEqF (eV 0) (eC (.str [97, 115, 107, 115]))))
    (sFor (lSeq (eV 2)) (gIX 6)
    (sFor (lSeq (eV 2)) (gIX 4)
    (sIf (bAnd (b1 (eInD true 3 (eV 4))) (b1 (eInF true (eIx (lSeq (eIx (lSeq (eV 1)) (eV 4))) (eV 6)) (lSeq (lst (nVals 3))))))
    (sPutD 3 (eV 4) (eIx (lSeq (eIx (lSeq (eV 1)) (eV 4))) (eV 6))) sNil))) sNil)
    (sSeq (sIf (b1 (e2 dEqF (eV 0) (eC (.str [114, 105, 110, 103, 115]))))
    (sRetF (eIx (lSeq (lst (nLc (lSeq (eCall m_law_orders 1 (aCF (eLen (lSeq (eV 1))) aN))) (gIX 7) (b1 (isN (eCall r_law_blocker 2 (aC (eV 1) (aC (eV 7) aN))))) (eV 7) [7]))) (eC (.int 0)))) sNil)
    (sRetF (eTupOf (nLc (lSeq (eV 2)) (gIX 4) bYes (eGetD 3 (eV 4)) [4]))))))))) 8
theorem ok_law_dealt {a_law_dealt : Addr} {d_law_dealt : FuncData} (G_law_dealt : Gd K mg "_law_dealt" s_law_dealt N_law_dealt a_law_dealt d_law_dealt) (Tx : Txt P w K mg fs aP ad_CHOICES kv_CHOICES ad_TOLD kv_TOLD) {a_law_orders : Addr} {d_law_orders : FuncData} (G_law_orders : Gd K mg "_law_orders" s_law_orders N_law_orders a_law_orders d_law_orders) (O_law_orders : FnOk P w K mg base CX0 1 a_law_orders d_law_orders N_law_orders (spP K (F1 w fs) m_law_orders 1)) {a_law_blocker : Addr} {d_law_blocker : FuncData} (G_law_blocker : Gd K mg "_law_blocker" s_law_blocker N_law_blocker a_law_blocker d_law_blocker) (O_law_blocker : FnOk P w K mg base CX0 3 a_law_blocker d_law_blocker N_law_blocker (spP K (F1 w fs) r_law_blocker 2)) : FnOk P w K mg base CX0 4 a_law_dealt d_law_dealt N_law_dealt (spP K (F1 w fs) r_law_dealt 2) := by
  have sc := sc_law_dealt
  refine zdef (F := F1 w fs) (N := ["name", "row", "people", "found", "who", "thing", "place", "one"]) G_law_dealt.fn sc fun cdv A outer s H E hr => ?_
  have hu := hr.units
  have hu2 := units80 hr
  let N : List Str := ["name", "row", "people", "found", "who", "thing", "place", "one"]
  exact (zcons (zparDc (i := 2) (j := 3) rfl (pg_name (i := 2) sc.nd rfl (by first | exact Or.inl rfl | exact Or.inr rfl)) (pg_name (i := 3) sc.nd rfl (by first | exact Or.inl rfl | exact Or.inr rfl)) (PEnl (zlistRg rfl (by rfl) Tx.nb_list (by rfl) Tx.nb_range (zlen (by rfl) Tx.nb_len (PEseq (zv 1))))))
    (zcons (zifs (ztc (oeqF hu) (zv 0) (zstr (s := [107, 101, 101, 112]) (by rfl)))
    (zlast (PSf (sRetF_eq _) (zret (ztupOf (by rfl) Tx.nb_tuple (PEseq (zv 2)))))) znil)
    (zcons (zifs (ztc (oeqF hu) (zv 0) (zstr (s := [116, 117, 114, 110, 115]) (by rfl)))
    (zlast (zfor PassesOwn.never rfl (zis (zv 2)) (pg_name (i := 4) sc.nd rfl (by first | exact Or.inl rfl | exact Or.inr rfl)) (TgRf (gIX_eq _) (zg_name 4))
    (zlast (zputD (i := 3) hu rfl (by first | exact Or.inl rfl | exact Or.inr (Or.inl rfl) | exact Or.inr (Or.inr rfl)) (zix (PEseq (PEnl (zlc rfl sc.nd (zis (zix (PEseq (zv 1)) (zv 4))) (blkOk_by (own := [("thing", 5)]) (N := N) (sc := (defScope s_law_dealt)) (by first | decide +kernel | rfl | with_unfolding_all rfl)) (TgCf (gIX_eq _) (zgc_name (by decide))) (fun _ _ _ _ _ => (pg_name (i := 5) sc.nd rfl (by first | exact Or.inl rfl | exact Or.inr rfl))) (fun _ _ _ _ _ => (ztone (PTf (eInF_eq _ _ _) (ztni (zv 5) (PEseq (PEnl (zlistVals (i := 3) rfl rfl (by first | exact Or.inl rfl | exact Or.inr (Or.inl rfl) | exact Or.inr (Or.inr rfl)) (by rfl) Tx.nb_list))))))) (fun _ _ _ _ _ => (zv 5))))) zint) (zv 4))))) znil)
    (zcons (zifs (ztc (oeqF hu) (zv 0) (zstr (s := [97, 115, 107, 115]) (by rfl)))
    (zlast (zfor PassesOwn.never rfl (zis (zv 2)) (pg_name (i := 6) sc.nd rfl (by first | exact Or.inl rfl | exact Or.inr rfl)) (TgRf (gIX_eq _) (zg_name 6))
    (zlast (zfor PassesOwn.never rfl (zis (zv 2)) (pg_name (i := 4) sc.nd rfl (by first | exact Or.inl rfl | exact Or.inr rfl)) (TgRf (gIX_eq _) (zg_name 4))
    (zlast (zifs (PW.pt (ztand (ztniD (i := 3) hu rfl (by first | exact Or.inl rfl | exact Or.inr (Or.inl rfl) | exact Or.inr (Or.inr rfl)) (zv 4)) (ztand1 (PTf (eInF_eq _ _ _) (ztni (zix (PEseq (zix (PEseq (zv 1)) (zv 4))) (zv 6)) (PEseq (PEnl (zlistVals (i := 3) rfl rfl (by first | exact Or.inl rfl | exact Or.inr (Or.inl rfl) | exact Or.inr (Or.inr rfl)) (by rfl) Tx.nb_list))))))))
    (zlast (zputD (i := 3) hu rfl (by first | exact Or.inl rfl | exact Or.inr (Or.inl rfl) | exact Or.inr (Or.inr rfl)) (zix (PEseq (zix (PEseq (zv 1)) (zv 4))) (zv 6)) (zv 4))) znil)))))) znil)
    (zcons (zifs (ztc (oeqF hu) (zv 0) (zstr (s := [114, 105, 110, 103, 115]) (by rfl)))
    (zlast (PSf (sRetF_eq _) (zret (zix (PEseq (PEnl (zlc rfl sc.nd (zis ((zcall O_law_orders (hr.mono (by omega)) (by rfl) G_law_orders.mg G_law_orders.kp G_law_orders.b (PAf (aCF_eq _ _) (zac (zlen (by rfl) Tx.nb_len (PEseq (zv 1))) zan))))) (blkOk_by (own := [("one", 7)]) (N := N) (sc := (defScope s_law_dealt)) (by first | decide +kernel | rfl | with_unfolding_all rfl)) (TgCf (gIX_eq _) (zgc_name (by decide))) (fun _ _ _ _ _ => (pg_name (i := 7) sc.nd rfl (by first | exact Or.inl rfl | exact Or.inr rfl))) (fun _ _ _ _ _ => (ztone (ztisN ((zcall O_law_blocker (hr.mono (by omega)) (by rfl) G_law_blocker.mg G_law_blocker.kp G_law_blocker.b (zac (zv 1) (zac (zv 7) zan))))))) (fun _ _ _ _ _ => (zv 7))))) zint)))) znil)
    (zlast (PSf (sRetF_eq _) (zret (ztupOf (by rfl) Tx.nb_tuple (PEns (zlc rfl sc.nd (zis (zv 2)) (blkOk_by (own := [("who", 4)]) (N := N) (sc := (defScope s_law_dealt)) (by first | decide +kernel | rfl | with_unfolding_all rfl)) (TgCf (gIX_eq _) (zgc_name (by decide))) (fun _ _ _ _ _ => (pg_name (i := 4) sc.nd rfl (by first | exact Or.inl rfl | exact Or.inr rfl))) (fun _ _ _ _ _ => ztyes) (fun _ _ _ _ _ => (zgetD (i := 3) hu rfl (by first | exact Or.inl rfl | exact Or.inr (Or.inl rfl) | exact Or.inr (Or.inr rfl)) (zv 4))))))))))))))
/-! _law_rows -/
abbrev s_law_rows : Stmt := top 51
abbrev N_law_rows : List Str := ["people"]
theorem sc_law_rows : FnScope ["people", "found", "turn", "longer", "one", "ranking"] N_law_rows (defScope s_law_rows) := ⟨rfl, rfl, rfl, by decide +kernel, rfl, by decide +kernel, by decide +kernel⟩
def r_law_rows : List D → T D := runB (
    (sSeq (sSetV 1 (lst (nL (aC (eT aN) aN))))
    (sSeq (sFor (lR1 (aC (eV 0) aN)) (gIF 2)
    (sSeq (sSetV 3 (lst (nL aN)))
    (sSeq (sFor (lSeq (eV 1)) (gIX 4)
    (sSetV 3 (e2 dPlus (eV 3) (lst (nLc (lSeq (eCall m_law_orders 1 (aC (eV 0) aN))) (gIX 5) bYes (e2 dPlus (eV 4) (eT (aC (eV 5) aN))) [5])))))
    (sSet 1 (eV 3)))))
    (sRet (eV 1))))) 6
def c_law_rows_0 : D := .lst [.tup [.tup [i0, i1], .tup [i0, i1]], .tup [.tup [i0, i1], .tup [i1, i0]], .tup [.tup [i1, i0], .tup [i0, i1]], .tup [.tup [i1, i0], .tup [i1, i0]]]
theorem e_law_rows_0 : r_law_rows [.int (.ofNat 2)] = .ret c_law_rows_0 := by kernel_rfl
def c_law_rows_1 : D := .lst [.tup [.tup [i0, i1, i2], .tup [i0, i1, i2], .tup [i0, i1, i2]], .tup [.tup [i0, i1, i2], .tup [i0, i1, i2], .tup [i0, i2, i1]], .tup [.tup [i0, i1, i2], .tup [i0, i1, i2], .tup [i1, i0, i2]], .tup [.tup [i0, i1, i2], .tup [i0, i1, i2], .tup [i1, i2, i0]], .tup [.tup [i0, i1, i2], .tup [i0, i1, i2], .tup [i2, i0, i1]], .tup [.tup [i0, i1, i2], .tup [i0, i1, i2], .tup [i2, i1, i0]], .tup [.tup [i0, i1, i2], .tup [i0, i2, i1], .tup [i0, i1, i2]], .tup [.tup [i0, i1, i2], .tup [i0, i2, i1], .tup [i0, i2, i1]], .tup [.tup [i0, i1, i2], .tup [i0, i2, i1], .tup [i1, i0, i2]], .tup [.tup [i0, i1, i2], .tup [i0, i2, i1], .tup [i1, i2, i0]], .tup [.tup [i0, i1, i2], .tup [i0, i2, i1], .tup [i2, i0, i1]], .tup [.tup [i0, i1, i2], .tup [i0, i2, i1], .tup [i2, i1, i0]], .tup [.tup [i0, i1, i2], .tup [i1, i0, i2], .tup [i0, i1, i2]], .tup [.tup [i0, i1, i2], .tup [i1, i0, i2], .tup [i0, i2, i1]], .tup [.tup [i0, i1, i2], .tup [i1, i0, i2], .tup [i1, i0, i2]], .tup [.tup [i0, i1, i2], .tup [i1, i0, i2], .tup [i1, i2, i0]], .tup [.tup [i0, i1, i2], .tup [i1, i0, i2], .tup [i2, i0, i1]], .tup [.tup [i0, i1, i2], .tup [i1, i0, i2], .tup [i2, i1, i0]], .tup [.tup [i0, i1, i2], .tup [i1, i2, i0], .tup [i0, i1, i2]], .tup [.tup [i0, i1, i2], .tup [i1, i2, i0], .tup [i0, i2, i1]], .tup [.tup [i0, i1, i2], .tup [i1, i2, i0], .tup [i1, i0, i2]], .tup [.tup [i0, i1, i2], .tup [i1, i2, i0], .tup [i1, i2, i0]], .tup [.tup [i0, i1, i2], .tup [i1, i2, i0], .tup [i2, i0, i1]], .tup [.tup [i0, i1, i2], .tup [i1, i2, i0], .tup [i2, i1, i0]], .tup [.tup [i0, i1, i2], .tup [i2, i0, i1], .tup [i0, i1, i2]], .tup [.tup [i0, i1, i2], .tup [i2, i0, i1], .tup [i0, i2, i1]], .tup [.tup [i0, i1, i2], .tup [i2, i0, i1], .tup [i1, i0, i2]], .tup [.tup [i0, i1, i2], .tup [i2, i0, i1], .tup [i1, i2, i0]], .tup [.tup [i0, i1, i2], .tup [i2, i0, i1], .tup [i2, i0, i1]], .tup [.tup [i0, i1, i2], .tup [i2, i0, i1], .tup [i2, i1, i0]], .tup [.tup [i0, i1, i2], .tup [i2, i1, i0], .tup [i0, i1, i2]], .tup [.tup [i0, i1, i2], .tup [i2, i1, i0], .tup [i0, i2, i1]], .tup [.tup [i0, i1, i2], .tup [i2, i1, i0], .tup [i1, i0, i2]], .tup [.tup [i0, i1, i2], .tup [i2, i1, i0], .tup [i1, i2, i0]], .tup [.tup [i0, i1, i2], .tup [i2, i1, i0], .tup [i2, i0, i1]], .tup [.tup [i0, i1, i2], .tup [i2, i1, i0], .tup [i2, i1, i0]], .tup [.tup [i0, i2, i1], .tup [i0, i1, i2], .tup [i0, i1, i2]], .tup [.tup [i0, i2, i1], .tup [i0, i1, i2], .tup [i0, i2, i1]], .tup [.tup [i0, i2, i1], .tup [i0, i1, i2], .tup [i1, i0, i2]], .tup [.tup [i0, i2, i1], .tup [i0, i1, i2], .tup [i1, i2, i0]], .tup [.tup [i0, i2, i1], .tup [i0, i1, i2], .tup [i2, i0, i1]], .tup [.tup [i0, i2, i1], .tup [i0, i1, i2], .tup [i2, i1, i0]], .tup [.tup [i0, i2, i1], .tup [i0, i2, i1], .tup [i0, i1, i2]], .tup [.tup [i0, i2, i1], .tup [i0, i2, i1], .tup [i0, i2, i1]], .tup [.tup [i0, i2, i1], .tup [i0, i2, i1], .tup [i1, i0, i2]], .tup [.tup [i0, i2, i1], .tup [i0, i2, i1], .tup [i1, i2, i0]], .tup [.tup [i0, i2, i1], .tup [i0, i2, i1], .tup [i2, i0, i1]], .tup [.tup [i0, i2, i1], .tup [i0, i2, i1], .tup [i2, i1, i0]], .tup [.tup [i0, i2, i1], .tup [i1, i0, i2], .tup [i0, i1, i2]], .tup [.tup [i0, i2, i1], .tup [i1, i0, i2], .tup [i0, i2, i1]], .tup [.tup [i0, i2, i1], .tup [i1, i0, i2], .tup [i1, i0, i2]], .tup [.tup [i0, i2, i1], .tup [i1, i0, i2], .tup [i1, i2, i0]], .tup [.tup [i0, i2, i1], .tup [i1, i0, i2], .tup [i2, i0, i1]], .tup [.tup [i0, i2, i1], .tup [i1, i0, i2], .tup [i2, i1, i0]], .tup [.tup [i0, i2, i1], .tup [i1, i2, i0], .tup [i0, i1, i2]], .tup [.tup [i0, i2, i1], .tup [i1, i2, i0], .tup [i0, i2, i1]], .tup [.tup [i0, i2, i1], .tup [i1, i2, i0], .tup [i1, i0, i2]], .tup [.tup [i0, i2, i1], .tup [i1, i2, i0], .tup [i1, i2, i0]], .tup [.tup [i0, i2, i1], .tup [i1, i2, i0], .tup [i2, i0, i1]], .tup [.tup [i0, i2, i1], .tup [i1, i2, i0], .tup [i2, i1, i0]], .tup [.tup [i0, i2, i1], .tup [i2, i0, i1], .tup [i0, i1, i2]], .tup [.tup [i0, i2, i1], .tup [i2, i0, i1], .tup [i0, i2, i1]], .tup [.tup [i0, i2, i1], .tup [i2, i0, i1], .tup [i1, i0, i2]], .tup [.tup [i0, i2, i1], .tup [i2, i0, i1], .tup [i1, i2, i0]], .tup [.tup [i0, i2, i1], .tup [i2, i0, i1], .tup [i2, i0, i1]], .tup [.tup [i0, i2, i1], .tup [i2, i0, i1], .tup [i2, i1, i0]], .tup [.tup [i0, i2, i1], .tup [i2, i1, i0], .tup [i0, i1, i2]], .tup [.tup [i0, i2, i1], .tup [i2, i1, i0], .tup [i0, i2, i1]], .tup [.tup [i0, i2, i1], .tup [i2, i1, i0], .tup [i1, i0, i2]], .tup [.tup [i0, i2, i1], .tup [i2, i1, i0], .tup [i1, i2, i0]], .tup [.tup [i0, i2, i1], .tup [i2, i1, i0], .tup [i2, i0, i1]], .tup [.tup [i0, i2, i1], .tup [i2, i1, i0], .tup [i2, i1, i0]], .tup [.tup [i1, i0, i2], .tup [i0, i1, i2], .tup [i0, i1, i2]], .tup [.tup [i1, i0, i2], .tup [i0, i1, i2], .tup [i0, i2, i1]], .tup [.tup [i1, i0, i2], .tup [i0, i1, i2], .tup [i1, i0, i2]], .tup [.tup [i1, i0, i2], .tup [i0, i1, i2], .tup [i1, i2, i0]], .tup [.tup [i1, i0, i2], .tup [i0, i1, i2], .tup [i2, i0, i1]], .tup [.tup [i1, i0, i2], .tup [i0, i1, i2], .tup [i2, i1, i0]], .tup [.tup [i1, i0, i2], .tup [i0, i2, i1], .tup [i0, i1, i2]], .tup [.tup [i1, i0, i2], .tup [i0, i2, i1], .tup [i0, i2, i1]], .tup [.tup [i1, i0, i2], .tup [i0, i2, i1], .tup [i1, i0, i2]], .tup [.tup [i1, i0, i2], .tup [i0, i2, i1], .tup [i1, i2, i0]], .tup [.tup [i1, i0, i2], .tup [i0, i2, i1], .tup [i2, i0, i1]], .tup [.tup [i1, i0, i2], .tup [i0, i2, i1], .tup [i2, i1, i0]], .tup [.tup [i1, i0, i2], .tup [i1, i0, i2], .tup [i0, i1, i2]], .tup [.tup [i1, i0, i2], .tup [i1, i0, i2], .tup [i0, i2, i1]], .tup [.tup [i1, i0, i2], .tup [i1, i0, i2], .tup [i1, i0, i2]], .tup [.tup [i1, i0, i2], .tup [i1, i0, i2], .tup [i1, i2, i0]], .tup [.tup [i1, i0, i2], .tup [i1, i0, i2], .tup [i2, i0, i1]], .tup [.tup [i1, i0, i2], .tup [i1, i0, i2], .tup [i2, i1, i0]], .tup [.tup [i1, i0, i2], .tup [i1, i2, i0], .tup [i0, i1, i2]], .tup [.tup [i1, i0, i2], .tup [i1, i2, i0], .tup [i0, i2, i1]], .tup [.tup [i1, i0, i2], .tup [i1, i2, i0], .tup [i1, i0, i2]], .tup [.tup [i1, i0, i2], .tup [i1, i2, i0], .tup [i1, i2, i0]], .tup [.tup [i1, i0, i2], .tup [i1, i2, i0], .tup [i2, i0, i1]], .tup [.tup [i1, i0, i2], .tup [i1, i2, i0], .tup [i2, i1, i0]], .tup [.tup [i1, i0, i2], .tup [i2, i0, i1], .tup [i0, i1, i2]], .tup [.tup [i1, i0, i2], .tup [i2, i0, i1], .tup [i0, i2, i1]], .tup [.tup [i1, i0, i2], .tup [i2, i0, i1], .tup [i1, i0, i2]], .tup [.tup [i1, i0, i2], .tup [i2, i0, i1], .tup [i1, i2, i0]], .tup [.tup [i1, i0, i2], .tup [i2, i0, i1], .tup [i2, i0, i1]], .tup [.tup [i1, i0, i2], .tup [i2, i0, i1], .tup [i2, i1, i0]], .tup [.tup [i1, i0, i2], .tup [i2, i1, i0], .tup [i0, i1, i2]], .tup [.tup [i1, i0, i2], .tup [i2, i1, i0], .tup [i0, i2, i1]], .tup [.tup [i1, i0, i2], .tup [i2, i1, i0], .tup [i1, i0, i2]], .tup [.tup [i1, i0, i2], .tup [i2, i1, i0], .tup [i1, i2, i0]], .tup [.tup [i1, i0, i2], .tup [i2, i1, i0], .tup [i2, i0, i1]], .tup [.tup [i1, i0, i2], .tup [i2, i1, i0], .tup [i2, i1, i0]], .tup [.tup [i1, i2, i0], .tup [i0, i1, i2], .tup [i0, i1, i2]], .tup [.tup [i1, i2, i0], .tup [i0, i1, i2], .tup [i0, i2, i1]], .tup [.tup [i1, i2, i0], .tup [i0, i1, i2], .tup [i1, i0, i2]], .tup [.tup [i1, i2, i0], .tup [i0, i1, i2], .tup [i1, i2, i0]], .tup [.tup [i1, i2, i0], .tup [i0, i1, i2], .tup [i2, i0, i1]], .tup [.tup [i1, i2, i0], .tup [i0, i1, i2], .tup [i2, i1, i0]], .tup [.tup [i1, i2, i0], .tup [i0, i2, i1], .tup [i0, i1, i2]], .tup [.tup [i1, i2, i0], .tup [i0, i2, i1], .tup [i0, i2, i1]], .tup [.tup [i1, i2, i0], .tup [i0, i2, i1], .tup [i1, i0, i2]], .tup [.tup [i1, i2, i0], .tup [i0, i2, i1], .tup [i1, i2, i0]], .tup [.tup [i1, i2, i0], .tup [i0, i2, i1], .tup [i2, i0, i1]], .tup [.tup [i1, i2, i0], .tup [i0, i2, i1], .tup [i2, i1, i0]], .tup [.tup [i1, i2, i0], .tup [i1, i0, i2], .tup [i0, i1, i2]], .tup [.tup [i1, i2, i0], .tup [i1, i0, i2], .tup [i0, i2, i1]], .tup [.tup [i1, i2, i0], .tup [i1, i0, i2], .tup [i1, i0, i2]], .tup [.tup [i1, i2, i0], .tup [i1, i0, i2], .tup [i1, i2, i0]], .tup [.tup [i1, i2, i0], .tup [i1, i0, i2], .tup [i2, i0, i1]], .tup [.tup [i1, i2, i0], .tup [i1, i0, i2], .tup [i2, i1, i0]], .tup [.tup [i1, i2, i0], .tup [i1, i2, i0], .tup [i0, i1, i2]], .tup [.tup [i1, i2, i0], .tup [i1, i2, i0], .tup [i0, i2, i1]], .tup [.tup [i1, i2, i0], .tup [i1, i2, i0], .tup [i1, i0, i2]], .tup [.tup [i1, i2, i0], .tup [i1, i2, i0], .tup [i1, i2, i0]], .tup [.tup [i1, i2, i0], .tup [i1, i2, i0], .tup [i2, i0, i1]], .tup [.tup [i1, i2, i0], .tup [i1, i2, i0], .tup [i2, i1, i0]], .tup [.tup [i1, i2, i0], .tup [i2, i0, i1], .tup [i0, i1, i2]], .tup [.tup [i1, i2, i0], .tup [i2, i0, i1], .tup [i0, i2, i1]], .tup [.tup [i1, i2, i0], .tup [i2, i0, i1], .tup [i1, i0, i2]], .tup [.tup [i1, i2, i0], .tup [i2, i0, i1], .tup [i1, i2, i0]], .tup [.tup [i1, i2, i0], .tup [i2, i0, i1], .tup [i2, i0, i1]], .tup [.tup [i1, i2, i0], .tup [i2, i0, i1], .tup [i2, i1, i0]], .tup [.tup [i1, i2, i0], .tup [i2, i1, i0], .tup [i0, i1, i2]], .tup [.tup [i1, i2, i0], .tup [i2, i1, i0], .tup [i0, i2, i1]], .tup [.tup [i1, i2, i0], .tup [i2, i1, i0], .tup [i1, i0, i2]], .tup [.tup [i1, i2, i0], .tup [i2, i1, i0], .tup [i1, i2, i0]], .tup [.tup [i1, i2, i0], .tup [i2, i1, i0], .tup [i2, i0, i1]], .tup [.tup [i1, i2, i0], .tup [i2, i1, i0], .tup [i2, i1, i0]], .tup [.tup [i2, i0, i1], .tup [i0, i1, i2], .tup [i0, i1, i2]], .tup [.tup [i2, i0, i1], .tup [i0, i1, i2], .tup [i0, i2, i1]], .tup [.tup [i2, i0, i1], .tup [i0, i1, i2], .tup [i1, i0, i2]], .tup [.tup [i2, i0, i1], .tup [i0, i1, i2], .tup [i1, i2, i0]], .tup [.tup [i2, i0, i1], .tup [i0, i1, i2], .tup [i2, i0, i1]], .tup [.tup [i2, i0, i1], .tup [i0, i1, i2], .tup [i2, i1, i0]], .tup [.tup [i2, i0, i1], .tup [i0, i2, i1], .tup [i0, i1, i2]], .tup [.tup [i2, i0, i1], .tup [i0, i2, i1], .tup [i0, i2, i1]], .tup [.tup [i2, i0, i1], .tup [i0, i2, i1], .tup [i1, i0, i2]], .tup [.tup [i2, i0, i1], .tup [i0, i2, i1], .tup [i1, i2, i0]], .tup [.tup [i2, i0, i1], .tup [i0, i2, i1], .tup [i2, i0, i1]], .tup [.tup [i2, i0, i1], .tup [i0, i2, i1], .tup [i2, i1, i0]], .tup [.tup [i2, i0, i1], .tup [i1, i0, i2], .tup [i0, i1, i2]], .tup [.tup [i2, i0, i1], .tup [i1, i0, i2], .tup [i0, i2, i1]], .tup [.tup [i2, i0, i1], .tup [i1, i0, i2], .tup [i1, i0, i2]], .tup [.tup [i2, i0, i1], .tup [i1, i0, i2], .tup [i1, i2, i0]], .tup [.tup [i2, i0, i1], .tup [i1, i0, i2], .tup [i2, i0, i1]], .tup [.tup [i2, i0, i1], .tup [i1, i0, i2], .tup [i2, i1, i0]], .tup [.tup [i2, i0, i1], .tup [i1, i2, i0], .tup [i0, i1, i2]], .tup [.tup [i2, i0, i1], .tup [i1, i2, i0], .tup [i0, i2, i1]], .tup [.tup [i2, i0, i1], .tup [i1, i2, i0], .tup [i1, i0, i2]], .tup [.tup [i2, i0, i1], .tup [i1, i2, i0], .tup [i1, i2, i0]], .tup [.tup [i2, i0, i1], .tup [i1, i2, i0], .tup [i2, i0, i1]], .tup [.tup [i2, i0, i1], .tup [i1, i2, i0], .tup [i2, i1, i0]], .tup [.tup [i2, i0, i1], .tup [i2, i0, i1], .tup [i0, i1, i2]], .tup [.tup [i2, i0, i1], .tup [i2, i0, i1], .tup [i0, i2, i1]], .tup [.tup [i2, i0, i1], .tup [i2, i0, i1], .tup [i1, i0, i2]], .tup [.tup [i2, i0, i1], .tup [i2, i0, i1], .tup [i1, i2, i0]], .tup [.tup [i2, i0, i1], .tup [i2, i0, i1], .tup [i2, i0, i1]], .tup [.tup [i2, i0, i1], .tup [i2, i0, i1], .tup [i2, i1, i0]], .tup [.tup [i2, i0, i1], .tup [i2, i1, i0], .tup [i0, i1, i2]], .tup [.tup [i2, i0, i1], .tup [i2, i1, i0], .tup [i0, i2, i1]], .tup [.tup [i2, i0, i1], .tup [i2, i1, i0], .tup [i1, i0, i2]], .tup [.tup [i2, i0, i1], .tup [i2, i1, i0], .tup [i1, i2, i0]], .tup [.tup [i2, i0, i1], .tup [i2, i1, i0], .tup [i2, i0, i1]], .tup [.tup [i2, i0, i1], .tup [i2, i1, i0], .tup [i2, i1, i0]], .tup [.tup [i2, i1, i0], .tup [i0, i1, i2], .tup [i0, i1, i2]], .tup [.tup [i2, i1, i0], .tup [i0, i1, i2], .tup [i0, i2, i1]], .tup [.tup [i2, i1, i0], .tup [i0, i1, i2], .tup [i1, i0, i2]], .tup [.tup [i2, i1, i0], .tup [i0, i1, i2], .tup [i1, i2, i0]], .tup [.tup [i2, i1, i0], .tup [i0, i1, i2], .tup [i2, i0, i1]], .tup [.tup [i2, i1, i0], .tup [i0, i1, i2], .tup [i2, i1, i0]], .tup [.tup [i2, i1, i0], .tup [i0, i2, i1], .tup [i0, i1, i2]], .tup [.tup [i2, i1, i0], .tup [i0, i2, i1], .tup [i0, i2, i1]], .tup [.tup [i2, i1, i0], .tup [i0, i2, i1], .tup [i1, i0, i2]], .tup [.tup [i2, i1, i0], .tup [i0, i2, i1], .tup [i1, i2, i0]], .tup [.tup [i2, i1, i0], .tup [i0, i2, i1], .tup [i2, i0, i1]], .tup [.tup [i2, i1, i0], .tup [i0, i2, i1], .tup [i2, i1, i0]], .tup [.tup [i2, i1, i0], .tup [i1, i0, i2], .tup [i0, i1, i2]], .tup [.tup [i2, i1, i0], .tup [i1, i0, i2], .tup [i0, i2, i1]], .tup [.tup [i2, i1, i0], .tup [i1, i0, i2], .tup [i1, i0, i2]], .tup [.tup [i2, i1, i0], .tup [i1, i0, i2], .tup [i1, i2, i0]], .tup [.tup [i2, i1, i0], .tup [i1, i0, i2], .tup [i2, i0, i1]], .tup [.tup [i2, i1, i0], .tup [i1, i0, i2], .tup [i2, i1, i0]], .tup [.tup [i2, i1, i0], .tup [i1, i2, i0], .tup [i0, i1, i2]], .tup [.tup [i2, i1, i0], .tup [i1, i2, i0], .tup [i0, i2, i1]], .tup [.tup [i2, i1, i0], .tup [i1, i2, i0], .tup [i1, i0, i2]], .tup [.tup [i2, i1, i0], .tup [i1, i2, i0], .tup [i1, i2, i0]], .tup [.tup [i2, i1, i0], .tup [i1, i2, i0], .tup [i2, i0, i1]], .tup [.tup [i2, i1, i0], .tup [i1, i2, i0], .tup [i2, i1, i0]], .tup [.tup [i2, i1, i0], .tup [i2, i0, i1], .tup [i0, i1, i2]], .tup [.tup [i2, i1, i0], .tup [i2, i0, i1], .tup [i0, i2, i1]], .tup [.tup [i2, i1, i0], .tup [i2, i0, i1], .tup [i1, i0, i2]], .tup [.tup [i2, i1, i0], .tup [i2, i0, i1], .tup [i1, i2, i0]], .tup [.tup [i2, i1, i0], .tup [i2, i0, i1], .tup [i2, i0, i1]], .tup [.tup [i2, i1, i0], .tup [i2, i0, i1], .tup [i2, i1, i0]], .tup [.tup [i2, i1, i0], .tup [i2, i1, i0], .tup [i0, i1, i2]], .tup [.tup [i2, i1, i0], .tup [i2, i1, i0], .tup [i0, i2, i1]], .tup [.tup [i2, i1, i0], .tup [i2, i1, i0], .tup [i1, i0, i2]], .tup [.tup [i2, i1, i0], .tup [i2, i1, i0], .tup [i1, i2, i0]], .tup [.tup [i2, i1, i0], .tup [i2, i1, i0], .tup [i2, i0, i1]], .tup [.tup [i2, i1, i0], .tup [i2, i1, i0], .tup [i2, i1, i0]]]
theorem e_law_rows_1 : r_law_rows [.int (.ofNat 3)] = .ret c_law_rows_1 := by kernel_rfl
def m_law_rows : List D → T D
  | [.int (.ofNat 2)] => .ret c_law_rows_0
  | [.int (.ofNat 3)] => .ret c_law_rows_1
  | x => r_law_rows x
theorem m_law_rows_eq : m_law_rows = r_law_rows := by
  funext x
  unfold m_law_rows
  split
  · exact (e_law_rows_0).symm
  · exact (e_law_rows_1).symm
  · rfl
theorem ok_law_rows {a_law_rows : Addr} {d_law_rows : FuncData} (G_law_rows : Gd K mg "_law_rows" s_law_rows N_law_rows a_law_rows d_law_rows) (Tx : Txt P w K mg fs aP ad_CHOICES kv_CHOICES ad_TOLD kv_TOLD) {a_law_orders : Addr} {d_law_orders : FuncData} (G_law_orders : Gd K mg "_law_orders" s_law_orders N_law_orders a_law_orders d_law_orders) (O_law_orders : FnOk P w K mg base CX0 1 a_law_orders d_law_orders N_law_orders (spP K (F1 w fs) m_law_orders 1)) : FnOk P w K mg base CX0 2 a_law_rows d_law_rows N_law_rows (spP K (F1 w fs) m_law_rows 1) := by
  have sc := sc_law_rows
  rw [m_law_rows_eq]
  refine zdef (F := F1 w fs) (N := ["people", "found", "turn", "longer", "one", "ranking"]) G_law_rows.fn sc fun cdv A outer s H E hr => ?_
  have hu := hr.units
  have hu2 := units80 hr
  let N : List Str := ["people", "found", "turn", "longer", "one", "ranking"]
  exact (zcons (PSf (sSetV_eq _ _) (zset (i := 1) sc.nd rfl (by first | exact Or.inl rfl | exact Or.inr rfl) (PEnl (zl (zac (zt zan) zan)))))
    (zcons (zfor PassesOwn.never rfl (zir1 (by rfl) Tx.nb_range (zac (zv 0) zan)) (pg_name (i := 2) sc.nd rfl (by first | exact Or.inl rfl | exact Or.inr rfl)) (TgRf (gIF_eq _) (zg_name 2))
    (zcons (PSf (sSetV_eq _ _) (zset (i := 3) sc.nd rfl (by first | exact Or.inl rfl | exact Or.inr rfl) (PEnl (zl zan))))
    (zcons (zfor PassesOwn.never rfl (zis (zv 1)) (pg_name (i := 4) sc.nd rfl (by first | exact Or.inl rfl | exact Or.inr rfl)) (TgRf (gIX_eq _) (zg_name 4))
    (zlast (PSf (sSetV_eq _ _) (zset (i := 3) sc.nd rfl (by first | exact Or.inl rfl | exact Or.inr rfl) (zop oplus (zv 3) (PEnl (zlc rfl sc.nd (zis ((zcall O_law_orders (hr.mono (by omega)) (by rfl) G_law_orders.mg G_law_orders.kp G_law_orders.b (zac (zv 0) zan)))) (blkOk_by (own := [("ranking", 5)]) (N := N) (sc := (defScope s_law_rows)) (by first | decide +kernel | rfl | with_unfolding_all rfl)) (TgCf (gIX_eq _) (zgc_name (by decide))) (fun _ _ _ _ _ => (pg_name (i := 5) sc.nd rfl (by first | exact Or.inl rfl | exact Or.inr rfl))) (fun _ _ _ _ _ => ztyes) (fun _ _ _ _ _ => (zop oplus (zv 4) (zt (zac (zv 5) zan)))))))))))
    (zlast (zset (i := 1) sc.nd rfl (by first | exact Or.inl rfl | exact Or.inr rfl) (zv 3))))))
    (zlast (zret (zv 1)))))
/-! _law_told -/
abbrev s_law_told : Stmt := top 57
abbrev N_law_told : List Str := ["name", "people"]
theorem sc_law_told : FnScope ["name", "people", "some", "row"] N_law_told (defScope s_law_told) := ⟨rfl, rfl, rfl, by decide +kernel, rfl, by decide +kernel, by decide +kernel⟩
def r_law_told : List D → T D := runB (
    (sSeq (sSet 2 (eCall m_law_orders 1 (aC (eV 1) aN)))
    (sRetF (eTupOf (nLc (lSeq (eCall m_law_rows 1 (aC (eV 1) aN))) (gIX 3) bYes (eIdxL (eV 2) (eCall r_law_dealt 2 (aC (eV 0) (aC (eV 3) aN)))) [3]))))) 4
theorem ok_law_told {a_law_told : Addr} {d_law_told : FuncData} (G_law_told : Gd K mg "_law_told" s_law_told N_law_told a_law_told d_law_told) (Tx : Txt P w K mg fs aP ad_CHOICES kv_CHOICES ad_TOLD kv_TOLD) {a_law_orders : Addr} {d_law_orders : FuncData} (G_law_orders : Gd K mg "_law_orders" s_law_orders N_law_orders a_law_orders d_law_orders) (O_law_orders : FnOk P w K mg base CX0 1 a_law_orders d_law_orders N_law_orders (spP K (F1 w fs) m_law_orders 1)) {a_law_dealt : Addr} {d_law_dealt : FuncData} (G_law_dealt : Gd K mg "_law_dealt" s_law_dealt N_law_dealt a_law_dealt d_law_dealt) (O_law_dealt : FnOk P w K mg base CX0 4 a_law_dealt d_law_dealt N_law_dealt (spP K (F1 w fs) r_law_dealt 2)) {a_law_rows : Addr} {d_law_rows : FuncData} (G_law_rows : Gd K mg "_law_rows" s_law_rows N_law_rows a_law_rows d_law_rows) (O_law_rows : FnOk P w K mg base CX0 2 a_law_rows d_law_rows N_law_rows (spP K (F1 w fs) m_law_rows 1)) : FnOk P w K mg base CX0 5 a_law_told d_law_told N_law_told (spP K (F1 w fs) r_law_told 2) := by
  have sc := sc_law_told
  refine zdef (F := F1 w fs) (N := ["name", "people", "some", "row"]) G_law_told.fn sc fun cdv A outer s H E hr => ?_
  have hu := hr.units
  have hu2 := units80 hr
  let N : List Str := ["name", "people", "some", "row"]
  exact (zcons (zset (i := 2) sc.nd rfl (by first | exact Or.inl rfl | exact Or.inr rfl) ((zcall O_law_orders (hr.mono (by omega)) (by rfl) G_law_orders.mg G_law_orders.kp G_law_orders.b (zac (zv 1) zan))))
    (zlast (PSf (sRetF_eq _) (zret (ztupOf (by rfl) Tx.nb_tuple (PEns (zlc rfl sc.nd (zis ((zcall O_law_rows (hr.mono (by omega)) (by rfl) G_law_rows.mg G_law_rows.kp G_law_rows.b (zac (zv 1) zan)))) (blkOk_by (own := [("row", 3)]) (N := N) (sc := (defScope s_law_told)) (by first | decide +kernel | rfl | with_unfolding_all rfl)) (TgCf (gIX_eq _) (zgc_name (by decide))) (fun _ _ _ _ _ => (pg_name (i := 3) sc.nd rfl (by first | exact Or.inl rfl | exact Or.inr rfl))) (fun _ _ _ _ _ => ztyes) (fun _ _ _ _ _ => (zidxL hu2 (zv 2) ((zcall O_law_dealt (hr.mono (by omega)) (by rfl) G_law_dealt.mg G_law_dealt.kp G_law_dealt.b (zac (zv 0) (zac (zv 3) zan)))))))))))))
/-! _law_alike -/
abbrev s_law_alike : Stmt := top 49
abbrev N_law_alike : List Str := ["found", "due"]
theorem sc_law_alike : FnScope ["found", "due", "k"] N_law_alike (defScope s_law_alike) := ⟨rfl, rfl, rfl, by decide +kernel, rfl, by decide +kernel, by decide +kernel⟩
def r_law_alike : Nat → List D → T D
  | 0 => fun _ => .fail
  | i + 1 => runB (
    (sSeq (sIf (b1 (eIsi2 4 5 (eV 1)))
    (sSeq (sIf (bOr (bNot (b1 (eIsi2 4 5 (eV 0)))) (b1 (e2 dNeF (eIsi 5 (eV 0)) (eIsi 5 (eV 1)))))
    (sRet (eC (.bl false))) sNil)
    (sSeq (sIf (b1 (e2 dNeF (eLen (lSeq (eV 0))) (eLen (lSeq (eV 1)))))
    (sRet (eC (.bl false))) sNil)
    (sRetF (e2 dEqF (lst (nLc (lR1 (aC (eLen (lSeq (eV 1))) aN)) (gIF 2) (bNot (b1 (eCall (r_law_alike i) 2 (aC (eIx (lSeq (eV 0)) (eV 2)) (aC (eIx (lSeq (eV 1)) (eV 2)) aN))))) (eV 2) [2])) (lst (nL aN)))))) sNil)
    (sSeq (sIf (bOr (b1 (isN (eV 1))) (b1 (eIsi 3 (eV 1))))
    (sRetF (eAnd (e2 dEqF (eV 0) (eV 1)) (e2 dEqF (eIsi 3 (eV 0)) (eIsi 3 (eV 1))))) sNil)
    (sRetF (eAnd (eIsi 2 (eV 0)) (eAnd (e2 dEqF (eIsi 1 (eV 0)) (eIsi 1 (eV 1))) (e2 dEqF (eV 0) (eV 1)))))))) 3
theorem ok_law_alike {a_law_alike : Addr} {d_law_alike : FuncData} (G_law_alike : Gd K mg "_law_alike" s_law_alike N_law_alike a_law_alike d_law_alike) (Tx : Txt P w K mg fs aP ad_CHOICES kv_CHOICES ad_TOLD kv_TOLD) : ∀ i : Nat, i ≤ 8 → FnOk P w K mg base CX0 (0 + i + 1) a_law_alike d_law_alike N_law_alike (spP K (F1 w fs) (r_law_alike i) 2)
  | 0, _ => fnNo G_law_alike.fn sc_law_alike
  | i + 1, hi => by
    have ih := ok_law_alike G_law_alike Tx i (by omega)
    have sc := sc_law_alike
    refine zdef (F := F1 w fs) (N := ["found", "due", "k"]) G_law_alike.fn sc fun cdv A outer s H E hr => ?_
    have hu := hr.units
    have hu2 := units80 hr
    let N : List Str := ["found", "due", "k"]
    exact (zcons (zifs (ztv (zisi2 4 5 rfl rfl (by rfl) Tx.nb_isinstance (zv 1) (zty (by rfl) Tx.nb_tuple boot_tuple) (zty (by rfl) Tx.nb_list boot_list)))
    (zcons (zifs (PW.pt (ztor (ztnot (ztv (zisi2 4 5 rfl rfl (by rfl) Tx.nb_isinstance (zv 0) (zty (by rfl) Tx.nb_tuple boot_tuple) (zty (by rfl) Tx.nb_list boot_list)))) (ztor1 (ztc (oneF hu) (zisi 5 rfl (by rfl) Tx.nb_isinstance (zv 0) (zty (by rfl) Tx.nb_list boot_list)) (zisi 5 rfl (by rfl) Tx.nb_isinstance (zv 1) (zty (by rfl) Tx.nb_list boot_list))))))
    (zlast (zret zbl)) znil)
    (zcons (zifs (ztc (oneF hu) (zlen (by rfl) Tx.nb_len (PEseq (zv 0))) (zlen (by rfl) Tx.nb_len (PEseq (zv 1))))
    (zlast (zret zbl)) znil)
    (zlast (PSf (sRetF_eq _) (zret (zcmp (oeqF hu) (PEnl (zlc rfl sc.nd (zir1 (by rfl) Tx.nb_range (zac (zlen (by rfl) Tx.nb_len (PEseq (zv 1))) zan)) (blkOk_by (own := [("k", 2)]) (N := N) (sc := (defScope s_law_alike)) (by first | decide +kernel | rfl | with_unfolding_all rfl)) (TgCf (gIF_eq _) (zgc_name (by decide))) (fun _ _ _ _ _ => (pg_name (i := 2) sc.nd rfl (by first | exact Or.inl rfl | exact Or.inr rfl))) (fun _ _ _ _ _ => (ztone (ztnot (ztv ((zcall ih (hr.mono (Nat.le_refl _)) (by rfl) G_law_alike.mg G_law_alike.kp G_law_alike.b (zac (zix (PEseq (zv 0)) (zv 2)) (zac (zix (PEseq (zv 1)) (zv 2)) zan)))))))) (fun _ _ _ _ _ => (zv 2)))) (PEnl (zl zan)))))))) znil)
    (zcons (zifs (PW.pt (ztor (ztisN (zv 1)) (ztor1 (ztv (zisi 3 rfl (by rfl) Tx.nb_isinstance (zv 1) (zty (by rfl) Tx.nb_str boot_str))))))
    (zlast (PSf (sRetF_eq _) (zret (zand (zcmp (oeqF hu) (zv 0) (zv 1)) (zone (zcmp (oeqF hu) (zisi 3 rfl (by rfl) Tx.nb_isinstance (zv 0) (zty (by rfl) Tx.nb_str boot_str)) (zisi 3 rfl (by rfl) Tx.nb_isinstance (zv 1) (zty (by rfl) Tx.nb_str boot_str)))))))) znil)
    (zlast (PSf (sRetF_eq _) (zret (zand (zisi 2 rfl (by rfl) Tx.nb_isinstance (zv 0) (zty (by rfl) Tx.nb_int boot_int)) (zand (zcmp (oeqF hu) (zisi 1 rfl (by rfl) Tx.nb_isinstance (zv 0) (zty (by rfl) Tx.nb_bool boot_bool)) (zisi 1 rfl (by rfl) Tx.nb_isinstance (zv 1) (zty (by rfl) Tx.nb_bool boot_bool))) (zone (zcmp (oeqF hu) (zv 0) (zv 1))))))))))
/-! _law_taken -/
abbrev s_law_taken : Stmt := top 47
abbrev N_law_taken : List Str := ["row", "many"]
theorem sc_law_taken : FnScope ["row", "many", "found", "cell"] N_law_taken (defScope s_law_taken) := ⟨rfl, rfl, rfl, by decide +kernel, rfl, by decide +kernel, by decide +kernel⟩
theorem ok_law_taken {a_law_taken : Addr} {d_law_taken : FuncData} (G_law_taken : Gd K mg "_law_taken" s_law_taken N_law_taken a_law_taken d_law_taken) (Tx : Txt P w K mg fs aP ad_CHOICES kv_CHOICES ad_TOLD kv_TOLD) : FnOk P w K mg base CX0 1 a_law_taken d_law_taken N_law_taken (spR K (F1 w fs) taken 1) := by
  have sc := sc_law_taken
  have Fn := G_law_taken.fn
  have ni := Tx.nb_int
  have nl := Tx.nb_len
  refine Fn.ok sc (fun vs H Q E h => ?_) (fun cdv A outer s H vs Q E hr h => ?_)
  · obtain ⟨a, ws, m, ds, rfl, hn, _⟩ := h
    rw [List.length_cons, hn]
    rfl
  · obtain ⟨ρ, ws, m, ds, rfl, hn, hm, dom, row, rs, h⟩ := h
    obtain ⟨n, rfl⟩ : ∃ n, ds = [.int n] := by
      unfold taken at h
      split at h
      · exact ⟨_, rfl⟩
      · exact h.elim
    cases rs with
    | cons r1 rs =>
    cases rs
    cases r1
    obtain ⟨hb, h⟩ := all_guard (show (guardT (decide (1 ≤ n) && decide (n ≤ 1000000)) (T.draw n.toNat fun i => T.ret (D.int i))).all _ from h)
    rw [Bool.and_eq_true] at hb
    have n1 := of_decide_eq_true hb.1
    have n2 := of_decide_eq_true hb.2
    have fin : ∀ (z : Int) (H' : Hp), Keep (some ρ) H H' → RowOk K H' ρ → Q (.int (z % n)) H' := fun z H' k w => by
      have e1 : 0 ≤ z % n := Int.emod_nonneg z (by omega)
      have e2 : z % n < n := Int.emod_lt_of_pos z (by omega)
      have q := h (z % n).toNat (by omega) H' (.int (((z % n).toNat : Nat) : Int)) k w (.int _)
      rw [Int.toNat_of_nonneg e1] at q
      exact q
    obtain ⟨sA, ns, i, z, r, hrow, hscr, hlen, hi⟩ := row
    have hs : SqL K H ρ [.ref sA, .int i, .int z, .int r] := SqL.of hrow
    have keep : ∀ xs, Keep (some ρ) H (upd H ρ (.lst xs)) := fun xs b o n e => by
      rw [upd_ne (fun z => n (by rw [z]))]
      exact e
    have scr : ∀ xs, ScrOk K (upd H ρ (.lst xs)) sA (ns.map V.int) := fun xs => hscr.keep fun o e => by
      rw [upd_ne (fun z => by rw [z, hrow] at e; cases e)]
      exact e
    refine ⟨_, pss_cons (ps_if (pt_cmpR op_gt (pe_ix ix_seq (pv 0) pe_int fun _ _ => rfl) pe_int (nomark _))
        (pss_cons (ps_set (i := 2) sc.nd rfl (Or.inl rfl) (pe_op op_mod (pe_callTy call_int1 (by rfl) ni boot_int (pa_cons (pe_ix ix_seq (pv 0) pe_int fun _ _ => rfl) pa_nil)) (pv 1)))
          (pss_cons (ps_asg (pe_op op_fdiv (pe_ix ix_seq (pv 0) pe_int fun _ _ => rfl) (pv 1)) (pg_sub (pv 0) pe_int set_list)) (pss_one (ps_ret (pv 2))))) pss_nil)
      (pss_cons (ps_asg (pe_op op_add (pe_ix ix_seq (pv 0) pe_int fun _ _ => rfl) pe_int) (pg_sub (pv 0) pe_int set_list))
      (pss_cons (ps_if (pt_cmpR op_gt (pe_ix ix_seq (pv 0) pe_int fun _ _ => rfl) (pe_callB call_len_seq (by rfl) nl PySem.boot_len (pa_cons (pe_ix ix_seq (pv 0) pe_int fun _ _ => rfl) pa_nil)) (nomark _))
          (pss_cons (ps_asg (pe_op op_mod (pe_callTy call_int1 (by rfl) ni boot_int (pa_cons (pe_op op_add (pe_op op_mul (pe_ix ix_seq (pv 0) pe_int fun _ _ => rfl) pe_int) pe_int) pa_nil)) pe_int) (pg_sub (pv 0) pe_int set_list))
            (pss_one (ps_ret (pe_op op_mod (pe_callTy call_int1 (by rfl) ni boot_int (pa_cons (pe_op op_fdiv (pe_ix ix_seq (pv 0) pe_int fun _ _ => rfl) pe_int) pa_nil)) (pv 1))))) pss_nil)
      (pss_cons (ps_set (i := 3) sc.nd rfl (Or.inl rfl) (pe_ix ix_seq (pe_ix ix_seq (pv 0) pe_int fun _ _ => rfl) (pe_op op_sub (pe_ix ix_seq (pv 0) pe_int fun _ _ => rfl) pe_int) fun _ _ => rfl))
      (pss_cons (ps_asg (pe_op op_mod (pe_callTy call_int1 (by rfl) ni boot_int (pa_cons (pe_op op_add (pe_op op_add (pe_op op_mul (pe_ix ix_seq (pv 0) pe_int fun _ _ => rfl) pe_int) (pv 3)) pe_int) pa_nil)) pe_int) (pg_sub (pv 0) pe_int set_list))
      (pss_cons (ps_if (pt_cmpR op_ge (pv 3) (pe_op op_pow pe_int pe_int) (nomark _))
          (pss_one (ps_asg (pe_op op_fdiv (pv 3) (pv 1)) (pg_sub (pv 0) pe_int set_list))) pss_nil)
      (pss_one (ps_ret (pe_op op_mod (pe_callTy call_int1 (by rfl) ni boot_int (pa_cons (pv 3) pa_nil)) (pv 1))))))))), ?_⟩
    refine ⟨_, rfl, .inl ⟨ρ, _, 3, _, rfl, rfl, hs, rfl, _, _, rfl, rfl, ?_⟩⟩
    refine ⟨_, rfl, ?_⟩
    refine ite2 (fun _ => ?_) (fun _ => ?_)
    · refine ⟨_, rfl, .inl ⟨ρ, _, 3, _, rfl, rfl, hs, rfl, .inl ⟨_, rfl, _, rfl, _, _, rfl, rfl, (by omega), ?_⟩⟩⟩
      refine ⟨_, rfl, .inl ⟨ρ, _, 3, _, rfl, rfl, hs, rfl, _, rfl, _, _, rfl, rfl, ⟨by omega, by omega⟩, ?_⟩⟩
      refine ⟨_, rfl, ρ, _, 3, 3, rfl, rfl, hrow, rfl, ?_⟩
      refine ⟨_, rfl, fin r _ (keep _) ⟨sA, ns, i, z, _, upd_same, scr _, hlen, hi⟩⟩
    · refine ⟨_, rfl, .inl ⟨ρ, _, 1, _, rfl, rfl, hs, rfl, _, _, rfl, rfl, ?_⟩⟩
      refine ⟨_, rfl, ρ, _, 1, 1, rfl, rfl, hrow, rfl, ?_⟩
      show tSeq _ _ _ _ (upd H ρ (.lst [.ref sA, .int (i + 1), .int z, .int r]))
      have hs1 : SqL K (upd H ρ (.lst [.ref sA, .int (i + 1), .int z, .int r])) ρ [.ref sA, .int (i + 1), .int z, .int r] := SqL.of upd_same
      have scr1 : SqL K (upd H ρ (.lst [.ref sA, .int (i + 1), .int z, .int r])) sA (ns.map V.int) := (scr _).sq
      have two : ∀ xs ys, Keep (some ρ) H (upd (upd H ρ (.lst xs)) ρ (.lst ys)) ∧ ScrOk K (upd (upd H ρ (.lst xs)) ρ (.lst ys)) sA (ns.map V.int) := fun xs ys => by
        have e : upd (upd H ρ (.lst xs)) ρ (.lst ys) = upd H ρ (.lst ys) := by
          funext b
          by_cases hb : b = ρ
          · rw [hb, upd_same, upd_same]
          · rw [upd_ne hb, upd_ne hb, upd_ne hb]
        rw [e]
        exact ⟨keep _, scr _⟩
      refine ⟨_, rfl, .inl ⟨ρ, _, 1, _, rfl, rfl, hs1, rfl, _, rfl, .inl ⟨ρ, _, 0, _, rfl, rfl, hs1, rfl, ?_⟩⟩⟩
      refine ⟨sA, _, rfl, .inl scr1, _, _, rfl, rfl, _, rfl, ?_⟩
      refine ite2 (fun _ => ?_) (fun hle => ?_)
      · refine ⟨_, rfl, .inl ⟨ρ, _, 2, _, rfl, rfl, hs1, rfl, _, _, rfl, rfl, .inr ⟨by decide, by decide⟩, _, _, rfl, rfl, .inl ⟨_, rfl, _, _, rfl, rfl, (by show (0 : Int) < 2147483647; decide), ?_⟩⟩⟩
        refine ⟨_, rfl, ρ, _, 2, 2, rfl, rfl, upd_same, rfl, ?_⟩
        refine ⟨_, rfl, .inl ⟨ρ, _, 2, _, rfl, rfl, SqL.of upd_same, rfl, _, _, rfl, rfl, ⟨by decide, by decide⟩, .inl ⟨_, rfl, _, rfl, _, _, rfl, rfl, (by omega), ?_⟩⟩⟩
        exact fin _ _ (two _ _).1 ⟨sA, ns, i + 1, _, r, upd_same, (two _ _).2, hlen, by omega⟩
      · have hle : i + 1 ≤ (ns.length : Int) := by
          by_cases q : ((ns.map V.int).length : Int) < i + 1
          · exact absurd (decide_eq_true q) hle
          · rw [List.length_map] at q; omega
        have hix : i.toNat < ns.length := by omega
        have hat : atI (ns.map V.int) (i + 1 - 1) = some (.int ns[i.toNat]) := by
          have e : i + 1 - 1 = ((i.toNat : Nat) : Int) := by omega
          rw [e]
          exact atI_nat (by rw [List.getElem?_map, List.getElem?_eq_getElem hix]; rfl)
        generalize ns[i.toNat] = c at hat
        refine ⟨_, rfl, .inl ⟨ρ, _, 0, _, rfl, rfl, hs1, rfl, _, rfl, .inl ⟨ρ, _, 1, _, rfl, rfl, hs1, rfl, _, _, rfl, rfl, .inl ⟨sA, _, _, _, rfl, rfl, scr1, hat, ?_⟩⟩⟩⟩
        refine ⟨_, rfl, .inl ⟨ρ, _, 2, _, rfl, rfl, hs1, rfl, _, _, rfl, rfl, .inr ⟨by decide, by decide⟩, _, rfl, _, _, rfl, rfl, _, _, rfl, rfl, .inl ⟨_, rfl, _, _, rfl, rfl, (by show (0 : Int) < 2147483647; decide), ?_⟩⟩⟩
        refine ⟨_, rfl, ρ, _, 2, 2, rfl, rfl, upd_same, rfl, ?_⟩
        refine ⟨_, rfl, _, _, rfl, rfl, ⟨by decide, by decide, by decide⟩, _, _, rfl, rfl, ?_⟩
        refine ⟨_, rfl, ?_⟩
        refine ite2 (fun _ => ?_) (fun _ => ?_)
        · refine ⟨_, rfl, _, rfl, _, _, rfl, rfl, ⟨by omega, by omega⟩, ?_⟩
          refine ⟨_, rfl, ρ, _, 3, 3, rfl, rfl, upd_same, rfl, ?_⟩
          refine ⟨_, rfl, .inl ⟨_, rfl, _, rfl, _, _, rfl, rfl, (by omega), ?_⟩⟩
          have e : ∀ xs ys zs, upd (upd (upd H ρ (.lst xs)) ρ (.lst ys)) ρ (.lst zs) = upd H ρ (.lst zs) := fun xs ys zs => by
            funext b
            by_cases hb : b = ρ
            · rw [hb, upd_same, upd_same]
            · rw [upd_ne hb, upd_ne hb, upd_ne hb, upd_ne hb]
          refine fin _ _ ?_ ⟨sA, ns, i + 1, _, _, upd_same, ?_, hlen, by omega⟩
          · rw [e]; exact keep _
          · rw [e]; exact scr _
        · refine ⟨_, rfl, .inl ⟨_, rfl, _, rfl, _, _, rfl, rfl, (by omega), ?_⟩⟩
          exact fin _ _ (two _ _).1 ⟨sA, ns, i + 1, _, r, upd_same, (two _ _).2, hlen, by omega⟩
/-! _law_pick -/
abbrev s_law_pick : Stmt := top 48
abbrev N_law_pick : List Str := ["row", "kinds"]
theorem sc_law_pick : FnScope ["row", "kinds"] N_law_pick (defScope s_law_pick) := ⟨rfl, rfl, rfl, by decide +kernel, rfl, by decide +kernel, by decide +kernel⟩
def r_law_pick : List D → T D := runR (
    (sRet (eIx (lSeq (eV 1)) (eCallR 0 taken 1 (aCF (eLen (lSeq (eV 1))) aN))))) 2
theorem ok_law_pick {a_law_pick : Addr} {d_law_pick : FuncData} (G_law_pick : Gd K mg "_law_pick" s_law_pick N_law_pick a_law_pick d_law_pick) (Tx : Txt P w K mg fs aP ad_CHOICES kv_CHOICES ad_TOLD kv_TOLD) {a_law_taken : Addr} {d_law_taken : FuncData} (G_law_taken : Gd K mg "_law_taken" s_law_taken N_law_taken a_law_taken d_law_taken) (O_law_taken : FnOk P w K mg base CX0 1 a_law_taken d_law_taken N_law_taken (spR K (F1 w fs) taken 1)) : FnOk P w K mg base CX0 2 a_law_pick d_law_pick N_law_pick (spR K (F1 w fs) r_law_pick 1) := by
  have sc := sc_law_pick
  refine zdefR (F := F1 w fs) (N := ["row", "kinds"]) G_law_pick.fn sc (by decide) (by decide) fun cdv A outer s H E hr => ?_
  have hu := hr.units
  have hu2 := units80 hr
  let N : List Str := ["row", "kinds"]
  exact (zlast (zret (zix (PEseq (zv 1)) ((zcallR (i := 0) O_law_taken (hr.mono (by omega)) (by rfl) G_law_taken.mg G_law_taken.kp G_law_taken.b rfl (by first | exact Or.inl rfl | exact Or.inr (Or.inl rfl) | exact Or.inr (Or.inr rfl)) (PAf (aCF_eq _ _) (zac (zlen (by rfl) Tx.nb_len (PEseq (zv 1))) zan)))))))
/-! is_below -/
abbrev s_is_below : Stmt := top 13
abbrev N_is_below : List Str := ["value", "limit"]
theorem sc_is_below : FnScope ["value", "limit"] N_is_below (defScope s_is_below) := ⟨rfl, rfl, rfl, by decide +kernel, rfl, by decide +kernel, by decide +kernel⟩
def r_is_below : List D → T D := runB (
    (sRetF (eAnd (e2 dIsTy (e1 dTy (eV 0)) (eC (.ty "int"))) (eChain dLe dLt (eC (.int 0)) (eV 0) (eV 1))))) 2
theorem ok_is_below {a_is_below : Addr} {d_is_below : FuncData} (G_is_below : Gd K mg "is_below" s_is_below N_is_below a_is_below d_is_below) (Tx : Txt P w K mg fs aP ad_CHOICES kv_CHOICES ad_TOLD kv_TOLD) : FnOk P w K mg base CX0 1 a_is_below d_is_below N_is_below (spP K (F1 w fs) r_is_below 2) := by
  have sc := sc_is_below
  refine zdef (F := F1 w fs) (N := ["value", "limit"]) G_is_below.fn sc fun cdv A outer s H E hr => ?_
  have hu := hr.units
  have hu2 := units80 hr
  let N : List Str := ["value", "limit"]
  exact (zlast (PSf (sRetF_eq _) (zret (zand (zcmp oisTy (ztype (by rfl) Tx.nb_type (zv 0)) (zty (by rfl) Tx.nb_int boot_int)) (zone (zchain oleF oltF zint (zv 0) (zv 1)))))))
/-! check_rule -/
abbrev s_check_rule : Stmt := top 19
abbrev N_check_rule : List Str := ["rule"]
theorem sc_check_rule : FnScope ["rule", "index", "number"] N_check_rule (defScope s_check_rule) := ⟨rfl, rfl, rfl, by decide +kernel, rfl, by decide +kernel, by decide +kernel⟩
def r_check_rule : List D → T D := runB (
    (sSeq (sIf (bOr (bNot (b1 (eIsi 4 (eV 0)))) (b1 (eInT true tb_CHOICES (eLen (lSeq (eV 0))))))
    sFail sNil)
    (sFor (lEnum (eV 0)) (g2E 1 2)
    (sIf (bNot (b1 (eCall r_is_below 2 (aC (eV 2) (aC (eIxT tb_CHOICES (eLen (lSeq (eV 0)))) aN)))))
    sFail sNil)))) 3
theorem ok_check_rule {a_check_rule : Addr} {d_check_rule : FuncData} (G_check_rule : Gd K mg "check_rule" s_check_rule N_check_rule a_check_rule d_check_rule) (Tx : Txt P w K mg fs aP ad_CHOICES kv_CHOICES ad_TOLD kv_TOLD) {a_is_below : Addr} {d_is_below : FuncData} (G_is_below : Gd K mg "is_below" s_is_below N_is_below a_is_below d_is_below) (O_is_below : FnOk P w K mg base CX0 1 a_is_below d_is_below N_is_below (spP K (F1 w fs) r_is_below 2)) : FnOk P w K mg base CX0 2 a_check_rule d_check_rule N_check_rule (spP K (F1 w fs) r_check_rule 1) := by
  have sc := sc_check_rule
  refine zdef (F := F1 w fs) (N := ["rule", "index", "number"]) G_check_rule.fn sc fun cdv A outer s H E hr => ?_
  have hu := hr.units
  have hu2 := units80 hr
  let N : List Str := ["rule", "index", "number"]
  exact (zcons (zifs (PW.pt (ztor (ztnot (ztv (zisi 4 rfl (by rfl) Tx.nb_isinstance (zv 0) (zty (by rfl) Tx.nb_tuple boot_tuple)))) (ztor1 (ztniT (by rfl) Tx.mg_CHOICES Tx.sd_CHOICES Tx.tb_CHOICES (zlen (by rfl) Tx.nb_len (PEseq (zv 0)))))))
    (zlast znever) znil)
    (zlast (zfor PassesOwn.never rfl (zienum (by rfl) Tx.nb_enumerate (zv 0)) (pg_tup rfl (pgs_cons (pg_name (i := 1) sc.nd rfl (by first | exact Or.inl rfl | exact Or.inr rfl)) (pgs_cons (pg_name (i := 2) sc.nd rfl (by first | exact Or.inl rfl | exact Or.inr rfl)) pgs_nil))) (TgRf (g2E_eq _ _) (zg_pair 1 2))
    (zlast (zifs (ztnot (ztv ((zcall O_is_below (hr.mono (by omega)) (by rfl) G_is_below.mg G_is_below.kp G_is_below.b (zac (zv 2) (zac (zixT (by rfl) Tx.mg_CHOICES Tx.sd_CHOICES Tx.tb_CHOICES (zlen (by rfl) Tx.nb_len (PEseq (zv 0)))) zan))))))
    (zlast znever) znil)))))
/-! is_order -/
abbrev s_is_order : Stmt := top 14
abbrev N_is_order : List Str := ["value", "many"]
theorem sc_is_order : FnScope ["value", "many", "thing"] N_is_order (defScope s_is_order) := ⟨rfl, rfl, rfl, by decide +kernel, rfl, by decide +kernel, by decide +kernel⟩
def r_is_order : List D → T D := runB (
    (sSeq (sIf (bOr (bNot (b1 (eIsi 4 (eV 0)))) (b1 (e2 dNeF (eLen (lSeq (eV 0))) (eV 1))))
    (sRet (eC (.bl false))) sNil)
    (sRetF (eAnd (eAll (nLc (lSeq (eV 0)) (gIX 2) bYes (eCall r_is_below 2 (aC (eV 2) (aC (eV 1) aN))) [2])) (e2 dEqF (eLenSet (eV 0)) (eV 1)))))) 3
theorem ok_is_order {a_is_order : Addr} {d_is_order : FuncData} (G_is_order : Gd K mg "is_order" s_is_order N_is_order a_is_order d_is_order) (Tx : Txt P w K mg fs aP ad_CHOICES kv_CHOICES ad_TOLD kv_TOLD) {a_is_below : Addr} {d_is_below : FuncData} (G_is_below : Gd K mg "is_below" s_is_below N_is_below a_is_below d_is_below) (O_is_below : FnOk P w K mg base CX0 1 a_is_below d_is_below N_is_below (spP K (F1 w fs) r_is_below 2)) : FnOk P w K mg base CX0 2 a_is_order d_is_order N_is_order (spP K (F1 w fs) r_is_order 2) := by
  have sc := sc_is_order
  refine zdef (F := F1 w fs) (N := ["value", "many", "thing"]) G_is_order.fn sc fun cdv A outer s H E hr => ?_
  have hu := hr.units
  have hu2 := units80 hr
  let N : List Str := ["value", "many", "thing"]
  exact (zcons (zifs (PW.pt (ztor (ztnot (ztv (zisi 4 rfl (by rfl) Tx.nb_isinstance (zv 0) (zty (by rfl) Tx.nb_tuple boot_tuple)))) (ztor1 (ztc (oneF hu) (zlen (by rfl) Tx.nb_len (PEseq (zv 0))) (zv 1)))))
    (zlast (zret zbl)) znil)
    (zlast (PSf (sRetF_eq _) (zret (zand (zall rfl (by rfl) Tx.nb_all (zlc rfl sc.nd (zis (zv 0)) (blkOk_by (own := [("thing", 2)]) (N := N) (sc := (defScope s_is_order)) (by first | decide +kernel | rfl | with_unfolding_all rfl)) (TgCf (gIX_eq _) (zgc_name (by decide))) (fun _ _ _ _ _ => (pg_name (i := 2) sc.nd rfl (by first | exact Or.inl rfl | exact Or.inr rfl))) (fun _ _ _ _ _ => ztyes) (fun _ _ _ _ _ => ((zcall O_is_below (hr.mono (by omega)) (by rfl) G_is_below.mg G_is_below.kp G_is_below.b (zac (zv 2) (zac (zv 1) zan))))))) (zone (zcmp (oeqF hu) (zlenSet (by rfl) Tx.nb_len (by rfl) Tx.nb_set (zv 0) rfl) (zv 1))))))))
/-! is_row -/
abbrev s_is_row : Stmt := top 16
abbrev N_is_row : List Str := ["value", "people"]
theorem sc_is_row : FnScope ["value", "people", "ranking"] N_is_row (defScope s_is_row) := ⟨rfl, rfl, rfl, by decide +kernel, rfl, by decide +kernel, by decide +kernel⟩
def r_is_row : List D → T D := runB (
    (sSeq (sIf (bOr (bNot (b1 (eIsi 4 (eV 0)))) (b1 (e2 dNeF (eLen (lSeq (eV 0))) (eV 1))))
    (sRet (eC (.bl false))) sNil)
    (sRetF (eAll (nLc (lSeq (eV 0)) (gIX 2) bYes (eCall r_is_order 2 (aC (eV 2) (aC (eV 1) aN))) [2]))))) 3
theorem ok_is_row {a_is_row : Addr} {d_is_row : FuncData} (G_is_row : Gd K mg "is_row" s_is_row N_is_row a_is_row d_is_row) (Tx : Txt P w K mg fs aP ad_CHOICES kv_CHOICES ad_TOLD kv_TOLD) {a_is_order : Addr} {d_is_order : FuncData} (G_is_order : Gd K mg "is_order" s_is_order N_is_order a_is_order d_is_order) (O_is_order : FnOk P w K mg base CX0 2 a_is_order d_is_order N_is_order (spP K (F1 w fs) r_is_order 2)) : FnOk P w K mg base CX0 3 a_is_row d_is_row N_is_row (spP K (F1 w fs) r_is_row 2) := by
  have sc := sc_is_row
  refine zdef (F := F1 w fs) (N := ["value", "people", "ranking"]) G_is_row.fn sc fun cdv A outer s H E hr => ?_
  have hu := hr.units
  have hu2 := units80 hr
  let N : List Str := ["value", "people", "ranking"]
  exact (zcons (zifs (PW.pt (ztor (ztnot (ztv (zisi 4 rfl (by rfl) Tx.nb_isinstance (zv 0) (zty (by rfl) Tx.nb_tuple boot_tuple)))) (ztor1 (ztc (oneF hu) (zlen (by rfl) Tx.nb_len (PEseq (zv 0))) (zv 1)))))
    (zlast (zret zbl)) znil)
    (zlast (PSf (sRetF_eq _) (zret (zall rfl (by rfl) Tx.nb_all (zlc rfl sc.nd (zis (zv 0)) (blkOk_by (own := [("ranking", 2)]) (N := N) (sc := (defScope s_is_row)) (by first | decide +kernel | rfl | with_unfolding_all rfl)) (TgCf (gIX_eq _) (zgc_name (by decide))) (fun _ _ _ _ _ => (pg_name (i := 2) sc.nd rfl (by first | exact Or.inl rfl | exact Or.inr rfl))) (fun _ _ _ _ _ => ztyes) (fun _ _ _ _ _ => ((zcall O_is_order (hr.mono (by omega)) (by rfl) G_is_order.mg G_is_order.kp G_is_order.b (zac (zv 2) (zac (zv 1) zan)))))))))))
/-! check_row -/
abbrev s_check_row : Stmt := top 17
abbrev N_check_row : List Str := ["row"]
theorem sc_check_row : FnScope ["row", "people"] N_check_row (defScope s_check_row) := ⟨rfl, rfl, rfl, by decide +kernel, rfl, by decide +kernel, by decide +kernel⟩
def r_check_row : List D → T D := runB (
    (sIf (bNot (b1 (eAny (nLc (lSeq (eC (.tup [.int 2, .int 3]))) (gIX 1) bYes (eCall r_is_row 2 (aC (eV 0) (aC (eV 1) aN))) [1]))))
    sFail sNil)) 2
theorem ok_check_row {a_check_row : Addr} {d_check_row : FuncData} (G_check_row : Gd K mg "check_row" s_check_row N_check_row a_check_row d_check_row) (Tx : Txt P w K mg fs aP ad_CHOICES kv_CHOICES ad_TOLD kv_TOLD) {a_is_row : Addr} {d_is_row : FuncData} (G_is_row : Gd K mg "is_row" s_is_row N_is_row a_is_row d_is_row) (O_is_row : FnOk P w K mg base CX0 3 a_is_row d_is_row N_is_row (spP K (F1 w fs) r_is_row 2)) : FnOk P w K mg base CX0 4 a_check_row d_check_row N_check_row (spP K (F1 w fs) r_check_row 1) := by
  have sc := sc_check_row
  refine zdef (F := F1 w fs) (N := ["row", "people"]) G_check_row.fn sc fun cdv A outer s H E hr => ?_
  have hu := hr.units
  have hu2 := units80 hr
  let N : List Str := ["row", "people"]
  exact (zlast (zifs (ztnot (ztv (zany rfl (by rfl) Tx.nb_any (zlc rfl sc.nd (zis (zgl (by rfl) Tx.mg_PEOPLE fun m H => Tx.rep_PEOPLE m H)) (blkOk_by (own := [("people", 1)]) (N := N) (sc := (defScope s_check_row)) (by first | decide +kernel | rfl | with_unfolding_all rfl)) (TgCf (gIX_eq _) (zgc_name (by decide))) (fun _ _ _ _ _ => (pg_name (i := 1) sc.nd rfl (by first | exact Or.inl rfl | exact Or.inr rfl))) (fun _ _ _ _ _ => ztyes) (fun _ _ _ _ _ => ((zcall O_is_row (hr.mono (by omega)) (by rfl) G_is_row.mg G_is_row.kp G_is_row.b (zac (zv 0) (zac (zv 1) zan)))))))))
    (zlast znever) znil))
/-! check_alike -/
abbrev s_check_alike : Stmt := top 20
abbrev N_check_alike : List Str := ["people", "others"]
theorem sc_check_alike : FnScope ["people", "others"] N_check_alike (defScope s_check_alike) := ⟨rfl, rfl, rfl, by decide +kernel, rfl, by decide +kernel, by decide +kernel⟩
def r_check_alike : List D → T D := runB (
    (sIf (b1 (e2 dNeF (eV 0) (eV 1)))
    sFail sNil)) 2
theorem ok_check_alike {a_check_alike : Addr} {d_check_alike : FuncData} (G_check_alike : Gd K mg "check_alike" s_check_alike N_check_alike a_check_alike d_check_alike) (Tx : Txt P w K mg fs aP ad_CHOICES kv_CHOICES ad_TOLD kv_TOLD) : FnOk P w K mg base CX0 1 a_check_alike d_check_alike N_check_alike (spP K (F1 w fs) r_check_alike 2) := by
  have sc := sc_check_alike
  refine zdef (F := F1 w fs) (N := ["people", "others"]) G_check_alike.fn sc fun cdv A outer s H E hr => ?_
  have hu := hr.units
  have hu2 := units80 hr
  let N : List Str := ["people", "others"]
  exact (zlast (zifs (ztc (oneF hu) (zv 0) (zv 1))
    (zlast znever) znil))
/-! check_person -/
abbrev s_check_person : Stmt := top 21
abbrev N_check_person : List Str := ["person", "people"]
theorem sc_check_person : FnScope ["person", "people"] N_check_person (defScope s_check_person) := ⟨rfl, rfl, rfl, by decide +kernel, rfl, by decide +kernel, by decide +kernel⟩
def r_check_person : List D → T D := runB (
    (sIf (bNot (b1 (eCall r_is_below 2 (aC (eV 0) (aC (eV 1) aN)))))
    sFail sNil)) 2
theorem ok_check_person {a_check_person : Addr} {d_check_person : FuncData} (G_check_person : Gd K mg "check_person" s_check_person N_check_person a_check_person d_check_person) (Tx : Txt P w K mg fs aP ad_CHOICES kv_CHOICES ad_TOLD kv_TOLD) {a_is_below : Addr} {d_is_below : FuncData} (G_is_below : Gd K mg "is_below" s_is_below N_is_below a_is_below d_is_below) (O_is_below : FnOk P w K mg base CX0 1 a_is_below d_is_below N_is_below (spP K (F1 w fs) r_is_below 2)) : FnOk P w K mg base CX0 2 a_check_person d_check_person N_check_person (spP K (F1 w fs) r_check_person 2) := by
  have sc := sc_check_person
  refine zdef (F := F1 w fs) (N := ["person", "people"]) G_check_person.fn sc fun cdv A outer s H E hr => ?_
  have hu := hr.units
  have hu2 := units80 hr
  let N : List Str := ["person", "people"]
  exact (zlast (zifs (ztnot (ztv ((zcall O_is_below (hr.mono (by omega)) (by rfl) G_is_below.mg G_is_below.kp G_is_below.b (zac (zv 0) (zac (zv 1) zan))))))
    (zlast znever) znil))
/-! count_people -/
abbrev s_count_people : Stmt := top 33
abbrev N_count_people : List Str := ["rule"]
theorem sc_count_people : FnScope ["rule"] N_count_people (defScope s_count_people) := ⟨rfl, rfl, rfl, by decide +kernel, rfl, by decide +kernel, by decide +kernel⟩
def r_count_people : List D → T D := runB (
    (sSeq (sDrop (eCall r_check_rule 1 (aC (eV 0) aN)))
    (sRetF (eIf (b1 (e2 dEqF (eLen (lSeq (eV 0))) (eC (.int 4)))) (eC (.int 2)) (eC (.int 3)))))) 1
theorem ok_count_people {a_count_people : Addr} {d_count_people : FuncData} (G_count_people : Gd K mg "count_people" s_count_people N_count_people a_count_people d_count_people) (Tx : Txt P w K mg fs aP ad_CHOICES kv_CHOICES ad_TOLD kv_TOLD) {a_check_rule : Addr} {d_check_rule : FuncData} (G_check_rule : Gd K mg "check_rule" s_check_rule N_check_rule a_check_rule d_check_rule) (O_check_rule : FnOk P w K mg base CX0 2 a_check_rule d_check_rule N_check_rule (spP K (F1 w fs) r_check_rule 1)) : FnOk P w K mg base CX0 3 a_count_people d_count_people N_count_people (spP K (F1 w fs) r_count_people 1) := by
  have sc := sc_count_people
  refine zdef (F := F1 w fs) (N := ["rule"]) G_count_people.fn sc fun cdv A outer s H E hr => ?_
  have hu := hr.units
  have hu2 := units80 hr
  let N : List Str := ["rule"]
  exact (zcons (zdrop ((zcall O_check_rule (hr.mono (by omega)) (by rfl) G_check_rule.mg G_check_rule.kp G_check_rule.b (zac (zv 0) zan))))
    (zlast (PSf (sRetF_eq _) (zret (zif (ztc (oeqF hu) (zlen (by rfl) Tx.nb_len (PEseq (zv 0))) zint) zint zint)))))
/-! check_people -/
abbrev s_check_people : Stmt := top 15
abbrev N_check_people : List Str := ["people"]
theorem sc_check_people : FnScope ["people"] N_check_people (defScope s_check_people) := ⟨rfl, rfl, rfl, by decide +kernel, rfl, by decide +kernel, by decide +kernel⟩
def r_check_people : List D → T D := runB (
    (sIf (bOr (b1 (e2 dIsNotTy (e1 dTy (eV 0)) (eC (.ty "int")))) (b1 (eInF true (eV 0) (lSeq (eC (.tup [.int 2, .int 3]))))))
    sFail sNil)) 1
theorem ok_check_people {a_check_people : Addr} {d_check_people : FuncData} (G_check_people : Gd K mg "check_people" s_check_people N_check_people a_check_people d_check_people) (Tx : Txt P w K mg fs aP ad_CHOICES kv_CHOICES ad_TOLD kv_TOLD) : FnOk P w K mg base CX0 1 a_check_people d_check_people N_check_people (spP K (F1 w fs) r_check_people 1) := by
  have sc := sc_check_people
  refine zdef (F := F1 w fs) (N := ["people"]) G_check_people.fn sc fun cdv A outer s H E hr => ?_
  have hu := hr.units
  have hu2 := units80 hr
  let N : List Str := ["people"]
  exact (zlast (zifs (PW.pt (ztor (ztc oisNotTy (ztype (by rfl) Tx.nb_type (zv 0)) (zty (by rfl) Tx.nb_int boot_int)) (ztor1 (PTf (eInF_eq _ _ _) (ztni (zv 0) (PEseq (zgl (by rfl) Tx.mg_PEOPLE fun m H => Tx.rep_PEOPLE m H)))))))
    (zlast znever) znil))
/-! dealings -/
abbrev s_dealings : Stmt := top 23
abbrev N_dealings : List Str := ["people"]
theorem sc_dealings : FnScope ["people"] N_dealings (defScope s_dealings) := ⟨rfl, rfl, rfl, by decide +kernel, rfl, by decide +kernel, by decide +kernel⟩
def r_dealings : List D → T D := runB (
    (sSeq (sDrop (eCall r_check_people 1 (aC (eV 0) aN)))
    (sRetF (e1 permD (eV 0))))) 1
def c_dealings_0 : D := .tup [.tup [i0, i1], .tup [i1, i0]]
theorem e_dealings_0 : r_dealings [.int (.ofNat 2)] = .ret c_dealings_0 := by kernel_rfl
def c_dealings_1 : D := .tup [.tup [i0, i1, i2], .tup [i0, i2, i1], .tup [i1, i0, i2], .tup [i1, i2, i0], .tup [i2, i0, i1], .tup [i2, i1, i0]]
theorem e_dealings_1 : r_dealings [.int (.ofNat 3)] = .ret c_dealings_1 := by kernel_rfl
def m_dealings : List D → T D
  | [.int (.ofNat 2)] => .ret c_dealings_0
  | [.int (.ofNat 3)] => .ret c_dealings_1
  | x => r_dealings x
theorem m_dealings_eq : m_dealings = r_dealings := by
  funext x
  unfold m_dealings
  split
  · exact (e_dealings_0).symm
  · exact (e_dealings_1).symm
  · rfl
theorem ok_dealings {a_dealings : Addr} {d_dealings : FuncData} (G_dealings : Gd K mg "dealings" s_dealings N_dealings a_dealings d_dealings) (Tx : Txt P w K mg fs aP ad_CHOICES kv_CHOICES ad_TOLD kv_TOLD) {a_check_people : Addr} {d_check_people : FuncData} (G_check_people : Gd K mg "check_people" s_check_people N_check_people a_check_people d_check_people) (O_check_people : FnOk P w K mg base CX0 1 a_check_people d_check_people N_check_people (spP K (F1 w fs) r_check_people 1)) : FnOk P w K mg base CX0 2 a_dealings d_dealings N_dealings (spP K (F1 w fs) m_dealings 1) := by
  have sc := sc_dealings
  rw [m_dealings_eq]
  refine zdef (F := F1 w fs) (N := ["people"]) G_dealings.fn sc fun cdv A outer s H E hr => ?_
  have hu := hr.units
  have hu2 := units80 hr
  let N : List Str := ["people"]
  exact (zcons (zdrop ((zcall O_check_people (hr.mono (by omega)) (by rfl) G_check_people.mg G_check_people.kp G_check_people.b (zac (zv 0) zan))))
    (zlast (PSf (sRetF_eq _) (zret (zperm rfl (by rfl) Tx.nb_tuple (by rfl) Tx.mg_permutations (by rfl) Tx.nb_range (zv 0))))))
/-! rows_of -/
abbrev s_rows_of : Stmt := top 25
abbrev N_rows_of : List Str := ["choices"]
theorem sc_rows_of : FnScope ["choices", "found", "rankings", "row", "ranking"] N_rows_of (defScope s_rows_of) := ⟨rfl, rfl, rfl, by decide +kernel, rfl, by decide +kernel, by decide +kernel⟩
def r_rows_of : List D → T D := runB (
    (sSeq (sSetV 1 (lst (nL (aC (eT aN) aN))))
    (sSeq (sFor (lSeq (eV 0)) (gIX 2)
    (sSetV 1 (lst (nLc2 (lSeq (eV 1)) (gIX 3) bYes (lSeq (eV 2)) (gIX 4) bYes (e2 dPlus (eV 3) (eT (aC (eV 4) aN))) [3, 4] [4]))))
    (sRet (eV 1))))) 5
theorem ok_rows_of {a_rows_of : Addr} {d_rows_of : FuncData} (G_rows_of : Gd K mg "rows_of" s_rows_of N_rows_of a_rows_of d_rows_of) (Tx : Txt P w K mg fs aP ad_CHOICES kv_CHOICES ad_TOLD kv_TOLD) : FnOk P w K mg base CX0 1 a_rows_of d_rows_of N_rows_of (spP K (F1 w fs) r_rows_of 1) := by
  have sc := sc_rows_of
  refine zdef (F := F1 w fs) (N := ["choices", "found", "rankings", "row", "ranking"]) G_rows_of.fn sc fun cdv A outer s H E hr => ?_
  have hu := hr.units
  have hu2 := units80 hr
  let N : List Str := ["choices", "found", "rankings", "row", "ranking"]
  exact (zcons (PSf (sSetV_eq _ _) (zset (i := 1) sc.nd rfl (by first | exact Or.inl rfl | exact Or.inr rfl) (PEnl (zl (zac (zt zan) zan)))))
    (zcons (zfor PassesOwn.never rfl (zis (zv 0)) (pg_name (i := 2) sc.nd rfl (by first | exact Or.inl rfl | exact Or.inr rfl)) (TgRf (gIX_eq _) (zg_name 2))
    (zlast (PSf (sSetV_eq _ _) (zsetLc2 (i := 1) (vs1 := [4]) rfl sc.nd rfl rfl (zis (zv 1)) (blkOk_by (own := [("row", 3), ("ranking", 4)]) (N := N) (sc := (defScope s_rows_of)) (by first | decide +kernel | rfl | with_unfolding_all rfl)) (by decide) (TgCf (gIX_eq _) (zgc_name (by decide))) (TgCf (gIX_eq _) (zgc_name (by decide))) (fun _ _ _ _ _ => (pg_name (i := 3) sc.nd rfl (by first | exact Or.inl rfl | exact Or.inr rfl))) (fun _ _ _ _ _ => ztyes) (fun _ _ _ _ _ => (zis (zv 2))) (fun _ _ _ _ _ => (pg_name (i := 4) sc.nd rfl (by first | exact Or.inl rfl | exact Or.inr rfl))) (fun _ _ _ _ _ => ztyes) (fun _ _ _ _ _ => (zop oplus (zv 3) (zt (zac (zv 4) zan)))) (sw_true rfl rfl rfl (by decide +kernel))))))
    (zlast (zret (zv 1)))))
/-! rows -/
abbrev s_rows : Stmt := top 24
abbrev N_rows : List Str := ["people"]
theorem sc_rows : FnScope ["people"] N_rows (defScope s_rows) := ⟨rfl, rfl, rfl, by decide +kernel, rfl, by decide +kernel, by decide +kernel⟩
def r_rows : List D → T D := runB (
    (sRetF (eTupOf (lSeq (eCall r_rows_of 1 (aCF (lst (nRep (lst (nL (aC (lst (lSeq (eCall m_dealings 1 (aC (eV 0) aN)))) aN))) (eV 0))) aN)))))) 1
def c_rows_0 : D := .tup [.tup [.tup [i0, i1], .tup [i0, i1]], .tup [.tup [i0, i1], .tup [i1, i0]], .tup [.tup [i1, i0], .tup [i0, i1]], .tup [.tup [i1, i0], .tup [i1, i0]]]
theorem e_rows_0 : r_rows [.int (.ofNat 2)] = .ret c_rows_0 := by kernel_rfl
def c_rows_1 : D := .tup [.tup [.tup [i0, i1, i2], .tup [i0, i1, i2], .tup [i0, i1, i2]], .tup [.tup [i0, i1, i2], .tup [i0, i1, i2], .tup [i0, i2, i1]], .tup [.tup [i0, i1, i2], .tup [i0, i1, i2], .tup [i1, i0, i2]], .tup [.tup [i0, i1, i2], .tup [i0, i1, i2], .tup [i1, i2, i0]], .tup [.tup [i0, i1, i2], .tup [i0, i1, i2], .tup [i2, i0, i1]], .tup [.tup [i0, i1, i2], .tup [i0, i1, i2], .tup [i2, i1, i0]], .tup [.tup [i0, i1, i2], .tup [i0, i2, i1], .tup [i0, i1, i2]], .tup [.tup [i0, i1, i2], .tup [i0, i2, i1], .tup [i0, i2, i1]], .tup [.tup [i0, i1, i2], .tup [i0, i2, i1], .tup [i1, i0, i2]], .tup [.tup [i0, i1, i2], .tup [i0, i2, i1], .tup [i1, i2, i0]], .tup [.tup [i0, i1, i2], .tup [i0, i2, i1], .tup [i2, i0, i1]], .tup [.tup [i0, i1, i2], .tup [i0, i2, i1], .tup [i2, i1, i0]], .tup [.tup [i0, i1, i2], .tup [i1, i0, i2], .tup [i0, i1, i2]], .tup [.tup [i0, i1, i2], .tup [i1, i0, i2], .tup [i0, i2, i1]], .tup [.tup [i0, i1, i2], .tup [i1, i0, i2], .tup [i1, i0, i2]], .tup [.tup [i0, i1, i2], .tup [i1, i0, i2], .tup [i1, i2, i0]], .tup [.tup [i0, i1, i2], .tup [i1, i0, i2], .tup [i2, i0, i1]], .tup [.tup [i0, i1, i2], .tup [i1, i0, i2], .tup [i2, i1, i0]], .tup [.tup [i0, i1, i2], .tup [i1, i2, i0], .tup [i0, i1, i2]], .tup [.tup [i0, i1, i2], .tup [i1, i2, i0], .tup [i0, i2, i1]], .tup [.tup [i0, i1, i2], .tup [i1, i2, i0], .tup [i1, i0, i2]], .tup [.tup [i0, i1, i2], .tup [i1, i2, i0], .tup [i1, i2, i0]], .tup [.tup [i0, i1, i2], .tup [i1, i2, i0], .tup [i2, i0, i1]], .tup [.tup [i0, i1, i2], .tup [i1, i2, i0], .tup [i2, i1, i0]], .tup [.tup [i0, i1, i2], .tup [i2, i0, i1], .tup [i0, i1, i2]], .tup [.tup [i0, i1, i2], .tup [i2, i0, i1], .tup [i0, i2, i1]], .tup [.tup [i0, i1, i2], .tup [i2, i0, i1], .tup [i1, i0, i2]], .tup [.tup [i0, i1, i2], .tup [i2, i0, i1], .tup [i1, i2, i0]], .tup [.tup [i0, i1, i2], .tup [i2, i0, i1], .tup [i2, i0, i1]], .tup [.tup [i0, i1, i2], .tup [i2, i0, i1], .tup [i2, i1, i0]], .tup [.tup [i0, i1, i2], .tup [i2, i1, i0], .tup [i0, i1, i2]], .tup [.tup [i0, i1, i2], .tup [i2, i1, i0], .tup [i0, i2, i1]], .tup [.tup [i0, i1, i2], .tup [i2, i1, i0], .tup [i1, i0, i2]], .tup [.tup [i0, i1, i2], .tup [i2, i1, i0], .tup [i1, i2, i0]], .tup [.tup [i0, i1, i2], .tup [i2, i1, i0], .tup [i2, i0, i1]], .tup [.tup [i0, i1, i2], .tup [i2, i1, i0], .tup [i2, i1, i0]], .tup [.tup [i0, i2, i1], .tup [i0, i1, i2], .tup [i0, i1, i2]], .tup [.tup [i0, i2, i1], .tup [i0, i1, i2], .tup [i0, i2, i1]], .tup [.tup [i0, i2, i1], .tup [i0, i1, i2], .tup [i1, i0, i2]], .tup [.tup [i0, i2, i1], .tup [i0, i1, i2], .tup [i1, i2, i0]], .tup [.tup [i0, i2, i1], .tup [i0, i1, i2], .tup [i2, i0, i1]], .tup [.tup [i0, i2, i1], .tup [i0, i1, i2], .tup [i2, i1, i0]], .tup [.tup [i0, i2, i1], .tup [i0, i2, i1], .tup [i0, i1, i2]], .tup [.tup [i0, i2, i1], .tup [i0, i2, i1], .tup [i0, i2, i1]], .tup [.tup [i0, i2, i1], .tup [i0, i2, i1], .tup [i1, i0, i2]], .tup [.tup [i0, i2, i1], .tup [i0, i2, i1], .tup [i1, i2, i0]], .tup [.tup [i0, i2, i1], .tup [i0, i2, i1], .tup [i2, i0, i1]], .tup [.tup [i0, i2, i1], .tup [i0, i2, i1], .tup [i2, i1, i0]], .tup [.tup [i0, i2, i1], .tup [i1, i0, i2], .tup [i0, i1, i2]], .tup [.tup [i0, i2, i1], .tup [i1, i0, i2], .tup [i0, i2, i1]], .tup [.tup [i0, i2, i1], .tup [i1, i0, i2], .tup [i1, i0, i2]], .tup [.tup [i0, i2, i1], .tup [i1, i0, i2], .tup [i1, i2, i0]], .tup [.tup [i0, i2, i1], .tup [i1, i0, i2], .tup [i2, i0, i1]], .tup [.tup [i0, i2, i1], .tup [i1, i0, i2], .tup [i2, i1, i0]], .tup [.tup [i0, i2, i1], .tup [i1, i2, i0], .tup [i0, i1, i2]], .tup [.tup [i0, i2, i1], .tup [i1, i2, i0], .tup [i0, i2, i1]], .tup [.tup [i0, i2, i1], .tup [i1, i2, i0], .tup [i1, i0, i2]], .tup [.tup [i0, i2, i1], .tup [i1, i2, i0], .tup [i1, i2, i0]], .tup [.tup [i0, i2, i1], .tup [i1, i2, i0], .tup [i2, i0, i1]], .tup [.tup [i0, i2, i1], .tup [i1, i2, i0], .tup [i2, i1, i0]], .tup [.tup [i0, i2, i1], .tup [i2, i0, i1], .tup [i0, i1, i2]], .tup [.tup [i0, i2, i1], .tup [i2, i0, i1], .tup [i0, i2, i1]], .tup [.tup [i0, i2, i1], .tup [i2, i0, i1], .tup [i1, i0, i2]], .tup [.tup [i0, i2, i1], .tup [i2, i0, i1], .tup [i1, i2, i0]], .tup [.tup [i0, i2, i1], .tup [i2, i0, i1], .tup [i2, i0, i1]], .tup [.tup [i0, i2, i1], .tup [i2, i0, i1], .tup [i2, i1, i0]], .tup [.tup [i0, i2, i1], .tup [i2, i1, i0], .tup [i0, i1, i2]], .tup [.tup [i0, i2, i1], .tup [i2, i1, i0], .tup [i0, i2, i1]], .tup [.tup [i0, i2, i1], .tup [i2, i1, i0], .tup [i1, i0, i2]], .tup [.tup [i0, i2, i1], .tup [i2, i1, i0], .tup [i1, i2, i0]], .tup [.tup [i0, i2, i1], .tup [i2, i1, i0], .tup [i2, i0, i1]], .tup [.tup [i0, i2, i1], .tup [i2, i1, i0], .tup [i2, i1, i0]], .tup [.tup [i1, i0, i2], .tup [i0, i1, i2], .tup [i0, i1, i2]], .tup [.tup [i1, i0, i2], .tup [i0, i1, i2], .tup [i0, i2, i1]], .tup [.tup [i1, i0, i2], .tup [i0, i1, i2], .tup [i1, i0, i2]], .tup [.tup [i1, i0, i2], .tup [i0, i1, i2], .tup [i1, i2, i0]], .tup [.tup [i1, i0, i2], .tup [i0, i1, i2], .tup [i2, i0, i1]], .tup [.tup [i1, i0, i2], .tup [i0, i1, i2], .tup [i2, i1, i0]], .tup [.tup [i1, i0, i2], .tup [i0, i2, i1], .tup [i0, i1, i2]], .tup [.tup [i1, i0, i2], .tup [i0, i2, i1], .tup [i0, i2, i1]], .tup [.tup [i1, i0, i2], .tup [i0, i2, i1], .tup [i1, i0, i2]], .tup [.tup [i1, i0, i2], .tup [i0, i2, i1], .tup [i1, i2, i0]], .tup [.tup [i1, i0, i2], .tup [i0, i2, i1], .tup [i2, i0, i1]], .tup [.tup [i1, i0, i2], .tup [i0, i2, i1], .tup [i2, i1, i0]], .tup [.tup [i1, i0, i2], .tup [i1, i0, i2], .tup [i0, i1, i2]], .tup [.tup [i1, i0, i2], .tup [i1, i0, i2], .tup [i0, i2, i1]], .tup [.tup [i1, i0, i2], .tup [i1, i0, i2], .tup [i1, i0, i2]], .tup [.tup [i1, i0, i2], .tup [i1, i0, i2], .tup [i1, i2, i0]], .tup [.tup [i1, i0, i2], .tup [i1, i0, i2], .tup [i2, i0, i1]], .tup [.tup [i1, i0, i2], .tup [i1, i0, i2], .tup [i2, i1, i0]], .tup [.tup [i1, i0, i2], .tup [i1, i2, i0], .tup [i0, i1, i2]], .tup [.tup [i1, i0, i2], .tup [i1, i2, i0], .tup [i0, i2, i1]], .tup [.tup [i1, i0, i2], .tup [i1, i2, i0], .tup [i1, i0, i2]], .tup [.tup [i1, i0, i2], .tup [i1, i2, i0], .tup [i1, i2, i0]], .tup [.tup [i1, i0, i2], .tup [i1, i2, i0], .tup [i2, i0, i1]], .tup [.tup [i1, i0, i2], .tup [i1, i2, i0], .tup [i2, i1, i0]], .tup [.tup [i1, i0, i2], .tup [i2, i0, i1], .tup [i0, i1, i2]], .tup [.tup [i1, i0, i2], .tup [i2, i0, i1], .tup [i0, i2, i1]], .tup [.tup [i1, i0, i2], .tup [i2, i0, i1], .tup [i1, i0, i2]], .tup [.tup [i1, i0, i2], .tup [i2, i0, i1], .tup [i1, i2, i0]], .tup [.tup [i1, i0, i2], .tup [i2, i0, i1], .tup [i2, i0, i1]], .tup [.tup [i1, i0, i2], .tup [i2, i0, i1], .tup [i2, i1, i0]], .tup [.tup [i1, i0, i2], .tup [i2, i1, i0], .tup [i0, i1, i2]], .tup [.tup [i1, i0, i2], .tup [i2, i1, i0], .tup [i0, i2, i1]], .tup [.tup [i1, i0, i2], .tup [i2, i1, i0], .tup [i1, i0, i2]], .tup [.tup [i1, i0, i2], .tup [i2, i1, i0], .tup [i1, i2, i0]], .tup [.tup [i1, i0, i2], .tup [i2, i1, i0], .tup [i2, i0, i1]], .tup [.tup [i1, i0, i2], .tup [i2, i1, i0], .tup [i2, i1, i0]], .tup [.tup [i1, i2, i0], .tup [i0, i1, i2], .tup [i0, i1, i2]], .tup [.tup [i1, i2, i0], .tup [i0, i1, i2], .tup [i0, i2, i1]], .tup [.tup [i1, i2, i0], .tup [i0, i1, i2], .tup [i1, i0, i2]], .tup [.tup [i1, i2, i0], .tup [i0, i1, i2], .tup [i1, i2, i0]], .tup [.tup [i1, i2, i0], .tup [i0, i1, i2], .tup [i2, i0, i1]], .tup [.tup [i1, i2, i0], .tup [i0, i1, i2], .tup [i2, i1, i0]], .tup [.tup [i1, i2, i0], .tup [i0, i2, i1], .tup [i0, i1, i2]], .tup [.tup [i1, i2, i0], .tup [i0, i2, i1], .tup [i0, i2, i1]], .tup [.tup [i1, i2, i0], .tup [i0, i2, i1], .tup [i1, i0, i2]], .tup [.tup [i1, i2, i0], .tup [i0, i2, i1], .tup [i1, i2, i0]], .tup [.tup [i1, i2, i0], .tup [i0, i2, i1], .tup [i2, i0, i1]], .tup [.tup [i1, i2, i0], .tup [i0, i2, i1], .tup [i2, i1, i0]], .tup [.tup [i1, i2, i0], .tup [i1, i0, i2], .tup [i0, i1, i2]], .tup [.tup [i1, i2, i0], .tup [i1, i0, i2], .tup [i0, i2, i1]], .tup [.tup [i1, i2, i0], .tup [i1, i0, i2], .tup [i1, i0, i2]], .tup [.tup [i1, i2, i0], .tup [i1, i0, i2], .tup [i1, i2, i0]], .tup [.tup [i1, i2, i0], .tup [i1, i0, i2], .tup [i2, i0, i1]], .tup [.tup [i1, i2, i0], .tup [i1, i0, i2], .tup [i2, i1, i0]], .tup [.tup [i1, i2, i0], .tup [i1, i2, i0], .tup [i0, i1, i2]], .tup [.tup [i1, i2, i0], .tup [i1, i2, i0], .tup [i0, i2, i1]], .tup [.tup [i1, i2, i0], .tup [i1, i2, i0], .tup [i1, i0, i2]], .tup [.tup [i1, i2, i0], .tup [i1, i2, i0], .tup [i1, i2, i0]], .tup [.tup [i1, i2, i0], .tup [i1, i2, i0], .tup [i2, i0, i1]], .tup [.tup [i1, i2, i0], .tup [i1, i2, i0], .tup [i2, i1, i0]], .tup [.tup [i1, i2, i0], .tup [i2, i0, i1], .tup [i0, i1, i2]], .tup [.tup [i1, i2, i0], .tup [i2, i0, i1], .tup [i0, i2, i1]], .tup [.tup [i1, i2, i0], .tup [i2, i0, i1], .tup [i1, i0, i2]], .tup [.tup [i1, i2, i0], .tup [i2, i0, i1], .tup [i1, i2, i0]], .tup [.tup [i1, i2, i0], .tup [i2, i0, i1], .tup [i2, i0, i1]], .tup [.tup [i1, i2, i0], .tup [i2, i0, i1], .tup [i2, i1, i0]], .tup [.tup [i1, i2, i0], .tup [i2, i1, i0], .tup [i0, i1, i2]], .tup [.tup [i1, i2, i0], .tup [i2, i1, i0], .tup [i0, i2, i1]], .tup [.tup [i1, i2, i0], .tup [i2, i1, i0], .tup [i1, i0, i2]], .tup [.tup [i1, i2, i0], .tup [i2, i1, i0], .tup [i1, i2, i0]], .tup [.tup [i1, i2, i0], .tup [i2, i1, i0], .tup [i2, i0, i1]], .tup [.tup [i1, i2, i0], .tup [i2, i1, i0], .tup [i2, i1, i0]], .tup [.tup [i2, i0, i1], .tup [i0, i1, i2], .tup [i0, i1, i2]], .tup [.tup [i2, i0, i1], .tup [i0, i1, i2], .tup [i0, i2, i1]], .tup [.tup [i2, i0, i1], .tup [i0, i1, i2], .tup [i1, i0, i2]], .tup [.tup [i2, i0, i1], .tup [i0, i1, i2], .tup [i1, i2, i0]], .tup [.tup [i2, i0, i1], .tup [i0, i1, i2], .tup [i2, i0, i1]], .tup [.tup [i2, i0, i1], .tup [i0, i1, i2], .tup [i2, i1, i0]], .tup [.tup [i2, i0, i1], .tup [i0, i2, i1], .tup [i0, i1, i2]], .tup [.tup [i2, i0, i1], .tup [i0, i2, i1], .tup [i0, i2, i1]], .tup [.tup [i2, i0, i1], .tup [i0, i2, i1], .tup [i1, i0, i2]], .tup [.tup [i2, i0, i1], .tup [i0, i2, i1], .tup [i1, i2, i0]], .tup [.tup [i2, i0, i1], .tup [i0, i2, i1], .tup [i2, i0, i1]], .tup [.tup [i2, i0, i1], .tup [i0, i2, i1], .tup [i2, i1, i0]], .tup [.tup [i2, i0, i1], .tup [i1, i0, i2], .tup [i0, i1, i2]], .tup [.tup [i2, i0, i1], .tup [i1, i0, i2], .tup [i0, i2, i1]], .tup [.tup [i2, i0, i1], .tup [i1, i0, i2], .tup [i1, i0, i2]], .tup [.tup [i2, i0, i1], .tup [i1, i0, i2], .tup [i1, i2, i0]], .tup [.tup [i2, i0, i1], .tup [i1, i0, i2], .tup [i2, i0, i1]], .tup [.tup [i2, i0, i1], .tup [i1, i0, i2], .tup [i2, i1, i0]], .tup [.tup [i2, i0, i1], .tup [i1, i2, i0], .tup [i0, i1, i2]], .tup [.tup [i2, i0, i1], .tup [i1, i2, i0], .tup [i0, i2, i1]], .tup [.tup [i2, i0, i1], .tup [i1, i2, i0], .tup [i1, i0, i2]], .tup [.tup [i2, i0, i1], .tup [i1, i2, i0], .tup [i1, i2, i0]], .tup [.tup [i2, i0, i1], .tup [i1, i2, i0], .tup [i2, i0, i1]], .tup [.tup [i2, i0, i1], .tup [i1, i2, i0], .tup [i2, i1, i0]], .tup [.tup [i2, i0, i1], .tup [i2, i0, i1], .tup [i0, i1, i2]], .tup [.tup [i2, i0, i1], .tup [i2, i0, i1], .tup [i0, i2, i1]], .tup [.tup [i2, i0, i1], .tup [i2, i0, i1], .tup [i1, i0, i2]], .tup [.tup [i2, i0, i1], .tup [i2, i0, i1], .tup [i1, i2, i0]], .tup [.tup [i2, i0, i1], .tup [i2, i0, i1], .tup [i2, i0, i1]], .tup [.tup [i2, i0, i1], .tup [i2, i0, i1], .tup [i2, i1, i0]], .tup [.tup [i2, i0, i1], .tup [i2, i1, i0], .tup [i0, i1, i2]], .tup [.tup [i2, i0, i1], .tup [i2, i1, i0], .tup [i0, i2, i1]], .tup [.tup [i2, i0, i1], .tup [i2, i1, i0], .tup [i1, i0, i2]], .tup [.tup [i2, i0, i1], .tup [i2, i1, i0], .tup [i1, i2, i0]], .tup [.tup [i2, i0, i1], .tup [i2, i1, i0], .tup [i2, i0, i1]], .tup [.tup [i2, i0, i1], .tup [i2, i1, i0], .tup [i2, i1, i0]], .tup [.tup [i2, i1, i0], .tup [i0, i1, i2], .tup [i0, i1, i2]], .tup [.tup [i2, i1, i0], .tup [i0, i1, i2], .tup [i0, i2, i1]], .tup [.tup [i2, i1, i0], .tup [i0, i1, i2], .tup [i1, i0, i2]], .tup [.tup [i2, i1, i0], .tup [i0, i1, i2], .tup [i1, i2, i0]], .tup [.tup [i2, i1, i0], .tup [i0, i1, i2], .tup [i2, i0, i1]], .tup [.tup [i2, i1, i0], .tup [i0, i1, i2], .tup [i2, i1, i0]], .tup [.tup [i2, i1, i0], .tup [i0, i2, i1], .tup [i0, i1, i2]], .tup [.tup [i2, i1, i0], .tup [i0, i2, i1], .tup [i0, i2, i1]], .tup [.tup [i2, i1, i0], .tup [i0, i2, i1], .tup [i1, i0, i2]], .tup [.tup [i2, i1, i0], .tup [i0, i2, i1], .tup [i1, i2, i0]], .tup [.tup [i2, i1, i0], .tup [i0, i2, i1], .tup [i2, i0, i1]], .tup [.tup [i2, i1, i0], .tup [i0, i2, i1], .tup [i2, i1, i0]], .tup [.tup [i2, i1, i0], .tup [i1, i0, i2], .tup [i0, i1, i2]], .tup [.tup [i2, i1, i0], .tup [i1, i0, i2], .tup [i0, i2, i1]], .tup [.tup [i2, i1, i0], .tup [i1, i0, i2], .tup [i1, i0, i2]], .tup [.tup [i2, i1, i0], .tup [i1, i0, i2], .tup [i1, i2, i0]], .tup [.tup [i2, i1, i0], .tup [i1, i0, i2], .tup [i2, i0, i1]], .tup [.tup [i2, i1, i0], .tup [i1, i0, i2], .tup [i2, i1, i0]], .tup [.tup [i2, i1, i0], .tup [i1, i2, i0], .tup [i0, i1, i2]], .tup [.tup [i2, i1, i0], .tup [i1, i2, i0], .tup [i0, i2, i1]], .tup [.tup [i2, i1, i0], .tup [i1, i2, i0], .tup [i1, i0, i2]], .tup [.tup [i2, i1, i0], .tup [i1, i2, i0], .tup [i1, i2, i0]], .tup [.tup [i2, i1, i0], .tup [i1, i2, i0], .tup [i2, i0, i1]], .tup [.tup [i2, i1, i0], .tup [i1, i2, i0], .tup [i2, i1, i0]], .tup [.tup [i2, i1, i0], .tup [i2, i0, i1], .tup [i0, i1, i2]], .tup [.tup [i2, i1, i0], .tup [i2, i0, i1], .tup [i0, i2, i1]], .tup [.tup [i2, i1, i0], .tup [i2, i0, i1], .tup [i1, i0, i2]], .tup [.tup [i2, i1, i0], .tup [i2, i0, i1], .tup [i1, i2, i0]], .tup [.tup [i2, i1, i0], .tup [i2, i0, i1], .tup [i2, i0, i1]], .tup [.tup [i2, i1, i0], .tup [i2, i0, i1], .tup [i2, i1, i0]], .tup [.tup [i2, i1, i0], .tup [i2, i1, i0], .tup [i0, i1, i2]], .tup [.tup [i2, i1, i0], .tup [i2, i1, i0], .tup [i0, i2, i1]], .tup [.tup [i2, i1, i0], .tup [i2, i1, i0], .tup [i1, i0, i2]], .tup [.tup [i2, i1, i0], .tup [i2, i1, i0], .tup [i1, i2, i0]], .tup [.tup [i2, i1, i0], .tup [i2, i1, i0], .tup [i2, i0, i1]], .tup [.tup [i2, i1, i0], .tup [i2, i1, i0], .tup [i2, i1, i0]]]
theorem e_rows_1 : r_rows [.int (.ofNat 3)] = .ret c_rows_1 := by kernel_rfl
def m_rows : List D → T D
  | [.int (.ofNat 2)] => .ret c_rows_0
  | [.int (.ofNat 3)] => .ret c_rows_1
  | x => r_rows x
theorem m_rows_eq : m_rows = r_rows := by
  funext x
  unfold m_rows
  split
  · exact (e_rows_0).symm
  · exact (e_rows_1).symm
  · rfl
theorem ok_rows {a_rows : Addr} {d_rows : FuncData} (G_rows : Gd K mg "rows" s_rows N_rows a_rows d_rows) (Tx : Txt P w K mg fs aP ad_CHOICES kv_CHOICES ad_TOLD kv_TOLD) {a_rows_of : Addr} {d_rows_of : FuncData} (G_rows_of : Gd K mg "rows_of" s_rows_of N_rows_of a_rows_of d_rows_of) (O_rows_of : FnOk P w K mg base CX0 1 a_rows_of d_rows_of N_rows_of (spP K (F1 w fs) r_rows_of 1)) {a_dealings : Addr} {d_dealings : FuncData} (G_dealings : Gd K mg "dealings" s_dealings N_dealings a_dealings d_dealings) (O_dealings : FnOk P w K mg base CX0 2 a_dealings d_dealings N_dealings (spP K (F1 w fs) m_dealings 1)) : FnOk P w K mg base CX0 3 a_rows d_rows N_rows (spP K (F1 w fs) m_rows 1) := by
  have sc := sc_rows
  rw [m_rows_eq]
  refine zdef (F := F1 w fs) (N := ["people"]) G_rows.fn sc fun cdv A outer s H E hr => ?_
  have hu := hr.units
  have hu2 := units80 hr
  let N : List Str := ["people"]
  exact (zlast (PSf (sRetF_eq _) (zret (ztupOf (by rfl) Tx.nb_tuple (PEseq ((zcall O_rows_of (hr.mono (by omega)) (by rfl) G_rows_of.mg G_rows_of.kp G_rows_of.b (PAf (aCF_eq _ _) (zac (PEnl (zrep (PEnl (zl (zac (PEnl (zlistOf (by rfl) Tx.nb_list (PEseq ((zcall O_dealings (hr.mono (by omega)) (by rfl) G_dealings.mg G_dealings.kp G_dealings.b (zac (zv 0) zan)))))) zan))) (zv 0))) zan)))))))))
/-! deals_of -/
abbrev s_deals_of : Stmt := top 34
abbrev N_deals_of : List Str := ["rule"]
theorem sc_deals_of : FnScope ["rule", "people", "choices", "row", "number"] N_deals_of (defScope s_deals_of) := ⟨rfl, rfl, rfl, by decide +kernel, rfl, by decide +kernel, by decide +kernel⟩
def r_deals_of : List D → T D := runB (
    (sSeq (sSet 1 (eCall r_count_people 1 (aC (eV 0) aN)))
    (sSeq (sSet 2 (eCall m_dealings 1 (aC (eV 1) aN)))
    (sRetF (eDc (lZip (eCall m_rows 1 (aC (eV 1) aN)) (eV 0)) (g2E 3 4) bYes (eV 3) (eIx (lSeq (eV 2)) (eV 4)) [3, 4]))))) 5
theorem ok_deals_of {a_deals_of : Addr} {d_deals_of : FuncData} (G_deals_of : Gd K mg "deals_of" s_deals_of N_deals_of a_deals_of d_deals_of) (Tx : Txt P w K mg fs aP ad_CHOICES kv_CHOICES ad_TOLD kv_TOLD) {a_count_people : Addr} {d_count_people : FuncData} (G_count_people : Gd K mg "count_people" s_count_people N_count_people a_count_people d_count_people) (O_count_people : FnOk P w K mg base CX0 3 a_count_people d_count_people N_count_people (spP K (F1 w fs) r_count_people 1)) {a_dealings : Addr} {d_dealings : FuncData} (G_dealings : Gd K mg "dealings" s_dealings N_dealings a_dealings d_dealings) (O_dealings : FnOk P w K mg base CX0 2 a_dealings d_dealings N_dealings (spP K (F1 w fs) m_dealings 1)) {a_rows : Addr} {d_rows : FuncData} (G_rows : Gd K mg "rows" s_rows N_rows a_rows d_rows) (O_rows : FnOk P w K mg base CX0 3 a_rows d_rows N_rows (spP K (F1 w fs) m_rows 1)) : FnOk P w K mg base CX0 4 a_deals_of d_deals_of N_deals_of (spP K (F1 w fs) r_deals_of 1) := by
  have sc := sc_deals_of
  refine zdef (F := F1 w fs) (N := ["rule", "people", "choices", "row", "number"]) G_deals_of.fn sc fun cdv A outer s H E hr => ?_
  have hu := hr.units
  have hu2 := units80 hr
  let N : List Str := ["rule", "people", "choices", "row", "number"]
  exact (zcons (zset (i := 1) sc.nd rfl (by first | exact Or.inl rfl | exact Or.inr rfl) ((zcall O_count_people (hr.mono (by omega)) (by rfl) G_count_people.mg G_count_people.kp G_count_people.b (zac (zv 0) zan))))
    (zcons (zset (i := 2) sc.nd rfl (by first | exact Or.inl rfl | exact Or.inr rfl) ((zcall O_dealings (hr.mono (by omega)) (by rfl) G_dealings.mg G_dealings.kp G_dealings.b (zac (zv 1) zan))))
    (zlast (PSf (sRetF_eq _) (zret (zdc rfl hu rfl sc.nd (zizip (by rfl) Tx.nb_zip ((zcall O_rows (hr.mono (by omega)) (by rfl) G_rows.mg G_rows.kp G_rows.b (zac (zv 1) zan))) (zv 0)) (blkOk_by (own := [("row", 3), ("number", 4)]) (N := N) (sc := (defScope s_deals_of)) (by first | decide +kernel | rfl | with_unfolding_all rfl)) (TgCf (g2E_eq _ _) (zgc_pair (by decide) (by decide))) (fun _ _ _ _ _ => (pg_tup rfl (pgs_cons (pg_name (i := 3) sc.nd rfl (by first | exact Or.inl rfl | exact Or.inr rfl)) (pgs_cons (pg_name (i := 4) sc.nd rfl (by first | exact Or.inl rfl | exact Or.inr rfl)) pgs_nil)))) (fun _ _ _ _ _ => ztyes) (fun _ _ _ _ _ => (zv 3)) (fun _ _ _ _ _ => (zix (PEseq (zv 2)) (zv 4)))))))))
/-! replaced -/
abbrev s_replaced : Stmt := top 26
abbrev N_replaced : List Str := ["row", "person", "ranking"]
theorem sc_replaced : FnScope ["row", "person", "ranking"] N_replaced (defScope s_replaced) := ⟨rfl, rfl, rfl, by decide +kernel, rfl, by decide +kernel, by decide +kernel⟩
def r_replaced : List D → T D := runB (
    (sRetF (e2 dPlus (e2 dPlus (eSl (eV 0) pNo (pYes (eV 1))) (eT (aC (eV 2) aN))) (eSl (eV 0) (pYes (e2 dPlus (eV 1) (eC (.int 1)))) pNo)))) 3
theorem ok_replaced {a_replaced : Addr} {d_replaced : FuncData} (G_replaced : Gd K mg "replaced" s_replaced N_replaced a_replaced d_replaced) (Tx : Txt P w K mg fs aP ad_CHOICES kv_CHOICES ad_TOLD kv_TOLD) : FnOk P w K mg base CX0 1 a_replaced d_replaced N_replaced (spP K (F1 w fs) r_replaced 3) := by
  have sc := sc_replaced
  refine zdef (F := F1 w fs) (N := ["row", "person", "ranking"]) G_replaced.fn sc fun cdv A outer s H E hr => ?_
  have hu := hr.units
  have hu2 := units80 hr
  let N : List Str := ["row", "person", "ranking"]
  exact (zlast (PSf (sRetF_eq _) (zret (zop oplus (zop oplus (zsl (zv 0) zpno (zpyes (zv 1))) (zt (zac (zv 2) zan))) (zsl (zv 0) (zpyes (zop oplus (zv 1) zint)) zpno)))))
/-! lies -/
abbrev s_lies : Stmt := top 38
abbrev N_lies : List Str := ["rule", "row", "person"]
theorem sc_lies : FnScope ["rule", "row", "person", "deals", "true", "place", "found", "ranking", "thing"] N_lies (defScope s_lies) := ⟨rfl, rfl, rfl, by decide +kernel, rfl, by decide +kernel, by decide +kernel⟩
def r_lies : List D → T D := runB (
    (sSeq (sDrop (eCall r_check_rule 1 (aC (eV 0) aN)))
    (sSeq (sDrop (eCall r_check_row 1 (aC (eV 1) aN)))
    (sSeq (sDrop (eCall r_check_alike 2 (aC (eCall r_count_people 1 (aC (eV 0) aN)) (aCF (eLen (lSeq (eV 1))) aN))))
    (sSeq (sDrop (eCall r_check_person 2 (aC (eV 2) (aCF (eLen (lSeq (eV 1))) aN))))
    (sSeq (sSet 3 (eCall r_deals_of 1 (aC (eV 0) aN)))
    (sSeq (sSet 4 (eIx (lSeq (eV 1)) (eV 2)))
    (sSeq (sSetV 5 (eIdxF (eV 4) (eIx (lSeq (eIxD (eV 3) (eV 1))) (eV 2))))
    (sSeq (sNew 6 (nL aN))
    (sSeq (sFor (lSeq (eCall m_dealings 1 (aCF (eLen (lSeq (eV 1))) aN))) (gIX 7)
    (sSeq (sSet 8 (eIx (lSeq (eIxD (eV 3) (eCall r_replaced 3 (aC (eV 1) (aC (eV 2) (aC (eV 7) aN)))))) (eV 2)))
    (sIf (b1 (e2 dLt (eIdxF (eV 4) (eV 8)) (eV 5)))
    (sApp 6 (eV 7)) sNil)))
    (sRetF (eTupOf (eVs 6))))))))))))) 9
theorem ok_lies {a_lies : Addr} {d_lies : FuncData} (G_lies : Gd K mg "lies" s_lies N_lies a_lies d_lies) (Tx : Txt P w K mg fs aP ad_CHOICES kv_CHOICES ad_TOLD kv_TOLD) {a_check_rule : Addr} {d_check_rule : FuncData} (G_check_rule : Gd K mg "check_rule" s_check_rule N_check_rule a_check_rule d_check_rule) (O_check_rule : FnOk P w K mg base CX0 2 a_check_rule d_check_rule N_check_rule (spP K (F1 w fs) r_check_rule 1)) {a_check_row : Addr} {d_check_row : FuncData} (G_check_row : Gd K mg "check_row" s_check_row N_check_row a_check_row d_check_row) (O_check_row : FnOk P w K mg base CX0 4 a_check_row d_check_row N_check_row (spP K (F1 w fs) r_check_row 1)) {a_check_alike : Addr} {d_check_alike : FuncData} (G_check_alike : Gd K mg "check_alike" s_check_alike N_check_alike a_check_alike d_check_alike) (O_check_alike : FnOk P w K mg base CX0 1 a_check_alike d_check_alike N_check_alike (spP K (F1 w fs) r_check_alike 2)) {a_check_person : Addr} {d_check_person : FuncData} (G_check_person : Gd K mg "check_person" s_check_person N_check_person a_check_person d_check_person) (O_check_person : FnOk P w K mg base CX0 2 a_check_person d_check_person N_check_person (spP K (F1 w fs) r_check_person 2)) {a_deals_of : Addr} {d_deals_of : FuncData} (G_deals_of : Gd K mg "deals_of" s_deals_of N_deals_of a_deals_of d_deals_of) (O_deals_of : FnOk P w K mg base CX0 4 a_deals_of d_deals_of N_deals_of (spP K (F1 w fs) r_deals_of 1)) {a_dealings : Addr} {d_dealings : FuncData} (G_dealings : Gd K mg "dealings" s_dealings N_dealings a_dealings d_dealings) (O_dealings : FnOk P w K mg base CX0 2 a_dealings d_dealings N_dealings (spP K (F1 w fs) m_dealings 1)) {a_count_people : Addr} {d_count_people : FuncData} (G_count_people : Gd K mg "count_people" s_count_people N_count_people a_count_people d_count_people) (O_count_people : FnOk P w K mg base CX0 3 a_count_people d_count_people N_count_people (spP K (F1 w fs) r_count_people 1)) {a_replaced : Addr} {d_replaced : FuncData} (G_replaced : Gd K mg "replaced" s_replaced N_replaced a_replaced d_replaced) (O_replaced : FnOk P w K mg base CX0 1 a_replaced d_replaced N_replaced (spP K (F1 w fs) r_replaced 3)) : FnOk P w K mg base CX0 5 a_lies d_lies N_lies (spP K (F1 w fs) r_lies 3) := by
  have sc := sc_lies
  refine zdef (F := F1 w fs) (N := ["rule", "row", "person", "deals", "true", "place", "found", "ranking", "thing"]) G_lies.fn sc fun cdv A outer s H E hr => ?_
  have hu := hr.units
  have hu2 := units80 hr
  let N : List Str := ["rule", "row", "person", "deals", "true", "place", "found", "ranking", "thing"]
  exact (zcons (zdrop ((zcall O_check_rule (hr.mono (by omega)) (by rfl) G_check_rule.mg G_check_rule.kp G_check_rule.b (zac (zv 0) zan))))
    (zcons (zdrop ((zcall O_check_row (hr.mono (by omega)) (by rfl) G_check_row.mg G_check_row.kp G_check_row.b (zac (zv 1) zan))))
    (zcons (zdrop ((zcall O_check_alike (hr.mono (by omega)) (by rfl) G_check_alike.mg G_check_alike.kp G_check_alike.b (zac ((zcall O_count_people (hr.mono (by omega)) (by rfl) G_count_people.mg G_count_people.kp G_count_people.b (zac (zv 0) zan))) (PAf (aCF_eq _ _) (zac (zlen (by rfl) Tx.nb_len (PEseq (zv 1))) zan))))))
    (zcons (zdrop ((zcall O_check_person (hr.mono (by omega)) (by rfl) G_check_person.mg G_check_person.kp G_check_person.b (zac (zv 2) (PAf (aCF_eq _ _) (zac (zlen (by rfl) Tx.nb_len (PEseq (zv 1))) zan))))))
    (zcons (zset (i := 3) sc.nd rfl (by first | exact Or.inl rfl | exact Or.inr rfl) ((zcall O_deals_of (hr.mono (by omega)) (by rfl) G_deals_of.mg G_deals_of.kp G_deals_of.b (zac (zv 0) zan))))
    (zcons (zset (i := 4) sc.nd rfl (by first | exact Or.inl rfl | exact Or.inr rfl) (zix (PEseq (zv 1)) (zv 2)))
    (zcons (PSf (sSetV_eq _ _) (zset (i := 5) sc.nd rfl (by first | exact Or.inl rfl | exact Or.inr rfl) (PEf (eIdxF_eq _ _) (zidx (zv 4) (zix (PEseq (zixd hu rfl (zv 3) (zv 1))) (zv 2))))))
    (zcons (znew (i := 6) sc.nd rfl (by first | exact Or.inl rfl | exact Or.inr rfl) (zl zan))
    (zcons (zfor PassesOwn.never rfl (zis ((zcall O_dealings (hr.mono (by omega)) (by rfl) G_dealings.mg G_dealings.kp G_dealings.b (PAf (aCF_eq _ _) (zac (zlen (by rfl) Tx.nb_len (PEseq (zv 1))) zan))))) (pg_name (i := 7) sc.nd rfl (by first | exact Or.inl rfl | exact Or.inr rfl)) (TgRf (gIX_eq _) (zg_name 7))
    (zcons (zset (i := 8) sc.nd rfl (by first | exact Or.inl rfl | exact Or.inr rfl) (zix (PEseq (zixd hu rfl (zv 3) ((zcall O_replaced (hr.mono (by omega)) (by rfl) G_replaced.mg G_replaced.kp G_replaced.b (zac (zv 1) (zac (zv 2) (zac (zv 7) zan))))))) (zv 2)))
    (zlast (zifs (ztc oltF (PEf (eIdxF_eq _ _) (zidx (zv 4) (zv 8))) (zv 5))
    (zlast (zapp (i := 6) rfl (by first | exact Or.inl rfl | exact Or.inr (Or.inl rfl) | exact Or.inr (Or.inr rfl)) (zv 7))) znil))))
    (zlast (PSf (sRetF_eq _) (zret (ztupOf (by rfl) Tx.nb_tuple (zvs 6))))))))))))))
/-! _law_names -/
abbrev s_law_names : Stmt := top 55
abbrev N_law_names : List Str := []
theorem sc_law_names : FnScope [] N_law_names (defScope s_law_names) := ⟨rfl, rfl, rfl, by decide +kernel, rfl, by decide +kernel, by decide +kernel⟩
def r_law_names : List D → T D := runB (
    (sRetF (lst (nL (aC (eC (.str [97, 115, 107, 115])) (aC (eC (.str [107, 101, 101, 112])) (aC (eC (.str [114, 105, 110, 103, 115])) (aC (eC (.str [116, 117, 114, 110, 115])) aN)))))))) 0
theorem ok_law_names {a_law_names : Addr} {d_law_names : FuncData} (G_law_names : Gd K mg "_law_names" s_law_names N_law_names a_law_names d_law_names) (Tx : Txt P w K mg fs aP ad_CHOICES kv_CHOICES ad_TOLD kv_TOLD) : FnOk P w K mg base CX0 1 a_law_names d_law_names N_law_names (spP K (F1 w fs) r_law_names 0) := by
  have sc := sc_law_names
  refine zdef (F := F1 w fs) (N := []) G_law_names.fn sc fun cdv A outer s H E hr => ?_
  have hu := hr.units
  have hu2 := units80 hr
  let N : List Str := []
  exact (zlast (PSf (sRetF_eq _) (zret (PEnl (zl (zac (zstr (s := [97, 115, 107, 115]) (by rfl)) (zac (zstr (s := [107, 101, 101, 112]) (by rfl)) (zac (zstr (s := [114, 105, 110, 103, 115]) (by rfl)) (zac (zstr (s := [116, 117, 114, 110, 115]) (by rfl)) zan)))))))))
/-! names -/
abbrev s_names : Stmt := top 44
abbrev N_names : List Str := []
theorem sc_names : FnScope [] N_names (defScope s_names) := ⟨rfl, rfl, rfl, by decide +kernel, rfl, by decide +kernel, by decide +kernel⟩
def r_names : List D → T D := runB (
    (sRetF (eTupOf (fun _ _ => .ret (ks_TOLD.map D.str))))) 0
theorem ok_names {a_names : Addr} {d_names : FuncData} (G_names : Gd K mg "names" s_names N_names a_names d_names) (Tx : Txt P w K mg fs aP ad_CHOICES kv_CHOICES ad_TOLD kv_TOLD) : FnOk P w K mg base CX0 1 a_names d_names N_names (spP K (F1 w fs) r_names 0) := by
  have sc := sc_names
  refine zdef (F := F1 w fs) (N := []) G_names.fn sc fun cdv A outer s H E hr => ?_
  have hu := hr.units
  have hu2 := units80 hr
  let N : List Str := []
  exact (zlast (PSf (sRetF_eq _) (zret (ztupOf (by rfl) Tx.nb_tuple (PEns (zsortT rfl (by rfl) Tx.nb_sorted (by rfl) Tx.mg_TOLD Tx.sd_TOLD Tx.hk_TOLD (by decide) one_TOLD))))))
/-! is_boss -/
abbrev s_is_boss : Stmt := top 37
abbrev N_is_boss : List Str := ["deals", "person"]
theorem sc_is_boss : FnScope ["deals", "person", "row", "dealing"] N_is_boss (defScope s_is_boss) := ⟨rfl, rfl, rfl, by decide +kernel, rfl, by decide +kernel, by decide +kernel⟩
def r_is_boss : List D → T D := runB (
    (sRetF (eAll (nLc (lItems (eV 0)) (g2E 2 3) bYes (e2 dEqF (eIx (lSeq (eV 3)) (eV 1)) (eIx (lSeq (eIx (lSeq (eV 2)) (eV 1))) (eC (.int 0)))) [2, 3])))) 4
theorem ok_is_boss {a_is_boss : Addr} {d_is_boss : FuncData} (G_is_boss : Gd K mg "is_boss" s_is_boss N_is_boss a_is_boss d_is_boss) (Tx : Txt P w K mg fs aP ad_CHOICES kv_CHOICES ad_TOLD kv_TOLD) : FnOk P w K mg base CX0 1 a_is_boss d_is_boss N_is_boss (spP K (F1 w fs) r_is_boss 2) := by
  have sc := sc_is_boss
  refine zdef (F := F1 w fs) (N := ["deals", "person", "row", "dealing"]) G_is_boss.fn sc fun cdv A outer s H E hr => ?_
  have hu := hr.units
  have hu2 := units80 hr
  let N : List Str := ["deals", "person", "row", "dealing"]
  exact (zlast (PSf (sRetF_eq _) (zret (zall rfl (by rfl) Tx.nb_all (zlc rfl sc.nd (zitems (zv 0)) (blkOk_by (own := [("row", 2), ("dealing", 3)]) (N := N) (sc := (defScope s_is_boss)) (by first | decide +kernel | rfl | with_unfolding_all rfl)) (TgCf (g2E_eq _ _) (zgc_pair (by decide) (by decide))) (fun _ _ _ _ _ => (pg_tup rfl (pgs_cons (pg_name (i := 2) sc.nd rfl (by first | exact Or.inl rfl | exact Or.inr rfl)) (pgs_cons (pg_name (i := 3) sc.nd rfl (by first | exact Or.inl rfl | exact Or.inr rfl)) pgs_nil)))) (fun _ _ _ _ _ => ztyes) (fun _ _ _ _ _ => (zcmp (oeqF hu) (zix (PEseq (zv 3)) (zv 1)) (zix (PEseq (zix (PEseq (zv 2)) (zv 1))) zint))))))))
/-! bosses -/
abbrev s_bosses : Stmt := top 36
abbrev N_bosses : List Str := ["rule"]
theorem sc_bosses : FnScope ["rule", "people", "deals", "person"] N_bosses (defScope s_bosses) := ⟨rfl, rfl, rfl, by decide +kernel, rfl, by decide +kernel, by decide +kernel⟩
def r_bosses : List D → T D := runB (
    (sSeq (sSet 1 (eCall r_count_people 1 (aC (eV 0) aN)))
    (sSeq (sSet 2 (eCall r_deals_of 1 (aC (eV 0) aN)))
    (sRetF (eTupOf (nLc (lR1 (aC (eV 1) aN)) (gIF 3) (b1 (eCall r_is_boss 2 (aC (eV 2) (aC (eV 3) aN)))) (eV 3) [3])))))) 4
theorem ok_bosses {a_bosses : Addr} {d_bosses : FuncData} (G_bosses : Gd K mg "bosses" s_bosses N_bosses a_bosses d_bosses) (Tx : Txt P w K mg fs aP ad_CHOICES kv_CHOICES ad_TOLD kv_TOLD) {a_count_people : Addr} {d_count_people : FuncData} (G_count_people : Gd K mg "count_people" s_count_people N_count_people a_count_people d_count_people) (O_count_people : FnOk P w K mg base CX0 3 a_count_people d_count_people N_count_people (spP K (F1 w fs) r_count_people 1)) {a_deals_of : Addr} {d_deals_of : FuncData} (G_deals_of : Gd K mg "deals_of" s_deals_of N_deals_of a_deals_of d_deals_of) (O_deals_of : FnOk P w K mg base CX0 4 a_deals_of d_deals_of N_deals_of (spP K (F1 w fs) r_deals_of 1)) {a_is_boss : Addr} {d_is_boss : FuncData} (G_is_boss : Gd K mg "is_boss" s_is_boss N_is_boss a_is_boss d_is_boss) (O_is_boss : FnOk P w K mg base CX0 1 a_is_boss d_is_boss N_is_boss (spP K (F1 w fs) r_is_boss 2)) : FnOk P w K mg base CX0 5 a_bosses d_bosses N_bosses (spP K (F1 w fs) r_bosses 1) := by
  have sc := sc_bosses
  refine zdef (F := F1 w fs) (N := ["rule", "people", "deals", "person"]) G_bosses.fn sc fun cdv A outer s H E hr => ?_
  have hu := hr.units
  have hu2 := units80 hr
  let N : List Str := ["rule", "people", "deals", "person"]
  exact (zcons (zset (i := 1) sc.nd rfl (by first | exact Or.inl rfl | exact Or.inr rfl) ((zcall O_count_people (hr.mono (by omega)) (by rfl) G_count_people.mg G_count_people.kp G_count_people.b (zac (zv 0) zan))))
    (zcons (zset (i := 2) sc.nd rfl (by first | exact Or.inl rfl | exact Or.inr rfl) ((zcall O_deals_of (hr.mono (by omega)) (by rfl) G_deals_of.mg G_deals_of.kp G_deals_of.b (zac (zv 0) zan))))
    (zlast (PSf (sRetF_eq _) (zret (ztupOf (by rfl) Tx.nb_tuple (PEns (zlc rfl sc.nd (zir1 (by rfl) Tx.nb_range (zac (zv 1) zan)) (blkOk_by (own := [("person", 3)]) (N := N) (sc := (defScope s_bosses)) (by first | decide +kernel | rfl | with_unfolding_all rfl)) (TgCf (gIF_eq _) (zgc_name (by decide))) (fun _ _ _ _ _ => (pg_name (i := 3) sc.nd rfl (by first | exact Or.inl rfl | exact Or.inr rfl))) (fun _ _ _ _ _ => (ztone (ztv ((zcall O_is_boss (hr.mono (by omega)) (by rfl) G_is_boss.mg G_is_boss.kp G_is_boss.b (zac (zv 2) (zac (zv 3) zan))))))) (fun _ _ _ _ _ => (zv 3))))))))))
/-! deal_asks -/
abbrev s_deal_asks : Stmt := top 39
abbrev N_deal_asks : List Str := ["row"]
theorem sc_deal_asks : FnScope ["row", "dealing", "place", "person", "ranking"] N_deal_asks (defScope s_deal_asks) := ⟨rfl, rfl, rfl, by decide +kernel, rfl, by decide +kernel, by decide +kernel⟩
def r_deal_asks : List D → T D := runB (
    (sSeq (sNew 1 (nRep (lst (nL (aC (eC .non) aN))) (eLen (lSeq (eV 0)))))
    (sSeq (sFor (lR1 (aC (eLen (lSeq (eV 0))) aN)) (gIF 2)
    (sFor (lEnum (eV 0)) (g2E 3 4)
    (sIf (bAnd (b1 (isN (eIx (eVs 1) (eV 3)))) (b1 (eInF true (eIx (lSeq (eV 4)) (eV 2)) (eVs 1))))
    (sPut 1 (eV 3) (eIx (lSeq (eV 4)) (eV 2))) sNil)))
    (sRetF (eTupOf (eVs 1)))))) 5
theorem ok_deal_asks {a_deal_asks : Addr} {d_deal_asks : FuncData} (G_deal_asks : Gd K mg "deal_asks" s_deal_asks N_deal_asks a_deal_asks d_deal_asks) (Tx : Txt P w K mg fs aP ad_CHOICES kv_CHOICES ad_TOLD kv_TOLD) : FnOk P w K mg base CX0 1 a_deal_asks d_deal_asks N_deal_asks (spP K (F1 w fs) r_deal_asks 1) := by
  have sc := sc_deal_asks
  refine zdef (F := F1 w fs) (N := ["row", "dealing", "place", "person", "ranking"]) G_deal_asks.fn sc fun cdv A outer s H E hr => ?_
  have hu := hr.units
  have hu2 := units80 hr
  let N : List Str := ["row", "dealing", "place", "person", "ranking"]
  exact (zcons (znew (i := 1) sc.nd rfl (by first | exact Or.inl rfl | exact Or.inr rfl) (zrep (PEnl (zl (zac znon zan))) (zlen (by rfl) Tx.nb_len (PEseq (zv 0)))))
    (zcons (zfor PassesOwn.never rfl (zir1 (by rfl) Tx.nb_range (zac (zlen (by rfl) Tx.nb_len (PEseq (zv 0))) zan)) (pg_name (i := 2) sc.nd rfl (by first | exact Or.inl rfl | exact Or.inr rfl)) (TgRf (gIF_eq _) (zg_name 2))
    (zlast (zfor PassesOwn.never rfl (zienum (by rfl) Tx.nb_enumerate (zv 0)) (pg_tup rfl (pgs_cons (pg_name (i := 3) sc.nd rfl (by first | exact Or.inl rfl | exact Or.inr rfl)) (pgs_cons (pg_name (i := 4) sc.nd rfl (by first | exact Or.inl rfl | exact Or.inr rfl)) pgs_nil))) (TgRf (g2E_eq _ _) (zg_pair 3 4))
    (zlast (zifs (PW.pt (ztand (ztisN (zix (zvs 1) (zv 3))) (ztand1 (PTf (eInF_eq _ _ _) (ztni (zix (PEseq (zv 4)) (zv 2)) (zvs 1))))))
    (zlast (zput (i := 1) rfl (by first | exact Or.inl rfl | exact Or.inr (Or.inl rfl) | exact Or.inr (Or.inr rfl)) (zix (PEseq (zv 4)) (zv 2)) (zv 3))) znil)))))
    (zlast (PSf (sRetF_eq _) (zret (ztupOf (by rfl) Tx.nb_tuple (zvs 1)))))))
/-! deal_keep -/
abbrev s_deal_keep : Stmt := top 40
abbrev N_deal_keep : List Str := ["row"]
theorem sc_deal_keep : FnScope ["row"] N_deal_keep (defScope s_deal_keep) := ⟨rfl, rfl, rfl, by decide +kernel, rfl, by decide +kernel, by decide +kernel⟩
def r_deal_keep : List D → T D := runB (
    (sRetF (eTupOf (rg1 (eLen (lSeq (eV 0))))))) 1
theorem ok_deal_keep {a_deal_keep : Addr} {d_deal_keep : FuncData} (G_deal_keep : Gd K mg "deal_keep" s_deal_keep N_deal_keep a_deal_keep d_deal_keep) (Tx : Txt P w K mg fs aP ad_CHOICES kv_CHOICES ad_TOLD kv_TOLD) : FnOk P w K mg base CX0 1 a_deal_keep d_deal_keep N_deal_keep (spP K (F1 w fs) r_deal_keep 1) := by
  have sc := sc_deal_keep
  refine zdef (F := F1 w fs) (N := ["row"]) G_deal_keep.fn sc fun cdv A outer s H E hr => ?_
  have hu := hr.units
  have hu2 := units80 hr
  let N : List Str := ["row"]
  exact (zlast (PSf (sRetF_eq _) (zret (ztupRg rfl (by rfl) Tx.nb_tuple (by rfl) Tx.nb_range (zlen (by rfl) Tx.nb_len (PEseq (zv 0)))))))
/-! check_dealing -/
abbrev s_check_dealing : Stmt := top 18
abbrev N_check_dealing : List Str := ["dealing"]
theorem sc_check_dealing : FnScope ["dealing"] N_check_dealing (defScope s_check_dealing) := ⟨rfl, rfl, rfl, by decide +kernel, rfl, by decide +kernel, by decide +kernel⟩
def r_check_dealing : List D → T D := runB (
    (sSeq (sIf (bOr (bNot (b1 (eIsi 4 (eV 0)))) (b1 (eInF true (eLen (lSeq (eV 0))) (lSeq (eC (.tup [.int 2, .int 3]))))))
    sFail sNil)
    (sIf (bNot (b1 (eCall r_is_order 2 (aC (eV 0) (aCF (eLen (lSeq (eV 0))) aN)))))
    sFail sNil))) 1
theorem ok_check_dealing {a_check_dealing : Addr} {d_check_dealing : FuncData} (G_check_dealing : Gd K mg "check_dealing" s_check_dealing N_check_dealing a_check_dealing d_check_dealing) (Tx : Txt P w K mg fs aP ad_CHOICES kv_CHOICES ad_TOLD kv_TOLD) {a_is_order : Addr} {d_is_order : FuncData} (G_is_order : Gd K mg "is_order" s_is_order N_is_order a_is_order d_is_order) (O_is_order : FnOk P w K mg base CX0 2 a_is_order d_is_order N_is_order (spP K (F1 w fs) r_is_order 2)) : FnOk P w K mg base CX0 3 a_check_dealing d_check_dealing N_check_dealing (spP K (F1 w fs) r_check_dealing 1) := by
  have sc := sc_check_dealing
  refine zdef (F := F1 w fs) (N := ["dealing"]) G_check_dealing.fn sc fun cdv A outer s H E hr => ?_
  have hu := hr.units
  have hu2 := units80 hr
  let N : List Str := ["dealing"]
  exact (zcons (zifs (PW.pt (ztor (ztnot (ztv (zisi 4 rfl (by rfl) Tx.nb_isinstance (zv 0) (zty (by rfl) Tx.nb_tuple boot_tuple)))) (ztor1 (PTf (eInF_eq _ _ _) (ztni (zlen (by rfl) Tx.nb_len (PEseq (zv 0))) (PEseq (zgl (by rfl) Tx.mg_PEOPLE fun m H => Tx.rep_PEOPLE m H)))))))
    (zlast znever) znil)
    (zlast (zifs (ztnot (ztv ((zcall O_is_order (hr.mono (by omega)) (by rfl) G_is_order.mg G_is_order.kp G_is_order.b (zac (zv 0) (PAf (aCF_eq _ _) (zac (zlen (by rfl) Tx.nb_len (PEseq (zv 0))) zan)))))))
    (zlast znever) znil)))
/-! groups -/
abbrev s_groups : Stmt := top 28
abbrev N_groups : List Str := ["people"]
theorem sc_groups : FnScope ["people", "size", "group"] N_groups (defScope s_groups) := ⟨rfl, rfl, rfl, by decide +kernel, rfl, by decide +kernel, by decide +kernel⟩
def r_groups : List D → T D := runB (
    (sRetF (lst (nLc2 (lR2 (aC (eC (.int 1)) (aC (e2 dPlus (eV 0) (eC (.int 1))) aN))) (gIF 1) bYes (lComb (eV 0) (eV 1)) (gIF 2) bYes (eV 2) [1, 2] [2])))) 3
def c_groups_0 : D := .lst [.tup [i0], .tup [i1], .tup [i0, i1]]
theorem e_groups_0 : r_groups [.int (.ofNat 2)] = .ret c_groups_0 := by kernel_rfl
def c_groups_1 : D := .lst [.tup [i0], .tup [i1], .tup [i2], .tup [i0, i1], .tup [i0, i2], .tup [i1, i2], .tup [i0, i1, i2]]
theorem e_groups_1 : r_groups [.int (.ofNat 3)] = .ret c_groups_1 := by kernel_rfl
def m_groups : List D → T D
  | [.int (.ofNat 2)] => .ret c_groups_0
  | [.int (.ofNat 3)] => .ret c_groups_1
  | x => r_groups x
theorem m_groups_eq : m_groups = r_groups := by
  funext x
  unfold m_groups
  split
  · exact (e_groups_0).symm
  · exact (e_groups_1).symm
  · rfl
theorem ok_groups {a_groups : Addr} {d_groups : FuncData} (G_groups : Gd K mg "groups" s_groups N_groups a_groups d_groups) (Tx : Txt P w K mg fs aP ad_CHOICES kv_CHOICES ad_TOLD kv_TOLD) : FnOk P w K mg base CX0 1 a_groups d_groups N_groups (spP K (F1 w fs) m_groups 1) := by
  have sc := sc_groups
  rw [m_groups_eq]
  refine zdef (F := F1 w fs) (N := ["people", "size", "group"]) G_groups.fn sc fun cdv A outer s H E hr => ?_
  have hu := hr.units
  have hu2 := units80 hr
  let N : List Str := ["people", "size", "group"]
  exact (zlast (PSf (sRetF_eq _) (zret (PEnl (zlc2 (vs1 := [2]) rfl sc.nd (zir2 (by rfl) Tx.nb_range (zac zint (zac (zop oplus (zv 0) zint) zan))) (blkOk_by (own := [("size", 1), ("group", 2)]) (N := N) (sc := (defScope s_groups)) (by first | decide +kernel | rfl | with_unfolding_all rfl)) (by decide) (TgCf (gIF_eq _) (zgc_name (by decide))) (TgCf (gIF_eq _) (zgc_name (by decide))) (fun _ _ _ _ _ => (pg_name (i := 1) sc.nd rfl (by first | exact Or.inl rfl | exact Or.inr rfl))) (fun _ _ _ _ _ => ztyes) (fun _ _ _ _ _ => (zicb rfl (by rfl) Tx.mg_combinations (by rfl) Tx.nb_range (zv 0) (zv 1))) (fun _ _ _ _ _ => (pg_name (i := 2) sc.nd rfl (by first | exact Or.inl rfl | exact Or.inr rfl))) (fun _ _ _ _ _ => ztyes) (fun _ _ _ _ _ => (zv 2)))))))
/-! is_within -/
abbrev s_is_within : Stmt := top 29
abbrev N_is_within : List Str := ["group", "dealing"]
theorem sc_is_within : FnScope ["group", "dealing", "person", "thing"] N_is_within (defScope s_is_within) := ⟨rfl, rfl, rfl, by decide +kernel, rfl, by decide +kernel, by decide +kernel⟩
def r_is_within : List D → T D := runB (
    (sRetF (eAll (nLc (lEnum (eV 1)) (g2E 2 3) bYes (eOr (eInF false (eV 2) (lSeq (eV 0))) (e2 dEqF (eV 3) (eV 2))) [2, 3])))) 4
theorem ok_is_within {a_is_within : Addr} {d_is_within : FuncData} (G_is_within : Gd K mg "is_within" s_is_within N_is_within a_is_within d_is_within) (Tx : Txt P w K mg fs aP ad_CHOICES kv_CHOICES ad_TOLD kv_TOLD) : FnOk P w K mg base CX0 1 a_is_within d_is_within N_is_within (spP K (F1 w fs) r_is_within 2) := by
  have sc := sc_is_within
  refine zdef (F := F1 w fs) (N := ["group", "dealing", "person", "thing"]) G_is_within.fn sc fun cdv A outer s H E hr => ?_
  have hu := hr.units
  have hu2 := units80 hr
  let N : List Str := ["group", "dealing", "person", "thing"]
  exact (zlast (PSf (sRetF_eq _) (zret (zall rfl (by rfl) Tx.nb_all (zlc rfl sc.nd (zienum (by rfl) Tx.nb_enumerate (zv 1)) (blkOk_by (own := [("person", 2), ("thing", 3)]) (N := N) (sc := (defScope s_is_within)) (by first | decide +kernel | rfl | with_unfolding_all rfl)) (TgCf (g2E_eq _ _) (zgc_pair (by decide) (by decide))) (fun _ _ _ _ _ => (pg_tup rfl (pgs_cons (pg_name (i := 2) sc.nd rfl (by first | exact Or.inl rfl | exact Or.inr rfl)) (pgs_cons (pg_name (i := 3) sc.nd rfl (by first | exact Or.inl rfl | exact Or.inr rfl)) pgs_nil)))) (fun _ _ _ _ _ => ztyes) (fun _ _ _ _ _ => (zor (PEf (eInF_eq _ _ _) (zin (zv 2) (PEseq (zv 0)))) (zone (zcmp (oeqF hu) (zv 3) (zv 2))))))))))
/-! is_better -/
abbrev s_is_better : Stmt := top 27
abbrev N_is_better : List Str := ["row", "group", "dealing", "other"]
theorem sc_is_better : FnScope ["row", "group", "dealing", "other", "changed", "person", "ranking"] N_is_better (defScope s_is_better) := ⟨rfl, rfl, rfl, by decide +kernel, rfl, by decide +kernel, by decide +kernel⟩
def r_is_better : List D → T D := runB (
    (sSeq (sSet 4 (eC (.bl false)))
    (sSeq (sFor (lSeq (eV 1)) (gIX 5)
    (sSeq (sSet 6 (eIx (lSeq (eV 0)) (eV 5)))
    (sSeq (sIf (b1 (e2 dGt (eIdxF (eV 6) (eIx (lSeq (eV 2)) (eV 5))) (eIdxF (eV 6) (eIx (lSeq (eV 3)) (eV 5)))))
    (sRet (eC (.bl false))) sNil)
    (sIf (b1 (e2 dNeF (eIx (lSeq (eV 2)) (eV 5)) (eIx (lSeq (eV 3)) (eV 5))))
    (sSet 4 (eC (.bl true))) sNil))))
    (sRet (eV 4))))) 7
theorem ok_is_better {a_is_better : Addr} {d_is_better : FuncData} (G_is_better : Gd K mg "is_better" s_is_better N_is_better a_is_better d_is_better) (Tx : Txt P w K mg fs aP ad_CHOICES kv_CHOICES ad_TOLD kv_TOLD) : FnOk P w K mg base CX0 1 a_is_better d_is_better N_is_better (spP K (F1 w fs) r_is_better 4) := by
  have sc := sc_is_better
  refine zdef (F := F1 w fs) (N := ["row", "group", "dealing", "other", "changed", "person", "ranking"]) G_is_better.fn sc fun cdv A outer s H E hr => ?_
  have hu := hr.units
  have hu2 := units80 hr
  let N : List Str := ["row", "group", "dealing", "other", "changed", "person", "ranking"]
  exact (zcons (zset (i := 4) sc.nd rfl (by first | exact Or.inl rfl | exact Or.inr rfl) zbl)
    (zcons (zfor PassesOwn.never rfl (zis (zv 1)) (pg_name (i := 5) sc.nd rfl (by first | exact Or.inl rfl | exact Or.inr rfl)) (TgRf (gIX_eq _) (zg_name 5))
    (zcons (zset (i := 6) sc.nd rfl (by first | exact Or.inl rfl | exact Or.inr rfl) (zix (PEseq (zv 0)) (zv 5)))
    (zcons (zifs (ztc ogtF (PEf (eIdxF_eq _ _) (zidx (zv 6) (zix (PEseq (zv 2)) (zv 5)))) (PEf (eIdxF_eq _ _) (zidx (zv 6) (zix (PEseq (zv 3)) (zv 5)))))
    (zlast (zret zbl)) znil)
    (zlast (zifs (ztc (oneF hu) (zix (PEseq (zv 2)) (zv 5)) (zix (PEseq (zv 3)) (zv 5)))
    (zlast (zset (i := 4) sc.nd rfl (by first | exact Or.inl rfl | exact Or.inr rfl) zbl)) znil)))))
    (zlast (zret (zv 4)))))
/-! blocks -/
abbrev s_blocks : Stmt := top 30
abbrev N_blocks : List Str := ["row", "group", "dealing"]
theorem sc_blocks : FnScope ["row", "group", "dealing", "other"] N_blocks (defScope s_blocks) := ⟨rfl, rfl, rfl, by decide +kernel, rfl, by decide +kernel, by decide +kernel⟩
def r_blocks : List D → T D := runB (
    (sSeq (sFor (lSeq (eCall m_dealings 1 (aCF (eLen (lSeq (eV 0))) aN))) (gIX 3)
    (sIf (bAnd (b1 (eCall r_is_within 2 (aC (eV 1) (aC (eV 3) aN)))) (b1 (eCall r_is_better 4 (aC (eV 0) (aC (eV 1) (aC (eV 3) (aC (eV 2) aN)))))))
    (sRet (eC (.bl true))) sNil))
    (sRet (eC (.bl false))))) 4
theorem ok_blocks {a_blocks : Addr} {d_blocks : FuncData} (G_blocks : Gd K mg "blocks" s_blocks N_blocks a_blocks d_blocks) (Tx : Txt P w K mg fs aP ad_CHOICES kv_CHOICES ad_TOLD kv_TOLD) {a_dealings : Addr} {d_dealings : FuncData} (G_dealings : Gd K mg "dealings" s_dealings N_dealings a_dealings d_dealings) (O_dealings : FnOk P w K mg base CX0 2 a_dealings d_dealings N_dealings (spP K (F1 w fs) m_dealings 1)) {a_is_within : Addr} {d_is_within : FuncData} (G_is_within : Gd K mg "is_within" s_is_within N_is_within a_is_within d_is_within) (O_is_within : FnOk P w K mg base CX0 1 a_is_within d_is_within N_is_within (spP K (F1 w fs) r_is_within 2)) {a_is_better : Addr} {d_is_better : FuncData} (G_is_better : Gd K mg "is_better" s_is_better N_is_better a_is_better d_is_better) (O_is_better : FnOk P w K mg base CX0 1 a_is_better d_is_better N_is_better (spP K (F1 w fs) r_is_better 4)) : FnOk P w K mg base CX0 3 a_blocks d_blocks N_blocks (spP K (F1 w fs) r_blocks 3) := by
  have sc := sc_blocks
  refine zdef (F := F1 w fs) (N := ["row", "group", "dealing", "other"]) G_blocks.fn sc fun cdv A outer s H E hr => ?_
  have hu := hr.units
  have hu2 := units80 hr
  let N : List Str := ["row", "group", "dealing", "other"]
  exact (zcons (zfor PassesOwn.never rfl (zis ((zcall O_dealings (hr.mono (by omega)) (by rfl) G_dealings.mg G_dealings.kp G_dealings.b (PAf (aCF_eq _ _) (zac (zlen (by rfl) Tx.nb_len (PEseq (zv 0))) zan))))) (pg_name (i := 3) sc.nd rfl (by first | exact Or.inl rfl | exact Or.inr rfl)) (TgRf (gIX_eq _) (zg_name 3))
    (zlast (zifs (PW.pt (ztand (ztv ((zcall O_is_within (hr.mono (by omega)) (by rfl) G_is_within.mg G_is_within.kp G_is_within.b (zac (zv 1) (zac (zv 3) zan))))) (ztand1 (ztv ((zcall O_is_better (hr.mono (by omega)) (by rfl) G_is_better.mg G_is_better.kp G_is_better.b (zac (zv 0) (zac (zv 1) (zac (zv 3) (zac (zv 2) zan))))))))))
    (zlast (zret zbl)) znil)))
    (zlast (zret zbl)))
/-! blocking_group -/
abbrev s_blocking_group : Stmt := top 31
abbrev N_blocking_group : List Str := ["row", "dealing"]
theorem sc_blocking_group : FnScope ["row", "dealing", "group"] N_blocking_group (defScope s_blocking_group) := ⟨rfl, rfl, rfl, by decide +kernel, rfl, by decide +kernel, by decide +kernel⟩
def r_blocking_group : List D → T D := runB (
    (sSeq (sDrop (eCall r_check_row 1 (aC (eV 0) aN)))
    (sSeq (sDrop (eCall r_check_dealing 1 (aC (eV 1) aN)))
    (sSeq (sDrop (eCall r_check_alike 2 (aCF (eLen (lSeq (eV 0))) (aCF (eLen (lSeq (eV 1))) aN))))
    (sSeq (sFor (lSeq (eCall m_groups 1 (aCF (eLen (lSeq (eV 0))) aN))) (gIX 2)
    (sIf (b1 (eCall r_blocks 3 (aC (eV 0) (aC (eV 2) (aC (eV 1) aN)))))
    (sRet (eV 2)) sNil))
    (sRet (eC .non))))))) 3
theorem ok_blocking_group {a_blocking_group : Addr} {d_blocking_group : FuncData} (G_blocking_group : Gd K mg "blocking_group" s_blocking_group N_blocking_group a_blocking_group d_blocking_group) (Tx : Txt P w K mg fs aP ad_CHOICES kv_CHOICES ad_TOLD kv_TOLD) {a_check_row : Addr} {d_check_row : FuncData} (G_check_row : Gd K mg "check_row" s_check_row N_check_row a_check_row d_check_row) (O_check_row : FnOk P w K mg base CX0 4 a_check_row d_check_row N_check_row (spP K (F1 w fs) r_check_row 1)) {a_check_dealing : Addr} {d_check_dealing : FuncData} (G_check_dealing : Gd K mg "check_dealing" s_check_dealing N_check_dealing a_check_dealing d_check_dealing) (O_check_dealing : FnOk P w K mg base CX0 3 a_check_dealing d_check_dealing N_check_dealing (spP K (F1 w fs) r_check_dealing 1)) {a_check_alike : Addr} {d_check_alike : FuncData} (G_check_alike : Gd K mg "check_alike" s_check_alike N_check_alike a_check_alike d_check_alike) (O_check_alike : FnOk P w K mg base CX0 1 a_check_alike d_check_alike N_check_alike (spP K (F1 w fs) r_check_alike 2)) {a_groups : Addr} {d_groups : FuncData} (G_groups : Gd K mg "groups" s_groups N_groups a_groups d_groups) (O_groups : FnOk P w K mg base CX0 1 a_groups d_groups N_groups (spP K (F1 w fs) m_groups 1)) {a_blocks : Addr} {d_blocks : FuncData} (G_blocks : Gd K mg "blocks" s_blocks N_blocks a_blocks d_blocks) (O_blocks : FnOk P w K mg base CX0 3 a_blocks d_blocks N_blocks (spP K (F1 w fs) r_blocks 3)) : FnOk P w K mg base CX0 5 a_blocking_group d_blocking_group N_blocking_group (spP K (F1 w fs) r_blocking_group 2) := by
  have sc := sc_blocking_group
  refine zdef (F := F1 w fs) (N := ["row", "dealing", "group"]) G_blocking_group.fn sc fun cdv A outer s H E hr => ?_
  have hu := hr.units
  have hu2 := units80 hr
  let N : List Str := ["row", "dealing", "group"]
  exact (zcons (zdrop ((zcall O_check_row (hr.mono (by omega)) (by rfl) G_check_row.mg G_check_row.kp G_check_row.b (zac (zv 0) zan))))
    (zcons (zdrop ((zcall O_check_dealing (hr.mono (by omega)) (by rfl) G_check_dealing.mg G_check_dealing.kp G_check_dealing.b (zac (zv 1) zan))))
    (zcons (zdrop ((zcall O_check_alike (hr.mono (by omega)) (by rfl) G_check_alike.mg G_check_alike.kp G_check_alike.b (PAf (aCF_eq _ _) (zac (zlen (by rfl) Tx.nb_len (PEseq (zv 0))) (PAf (aCF_eq _ _) (zac (zlen (by rfl) Tx.nb_len (PEseq (zv 1))) zan)))))))
    (zcons (zfor PassesOwn.never rfl (zis ((zcall O_groups (hr.mono (by omega)) (by rfl) G_groups.mg G_groups.kp G_groups.b (PAf (aCF_eq _ _) (zac (zlen (by rfl) Tx.nb_len (PEseq (zv 0))) zan))))) (pg_name (i := 2) sc.nd rfl (by first | exact Or.inl rfl | exact Or.inr rfl)) (TgRf (gIX_eq _) (zg_name 2))
    (zlast (zifs (ztv ((zcall O_blocks (hr.mono (by omega)) (by rfl) G_blocks.mg G_blocks.kp G_blocks.b (zac (zv 0) (zac (zv 2) (zac (zv 1) zan))))))
    (zlast (zret (zv 2))) znil)))
    (zlast (zret znon))))))
/-! deal_rings -/
abbrev s_deal_rings : Stmt := top 41
abbrev N_deal_rings : List Str := ["row"]
theorem sc_deal_rings : FnScope ["row", "dealing"] N_deal_rings (defScope s_deal_rings) := ⟨rfl, rfl, rfl, by decide +kernel, rfl, by decide +kernel, by decide +kernel⟩
def r_deal_rings : List D → T D := runB (
    (sRetF (eIx (lSeq (lst (nLc (lSeq (eCall m_dealings 1 (aCF (eLen (lSeq (eV 0))) aN))) (gIX 1) (b1 (isN (eCall r_blocking_group 2 (aC (eV 0) (aC (eV 1) aN))))) (eV 1) [1]))) (eC (.int 0))))) 2
theorem ok_deal_rings {a_deal_rings : Addr} {d_deal_rings : FuncData} (G_deal_rings : Gd K mg "deal_rings" s_deal_rings N_deal_rings a_deal_rings d_deal_rings) (Tx : Txt P w K mg fs aP ad_CHOICES kv_CHOICES ad_TOLD kv_TOLD) {a_dealings : Addr} {d_dealings : FuncData} (G_dealings : Gd K mg "dealings" s_dealings N_dealings a_dealings d_dealings) (O_dealings : FnOk P w K mg base CX0 2 a_dealings d_dealings N_dealings (spP K (F1 w fs) m_dealings 1)) {a_blocking_group : Addr} {d_blocking_group : FuncData} (G_blocking_group : Gd K mg "blocking_group" s_blocking_group N_blocking_group a_blocking_group d_blocking_group) (O_blocking_group : FnOk P w K mg base CX0 5 a_blocking_group d_blocking_group N_blocking_group (spP K (F1 w fs) r_blocking_group 2)) : FnOk P w K mg base CX0 6 a_deal_rings d_deal_rings N_deal_rings (spP K (F1 w fs) r_deal_rings 1) := by
  have sc := sc_deal_rings
  refine zdef (F := F1 w fs) (N := ["row", "dealing"]) G_deal_rings.fn sc fun cdv A outer s H E hr => ?_
  have hu := hr.units
  have hu2 := units80 hr
  let N : List Str := ["row", "dealing"]
  exact (zlast (PSf (sRetF_eq _) (zret (zix (PEseq (PEnl (zlc rfl sc.nd (zis ((zcall O_dealings (hr.mono (by omega)) (by rfl) G_dealings.mg G_dealings.kp G_dealings.b (PAf (aCF_eq _ _) (zac (zlen (by rfl) Tx.nb_len (PEseq (zv 0))) zan))))) (blkOk_by (own := [("dealing", 1)]) (N := N) (sc := (defScope s_deal_rings)) (by first | decide +kernel | rfl | with_unfolding_all rfl)) (TgCf (gIX_eq _) (zgc_name (by decide))) (fun _ _ _ _ _ => (pg_name (i := 1) sc.nd rfl (by first | exact Or.inl rfl | exact Or.inr rfl))) (fun _ _ _ _ _ => (ztone (ztisN ((zcall O_blocking_group (hr.mono (by omega)) (by rfl) G_blocking_group.mg G_blocking_group.kp G_blocking_group.b (zac (zv 0) (zac (zv 1) zan))))))) (fun _ _ _ _ _ => (zv 1))))) zint))))
/-! deal_turns -/
abbrev s_deal_turns : Stmt := top 42
abbrev N_deal_turns : List Str := ["row"]
theorem sc_deal_turns : FnScope ["row", "dealing", "ranking", "left", "thing"] N_deal_turns (defScope s_deal_turns) := ⟨rfl, rfl, rfl, by decide +kernel, rfl, by decide +kernel, by decide +kernel⟩
def r_deal_turns : List D → T D := runB (
    (sSeq (sNew 1 (nL aN))
    (sSeq (sFor (lSeq (eV 0)) (gIX 2)
    (sSeq (sSetV 3 (lst (nLc (lSeq (eV 2)) (gIX 4) (b1 (eInF true (eV 4) (eVs 1))) (eV 4) [4])))
    (sApp 1 (eIx (lSeq (eV 3)) (eC (.int 0))))))
    (sRetF (eTupOf (eVs 1)))))) 5
theorem ok_deal_turns {a_deal_turns : Addr} {d_deal_turns : FuncData} (G_deal_turns : Gd K mg "deal_turns" s_deal_turns N_deal_turns a_deal_turns d_deal_turns) (Tx : Txt P w K mg fs aP ad_CHOICES kv_CHOICES ad_TOLD kv_TOLD) : FnOk P w K mg base CX0 1 a_deal_turns d_deal_turns N_deal_turns (spP K (F1 w fs) r_deal_turns 1) := by
  have sc := sc_deal_turns
  refine zdef (F := F1 w fs) (N := ["row", "dealing", "ranking", "left", "thing"]) G_deal_turns.fn sc fun cdv A outer s H E hr => ?_
  have hu := hr.units
  have hu2 := units80 hr
  let N : List Str := ["row", "dealing", "ranking", "left", "thing"]
  exact (zcons (znew (i := 1) sc.nd rfl (by first | exact Or.inl rfl | exact Or.inr rfl) (zl zan))
    (zcons (zfor PassesOwn.never rfl (zis (zv 0)) (pg_name (i := 2) sc.nd rfl (by first | exact Or.inl rfl | exact Or.inr rfl)) (TgRf (gIX_eq _) (zg_name 2))
    (zcons (PSf (sSetV_eq _ _) (zsetLc (i := 3) rfl sc.nd rfl rfl (zis (zv 2)) (blkOk_by (own := [("thing", 4)]) (N := N) (sc := (defScope s_deal_turns)) (by first | decide +kernel | rfl | with_unfolding_all rfl)) (TgCf (gIX_eq _) (zgc_name (by decide))) (fun _ _ _ _ _ => (pg_name (i := 4) sc.nd rfl (by first | exact Or.inl rfl | exact Or.inr rfl))) (fun _ _ _ _ _ => (ztone (PTf (eInF_eq _ _ _) (ztni (zv 4) (zvs 1))))) (fun _ _ _ _ _ => (zv 4)) (sw_true rfl rfl rfl (by decide +kernel))))
    (zlast (zapp (i := 1) rfl (by first | exact Or.inl rfl | exact Or.inr (Or.inl rfl) | exact Or.inr (Or.inr rfl)) (zix (PEseq (zv 3)) zint)))))
    (zlast (PSf (sRetF_eq _) (zret (ztupOf (by rfl) Tx.nb_tuple (zvs 1)))))))
/-! told_rule -/
abbrev s_told_rule : Stmt := top 45
abbrev N_told_rule : List Str := ["name", "people"]
theorem sc_told_rule : FnScope ["name", "people", "numbers", "number", "dealing", "deal", "row"] N_told_rule (defScope s_told_rule) := ⟨rfl, rfl, rfl, by decide +kernel, rfl, by decide +kernel, by decide +kernel⟩
def r_told_rule : List D → T D := runB (
    (sSeq (sIf (b1 (eInF true (eV 0) (lSeq (eCall r_names 0 aN))))
    sFail sNil)
    (sSeq (sDrop (eCall r_check_people 1 (aC (eV 1) aN)))
    (sSeq (sSetV 2 (eDc (lEnum (eCall m_dealings 1 (aC (eV 1) aN))) (g2E 3 4) bYes (eV 4) (eV 3) [3, 4]))
    (sSeq (sSet 5 (eIxT tb_TOLD (eV 0)))
    (sRetF (eTupOf (nLc (lSeq (eCall m_rows 1 (aC (eV 1) aN))) (gIX 6) bYes (eIxD (eV 2) (eCallV 5 [r_deal_asks, r_deal_keep, r_deal_rings, r_deal_turns] 1 (aC (eV 6) aN))) [6])))))))) 7
theorem ok_told_rule {a_told_rule : Addr} {d_told_rule : FuncData} (G_told_rule : Gd K mg "told_rule" s_told_rule N_told_rule a_told_rule d_told_rule) (Tx : Txt P w K mg fs aP ad_CHOICES kv_CHOICES ad_TOLD kv_TOLD) {a_check_people : Addr} {d_check_people : FuncData} (G_check_people : Gd K mg "check_people" s_check_people N_check_people a_check_people d_check_people) (O_check_people : FnOk P w K mg base CX0 1 a_check_people d_check_people N_check_people (spP K (F1 w fs) r_check_people 1)) {a_names : Addr} {d_names : FuncData} (G_names : Gd K mg "names" s_names N_names a_names d_names) (O_names : FnOk P w K mg base CX0 1 a_names d_names N_names (spP K (F1 w fs) r_names 0)) {a_dealings : Addr} {d_dealings : FuncData} (G_dealings : Gd K mg "dealings" s_dealings N_dealings a_dealings d_dealings) (O_dealings : FnOk P w K mg base CX0 2 a_dealings d_dealings N_dealings (spP K (F1 w fs) m_dealings 1)) {a_rows : Addr} {d_rows : FuncData} (G_rows : Gd K mg "rows" s_rows N_rows a_rows d_rows) (O_rows : FnOk P w K mg base CX0 3 a_rows d_rows N_rows (spP K (F1 w fs) m_rows 1)) {a_deal_asks : Addr} {d_deal_asks : FuncData} (G_deal_asks : Gd K mg "deal_asks" s_deal_asks N_deal_asks a_deal_asks d_deal_asks) (O_deal_asks : FnOk P w K mg base CX0 1 a_deal_asks d_deal_asks N_deal_asks (spP K (F1 w fs) r_deal_asks 1)) {a_deal_keep : Addr} {d_deal_keep : FuncData} (G_deal_keep : Gd K mg "deal_keep" s_deal_keep N_deal_keep a_deal_keep d_deal_keep) (O_deal_keep : FnOk P w K mg base CX0 1 a_deal_keep d_deal_keep N_deal_keep (spP K (F1 w fs) r_deal_keep 1)) {a_deal_rings : Addr} {d_deal_rings : FuncData} (G_deal_rings : Gd K mg "deal_rings" s_deal_rings N_deal_rings a_deal_rings d_deal_rings) (O_deal_rings : FnOk P w K mg base CX0 6 a_deal_rings d_deal_rings N_deal_rings (spP K (F1 w fs) r_deal_rings 1)) {a_deal_turns : Addr} {d_deal_turns : FuncData} (G_deal_turns : Gd K mg "deal_turns" s_deal_turns N_deal_turns a_deal_turns d_deal_turns) (O_deal_turns : FnOk P w K mg base CX0 1 a_deal_turns d_deal_turns N_deal_turns (spP K (F1 w fs) r_deal_turns 1)) (hF : fs = [a_deal_asks, a_deal_keep, a_deal_rings, a_deal_turns]) : FnOk P w K mg base CX0 7 a_told_rule d_told_rule N_told_rule (spP K (F1 w fs) r_told_rule 2) := by
  have sc := sc_told_rule
  refine zdef (F := F1 w fs) (N := ["name", "people", "numbers", "number", "dealing", "deal", "row"]) G_told_rule.fn sc fun cdv A outer s H E hr => ?_
  have hu := hr.units
  have hu2 := units80 hr
  let N : List Str := ["name", "people", "numbers", "number", "dealing", "deal", "row"]
  exact (zcons (zifs (PTf (eInF_eq _ _ _) (ztni (zv 0) (PEseq (zcall0 O_names (hr.mono (by omega)) (by rfl) G_names.mg G_names.kp G_names.b))))
    (zlast znever) znil)
    (zcons (zdrop ((zcall O_check_people (hr.mono (by omega)) (by rfl) G_check_people.mg G_check_people.kp G_check_people.b (zac (zv 1) zan))))
    (zcons (PSf (sSetV_eq _ _) (zset (i := 2) sc.nd rfl (by first | exact Or.inl rfl | exact Or.inr rfl) (zdc rfl hu rfl sc.nd (zienum (by rfl) Tx.nb_enumerate ((zcall O_dealings (hr.mono (by omega)) (by rfl) G_dealings.mg G_dealings.kp G_dealings.b (zac (zv 1) zan)))) (blkOk_by (own := [("number", 3), ("dealing", 4)]) (N := N) (sc := (defScope s_told_rule)) (by first | decide +kernel | rfl | with_unfolding_all rfl)) (TgCf (g2E_eq _ _) (zgc_pair (by decide) (by decide))) (fun _ _ _ _ _ => (pg_tup rfl (pgs_cons (pg_name (i := 3) sc.nd rfl (by first | exact Or.inl rfl | exact Or.inr rfl)) (pgs_cons (pg_name (i := 4) sc.nd rfl (by first | exact Or.inl rfl | exact Or.inr rfl)) pgs_nil)))) (fun _ _ _ _ _ => ztyes) (fun _ _ _ _ _ => (zv 4)) (fun _ _ _ _ _ => (zv 3)))))
    (zcons (zset (i := 5) sc.nd rfl (by first | exact Or.inl rfl | exact Or.inr rfl) (zixT (by rfl) Tx.mg_TOLD Tx.sd_TOLD Tx.tb_TOLD (zv 0)))
    (zlast (PSf (sRetF_eq _) (zret (ztupOf (by rfl) Tx.nb_tuple (PEns (zlc rfl sc.nd (zis ((zcall O_rows (hr.mono (by omega)) (by rfl) G_rows.mg G_rows.kp G_rows.b (zac (zv 1) zan)))) (blkOk_by (own := [("row", 6)]) (N := N) (sc := (defScope s_told_rule)) (by first | decide +kernel | rfl | with_unfolding_all rfl)) (TgCf (gIX_eq _) (zgc_name (by decide))) (fun _ _ _ _ _ => (pg_name (i := 6) sc.nd rfl (by first | exact Or.inl rfl | exact Or.inr rfl))) (fun _ _ _ _ _ => ztyes) (fun _ _ _ _ _ => (zixd hu rfl (zv 2) (zcallV4 (zcallQ (q := 0) O_deal_asks G_deal_asks.kp G_deal_asks.b (by rw [hF]; rfl) hr (by omega) rfl (by first | exact Or.inl rfl | exact Or.inr (Or.inl rfl) | exact Or.inr (Or.inr rfl)) (zac (zv 6) zan)) (zcallQ (q := 1) O_deal_keep G_deal_keep.kp G_deal_keep.b (by rw [hF]; rfl) hr (by omega) rfl (by first | exact Or.inl rfl | exact Or.inr (Or.inl rfl) | exact Or.inr (Or.inr rfl)) (zac (zv 6) zan)) (zcallQ (q := 2) O_deal_rings G_deal_rings.kp G_deal_rings.b (by rw [hF]; rfl) hr (by omega) rfl (by first | exact Or.inl rfl | exact Or.inr (Or.inl rfl) | exact Or.inr (Or.inr rfl)) (zac (zv 6) zan)) (zcallQ (q := 3) O_deal_turns G_deal_turns.kp G_deal_turns.b (by rw [hF]; rfl) hr (by omega) rfl (by first | exact Or.inl rfl | exact Or.inr (Or.inl rfl) | exact Or.inr (Or.inr rfl)) (zac (zv 6) zan)))))))))))))))
/-! dealt -/
abbrev s_dealt : Stmt := top 35
abbrev N_dealt : List Str := ["rule", "row"]
theorem sc_dealt : FnScope ["rule", "row"] N_dealt (defScope s_dealt) := ⟨rfl, rfl, rfl, by decide +kernel, rfl, by decide +kernel, by decide +kernel⟩
def r_dealt : List D → T D := runB (
    (sSeq (sDrop (eCall r_check_rule 1 (aC (eV 0) aN)))
    (sSeq (sDrop (eCall r_check_row 1 (aC (eV 1) aN)))
    (sSeq (sDrop (eCall r_check_alike 2 (aC (eCall r_count_people 1 (aC (eV 0) aN)) (aCF (eLen (lSeq (eV 1))) aN))))
    (sRet (eIxD (eCall r_deals_of 1 (aC (eV 0) aN)) (eV 1))))))) 2
theorem ok_dealt {a_dealt : Addr} {d_dealt : FuncData} (G_dealt : Gd K mg "dealt" s_dealt N_dealt a_dealt d_dealt) (Tx : Txt P w K mg fs aP ad_CHOICES kv_CHOICES ad_TOLD kv_TOLD) {a_check_rule : Addr} {d_check_rule : FuncData} (G_check_rule : Gd K mg "check_rule" s_check_rule N_check_rule a_check_rule d_check_rule) (O_check_rule : FnOk P w K mg base CX0 2 a_check_rule d_check_rule N_check_rule (spP K (F1 w fs) r_check_rule 1)) {a_check_row : Addr} {d_check_row : FuncData} (G_check_row : Gd K mg "check_row" s_check_row N_check_row a_check_row d_check_row) (O_check_row : FnOk P w K mg base CX0 4 a_check_row d_check_row N_check_row (spP K (F1 w fs) r_check_row 1)) {a_check_alike : Addr} {d_check_alike : FuncData} (G_check_alike : Gd K mg "check_alike" s_check_alike N_check_alike a_check_alike d_check_alike) (O_check_alike : FnOk P w K mg base CX0 1 a_check_alike d_check_alike N_check_alike (spP K (F1 w fs) r_check_alike 2)) {a_count_people : Addr} {d_count_people : FuncData} (G_count_people : Gd K mg "count_people" s_count_people N_count_people a_count_people d_count_people) (O_count_people : FnOk P w K mg base CX0 3 a_count_people d_count_people N_count_people (spP K (F1 w fs) r_count_people 1)) {a_deals_of : Addr} {d_deals_of : FuncData} (G_deals_of : Gd K mg "deals_of" s_deals_of N_deals_of a_deals_of d_deals_of) (O_deals_of : FnOk P w K mg base CX0 4 a_deals_of d_deals_of N_deals_of (spP K (F1 w fs) r_deals_of 1)) : FnOk P w K mg base CX0 5 a_dealt d_dealt N_dealt (spP K (F1 w fs) r_dealt 2) := by
  have sc := sc_dealt
  refine zdef (F := F1 w fs) (N := ["rule", "row"]) G_dealt.fn sc fun cdv A outer s H E hr => ?_
  have hu := hr.units
  have hu2 := units80 hr
  let N : List Str := ["rule", "row"]
  exact (zcons (zdrop ((zcall O_check_rule (hr.mono (by omega)) (by rfl) G_check_rule.mg G_check_rule.kp G_check_rule.b (zac (zv 0) zan))))
    (zcons (zdrop ((zcall O_check_row (hr.mono (by omega)) (by rfl) G_check_row.mg G_check_row.kp G_check_row.b (zac (zv 1) zan))))
    (zcons (zdrop ((zcall O_check_alike (hr.mono (by omega)) (by rfl) G_check_alike.mg G_check_alike.kp G_check_alike.b (zac ((zcall O_count_people (hr.mono (by omega)) (by rfl) G_count_people.mg G_count_people.kp G_count_people.b (zac (zv 0) zan))) (PAf (aCF_eq _ _) (zac (zlen (by rfl) Tx.nb_len (PEseq (zv 1))) zan))))))
    (zlast (zret (zixd hu rfl ((zcall O_deals_of (hr.mono (by omega)) (by rfl) G_deals_of.mg G_deals_of.kp G_deals_of.b (zac (zv 0) zan))) (zv 1)))))))
/-! law -/
abbrev s_law : Stmt := top 58
abbrev N_law : List Str := ["script"]
theorem sc_law : FnScope ["script", "row", "many", "name", "own", "rows_v", "some", "rule", "turn", "at", "who", "found", "due", "one", "spot", "ranking", "there"] N_law (defScope s_law) := ⟨rfl, rfl, rfl, by decide +kernel, rfl, by decide +kernel, by decide +kernel⟩
def g_law_0 : Sm :=
    (sParF 2 3 (e2 dPlus (eC (.int 2)) (eCallR 1 taken 1 (aC (eC (.int 2)) aN))) (eCallR 1 r_law_pick 1 (aC (eCall r_law_names 0 aN) aN)))
def g_law_1 : Sm :=
    (sSet 4 (eCall r_law_told 2 (aC (eV 3) (aC (eV 2) aN))))
def g_law_2 : Sm :=
    (sIf (bOr (b1 (e2 dNeF (eCall r_names 0 aN) (eTupOf (lSeq (eCall r_law_names 0 aN))))) (bNot (b1 (eCall (r_law_alike 8) 2 (aC (eCall r_told_rule 2 (aC (eV 3) (aC (eV 2) aN))) (aC (eV 4) aN))))))
    (sRet (eC (.bl false))) sNil)
def g_law_3 : Sm :=
    (sPar3N 5 6 7 (eCall m_law_rows 1 (aC (eV 2) aN)) (eCall m_law_orders 1 (aC (eV 2) aN)) (lSeq (eV 4)))
def g_law_4 : Sm :=
    (sFor (lR1 (aC (eCallR 1 taken 1 (aC (eC (.int 3)) aN)) aN)) (gIF 8)
    (sPut 7 (eCallR 1 taken 1 (aCF (eLen (eVs 7)) aN)) (eCallR 1 taken 1 (aCF (eLen (lSeq (eV 6))) aN))))
def g_law_5 : Sm :=
    (sPar3 9 10 11 (eCallR 1 taken 1 (aCF (eLen (lSeq (eV 5))) aN)) (eCallR 1 taken 1 (aC (eV 2) aN)) (lst (nL aN)))
def g_law_6 : Sm :=
    (sIf (bOr (bNot (b1 (eCall (r_law_alike 8) 2 (aC (eCall r_dealt 2 (aCF (eTupOf (eVs 7)) (aC (eIx (lSeq (eV 5)) (eV 9)) aN))) (aC (eIx (lSeq (eV 6)) (eIx (eVs 7) (eV 9))) aN))))) (bNot (b1 (eCall (r_law_alike 8) 2 (aC (eCall r_count_people 1 (aCF (eTupOf (eVs 7)) aN)) (aC (eV 2) aN))))))
    (sRet (eC (.bl false))) sNil)
def g_law_7 : Sm :=
    (sSetV 12 (lst (nLc (lR1 (aC (eV 2) aN)) (gIF 13) (b1 (e2 dEqF (lst (nLc (lR1 (aC (eLen (lSeq (eV 5))) aN)) (gIF 14) (b1 (e2 dNeF (eIx (lSeq (eIx (lSeq (eV 6)) (eIx (eVs 7) (eV 14)))) (eV 13)) (eIx (lSeq (eIx (lSeq (eIx (lSeq (eV 5)) (eV 14))) (eV 13))) (eC (.int 0))))) (eV 14) [14])) (lst (nL aN)))) (eV 13) [13])))
def g_law_r : Sm :=
    (sSeq (sIf (bNot (b1 (eCall (r_law_alike 8) 2 (aC (eCall r_bosses 1 (aCF (eTupOf (eVs 7)) aN)) (aCF (eTupOf (lSeq (eV 12))) aN)))))
    (sRet (eC (.bl false))) sNil)
    (sSeq (sFor (lSeq (eV 6)) (gIX 15)
    (sSeq (sSet 16 (eIx (lSeq (eV 6)) (eIx (eVs 7) (eIdxL (eV 5) (e2 dPlus (e2 dPlus (eSl (eIx (lSeq (eV 5)) (eV 9)) pNo (pYes (eV 10))) (eT (aC (eV 15) aN))) (eSl (eIx (lSeq (eV 5)) (eV 9)) (pYes (e2 dPlus (eV 10) (eC (.int 1)))) pNo))))))
    (sSetV 11 (e2 dPlus (eV 11) (eIf (b1 (eCall r_law_before 3 (aC (eIx (lSeq (eIx (lSeq (eV 5)) (eV 9))) (eV 10)) (aC (eIx (lSeq (eV 16)) (eV 10)) (aC (eIx (lSeq (eIx (lSeq (eV 6)) (eIx (eVs 7) (eV 9)))) (eV 10)) aN))))) (lst (nL (aC (eV 15) aN))) (lst (nL aN)))))))
    (sRet (eCall (r_law_alike 8) 2 (aC (eCall r_lies 3 (aCF (eTupOf (eVs 7)) (aC (eIx (lSeq (eV 5)) (eV 9)) (aC (eV 10) aN)))) (aCF (eTupOf (lSeq (eV 11))) aN))))))
def g_law : Sm := sSeq g_law_0 (sSeq g_law_1 (sSeq g_law_2 (sSeq g_law_3 (sSeq g_law_4 (sSeq g_law_5 (sSeq g_law_6 (sSeq g_law_7 (g_law_r))))))))
theorem ok_law {a_law : Addr} {d_law : FuncData} (G_law : Gd K mg "law" s_law N_law a_law d_law) (Tx : Txt P w K mg fs aP ad_CHOICES kv_CHOICES ad_TOLD kv_TOLD) {a_law_told : Addr} {d_law_told : FuncData} (G_law_told : Gd K mg "_law_told" s_law_told N_law_told a_law_told d_law_told) (O_law_told : FnOk P w K mg base CX0 5 a_law_told d_law_told N_law_told (spP K (F1 w fs) r_law_told 2)) {a_law_alike : Addr} {d_law_alike : FuncData} (G_law_alike : Gd K mg "_law_alike" s_law_alike N_law_alike a_law_alike d_law_alike) (O_law_alike : FnOk P w K mg base CX0 9 a_law_alike d_law_alike N_law_alike (spP K (F1 w fs) (r_law_alike 8) 2)) {a_law_pick : Addr} {d_law_pick : FuncData} (G_law_pick : Gd K mg "_law_pick" s_law_pick N_law_pick a_law_pick d_law_pick) (O_law_pick : FnOk P w K mg base CX0 2 a_law_pick d_law_pick N_law_pick (spR K (F1 w fs) r_law_pick 1)) {a_law_rows : Addr} {d_law_rows : FuncData} (G_law_rows : Gd K mg "_law_rows" s_law_rows N_law_rows a_law_rows d_law_rows) (O_law_rows : FnOk P w K mg base CX0 2 a_law_rows d_law_rows N_law_rows (spP K (F1 w fs) m_law_rows 1)) {a_law_orders : Addr} {d_law_orders : FuncData} (G_law_orders : Gd K mg "_law_orders" s_law_orders N_law_orders a_law_orders d_law_orders) (O_law_orders : FnOk P w K mg base CX0 1 a_law_orders d_law_orders N_law_orders (spP K (F1 w fs) m_law_orders 1)) {a_law_taken : Addr} {d_law_taken : FuncData} (G_law_taken : Gd K mg "_law_taken" s_law_taken N_law_taken a_law_taken d_law_taken) (O_law_taken : FnOk P w K mg base CX0 1 a_law_taken d_law_taken N_law_taken (spR K (F1 w fs) taken 1)) {a_lies : Addr} {d_lies : FuncData} (G_lies : Gd K mg "lies" s_lies N_lies a_lies d_lies) (O_lies : FnOk P w K mg base CX0 5 a_lies d_lies N_lies (spP K (F1 w fs) r_lies 3)) {a_law_names : Addr} {d_law_names : FuncData} (G_law_names : Gd K mg "_law_names" s_law_names N_law_names a_law_names d_law_names) (O_law_names : FnOk P w K mg base CX0 1 a_law_names d_law_names N_law_names (spP K (F1 w fs) r_law_names 0)) {a_names : Addr} {d_names : FuncData} (G_names : Gd K mg "names" s_names N_names a_names d_names) (O_names : FnOk P w K mg base CX0 1 a_names d_names N_names (spP K (F1 w fs) r_names 0)) {a_bosses : Addr} {d_bosses : FuncData} (G_bosses : Gd K mg "bosses" s_bosses N_bosses a_bosses d_bosses) (O_bosses : FnOk P w K mg base CX0 5 a_bosses d_bosses N_bosses (spP K (F1 w fs) r_bosses 1)) {a_told_rule : Addr} {d_told_rule : FuncData} (G_told_rule : Gd K mg "told_rule" s_told_rule N_told_rule a_told_rule d_told_rule) (O_told_rule : FnOk P w K mg base CX0 7 a_told_rule d_told_rule N_told_rule (spP K (F1 w fs) r_told_rule 2)) {a_dealt : Addr} {d_dealt : FuncData} (G_dealt : Gd K mg "dealt" s_dealt N_dealt a_dealt d_dealt) (O_dealt : FnOk P w K mg base CX0 5 a_dealt d_dealt N_dealt (spP K (F1 w fs) r_dealt 2)) {a_count_people : Addr} {d_count_people : FuncData} (G_count_people : Gd K mg "count_people" s_count_people N_count_people a_count_people d_count_people) (O_count_people : FnOk P w K mg base CX0 3 a_count_people d_count_people N_count_people (spP K (F1 w fs) r_count_people 1)) {a_law_before : Addr} {d_law_before : FuncData} (G_law_before : Gd K mg "_law_before" s_law_before N_law_before a_law_before d_law_before) (O_law_before : FnOk P w K mg base CX0 1 a_law_before d_law_before N_law_before (spP K (F1 w fs) r_law_before 3)) (hall : (lawT g_law 17).all fun d => d = .bl true) : FnOk P w K mg base CX0 10 a_law d_law N_law (spLaw K) := by
  have sc := sc_law
  refine law_ok (F := F1 w fs) (z := 15721) (g := g_law) (N := ["script", "row", "many", "name", "own", "rows_v", "some", "rule", "turn", "at", "who", "found", "due", "one", "spot", "ranking", "there"]) G_law.fn sc (by decide) hall fun cdv A outer s H E hr => ?_
  have hu := hr.units
  have hu2 := units80 hr
  let N : List Str := ["script", "row", "many", "name", "own", "rows_v", "some", "rule", "turn", "at", "who", "found", "due", "one", "spot", "ranking", "there"]
  exact pss_cons (ps_set (i := 1) sc.nd rfl (by first | exact Or.inl rfl | exact Or.inr rfl) (pe_lst (pa_cons (pv 0) (pa_cons pe_int (pa_cons pe_int (pa_cons pe_int pa_nil))))))
    (zcons (PSf (sParF_eq _ _ _ _) (zpar (i := 2) (j := 3) rfl sc.nd rfl rfl (by decide) rfl rfl (zop oplus zint ((zcallR (i := 1) O_law_taken (hr.mono (by omega)) (by rfl) G_law_taken.mg G_law_taken.kp G_law_taken.b rfl (by first | exact Or.inl rfl | exact Or.inr (Or.inl rfl) | exact Or.inr (Or.inr rfl)) (zac zint zan)))) ((zcallR (i := 1) O_law_pick (hr.mono (by omega)) (by rfl) G_law_pick.mg G_law_pick.kp G_law_pick.b rfl (by first | exact Or.inl rfl | exact Or.inr (Or.inl rfl) | exact Or.inr (Or.inr rfl)) (zac (zcall0 O_law_names (hr.mono (by omega)) (by rfl) G_law_names.mg G_law_names.kp G_law_names.b) zan))) (by with_unfolding_all rfl)))
    (zcons (zset (i := 4) sc.nd rfl (by first | exact Or.inl rfl | exact Or.inr rfl) ((zcall O_law_told (hr.mono (by omega)) (by rfl) G_law_told.mg G_law_told.kp G_law_told.b (zac (zv 3) (zac (zv 2) zan)))))
    (zcons (zifs (PW.pt (ztor (ztc (oneF hu) (zcall0 O_names (hr.mono (by omega)) (by rfl) G_names.mg G_names.kp G_names.b) (ztupOf (by rfl) Tx.nb_tuple (PEseq (zcall0 O_law_names (hr.mono (by omega)) (by rfl) G_law_names.mg G_law_names.kp G_law_names.b)))) (ztor1 (ztnot (ztv ((zcall O_law_alike (hr.mono (by omega)) (by rfl) G_law_alike.mg G_law_alike.kp G_law_alike.b (zac ((zcall O_told_rule (hr.mono (by omega)) (by rfl) G_told_rule.mg G_told_rule.kp G_told_rule.b (zac (zv 3) (zac (zv 2) zan)))) (zac (zv 4) zan)))))))))
    (zlast (zret zbl)) znil)
    (zcons (zpar3Nc (i := 5) (j := 6) (l := 7) rfl (pg_name (i := 5) sc.nd rfl (by first | exact Or.inl rfl | exact Or.inr rfl)) (pg_name (i := 6) sc.nd rfl (by first | exact Or.inl rfl | exact Or.inr rfl)) (pg_name (i := 7) sc.nd rfl (by first | exact Or.inl rfl | exact Or.inr rfl)) ((zcall O_law_rows (hr.mono (by omega)) (by rfl) G_law_rows.mg G_law_rows.kp G_law_rows.b (zac (zv 2) zan))) ((zcall O_law_orders (hr.mono (by omega)) (by rfl) G_law_orders.mg G_law_orders.kp G_law_orders.b (zac (zv 2) zan))) (zlistOf (by rfl) Tx.nb_list (PEseq (zv 4))))
    (zcons (zfor PassesOwn.never rfl (zir1 (by rfl) Tx.nb_range (zac ((zcallR (i := 1) O_law_taken (hr.mono (by omega)) (by rfl) G_law_taken.mg G_law_taken.kp G_law_taken.b rfl (by first | exact Or.inl rfl | exact Or.inr (Or.inl rfl) | exact Or.inr (Or.inr rfl)) (zac zint zan))) zan)) (pg_name (i := 8) sc.nd rfl (by first | exact Or.inl rfl | exact Or.inr rfl)) (TgRf (gIF_eq _) (zg_name 8))
    (zlast (zput (i := 7) rfl (by first | exact Or.inl rfl | exact Or.inr (Or.inl rfl) | exact Or.inr (Or.inr rfl)) ((zcallR (i := 1) O_law_taken (hr.mono (by omega)) (by rfl) G_law_taken.mg G_law_taken.kp G_law_taken.b rfl (by first | exact Or.inl rfl | exact Or.inr (Or.inl rfl) | exact Or.inr (Or.inr rfl)) (PAf (aCF_eq _ _) (zac (zlen (by rfl) Tx.nb_len (PEseq (zv 6))) zan)))) ((zcallR (i := 1) O_law_taken (hr.mono (by omega)) (by rfl) G_law_taken.mg G_law_taken.kp G_law_taken.b rfl (by first | exact Or.inl rfl | exact Or.inr (Or.inl rfl) | exact Or.inr (Or.inr rfl)) (PAf (aCF_eq _ _) (zac (zlen (by rfl) Tx.nb_len (zvs 7)) zan)))))))
    (zcons (zpar3 (i := 9) (j := 10) (l := 11) rfl sc.nd rfl rfl rfl (by decide) (by decide) (by decide) rfl rfl rfl ((zcallR (i := 1) O_law_taken (hr.mono (by omega)) (by rfl) G_law_taken.mg G_law_taken.kp G_law_taken.b rfl (by first | exact Or.inl rfl | exact Or.inr (Or.inl rfl) | exact Or.inr (Or.inr rfl)) (PAf (aCF_eq _ _) (zac (zlen (by rfl) Tx.nb_len (PEseq (zv 5))) zan)))) ((zcallR (i := 1) O_law_taken (hr.mono (by omega)) (by rfl) G_law_taken.mg G_law_taken.kp G_law_taken.b rfl (by first | exact Or.inl rfl | exact Or.inr (Or.inl rfl) | exact Or.inr (Or.inr rfl)) (zac (zv 2) zan))) (PEnl (zl zan)) (by with_unfolding_all rfl))
    (zcons (zifs (PW.pt (ztor (ztnot (ztv ((zcall O_law_alike (hr.mono (by omega)) (by rfl) G_law_alike.mg G_law_alike.kp G_law_alike.b (zac ((zcall O_dealt (hr.mono (by omega)) (by rfl) G_dealt.mg G_dealt.kp G_dealt.b (PAf (aCF_eq _ _) (zac (ztupOf (by rfl) Tx.nb_tuple (zvs 7)) (zac (zix (PEseq (zv 5)) (zv 9)) zan))))) (zac (zix (PEseq (zv 6)) (zix (zvs 7) (zv 9))) zan)))))) (ztor1 (ztnot (ztv ((zcall O_law_alike (hr.mono (by omega)) (by rfl) G_law_alike.mg G_law_alike.kp G_law_alike.b (zac ((zcall O_count_people (hr.mono (by omega)) (by rfl) G_count_people.mg G_count_people.kp G_count_people.b (PAf (aCF_eq _ _) (zac (ztupOf (by rfl) Tx.nb_tuple (zvs 7)) zan)))) (zac (zv 2) zan)))))))))
    (zlast (zret zbl)) znil)
    (zcons (PSf (sSetV_eq _ _) (zsetLc (i := 12) rfl sc.nd rfl rfl (zir1 (by rfl) Tx.nb_range (zac (zv 2) zan)) (blkOk_by (own := [("one", 13)]) (N := N) (sc := (defScope s_law)) (by first | decide +kernel | rfl | with_unfolding_all rfl)) (TgCf (gIF_eq _) (zgc_name (by decide))) (fun _ _ _ _ _ => (pg_name (i := 13) sc.nd rfl (by first | exact Or.inl rfl | exact Or.inr rfl))) (fun _ _ _ _ _ => (ztone (ztc (oeqF hu) (PEnl (zlc rfl sc.nd (zir1 (by rfl) Tx.nb_range (zac (zlen (by rfl) Tx.nb_len (PEseq (zv 5))) zan)) (blkOk_by (own := [("spot", 14)]) (N := N) (sc := _) (by first | decide +kernel | rfl | with_unfolding_all rfl)) (TgCf (gIF_eq _) (zgc_name (by decide))) (fun _ _ _ _ _ => (pg_name (i := 14) sc.nd rfl (by first | exact Or.inl rfl | exact Or.inr rfl))) (fun _ _ _ _ _ => (ztone (ztc (oneF hu) (zix (PEseq (zix (PEseq (zv 6)) (zix (zvs 7) (zv 14)))) (zv 13)) (zix (PEseq (zix (PEseq (zix (PEseq (zv 5)) (zv 14))) (zv 13))) zint)))) (fun _ _ _ _ _ => (zv 14)))) (PEnl (zl zan))))) (fun _ _ _ _ _ => (zv 13)) (sw_true rfl rfl rfl (by decide +kernel))))
    (zcons (zifs (ztnot (ztv ((zcall O_law_alike (hr.mono (by omega)) (by rfl) G_law_alike.mg G_law_alike.kp G_law_alike.b (zac ((zcall O_bosses (hr.mono (by omega)) (by rfl) G_bosses.mg G_bosses.kp G_bosses.b (PAf (aCF_eq _ _) (zac (ztupOf (by rfl) Tx.nb_tuple (zvs 7)) zan)))) (PAf (aCF_eq _ _) (zac (ztupOf (by rfl) Tx.nb_tuple (PEseq (zv 12))) zan)))))))
    (zlast (zret zbl)) znil)
    (zcons (zfor PassesOwn.never rfl (zis (zv 6)) (pg_name (i := 15) sc.nd rfl (by first | exact Or.inl rfl | exact Or.inr rfl)) (TgRf (gIX_eq _) (zg_name 15))
    (zcons (zset (i := 16) sc.nd rfl (by first | exact Or.inl rfl | exact Or.inr rfl) (zix (PEseq (zv 6)) (zix (zvs 7) (zidxL hu2 (zv 5) (zop oplus (zop oplus (zsl (zix (PEseq (zv 5)) (zv 9)) zpno (zpyes (zv 10))) (zt (zac (zv 15) zan))) (zsl (zix (PEseq (zv 5)) (zv 9)) (zpyes (zop oplus (zv 10) zint)) zpno))))))
    (zlast (PSf (sSetV_eq _ _) (zset (i := 11) sc.nd rfl (by first | exact Or.inl rfl | exact Or.inr rfl) (zop oplus (zv 11) (zif (ztv ((zcall O_law_before (hr.mono (by omega)) (by rfl) G_law_before.mg G_law_before.kp G_law_before.b (zac (zix (PEseq (zix (PEseq (zv 5)) (zv 9))) (zv 10)) (zac (zix (PEseq (zv 16)) (zv 10)) (zac (zix (PEseq (zix (PEseq (zv 6)) (zix (zvs 7) (zv 9)))) (zv 10)) zan)))))) (PEnl (zl (zac (zv 15) zan))) (PEnl (zl zan)))))))))
    (zlast (zret ((zcall O_law_alike (hr.mono (by omega)) (by rfl) G_law_alike.mg G_law_alike.kp G_law_alike.b (zac ((zcall O_lies (hr.mono (by omega)) (by rfl) G_lies.mg G_lies.kp G_lies.b (PAf (aCF_eq _ _) (zac (ztupOf (by rfl) Tx.nb_tuple (zvs 7)) (zac (zix (PEseq (zv 5)) (zv 9)) (zac (zv 10) zan)))))) (PAf (aCF_eq _ _) (zac (ztupOf (by rfl) Tx.nb_tuple (PEseq (zv 11))) zan)))))))))))))))))
end
end Zl
set_option Elab.async false
set_option linter.all false
set_option maxRecDepth 1000000
set_option maxHeartbeats 400000
namespace Zl
open PySem L2
/-! ### 2 people -/
@[irreducible] def RW2 : List D := unT c_rows_0
@[irreducible] def OR2 : List D := unT c_dealings_0
theorem mR2 : m_rows [.int (.ofNat 2)] = .ret (.tup RW2) := by kernel_rfl
theorem mO2 : m_dealings [.int (.ofNat 2)] = .ret (.tup OR2) := by kernel_rfl
theorem mLR2 : m_law_rows [.int (.ofNat 2)] = .ret (.lst RW2) := by kernel_rfl
theorem mLO2 : m_law_orders [.int (.ofNat 2)] = .ret (.lst OR2) := by kernel_rfl
theorem RWl2 : RW2.length = 4 := by decide +kernel
theorem ORl2 : OR2.length = 2 := by decide +kernel
theorem okR2 : okKeys [] RW2 = true := by decide +kernel
/-- the dealing of a number -/
@[irreducible] def vl2 (d : D) : D := match d with
  | .int (.ofNat x) => (gtL OR2 x).getD .non
  | _ => .non
def Rv2 (g : Nat → Nat) : D := .tup (rl g 4)
def Dv2 (g : Nat → Nat) : D := .dct RW2 ((rl g 4).map vl2)
theorem cr2 {g : Nat → Nat} (hg : ∀ i, i < 4 → g i < 2) : r_check_rule [Rv2 g] = .ret .non := by
  have e1 : ((sIf (bOr (bNot (b1 (eIsi 4 (eV 0)))) (b1 (eInT true tb_CHOICES (eLen (lSeq (eV 0))))))
    sFail sNil)) [some (.v (.tup (rl g 4))), none, none] [] = .ret (.nx [some (.v (.tup (rl g 4))), none, none] []) := by kernel_rfl
  have st : ∀ (done : List D) (x : D), x ∈ enumD 0 (rl g 4) → ∀ (fr : Fr) (hp : Hz), (∃ a b : Option SV, fr = [some (.v (.tup (rl g 4))), a, b] ∧ hp = []) → ∃ fr1 fr' hp', ((g2E 1 2)) x fr = .ret fr1 ∧ ((sIf (bNot (b1 (eCall r_is_below 2 (aC (eV 2) (aC (eIxT tb_CHOICES (eLen (lSeq (eV 0)))) aN)))))
    sFail sNil)) fr1 hp = .ret (.nx fr' hp') ∧ ∃ a b : Option SV, fr' = [some (.v (.tup (rl g 4))), a, b] ∧ hp' = [] := by
    rintro done x hx _ _ ⟨a, b, rfl, rfl⟩
    obtain ⟨i, hi⟩ := List.mem_iff_getElem?.mp hx
    obtain ⟨y, h1, rfl⟩ := enumD_get _ _ _ _ hi
    obtain ⟨h3, rfl⟩ := rl_get h1
    have h4 := hg i h3
    have e0 : ((g2E 1 2)) (.tup [.int (0 + (i : Nat)), .int (.ofNat (g i))]) [some (.v (.tup (rl g 4))), a, b] = .ret [some (.v (.tup (rl g 4))), some (.v (.int (0 + (i : Nat)))), some (.v (.int (.ofNat (g i))))] := nG2 rfl
    refine ⟨_, [some (.v (.tup (rl g 4))), some (.v (.int (0 + (i : Nat)))), some (.v (.int (.ofNat (g i))))], [], e0, ?_, _, _, rfl, rfl⟩
    generalize g i = n at h4 ⊢
    match n, h4 with
    | 0, _ => kernel_rfl
    | 1, _ => kernel_rfl
    | n + 2, h => exact absurd h (by omega)
  obtain ⟨fr', hp', e2, a, b, rfl, rfl⟩ := forS_inv _ (enumD 0 (rl g 4)) [] [some (.v (.tup (rl g 4))), none, none] [] st ⟨none, none, rfl, rfl⟩
  unfold r_check_rule Rv2
  exact nBn (fr := [some (.v (.tup (rl g 4))), none, none]) rfl (nSeq e1 (nFor (nEnum (nV rfl)) e2))
theorem cp2 {g : Nat → Nat} (hg : ∀ i, i < 4 → g i < 2) : r_count_people [Rv2 g] = .ret (.int (.ofNat 2)) := by
  have e1 : ((sRetF (eIf (b1 (e2 dEqF (eLen (lSeq (eV 0))) (eC (.int 4)))) (eC (.int 2)) (eC (.int 3))))) [some (.v (.tup (rl g 4)))] [] = .ret (.rt (.int (.ofNat 2))) := by kernel_rfl
  unfold r_count_people
  exact nB (fr := [some (.v (.tup (rl g 4)))]) rfl (nSeq (nDrop (nCall (nA (nV rfl) nN) rfl (cr2 hg))) e1)
theorem do2 {g : Nat → Nat} (hg : ∀ i, i < 4 → g i < 2) : r_deals_of [Rv2 g] = .ret (Dv2 g) := by
  have st : ∀ (x y : D), y ∈ rl g 4 → ∃ fr1, ((g2E 3 4)) (.tup [x, y]) [some (.v (.tup (rl g 4))), some (.v (.int (.ofNat 2))), some (.v (.tup OR2)), none, none] = .ret fr1 ∧ ((eV 3)) fr1 [] = .ret x ∧ ((eIx (lSeq (eV 2)) (eV 4))) fr1 [] = .ret (vl2 y) := by
    intro x y hy
    obtain ⟨i, hi, rfl⟩ := rl_mem hy
    have h4 := hg i hi
    refine ⟨[some (.v (.tup (rl g 4))), some (.v (.int (.ofNat 2))), some (.v (.tup OR2)), some (.v x), some (.v (.int (.ofNat (g i))))], nG2 rfl, nV rfl, ?_⟩
    generalize g i = n at h4 ⊢
    match n, h4 with
    | 0, _ => kernel_rfl
    | 1, _ => kernel_rfl
    | n + 2, h => exact absurd h (by omega)
  have e := dcF_zip (set := (g2E 3 4)) (ek := (eV 3)) (ev := (eIx (lSeq (eV 2)) (eV 4))) (fr := [some (.v (.tup (rl g 4))), some (.v (.int (.ofNat 2))), some (.v (.tup OR2)), none, none]) (hp := []) vl2 RW2 (rl g 4) [] [] (by rw [RWl2, rl_len]) okR2 st
  rw [List.nil_append, List.nil_append] at e
  unfold r_deals_of Dv2
  exact nB (fr := [some (.v (.tup (rl g 4))), none, none, none, none]) rfl (nSeq (nSet (fr' := [some (.v (.tup (rl g 4))), some (.v (.int (.ofNat 2))), none, none, none]) (nCall (nA (nV rfl) nN) rfl (cp2 hg)) rfl) (nSeq (nSet (fr' := [some (.v (.tup (rl g 4))), some (.v (.int (.ofNat 2))), some (.v (.tup OR2)), none, none]) (nCall (nA (nV rfl) nN) rfl mO2) rfl) (nRetF (nDc (nZip (nCall (nA (nV rfl) nN) rfl mR2) (nV rfl)) rfl e))))
theorem RWt2 : RW2.all (fun r => tupL r 2 && isNon (r_check_row [r])) = true := by decide +kernel
theorem keys2 : allIx (fun i r => keyOk RW2 i r) RW2 0 = true := by decide +kernel
theorem row2 {i : Nat} {r : D} (h : gtL RW2 i = some r) : r = .tup (unT r) ∧ (unT r).length = 2 ∧ r_check_row [r] = .ret .non := by
  have hm : r ∈ RW2 := by
    rw [gtL_eq] at h
    exact List.mem_of_getElem? h
  have h2 := List.all_eq_true.mp RWt2 r hm
  rw [Bool.and_eq_true] at h2
  exact ⟨(tupL_eq h2.1).1, (tupL_eq h2.1).2, isNon_eq h2.2⟩
theorem ixr2 {g : Nat → Nat} {i : Nat} {r r' : D} (h : gtL RW2 i = some r) (hk : keyOk RW2 i r' = true) : ixD (Dv2 g) r' = .ret (vl2 (.int (.ofNat (g i)))) := by
  have hl := gtL_len h
  rw [RWl2] at hl
  unfold Dv2
  refine ixD_at (i := i) hk (by rw [List.length_map, RWl2, rl_len]) ?_
  rw [List.getElem?_map, ← gtL_eq, gtL_rl hl]
  rfl
theorem keyr2 {i : Nat} {r : D} (h : gtL RW2 i = some r) : keyOk RW2 i r = true := by
  have := allIx_at keys2 h
  rw [Nat.zero_add] at this
  exact this
theorem vlm2 {n : Nat} (h : n < 2) : gtL OR2 n = some (vl2 (.int (.ofNat n))) := by
  obtain ⟨x, e⟩ := gtL_lt (xs := OR2) (by rw [ORl2]; exact h)
  have e2 : vl2 (.int (.ofNat n)) = (gtL OR2 n).getD .non := by unfold vl2; rfl
  rw [e2, e]
  rfl
theorem ca2 : r_check_alike [.int (.ofNat 2), .int (.ofNat 2)] = .ret .non := by kernel_rfl
theorem dealt2 {g : Nat → Nat} (hg : ∀ i, i < 4 → g i < 2) {i : Nat} {r : D} (h : gtL RW2 i = some r) : r_dealt [Rv2 g, r] = .ret (vl2 (.int (.ofNat (g i)))) := by
  obtain ⟨e1, e2, e3⟩ := row2 h
  have e4 := keyr2 h
  obtain ⟨rs, rfl⟩ : ∃ rs, r = .tup rs := ⟨_, e1⟩
  have e2 : rs.length = 2 := e2
  unfold r_dealt
  exact nB (fr := [some (.v (Rv2 g)), some (.v (.tup rs))]) rfl (nSeq (nDrop (nCall (nA (nV rfl) nN) rfl (cr2 hg))) (nSeq (nDrop (nCall (nA (nV rfl) nN) rfl e3)) (nSeq (nDrop (nCall (nA (nCall (nA (nV rfl) nN) rfl (cp2 hg)) (nAF (nLen (nLseqT (nV rfl)) e2) nN)) rfl ca2)) (nRet (nIxD (nCall (nA (nV rfl) nN) rfl (do2 hg)) (nV rfl) (ixr2 h e4))))))
def bsE2 (q : Nat) (r x : D) : T D := ((e2 dEqF (eIx (lSeq (eV 3)) (eV 1)) (eIx (lSeq (eIx (lSeq (eV 2)) (eV 1))) (eC (.int 0))))) [none, some (.v (.int (.ofNat q))), some (.v r), some (.v x)] []
theorem bsK2 : RW2.all (fun r => OR2.all fun x => (List.range 2).all fun q => isBl (bsE2 q r x)) = true := by decide +kernel
theorem bsE_ok2 {i q n : Nat} {r : D} (h : gtL RW2 i = some r) (hq : q < 2) (hn : n < 2) : bsE2 q r (vl2 (.int (.ofNat n))) = .ret (.bl (unBl (bsE2 q r (vl2 (.int (.ofNat n)))))) := by
  refine isBl_eq ?_
  have h1 : r ∈ RW2 := by
    rw [gtL_eq] at h
    exact List.mem_of_getElem? h
  have h2 : vl2 (.int (.ofNat n)) ∈ OR2 := by
    have := vlm2 hn
    rw [gtL_eq] at this
    exact List.mem_of_getElem? this
  exact List.all_eq_true.mp (List.all_eq_true.mp (List.all_eq_true.mp bsK2 r h1) _ h2) q (List.mem_range.mpr hq)
def rw2 (i : Nat) : D := (gtL RW2 i).getD .non
theorem rwo2 {i : Nat} (h : i < 4) : gtL RW2 i = some (rw2 i) := by
  obtain ⟨x, e⟩ := gtL_lt (xs := RW2) (by rw [RWl2]; exact h)
  unfold rw2
  rw [e]
  rfl
/-- does q get the first thing at row i -/
def bf2 (g : Nat → Nat) (q i : Nat) : Bool := unBl (bsE2 q (rw2 i) (vl2 (.int (.ofNat (g i)))))
def bs2 (g : Nat → Nat) (q : Nat) : Bool := (List.range 4).all (bf2 g q)
def bp2 (q : Nat) (d : D) : Bool := match d with
  | .tup [r, x] => unBl (bsE2 q r x)
  | _ => false
theorem isb2 {g : Nat → Nat} (hg : ∀ i, i < 4 → g i < 2) {q : Nat} (hq : q < 2) : r_is_boss [Dv2 g, .int (.ofNat q)] = .ret (.bl (bs2 g q)) := by
  have ez : zipD RW2 ((rl g 4).map vl2) = (List.range 4).map fun i => D.tup [rw2 i, vl2 (.int (.ofNat (g i)))] := zip_range vl2 RWl2
  have st : ∀ d ∈ zipD RW2 ((rl g 4).map vl2), ∃ fr1, ((g2E 2 3)) d [some (.v (Dv2 g)), some (.v (.int (.ofNat q))), none, none] = .ret fr1 ∧ bYes fr1 [] = .ret ((fun _ => true) d) ∧ ((fun _ => true) d = true → ((e2 dEqF (eIx (lSeq (eV 3)) (eV 1)) (eIx (lSeq (eIx (lSeq (eV 2)) (eV 1))) (eC (.int 0))))) fr1 [] = .ret ((fun d => D.bl (bp2 q d)) d)) := by
    intro d hd
    rw [ez] at hd
    obtain ⟨i, hi, rfl⟩ := List.mem_map.mp hd
    have hi := List.mem_range.mp hi
    refine ⟨[some (.v (Dv2 g)), some (.v (.int (.ofNat q))), some (.v (rw2 i)), some (.v (vl2 (.int (.ofNat (g i)))))], nG2 rfl, rfl, fun _ => ?_⟩
    exact bsE_ok2 (rwo2 hi) hq (hg i hi)
  have e := lcF_map (set := (g2E 2 3)) (t := bYes) (e := (e2 dEqF (eIx (lSeq (eV 3)) (eV 1)) (eIx (lSeq (eIx (lSeq (eV 2)) (eV 1))) (eC (.int 0))))) (fr := [some (.v (Dv2 g)), some (.v (.int (.ofNat q))), none, none]) (hp := []) (fun _ => true) (fun d => D.bl (bp2 q d)) _ st
  rw [List.filter_eq_self.mpr (fun _ _ => rfl)] at e
  have e2 : allBs ((zipD RW2 ((rl g 4).map vl2)).map (bp2 q)) = bs2 g q := by
    rw [allBs_map, ez, List.all_map]
    rfl
  unfold r_is_boss
  exact nB (fr := [some (.v (Dv2 g)), some (.v (.int (.ofNat q))), none, none]) rfl (nRetF (nAll (nLc1 (nItems (nV rfl)) (few_of (by rw [ez]; simp)) rfl e) (bools_map _ _) e2))
def QS2 : List D := [.int (.ofNat 0), .int (.ofNat 1)]
theorem rgQ2 : rng1 [.int (.ofNat 2)] = .ret QS2 := by kernel_rfl
theorem memQ2 {d : D} (h : d ∈ QS2) : ∃ q, q < 2 ∧ d = .int (.ofNat q) := by
  unfold QS2 at h
  simp only [List.mem_cons, List.not_mem_nil, or_false] at h
  rcases h with rfl | rfl
  · exact ⟨0, by decide, rfl⟩
  · exact ⟨1, by decide, rfl⟩
def bq2 (g : Nat → Nat) (d : D) : Bool := match d with
  | .int (.ofNat q) => bs2 g q
  | _ => false
def due2 (g : Nat → Nat) : List D := QS2.filter (bq2 g)
theorem bosses2 {g : Nat → Nat} (hg : ∀ i, i < 4 → g i < 2) : r_bosses [Rv2 g] = .ret (.tup (due2 g)) := by
  have st : ∀ d ∈ QS2, ∃ fr1, ((gIF 3)) d [some (.v (Rv2 g)), some (.v (.int (.ofNat 2))), some (.v (Dv2 g)), none] = .ret fr1 ∧ ((b1 (eCall r_is_boss 2 (aC (eV 2) (aC (eV 3) aN))))) fr1 [] = .ret (bq2 g d) ∧ (bq2 g d = true → ((eV 3)) fr1 [] = .ret (id d)) := by
    intro d hd
    obtain ⟨q, hq, rfl⟩ := memQ2 hd
    refine ⟨[some (.v (Rv2 g)), some (.v (.int (.ofNat 2))), some (.v (Dv2 g)), some (.v (.int (.ofNat q)))], nGF rfl, nB1 (nCall (nA (nV rfl) (nA (nV rfl) nN)) rfl (isb2 hg hq)), fun _ => nV rfl⟩
  have e := lcF_map (set := (gIF 3)) (t := (b1 (eCall r_is_boss 2 (aC (eV 2) (aC (eV 3) aN))))) (e := (eV 3)) (fr := [some (.v (Rv2 g)), some (.v (.int (.ofNat 2))), some (.v (Dv2 g)), none]) (hp := []) (bq2 g) id _ st
  rw [List.map_id] at e
  unfold r_bosses
  exact nB (fr := [some (.v (Rv2 g)), none, none, none]) rfl (nSeq (nSet (fr' := [some (.v (Rv2 g)), some (.v (.int (.ofNat 2))), none, none]) (nCall (nA (nV rfl) nN) rfl (cp2 hg)) rfl) (nSeq (nSet (fr' := [some (.v (Rv2 g)), some (.v (.int (.ofNat 2))), some (.v (Dv2 g)), none]) (nCall (nA (nV rfl) nN) rfl (do2 hg)) rfl) (nRetF (nTup (nLc1 (nR1 (nA (nV rfl) nN) rgQ2) (by decide) rfl e)))))
/-- the thing of q -/
def th2 (x : D) (q : Nat) : Nat := match gtL (unT x) q with
  | some (.int (.ofNat t)) => t
  | _ => 0
def thK2 (x : D) (q : Nat) : Bool := match gtL (unT x) q with
  | some (.int (.ofNat t)) => Nat.blt t 2
  | _ => false
theorem thC2 : OR2.all (fun x => tupL x 2 && (List.range 2).all fun q => thK2 x q) = true := by decide +kernel
theorem th_ok2 {n q : Nat} (hn : n < 2) (hq : q < 2) : ∃ xs, vl2 (.int (.ofNat n)) = .tup xs ∧ gtL xs q = some (.int (.ofNat (th2 (vl2 (.int (.ofNat n))) q))) ∧ th2 (vl2 (.int (.ofNat n))) q < 2 := by
  have hm : vl2 (.int (.ofNat n)) ∈ OR2 := by
    have := vlm2 hn
    rw [gtL_eq] at this
    exact List.mem_of_getElem? this
  have h := List.all_eq_true.mp thC2 _ hm
  rw [Bool.and_eq_true] at h
  have h2 := List.all_eq_true.mp h.2 q (List.mem_range.mpr hq)
  refine ⟨_, (tupL_eq h.1).1, ?_⟩
  unfold thK2 at h2
  unfold th2
  split at h2
  · rename_i t e
    rw [e]
    exact ⟨rfl, Nat.blt_eq.mp h2⟩
  · cases h2
def ixE2 (tr : D) (t : Nat) : T D := (eIdxF (eC tr) (eC (.int (.ofNat t)))) [] []
def tro2 (r : D) (q : Nat) : D := (gtL (unT r) q).getD .non
def trK2 (r : D) (q : Nat) : Bool := match gtL (unT r) q with
  | some tr => (List.range 2).all fun t => isN' (ixE2 tr t)
  | none => false
theorem trC2 : RW2.all (fun r => (List.range 2).all fun q => trK2 r q) = true := by decide +kernel
theorem tr_ok2 {i q : Nat} {r : D} (h : gtL RW2 i = some r) (hq : q < 2) : gtL (unT r) q = some (tro2 r q) ∧ ∀ t, t < 2 → ixE2 (tro2 r q) t = .ret (.int (.ofNat (unN (ixE2 (tro2 r q) t)))) := by
  have hm : r ∈ RW2 := by
    rw [gtL_eq] at h
    exact List.mem_of_getElem? h
  have h2 := List.all_eq_true.mp (List.all_eq_true.mp trC2 r hm) q (List.mem_range.mpr hq)
  unfold trK2 at h2
  unfold tro2
  split at h2
  · rename_i tr e
    rw [e]
    exact ⟨rfl, fun t ht => isN_eq (List.all_eq_true.mp h2 t (List.mem_range.mpr ht))⟩
  · cases h2
def ixO2 (d : D) : Nat := (fstIx d OR2 0).getD 0
/-- the place of the row where q has another ranking -/
def jn2 (i : Nat) (r : D) (q : Nat) (rk : D) : Nat := i + ixO2 rk * 2 ^ (2 - 1 - q) - ixO2 (tro2 r q) * 2 ^ (2 - 1 - q)
def kx2 (i q : Nat) (rk : D) : T D := ((e2 dPlus (e2 dPlus (eSl (eIx (lSeq (eV 5)) (eV 9)) pNo (pYes (eV 10))) (eT (aC (eV 15) aN))) (eSl (eIx (lSeq (eV 5)) (eV 9)) (pYes (e2 dPlus (eV 10) (eC (.int 1)))) pNo))) [none, none, none, none, none, some (.v (.lst RW2)), none, none, none, some (.v (.int (.ofNat i))), some (.v (.int (.ofNat q))), none, none, none, none, some (.v rk), none] []
def kyE2 (i : Nat) (r : D) (q : Nat) (rk : D) : Bool := match gtL RW2 (jn2 i r q rk) with
  | some y => isEq (r_replaced [r, .int (.ofNat q), rk]) y && isEq (kx2 i q rk) y
  | none => false
def kyK2 (i : Nat) (r : D) : Bool := (List.range 2).all fun q => OR2.all fun rk => kyE2 i r q rk
def kyR2 (lo n : Nat) : Bool := allIx kyK2 ((RW2.drop lo).take n) lo
theorem ixC2 : allIx (fun i r => someN (fstIx r RW2 0) i && okD 12 r) RW2 0 = true := by decide +kernel
theorem okC2 : (okD 12 (.lst RW2) && allO (okD 12) RW2) = true := by decide +kernel
theorem kyC2_0 : kyR2 0 4 = true := by decide +kernel
theorem ky_at2 {i : Nat} {r : D} (h : gtL RW2 i = some r) : kyK2 i r = true := by
  have hl := gtL_len h
  rw [RWl2] at hl
  have go : ∀ (lo : Nat), kyR2 lo 4 = true → lo ≤ i → i < lo + 4 → kyK2 i r = true := by
    intro lo hk h1 h2
    unfold kyR2 at hk
    have e : gtL ((RW2.drop lo).take 4) (i - lo) = some r := by
      rw [gtL_eq] at h ⊢
      rw [List.getElem?_take, if_pos (by omega), List.getElem?_drop]
      rw [show lo + (i - lo) = i by omega]
      exact h
    have := allIx_at hk e
    rw [show lo + (i - lo) = i by omega] at this
    exact this
  by_cases h0 : i < 4
  · exact go 0 kyC2_0 (by omega) h0
  omega
theorem ky_ok2 {i q : Nat} {r rk : D} (h : gtL RW2 i = some r) (hq : q < 2) (hk : rk ∈ OR2) : ∃ y, gtL RW2 (jn2 i r q rk) = some y ∧ jn2 i r q rk < 4 ∧ r_replaced [r, .int (.ofNat q), rk] = .ret y ∧ kx2 i q rk = .ret y ∧ fstIx y RW2 0 = some (jn2 i r q rk) ∧ okD 12 y = true := by
  have h2 := List.all_eq_true.mp (List.all_eq_true.mp (ky_at2 h) q (List.mem_range.mpr hq)) rk hk
  unfold kyE2 at h2
  split at h2
  · rename_i y e
    rw [Bool.and_eq_true] at h2
    have h3 := allIx_at ixC2 e
    rw [Nat.zero_add, Bool.and_eq_true] at h3
    have h4 := gtL_len e
    rw [RWl2] at h4
    exact ⟨y, e, h4, isEq_eq h2.1, isEq_eq h2.2, someN_eq h3.1, h3.2⟩
  · cases h2
/-- the place of what q gets by a ranking, the place of what it gets -/
def py2 (g : Nat → Nat) (i q : Nat) (rk : D) : Nat := unN (ixE2 (tro2 (rw2 i) q) (th2 (vl2 (.int (.ofNat (g (jn2 i (rw2 i) q rk))))) q))
def px2 (g : Nat → Nat) (i q : Nat) : Nat := unN (ixE2 (tro2 (rw2 i) q) (th2 (vl2 (.int (.ofNat (g i)))) q))
def cl2 (g : Nat → Nat) (i q : Nat) (rk : D) : Bool := Nat.blt (py2 g i q rk) (px2 g i q)
theorem ORt2 : OR2.all isTup = true := by decide +kernel
theorem cpe2 {q : Nat} (h : q < 2) : r_check_person [.int (.ofNat q), .int (.ofNat 2)] = .ret .non := by
  match q, h with
  | 0, _ => kernel_rfl
  | 1, _ => kernel_rfl
  | q + 2, h => exact absurd h (by omega)
theorem lies2 {g : Nat → Nat} (hg : ∀ i, i < 4 → g i < 2) {i q : Nat} (hi : i < 4) (hq : q < 2) : r_lies [Rv2 g, rw2 i, .int (.ofNat q)] = .ret (.tup (OR2.filter (cl2 g i q))) := by
  have h := rwo2 hi
  obtain ⟨z1, z2, z3⟩ := row2 h
  have e4 := keyr2 h
  obtain ⟨e5, e6⟩ := tr_ok2 h hq
  have eky := fun rk hk => ky_ok2 (rk := rk) h hq hk
  have epx : ixE2 (tro2 (rw2 i) q) (th2 (vl2 (.int (.ofNat (g i)))) q) = .ret (.int (.ofNat (px2 g i q))) := by
    obtain ⟨xs, g1, g2, g3⟩ := th_ok2 (hg i hi) hq
    exact e6 _ g3
  have epy : ∀ rk ∈ OR2, ixE2 (tro2 (rw2 i) q) (th2 (vl2 (.int (.ofNat (g (jn2 i (rw2 i) q rk))))) q) = .ret (.int (.ofNat (py2 g i q rk))) := by
    intro rk hk
    obtain ⟨y, _, j1, _⟩ := eky rk hk
    obtain ⟨xs, g1, g2, g3⟩ := th_ok2 (hg _ j1) hq
    exact e6 _ g3
  generalize rw2 i = r at *
  obtain ⟨rs, rfl⟩ : ∃ rs, r = .tup rs := ⟨_, z1⟩
  have z2 : rs.length = 2 := z2
  have e5 : gtL rs q = some (tro2 (.tup rs) q) := e5
  obtain ⟨ds, d1, d2, d3⟩ := th_ok2 (hg i hi) hq
  have J0 : ∀ (done : List D) (x : D) (rest : List D), OR2 = done ++ x :: rest → ∀ fr hp, (∃ a b, fr = [some (.v (Rv2 g)), some (.v (.tup rs)), some (.v (.int (.ofNat q))), some (.v (Dv2 g)), some (.v (tro2 (.tup rs) q)), some (.v (.int (.ofNat (px2 g i q)))), some (.r 0), a, b] ∧ hp = [done.filter (cl2 g i q)]) → ∃ fr1 fr' hp', ((gIX 7)) x fr = .ret fr1 ∧ ((sSeq (sSet 8 (eIx (lSeq (eIxD (eV 3) (eCall r_replaced 3 (aC (eV 1) (aC (eV 2) (aC (eV 7) aN)))))) (eV 2)))
    (sIf (b1 (e2 dLt (eIdxF (eV 4) (eV 8)) (eV 5)))
    (sApp 6 (eV 7)) sNil))) fr1 hp = .ret (.nx fr' hp') ∧ ∃ a b, fr' = [some (.v (Rv2 g)), some (.v (.tup rs)), some (.v (.int (.ofNat q))), some (.v (Dv2 g)), some (.v (tro2 (.tup rs) q)), some (.v (.int (.ofNat (px2 g i q)))), some (.r 0), a, b] ∧ hp' = [(done ++ [x]).filter (cl2 g i q)] := by
    rintro done x rest eo _ _ ⟨a, b, rfl, rfl⟩
    have hx : x ∈ OR2 := by rw [eo]; simp
    have hl : done.length ≤ 2 := by
      have := ORl2
      rw [eo] at this
      simp at this
      omega
    have ht : ∀ d ∈ done ++ [x], isTup d = true := fun d hd => List.all_eq_true.mp ORt2 d (by rw [eo]; simp at hd ⊢; rcases hd with z | z <;> simp [z])
    have eyx := epy x hx
    obtain ⟨y, j0, j1, j3, j4, j5, j6⟩ := eky x hx
    obtain ⟨ys, y1, y2, y3⟩ := th_ok2 (hg _ j1) hq
    have hix := ixr2 (g := g) j0 (keyr2 j0)
    rw [y1] at hix eyx y2
    have hc : cl2 g i q x = Nat.blt (py2 g i q x) (px2 g i q) := rfl
    refine ⟨[some (.v (Rv2 g)), some (.v (.tup rs)), some (.v (.int (.ofNat q))), some (.v (Dv2 g)), some (.v (tro2 (.tup rs) q)), some (.v (.int (.ofNat (px2 g i q)))), some (.r 0), some (.v x), b], [some (.v (Rv2 g)), some (.v (.tup rs)), some (.v (.int (.ofNat q))), some (.v (Dv2 g)), some (.v (tro2 (.tup rs) q)), some (.v (.int (.ofNat (px2 g i q)))), some (.r 0), some (.v x), some (.v (.int (.ofNat (th2 (.tup ys) q))))], [(done ++ [x]).filter (cl2 g i q)], nGI rfl, ?_, _, _, rfl, rfl⟩
    refine nSeq (nSet (nIx (nLseqT (nIxD (nV rfl) (nCall (nA (nV rfl) (nA (nV rfl) (nA (nV rfl) nN))) rfl j3) hix)) (nV rfl) y2) rfl) ?_
    rw [List.filter_append]
    have okf : lstOk (done.filter (cl2 g i q)) = true := lstOk_tups fun d hd => ht d (by simp [(List.mem_filter.mp hd).1])
    have cond : ∀ b, cl2 g i q x = b → b1 (e2 dLt (eIdxF (eV 4) (eV 8)) (eV 5)) [some (.v (Rv2 g)), some (.v (.tup rs)), some (.v (.int (.ofNat q))), some (.v (Dv2 g)), some (.v (tro2 (.tup rs) q)), some (.v (.int (.ofNat (px2 g i q)))), some (.r 0), some (.v x), some (.v (.int (.ofNat (th2 (.tup ys) q))))] [done.filter (cl2 g i q)] = .ret b := by
      intro b hb
      have h8 : eIdxF (eV 4) (eV 8) [some (.v (Rv2 g)), some (.v (.tup rs)), some (.v (.int (.ofNat q))), some (.v (Dv2 g)), some (.v (tro2 (.tup rs) q)), some (.v (.int (.ofNat (px2 g i q)))), some (.r 0), some (.v x), some (.v (.int (.ofNat (th2 (.tup ys) q))))] [done.filter (cl2 g i q)] = ixE2 (tro2 (.tup rs) q) (th2 (.tup ys) q) := kIdxF rfl rfl
      refine nB1 (n2 (h8.trans eyx) (nV rfl) ?_)
      rw [← hb, hc]
      exact dLt_nat _ _
    cases qc : cl2 g i q x with
    | true =>
      refine nIfT (cond true qc) (nApp (n := 0) (xs := done.filter (cl2 g i q)) rfl rfl ?_ (nV rfl) ?_ ?_)
      · rw [okf, few_of (Nat.le_trans (Nat.le_trans (List.length_filter_le _ _) hl) (by decide))]
        rfl
      · exact lstOk_tups fun d hd => ht d (by simp at hd ⊢; rcases hd with z | z <;> simp [z])
      · rw [List.filter_cons_of_pos qc]
        rfl
    | false =>
      refine nIfF (cond false qc) ?_
      rw [List.filter_cons_of_neg (by rw [qc]; exact Bool.false_ne_true), List.filter_nil, List.append_nil]
      rfl
  obtain ⟨fr', hp', e7, a, b, rfl, rfl⟩ := forS_pre _ OR2 J0 OR2 [] [some (.v (Rv2 g)), some (.v (.tup rs)), some (.v (.int (.ofNat q))), some (.v (Dv2 g)), some (.v (tro2 (.tup rs) q)), some (.v (.int (.ofNat (px2 g i q)))), some (.r 0), none, none] [[]] rfl ⟨none, none, rfl, rfl⟩
  have okF : lstOk (OR2.filter (cl2 g i q)) = true := lstOk_tups fun d hd => List.all_eq_true.mp ORt2 d (List.mem_filter.mp hd).1
  have hrd := ixr2 (g := g) h e4
  rw [d1] at hrd epx d2
  have h50 : (eIx (lSeq (eIxD (eV 3) (eV 1))) (eV 2)) [some (.v (Rv2 g)), some (.v (.tup rs)), some (.v (.int (.ofNat q))), some (.v (Dv2 g)), some (.v (tro2 (.tup rs) q)), none, none, none, none] [] = .ret (.int (.ofNat (th2 (.tup ds) q))) := nIx (nLseqT (nIxD (nV rfl) (nV rfl) hrd)) (nV rfl) d2
  have h5 : (eIdxF (eV 4) (eIx (lSeq (eIxD (eV 3) (eV 1))) (eV 2))) [some (.v (Rv2 g)), some (.v (.tup rs)), some (.v (.int (.ofNat q))), some (.v (Dv2 g)), some (.v (tro2 (.tup rs) q)), none, none, none, none] [] = ixE2 (tro2 (.tup rs) q) (th2 (.tup ds) q) := kIdxF rfl h50
  unfold r_lies
  exact nB (fr := [some (.v (Rv2 g)), some (.v (.tup rs)), some (.v (.int (.ofNat q))), none, none, none, none, none, none]) rfl (nSeq (nDrop (nCall (nA (nV rfl) nN) rfl (cr2 hg))) (nSeq (nDrop (nCall (nA (nV rfl) nN) rfl z3)) (nSeq (nDrop (nCall (nA (nCall (nA (nV rfl) nN) rfl (cp2 hg)) (nAF (nLen (nLseqT (nV rfl)) z2) nN)) rfl ca2)) (nSeq (nDrop (nCall (nA (nV rfl) (nAF (nLen (nLseqT (nV rfl)) z2) nN)) rfl (cpe2 hq)))
    (nSeq (nSet (fr' := [some (.v (Rv2 g)), some (.v (.tup rs)), some (.v (.int (.ofNat q))), some (.v (Dv2 g)), none, none, none, none, none]) (nCall (nA (nV rfl) nN) rfl (do2 hg)) rfl) (nSeq (nSet (fr' := [some (.v (Rv2 g)), some (.v (.tup rs)), some (.v (.int (.ofNat q))), some (.v (Dv2 g)), some (.v (tro2 (.tup rs) q)), none, none, none, none]) (nIx (nLseqT (nV rfl)) (nV rfl) e5) rfl)
    (nSeq (nSetV (fr' := [some (.v (Rv2 g)), some (.v (.tup rs)), some (.v (.int (.ofNat q))), some (.v (Dv2 g)), some (.v (tro2 (.tup rs) q)), some (.v (.int (.ofNat (px2 g i q)))), none, none, none]) (h5.trans epx) rfl) (nSeq (nNew (fr' := [some (.v (Rv2 g)), some (.v (.tup rs)), some (.v (.int (.ofNat q))), some (.v (Dv2 g)), some (.v (tro2 (.tup rs) q)), some (.v (.int (.ofNat (px2 g i q)))), some (.r 0), none, none]) (hp' := [[]]) (xs := []) rfl rfl rfl rfl) (nSeq (nFor (nLseqT (nCall (nAF (nLen (nLseqT (nV rfl)) z2) nN) rfl mO2)) e7) (nRetF (nTup (nVs rfl rfl okF))))))))))))
theorem l4_2 {nm ow : Option SV} {g : Nat → Nat} (hg : ∀ i, i < 4 → g i < 2) : (g_law_4 [none, some .row, some (.v (.int (.ofNat 2))), nm, ow, some (.v (.lst RW2)), some (.v (.lst OR2)), some (.r 0), none, none, none, none, none, none, none, none, none] [rl g 4]).all fun o => ∃ t g', (∀ i, i < 4 → g' i < 2) ∧ o = .nx [none, some .row, some (.v (.int (.ofNat 2))), nm, ow, some (.v (.lst RW2)), some (.v (.lst OR2)), some (.r 0), t, none, none, none, none, none, none, none, none] [rl g' 4] := by
  unfold g_law_4
  refine sFor_draw (by decide) (nTaken (n := 3) (nA nC nN) rfl (by decide)) fun n hn => ?_
  refine T.all_mono ?_ (forS_all (fun fr hp => ∃ t g', (∀ i, i < 4 → g' i < 2) ∧ fr = [none, some .row, some (.v (.int (.ofNat 2))), nm, ow, some (.v (.lst RW2)), some (.v (.lst OR2)), some (.r 0), t, none, none, none, none, none, none, none, none] ∧ hp = [rl g' 4]) (upto 0 n) _ _ (fun x hx fr hp h => ?_) ⟨none, g, hg, rfl, rfl⟩)
  · rintro o ⟨fr', hp', rfl, t, g', h1, rfl, rfl⟩
    exact ⟨t, g', h1, rfl⟩
  · obtain ⟨t, g', h1, rfl, rfl⟩ := h
    refine ⟨[none, some .row, some (.v (.int (.ofNat 2))), nm, ow, some (.v (.lst RW2)), some (.v (.lst OR2)), some (.r 0), some (.v x), none, none, none, none, none, none, none, none], nGF rfl, ?_⟩
    refine T.all_mono ?_ (sPut_all (n := 4) (c := 2) rfl (nTaken (nAF (nLen (nLseqL (nV rfl)) ORl2) nN) rfl (by decide)) (nTaken (nAF (nLen (nVs rfl rfl (lstOk_rl _ _)) (rl_len _ _)) nN) rfl (by decide)) h1)
    rintro o ⟨g2, h2, rfl⟩
    exact ⟨_, _, rfl, _, g2, h2, rfl, rfl⟩
theorem l5_2 {nm ow t : Option SV} {g : Nat → Nat} : (g_law_5 [none, some .row, some (.v (.int (.ofNat 2))), nm, ow, some (.v (.lst RW2)), some (.v (.lst OR2)), some (.r 0), t, none, none, none, none, none, none, none, none] [rl g 4]).all fun o => ∃ i q, i < 4 ∧ q < 2 ∧ o = .nx [none, some .row, some (.v (.int (.ofNat 2))), nm, ow, some (.v (.lst RW2)), some (.v (.lst OR2)), some (.r 0), t, some (.v (.int (.ofNat i))), some (.v (.int (.ofNat q))), some (.v (.lst [])), none, none, none, none, none] [rl g 4] := by
  unfold g_law_5 sPar3
  rw [nTaken (n := 4) (nAF (nLen (nLseqL (nV rfl)) RWl2) nN) rfl (by decide)]
  intro i hi
  show ((eCallR 1 taken 1 (aC (eV 2) aN) [none, some .row, some (.v (.int (.ofNat 2))), nm, ow, some (.v (.lst RW2)), some (.v (.lst OR2)), some (.r 0), t, none, none, none, none, none, none, none, none] [rl g 4]).bind _).all _
  rw [nTaken (n := 2) (nA (nV rfl) nN) rfl (by decide)]
  intro q hq
  exact ⟨i, q, hi, hq, rfl⟩
theorem alV2 : (List.range 2).all (fun n => isTr (r_law_alike 8 [vl2 (.int (.ofNat n)), vl2 (.int (.ofNat n))])) = true := by decide +kernel
theorem alP2 : r_law_alike 8 [.int (.ofNat 2), .int (.ofNat 2)] = .ret (.bl true) := by kernel_rfl
theorem alQ2 : allBL 2 (fun bs => isTr (r_law_alike 8 [.tup (fl bs QS2), .tup (fl bs QS2)])) = true := by decide +kernel
theorem alO2 : allBL 2 (fun bs => isTr (r_law_alike 8 [.tup (fl bs OR2), .tup (fl bs OR2)])) = true := by decide +kernel
theorem l6_2 {nm ow t : Option SV} {g : Nat → Nat} (hg : ∀ i, i < 4 → g i < 2) {i q : Nat} (hi : i < 4) : g_law_6 [none, some .row, some (.v (.int (.ofNat 2))), nm, ow, some (.v (.lst RW2)), some (.v (.lst OR2)), some (.r 0), t, some (.v (.int (.ofNat i))), some (.v (.int (.ofNat q))), some (.v (.lst [])), none, none, none, none, none] [rl g 4] = .ret (.nx [none, some .row, some (.v (.int (.ofNat 2))), nm, ow, some (.v (.lst RW2)), some (.v (.lst OR2)), some (.r 0), t, some (.v (.int (.ofNat i))), some (.v (.int (.ofNat q))), some (.v (.lst [])), none, none, none, none, none] [rl g 4]) := by
  have h1 := isTr_eq (List.all_eq_true.mp alV2 (g i) (List.mem_range.mpr (hg i hi)))
  unfold g_law_6
  exact nIfF (nOrF (nNot (nB1 (nCall (nA (nCall (nAF (nTup (nVs rfl rfl (lstOk_rl _ _))) (nA (nIx (nLseqL (nV rfl)) (nV rfl) (rwo2 hi)) nN)) rfl (dealt2 hg (rwo2 hi))) (nA (nIx (nLseqL (nV rfl)) (nIx (nVs rfl rfl (lstOk_rl _ _)) (nV rfl) (gtL_rl hi)) (vlm2 (hg i hi))) nN)) rfl h1)) rfl)
    (nNot (nB1 (nCall (nA (nCall (nAF (nTup (nVs rfl rfl (lstOk_rl _ _))) nN) rfl (cp2 hg)) (nA (nV rfl) nN)) rfl alP2)) rfl)) nNil
def spE2 (q : Nat) (r x : D) : T Bool := (b1 (e2 dNeF (eIx (lSeq (eC x)) (eC (.int (.ofNat q)))) (eIx (lSeq (eIx (lSeq (eC r)) (eC (.int (.ofNat q))))) (eC (.int 0))))) [] []
def spK2 (q : Nat) (r x : D) : Bool := match spE2 q r x with
  | .ret b => b == !unBl (bsE2 q r x)
  | _ => false
theorem spC2 : RW2.all (fun r => OR2.all fun x => (List.range 2).all fun q => spK2 q r x) = true := by decide +kernel
theorem sp_ok2 {k q : Nat} {g : Nat → Nat} (hg : ∀ i, i < 4 → g i < 2) (hk : k < 4) (hq : q < 2) : spE2 q (rw2 k) (vl2 (.int (.ofNat (g k)))) = .ret (!bf2 g q k) := by
  have h1 : rw2 k ∈ RW2 := by
    have := rwo2 hk
    rw [gtL_eq] at this
    exact List.mem_of_getElem? this
  have h2 : vl2 (.int (.ofNat (g k))) ∈ OR2 := by
    have := vlm2 (hg k hk)
    rw [gtL_eq] at this
    exact List.mem_of_getElem? this
  have h := List.all_eq_true.mp (List.all_eq_true.mp (List.all_eq_true.mp spC2 _ h1) _ h2) q (List.mem_range.mpr hq)
  unfold spK2 at h
  split at h
  · rename_i b e
    rw [e, eq_of_beq h]
    rfl
  · cases h
theorem rgL2 : rng1 [.int (.ofNat 4)] = .ret (rl (fun i => i) 4) := by kernel_rfl
def ib2 (g : Nat → Nat) (q : Nat) (d : D) : Bool := match d with
  | .int (.ofNat k) => !bf2 g q k
  | _ => false
theorem l7_2 {nm ow t : Option SV} {g : Nat → Nat} (hg : ∀ i, i < 4 → g i < 2) {i q : Nat} : g_law_7 [none, some .row, some (.v (.int (.ofNat 2))), nm, ow, some (.v (.lst RW2)), some (.v (.lst OR2)), some (.r 0), t, some (.v (.int (.ofNat i))), some (.v (.int (.ofNat q))), some (.v (.lst [])), none, none, none, none, none] [rl g 4] = .ret (.nx [none, some .row, some (.v (.int (.ofNat 2))), nm, ow, some (.v (.lst RW2)), some (.v (.lst OR2)), some (.r 0), t, some (.v (.int (.ofNat i))), some (.v (.int (.ofNat q))), some (.v (.lst [])), some (.v (.lst (due2 g))), none, none, none, none] [rl g 4]) := by
  have st : ∀ d ∈ QS2, ∃ fr1, ((gIF 13)) d [none, some .row, some (.v (.int (.ofNat 2))), nm, ow, some (.v (.lst RW2)), some (.v (.lst OR2)), some (.r 0), t, some (.v (.int (.ofNat i))), some (.v (.int (.ofNat q))), some (.v (.lst [])), none, none, none, none, none] = .ret fr1 ∧ ((b1 (e2 dEqF (lst (nLc (lR1 (aC (eLen (lSeq (eV 5))) aN)) (gIF 14) (b1 (e2 dNeF (eIx (lSeq (eIx (lSeq (eV 6)) (eIx (eVs 7) (eV 14)))) (eV 13)) (eIx (lSeq (eIx (lSeq (eIx (lSeq (eV 5)) (eV 14))) (eV 13))) (eC (.int 0))))) (eV 14) [14])) (lst (nL aN))))) fr1 [rl g 4] = .ret (bq2 g d) ∧ (bq2 g d = true → ((eV 13)) fr1 [rl g 4] = .ret (id d)) := by
    intro d hd
    obtain ⟨u, hu, rfl⟩ := memQ2 hd
    refine ⟨[none, some .row, some (.v (.int (.ofNat 2))), nm, ow, some (.v (.lst RW2)), some (.v (.lst OR2)), some (.r 0), t, some (.v (.int (.ofNat i))), some (.v (.int (.ofNat q))), some (.v (.lst [])), none, some (.v (.int (.ofNat u))), none, none, none], nGF rfl, ?_, fun _ => nV rfl⟩
    have st2 : ∀ d ∈ rl (fun i => i) 4, ∃ fr1, ((gIF 14)) d [none, some .row, some (.v (.int (.ofNat 2))), nm, ow, some (.v (.lst RW2)), some (.v (.lst OR2)), some (.r 0), t, some (.v (.int (.ofNat i))), some (.v (.int (.ofNat q))), some (.v (.lst [])), none, some (.v (.int (.ofNat u))), none, none, none] = .ret fr1 ∧ ((b1 (e2 dNeF (eIx (lSeq (eIx (lSeq (eV 6)) (eIx (eVs 7) (eV 14)))) (eV 13)) (eIx (lSeq (eIx (lSeq (eIx (lSeq (eV 5)) (eV 14))) (eV 13))) (eC (.int 0)))))) fr1 [rl g 4] = .ret (ib2 g u d) ∧ (ib2 g u d = true → ((eV 14)) fr1 [rl g 4] = .ret (id d)) := by
      intro d hd
      obtain ⟨k, hk, rfl⟩ := rl_mem hd
      refine ⟨[none, some .row, some (.v (.int (.ofNat 2))), nm, ow, some (.v (.lst RW2)), some (.v (.lst OR2)), some (.r 0), t, some (.v (.int (.ofNat i))), some (.v (.int (.ofNat q))), some (.v (.lst [])), none, some (.v (.int (.ofNat u))), some (.v (.int (.ofNat k))), none, none], nGF rfl, ?_, fun _ => nV rfl⟩
      have hA : (eIx (lSeq (eV 6)) (eIx (eVs 7) (eV 14))) [none, some .row, some (.v (.int (.ofNat 2))), nm, ow, some (.v (.lst RW2)), some (.v (.lst OR2)), some (.r 0), t, some (.v (.int (.ofNat i))), some (.v (.int (.ofNat q))), some (.v (.lst [])), none, some (.v (.int (.ofNat u))), some (.v (.int (.ofNat k))), none, none] [rl g 4] = (eC (vl2 (.int (.ofNat (g k))))) [] [] := by
        show _ = T.ret _
        exact nIx (nLseqL (nV rfl)) (nIx (nVs rfl rfl (lstOk_rl _ _)) (nV rfl) (gtL_rl hk)) (vlm2 (hg k hk))
      have hB : (eIx (lSeq (eV 5)) (eV 14)) [none, some .row, some (.v (.int (.ofNat 2))), nm, ow, some (.v (.lst RW2)), some (.v (.lst OR2)), some (.r 0), t, some (.v (.int (.ofNat i))), some (.v (.int (.ofNat q))), some (.v (.lst [])), none, some (.v (.int (.ofNat u))), some (.v (.int (.ofNat k))), none, none] [rl g 4] = (eC (rw2 k)) [] [] := by
        show _ = T.ret _
        exact nIx (nLseqL (nV rfl)) (nV rfl) (rwo2 hk)
      have hC : ((b1 (e2 dNeF (eIx (lSeq (eIx (lSeq (eV 6)) (eIx (eVs 7) (eV 14)))) (eV 13)) (eIx (lSeq (eIx (lSeq (eIx (lSeq (eV 5)) (eV 14))) (eV 13))) (eC (.int 0)))))) [none, some .row, some (.v (.int (.ofNat 2))), nm, ow, some (.v (.lst RW2)), some (.v (.lst OR2)), some (.r 0), t, some (.v (.int (.ofNat i))), some (.v (.int (.ofNat q))), some (.v (.lst [])), none, some (.v (.int (.ofNat u))), some (.v (.int (.ofNat k))), none, none] [rl g 4] = spE2 u (rw2 k) (vl2 (.int (.ofNat (g k)))) := kB1 (k2 (kIx (kLseq hA) rfl) (kIx (kLseq (kIx (kLseq hB) rfl)) rfl))
      rw [hC]
      exact sp_ok2 hg hk hu
    have e := lcF_map (set := (gIF 14)) (t := (b1 (e2 dNeF (eIx (lSeq (eIx (lSeq (eV 6)) (eIx (eVs 7) (eV 14)))) (eV 13)) (eIx (lSeq (eIx (lSeq (eIx (lSeq (eV 5)) (eV 14))) (eV 13))) (eC (.int 0)))))) (e := (eV 14)) (hp := [rl g 4]) (ib2 g u) id _ st2
    rw [List.map_id] at e
    have hints : ∀ d ∈ (rl (fun i => i) 4).filter (ib2 g u), ∃ i, d = .int i := fun d hd => by
      obtain ⟨k, _, rfl⟩ := rl_mem (List.mem_filter.mp hd).1
      exact ⟨_, rfl⟩
    have hall : ((rl (fun i => i) 4).filter (ib2 g u)).isEmpty = bs2 g u := by
      rw [filter_empty, rl_id_all]
      unfold bs2
      congr 1
      funext k
      show (!(!bf2 g u k)) = _
      rw [Bool.not_not]
    refine nB1 (n2 (nLst (nLc1 (nR1 (nA (nLen (nLseqL (nV rfl)) RWl2) nN) rgL2) (few_of (by rw [rl_len]; decide)) rfl e)) (nLst rfl) ?_)
    rw [dEq_nil hints, hall]
    rfl
  have e := lcF_map (set := (gIF 13)) (t := (b1 (e2 dEqF (lst (nLc (lR1 (aC (eLen (lSeq (eV 5))) aN)) (gIF 14) (b1 (e2 dNeF (eIx (lSeq (eIx (lSeq (eV 6)) (eIx (eVs 7) (eV 14)))) (eV 13)) (eIx (lSeq (eIx (lSeq (eIx (lSeq (eV 5)) (eV 14))) (eV 13))) (eC (.int 0))))) (eV 14) [14])) (lst (nL aN))))) (e := (eV 13)) (hp := [rl g 4]) (bq2 g) id _ st
  rw [List.map_id] at e
  unfold g_law_7
  exact nSetV (nLst (nLc1 (nR1 (nA (nV rfl) nN) rgQ2) (by decide) rfl e)) rfl
theorem lb2 {tr : D} {a b na nb : Nat} (ha : ixE2 tr a = .ret (.int (.ofNat na))) (hb : ixE2 tr b = .ret (.int (.ofNat nb))) : r_law_before [tr, .int (.ofNat a), .int (.ofNat b)] = .ret (.bl (Nat.blt na nb)) := by
  have h1 : (eIdxF (eV 0) (eV 1)) [some (.v tr), some (.v (.int (.ofNat a))), some (.v (.int (.ofNat b)))] [] = ixE2 tr a := kIdxF rfl rfl
  have h2 : (eIdxF (eV 0) (eV 2)) [some (.v tr), some (.v (.int (.ofNat a))), some (.v (.int (.ofNat b)))] [] = ixE2 tr b := kIdxF rfl rfl
  unfold r_law_before
  exact nB (fr := [some (.v tr), some (.v (.int (.ofNat a))), some (.v (.int (.ofNat b)))]) rfl (nRetF (n2 (h1.trans ha) (h2.trans hb) (dLt_nat _ _)))
theorem lr_2 {nm ow t : Option SV} {g : Nat → Nat} (hg : ∀ i, i < 4 → g i < 2) {i q : Nat} (hi : i < 4) (hq : q < 2) : g_law_r [none, some .row, some (.v (.int (.ofNat 2))), nm, ow, some (.v (.lst RW2)), some (.v (.lst OR2)), some (.r 0), t, some (.v (.int (.ofNat i))), some (.v (.int (.ofNat q))), some (.v (.lst [])), some (.v (.lst (due2 g))), none, none, none, none] [rl g 4] = .ret (.rt (.bl true)) := by
  have h := rwo2 hi
  obtain ⟨z1, z2, z3⟩ := row2 h
  obtain ⟨e5, e6⟩ := tr_ok2 h hq
  have eky := fun rk hk => ky_ok2 (rk := rk) h hq hk
  obtain ⟨ds, d1, d2, d3⟩ := th_ok2 (hg i hi) hq
  have epx : ixE2 (tro2 (rw2 i) q) (th2 (vl2 (.int (.ofNat (g i)))) q) = .ret (.int (.ofNat (px2 g i q))) := e6 _ d3
  obtain ⟨rs, ers⟩ : ∃ rs, rw2 i = .tup rs := ⟨_, z1⟩
  have h' := h
  rw [ers] at h'
  have e5 : gtL rs q = some (tro2 (rw2 i) q) := by rw [ers] at e5 ⊢; exact e5
  have J0 : ∀ (done : List D) (x : D) (rest : List D), OR2 = done ++ x :: rest → ∀ fr hp, (∃ a b, fr = [none, some .row, some (.v (.int (.ofNat 2))), nm, ow, some (.v (.lst RW2)), some (.v (.lst OR2)), some (.r 0), t, some (.v (.int (.ofNat i))), some (.v (.int (.ofNat q))), some (.v (.lst (done.filter (cl2 g i q)))), some (.v (.lst (due2 g))), none, none, a, b] ∧ hp = [rl g 4]) → ∃ fr1 fr' hp', ((gIX 15)) x fr = .ret fr1 ∧ ((sSeq (sSet 16 (eIx (lSeq (eV 6)) (eIx (eVs 7) (eIdxL (eV 5) (e2 dPlus (e2 dPlus (eSl (eIx (lSeq (eV 5)) (eV 9)) pNo (pYes (eV 10))) (eT (aC (eV 15) aN))) (eSl (eIx (lSeq (eV 5)) (eV 9)) (pYes (e2 dPlus (eV 10) (eC (.int 1)))) pNo))))))
    (sSetV 11 (e2 dPlus (eV 11) (eIf (b1 (eCall r_law_before 3 (aC (eIx (lSeq (eIx (lSeq (eV 5)) (eV 9))) (eV 10)) (aC (eIx (lSeq (eV 16)) (eV 10)) (aC (eIx (lSeq (eIx (lSeq (eV 6)) (eIx (eVs 7) (eV 9)))) (eV 10)) aN))))) (lst (nL (aC (eV 15) aN))) (lst (nL aN))))))) fr1 hp = .ret (.nx fr' hp') ∧ ∃ a b, fr' = [none, some .row, some (.v (.int (.ofNat 2))), nm, ow, some (.v (.lst RW2)), some (.v (.lst OR2)), some (.r 0), t, some (.v (.int (.ofNat i))), some (.v (.int (.ofNat q))), some (.v (.lst ((done ++ [x]).filter (cl2 g i q)))), some (.v (.lst (due2 g))), none, none, a, b] ∧ hp' = [rl g 4] := by
    rintro done x rest eo _ _ ⟨a, b, rfl, rfl⟩
    have hx : x ∈ OR2 := by rw [eo]; simp
    have hl : done.length ≤ 2 := by
      have := ORl2
      rw [eo] at this
      simp at this
      omega
    obtain ⟨y, j0, j1, j3, j4, j5, j6⟩ := eky x hx
    obtain ⟨ys, y1, y2, y3⟩ := th_ok2 (hg _ j1) hq
    have epy : ixE2 (tro2 (rw2 i) q) (th2 (vl2 (.int (.ofNat (g (jn2 i (rw2 i) q x))))) q) = .ret (.int (.ofNat (py2 g i q x))) := e6 _ y3
    have hkx : ((e2 dPlus (e2 dPlus (eSl (eIx (lSeq (eV 5)) (eV 9)) pNo (pYes (eV 10))) (eT (aC (eV 15) aN))) (eSl (eIx (lSeq (eV 5)) (eV 9)) (pYes (e2 dPlus (eV 10) (eC (.int 1)))) pNo))) [none, some .row, some (.v (.int (.ofNat 2))), nm, ow, some (.v (.lst RW2)), some (.v (.lst OR2)), some (.r 0), t, some (.v (.int (.ofNat i))), some (.v (.int (.ofNat q))), some (.v (.lst (done.filter (cl2 g i q)))), some (.v (.lst (due2 g))), none, none, some (.v x), b] [rl g 4] = kx2 i q x := k2 (k2 (kSl (kIx (kLseq rfl) rfl) rfl (kYes rfl)) (kT (kA rfl rfl))) (kSl (kIx (kLseq rfl) rfl) (kYes (k2 rfl rfl)) rfl)
    have ok3 : (okD 12 (.lst RW2) && (allO (okD 12) RW2 && okD 12 y)) = true := by
      have := okC2
      rw [Bool.and_eq_true] at this
      rw [this.1, this.2, j6]
      rfl
    refine ⟨[none, some .row, some (.v (.int (.ofNat 2))), nm, ow, some (.v (.lst RW2)), some (.v (.lst OR2)), some (.r 0), t, some (.v (.int (.ofNat i))), some (.v (.int (.ofNat q))), some (.v (.lst (done.filter (cl2 g i q)))), some (.v (.lst (due2 g))), none, none, some (.v x), b], [none, some .row, some (.v (.int (.ofNat 2))), nm, ow, some (.v (.lst RW2)), some (.v (.lst OR2)), some (.r 0), t, some (.v (.int (.ofNat i))), some (.v (.int (.ofNat q))), some (.v (.lst ((done ++ [x]).filter (cl2 g i q)))), some (.v (.lst (due2 g))), none, none, some (.v x), some (.v (vl2 (.int (.ofNat (g (jn2 i (rw2 i) q x))))))], [rl g 4], nGI rfl, ?_, _, _, rfl, rfl⟩
    refine nSeq (nSet (fr' := [none, some .row, some (.v (.int (.ofNat 2))), nm, ow, some (.v (.lst RW2)), some (.v (.lst OR2)), some (.r 0), t, some (.v (.int (.ofNat i))), some (.v (.int (.ofNat q))), some (.v (.lst (done.filter (cl2 g i q)))), some (.v (.lst (due2 g))), none, none, some (.v x), some (.v (vl2 (.int (.ofNat (g (jn2 i (rw2 i) q x))))))]) (nIx (nLseqL (nV rfl)) (nIx (nVs rfl rfl (lstOk_rl _ _)) (nIdxL (nV rfl) (hkx.trans j4) ok3 j5) (gtL_rl j1)) (vlm2 (hg _ j1))) rfl) ?_
    have hx1 : (eIx (lSeq (eIx (lSeq (eV 5)) (eV 9))) (eV 10)) [none, some .row, some (.v (.int (.ofNat 2))), nm, ow, some (.v (.lst RW2)), some (.v (.lst OR2)), some (.r 0), t, some (.v (.int (.ofNat i))), some (.v (.int (.ofNat q))), some (.v (.lst (done.filter (cl2 g i q)))), some (.v (.lst (due2 g))), none, none, some (.v x), some (.v (vl2 (.int (.ofNat (g (jn2 i (rw2 i) q x))))))] [rl g 4] = .ret (tro2 (rw2 i) q) := nIx (nLseqT (nIx (nLseqL (nV rfl)) (nV rfl) h')) (nV rfl) e5
    have hx2 : (eIx (lSeq (eV 16)) (eV 10)) [none, some .row, some (.v (.int (.ofNat 2))), nm, ow, some (.v (.lst RW2)), some (.v (.lst OR2)), some (.r 0), t, some (.v (.int (.ofNat i))), some (.v (.int (.ofNat q))), some (.v (.lst (done.filter (cl2 g i q)))), some (.v (.lst (due2 g))), none, none, some (.v x), some (.v (vl2 (.int (.ofNat (g (jn2 i (rw2 i) q x))))))] [rl g 4] = .ret (.int (.ofNat (th2 (vl2 (.int (.ofNat (g (jn2 i (rw2 i) q x))))) q))) := by
      refine nIx (nLseqT ?_) (nV rfl) y2
      rw [← y1]
      exact nV rfl
    have hx3 : (eIx (lSeq (eIx (lSeq (eV 6)) (eIx (eVs 7) (eV 9)))) (eV 10)) [none, some .row, some (.v (.int (.ofNat 2))), nm, ow, some (.v (.lst RW2)), some (.v (.lst OR2)), some (.r 0), t, some (.v (.int (.ofNat i))), some (.v (.int (.ofNat q))), some (.v (.lst (done.filter (cl2 g i q)))), some (.v (.lst (due2 g))), none, none, some (.v x), some (.v (vl2 (.int (.ofNat (g (jn2 i (rw2 i) q x))))))] [rl g 4] = .ret (.int (.ofNat (th2 (vl2 (.int (.ofNat (g i)))) q))) := by
      refine nIx (nLseqT ?_) (nV rfl) d2
      rw [← d1]
      exact nIx (nLseqL (nV rfl)) (nIx (nVs rfl rfl (lstOk_rl _ _)) (nV rfl) (gtL_rl hi)) (vlm2 (hg i hi))
    have hbf : (b1 (eCall r_law_before 3 (aC (eIx (lSeq (eIx (lSeq (eV 5)) (eV 9))) (eV 10)) (aC (eIx (lSeq (eV 16)) (eV 10)) (aC (eIx (lSeq (eIx (lSeq (eV 6)) (eIx (eVs 7) (eV 9)))) (eV 10)) aN))))) [none, some .row, some (.v (.int (.ofNat 2))), nm, ow, some (.v (.lst RW2)), some (.v (.lst OR2)), some (.r 0), t, some (.v (.int (.ofNat i))), some (.v (.int (.ofNat q))), some (.v (.lst (done.filter (cl2 g i q)))), some (.v (.lst (due2 g))), none, none, some (.v x), some (.v (vl2 (.int (.ofNat (g (jn2 i (rw2 i) q x))))))] [rl g 4] = .ret (cl2 g i q x) := nB1 (nCall (nA hx1 (nA hx2 (nA hx3 nN))) rfl (lb2 epy epx))
    have hfw : ∀ zs : List D, few zs 10000 = true → (few (done.filter (cl2 g i q)) 10000 && few zs 10000) = true := fun zs hz => by
      rw [hz, few_of (Nat.le_trans (Nat.le_trans (List.length_filter_le _ _) hl) (by decide))]
      rfl
    rw [List.filter_append]
    cases qc : cl2 g i q x with
    | true =>
      rw [qc] at hbf
      rw [List.filter_cons_of_pos qc]
      exact nSetV (n2 (nV rfl) (nIfE hbf rfl) (dPlus_lst (hfw [x] rfl))) rfl
    | false =>
      rw [qc] at hbf
      rw [List.filter_cons_of_neg (by rw [qc]; exact Bool.false_ne_true)]
      exact nSetV (n2 (nV rfl) (nIfE hbf rfl) (dPlus_lst (hfw [] rfl))) rfl
  obtain ⟨fr', hp', e7, a, b, rfl, rfl⟩ := forS_pre _ OR2 J0 OR2 [] [none, some .row, some (.v (.int (.ofNat 2))), nm, ow, some (.v (.lst RW2)), some (.v (.lst OR2)), some (.r 0), t, some (.v (.int (.ofNat i))), some (.v (.int (.ofNat q))), some (.v (.lst [])), some (.v (.lst (due2 g))), none, none, none, none] [rl g 4] rfl ⟨none, none, rfl, rfl⟩
  have aq : r_law_alike 8 [.tup (due2 g), .tup (due2 g)] = .ret (.bl true) := by
    unfold due2
    rw [filter_fl]
    exact isTr_eq (allBL_at alQ2 _ (by rw [List.length_map]; rfl))
  have ao : r_law_alike 8 [.tup (OR2.filter (cl2 g i q)), .tup (OR2.filter (cl2 g i q))] = .ret (.bl true) := by
    rw [filter_fl]
    exact isTr_eq (allBL_at alO2 _ (by rw [List.length_map, ORl2]))
  unfold g_law_r
  exact nSeq (nIfF (nNot (nB1 (nCall (nA (nCall (nAF (nTup (nVs rfl rfl (lstOk_rl _ _))) nN) rfl (bosses2 hg)) (nAF (nTup (nLseqL (nV rfl))) nN)) rfl aq)) rfl) nNil) (nSeq (nFor (nLseqL (nV rfl)) e7) (nRet (nCall (nA (nCall (nAF (nTup (nVs rfl rfl (lstOk_rl _ _))) (nA (nIx (nLseqL (nV rfl)) (nV rfl) h) (nA (nV rfl) nN))) rfl (lies2 hg hi hq)) (nAF (nTup (nLseqL (nV rfl))) nN)) rfl ao)))
/-- the law behind its told rule -/
theorem any2 {nm ow : Option SV} {g : Nat → Nat} (hg : ∀ i, i < 4 → g i < 2) : RtAll ((sSeq g_law_4 (sSeq g_law_5 (sSeq g_law_6 (sSeq g_law_7 (g_law_r))))) [none, some .row, some (.v (.int (.ofNat 2))), nm, ow, some (.v (.lst RW2)), some (.v (.lst OR2)), some (.r 0), none, none, none, none, none, none, none, none, none] [rl g 4]) := by
  constructor
  refine T.bind_all (T.all_mono ?_ (l4_2 hg))
  rintro o ⟨t, g', h1, rfl⟩
  refine T.bind_all (T.all_mono ?_ (l5_2 (nm := nm) (ow := ow) (t := t) (g := g')))
  rintro o ⟨i, q, hi, hq, rfl⟩
  have e : (sSeq g_law_6 (sSeq g_law_7 (g_law_r))) [none, some .row, some (.v (.int (.ofNat 2))), nm, ow, some (.v (.lst RW2)), some (.v (.lst OR2)), some (.r 0), t, some (.v (.int (.ofNat i))), some (.v (.int (.ofNat q))), some (.v (.lst [])), none, none, none, none, none] [rl g' 4] = .ret (.rt (.bl true)) := nSeq (l6_2 h1 hi) (nSeq (l7_2 h1) (lr_2 h1 hi hq))
  show ((sSeq g_law_6 (sSeq g_law_7 (g_law_r))) [none, some .row, some (.v (.int (.ofNat 2))), nm, ow, some (.v (.lst RW2)), some (.v (.lst OR2)), some (.r 0), t, some (.v (.int (.ofNat i))), some (.v (.int (.ofNat q))), some (.v (.lst [])), none, none, none, none, none] [rl g' 4]).all _
  rw [e]
  rfl
/-! ### 3 people -/
@[irreducible] def RW3 : List D := unT c_rows_1
@[irreducible] def OR3 : List D := unT c_dealings_1
theorem mR3 : m_rows [.int (.ofNat 3)] = .ret (.tup RW3) := by kernel_rfl
theorem mO3 : m_dealings [.int (.ofNat 3)] = .ret (.tup OR3) := by kernel_rfl
theorem mLR3 : m_law_rows [.int (.ofNat 3)] = .ret (.lst RW3) := by kernel_rfl
theorem mLO3 : m_law_orders [.int (.ofNat 3)] = .ret (.lst OR3) := by kernel_rfl
theorem RWl3 : RW3.length = 216 := by decide +kernel
theorem ORl3 : OR3.length = 6 := by decide +kernel
theorem okR3 : okKeys [] RW3 = true := by decide +kernel
/-- the dealing of a number -/
@[irreducible] def vl3 (d : D) : D := match d with
  | .int (.ofNat x) => (gtL OR3 x).getD .non
  | _ => .non
def Rv3 (g : Nat → Nat) : D := .tup (rl g 216)
def Dv3 (g : Nat → Nat) : D := .dct RW3 ((rl g 216).map vl3)
theorem cr3 {g : Nat → Nat} (hg : ∀ i, i < 216 → g i < 6) : r_check_rule [Rv3 g] = .ret .non := by
  have e1 : ((sIf (bOr (bNot (b1 (eIsi 4 (eV 0)))) (b1 (eInT true tb_CHOICES (eLen (lSeq (eV 0))))))
    sFail sNil)) [some (.v (.tup (rl g 216))), none, none] [] = .ret (.nx [some (.v (.tup (rl g 216))), none, none] []) := by kernel_rfl
  have st : ∀ (done : List D) (x : D), x ∈ enumD 0 (rl g 216) → ∀ (fr : Fr) (hp : Hz), (∃ a b : Option SV, fr = [some (.v (.tup (rl g 216))), a, b] ∧ hp = []) → ∃ fr1 fr' hp', ((g2E 1 2)) x fr = .ret fr1 ∧ ((sIf (bNot (b1 (eCall r_is_below 2 (aC (eV 2) (aC (eIxT tb_CHOICES (eLen (lSeq (eV 0)))) aN)))))
    sFail sNil)) fr1 hp = .ret (.nx fr' hp') ∧ ∃ a b : Option SV, fr' = [some (.v (.tup (rl g 216))), a, b] ∧ hp' = [] := by
    rintro done x hx _ _ ⟨a, b, rfl, rfl⟩
    obtain ⟨i, hi⟩ := List.mem_iff_getElem?.mp hx
    obtain ⟨y, h1, rfl⟩ := enumD_get _ _ _ _ hi
    obtain ⟨h3, rfl⟩ := rl_get h1
    have h4 := hg i h3
    have e0 : ((g2E 1 2)) (.tup [.int (0 + (i : Nat)), .int (.ofNat (g i))]) [some (.v (.tup (rl g 216))), a, b] = .ret [some (.v (.tup (rl g 216))), some (.v (.int (0 + (i : Nat)))), some (.v (.int (.ofNat (g i))))] := nG2 rfl
    refine ⟨_, [some (.v (.tup (rl g 216))), some (.v (.int (0 + (i : Nat)))), some (.v (.int (.ofNat (g i))))], [], e0, ?_, _, _, rfl, rfl⟩
    generalize g i = n at h4 ⊢
    match n, h4 with
    | 0, _ => kernel_rfl
    | 1, _ => kernel_rfl
    | 2, _ => kernel_rfl
    | 3, _ => kernel_rfl
    | 4, _ => kernel_rfl
    | 5, _ => kernel_rfl
    | n + 6, h => exact absurd h (by omega)
  obtain ⟨fr', hp', e2, a, b, rfl, rfl⟩ := forS_inv _ (enumD 0 (rl g 216)) [] [some (.v (.tup (rl g 216))), none, none] [] st ⟨none, none, rfl, rfl⟩
  unfold r_check_rule Rv3
  exact nBn (fr := [some (.v (.tup (rl g 216))), none, none]) rfl (nSeq e1 (nFor (nEnum (nV rfl)) e2))
theorem cp3 {g : Nat → Nat} (hg : ∀ i, i < 216 → g i < 6) : r_count_people [Rv3 g] = .ret (.int (.ofNat 3)) := by
  have e1 : ((sRetF (eIf (b1 (e2 dEqF (eLen (lSeq (eV 0))) (eC (.int 4)))) (eC (.int 2)) (eC (.int 3))))) [some (.v (.tup (rl g 216)))] [] = .ret (.rt (.int (.ofNat 3))) := by kernel_rfl
  unfold r_count_people
  exact nB (fr := [some (.v (.tup (rl g 216)))]) rfl (nSeq (nDrop (nCall (nA (nV rfl) nN) rfl (cr3 hg))) e1)
theorem do3 {g : Nat → Nat} (hg : ∀ i, i < 216 → g i < 6) : r_deals_of [Rv3 g] = .ret (Dv3 g) := by
  have st : ∀ (x y : D), y ∈ rl g 216 → ∃ fr1, ((g2E 3 4)) (.tup [x, y]) [some (.v (.tup (rl g 216))), some (.v (.int (.ofNat 3))), some (.v (.tup OR3)), none, none] = .ret fr1 ∧ ((eV 3)) fr1 [] = .ret x ∧ ((eIx (lSeq (eV 2)) (eV 4))) fr1 [] = .ret (vl3 y) := by
    intro x y hy
    obtain ⟨i, hi, rfl⟩ := rl_mem hy
    have h4 := hg i hi
    refine ⟨[some (.v (.tup (rl g 216))), some (.v (.int (.ofNat 3))), some (.v (.tup OR3)), some (.v x), some (.v (.int (.ofNat (g i))))], nG2 rfl, nV rfl, ?_⟩
    generalize g i = n at h4 ⊢
    match n, h4 with
    | 0, _ => kernel_rfl
    | 1, _ => kernel_rfl
    | 2, _ => kernel_rfl
    | 3, _ => kernel_rfl
    | 4, _ => kernel_rfl
    | 5, _ => kernel_rfl
    | n + 6, h => exact absurd h (by omega)
  have e := dcF_zip (set := (g2E 3 4)) (ek := (eV 3)) (ev := (eIx (lSeq (eV 2)) (eV 4))) (fr := [some (.v (.tup (rl g 216))), some (.v (.int (.ofNat 3))), some (.v (.tup OR3)), none, none]) (hp := []) vl3 RW3 (rl g 216) [] [] (by rw [RWl3, rl_len]) okR3 st
  rw [List.nil_append, List.nil_append] at e
  unfold r_deals_of Dv3
  exact nB (fr := [some (.v (.tup (rl g 216))), none, none, none, none]) rfl (nSeq (nSet (fr' := [some (.v (.tup (rl g 216))), some (.v (.int (.ofNat 3))), none, none, none]) (nCall (nA (nV rfl) nN) rfl (cp3 hg)) rfl) (nSeq (nSet (fr' := [some (.v (.tup (rl g 216))), some (.v (.int (.ofNat 3))), some (.v (.tup OR3)), none, none]) (nCall (nA (nV rfl) nN) rfl mO3) rfl) (nRetF (nDc (nZip (nCall (nA (nV rfl) nN) rfl mR3) (nV rfl)) rfl e))))
theorem RWt3 : RW3.all (fun r => tupL r 3 && isNon (r_check_row [r])) = true := by decide +kernel
theorem keys3 : allIx (fun i r => keyOk RW3 i r) RW3 0 = true := by decide +kernel
theorem row3 {i : Nat} {r : D} (h : gtL RW3 i = some r) : r = .tup (unT r) ∧ (unT r).length = 3 ∧ r_check_row [r] = .ret .non := by
  have hm : r ∈ RW3 := by
    rw [gtL_eq] at h
    exact List.mem_of_getElem? h
  have h2 := List.all_eq_true.mp RWt3 r hm
  rw [Bool.and_eq_true] at h2
  exact ⟨(tupL_eq h2.1).1, (tupL_eq h2.1).2, isNon_eq h2.2⟩
theorem ixr3 {g : Nat → Nat} {i : Nat} {r r' : D} (h : gtL RW3 i = some r) (hk : keyOk RW3 i r' = true) : ixD (Dv3 g) r' = .ret (vl3 (.int (.ofNat (g i)))) := by
  have hl := gtL_len h
  rw [RWl3] at hl
  unfold Dv3
  refine ixD_at (i := i) hk (by rw [List.length_map, RWl3, rl_len]) ?_
  rw [List.getElem?_map, ← gtL_eq, gtL_rl hl]
  rfl
theorem keyr3 {i : Nat} {r : D} (h : gtL RW3 i = some r) : keyOk RW3 i r = true := by
  have := allIx_at keys3 h
  rw [Nat.zero_add] at this
  exact this
theorem vlm3 {n : Nat} (h : n < 6) : gtL OR3 n = some (vl3 (.int (.ofNat n))) := by
  obtain ⟨x, e⟩ := gtL_lt (xs := OR3) (by rw [ORl3]; exact h)
  have e2 : vl3 (.int (.ofNat n)) = (gtL OR3 n).getD .non := by unfold vl3; rfl
  rw [e2, e]
  rfl
theorem ca3 : r_check_alike [.int (.ofNat 3), .int (.ofNat 3)] = .ret .non := by kernel_rfl
theorem dealt3 {g : Nat → Nat} (hg : ∀ i, i < 216 → g i < 6) {i : Nat} {r : D} (h : gtL RW3 i = some r) : r_dealt [Rv3 g, r] = .ret (vl3 (.int (.ofNat (g i)))) := by
  obtain ⟨e1, e2, e3⟩ := row3 h
  have e4 := keyr3 h
  obtain ⟨rs, rfl⟩ : ∃ rs, r = .tup rs := ⟨_, e1⟩
  have e2 : rs.length = 3 := e2
  unfold r_dealt
  exact nB (fr := [some (.v (Rv3 g)), some (.v (.tup rs))]) rfl (nSeq (nDrop (nCall (nA (nV rfl) nN) rfl (cr3 hg))) (nSeq (nDrop (nCall (nA (nV rfl) nN) rfl e3)) (nSeq (nDrop (nCall (nA (nCall (nA (nV rfl) nN) rfl (cp3 hg)) (nAF (nLen (nLseqT (nV rfl)) e2) nN)) rfl ca3)) (nRet (nIxD (nCall (nA (nV rfl) nN) rfl (do3 hg)) (nV rfl) (ixr3 h e4))))))
def bsE3 (q : Nat) (r x : D) : T D := ((e2 dEqF (eIx (lSeq (eV 3)) (eV 1)) (eIx (lSeq (eIx (lSeq (eV 2)) (eV 1))) (eC (.int 0))))) [none, some (.v (.int (.ofNat q))), some (.v r), some (.v x)] []
theorem bsK3 : RW3.all (fun r => OR3.all fun x => (List.range 3).all fun q => isBl (bsE3 q r x)) = true := by decide +kernel
theorem bsE_ok3 {i q n : Nat} {r : D} (h : gtL RW3 i = some r) (hq : q < 3) (hn : n < 6) : bsE3 q r (vl3 (.int (.ofNat n))) = .ret (.bl (unBl (bsE3 q r (vl3 (.int (.ofNat n)))))) := by
  refine isBl_eq ?_
  have h1 : r ∈ RW3 := by
    rw [gtL_eq] at h
    exact List.mem_of_getElem? h
  have h2 : vl3 (.int (.ofNat n)) ∈ OR3 := by
    have := vlm3 hn
    rw [gtL_eq] at this
    exact List.mem_of_getElem? this
  exact List.all_eq_true.mp (List.all_eq_true.mp (List.all_eq_true.mp bsK3 r h1) _ h2) q (List.mem_range.mpr hq)
def rw3 (i : Nat) : D := (gtL RW3 i).getD .non
theorem rwo3 {i : Nat} (h : i < 216) : gtL RW3 i = some (rw3 i) := by
  obtain ⟨x, e⟩ := gtL_lt (xs := RW3) (by rw [RWl3]; exact h)
  unfold rw3
  rw [e]
  rfl
/-- does q get the first thing at row i -/
def bf3 (g : Nat → Nat) (q i : Nat) : Bool := unBl (bsE3 q (rw3 i) (vl3 (.int (.ofNat (g i)))))
def bs3 (g : Nat → Nat) (q : Nat) : Bool := (List.range 216).all (bf3 g q)
def bp3 (q : Nat) (d : D) : Bool := match d with
  | .tup [r, x] => unBl (bsE3 q r x)
  | _ => false
theorem isb3 {g : Nat → Nat} (hg : ∀ i, i < 216 → g i < 6) {q : Nat} (hq : q < 3) : r_is_boss [Dv3 g, .int (.ofNat q)] = .ret (.bl (bs3 g q)) := by
  have ez : zipD RW3 ((rl g 216).map vl3) = (List.range 216).map fun i => D.tup [rw3 i, vl3 (.int (.ofNat (g i)))] := zip_range vl3 RWl3
  have st : ∀ d ∈ zipD RW3 ((rl g 216).map vl3), ∃ fr1, ((g2E 2 3)) d [some (.v (Dv3 g)), some (.v (.int (.ofNat q))), none, none] = .ret fr1 ∧ bYes fr1 [] = .ret ((fun _ => true) d) ∧ ((fun _ => true) d = true → ((e2 dEqF (eIx (lSeq (eV 3)) (eV 1)) (eIx (lSeq (eIx (lSeq (eV 2)) (eV 1))) (eC (.int 0))))) fr1 [] = .ret ((fun d => D.bl (bp3 q d)) d)) := by
    intro d hd
    rw [ez] at hd
    obtain ⟨i, hi, rfl⟩ := List.mem_map.mp hd
    have hi := List.mem_range.mp hi
    refine ⟨[some (.v (Dv3 g)), some (.v (.int (.ofNat q))), some (.v (rw3 i)), some (.v (vl3 (.int (.ofNat (g i)))))], nG2 rfl, rfl, fun _ => ?_⟩
    exact bsE_ok3 (rwo3 hi) hq (hg i hi)
  have e := lcF_map (set := (g2E 2 3)) (t := bYes) (e := (e2 dEqF (eIx (lSeq (eV 3)) (eV 1)) (eIx (lSeq (eIx (lSeq (eV 2)) (eV 1))) (eC (.int 0))))) (fr := [some (.v (Dv3 g)), some (.v (.int (.ofNat q))), none, none]) (hp := []) (fun _ => true) (fun d => D.bl (bp3 q d)) _ st
  rw [List.filter_eq_self.mpr (fun _ _ => rfl)] at e
  have e2 : allBs ((zipD RW3 ((rl g 216).map vl3)).map (bp3 q)) = bs3 g q := by
    rw [allBs_map, ez, List.all_map]
    rfl
  unfold r_is_boss
  exact nB (fr := [some (.v (Dv3 g)), some (.v (.int (.ofNat q))), none, none]) rfl (nRetF (nAll (nLc1 (nItems (nV rfl)) (few_of (by rw [ez]; simp)) rfl e) (bools_map _ _) e2))
def QS3 : List D := [.int (.ofNat 0), .int (.ofNat 1), .int (.ofNat 2)]
theorem rgQ3 : rng1 [.int (.ofNat 3)] = .ret QS3 := by kernel_rfl
theorem memQ3 {d : D} (h : d ∈ QS3) : ∃ q, q < 3 ∧ d = .int (.ofNat q) := by
  unfold QS3 at h
  simp only [List.mem_cons, List.not_mem_nil, or_false] at h
  rcases h with rfl | rfl | rfl
  · exact ⟨0, by decide, rfl⟩
  · exact ⟨1, by decide, rfl⟩
  · exact ⟨2, by decide, rfl⟩
def bq3 (g : Nat → Nat) (d : D) : Bool := match d with
  | .int (.ofNat q) => bs3 g q
  | _ => false
def due3 (g : Nat → Nat) : List D := QS3.filter (bq3 g)
theorem bosses3 {g : Nat → Nat} (hg : ∀ i, i < 216 → g i < 6) : r_bosses [Rv3 g] = .ret (.tup (due3 g)) := by
  have st : ∀ d ∈ QS3, ∃ fr1, ((gIF 3)) d [some (.v (Rv3 g)), some (.v (.int (.ofNat 3))), some (.v (Dv3 g)), none] = .ret fr1 ∧ ((b1 (eCall r_is_boss 2 (aC (eV 2) (aC (eV 3) aN))))) fr1 [] = .ret (bq3 g d) ∧ (bq3 g d = true → ((eV 3)) fr1 [] = .ret (id d)) := by
    intro d hd
    obtain ⟨q, hq, rfl⟩ := memQ3 hd
    refine ⟨[some (.v (Rv3 g)), some (.v (.int (.ofNat 3))), some (.v (Dv3 g)), some (.v (.int (.ofNat q)))], nGF rfl, nB1 (nCall (nA (nV rfl) (nA (nV rfl) nN)) rfl (isb3 hg hq)), fun _ => nV rfl⟩
  have e := lcF_map (set := (gIF 3)) (t := (b1 (eCall r_is_boss 2 (aC (eV 2) (aC (eV 3) aN))))) (e := (eV 3)) (fr := [some (.v (Rv3 g)), some (.v (.int (.ofNat 3))), some (.v (Dv3 g)), none]) (hp := []) (bq3 g) id _ st
  rw [List.map_id] at e
  unfold r_bosses
  exact nB (fr := [some (.v (Rv3 g)), none, none, none]) rfl (nSeq (nSet (fr' := [some (.v (Rv3 g)), some (.v (.int (.ofNat 3))), none, none]) (nCall (nA (nV rfl) nN) rfl (cp3 hg)) rfl) (nSeq (nSet (fr' := [some (.v (Rv3 g)), some (.v (.int (.ofNat 3))), some (.v (Dv3 g)), none]) (nCall (nA (nV rfl) nN) rfl (do3 hg)) rfl) (nRetF (nTup (nLc1 (nR1 (nA (nV rfl) nN) rgQ3) (by decide) rfl e)))))
/-- the thing of q -/
def th3 (x : D) (q : Nat) : Nat := match gtL (unT x) q with
  | some (.int (.ofNat t)) => t
  | _ => 0
def thK3 (x : D) (q : Nat) : Bool := match gtL (unT x) q with
  | some (.int (.ofNat t)) => Nat.blt t 3
  | _ => false
theorem thC3 : OR3.all (fun x => tupL x 3 && (List.range 3).all fun q => thK3 x q) = true := by decide +kernel
theorem th_ok3 {n q : Nat} (hn : n < 6) (hq : q < 3) : ∃ xs, vl3 (.int (.ofNat n)) = .tup xs ∧ gtL xs q = some (.int (.ofNat (th3 (vl3 (.int (.ofNat n))) q))) ∧ th3 (vl3 (.int (.ofNat n))) q < 3 := by
  have hm : vl3 (.int (.ofNat n)) ∈ OR3 := by
    have := vlm3 hn
    rw [gtL_eq] at this
    exact List.mem_of_getElem? this
  have h := List.all_eq_true.mp thC3 _ hm
  rw [Bool.and_eq_true] at h
  have h2 := List.all_eq_true.mp h.2 q (List.mem_range.mpr hq)
  refine ⟨_, (tupL_eq h.1).1, ?_⟩
  unfold thK3 at h2
  unfold th3
  split at h2
  · rename_i t e
    rw [e]
    exact ⟨rfl, Nat.blt_eq.mp h2⟩
  · cases h2
def ixE3 (tr : D) (t : Nat) : T D := (eIdxF (eC tr) (eC (.int (.ofNat t)))) [] []
def tro3 (r : D) (q : Nat) : D := (gtL (unT r) q).getD .non
def trK3 (r : D) (q : Nat) : Bool := match gtL (unT r) q with
  | some tr => (List.range 3).all fun t => isN' (ixE3 tr t)
  | none => false
theorem trC3 : RW3.all (fun r => (List.range 3).all fun q => trK3 r q) = true := by decide +kernel
theorem tr_ok3 {i q : Nat} {r : D} (h : gtL RW3 i = some r) (hq : q < 3) : gtL (unT r) q = some (tro3 r q) ∧ ∀ t, t < 3 → ixE3 (tro3 r q) t = .ret (.int (.ofNat (unN (ixE3 (tro3 r q) t)))) := by
  have hm : r ∈ RW3 := by
    rw [gtL_eq] at h
    exact List.mem_of_getElem? h
  have h2 := List.all_eq_true.mp (List.all_eq_true.mp trC3 r hm) q (List.mem_range.mpr hq)
  unfold trK3 at h2
  unfold tro3
  split at h2
  · rename_i tr e
    rw [e]
    exact ⟨rfl, fun t ht => isN_eq (List.all_eq_true.mp h2 t (List.mem_range.mpr ht))⟩
  · cases h2
def ixO3 (d : D) : Nat := (fstIx d OR3 0).getD 0
/-- the place of the row where q has another ranking -/
def jn3 (i : Nat) (r : D) (q : Nat) (rk : D) : Nat := i + ixO3 rk * 6 ^ (3 - 1 - q) - ixO3 (tro3 r q) * 6 ^ (3 - 1 - q)
def kx3 (i q : Nat) (rk : D) : T D := ((e2 dPlus (e2 dPlus (eSl (eIx (lSeq (eV 5)) (eV 9)) pNo (pYes (eV 10))) (eT (aC (eV 15) aN))) (eSl (eIx (lSeq (eV 5)) (eV 9)) (pYes (e2 dPlus (eV 10) (eC (.int 1)))) pNo))) [none, none, none, none, none, some (.v (.lst RW3)), none, none, none, some (.v (.int (.ofNat i))), some (.v (.int (.ofNat q))), none, none, none, none, some (.v rk), none] []
def kyE3 (i : Nat) (r : D) (q : Nat) (rk : D) : Bool := match gtL RW3 (jn3 i r q rk) with
  | some y => isEq (r_replaced [r, .int (.ofNat q), rk]) y && isEq (kx3 i q rk) y
  | none => false
def kyK3 (i : Nat) (r : D) : Bool := (List.range 3).all fun q => OR3.all fun rk => kyE3 i r q rk
def kyR3 (lo n : Nat) : Bool := allIx kyK3 ((RW3.drop lo).take n) lo
theorem ixC3 : allIx (fun i r => someN (fstIx r RW3 0) i && okD 12 r) RW3 0 = true := by decide +kernel
theorem okC3 : (okD 12 (.lst RW3) && allO (okD 12) RW3) = true := by decide +kernel
theorem kyC3_0 : kyR3 0 54 = true := by decide +kernel
theorem kyC3_54 : kyR3 54 54 = true := by decide +kernel
theorem kyC3_108 : kyR3 108 54 = true := by decide +kernel
theorem kyC3_162 : kyR3 162 54 = true := by decide +kernel
theorem ky_at3 {i : Nat} {r : D} (h : gtL RW3 i = some r) : kyK3 i r = true := by
  have hl := gtL_len h
  rw [RWl3] at hl
  have go : ∀ (lo : Nat), kyR3 lo 54 = true → lo ≤ i → i < lo + 54 → kyK3 i r = true := by
    intro lo hk h1 h2
    unfold kyR3 at hk
    have e : gtL ((RW3.drop lo).take 54) (i - lo) = some r := by
      rw [gtL_eq] at h ⊢
      rw [List.getElem?_take, if_pos (by omega), List.getElem?_drop]
      rw [show lo + (i - lo) = i by omega]
      exact h
    have := allIx_at hk e
    rw [show lo + (i - lo) = i by omega] at this
    exact this
  by_cases h0 : i < 54
  · exact go 0 kyC3_0 (by omega) h0
  by_cases h54 : i < 108
  · exact go 54 kyC3_54 (by omega) h54
  by_cases h108 : i < 162
  · exact go 108 kyC3_108 (by omega) h108
  by_cases h162 : i < 216
  · exact go 162 kyC3_162 (by omega) h162
  omega
theorem ky_ok3 {i q : Nat} {r rk : D} (h : gtL RW3 i = some r) (hq : q < 3) (hk : rk ∈ OR3) : ∃ y, gtL RW3 (jn3 i r q rk) = some y ∧ jn3 i r q rk < 216 ∧ r_replaced [r, .int (.ofNat q), rk] = .ret y ∧ kx3 i q rk = .ret y ∧ fstIx y RW3 0 = some (jn3 i r q rk) ∧ okD 12 y = true := by
  have h2 := List.all_eq_true.mp (List.all_eq_true.mp (ky_at3 h) q (List.mem_range.mpr hq)) rk hk
  unfold kyE3 at h2
  split at h2
  · rename_i y e
    rw [Bool.and_eq_true] at h2
    have h3 := allIx_at ixC3 e
    rw [Nat.zero_add, Bool.and_eq_true] at h3
    have h4 := gtL_len e
    rw [RWl3] at h4
    exact ⟨y, e, h4, isEq_eq h2.1, isEq_eq h2.2, someN_eq h3.1, h3.2⟩
  · cases h2
/-- the place of what q gets by a ranking, the place of what it gets -/
def py3 (g : Nat → Nat) (i q : Nat) (rk : D) : Nat := unN (ixE3 (tro3 (rw3 i) q) (th3 (vl3 (.int (.ofNat (g (jn3 i (rw3 i) q rk))))) q))
def px3 (g : Nat → Nat) (i q : Nat) : Nat := unN (ixE3 (tro3 (rw3 i) q) (th3 (vl3 (.int (.ofNat (g i)))) q))
def cl3 (g : Nat → Nat) (i q : Nat) (rk : D) : Bool := Nat.blt (py3 g i q rk) (px3 g i q)
theorem ORt3 : OR3.all isTup = true := by decide +kernel
theorem cpe3 {q : Nat} (h : q < 3) : r_check_person [.int (.ofNat q), .int (.ofNat 3)] = .ret .non := by
  match q, h with
  | 0, _ => kernel_rfl
  | 1, _ => kernel_rfl
  | 2, _ => kernel_rfl
  | q + 3, h => exact absurd h (by omega)
theorem lies3 {g : Nat → Nat} (hg : ∀ i, i < 216 → g i < 6) {i q : Nat} (hi : i < 216) (hq : q < 3) : r_lies [Rv3 g, rw3 i, .int (.ofNat q)] = .ret (.tup (OR3.filter (cl3 g i q))) := by
  have h := rwo3 hi
  obtain ⟨z1, z2, z3⟩ := row3 h
  have e4 := keyr3 h
  obtain ⟨e5, e6⟩ := tr_ok3 h hq
  have eky := fun rk hk => ky_ok3 (rk := rk) h hq hk
  have epx : ixE3 (tro3 (rw3 i) q) (th3 (vl3 (.int (.ofNat (g i)))) q) = .ret (.int (.ofNat (px3 g i q))) := by
    obtain ⟨xs, g1, g2, g3⟩ := th_ok3 (hg i hi) hq
    exact e6 _ g3
  have epy : ∀ rk ∈ OR3, ixE3 (tro3 (rw3 i) q) (th3 (vl3 (.int (.ofNat (g (jn3 i (rw3 i) q rk))))) q) = .ret (.int (.ofNat (py3 g i q rk))) := by
    intro rk hk
    obtain ⟨y, _, j1, _⟩ := eky rk hk
    obtain ⟨xs, g1, g2, g3⟩ := th_ok3 (hg _ j1) hq
    exact e6 _ g3
  generalize rw3 i = r at *
  obtain ⟨rs, rfl⟩ : ∃ rs, r = .tup rs := ⟨_, z1⟩
  have z2 : rs.length = 3 := z2
  have e5 : gtL rs q = some (tro3 (.tup rs) q) := e5
  obtain ⟨ds, d1, d2, d3⟩ := th_ok3 (hg i hi) hq
  have J0 : ∀ (done : List D) (x : D) (rest : List D), OR3 = done ++ x :: rest → ∀ fr hp, (∃ a b, fr = [some (.v (Rv3 g)), some (.v (.tup rs)), some (.v (.int (.ofNat q))), some (.v (Dv3 g)), some (.v (tro3 (.tup rs) q)), some (.v (.int (.ofNat (px3 g i q)))), some (.r 0), a, b] ∧ hp = [done.filter (cl3 g i q)]) → ∃ fr1 fr' hp', ((gIX 7)) x fr = .ret fr1 ∧ ((sSeq (sSet 8 (eIx (lSeq (eIxD (eV 3) (eCall r_replaced 3 (aC (eV 1) (aC (eV 2) (aC (eV 7) aN)))))) (eV 2)))
    (sIf (b1 (e2 dLt (eIdxF (eV 4) (eV 8)) (eV 5)))
    (sApp 6 (eV 7)) sNil))) fr1 hp = .ret (.nx fr' hp') ∧ ∃ a b, fr' = [some (.v (Rv3 g)), some (.v (.tup rs)), some (.v (.int (.ofNat q))), some (.v (Dv3 g)), some (.v (tro3 (.tup rs) q)), some (.v (.int (.ofNat (px3 g i q)))), some (.r 0), a, b] ∧ hp' = [(done ++ [x]).filter (cl3 g i q)] := by
    rintro done x rest eo _ _ ⟨a, b, rfl, rfl⟩
    have hx : x ∈ OR3 := by rw [eo]; simp
    have hl : done.length ≤ 6 := by
      have := ORl3
      rw [eo] at this
      simp at this
      omega
    have ht : ∀ d ∈ done ++ [x], isTup d = true := fun d hd => List.all_eq_true.mp ORt3 d (by rw [eo]; simp at hd ⊢; rcases hd with z | z <;> simp [z])
    have eyx := epy x hx
    obtain ⟨y, j0, j1, j3, j4, j5, j6⟩ := eky x hx
    obtain ⟨ys, y1, y2, y3⟩ := th_ok3 (hg _ j1) hq
    have hix := ixr3 (g := g) j0 (keyr3 j0)
    rw [y1] at hix eyx y2
    have hc : cl3 g i q x = Nat.blt (py3 g i q x) (px3 g i q) := rfl
    refine ⟨[some (.v (Rv3 g)), some (.v (.tup rs)), some (.v (.int (.ofNat q))), some (.v (Dv3 g)), some (.v (tro3 (.tup rs) q)), some (.v (.int (.ofNat (px3 g i q)))), some (.r 0), some (.v x), b], [some (.v (Rv3 g)), some (.v (.tup rs)), some (.v (.int (.ofNat q))), some (.v (Dv3 g)), some (.v (tro3 (.tup rs) q)), some (.v (.int (.ofNat (px3 g i q)))), some (.r 0), some (.v x), some (.v (.int (.ofNat (th3 (.tup ys) q))))], [(done ++ [x]).filter (cl3 g i q)], nGI rfl, ?_, _, _, rfl, rfl⟩
    refine nSeq (nSet (nIx (nLseqT (nIxD (nV rfl) (nCall (nA (nV rfl) (nA (nV rfl) (nA (nV rfl) nN))) rfl j3) hix)) (nV rfl) y2) rfl) ?_
    rw [List.filter_append]
    have okf : lstOk (done.filter (cl3 g i q)) = true := lstOk_tups fun d hd => ht d (by simp [(List.mem_filter.mp hd).1])
    have cond : ∀ b, cl3 g i q x = b → b1 (e2 dLt (eIdxF (eV 4) (eV 8)) (eV 5)) [some (.v (Rv3 g)), some (.v (.tup rs)), some (.v (.int (.ofNat q))), some (.v (Dv3 g)), some (.v (tro3 (.tup rs) q)), some (.v (.int (.ofNat (px3 g i q)))), some (.r 0), some (.v x), some (.v (.int (.ofNat (th3 (.tup ys) q))))] [done.filter (cl3 g i q)] = .ret b := by
      intro b hb
      have h8 : eIdxF (eV 4) (eV 8) [some (.v (Rv3 g)), some (.v (.tup rs)), some (.v (.int (.ofNat q))), some (.v (Dv3 g)), some (.v (tro3 (.tup rs) q)), some (.v (.int (.ofNat (px3 g i q)))), some (.r 0), some (.v x), some (.v (.int (.ofNat (th3 (.tup ys) q))))] [done.filter (cl3 g i q)] = ixE3 (tro3 (.tup rs) q) (th3 (.tup ys) q) := kIdxF rfl rfl
      refine nB1 (n2 (h8.trans eyx) (nV rfl) ?_)
      rw [← hb, hc]
      exact dLt_nat _ _
    cases qc : cl3 g i q x with
    | true =>
      refine nIfT (cond true qc) (nApp (n := 0) (xs := done.filter (cl3 g i q)) rfl rfl ?_ (nV rfl) ?_ ?_)
      · rw [okf, few_of (Nat.le_trans (Nat.le_trans (List.length_filter_le _ _) hl) (by decide))]
        rfl
      · exact lstOk_tups fun d hd => ht d (by simp at hd ⊢; rcases hd with z | z <;> simp [z])
      · rw [List.filter_cons_of_pos qc]
        rfl
    | false =>
      refine nIfF (cond false qc) ?_
      rw [List.filter_cons_of_neg (by rw [qc]; exact Bool.false_ne_true), List.filter_nil, List.append_nil]
      rfl
  obtain ⟨fr', hp', e7, a, b, rfl, rfl⟩ := forS_pre _ OR3 J0 OR3 [] [some (.v (Rv3 g)), some (.v (.tup rs)), some (.v (.int (.ofNat q))), some (.v (Dv3 g)), some (.v (tro3 (.tup rs) q)), some (.v (.int (.ofNat (px3 g i q)))), some (.r 0), none, none] [[]] rfl ⟨none, none, rfl, rfl⟩
  have okF : lstOk (OR3.filter (cl3 g i q)) = true := lstOk_tups fun d hd => List.all_eq_true.mp ORt3 d (List.mem_filter.mp hd).1
  have hrd := ixr3 (g := g) h e4
  rw [d1] at hrd epx d2
  have h50 : (eIx (lSeq (eIxD (eV 3) (eV 1))) (eV 2)) [some (.v (Rv3 g)), some (.v (.tup rs)), some (.v (.int (.ofNat q))), some (.v (Dv3 g)), some (.v (tro3 (.tup rs) q)), none, none, none, none] [] = .ret (.int (.ofNat (th3 (.tup ds) q))) := nIx (nLseqT (nIxD (nV rfl) (nV rfl) hrd)) (nV rfl) d2
  have h5 : (eIdxF (eV 4) (eIx (lSeq (eIxD (eV 3) (eV 1))) (eV 2))) [some (.v (Rv3 g)), some (.v (.tup rs)), some (.v (.int (.ofNat q))), some (.v (Dv3 g)), some (.v (tro3 (.tup rs) q)), none, none, none, none] [] = ixE3 (tro3 (.tup rs) q) (th3 (.tup ds) q) := kIdxF rfl h50
  unfold r_lies
  exact nB (fr := [some (.v (Rv3 g)), some (.v (.tup rs)), some (.v (.int (.ofNat q))), none, none, none, none, none, none]) rfl (nSeq (nDrop (nCall (nA (nV rfl) nN) rfl (cr3 hg))) (nSeq (nDrop (nCall (nA (nV rfl) nN) rfl z3)) (nSeq (nDrop (nCall (nA (nCall (nA (nV rfl) nN) rfl (cp3 hg)) (nAF (nLen (nLseqT (nV rfl)) z2) nN)) rfl ca3)) (nSeq (nDrop (nCall (nA (nV rfl) (nAF (nLen (nLseqT (nV rfl)) z2) nN)) rfl (cpe3 hq)))
    (nSeq (nSet (fr' := [some (.v (Rv3 g)), some (.v (.tup rs)), some (.v (.int (.ofNat q))), some (.v (Dv3 g)), none, none, none, none, none]) (nCall (nA (nV rfl) nN) rfl (do3 hg)) rfl) (nSeq (nSet (fr' := [some (.v (Rv3 g)), some (.v (.tup rs)), some (.v (.int (.ofNat q))), some (.v (Dv3 g)), some (.v (tro3 (.tup rs) q)), none, none, none, none]) (nIx (nLseqT (nV rfl)) (nV rfl) e5) rfl)
    (nSeq (nSetV (fr' := [some (.v (Rv3 g)), some (.v (.tup rs)), some (.v (.int (.ofNat q))), some (.v (Dv3 g)), some (.v (tro3 (.tup rs) q)), some (.v (.int (.ofNat (px3 g i q)))), none, none, none]) (h5.trans epx) rfl) (nSeq (nNew (fr' := [some (.v (Rv3 g)), some (.v (.tup rs)), some (.v (.int (.ofNat q))), some (.v (Dv3 g)), some (.v (tro3 (.tup rs) q)), some (.v (.int (.ofNat (px3 g i q)))), some (.r 0), none, none]) (hp' := [[]]) (xs := []) rfl rfl rfl rfl) (nSeq (nFor (nLseqT (nCall (nAF (nLen (nLseqT (nV rfl)) z2) nN) rfl mO3)) e7) (nRetF (nTup (nVs rfl rfl okF))))))))))))
theorem l4_3 {nm ow : Option SV} {g : Nat → Nat} (hg : ∀ i, i < 216 → g i < 6) : (g_law_4 [none, some .row, some (.v (.int (.ofNat 3))), nm, ow, some (.v (.lst RW3)), some (.v (.lst OR3)), some (.r 0), none, none, none, none, none, none, none, none, none] [rl g 216]).all fun o => ∃ t g', (∀ i, i < 216 → g' i < 6) ∧ o = .nx [none, some .row, some (.v (.int (.ofNat 3))), nm, ow, some (.v (.lst RW3)), some (.v (.lst OR3)), some (.r 0), t, none, none, none, none, none, none, none, none] [rl g' 216] := by
  unfold g_law_4
  refine sFor_draw (by decide) (nTaken (n := 3) (nA nC nN) rfl (by decide)) fun n hn => ?_
  refine T.all_mono ?_ (forS_all (fun fr hp => ∃ t g', (∀ i, i < 216 → g' i < 6) ∧ fr = [none, some .row, some (.v (.int (.ofNat 3))), nm, ow, some (.v (.lst RW3)), some (.v (.lst OR3)), some (.r 0), t, none, none, none, none, none, none, none, none] ∧ hp = [rl g' 216]) (upto 0 n) _ _ (fun x hx fr hp h => ?_) ⟨none, g, hg, rfl, rfl⟩)
  · rintro o ⟨fr', hp', rfl, t, g', h1, rfl, rfl⟩
    exact ⟨t, g', h1, rfl⟩
  · obtain ⟨t, g', h1, rfl, rfl⟩ := h
    refine ⟨[none, some .row, some (.v (.int (.ofNat 3))), nm, ow, some (.v (.lst RW3)), some (.v (.lst OR3)), some (.r 0), some (.v x), none, none, none, none, none, none, none, none], nGF rfl, ?_⟩
    refine T.all_mono ?_ (sPut_all (n := 216) (c := 6) rfl (nTaken (nAF (nLen (nLseqL (nV rfl)) ORl3) nN) rfl (by decide)) (nTaken (nAF (nLen (nVs rfl rfl (lstOk_rl _ _)) (rl_len _ _)) nN) rfl (by decide)) h1)
    rintro o ⟨g2, h2, rfl⟩
    exact ⟨_, _, rfl, _, g2, h2, rfl, rfl⟩
theorem l5_3 {nm ow t : Option SV} {g : Nat → Nat} : (g_law_5 [none, some .row, some (.v (.int (.ofNat 3))), nm, ow, some (.v (.lst RW3)), some (.v (.lst OR3)), some (.r 0), t, none, none, none, none, none, none, none, none] [rl g 216]).all fun o => ∃ i q, i < 216 ∧ q < 3 ∧ o = .nx [none, some .row, some (.v (.int (.ofNat 3))), nm, ow, some (.v (.lst RW3)), some (.v (.lst OR3)), some (.r 0), t, some (.v (.int (.ofNat i))), some (.v (.int (.ofNat q))), some (.v (.lst [])), none, none, none, none, none] [rl g 216] := by
  unfold g_law_5 sPar3
  rw [nTaken (n := 216) (nAF (nLen (nLseqL (nV rfl)) RWl3) nN) rfl (by decide)]
  intro i hi
  show ((eCallR 1 taken 1 (aC (eV 2) aN) [none, some .row, some (.v (.int (.ofNat 3))), nm, ow, some (.v (.lst RW3)), some (.v (.lst OR3)), some (.r 0), t, none, none, none, none, none, none, none, none] [rl g 216]).bind _).all _
  rw [nTaken (n := 3) (nA (nV rfl) nN) rfl (by decide)]
  intro q hq
  exact ⟨i, q, hi, hq, rfl⟩
theorem alV3 : (List.range 6).all (fun n => isTr (r_law_alike 8 [vl3 (.int (.ofNat n)), vl3 (.int (.ofNat n))])) = true := by decide +kernel
theorem alP3 : r_law_alike 8 [.int (.ofNat 3), .int (.ofNat 3)] = .ret (.bl true) := by kernel_rfl
theorem alQ3 : allBL 3 (fun bs => isTr (r_law_alike 8 [.tup (fl bs QS3), .tup (fl bs QS3)])) = true := by decide +kernel
theorem alO3 : allBL 6 (fun bs => isTr (r_law_alike 8 [.tup (fl bs OR3), .tup (fl bs OR3)])) = true := by decide +kernel
theorem l6_3 {nm ow t : Option SV} {g : Nat → Nat} (hg : ∀ i, i < 216 → g i < 6) {i q : Nat} (hi : i < 216) : g_law_6 [none, some .row, some (.v (.int (.ofNat 3))), nm, ow, some (.v (.lst RW3)), some (.v (.lst OR3)), some (.r 0), t, some (.v (.int (.ofNat i))), some (.v (.int (.ofNat q))), some (.v (.lst [])), none, none, none, none, none] [rl g 216] = .ret (.nx [none, some .row, some (.v (.int (.ofNat 3))), nm, ow, some (.v (.lst RW3)), some (.v (.lst OR3)), some (.r 0), t, some (.v (.int (.ofNat i))), some (.v (.int (.ofNat q))), some (.v (.lst [])), none, none, none, none, none] [rl g 216]) := by
  have h1 := isTr_eq (List.all_eq_true.mp alV3 (g i) (List.mem_range.mpr (hg i hi)))
  unfold g_law_6
  exact nIfF (nOrF (nNot (nB1 (nCall (nA (nCall (nAF (nTup (nVs rfl rfl (lstOk_rl _ _))) (nA (nIx (nLseqL (nV rfl)) (nV rfl) (rwo3 hi)) nN)) rfl (dealt3 hg (rwo3 hi))) (nA (nIx (nLseqL (nV rfl)) (nIx (nVs rfl rfl (lstOk_rl _ _)) (nV rfl) (gtL_rl hi)) (vlm3 (hg i hi))) nN)) rfl h1)) rfl)
    (nNot (nB1 (nCall (nA (nCall (nAF (nTup (nVs rfl rfl (lstOk_rl _ _))) nN) rfl (cp3 hg)) (nA (nV rfl) nN)) rfl alP3)) rfl)) nNil
def spE3 (q : Nat) (r x : D) : T Bool := (b1 (e2 dNeF (eIx (lSeq (eC x)) (eC (.int (.ofNat q)))) (eIx (lSeq (eIx (lSeq (eC r)) (eC (.int (.ofNat q))))) (eC (.int 0))))) [] []
def spK3 (q : Nat) (r x : D) : Bool := match spE3 q r x with
  | .ret b => b == !unBl (bsE3 q r x)
  | _ => false
theorem spC3 : RW3.all (fun r => OR3.all fun x => (List.range 3).all fun q => spK3 q r x) = true := by decide +kernel
theorem sp_ok3 {k q : Nat} {g : Nat → Nat} (hg : ∀ i, i < 216 → g i < 6) (hk : k < 216) (hq : q < 3) : spE3 q (rw3 k) (vl3 (.int (.ofNat (g k)))) = .ret (!bf3 g q k) := by
  have h1 : rw3 k ∈ RW3 := by
    have := rwo3 hk
    rw [gtL_eq] at this
    exact List.mem_of_getElem? this
  have h2 : vl3 (.int (.ofNat (g k))) ∈ OR3 := by
    have := vlm3 (hg k hk)
    rw [gtL_eq] at this
    exact List.mem_of_getElem? this
  have h := List.all_eq_true.mp (List.all_eq_true.mp (List.all_eq_true.mp spC3 _ h1) _ h2) q (List.mem_range.mpr hq)
  unfold spK3 at h
  split at h
  · rename_i b e
    rw [e, eq_of_beq h]
    rfl
  · cases h
theorem rgL3 : rng1 [.int (.ofNat 216)] = .ret (rl (fun i => i) 216) := by kernel_rfl
def ib3 (g : Nat → Nat) (q : Nat) (d : D) : Bool := match d with
  | .int (.ofNat k) => !bf3 g q k
  | _ => false
theorem l7_3 {nm ow t : Option SV} {g : Nat → Nat} (hg : ∀ i, i < 216 → g i < 6) {i q : Nat} : g_law_7 [none, some .row, some (.v (.int (.ofNat 3))), nm, ow, some (.v (.lst RW3)), some (.v (.lst OR3)), some (.r 0), t, some (.v (.int (.ofNat i))), some (.v (.int (.ofNat q))), some (.v (.lst [])), none, none, none, none, none] [rl g 216] = .ret (.nx [none, some .row, some (.v (.int (.ofNat 3))), nm, ow, some (.v (.lst RW3)), some (.v (.lst OR3)), some (.r 0), t, some (.v (.int (.ofNat i))), some (.v (.int (.ofNat q))), some (.v (.lst [])), some (.v (.lst (due3 g))), none, none, none, none] [rl g 216]) := by
  have st : ∀ d ∈ QS3, ∃ fr1, ((gIF 13)) d [none, some .row, some (.v (.int (.ofNat 3))), nm, ow, some (.v (.lst RW3)), some (.v (.lst OR3)), some (.r 0), t, some (.v (.int (.ofNat i))), some (.v (.int (.ofNat q))), some (.v (.lst [])), none, none, none, none, none] = .ret fr1 ∧ ((b1 (e2 dEqF (lst (nLc (lR1 (aC (eLen (lSeq (eV 5))) aN)) (gIF 14) (b1 (e2 dNeF (eIx (lSeq (eIx (lSeq (eV 6)) (eIx (eVs 7) (eV 14)))) (eV 13)) (eIx (lSeq (eIx (lSeq (eIx (lSeq (eV 5)) (eV 14))) (eV 13))) (eC (.int 0))))) (eV 14) [14])) (lst (nL aN))))) fr1 [rl g 216] = .ret (bq3 g d) ∧ (bq3 g d = true → ((eV 13)) fr1 [rl g 216] = .ret (id d)) := by
    intro d hd
    obtain ⟨u, hu, rfl⟩ := memQ3 hd
    refine ⟨[none, some .row, some (.v (.int (.ofNat 3))), nm, ow, some (.v (.lst RW3)), some (.v (.lst OR3)), some (.r 0), t, some (.v (.int (.ofNat i))), some (.v (.int (.ofNat q))), some (.v (.lst [])), none, some (.v (.int (.ofNat u))), none, none, none], nGF rfl, ?_, fun _ => nV rfl⟩
    have st2 : ∀ d ∈ rl (fun i => i) 216, ∃ fr1, ((gIF 14)) d [none, some .row, some (.v (.int (.ofNat 3))), nm, ow, some (.v (.lst RW3)), some (.v (.lst OR3)), some (.r 0), t, some (.v (.int (.ofNat i))), some (.v (.int (.ofNat q))), some (.v (.lst [])), none, some (.v (.int (.ofNat u))), none, none, none] = .ret fr1 ∧ ((b1 (e2 dNeF (eIx (lSeq (eIx (lSeq (eV 6)) (eIx (eVs 7) (eV 14)))) (eV 13)) (eIx (lSeq (eIx (lSeq (eIx (lSeq (eV 5)) (eV 14))) (eV 13))) (eC (.int 0)))))) fr1 [rl g 216] = .ret (ib3 g u d) ∧ (ib3 g u d = true → ((eV 14)) fr1 [rl g 216] = .ret (id d)) := by
      intro d hd
      obtain ⟨k, hk, rfl⟩ := rl_mem hd
      refine ⟨[none, some .row, some (.v (.int (.ofNat 3))), nm, ow, some (.v (.lst RW3)), some (.v (.lst OR3)), some (.r 0), t, some (.v (.int (.ofNat i))), some (.v (.int (.ofNat q))), some (.v (.lst [])), none, some (.v (.int (.ofNat u))), some (.v (.int (.ofNat k))), none, none], nGF rfl, ?_, fun _ => nV rfl⟩
      have hA : (eIx (lSeq (eV 6)) (eIx (eVs 7) (eV 14))) [none, some .row, some (.v (.int (.ofNat 3))), nm, ow, some (.v (.lst RW3)), some (.v (.lst OR3)), some (.r 0), t, some (.v (.int (.ofNat i))), some (.v (.int (.ofNat q))), some (.v (.lst [])), none, some (.v (.int (.ofNat u))), some (.v (.int (.ofNat k))), none, none] [rl g 216] = (eC (vl3 (.int (.ofNat (g k))))) [] [] := by
        show _ = T.ret _
        exact nIx (nLseqL (nV rfl)) (nIx (nVs rfl rfl (lstOk_rl _ _)) (nV rfl) (gtL_rl hk)) (vlm3 (hg k hk))
      have hB : (eIx (lSeq (eV 5)) (eV 14)) [none, some .row, some (.v (.int (.ofNat 3))), nm, ow, some (.v (.lst RW3)), some (.v (.lst OR3)), some (.r 0), t, some (.v (.int (.ofNat i))), some (.v (.int (.ofNat q))), some (.v (.lst [])), none, some (.v (.int (.ofNat u))), some (.v (.int (.ofNat k))), none, none] [rl g 216] = (eC (rw3 k)) [] [] := by
        show _ = T.ret _
        exact nIx (nLseqL (nV rfl)) (nV rfl) (rwo3 hk)
      have hC : ((b1 (e2 dNeF (eIx (lSeq (eIx (lSeq (eV 6)) (eIx (eVs 7) (eV 14)))) (eV 13)) (eIx (lSeq (eIx (lSeq (eIx (lSeq (eV 5)) (eV 14))) (eV 13))) (eC (.int 0)))))) [none, some .row, some (.v (.int (.ofNat 3))), nm, ow, some (.v (.lst RW3)), some (.v (.lst OR3)), some (.r 0), t, some (.v (.int (.ofNat i))), some (.v (.int (.ofNat q))), some (.v (.lst [])), none, some (.v (.int (.ofNat u))), some (.v (.int (.ofNat k))), none, none] [rl g 216] = spE3 u (rw3 k) (vl3 (.int (.ofNat (g k)))) := kB1 (k2 (kIx (kLseq hA) rfl) (kIx (kLseq (kIx (kLseq hB) rfl)) rfl))
      rw [hC]
      exact sp_ok3 hg hk hu
    have e := lcF_map (set := (gIF 14)) (t := (b1 (e2 dNeF (eIx (lSeq (eIx (lSeq (eV 6)) (eIx (eVs 7) (eV 14)))) (eV 13)) (eIx (lSeq (eIx (lSeq (eIx (lSeq (eV 5)) (eV 14))) (eV 13))) (eC (.int 0)))))) (e := (eV 14)) (hp := [rl g 216]) (ib3 g u) id _ st2
    rw [List.map_id] at e
    have hints : ∀ d ∈ (rl (fun i => i) 216).filter (ib3 g u), ∃ i, d = .int i := fun d hd => by
      obtain ⟨k, _, rfl⟩ := rl_mem (List.mem_filter.mp hd).1
      exact ⟨_, rfl⟩
    have hall : ((rl (fun i => i) 216).filter (ib3 g u)).isEmpty = bs3 g u := by
      rw [filter_empty, rl_id_all]
      unfold bs3
      congr 1
      funext k
      show (!(!bf3 g u k)) = _
      rw [Bool.not_not]
    refine nB1 (n2 (nLst (nLc1 (nR1 (nA (nLen (nLseqL (nV rfl)) RWl3) nN) rgL3) (few_of (by rw [rl_len]; decide)) rfl e)) (nLst rfl) ?_)
    rw [dEq_nil hints, hall]
    rfl
  have e := lcF_map (set := (gIF 13)) (t := (b1 (e2 dEqF (lst (nLc (lR1 (aC (eLen (lSeq (eV 5))) aN)) (gIF 14) (b1 (e2 dNeF (eIx (lSeq (eIx (lSeq (eV 6)) (eIx (eVs 7) (eV 14)))) (eV 13)) (eIx (lSeq (eIx (lSeq (eIx (lSeq (eV 5)) (eV 14))) (eV 13))) (eC (.int 0))))) (eV 14) [14])) (lst (nL aN))))) (e := (eV 13)) (hp := [rl g 216]) (bq3 g) id _ st
  rw [List.map_id] at e
  unfold g_law_7
  exact nSetV (nLst (nLc1 (nR1 (nA (nV rfl) nN) rgQ3) (by decide) rfl e)) rfl
theorem lb3 {tr : D} {a b na nb : Nat} (ha : ixE3 tr a = .ret (.int (.ofNat na))) (hb : ixE3 tr b = .ret (.int (.ofNat nb))) : r_law_before [tr, .int (.ofNat a), .int (.ofNat b)] = .ret (.bl (Nat.blt na nb)) := by
  have h1 : (eIdxF (eV 0) (eV 1)) [some (.v tr), some (.v (.int (.ofNat a))), some (.v (.int (.ofNat b)))] [] = ixE3 tr a := kIdxF rfl rfl
  have h2 : (eIdxF (eV 0) (eV 2)) [some (.v tr), some (.v (.int (.ofNat a))), some (.v (.int (.ofNat b)))] [] = ixE3 tr b := kIdxF rfl rfl
  unfold r_law_before
  exact nB (fr := [some (.v tr), some (.v (.int (.ofNat a))), some (.v (.int (.ofNat b)))]) rfl (nRetF (n2 (h1.trans ha) (h2.trans hb) (dLt_nat _ _)))
theorem lr_3 {nm ow t : Option SV} {g : Nat → Nat} (hg : ∀ i, i < 216 → g i < 6) {i q : Nat} (hi : i < 216) (hq : q < 3) : g_law_r [none, some .row, some (.v (.int (.ofNat 3))), nm, ow, some (.v (.lst RW3)), some (.v (.lst OR3)), some (.r 0), t, some (.v (.int (.ofNat i))), some (.v (.int (.ofNat q))), some (.v (.lst [])), some (.v (.lst (due3 g))), none, none, none, none] [rl g 216] = .ret (.rt (.bl true)) := by
  have h := rwo3 hi
  obtain ⟨z1, z2, z3⟩ := row3 h
  obtain ⟨e5, e6⟩ := tr_ok3 h hq
  have eky := fun rk hk => ky_ok3 (rk := rk) h hq hk
  obtain ⟨ds, d1, d2, d3⟩ := th_ok3 (hg i hi) hq
  have epx : ixE3 (tro3 (rw3 i) q) (th3 (vl3 (.int (.ofNat (g i)))) q) = .ret (.int (.ofNat (px3 g i q))) := e6 _ d3
  obtain ⟨rs, ers⟩ : ∃ rs, rw3 i = .tup rs := ⟨_, z1⟩
  have h' := h
  rw [ers] at h'
  have e5 : gtL rs q = some (tro3 (rw3 i) q) := by rw [ers] at e5 ⊢; exact e5
  have J0 : ∀ (done : List D) (x : D) (rest : List D), OR3 = done ++ x :: rest → ∀ fr hp, (∃ a b, fr = [none, some .row, some (.v (.int (.ofNat 3))), nm, ow, some (.v (.lst RW3)), some (.v (.lst OR3)), some (.r 0), t, some (.v (.int (.ofNat i))), some (.v (.int (.ofNat q))), some (.v (.lst (done.filter (cl3 g i q)))), some (.v (.lst (due3 g))), none, none, a, b] ∧ hp = [rl g 216]) → ∃ fr1 fr' hp', ((gIX 15)) x fr = .ret fr1 ∧ ((sSeq (sSet 16 (eIx (lSeq (eV 6)) (eIx (eVs 7) (eIdxL (eV 5) (e2 dPlus (e2 dPlus (eSl (eIx (lSeq (eV 5)) (eV 9)) pNo (pYes (eV 10))) (eT (aC (eV 15) aN))) (eSl (eIx (lSeq (eV 5)) (eV 9)) (pYes (e2 dPlus (eV 10) (eC (.int 1)))) pNo))))))
    (sSetV 11 (e2 dPlus (eV 11) (eIf (b1 (eCall r_law_before 3 (aC (eIx (lSeq (eIx (lSeq (eV 5)) (eV 9))) (eV 10)) (aC (eIx (lSeq (eV 16)) (eV 10)) (aC (eIx (lSeq (eIx (lSeq (eV 6)) (eIx (eVs 7) (eV 9)))) (eV 10)) aN))))) (lst (nL (aC (eV 15) aN))) (lst (nL aN))))))) fr1 hp = .ret (.nx fr' hp') ∧ ∃ a b, fr' = [none, some .row, some (.v (.int (.ofNat 3))), nm, ow, some (.v (.lst RW3)), some (.v (.lst OR3)), some (.r 0), t, some (.v (.int (.ofNat i))), some (.v (.int (.ofNat q))), some (.v (.lst ((done ++ [x]).filter (cl3 g i q)))), some (.v (.lst (due3 g))), none, none, a, b] ∧ hp' = [rl g 216] := by
    rintro done x rest eo _ _ ⟨a, b, rfl, rfl⟩
    have hx : x ∈ OR3 := by rw [eo]; simp
    have hl : done.length ≤ 6 := by
      have := ORl3
      rw [eo] at this
      simp at this
      omega
    obtain ⟨y, j0, j1, j3, j4, j5, j6⟩ := eky x hx
    obtain ⟨ys, y1, y2, y3⟩ := th_ok3 (hg _ j1) hq
    have epy : ixE3 (tro3 (rw3 i) q) (th3 (vl3 (.int (.ofNat (g (jn3 i (rw3 i) q x))))) q) = .ret (.int (.ofNat (py3 g i q x))) := e6 _ y3
    have hkx : ((e2 dPlus (e2 dPlus (eSl (eIx (lSeq (eV 5)) (eV 9)) pNo (pYes (eV 10))) (eT (aC (eV 15) aN))) (eSl (eIx (lSeq (eV 5)) (eV 9)) (pYes (e2 dPlus (eV 10) (eC (.int 1)))) pNo))) [none, some .row, some (.v (.int (.ofNat 3))), nm, ow, some (.v (.lst RW3)), some (.v (.lst OR3)), some (.r 0), t, some (.v (.int (.ofNat i))), some (.v (.int (.ofNat q))), some (.v (.lst (done.filter (cl3 g i q)))), some (.v (.lst (due3 g))), none, none, some (.v x), b] [rl g 216] = kx3 i q x := k2 (k2 (kSl (kIx (kLseq rfl) rfl) rfl (kYes rfl)) (kT (kA rfl rfl))) (kSl (kIx (kLseq rfl) rfl) (kYes (k2 rfl rfl)) rfl)
    have ok3 : (okD 12 (.lst RW3) && (allO (okD 12) RW3 && okD 12 y)) = true := by
      have := okC3
      rw [Bool.and_eq_true] at this
      rw [this.1, this.2, j6]
      rfl
    refine ⟨[none, some .row, some (.v (.int (.ofNat 3))), nm, ow, some (.v (.lst RW3)), some (.v (.lst OR3)), some (.r 0), t, some (.v (.int (.ofNat i))), some (.v (.int (.ofNat q))), some (.v (.lst (done.filter (cl3 g i q)))), some (.v (.lst (due3 g))), none, none, some (.v x), b], [none, some .row, some (.v (.int (.ofNat 3))), nm, ow, some (.v (.lst RW3)), some (.v (.lst OR3)), some (.r 0), t, some (.v (.int (.ofNat i))), some (.v (.int (.ofNat q))), some (.v (.lst ((done ++ [x]).filter (cl3 g i q)))), some (.v (.lst (due3 g))), none, none, some (.v x), some (.v (vl3 (.int (.ofNat (g (jn3 i (rw3 i) q x))))))], [rl g 216], nGI rfl, ?_, _, _, rfl, rfl⟩
    refine nSeq (nSet (fr' := [none, some .row, some (.v (.int (.ofNat 3))), nm, ow, some (.v (.lst RW3)), some (.v (.lst OR3)), some (.r 0), t, some (.v (.int (.ofNat i))), some (.v (.int (.ofNat q))), some (.v (.lst (done.filter (cl3 g i q)))), some (.v (.lst (due3 g))), none, none, some (.v x), some (.v (vl3 (.int (.ofNat (g (jn3 i (rw3 i) q x))))))]) (nIx (nLseqL (nV rfl)) (nIx (nVs rfl rfl (lstOk_rl _ _)) (nIdxL (nV rfl) (hkx.trans j4) ok3 j5) (gtL_rl j1)) (vlm3 (hg _ j1))) rfl) ?_
    have hx1 : (eIx (lSeq (eIx (lSeq (eV 5)) (eV 9))) (eV 10)) [none, some .row, some (.v (.int (.ofNat 3))), nm, ow, some (.v (.lst RW3)), some (.v (.lst OR3)), some (.r 0), t, some (.v (.int (.ofNat i))), some (.v (.int (.ofNat q))), some (.v (.lst (done.filter (cl3 g i q)))), some (.v (.lst (due3 g))), none, none, some (.v x), some (.v (vl3 (.int (.ofNat (g (jn3 i (rw3 i) q x))))))] [rl g 216] = .ret (tro3 (rw3 i) q) := nIx (nLseqT (nIx (nLseqL (nV rfl)) (nV rfl) h')) (nV rfl) e5
    have hx2 : (eIx (lSeq (eV 16)) (eV 10)) [none, some .row, some (.v (.int (.ofNat 3))), nm, ow, some (.v (.lst RW3)), some (.v (.lst OR3)), some (.r 0), t, some (.v (.int (.ofNat i))), some (.v (.int (.ofNat q))), some (.v (.lst (done.filter (cl3 g i q)))), some (.v (.lst (due3 g))), none, none, some (.v x), some (.v (vl3 (.int (.ofNat (g (jn3 i (rw3 i) q x))))))] [rl g 216] = .ret (.int (.ofNat (th3 (vl3 (.int (.ofNat (g (jn3 i (rw3 i) q x))))) q))) := by
      refine nIx (nLseqT ?_) (nV rfl) y2
      rw [← y1]
      exact nV rfl
    have hx3 : (eIx (lSeq (eIx (lSeq (eV 6)) (eIx (eVs 7) (eV 9)))) (eV 10)) [none, some .row, some (.v (.int (.ofNat 3))), nm, ow, some (.v (.lst RW3)), some (.v (.lst OR3)), some (.r 0), t, some (.v (.int (.ofNat i))), some (.v (.int (.ofNat q))), some (.v (.lst (done.filter (cl3 g i q)))), some (.v (.lst (due3 g))), none, none, some (.v x), some (.v (vl3 (.int (.ofNat (g (jn3 i (rw3 i) q x))))))] [rl g 216] = .ret (.int (.ofNat (th3 (vl3 (.int (.ofNat (g i)))) q))) := by
      refine nIx (nLseqT ?_) (nV rfl) d2
      rw [← d1]
      exact nIx (nLseqL (nV rfl)) (nIx (nVs rfl rfl (lstOk_rl _ _)) (nV rfl) (gtL_rl hi)) (vlm3 (hg i hi))
    have hbf : (b1 (eCall r_law_before 3 (aC (eIx (lSeq (eIx (lSeq (eV 5)) (eV 9))) (eV 10)) (aC (eIx (lSeq (eV 16)) (eV 10)) (aC (eIx (lSeq (eIx (lSeq (eV 6)) (eIx (eVs 7) (eV 9)))) (eV 10)) aN))))) [none, some .row, some (.v (.int (.ofNat 3))), nm, ow, some (.v (.lst RW3)), some (.v (.lst OR3)), some (.r 0), t, some (.v (.int (.ofNat i))), some (.v (.int (.ofNat q))), some (.v (.lst (done.filter (cl3 g i q)))), some (.v (.lst (due3 g))), none, none, some (.v x), some (.v (vl3 (.int (.ofNat (g (jn3 i (rw3 i) q x))))))] [rl g 216] = .ret (cl3 g i q x) := nB1 (nCall (nA hx1 (nA hx2 (nA hx3 nN))) rfl (lb3 epy epx))
    have hfw : ∀ zs : List D, few zs 10000 = true → (few (done.filter (cl3 g i q)) 10000 && few zs 10000) = true := fun zs hz => by
      rw [hz, few_of (Nat.le_trans (Nat.le_trans (List.length_filter_le _ _) hl) (by decide))]
      rfl
    rw [List.filter_append]
    cases qc : cl3 g i q x with
    | true =>
      rw [qc] at hbf
      rw [List.filter_cons_of_pos qc]
      exact nSetV (n2 (nV rfl) (nIfE hbf rfl) (dPlus_lst (hfw [x] rfl))) rfl
    | false =>
      rw [qc] at hbf
      rw [List.filter_cons_of_neg (by rw [qc]; exact Bool.false_ne_true)]
      exact nSetV (n2 (nV rfl) (nIfE hbf rfl) (dPlus_lst (hfw [] rfl))) rfl
  obtain ⟨fr', hp', e7, a, b, rfl, rfl⟩ := forS_pre _ OR3 J0 OR3 [] [none, some .row, some (.v (.int (.ofNat 3))), nm, ow, some (.v (.lst RW3)), some (.v (.lst OR3)), some (.r 0), t, some (.v (.int (.ofNat i))), some (.v (.int (.ofNat q))), some (.v (.lst [])), some (.v (.lst (due3 g))), none, none, none, none] [rl g 216] rfl ⟨none, none, rfl, rfl⟩
  have aq : r_law_alike 8 [.tup (due3 g), .tup (due3 g)] = .ret (.bl true) := by
    unfold due3
    rw [filter_fl]
    exact isTr_eq (allBL_at alQ3 _ (by rw [List.length_map]; rfl))
  have ao : r_law_alike 8 [.tup (OR3.filter (cl3 g i q)), .tup (OR3.filter (cl3 g i q))] = .ret (.bl true) := by
    rw [filter_fl]
    exact isTr_eq (allBL_at alO3 _ (by rw [List.length_map, ORl3]))
  unfold g_law_r
  exact nSeq (nIfF (nNot (nB1 (nCall (nA (nCall (nAF (nTup (nVs rfl rfl (lstOk_rl _ _))) nN) rfl (bosses3 hg)) (nAF (nTup (nLseqL (nV rfl))) nN)) rfl aq)) rfl) nNil) (nSeq (nFor (nLseqL (nV rfl)) e7) (nRet (nCall (nA (nCall (nAF (nTup (nVs rfl rfl (lstOk_rl _ _))) (nA (nIx (nLseqL (nV rfl)) (nV rfl) h) (nA (nV rfl) nN))) rfl (lies3 hg hi hq)) (nAF (nTup (nLseqL (nV rfl))) nN)) rfl ao)))
/-- the law behind its told rule -/
theorem any3 {nm ow : Option SV} {g : Nat → Nat} (hg : ∀ i, i < 216 → g i < 6) : RtAll ((sSeq g_law_4 (sSeq g_law_5 (sSeq g_law_6 (sSeq g_law_7 (g_law_r))))) [none, some .row, some (.v (.int (.ofNat 3))), nm, ow, some (.v (.lst RW3)), some (.v (.lst OR3)), some (.r 0), none, none, none, none, none, none, none, none, none] [rl g 216]) := by
  constructor
  refine T.bind_all (T.all_mono ?_ (l4_3 hg))
  rintro o ⟨t, g', h1, rfl⟩
  refine T.bind_all (T.all_mono ?_ (l5_3 (nm := nm) (ow := ow) (t := t) (g := g')))
  rintro o ⟨i, q, hi, hq, rfl⟩
  have e : (sSeq g_law_6 (sSeq g_law_7 (g_law_r))) [none, some .row, some (.v (.int (.ofNat 3))), nm, ow, some (.v (.lst RW3)), some (.v (.lst OR3)), some (.r 0), t, some (.v (.int (.ofNat i))), some (.v (.int (.ofNat q))), some (.v (.lst [])), none, none, none, none, none] [rl g' 216] = .ret (.rt (.bl true)) := nSeq (l6_3 h1 hi) (nSeq (l7_3 h1) (lr_3 h1 hi hq))
  show ((sSeq g_law_6 (sSeq g_law_7 (g_law_r))) [none, some .row, some (.v (.int (.ofNat 3))), nm, ow, some (.v (.lst RW3)), some (.v (.lst OR3)), some (.r 0), t, some (.v (.int (.ofNat i))), some (.v (.int (.ofNat q))), some (.v (.lst [])), none, none, none, none, none] [rl g' 216]).all _
  rw [e]
  rfl
end Zl
set_option Elab.async false
set_option linter.all false
set_option maxRecDepth 1000000
set_option maxHeartbeats 400000
namespace Zl
open PySem L2
-- here
theorem fx2 : (List.range 2).all (fun n => someN (fstIx (vl2 (.int (.ofNat n))) OR2 0) n && okD 12 (vl2 (.int (.ofNat n)))) = true := by decide +kernel
theorem okO2 : (okD 12 (.lst OR2) && allO (okD 12) OR2) = true := by decide +kernel
def NU2 : D := .dct OR2 [.int (.ofNat 0), .int (.ofNat 1)]
theorem nu2 : (List.range 2).all (fun n => isEq (ixD NU2 (vl2 (.int (.ofNat n)))) (.int (.ofNat n))) = true := by decide +kernel
theorem fx3 : (List.range 6).all (fun n => someN (fstIx (vl3 (.int (.ofNat n))) OR3 0) n && okD 12 (vl3 (.int (.ofNat n)))) = true := by decide +kernel
theorem okO3 : (okD 12 (.lst OR3) && allO (okD 12) OR3) = true := by decide +kernel
def NU3 : D := .dct OR3 [.int (.ofNat 0), .int (.ofNat 1), .int (.ofNat 2), .int (.ofNat 3), .int (.ofNat 4), .int (.ofNat 5)]
theorem nu3 : (List.range 6).all (fun n => isEq (ixD NU3 (vl3 (.int (.ofNat n)))) (.int (.ofNat n))) = true := by decide +kernel
/-! asks, 2 people -/
def ns_asks2 : List Nat := [0, 0, 1, 1]
def nf_asks2 (i : Nat) : Nat := ns_asks2.getD i 0
theorem nb0_asks2 : (List.range 4).all (fun i => Nat.blt (nf_asks2 i) 2) = true := by decide +kernel
theorem nb_asks2 : ∀ i, i < 4 → nf_asks2 i < 2 := fun i hi => Nat.blt_eq.mp (List.all_eq_true.mp nb0_asks2 i (List.mem_range.mpr hi))
def tk_asks2 (i : Nat) (r : D) : Bool := isEq (r_deal_asks [r]) (vl2 (.int (.ofNat (nf_asks2 i)))) && isEq (r_law_dealt [.str [97, 115, 107, 115], r]) (vl2 (.int (.ofNat (nf_asks2 i))))
theorem tc_asks2_0 : allIx tk_asks2 ((RW2.drop 0).take 4) 0 = true := by decide +kernel
theorem td_asks2 {i : Nat} {r : D} (h : gtL RW2 i = some r) : r_deal_asks [r] = .ret (vl2 (.int (.ofNat (nf_asks2 i)))) ∧ r_law_dealt [.str [97, 115, 107, 115], r] = .ret (vl2 (.int (.ofNat (nf_asks2 i)))) ∧ i < 4 := by
  have hl := gtL_len h
  rw [RWl2] at hl
  have fin : tk_asks2 i r = true → r_deal_asks [r] = .ret (vl2 (.int (.ofNat (nf_asks2 i)))) ∧ r_law_dealt [.str [97, 115, 107, 115], r] = .ret (vl2 (.int (.ofNat (nf_asks2 i)))) ∧ i < 4 := by
    intro hk
    unfold tk_asks2 at hk
    rw [Bool.and_eq_true] at hk
    exact ⟨isEq_eq hk.1, isEq_eq hk.2, hl⟩
  refine fin ?_
  have go : ∀ (lo : Nat), allIx tk_asks2 ((RW2.drop lo).take 4) lo = true → lo ≤ i → i < lo + 4 → tk_asks2 i r = true := by
    intro lo hk h1 h2
    have e : gtL ((RW2.drop lo).take 4) (i - lo) = some r := by
      rw [gtL_eq] at h ⊢
      rw [List.getElem?_take, if_pos (by omega), List.getElem?_drop]
      rw [show lo + (i - lo) = i by omega]
      exact h
    have := allIx_at hk e
    rw [show lo + (i - lo) = i by omega] at this
    exact this
  by_cases h0 : i < 4
  · exact go 0 tc_asks2_0 (by omega) h0
  omega
theorem fx_asks2 {n : Nat} (hn : n < 2) : fstIx (vl2 (.int (.ofNat n))) OR2 0 = some n ∧ (okD 12 (.lst OR2) && (allO (okD 12) OR2 && okD 12 (vl2 (.int (.ofNat n))))) = true := by
  have h := List.all_eq_true.mp fx2 n (List.mem_range.mpr hn)
  rw [Bool.and_eq_true] at h
  have h2 := okO2
  rw [Bool.and_eq_true] at h2
  exact ⟨someN_eq h.1, by rw [h2.1, h2.2, h.2]; rfl⟩
theorem lt_asks2 : r_law_told [.str [97, 115, 107, 115], .int (.ofNat 2)] = .ret (.tup (rl nf_asks2 4)) := by
  have st : ∀ i x, gtL RW2 i = some x → ∃ fr1, ((gIX 3)) x [some (.v (.str [97, 115, 107, 115])), some (.v (.int (.ofNat 2))), some (.v (.lst OR2)), none] = .ret fr1 ∧ ((eIdxL (eV 2) (eCall r_law_dealt 2 (aC (eV 0) (aC (eV 3) aN))))) fr1 [] = .ret ((fun i => D.int (.ofNat (nf_asks2 i))) (0 + i)) := by
    intro i x h
    rw [Nat.zero_add]
    obtain ⟨_, t2, t3⟩ := td_asks2 h
    obtain ⟨f1, f2⟩ := fx_asks2 (nb_asks2 i t3)
    exact ⟨[some (.v (.str [97, 115, 107, 115])), some (.v (.int (.ofNat 2))), some (.v (.lst OR2)), some (.v x)], nGI rfl, nIdxL (nV rfl) (nCall (nA (nV rfl) (nA (nV rfl) nN)) rfl t2) f2 f1⟩
  have e := lcF_ix (set := (gIX 3)) (e := (eIdxL (eV 2) (eCall r_law_dealt 2 (aC (eV 0) (aC (eV 3) aN))))) (fr := [some (.v (.str [97, 115, 107, 115])), some (.v (.int (.ofNat 2))), some (.v (.lst OR2)), none]) (hp := []) (fun i => D.int (.ofNat (nf_asks2 i))) RW2 0 st
  rw [RWl2] at e
  have e' : lcF ((gIX 3)) (bYes) ((eIdxL (eV 2) (eCall r_law_dealt 2 (aC (eV 0) (aC (eV 3) aN))))) RW2 [some (.v (.str [97, 115, 107, 115])), some (.v (.int (.ofNat 2))), some (.v (.lst OR2)), none] [] = .ret (rl nf_asks2 4) := by
    rw [rl_def]
    rw [e]
    congr 2
    funext i
    rw [Nat.zero_add]
  unfold r_law_told
  exact nB (fr := [some (.v (.str [97, 115, 107, 115])), some (.v (.int (.ofNat 2))), none, none]) rfl (nSeq (nSet (fr' := [some (.v (.str [97, 115, 107, 115])), some (.v (.int (.ofNat 2))), some (.v (.lst OR2)), none]) (nCall (nA (nV rfl) nN) rfl mLO2) rfl) (nRetF (nTup (nLc1 (nLseqL (nCall (nA (nV rfl) nN) rfl mLR2)) (few_of (by rw [RWl2]; decide)) rfl e'))))
theorem tr_asks2 : r_told_rule [.str [97, 115, 107, 115], .int (.ofNat 2)] = .ret (.tup (rl nf_asks2 4)) := by
  have s0 : ((sIf (b1 (eInF true (eV 0) (lSeq (eCall r_names 0 aN))))
    sFail sNil)) [some (.v (.str [97, 115, 107, 115])), some (.v (.int (.ofNat 2))), none, none, none, none, none] [] = .ret (.nx [some (.v (.str [97, 115, 107, 115])), some (.v (.int (.ofNat 2))), none, none, none, none, none] []) := by kernel_rfl
  have s1 : ((sDrop (eCall r_check_people 1 (aC (eV 1) aN)))) [some (.v (.str [97, 115, 107, 115])), some (.v (.int (.ofNat 2))), none, none, none, none, none] [] = .ret (.nx [some (.v (.str [97, 115, 107, 115])), some (.v (.int (.ofNat 2))), none, none, none, none, none] []) := by kernel_rfl
  have s2 : ((sSetV 2 (eDc (lEnum (eCall m_dealings 1 (aC (eV 1) aN))) (g2E 3 4) bYes (eV 4) (eV 3) [3, 4]))) [some (.v (.str [97, 115, 107, 115])), some (.v (.int (.ofNat 2))), none, none, none, none, none] [] = .ret (.nx [some (.v (.str [97, 115, 107, 115])), some (.v (.int (.ofNat 2))), some (.v NU2), none, none, none, none] []) := by kernel_rfl
  have s3 : ((sSet 5 (eIxT tb_TOLD (eV 0)))) [some (.v (.str [97, 115, 107, 115])), some (.v (.int (.ofNat 2))), some (.v NU2), none, none, none, none] [] = .ret (.nx [some (.v (.str [97, 115, 107, 115])), some (.v (.int (.ofNat 2))), some (.v NU2), none, none, some (.v (.fn 0)), none] []) := by kernel_rfl
  have st : ∀ i x, gtL RW2 i = some x → ∃ fr1, ((gIX 6)) x [some (.v (.str [97, 115, 107, 115])), some (.v (.int (.ofNat 2))), some (.v NU2), none, none, some (.v (.fn 0)), none] = .ret fr1 ∧ ((eIxD (eV 2) (eCallV 5 [r_deal_asks, r_deal_keep, r_deal_rings, r_deal_turns] 1 (aC (eV 6) aN)))) fr1 [] = .ret ((fun i => D.int (.ofNat (nf_asks2 i))) (0 + i)) := by
    intro i x h
    rw [Nat.zero_add]
    obtain ⟨t1, _, t3⟩ := td_asks2 h
    have hn := isEq_eq (List.all_eq_true.mp nu2 _ (List.mem_range.mpr (nb_asks2 i t3)))
    unfold NU2 at hn
    refine ⟨[some (.v (.str [97, 115, 107, 115])), some (.v (.int (.ofNat 2))), some (.v NU2), none, none, some (.v (.fn 0)), some (.v x)], nGI rfl, ?_⟩
    unfold NU2
    exact nIxD (nV rfl) (nCallV rfl rfl (nCall (nA (nV rfl) nN) rfl t1)) hn
  have e := lcF_ix (set := (gIX 6)) (e := (eIxD (eV 2) (eCallV 5 [r_deal_asks, r_deal_keep, r_deal_rings, r_deal_turns] 1 (aC (eV 6) aN)))) (fr := [some (.v (.str [97, 115, 107, 115])), some (.v (.int (.ofNat 2))), some (.v NU2), none, none, some (.v (.fn 0)), none]) (hp := []) (fun i => D.int (.ofNat (nf_asks2 i))) RW2 0 st
  rw [RWl2] at e
  have e' : lcF ((gIX 6)) (bYes) ((eIxD (eV 2) (eCallV 5 [r_deal_asks, r_deal_keep, r_deal_rings, r_deal_turns] 1 (aC (eV 6) aN)))) RW2 [some (.v (.str [97, 115, 107, 115])), some (.v (.int (.ofNat 2))), some (.v NU2), none, none, some (.v (.fn 0)), none] [] = .ret (rl nf_asks2 4) := by
    rw [rl_def]
    rw [e]
    congr 2
    funext i
    rw [Nat.zero_add]
  unfold r_told_rule
  exact nB (fr := [some (.v (.str [97, 115, 107, 115])), some (.v (.int (.ofNat 2))), none, none, none, none, none]) rfl (nSeq s0 (nSeq s1 (nSeq s2 (nSeq s3 (nRetF (nTup (nLc1 (nLseqT (nCall (nA (nV rfl) nN) rfl mR2)) (few_of (by rw [RWl2]; decide)) rfl e')))))))
theorem al_asks2 : r_law_alike 8 [.tup (rl nf_asks2 4), .tup (rl nf_asks2 4)] = .ret (.bl true) := by kernel_rfl
theorem go_asks2 : RtAll ((sSeq g_law_1 (sSeq g_law_2 (sSeq g_law_3 (sSeq g_law_4 (sSeq g_law_5 (sSeq g_law_6 (sSeq g_law_7 (g_law_r)))))))) [none, some .row, some (.v (.int (.ofNat 2))), some (.v (.str [97, 115, 107, 115])), none, none, none, none, none, none, none, none, none, none, none, none, none] []) := by
  have h1 : g_law_1 [none, some .row, some (.v (.int (.ofNat 2))), some (.v (.str [97, 115, 107, 115])), none, none, none, none, none, none, none, none, none, none, none, none, none] [] = .ret (.nx [none, some .row, some (.v (.int (.ofNat 2))), some (.v (.str [97, 115, 107, 115])), some (.v (.tup (rl nf_asks2 4))), none, none, none, none, none, none, none, none, none, none, none, none] []) := nSet (nCall (nA (nV rfl) (nA (nV rfl) nN)) rfl lt_asks2) rfl
  have h20 : ((b1 (e2 dNeF (eCall r_names 0 aN) (eTupOf (lSeq (eCall r_law_names 0 aN)))))) [none, some .row, some (.v (.int (.ofNat 2))), some (.v (.str [97, 115, 107, 115])), some (.v (.tup (rl nf_asks2 4))), none, none, none, none, none, none, none, none, none, none, none, none] [] = .ret false := by kernel_rfl
  have h2 : g_law_2 [none, some .row, some (.v (.int (.ofNat 2))), some (.v (.str [97, 115, 107, 115])), some (.v (.tup (rl nf_asks2 4))), none, none, none, none, none, none, none, none, none, none, none, none] [] = .ret (.nx [none, some .row, some (.v (.int (.ofNat 2))), some (.v (.str [97, 115, 107, 115])), some (.v (.tup (rl nf_asks2 4))), none, none, none, none, none, none, none, none, none, none, none, none] []) := nIfF (nOrF h20 (nNot (nB1 (nCall (nA (nCall (nA (nV rfl) (nA (nV rfl) nN)) rfl tr_asks2) (nA (nV rfl) nN)) rfl al_asks2)) rfl)) nNil
  have h3 : g_law_3 [none, some .row, some (.v (.int (.ofNat 2))), some (.v (.str [97, 115, 107, 115])), some (.v (.tup (rl nf_asks2 4))), none, none, none, none, none, none, none, none, none, none, none, none] [] = .ret (.nx [none, some .row, some (.v (.int (.ofNat 2))), some (.v (.str [97, 115, 107, 115])), some (.v (.tup (rl nf_asks2 4))), some (.v (.lst RW2)), some (.v (.lst OR2)), some (.r 0), none, none, none, none, none, none, none, none, none] [rl nf_asks2 4]) := nPar3N (nCall (nA (nV rfl) nN) rfl mLR2) (nCall (nA (nV rfl) nN) rfl mLO2) (nLseqT (nV rfl)) (lstOk_rl _ _) rfl rfl
  have e : (sSeq g_law_1 (sSeq g_law_2 (sSeq g_law_3 (sSeq g_law_4 (sSeq g_law_5 (sSeq g_law_6 (sSeq g_law_7 (g_law_r)))))))) [none, some .row, some (.v (.int (.ofNat 2))), some (.v (.str [97, 115, 107, 115])), none, none, none, none, none, none, none, none, none, none, none, none, none] [] = (sSeq g_law_4 (sSeq g_law_5 (sSeq g_law_6 (sSeq g_law_7 (g_law_r))))) [none, some .row, some (.v (.int (.ofNat 2))), some (.v (.str [97, 115, 107, 115])), some (.v (.tup (rl nf_asks2 4))), some (.v (.lst RW2)), some (.v (.lst OR2)), some (.r 0), none, none, none, none, none, none, none, none, none] [rl nf_asks2 4] := nSeq h1 (nSeq h2 (nSeq h3 rfl))
  rw [e]
  exact any2 nb_asks2
/-! keep, 2 people -/
def ns_keep2 : List Nat := [0, 0, 0, 0]
def nf_keep2 (i : Nat) : Nat := ns_keep2.getD i 0
theorem nb0_keep2 : (List.range 4).all (fun i => Nat.blt (nf_keep2 i) 2) = true := by decide +kernel
theorem nb_keep2 : ∀ i, i < 4 → nf_keep2 i < 2 := fun i hi => Nat.blt_eq.mp (List.all_eq_true.mp nb0_keep2 i (List.mem_range.mpr hi))
def tk_keep2 (i : Nat) (r : D) : Bool := isEq (r_deal_keep [r]) (vl2 (.int (.ofNat (nf_keep2 i)))) && isEq (r_law_dealt [.str [107, 101, 101, 112], r]) (vl2 (.int (.ofNat (nf_keep2 i))))
theorem tc_keep2_0 : allIx tk_keep2 ((RW2.drop 0).take 4) 0 = true := by decide +kernel
theorem td_keep2 {i : Nat} {r : D} (h : gtL RW2 i = some r) : r_deal_keep [r] = .ret (vl2 (.int (.ofNat (nf_keep2 i)))) ∧ r_law_dealt [.str [107, 101, 101, 112], r] = .ret (vl2 (.int (.ofNat (nf_keep2 i)))) ∧ i < 4 := by
  have hl := gtL_len h
  rw [RWl2] at hl
  have fin : tk_keep2 i r = true → r_deal_keep [r] = .ret (vl2 (.int (.ofNat (nf_keep2 i)))) ∧ r_law_dealt [.str [107, 101, 101, 112], r] = .ret (vl2 (.int (.ofNat (nf_keep2 i)))) ∧ i < 4 := by
    intro hk
    unfold tk_keep2 at hk
    rw [Bool.and_eq_true] at hk
    exact ⟨isEq_eq hk.1, isEq_eq hk.2, hl⟩
  refine fin ?_
  have go : ∀ (lo : Nat), allIx tk_keep2 ((RW2.drop lo).take 4) lo = true → lo ≤ i → i < lo + 4 → tk_keep2 i r = true := by
    intro lo hk h1 h2
    have e : gtL ((RW2.drop lo).take 4) (i - lo) = some r := by
      rw [gtL_eq] at h ⊢
      rw [List.getElem?_take, if_pos (by omega), List.getElem?_drop]
      rw [show lo + (i - lo) = i by omega]
      exact h
    have := allIx_at hk e
    rw [show lo + (i - lo) = i by omega] at this
    exact this
  by_cases h0 : i < 4
  · exact go 0 tc_keep2_0 (by omega) h0
  omega
theorem fx_keep2 {n : Nat} (hn : n < 2) : fstIx (vl2 (.int (.ofNat n))) OR2 0 = some n ∧ (okD 12 (.lst OR2) && (allO (okD 12) OR2 && okD 12 (vl2 (.int (.ofNat n))))) = true := by
  have h := List.all_eq_true.mp fx2 n (List.mem_range.mpr hn)
  rw [Bool.and_eq_true] at h
  have h2 := okO2
  rw [Bool.and_eq_true] at h2
  exact ⟨someN_eq h.1, by rw [h2.1, h2.2, h.2]; rfl⟩
theorem lt_keep2 : r_law_told [.str [107, 101, 101, 112], .int (.ofNat 2)] = .ret (.tup (rl nf_keep2 4)) := by
  have st : ∀ i x, gtL RW2 i = some x → ∃ fr1, ((gIX 3)) x [some (.v (.str [107, 101, 101, 112])), some (.v (.int (.ofNat 2))), some (.v (.lst OR2)), none] = .ret fr1 ∧ ((eIdxL (eV 2) (eCall r_law_dealt 2 (aC (eV 0) (aC (eV 3) aN))))) fr1 [] = .ret ((fun i => D.int (.ofNat (nf_keep2 i))) (0 + i)) := by
    intro i x h
    rw [Nat.zero_add]
    obtain ⟨_, t2, t3⟩ := td_keep2 h
    obtain ⟨f1, f2⟩ := fx_keep2 (nb_keep2 i t3)
    exact ⟨[some (.v (.str [107, 101, 101, 112])), some (.v (.int (.ofNat 2))), some (.v (.lst OR2)), some (.v x)], nGI rfl, nIdxL (nV rfl) (nCall (nA (nV rfl) (nA (nV rfl) nN)) rfl t2) f2 f1⟩
  have e := lcF_ix (set := (gIX 3)) (e := (eIdxL (eV 2) (eCall r_law_dealt 2 (aC (eV 0) (aC (eV 3) aN))))) (fr := [some (.v (.str [107, 101, 101, 112])), some (.v (.int (.ofNat 2))), some (.v (.lst OR2)), none]) (hp := []) (fun i => D.int (.ofNat (nf_keep2 i))) RW2 0 st
  rw [RWl2] at e
  have e' : lcF ((gIX 3)) (bYes) ((eIdxL (eV 2) (eCall r_law_dealt 2 (aC (eV 0) (aC (eV 3) aN))))) RW2 [some (.v (.str [107, 101, 101, 112])), some (.v (.int (.ofNat 2))), some (.v (.lst OR2)), none] [] = .ret (rl nf_keep2 4) := by
    rw [rl_def]
    rw [e]
    congr 2
    funext i
    rw [Nat.zero_add]
  unfold r_law_told
  exact nB (fr := [some (.v (.str [107, 101, 101, 112])), some (.v (.int (.ofNat 2))), none, none]) rfl (nSeq (nSet (fr' := [some (.v (.str [107, 101, 101, 112])), some (.v (.int (.ofNat 2))), some (.v (.lst OR2)), none]) (nCall (nA (nV rfl) nN) rfl mLO2) rfl) (nRetF (nTup (nLc1 (nLseqL (nCall (nA (nV rfl) nN) rfl mLR2)) (few_of (by rw [RWl2]; decide)) rfl e'))))
theorem tr_keep2 : r_told_rule [.str [107, 101, 101, 112], .int (.ofNat 2)] = .ret (.tup (rl nf_keep2 4)) := by
  have s0 : ((sIf (b1 (eInF true (eV 0) (lSeq (eCall r_names 0 aN))))
    sFail sNil)) [some (.v (.str [107, 101, 101, 112])), some (.v (.int (.ofNat 2))), none, none, none, none, none] [] = .ret (.nx [some (.v (.str [107, 101, 101, 112])), some (.v (.int (.ofNat 2))), none, none, none, none, none] []) := by kernel_rfl
  have s1 : ((sDrop (eCall r_check_people 1 (aC (eV 1) aN)))) [some (.v (.str [107, 101, 101, 112])), some (.v (.int (.ofNat 2))), none, none, none, none, none] [] = .ret (.nx [some (.v (.str [107, 101, 101, 112])), some (.v (.int (.ofNat 2))), none, none, none, none, none] []) := by kernel_rfl
  have s2 : ((sSetV 2 (eDc (lEnum (eCall m_dealings 1 (aC (eV 1) aN))) (g2E 3 4) bYes (eV 4) (eV 3) [3, 4]))) [some (.v (.str [107, 101, 101, 112])), some (.v (.int (.ofNat 2))), none, none, none, none, none] [] = .ret (.nx [some (.v (.str [107, 101, 101, 112])), some (.v (.int (.ofNat 2))), some (.v NU2), none, none, none, none] []) := by kernel_rfl
  have s3 : ((sSet 5 (eIxT tb_TOLD (eV 0)))) [some (.v (.str [107, 101, 101, 112])), some (.v (.int (.ofNat 2))), some (.v NU2), none, none, none, none] [] = .ret (.nx [some (.v (.str [107, 101, 101, 112])), some (.v (.int (.ofNat 2))), some (.v NU2), none, none, some (.v (.fn 1)), none] []) := by kernel_rfl
  have st : ∀ i x, gtL RW2 i = some x → ∃ fr1, ((gIX 6)) x [some (.v (.str [107, 101, 101, 112])), some (.v (.int (.ofNat 2))), some (.v NU2), none, none, some (.v (.fn 1)), none] = .ret fr1 ∧ ((eIxD (eV 2) (eCallV 5 [r_deal_asks, r_deal_keep, r_deal_rings, r_deal_turns] 1 (aC (eV 6) aN)))) fr1 [] = .ret ((fun i => D.int (.ofNat (nf_keep2 i))) (0 + i)) := by
    intro i x h
    rw [Nat.zero_add]
    obtain ⟨t1, _, t3⟩ := td_keep2 h
    have hn := isEq_eq (List.all_eq_true.mp nu2 _ (List.mem_range.mpr (nb_keep2 i t3)))
    unfold NU2 at hn
    refine ⟨[some (.v (.str [107, 101, 101, 112])), some (.v (.int (.ofNat 2))), some (.v NU2), none, none, some (.v (.fn 1)), some (.v x)], nGI rfl, ?_⟩
    unfold NU2
    exact nIxD (nV rfl) (nCallV rfl rfl (nCall (nA (nV rfl) nN) rfl t1)) hn
  have e := lcF_ix (set := (gIX 6)) (e := (eIxD (eV 2) (eCallV 5 [r_deal_asks, r_deal_keep, r_deal_rings, r_deal_turns] 1 (aC (eV 6) aN)))) (fr := [some (.v (.str [107, 101, 101, 112])), some (.v (.int (.ofNat 2))), some (.v NU2), none, none, some (.v (.fn 1)), none]) (hp := []) (fun i => D.int (.ofNat (nf_keep2 i))) RW2 0 st
  rw [RWl2] at e
  have e' : lcF ((gIX 6)) (bYes) ((eIxD (eV 2) (eCallV 5 [r_deal_asks, r_deal_keep, r_deal_rings, r_deal_turns] 1 (aC (eV 6) aN)))) RW2 [some (.v (.str [107, 101, 101, 112])), some (.v (.int (.ofNat 2))), some (.v NU2), none, none, some (.v (.fn 1)), none] [] = .ret (rl nf_keep2 4) := by
    rw [rl_def]
    rw [e]
    congr 2
    funext i
    rw [Nat.zero_add]
  unfold r_told_rule
  exact nB (fr := [some (.v (.str [107, 101, 101, 112])), some (.v (.int (.ofNat 2))), none, none, none, none, none]) rfl (nSeq s0 (nSeq s1 (nSeq s2 (nSeq s3 (nRetF (nTup (nLc1 (nLseqT (nCall (nA (nV rfl) nN) rfl mR2)) (few_of (by rw [RWl2]; decide)) rfl e')))))))
theorem al_keep2 : r_law_alike 8 [.tup (rl nf_keep2 4), .tup (rl nf_keep2 4)] = .ret (.bl true) := by kernel_rfl
theorem go_keep2 : RtAll ((sSeq g_law_1 (sSeq g_law_2 (sSeq g_law_3 (sSeq g_law_4 (sSeq g_law_5 (sSeq g_law_6 (sSeq g_law_7 (g_law_r)))))))) [none, some .row, some (.v (.int (.ofNat 2))), some (.v (.str [107, 101, 101, 112])), none, none, none, none, none, none, none, none, none, none, none, none, none] []) := by
  have h1 : g_law_1 [none, some .row, some (.v (.int (.ofNat 2))), some (.v (.str [107, 101, 101, 112])), none, none, none, none, none, none, none, none, none, none, none, none, none] [] = .ret (.nx [none, some .row, some (.v (.int (.ofNat 2))), some (.v (.str [107, 101, 101, 112])), some (.v (.tup (rl nf_keep2 4))), none, none, none, none, none, none, none, none, none, none, none, none] []) := nSet (nCall (nA (nV rfl) (nA (nV rfl) nN)) rfl lt_keep2) rfl
  have h20 : ((b1 (e2 dNeF (eCall r_names 0 aN) (eTupOf (lSeq (eCall r_law_names 0 aN)))))) [none, some .row, some (.v (.int (.ofNat 2))), some (.v (.str [107, 101, 101, 112])), some (.v (.tup (rl nf_keep2 4))), none, none, none, none, none, none, none, none, none, none, none, none] [] = .ret false := by kernel_rfl
  have h2 : g_law_2 [none, some .row, some (.v (.int (.ofNat 2))), some (.v (.str [107, 101, 101, 112])), some (.v (.tup (rl nf_keep2 4))), none, none, none, none, none, none, none, none, none, none, none, none] [] = .ret (.nx [none, some .row, some (.v (.int (.ofNat 2))), some (.v (.str [107, 101, 101, 112])), some (.v (.tup (rl nf_keep2 4))), none, none, none, none, none, none, none, none, none, none, none, none] []) := nIfF (nOrF h20 (nNot (nB1 (nCall (nA (nCall (nA (nV rfl) (nA (nV rfl) nN)) rfl tr_keep2) (nA (nV rfl) nN)) rfl al_keep2)) rfl)) nNil
  have h3 : g_law_3 [none, some .row, some (.v (.int (.ofNat 2))), some (.v (.str [107, 101, 101, 112])), some (.v (.tup (rl nf_keep2 4))), none, none, none, none, none, none, none, none, none, none, none, none] [] = .ret (.nx [none, some .row, some (.v (.int (.ofNat 2))), some (.v (.str [107, 101, 101, 112])), some (.v (.tup (rl nf_keep2 4))), some (.v (.lst RW2)), some (.v (.lst OR2)), some (.r 0), none, none, none, none, none, none, none, none, none] [rl nf_keep2 4]) := nPar3N (nCall (nA (nV rfl) nN) rfl mLR2) (nCall (nA (nV rfl) nN) rfl mLO2) (nLseqT (nV rfl)) (lstOk_rl _ _) rfl rfl
  have e : (sSeq g_law_1 (sSeq g_law_2 (sSeq g_law_3 (sSeq g_law_4 (sSeq g_law_5 (sSeq g_law_6 (sSeq g_law_7 (g_law_r)))))))) [none, some .row, some (.v (.int (.ofNat 2))), some (.v (.str [107, 101, 101, 112])), none, none, none, none, none, none, none, none, none, none, none, none, none] [] = (sSeq g_law_4 (sSeq g_law_5 (sSeq g_law_6 (sSeq g_law_7 (g_law_r))))) [none, some .row, some (.v (.int (.ofNat 2))), some (.v (.str [107, 101, 101, 112])), some (.v (.tup (rl nf_keep2 4))), some (.v (.lst RW2)), some (.v (.lst OR2)), some (.r 0), none, none, none, none, none, none, none, none, none] [rl nf_keep2 4] := nSeq h1 (nSeq h2 (nSeq h3 rfl))
  rw [e]
  exact any2 nb_keep2
/-! turns, 2 people -/
def ns_turns2 : List Nat := [0, 0, 1, 1]
def nf_turns2 (i : Nat) : Nat := ns_turns2.getD i 0
theorem nb0_turns2 : (List.range 4).all (fun i => Nat.blt (nf_turns2 i) 2) = true := by decide +kernel
theorem nb_turns2 : ∀ i, i < 4 → nf_turns2 i < 2 := fun i hi => Nat.blt_eq.mp (List.all_eq_true.mp nb0_turns2 i (List.mem_range.mpr hi))
def tk_turns2 (i : Nat) (r : D) : Bool := isEq (r_deal_turns [r]) (vl2 (.int (.ofNat (nf_turns2 i)))) && isEq (r_law_dealt [.str [116, 117, 114, 110, 115], r]) (vl2 (.int (.ofNat (nf_turns2 i))))
theorem tc_turns2_0 : allIx tk_turns2 ((RW2.drop 0).take 4) 0 = true := by decide +kernel
theorem td_turns2 {i : Nat} {r : D} (h : gtL RW2 i = some r) : r_deal_turns [r] = .ret (vl2 (.int (.ofNat (nf_turns2 i)))) ∧ r_law_dealt [.str [116, 117, 114, 110, 115], r] = .ret (vl2 (.int (.ofNat (nf_turns2 i)))) ∧ i < 4 := by
  have hl := gtL_len h
  rw [RWl2] at hl
  have fin : tk_turns2 i r = true → r_deal_turns [r] = .ret (vl2 (.int (.ofNat (nf_turns2 i)))) ∧ r_law_dealt [.str [116, 117, 114, 110, 115], r] = .ret (vl2 (.int (.ofNat (nf_turns2 i)))) ∧ i < 4 := by
    intro hk
    unfold tk_turns2 at hk
    rw [Bool.and_eq_true] at hk
    exact ⟨isEq_eq hk.1, isEq_eq hk.2, hl⟩
  refine fin ?_
  have go : ∀ (lo : Nat), allIx tk_turns2 ((RW2.drop lo).take 4) lo = true → lo ≤ i → i < lo + 4 → tk_turns2 i r = true := by
    intro lo hk h1 h2
    have e : gtL ((RW2.drop lo).take 4) (i - lo) = some r := by
      rw [gtL_eq] at h ⊢
      rw [List.getElem?_take, if_pos (by omega), List.getElem?_drop]
      rw [show lo + (i - lo) = i by omega]
      exact h
    have := allIx_at hk e
    rw [show lo + (i - lo) = i by omega] at this
    exact this
  by_cases h0 : i < 4
  · exact go 0 tc_turns2_0 (by omega) h0
  omega
theorem fx_turns2 {n : Nat} (hn : n < 2) : fstIx (vl2 (.int (.ofNat n))) OR2 0 = some n ∧ (okD 12 (.lst OR2) && (allO (okD 12) OR2 && okD 12 (vl2 (.int (.ofNat n))))) = true := by
  have h := List.all_eq_true.mp fx2 n (List.mem_range.mpr hn)
  rw [Bool.and_eq_true] at h
  have h2 := okO2
  rw [Bool.and_eq_true] at h2
  exact ⟨someN_eq h.1, by rw [h2.1, h2.2, h.2]; rfl⟩
theorem lt_turns2 : r_law_told [.str [116, 117, 114, 110, 115], .int (.ofNat 2)] = .ret (.tup (rl nf_turns2 4)) := by
  have st : ∀ i x, gtL RW2 i = some x → ∃ fr1, ((gIX 3)) x [some (.v (.str [116, 117, 114, 110, 115])), some (.v (.int (.ofNat 2))), some (.v (.lst OR2)), none] = .ret fr1 ∧ ((eIdxL (eV 2) (eCall r_law_dealt 2 (aC (eV 0) (aC (eV 3) aN))))) fr1 [] = .ret ((fun i => D.int (.ofNat (nf_turns2 i))) (0 + i)) := by
    intro i x h
    rw [Nat.zero_add]
    obtain ⟨_, t2, t3⟩ := td_turns2 h
    obtain ⟨f1, f2⟩ := fx_turns2 (nb_turns2 i t3)
    exact ⟨[some (.v (.str [116, 117, 114, 110, 115])), some (.v (.int (.ofNat 2))), some (.v (.lst OR2)), some (.v x)], nGI rfl, nIdxL (nV rfl) (nCall (nA (nV rfl) (nA (nV rfl) nN)) rfl t2) f2 f1⟩
  have e := lcF_ix (set := (gIX 3)) (e := (eIdxL (eV 2) (eCall r_law_dealt 2 (aC (eV 0) (aC (eV 3) aN))))) (fr := [some (.v (.str [116, 117, 114, 110, 115])), some (.v (.int (.ofNat 2))), some (.v (.lst OR2)), none]) (hp := []) (fun i => D.int (.ofNat (nf_turns2 i))) RW2 0 st
  rw [RWl2] at e
  have e' : lcF ((gIX 3)) (bYes) ((eIdxL (eV 2) (eCall r_law_dealt 2 (aC (eV 0) (aC (eV 3) aN))))) RW2 [some (.v (.str [116, 117, 114, 110, 115])), some (.v (.int (.ofNat 2))), some (.v (.lst OR2)), none] [] = .ret (rl nf_turns2 4) := by
    rw [rl_def]
    rw [e]
    congr 2
    funext i
    rw [Nat.zero_add]
  unfold r_law_told
  exact nB (fr := [some (.v (.str [116, 117, 114, 110, 115])), some (.v (.int (.ofNat 2))), none, none]) rfl (nSeq (nSet (fr' := [some (.v (.str [116, 117, 114, 110, 115])), some (.v (.int (.ofNat 2))), some (.v (.lst OR2)), none]) (nCall (nA (nV rfl) nN) rfl mLO2) rfl) (nRetF (nTup (nLc1 (nLseqL (nCall (nA (nV rfl) nN) rfl mLR2)) (few_of (by rw [RWl2]; decide)) rfl e'))))
theorem tr_turns2 : r_told_rule [.str [116, 117, 114, 110, 115], .int (.ofNat 2)] = .ret (.tup (rl nf_turns2 4)) := by
  have s0 : ((sIf (b1 (eInF true (eV 0) (lSeq (eCall r_names 0 aN))))
    sFail sNil)) [some (.v (.str [116, 117, 114, 110, 115])), some (.v (.int (.ofNat 2))), none, none, none, none, none] [] = .ret (.nx [some (.v (.str [116, 117, 114, 110, 115])), some (.v (.int (.ofNat 2))), none, none, none, none, none] []) := by kernel_rfl
  have s1 : ((sDrop (eCall r_check_people 1 (aC (eV 1) aN)))) [some (.v (.str [116, 117, 114, 110, 115])), some (.v (.int (.ofNat 2))), none, none, none, none, none] [] = .ret (.nx [some (.v (.str [116, 117, 114, 110, 115])), some (.v (.int (.ofNat 2))), none, none, none, none, none] []) := by kernel_rfl
  have s2 : ((sSetV 2 (eDc (lEnum (eCall m_dealings 1 (aC (eV 1) aN))) (g2E 3 4) bYes (eV 4) (eV 3) [3, 4]))) [some (.v (.str [116, 117, 114, 110, 115])), some (.v (.int (.ofNat 2))), none, none, none, none, none] [] = .ret (.nx [some (.v (.str [116, 117, 114, 110, 115])), some (.v (.int (.ofNat 2))), some (.v NU2), none, none, none, none] []) := by kernel_rfl
  have s3 : ((sSet 5 (eIxT tb_TOLD (eV 0)))) [some (.v (.str [116, 117, 114, 110, 115])), some (.v (.int (.ofNat 2))), some (.v NU2), none, none, none, none] [] = .ret (.nx [some (.v (.str [116, 117, 114, 110, 115])), some (.v (.int (.ofNat 2))), some (.v NU2), none, none, some (.v (.fn 3)), none] []) := by kernel_rfl
  have st : ∀ i x, gtL RW2 i = some x → ∃ fr1, ((gIX 6)) x [some (.v (.str [116, 117, 114, 110, 115])), some (.v (.int (.ofNat 2))), some (.v NU2), none, none, some (.v (.fn 3)), none] = .ret fr1 ∧ ((eIxD (eV 2) (eCallV 5 [r_deal_asks, r_deal_keep, r_deal_rings, r_deal_turns] 1 (aC (eV 6) aN)))) fr1 [] = .ret ((fun i => D.int (.ofNat (nf_turns2 i))) (0 + i)) := by
    intro i x h
    rw [Nat.zero_add]
    obtain ⟨t1, _, t3⟩ := td_turns2 h
    have hn := isEq_eq (List.all_eq_true.mp nu2 _ (List.mem_range.mpr (nb_turns2 i t3)))
    unfold NU2 at hn
    refine ⟨[some (.v (.str [116, 117, 114, 110, 115])), some (.v (.int (.ofNat 2))), some (.v NU2), none, none, some (.v (.fn 3)), some (.v x)], nGI rfl, ?_⟩
    unfold NU2
    exact nIxD (nV rfl) (nCallV rfl rfl (nCall (nA (nV rfl) nN) rfl t1)) hn
  have e := lcF_ix (set := (gIX 6)) (e := (eIxD (eV 2) (eCallV 5 [r_deal_asks, r_deal_keep, r_deal_rings, r_deal_turns] 1 (aC (eV 6) aN)))) (fr := [some (.v (.str [116, 117, 114, 110, 115])), some (.v (.int (.ofNat 2))), some (.v NU2), none, none, some (.v (.fn 3)), none]) (hp := []) (fun i => D.int (.ofNat (nf_turns2 i))) RW2 0 st
  rw [RWl2] at e
  have e' : lcF ((gIX 6)) (bYes) ((eIxD (eV 2) (eCallV 5 [r_deal_asks, r_deal_keep, r_deal_rings, r_deal_turns] 1 (aC (eV 6) aN)))) RW2 [some (.v (.str [116, 117, 114, 110, 115])), some (.v (.int (.ofNat 2))), some (.v NU2), none, none, some (.v (.fn 3)), none] [] = .ret (rl nf_turns2 4) := by
    rw [rl_def]
    rw [e]
    congr 2
    funext i
    rw [Nat.zero_add]
  unfold r_told_rule
  exact nB (fr := [some (.v (.str [116, 117, 114, 110, 115])), some (.v (.int (.ofNat 2))), none, none, none, none, none]) rfl (nSeq s0 (nSeq s1 (nSeq s2 (nSeq s3 (nRetF (nTup (nLc1 (nLseqT (nCall (nA (nV rfl) nN) rfl mR2)) (few_of (by rw [RWl2]; decide)) rfl e')))))))
theorem al_turns2 : r_law_alike 8 [.tup (rl nf_turns2 4), .tup (rl nf_turns2 4)] = .ret (.bl true) := by kernel_rfl
theorem go_turns2 : RtAll ((sSeq g_law_1 (sSeq g_law_2 (sSeq g_law_3 (sSeq g_law_4 (sSeq g_law_5 (sSeq g_law_6 (sSeq g_law_7 (g_law_r)))))))) [none, some .row, some (.v (.int (.ofNat 2))), some (.v (.str [116, 117, 114, 110, 115])), none, none, none, none, none, none, none, none, none, none, none, none, none] []) := by
  have h1 : g_law_1 [none, some .row, some (.v (.int (.ofNat 2))), some (.v (.str [116, 117, 114, 110, 115])), none, none, none, none, none, none, none, none, none, none, none, none, none] [] = .ret (.nx [none, some .row, some (.v (.int (.ofNat 2))), some (.v (.str [116, 117, 114, 110, 115])), some (.v (.tup (rl nf_turns2 4))), none, none, none, none, none, none, none, none, none, none, none, none] []) := nSet (nCall (nA (nV rfl) (nA (nV rfl) nN)) rfl lt_turns2) rfl
  have h20 : ((b1 (e2 dNeF (eCall r_names 0 aN) (eTupOf (lSeq (eCall r_law_names 0 aN)))))) [none, some .row, some (.v (.int (.ofNat 2))), some (.v (.str [116, 117, 114, 110, 115])), some (.v (.tup (rl nf_turns2 4))), none, none, none, none, none, none, none, none, none, none, none, none] [] = .ret false := by kernel_rfl
  have h2 : g_law_2 [none, some .row, some (.v (.int (.ofNat 2))), some (.v (.str [116, 117, 114, 110, 115])), some (.v (.tup (rl nf_turns2 4))), none, none, none, none, none, none, none, none, none, none, none, none] [] = .ret (.nx [none, some .row, some (.v (.int (.ofNat 2))), some (.v (.str [116, 117, 114, 110, 115])), some (.v (.tup (rl nf_turns2 4))), none, none, none, none, none, none, none, none, none, none, none, none] []) := nIfF (nOrF h20 (nNot (nB1 (nCall (nA (nCall (nA (nV rfl) (nA (nV rfl) nN)) rfl tr_turns2) (nA (nV rfl) nN)) rfl al_turns2)) rfl)) nNil
  have h3 : g_law_3 [none, some .row, some (.v (.int (.ofNat 2))), some (.v (.str [116, 117, 114, 110, 115])), some (.v (.tup (rl nf_turns2 4))), none, none, none, none, none, none, none, none, none, none, none, none] [] = .ret (.nx [none, some .row, some (.v (.int (.ofNat 2))), some (.v (.str [116, 117, 114, 110, 115])), some (.v (.tup (rl nf_turns2 4))), some (.v (.lst RW2)), some (.v (.lst OR2)), some (.r 0), none, none, none, none, none, none, none, none, none] [rl nf_turns2 4]) := nPar3N (nCall (nA (nV rfl) nN) rfl mLR2) (nCall (nA (nV rfl) nN) rfl mLO2) (nLseqT (nV rfl)) (lstOk_rl _ _) rfl rfl
  have e : (sSeq g_law_1 (sSeq g_law_2 (sSeq g_law_3 (sSeq g_law_4 (sSeq g_law_5 (sSeq g_law_6 (sSeq g_law_7 (g_law_r)))))))) [none, some .row, some (.v (.int (.ofNat 2))), some (.v (.str [116, 117, 114, 110, 115])), none, none, none, none, none, none, none, none, none, none, none, none, none] [] = (sSeq g_law_4 (sSeq g_law_5 (sSeq g_law_6 (sSeq g_law_7 (g_law_r))))) [none, some .row, some (.v (.int (.ofNat 2))), some (.v (.str [116, 117, 114, 110, 115])), some (.v (.tup (rl nf_turns2 4))), some (.v (.lst RW2)), some (.v (.lst OR2)), some (.r 0), none, none, none, none, none, none, none, none, none] [rl nf_turns2 4] := nSeq h1 (nSeq h2 (nSeq h3 rfl))
  rw [e]
  exact any2 nb_turns2
/-! asks, 3 people -/
def ns_asks3 : List Nat := [0, 0, 1, 1, 0, 0, 1, 1, 1, 1, 0, 0, 0, 0, 0, 0, 0, 0, 0, 0, 0, 0, 0, 0, 1, 1, 1, 1, 1, 1, 1, 1, 1, 1, 1, 1, 0, 0, 1, 1, 0, 0, 1, 1, 1, 1, 0, 0, 0, 0, 0, 0, 0, 0, 0, 0, 0, 0, 0, 0, 1, 1, 1, 1, 1, 1, 1, 1, 1, 1, 1, 1, 2, 2, 2, 2, 2, 2, 2, 2, 2, 2, 2, 2, 3, 3, 2, 2, 2, 2, 3, 3, 3, 3, 2, 2, 3, 3, 3, 3, 3, 3, 3, 3, 3, 3, 3, 3, 2, 2, 2, 2, 2, 2, 2, 2, 2, 2, 2, 2, 3, 3, 2, 2, 2, 2, 3, 3, 3, 3, 2, 2, 3, 3, 3, 3, 3, 3, 3, 3, 3, 3, 3, 3, 4, 4, 4, 4, 4, 4, 4, 4, 4, 4, 4, 4, 5, 5, 5, 5, 5, 5, 5, 5, 5, 5, 5, 5, 5, 5, 4, 4, 4, 4, 5, 5, 4, 4, 5, 5, 4, 4, 4, 4, 4, 4, 4, 4, 4, 4, 4, 4, 5, 5, 5, 5, 5, 5, 5, 5, 5, 5, 5, 5, 5, 5, 4, 4, 4, 4, 5, 5, 4, 4, 5, 5]
def nf_asks3 (i : Nat) : Nat := ns_asks3.getD i 0
theorem nb0_asks3 : (List.range 216).all (fun i => Nat.blt (nf_asks3 i) 6) = true := by decide +kernel
theorem nb_asks3 : ∀ i, i < 216 → nf_asks3 i < 6 := fun i hi => Nat.blt_eq.mp (List.all_eq_true.mp nb0_asks3 i (List.mem_range.mpr hi))
def tk_asks3 (i : Nat) (r : D) : Bool := isEq (r_deal_asks [r]) (vl3 (.int (.ofNat (nf_asks3 i)))) && isEq (r_law_dealt [.str [97, 115, 107, 115], r]) (vl3 (.int (.ofNat (nf_asks3 i))))
theorem tc_asks3_0 : allIx tk_asks3 ((RW3.drop 0).take 72) 0 = true := by decide +kernel
theorem tc_asks3_72 : allIx tk_asks3 ((RW3.drop 72).take 72) 72 = true := by decide +kernel
theorem tc_asks3_144 : allIx tk_asks3 ((RW3.drop 144).take 72) 144 = true := by decide +kernel
theorem td_asks3 {i : Nat} {r : D} (h : gtL RW3 i = some r) : r_deal_asks [r] = .ret (vl3 (.int (.ofNat (nf_asks3 i)))) ∧ r_law_dealt [.str [97, 115, 107, 115], r] = .ret (vl3 (.int (.ofNat (nf_asks3 i)))) ∧ i < 216 := by
  have hl := gtL_len h
  rw [RWl3] at hl
  have fin : tk_asks3 i r = true → r_deal_asks [r] = .ret (vl3 (.int (.ofNat (nf_asks3 i)))) ∧ r_law_dealt [.str [97, 115, 107, 115], r] = .ret (vl3 (.int (.ofNat (nf_asks3 i)))) ∧ i < 216 := by
    intro hk
    unfold tk_asks3 at hk
    rw [Bool.and_eq_true] at hk
    exact ⟨isEq_eq hk.1, isEq_eq hk.2, hl⟩
  refine fin ?_
  have go : ∀ (lo : Nat), allIx tk_asks3 ((RW3.drop lo).take 72) lo = true → lo ≤ i → i < lo + 72 → tk_asks3 i r = true := by
    intro lo hk h1 h2
    have e : gtL ((RW3.drop lo).take 72) (i - lo) = some r := by
      rw [gtL_eq] at h ⊢
      rw [List.getElem?_take, if_pos (by omega), List.getElem?_drop]
      rw [show lo + (i - lo) = i by omega]
      exact h
    have := allIx_at hk e
    rw [show lo + (i - lo) = i by omega] at this
    exact this
  by_cases h0 : i < 72
  · exact go 0 tc_asks3_0 (by omega) h0
  by_cases h72 : i < 144
  · exact go 72 tc_asks3_72 (by omega) h72
  by_cases h144 : i < 216
  · exact go 144 tc_asks3_144 (by omega) h144
  omega
theorem fx_asks3 {n : Nat} (hn : n < 6) : fstIx (vl3 (.int (.ofNat n))) OR3 0 = some n ∧ (okD 12 (.lst OR3) && (allO (okD 12) OR3 && okD 12 (vl3 (.int (.ofNat n))))) = true := by
  have h := List.all_eq_true.mp fx3 n (List.mem_range.mpr hn)
  rw [Bool.and_eq_true] at h
  have h2 := okO3
  rw [Bool.and_eq_true] at h2
  exact ⟨someN_eq h.1, by rw [h2.1, h2.2, h.2]; rfl⟩
theorem lt_asks3 : r_law_told [.str [97, 115, 107, 115], .int (.ofNat 3)] = .ret (.tup (rl nf_asks3 216)) := by
  have st : ∀ i x, gtL RW3 i = some x → ∃ fr1, ((gIX 3)) x [some (.v (.str [97, 115, 107, 115])), some (.v (.int (.ofNat 3))), some (.v (.lst OR3)), none] = .ret fr1 ∧ ((eIdxL (eV 2) (eCall r_law_dealt 2 (aC (eV 0) (aC (eV 3) aN))))) fr1 [] = .ret ((fun i => D.int (.ofNat (nf_asks3 i))) (0 + i)) := by
    intro i x h
    rw [Nat.zero_add]
    obtain ⟨_, t2, t3⟩ := td_asks3 h
    obtain ⟨f1, f2⟩ := fx_asks3 (nb_asks3 i t3)
    exact ⟨[some (.v (.str [97, 115, 107, 115])), some (.v (.int (.ofNat 3))), some (.v (.lst OR3)), some (.v x)], nGI rfl, nIdxL (nV rfl) (nCall (nA (nV rfl) (nA (nV rfl) nN)) rfl t2) f2 f1⟩
  have e := lcF_ix (set := (gIX 3)) (e := (eIdxL (eV 2) (eCall r_law_dealt 2 (aC (eV 0) (aC (eV 3) aN))))) (fr := [some (.v (.str [97, 115, 107, 115])), some (.v (.int (.ofNat 3))), some (.v (.lst OR3)), none]) (hp := []) (fun i => D.int (.ofNat (nf_asks3 i))) RW3 0 st
  rw [RWl3] at e
  have e' : lcF ((gIX 3)) (bYes) ((eIdxL (eV 2) (eCall r_law_dealt 2 (aC (eV 0) (aC (eV 3) aN))))) RW3 [some (.v (.str [97, 115, 107, 115])), some (.v (.int (.ofNat 3))), some (.v (.lst OR3)), none] [] = .ret (rl nf_asks3 216) := by
    rw [rl_def]
    rw [e]
    congr 2
    funext i
    rw [Nat.zero_add]
  unfold r_law_told
  exact nB (fr := [some (.v (.str [97, 115, 107, 115])), some (.v (.int (.ofNat 3))), none, none]) rfl (nSeq (nSet (fr' := [some (.v (.str [97, 115, 107, 115])), some (.v (.int (.ofNat 3))), some (.v (.lst OR3)), none]) (nCall (nA (nV rfl) nN) rfl mLO3) rfl) (nRetF (nTup (nLc1 (nLseqL (nCall (nA (nV rfl) nN) rfl mLR3)) (few_of (by rw [RWl3]; decide)) rfl e'))))
theorem tr_asks3 : r_told_rule [.str [97, 115, 107, 115], .int (.ofNat 3)] = .ret (.tup (rl nf_asks3 216)) := by
  have s0 : ((sIf (b1 (eInF true (eV 0) (lSeq (eCall r_names 0 aN))))
    sFail sNil)) [some (.v (.str [97, 115, 107, 115])), some (.v (.int (.ofNat 3))), none, none, none, none, none] [] = .ret (.nx [some (.v (.str [97, 115, 107, 115])), some (.v (.int (.ofNat 3))), none, none, none, none, none] []) := by kernel_rfl
  have s1 : ((sDrop (eCall r_check_people 1 (aC (eV 1) aN)))) [some (.v (.str [97, 115, 107, 115])), some (.v (.int (.ofNat 3))), none, none, none, none, none] [] = .ret (.nx [some (.v (.str [97, 115, 107, 115])), some (.v (.int (.ofNat 3))), none, none, none, none, none] []) := by kernel_rfl
  have s2 : ((sSetV 2 (eDc (lEnum (eCall m_dealings 1 (aC (eV 1) aN))) (g2E 3 4) bYes (eV 4) (eV 3) [3, 4]))) [some (.v (.str [97, 115, 107, 115])), some (.v (.int (.ofNat 3))), none, none, none, none, none] [] = .ret (.nx [some (.v (.str [97, 115, 107, 115])), some (.v (.int (.ofNat 3))), some (.v NU3), none, none, none, none] []) := by kernel_rfl
  have s3 : ((sSet 5 (eIxT tb_TOLD (eV 0)))) [some (.v (.str [97, 115, 107, 115])), some (.v (.int (.ofNat 3))), some (.v NU3), none, none, none, none] [] = .ret (.nx [some (.v (.str [97, 115, 107, 115])), some (.v (.int (.ofNat 3))), some (.v NU3), none, none, some (.v (.fn 0)), none] []) := by kernel_rfl
  have st : ∀ i x, gtL RW3 i = some x → ∃ fr1, ((gIX 6)) x [some (.v (.str [97, 115, 107, 115])), some (.v (.int (.ofNat 3))), some (.v NU3), none, none, some (.v (.fn 0)), none] = .ret fr1 ∧ ((eIxD (eV 2) (eCallV 5 [r_deal_asks, r_deal_keep, r_deal_rings, r_deal_turns] 1 (aC (eV 6) aN)))) fr1 [] = .ret ((fun i => D.int (.ofNat (nf_asks3 i))) (0 + i)) := by
    intro i x h
    rw [Nat.zero_add]
    obtain ⟨t1, _, t3⟩ := td_asks3 h
    have hn := isEq_eq (List.all_eq_true.mp nu3 _ (List.mem_range.mpr (nb_asks3 i t3)))
    unfold NU3 at hn
    refine ⟨[some (.v (.str [97, 115, 107, 115])), some (.v (.int (.ofNat 3))), some (.v NU3), none, none, some (.v (.fn 0)), some (.v x)], nGI rfl, ?_⟩
    unfold NU3
    exact nIxD (nV rfl) (nCallV rfl rfl (nCall (nA (nV rfl) nN) rfl t1)) hn
  have e := lcF_ix (set := (gIX 6)) (e := (eIxD (eV 2) (eCallV 5 [r_deal_asks, r_deal_keep, r_deal_rings, r_deal_turns] 1 (aC (eV 6) aN)))) (fr := [some (.v (.str [97, 115, 107, 115])), some (.v (.int (.ofNat 3))), some (.v NU3), none, none, some (.v (.fn 0)), none]) (hp := []) (fun i => D.int (.ofNat (nf_asks3 i))) RW3 0 st
  rw [RWl3] at e
  have e' : lcF ((gIX 6)) (bYes) ((eIxD (eV 2) (eCallV 5 [r_deal_asks, r_deal_keep, r_deal_rings, r_deal_turns] 1 (aC (eV 6) aN)))) RW3 [some (.v (.str [97, 115, 107, 115])), some (.v (.int (.ofNat 3))), some (.v NU3), none, none, some (.v (.fn 0)), none] [] = .ret (rl nf_asks3 216) := by
    rw [rl_def]
    rw [e]
    congr 2
    funext i
    rw [Nat.zero_add]
  unfold r_told_rule
  exact nB (fr := [some (.v (.str [97, 115, 107, 115])), some (.v (.int (.ofNat 3))), none, none, none, none, none]) rfl (nSeq s0 (nSeq s1 (nSeq s2 (nSeq s3 (nRetF (nTup (nLc1 (nLseqT (nCall (nA (nV rfl) nN) rfl mR3)) (few_of (by rw [RWl3]; decide)) rfl e')))))))
theorem al_asks3 : r_law_alike 8 [.tup (rl nf_asks3 216), .tup (rl nf_asks3 216)] = .ret (.bl true) := by kernel_rfl
theorem go_asks3 : RtAll ((sSeq g_law_1 (sSeq g_law_2 (sSeq g_law_3 (sSeq g_law_4 (sSeq g_law_5 (sSeq g_law_6 (sSeq g_law_7 (g_law_r)))))))) [none, some .row, some (.v (.int (.ofNat 3))), some (.v (.str [97, 115, 107, 115])), none, none, none, none, none, none, none, none, none, none, none, none, none] []) := by
  have h1 : g_law_1 [none, some .row, some (.v (.int (.ofNat 3))), some (.v (.str [97, 115, 107, 115])), none, none, none, none, none, none, none, none, none, none, none, none, none] [] = .ret (.nx [none, some .row, some (.v (.int (.ofNat 3))), some (.v (.str [97, 115, 107, 115])), some (.v (.tup (rl nf_asks3 216))), none, none, none, none, none, none, none, none, none, none, none, none] []) := nSet (nCall (nA (nV rfl) (nA (nV rfl) nN)) rfl lt_asks3) rfl
  have h20 : ((b1 (e2 dNeF (eCall r_names 0 aN) (eTupOf (lSeq (eCall r_law_names 0 aN)))))) [none, some .row, some (.v (.int (.ofNat 3))), some (.v (.str [97, 115, 107, 115])), some (.v (.tup (rl nf_asks3 216))), none, none, none, none, none, none, none, none, none, none, none, none] [] = .ret false := by kernel_rfl
  have h2 : g_law_2 [none, some .row, some (.v (.int (.ofNat 3))), some (.v (.str [97, 115, 107, 115])), some (.v (.tup (rl nf_asks3 216))), none, none, none, none, none, none, none, none, none, none, none, none] [] = .ret (.nx [none, some .row, some (.v (.int (.ofNat 3))), some (.v (.str [97, 115, 107, 115])), some (.v (.tup (rl nf_asks3 216))), none, none, none, none, none, none, none, none, none, none, none, none] []) := nIfF (nOrF h20 (nNot (nB1 (nCall (nA (nCall (nA (nV rfl) (nA (nV rfl) nN)) rfl tr_asks3) (nA (nV rfl) nN)) rfl al_asks3)) rfl)) nNil
  have h3 : g_law_3 [none, some .row, some (.v (.int (.ofNat 3))), some (.v (.str [97, 115, 107, 115])), some (.v (.tup (rl nf_asks3 216))), none, none, none, none, none, none, none, none, none, none, none, none] [] = .ret (.nx [none, some .row, some (.v (.int (.ofNat 3))), some (.v (.str [97, 115, 107, 115])), some (.v (.tup (rl nf_asks3 216))), some (.v (.lst RW3)), some (.v (.lst OR3)), some (.r 0), none, none, none, none, none, none, none, none, none] [rl nf_asks3 216]) := nPar3N (nCall (nA (nV rfl) nN) rfl mLR3) (nCall (nA (nV rfl) nN) rfl mLO3) (nLseqT (nV rfl)) (lstOk_rl _ _) rfl rfl
  have e : (sSeq g_law_1 (sSeq g_law_2 (sSeq g_law_3 (sSeq g_law_4 (sSeq g_law_5 (sSeq g_law_6 (sSeq g_law_7 (g_law_r)))))))) [none, some .row, some (.v (.int (.ofNat 3))), some (.v (.str [97, 115, 107, 115])), none, none, none, none, none, none, none, none, none, none, none, none, none] [] = (sSeq g_law_4 (sSeq g_law_5 (sSeq g_law_6 (sSeq g_law_7 (g_law_r))))) [none, some .row, some (.v (.int (.ofNat 3))), some (.v (.str [97, 115, 107, 115])), some (.v (.tup (rl nf_asks3 216))), some (.v (.lst RW3)), some (.v (.lst OR3)), some (.r 0), none, none, none, none, none, none, none, none, none] [rl nf_asks3 216] := nSeq h1 (nSeq h2 (nSeq h3 rfl))
  rw [e]
  exact any3 nb_asks3
/-! keep, 3 people -/
def ns_keep3 : List Nat := [0, 0, 0, 0, 0, 0, 0, 0, 0, 0, 0, 0, 0, 0, 0, 0, 0, 0, 0, 0, 0, 0, 0, 0, 0, 0, 0, 0, 0, 0, 0, 0, 0, 0, 0, 0, 0, 0, 0, 0, 0, 0, 0, 0, 0, 0, 0, 0, 0, 0, 0, 0, 0, 0, 0, 0, 0, 0, 0, 0, 0, 0, 0, 0, 0, 0, 0, 0, 0, 0, 0, 0, 0, 0, 0, 0, 0, 0, 0, 0, 0, 0, 0, 0, 0, 0, 0, 0, 0, 0, 0, 0, 0, 0, 0, 0, 0, 0, 0, 0, 0, 0, 0, 0, 0, 0, 0, 0, 0, 0, 0, 0, 0, 0, 0, 0, 0, 0, 0, 0, 0, 0, 0, 0, 0, 0, 0, 0, 0, 0, 0, 0, 0, 0, 0, 0, 0, 0, 0, 0, 0, 0, 0, 0, 0, 0, 0, 0, 0, 0, 0, 0, 0, 0, 0, 0, 0, 0, 0, 0, 0, 0, 0, 0, 0, 0, 0, 0, 0, 0, 0, 0, 0, 0, 0, 0, 0, 0, 0, 0, 0, 0, 0, 0, 0, 0, 0, 0, 0, 0, 0, 0, 0, 0, 0, 0, 0, 0, 0, 0, 0, 0, 0, 0, 0, 0, 0, 0, 0, 0, 0, 0, 0, 0, 0, 0]
def nf_keep3 (i : Nat) : Nat := ns_keep3.getD i 0
theorem nb0_keep3 : (List.range 216).all (fun i => Nat.blt (nf_keep3 i) 6) = true := by decide +kernel
theorem nb_keep3 : ∀ i, i < 216 → nf_keep3 i < 6 := fun i hi => Nat.blt_eq.mp (List.all_eq_true.mp nb0_keep3 i (List.mem_range.mpr hi))
def tk_keep3 (i : Nat) (r : D) : Bool := isEq (r_deal_keep [r]) (vl3 (.int (.ofNat (nf_keep3 i)))) && isEq (r_law_dealt [.str [107, 101, 101, 112], r]) (vl3 (.int (.ofNat (nf_keep3 i))))
theorem tc_keep3_0 : allIx tk_keep3 ((RW3.drop 0).take 72) 0 = true := by decide +kernel
theorem tc_keep3_72 : allIx tk_keep3 ((RW3.drop 72).take 72) 72 = true := by decide +kernel
theorem tc_keep3_144 : allIx tk_keep3 ((RW3.drop 144).take 72) 144 = true := by decide +kernel
theorem td_keep3 {i : Nat} {r : D} (h : gtL RW3 i = some r) : r_deal_keep [r] = .ret (vl3 (.int (.ofNat (nf_keep3 i)))) ∧ r_law_dealt [.str [107, 101, 101, 112], r] = .ret (vl3 (.int (.ofNat (nf_keep3 i)))) ∧ i < 216 := by
  have hl := gtL_len h
  rw [RWl3] at hl
  have fin : tk_keep3 i r = true → r_deal_keep [r] = .ret (vl3 (.int (.ofNat (nf_keep3 i)))) ∧ r_law_dealt [.str [107, 101, 101, 112], r] = .ret (vl3 (.int (.ofNat (nf_keep3 i)))) ∧ i < 216 := by
    intro hk
    unfold tk_keep3 at hk
    rw [Bool.and_eq_true] at hk
    exact ⟨isEq_eq hk.1, isEq_eq hk.2, hl⟩
  refine fin ?_
  have go : ∀ (lo : Nat), allIx tk_keep3 ((RW3.drop lo).take 72) lo = true → lo ≤ i → i < lo + 72 → tk_keep3 i r = true := by
    intro lo hk h1 h2
    have e : gtL ((RW3.drop lo).take 72) (i - lo) = some r := by
      rw [gtL_eq] at h ⊢
      rw [List.getElem?_take, if_pos (by omega), List.getElem?_drop]
      rw [show lo + (i - lo) = i by omega]
      exact h
    have := allIx_at hk e
    rw [show lo + (i - lo) = i by omega] at this
    exact this
  by_cases h0 : i < 72
  · exact go 0 tc_keep3_0 (by omega) h0
  by_cases h72 : i < 144
  · exact go 72 tc_keep3_72 (by omega) h72
  by_cases h144 : i < 216
  · exact go 144 tc_keep3_144 (by omega) h144
  omega
theorem fx_keep3 {n : Nat} (hn : n < 6) : fstIx (vl3 (.int (.ofNat n))) OR3 0 = some n ∧ (okD 12 (.lst OR3) && (allO (okD 12) OR3 && okD 12 (vl3 (.int (.ofNat n))))) = true := by
  have h := List.all_eq_true.mp fx3 n (List.mem_range.mpr hn)
  rw [Bool.and_eq_true] at h
  have h2 := okO3
  rw [Bool.and_eq_true] at h2
  exact ⟨someN_eq h.1, by rw [h2.1, h2.2, h.2]; rfl⟩
theorem lt_keep3 : r_law_told [.str [107, 101, 101, 112], .int (.ofNat 3)] = .ret (.tup (rl nf_keep3 216)) := by
  have st : ∀ i x, gtL RW3 i = some x → ∃ fr1, ((gIX 3)) x [some (.v (.str [107, 101, 101, 112])), some (.v (.int (.ofNat 3))), some (.v (.lst OR3)), none] = .ret fr1 ∧ ((eIdxL (eV 2) (eCall r_law_dealt 2 (aC (eV 0) (aC (eV 3) aN))))) fr1 [] = .ret ((fun i => D.int (.ofNat (nf_keep3 i))) (0 + i)) := by
    intro i x h
    rw [Nat.zero_add]
    obtain ⟨_, t2, t3⟩ := td_keep3 h
    obtain ⟨f1, f2⟩ := fx_keep3 (nb_keep3 i t3)
    exact ⟨[some (.v (.str [107, 101, 101, 112])), some (.v (.int (.ofNat 3))), some (.v (.lst OR3)), some (.v x)], nGI rfl, nIdxL (nV rfl) (nCall (nA (nV rfl) (nA (nV rfl) nN)) rfl t2) f2 f1⟩
  have e := lcF_ix (set := (gIX 3)) (e := (eIdxL (eV 2) (eCall r_law_dealt 2 (aC (eV 0) (aC (eV 3) aN))))) (fr := [some (.v (.str [107, 101, 101, 112])), some (.v (.int (.ofNat 3))), some (.v (.lst OR3)), none]) (hp := []) (fun i => D.int (.ofNat (nf_keep3 i))) RW3 0 st
  rw [RWl3] at e
  have e' : lcF ((gIX 3)) (bYes) ((eIdxL (eV 2) (eCall r_law_dealt 2 (aC (eV 0) (aC (eV 3) aN))))) RW3 [some (.v (.str [107, 101, 101, 112])), some (.v (.int (.ofNat 3))), some (.v (.lst OR3)), none] [] = .ret (rl nf_keep3 216) := by
    rw [rl_def]
    rw [e]
    congr 2
    funext i
    rw [Nat.zero_add]
  unfold r_law_told
  exact nB (fr := [some (.v (.str [107, 101, 101, 112])), some (.v (.int (.ofNat 3))), none, none]) rfl (nSeq (nSet (fr' := [some (.v (.str [107, 101, 101, 112])), some (.v (.int (.ofNat 3))), some (.v (.lst OR3)), none]) (nCall (nA (nV rfl) nN) rfl mLO3) rfl) (nRetF (nTup (nLc1 (nLseqL (nCall (nA (nV rfl) nN) rfl mLR3)) (few_of (by rw [RWl3]; decide)) rfl e'))))
theorem tr_keep3 : r_told_rule [.str [107, 101, 101, 112], .int (.ofNat 3)] = .ret (.tup (rl nf_keep3 216)) := by
  have s0 : ((sIf (b1 (eInF true (eV 0) (lSeq (eCall r_names 0 aN))))
    sFail sNil)) [some (.v (.str [107, 101, 101, 112])), some (.v (.int (.ofNat 3))), none, none, none, none, none] [] = .ret (.nx [some (.v (.str [107, 101, 101, 112])), some (.v (.int (.ofNat 3))), none, none, none, none, none] []) := by kernel_rfl
  have s1 : ((sDrop (eCall r_check_people 1 (aC (eV 1) aN)))) [some (.v (.str [107, 101, 101, 112])), some (.v (.int (.ofNat 3))), none, none, none, none, none] [] = .ret (.nx [some (.v (.str [107, 101, 101, 112])), some (.v (.int (.ofNat 3))), none, none, none, none, none] []) := by kernel_rfl
  have s2 : ((sSetV 2 (eDc (lEnum (eCall m_dealings 1 (aC (eV 1) aN))) (g2E 3 4) bYes (eV 4) (eV 3) [3, 4]))) [some (.v (.str [107, 101, 101, 112])), some (.v (.int (.ofNat 3))), none, none, none, none, none] [] = .ret (.nx [some (.v (.str [107, 101, 101, 112])), some (.v (.int (.ofNat 3))), some (.v NU3), none, none, none, none] []) := by kernel_rfl
  have s3 : ((sSet 5 (eIxT tb_TOLD (eV 0)))) [some (.v (.str [107, 101, 101, 112])), some (.v (.int (.ofNat 3))), some (.v NU3), none, none, none, none] [] = .ret (.nx [some (.v (.str [107, 101, 101, 112])), some (.v (.int (.ofNat 3))), some (.v NU3), none, none, some (.v (.fn 1)), none] []) := by kernel_rfl
  have st : ∀ i x, gtL RW3 i = some x → ∃ fr1, ((gIX 6)) x [some (.v (.str [107, 101, 101, 112])), some (.v (.int (.ofNat 3))), some (.v NU3), none, none, some (.v (.fn 1)), none] = .ret fr1 ∧ ((eIxD (eV 2) (eCallV 5 [r_deal_asks, r_deal_keep, r_deal_rings, r_deal_turns] 1 (aC (eV 6) aN)))) fr1 [] = .ret ((fun i => D.int (.ofNat (nf_keep3 i))) (0 + i)) := by
    intro i x h
    rw [Nat.zero_add]
    obtain ⟨t1, _, t3⟩ := td_keep3 h
    have hn := isEq_eq (List.all_eq_true.mp nu3 _ (List.mem_range.mpr (nb_keep3 i t3)))
    unfold NU3 at hn
    refine ⟨[some (.v (.str [107, 101, 101, 112])), some (.v (.int (.ofNat 3))), some (.v NU3), none, none, some (.v (.fn 1)), some (.v x)], nGI rfl, ?_⟩
    unfold NU3
    exact nIxD (nV rfl) (nCallV rfl rfl (nCall (nA (nV rfl) nN) rfl t1)) hn
  have e := lcF_ix (set := (gIX 6)) (e := (eIxD (eV 2) (eCallV 5 [r_deal_asks, r_deal_keep, r_deal_rings, r_deal_turns] 1 (aC (eV 6) aN)))) (fr := [some (.v (.str [107, 101, 101, 112])), some (.v (.int (.ofNat 3))), some (.v NU3), none, none, some (.v (.fn 1)), none]) (hp := []) (fun i => D.int (.ofNat (nf_keep3 i))) RW3 0 st
  rw [RWl3] at e
  have e' : lcF ((gIX 6)) (bYes) ((eIxD (eV 2) (eCallV 5 [r_deal_asks, r_deal_keep, r_deal_rings, r_deal_turns] 1 (aC (eV 6) aN)))) RW3 [some (.v (.str [107, 101, 101, 112])), some (.v (.int (.ofNat 3))), some (.v NU3), none, none, some (.v (.fn 1)), none] [] = .ret (rl nf_keep3 216) := by
    rw [rl_def]
    rw [e]
    congr 2
    funext i
    rw [Nat.zero_add]
  unfold r_told_rule
  exact nB (fr := [some (.v (.str [107, 101, 101, 112])), some (.v (.int (.ofNat 3))), none, none, none, none, none]) rfl (nSeq s0 (nSeq s1 (nSeq s2 (nSeq s3 (nRetF (nTup (nLc1 (nLseqT (nCall (nA (nV rfl) nN) rfl mR3)) (few_of (by rw [RWl3]; decide)) rfl e')))))))
theorem al_keep3 : r_law_alike 8 [.tup (rl nf_keep3 216), .tup (rl nf_keep3 216)] = .ret (.bl true) := by kernel_rfl
theorem go_keep3 : RtAll ((sSeq g_law_1 (sSeq g_law_2 (sSeq g_law_3 (sSeq g_law_4 (sSeq g_law_5 (sSeq g_law_6 (sSeq g_law_7 (g_law_r)))))))) [none, some .row, some (.v (.int (.ofNat 3))), some (.v (.str [107, 101, 101, 112])), none, none, none, none, none, none, none, none, none, none, none, none, none] []) := by
  have h1 : g_law_1 [none, some .row, some (.v (.int (.ofNat 3))), some (.v (.str [107, 101, 101, 112])), none, none, none, none, none, none, none, none, none, none, none, none, none] [] = .ret (.nx [none, some .row, some (.v (.int (.ofNat 3))), some (.v (.str [107, 101, 101, 112])), some (.v (.tup (rl nf_keep3 216))), none, none, none, none, none, none, none, none, none, none, none, none] []) := nSet (nCall (nA (nV rfl) (nA (nV rfl) nN)) rfl lt_keep3) rfl
  have h20 : ((b1 (e2 dNeF (eCall r_names 0 aN) (eTupOf (lSeq (eCall r_law_names 0 aN)))))) [none, some .row, some (.v (.int (.ofNat 3))), some (.v (.str [107, 101, 101, 112])), some (.v (.tup (rl nf_keep3 216))), none, none, none, none, none, none, none, none, none, none, none, none] [] = .ret false := by kernel_rfl
  have h2 : g_law_2 [none, some .row, some (.v (.int (.ofNat 3))), some (.v (.str [107, 101, 101, 112])), some (.v (.tup (rl nf_keep3 216))), none, none, none, none, none, none, none, none, none, none, none, none] [] = .ret (.nx [none, some .row, some (.v (.int (.ofNat 3))), some (.v (.str [107, 101, 101, 112])), some (.v (.tup (rl nf_keep3 216))), none, none, none, none, none, none, none, none, none, none, none, none] []) := nIfF (nOrF h20 (nNot (nB1 (nCall (nA (nCall (nA (nV rfl) (nA (nV rfl) nN)) rfl tr_keep3) (nA (nV rfl) nN)) rfl al_keep3)) rfl)) nNil
  have h3 : g_law_3 [none, some .row, some (.v (.int (.ofNat 3))), some (.v (.str [107, 101, 101, 112])), some (.v (.tup (rl nf_keep3 216))), none, none, none, none, none, none, none, none, none, none, none, none] [] = .ret (.nx [none, some .row, some (.v (.int (.ofNat 3))), some (.v (.str [107, 101, 101, 112])), some (.v (.tup (rl nf_keep3 216))), some (.v (.lst RW3)), some (.v (.lst OR3)), some (.r 0), none, none, none, none, none, none, none, none, none] [rl nf_keep3 216]) := nPar3N (nCall (nA (nV rfl) nN) rfl mLR3) (nCall (nA (nV rfl) nN) rfl mLO3) (nLseqT (nV rfl)) (lstOk_rl _ _) rfl rfl
  have e : (sSeq g_law_1 (sSeq g_law_2 (sSeq g_law_3 (sSeq g_law_4 (sSeq g_law_5 (sSeq g_law_6 (sSeq g_law_7 (g_law_r)))))))) [none, some .row, some (.v (.int (.ofNat 3))), some (.v (.str [107, 101, 101, 112])), none, none, none, none, none, none, none, none, none, none, none, none, none] [] = (sSeq g_law_4 (sSeq g_law_5 (sSeq g_law_6 (sSeq g_law_7 (g_law_r))))) [none, some .row, some (.v (.int (.ofNat 3))), some (.v (.str [107, 101, 101, 112])), some (.v (.tup (rl nf_keep3 216))), some (.v (.lst RW3)), some (.v (.lst OR3)), some (.r 0), none, none, none, none, none, none, none, none, none] [rl nf_keep3 216] := nSeq h1 (nSeq h2 (nSeq h3 rfl))
  rw [e]
  exact any3 nb_keep3
/-! turns, 3 people -/
def ns_turns3 : List Nat := [0, 0, 0, 0, 0, 0, 1, 1, 1, 1, 1, 1, 0, 0, 0, 0, 0, 0, 0, 0, 0, 0, 0, 0, 1, 1, 1, 1, 1, 1, 1, 1, 1, 1, 1, 1, 0, 0, 0, 0, 0, 0, 1, 1, 1, 1, 1, 1, 0, 0, 0, 0, 0, 0, 0, 0, 0, 0, 0, 0, 1, 1, 1, 1, 1, 1, 1, 1, 1, 1, 1, 1, 2, 2, 2, 2, 2, 2, 2, 2, 2, 2, 2, 2, 2, 2, 2, 2, 2, 2, 3, 3, 3, 3, 3, 3, 3, 3, 3, 3, 3, 3, 3, 3, 3, 3, 3, 3, 2, 2, 2, 2, 2, 2, 2, 2, 2, 2, 2, 2, 2, 2, 2, 2, 2, 2, 3, 3, 3, 3, 3, 3, 3, 3, 3, 3, 3, 3, 3, 3, 3, 3, 3, 3, 4, 4, 4, 4, 4, 4, 4, 4, 4, 4, 4, 4, 5, 5, 5, 5, 5, 5, 5, 5, 5, 5, 5, 5, 4, 4, 4, 4, 4, 4, 5, 5, 5, 5, 5, 5, 4, 4, 4, 4, 4, 4, 4, 4, 4, 4, 4, 4, 5, 5, 5, 5, 5, 5, 5, 5, 5, 5, 5, 5, 4, 4, 4, 4, 4, 4, 5, 5, 5, 5, 5, 5]
def nf_turns3 (i : Nat) : Nat := ns_turns3.getD i 0
theorem nb0_turns3 : (List.range 216).all (fun i => Nat.blt (nf_turns3 i) 6) = true := by decide +kernel
theorem nb_turns3 : ∀ i, i < 216 → nf_turns3 i < 6 := fun i hi => Nat.blt_eq.mp (List.all_eq_true.mp nb0_turns3 i (List.mem_range.mpr hi))
def tk_turns3 (i : Nat) (r : D) : Bool := isEq (r_deal_turns [r]) (vl3 (.int (.ofNat (nf_turns3 i)))) && isEq (r_law_dealt [.str [116, 117, 114, 110, 115], r]) (vl3 (.int (.ofNat (nf_turns3 i))))
theorem tc_turns3_0 : allIx tk_turns3 ((RW3.drop 0).take 72) 0 = true := by decide +kernel
theorem tc_turns3_72 : allIx tk_turns3 ((RW3.drop 72).take 72) 72 = true := by decide +kernel
theorem tc_turns3_144 : allIx tk_turns3 ((RW3.drop 144).take 72) 144 = true := by decide +kernel
theorem td_turns3 {i : Nat} {r : D} (h : gtL RW3 i = some r) : r_deal_turns [r] = .ret (vl3 (.int (.ofNat (nf_turns3 i)))) ∧ r_law_dealt [.str [116, 117, 114, 110, 115], r] = .ret (vl3 (.int (.ofNat (nf_turns3 i)))) ∧ i < 216 := by
  have hl := gtL_len h
  rw [RWl3] at hl
  have fin : tk_turns3 i r = true → r_deal_turns [r] = .ret (vl3 (.int (.ofNat (nf_turns3 i)))) ∧ r_law_dealt [.str [116, 117, 114, 110, 115], r] = .ret (vl3 (.int (.ofNat (nf_turns3 i)))) ∧ i < 216 := by
    intro hk
    unfold tk_turns3 at hk
    rw [Bool.and_eq_true] at hk
    exact ⟨isEq_eq hk.1, isEq_eq hk.2, hl⟩
  refine fin ?_
  have go : ∀ (lo : Nat), allIx tk_turns3 ((RW3.drop lo).take 72) lo = true → lo ≤ i → i < lo + 72 → tk_turns3 i r = true := by
    intro lo hk h1 h2
    have e : gtL ((RW3.drop lo).take 72) (i - lo) = some r := by
      rw [gtL_eq] at h ⊢
      rw [List.getElem?_take, if_pos (by omega), List.getElem?_drop]
      rw [show lo + (i - lo) = i by omega]
      exact h
    have := allIx_at hk e
    rw [show lo + (i - lo) = i by omega] at this
    exact this
  by_cases h0 : i < 72
  · exact go 0 tc_turns3_0 (by omega) h0
  by_cases h72 : i < 144
  · exact go 72 tc_turns3_72 (by omega) h72
  by_cases h144 : i < 216
  · exact go 144 tc_turns3_144 (by omega) h144
  omega
theorem fx_turns3 {n : Nat} (hn : n < 6) : fstIx (vl3 (.int (.ofNat n))) OR3 0 = some n ∧ (okD 12 (.lst OR3) && (allO (okD 12) OR3 && okD 12 (vl3 (.int (.ofNat n))))) = true := by
  have h := List.all_eq_true.mp fx3 n (List.mem_range.mpr hn)
  rw [Bool.and_eq_true] at h
  have h2 := okO3
  rw [Bool.and_eq_true] at h2
  exact ⟨someN_eq h.1, by rw [h2.1, h2.2, h.2]; rfl⟩
theorem lt_turns3 : r_law_told [.str [116, 117, 114, 110, 115], .int (.ofNat 3)] = .ret (.tup (rl nf_turns3 216)) := by
  have st : ∀ i x, gtL RW3 i = some x → ∃ fr1, ((gIX 3)) x [some (.v (.str [116, 117, 114, 110, 115])), some (.v (.int (.ofNat 3))), some (.v (.lst OR3)), none] = .ret fr1 ∧ ((eIdxL (eV 2) (eCall r_law_dealt 2 (aC (eV 0) (aC (eV 3) aN))))) fr1 [] = .ret ((fun i => D.int (.ofNat (nf_turns3 i))) (0 + i)) := by
    intro i x h
    rw [Nat.zero_add]
    obtain ⟨_, t2, t3⟩ := td_turns3 h
    obtain ⟨f1, f2⟩ := fx_turns3 (nb_turns3 i t3)
    exact ⟨[some (.v (.str [116, 117, 114, 110, 115])), some (.v (.int (.ofNat 3))), some (.v (.lst OR3)), some (.v x)], nGI rfl, nIdxL (nV rfl) (nCall (nA (nV rfl) (nA (nV rfl) nN)) rfl t2) f2 f1⟩
  have e := lcF_ix (set := (gIX 3)) (e := (eIdxL (eV 2) (eCall r_law_dealt 2 (aC (eV 0) (aC (eV 3) aN))))) (fr := [some (.v (.str [116, 117, 114, 110, 115])), some (.v (.int (.ofNat 3))), some (.v (.lst OR3)), none]) (hp := []) (fun i => D.int (.ofNat (nf_turns3 i))) RW3 0 st
  rw [RWl3] at e
  have e' : lcF ((gIX 3)) (bYes) ((eIdxL (eV 2) (eCall r_law_dealt 2 (aC (eV 0) (aC (eV 3) aN))))) RW3 [some (.v (.str [116, 117, 114, 110, 115])), some (.v (.int (.ofNat 3))), some (.v (.lst OR3)), none] [] = .ret (rl nf_turns3 216) := by
    rw [rl_def]
    rw [e]
    congr 2
    funext i
    rw [Nat.zero_add]
  unfold r_law_told
  exact nB (fr := [some (.v (.str [116, 117, 114, 110, 115])), some (.v (.int (.ofNat 3))), none, none]) rfl (nSeq (nSet (fr' := [some (.v (.str [116, 117, 114, 110, 115])), some (.v (.int (.ofNat 3))), some (.v (.lst OR3)), none]) (nCall (nA (nV rfl) nN) rfl mLO3) rfl) (nRetF (nTup (nLc1 (nLseqL (nCall (nA (nV rfl) nN) rfl mLR3)) (few_of (by rw [RWl3]; decide)) rfl e'))))
theorem tr_turns3 : r_told_rule [.str [116, 117, 114, 110, 115], .int (.ofNat 3)] = .ret (.tup (rl nf_turns3 216)) := by
  have s0 : ((sIf (b1 (eInF true (eV 0) (lSeq (eCall r_names 0 aN))))
    sFail sNil)) [some (.v (.str [116, 117, 114, 110, 115])), some (.v (.int (.ofNat 3))), none, none, none, none, none] [] = .ret (.nx [some (.v (.str [116, 117, 114, 110, 115])), some (.v (.int (.ofNat 3))), none, none, none, none, none] []) := by kernel_rfl
  have s1 : ((sDrop (eCall r_check_people 1 (aC (eV 1) aN)))) [some (.v (.str [116, 117, 114, 110, 115])), some (.v (.int (.ofNat 3))), none, none, none, none, none] [] = .ret (.nx [some (.v (.str [116, 117, 114, 110, 115])), some (.v (.int (.ofNat 3))), none, none, none, none, none] []) := by kernel_rfl
  have s2 : ((sSetV 2 (eDc (lEnum (eCall m_dealings 1 (aC (eV 1) aN))) (g2E 3 4) bYes (eV 4) (eV 3) [3, 4]))) [some (.v (.str [116, 117, 114, 110, 115])), some (.v (.int (.ofNat 3))), none, none, none, none, none] [] = .ret (.nx [some (.v (.str [116, 117, 114, 110, 115])), some (.v (.int (.ofNat 3))), some (.v NU3), none, none, none, none] []) := by kernel_rfl
  have s3 : ((sSet 5 (eIxT tb_TOLD (eV 0)))) [some (.v (.str [116, 117, 114, 110, 115])), some (.v (.int (.ofNat 3))), some (.v NU3), none, none, none, none] [] = .ret (.nx [some (.v (.str [116, 117, 114, 110, 115])), some (.v (.int (.ofNat 3))), some (.v NU3), none, none, some (.v (.fn 3)), none] []) := by kernel_rfl
  have st : ∀ i x, gtL RW3 i = some x → ∃ fr1, ((gIX 6)) x [some (.v (.str [116, 117, 114, 110, 115])), some (.v (.int (.ofNat 3))), some (.v NU3), none, none, some (.v (.fn 3)), none] = .ret fr1 ∧ ((eIxD (eV 2) (eCallV 5 [r_deal_asks, r_deal_keep, r_deal_rings, r_deal_turns] 1 (aC (eV 6) aN)))) fr1 [] = .ret ((fun i => D.int (.ofNat (nf_turns3 i))) (0 + i)) := by
    intro i x h
    rw [Nat.zero_add]
    obtain ⟨t1, _, t3⟩ := td_turns3 h
    have hn := isEq_eq (List.all_eq_true.mp nu3 _ (List.mem_range.mpr (nb_turns3 i t3)))
    unfold NU3 at hn
    refine ⟨[some (.v (.str [116, 117, 114, 110, 115])), some (.v (.int (.ofNat 3))), some (.v NU3), none, none, some (.v (.fn 3)), some (.v x)], nGI rfl, ?_⟩
    unfold NU3
    exact nIxD (nV rfl) (nCallV rfl rfl (nCall (nA (nV rfl) nN) rfl t1)) hn
  have e := lcF_ix (set := (gIX 6)) (e := (eIxD (eV 2) (eCallV 5 [r_deal_asks, r_deal_keep, r_deal_rings, r_deal_turns] 1 (aC (eV 6) aN)))) (fr := [some (.v (.str [116, 117, 114, 110, 115])), some (.v (.int (.ofNat 3))), some (.v NU3), none, none, some (.v (.fn 3)), none]) (hp := []) (fun i => D.int (.ofNat (nf_turns3 i))) RW3 0 st
  rw [RWl3] at e
  have e' : lcF ((gIX 6)) (bYes) ((eIxD (eV 2) (eCallV 5 [r_deal_asks, r_deal_keep, r_deal_rings, r_deal_turns] 1 (aC (eV 6) aN)))) RW3 [some (.v (.str [116, 117, 114, 110, 115])), some (.v (.int (.ofNat 3))), some (.v NU3), none, none, some (.v (.fn 3)), none] [] = .ret (rl nf_turns3 216) := by
    rw [rl_def]
    rw [e]
    congr 2
    funext i
    rw [Nat.zero_add]
  unfold r_told_rule
  exact nB (fr := [some (.v (.str [116, 117, 114, 110, 115])), some (.v (.int (.ofNat 3))), none, none, none, none, none]) rfl (nSeq s0 (nSeq s1 (nSeq s2 (nSeq s3 (nRetF (nTup (nLc1 (nLseqT (nCall (nA (nV rfl) nN) rfl mR3)) (few_of (by rw [RWl3]; decide)) rfl e')))))))
theorem al_turns3 : r_law_alike 8 [.tup (rl nf_turns3 216), .tup (rl nf_turns3 216)] = .ret (.bl true) := by kernel_rfl
theorem go_turns3 : RtAll ((sSeq g_law_1 (sSeq g_law_2 (sSeq g_law_3 (sSeq g_law_4 (sSeq g_law_5 (sSeq g_law_6 (sSeq g_law_7 (g_law_r)))))))) [none, some .row, some (.v (.int (.ofNat 3))), some (.v (.str [116, 117, 114, 110, 115])), none, none, none, none, none, none, none, none, none, none, none, none, none] []) := by
  have h1 : g_law_1 [none, some .row, some (.v (.int (.ofNat 3))), some (.v (.str [116, 117, 114, 110, 115])), none, none, none, none, none, none, none, none, none, none, none, none, none] [] = .ret (.nx [none, some .row, some (.v (.int (.ofNat 3))), some (.v (.str [116, 117, 114, 110, 115])), some (.v (.tup (rl nf_turns3 216))), none, none, none, none, none, none, none, none, none, none, none, none] []) := nSet (nCall (nA (nV rfl) (nA (nV rfl) nN)) rfl lt_turns3) rfl
  have h20 : ((b1 (e2 dNeF (eCall r_names 0 aN) (eTupOf (lSeq (eCall r_law_names 0 aN)))))) [none, some .row, some (.v (.int (.ofNat 3))), some (.v (.str [116, 117, 114, 110, 115])), some (.v (.tup (rl nf_turns3 216))), none, none, none, none, none, none, none, none, none, none, none, none] [] = .ret false := by kernel_rfl
  have h2 : g_law_2 [none, some .row, some (.v (.int (.ofNat 3))), some (.v (.str [116, 117, 114, 110, 115])), some (.v (.tup (rl nf_turns3 216))), none, none, none, none, none, none, none, none, none, none, none, none] [] = .ret (.nx [none, some .row, some (.v (.int (.ofNat 3))), some (.v (.str [116, 117, 114, 110, 115])), some (.v (.tup (rl nf_turns3 216))), none, none, none, none, none, none, none, none, none, none, none, none] []) := nIfF (nOrF h20 (nNot (nB1 (nCall (nA (nCall (nA (nV rfl) (nA (nV rfl) nN)) rfl tr_turns3) (nA (nV rfl) nN)) rfl al_turns3)) rfl)) nNil
  have h3 : g_law_3 [none, some .row, some (.v (.int (.ofNat 3))), some (.v (.str [116, 117, 114, 110, 115])), some (.v (.tup (rl nf_turns3 216))), none, none, none, none, none, none, none, none, none, none, none, none] [] = .ret (.nx [none, some .row, some (.v (.int (.ofNat 3))), some (.v (.str [116, 117, 114, 110, 115])), some (.v (.tup (rl nf_turns3 216))), some (.v (.lst RW3)), some (.v (.lst OR3)), some (.r 0), none, none, none, none, none, none, none, none, none] [rl nf_turns3 216]) := nPar3N (nCall (nA (nV rfl) nN) rfl mLR3) (nCall (nA (nV rfl) nN) rfl mLO3) (nLseqT (nV rfl)) (lstOk_rl _ _) rfl rfl
  have e : (sSeq g_law_1 (sSeq g_law_2 (sSeq g_law_3 (sSeq g_law_4 (sSeq g_law_5 (sSeq g_law_6 (sSeq g_law_7 (g_law_r)))))))) [none, some .row, some (.v (.int (.ofNat 3))), some (.v (.str [116, 117, 114, 110, 115])), none, none, none, none, none, none, none, none, none, none, none, none, none] [] = (sSeq g_law_4 (sSeq g_law_5 (sSeq g_law_6 (sSeq g_law_7 (g_law_r))))) [none, some .row, some (.v (.int (.ofNat 3))), some (.v (.str [116, 117, 114, 110, 115])), some (.v (.tup (rl nf_turns3 216))), some (.v (.lst RW3)), some (.v (.lst OR3)), some (.r 0), none, none, none, none, none, none, none, none, none] [rl nf_turns3 216] := nSeq h1 (nSeq h2 (nSeq h3 rfl))
  rw [e]
  exact any3 nb_turns3
end Zl
set_option Elab.async false
set_option linter.all false
set_option maxRecDepth 1000000
set_option maxHeartbeats 400000
namespace Zl
open PySem L2
-- here
/-! rings, 2 people -/
def ns_rings2 : List Nat := [0, 0, 1, 0]
def nf_rings2 (i : Nat) : Nat := ns_rings2.getD i 0
theorem nb0_rings2 : (List.range 4).all (fun i => Nat.blt (nf_rings2 i) 2) = true := by decide +kernel
theorem nb_rings2 : ∀ i, i < 4 → nf_rings2 i < 2 := fun i hi => Nat.blt_eq.mp (List.all_eq_true.mp nb0_rings2 i (List.mem_range.mpr hi))
def tk_rings2 (i : Nat) (r : D) : Bool := isEq (r_deal_rings [r]) (vl2 (.int (.ofNat (nf_rings2 i)))) && isEq (r_law_dealt [.str [114, 105, 110, 103, 115], r]) (vl2 (.int (.ofNat (nf_rings2 i))))
theorem tc_rings2_0 : allIx tk_rings2 ((RW2.drop 0).take 4) 0 = true := by decide +kernel
theorem td_rings2 {i : Nat} {r : D} (h : gtL RW2 i = some r) : r_deal_rings [r] = .ret (vl2 (.int (.ofNat (nf_rings2 i)))) ∧ r_law_dealt [.str [114, 105, 110, 103, 115], r] = .ret (vl2 (.int (.ofNat (nf_rings2 i)))) ∧ i < 4 := by
  have hl := gtL_len h
  rw [RWl2] at hl
  have fin : tk_rings2 i r = true → r_deal_rings [r] = .ret (vl2 (.int (.ofNat (nf_rings2 i)))) ∧ r_law_dealt [.str [114, 105, 110, 103, 115], r] = .ret (vl2 (.int (.ofNat (nf_rings2 i)))) ∧ i < 4 := by
    intro hk
    unfold tk_rings2 at hk
    rw [Bool.and_eq_true] at hk
    exact ⟨isEq_eq hk.1, isEq_eq hk.2, hl⟩
  refine fin ?_
  have go : ∀ (lo : Nat), allIx tk_rings2 ((RW2.drop lo).take 4) lo = true → lo ≤ i → i < lo + 4 → tk_rings2 i r = true := by
    intro lo hk h1 h2
    have e : gtL ((RW2.drop lo).take 4) (i - lo) = some r := by
      rw [gtL_eq] at h ⊢
      rw [List.getElem?_take, if_pos (by omega), List.getElem?_drop]
      rw [show lo + (i - lo) = i by omega]
      exact h
    have := allIx_at hk e
    rw [show lo + (i - lo) = i by omega] at this
    exact this
  by_cases h0 : i < 4
  · exact go 0 tc_rings2_0 (by omega) h0
  omega
theorem fx_rings2 {n : Nat} (hn : n < 2) : fstIx (vl2 (.int (.ofNat n))) OR2 0 = some n ∧ (okD 12 (.lst OR2) && (allO (okD 12) OR2 && okD 12 (vl2 (.int (.ofNat n))))) = true := by
  have h := List.all_eq_true.mp fx2 n (List.mem_range.mpr hn)
  rw [Bool.and_eq_true] at h
  have h2 := okO2
  rw [Bool.and_eq_true] at h2
  exact ⟨someN_eq h.1, by rw [h2.1, h2.2, h.2]; rfl⟩
theorem lt_rings2 : r_law_told [.str [114, 105, 110, 103, 115], .int (.ofNat 2)] = .ret (.tup (rl nf_rings2 4)) := by
  have st : ∀ i x, gtL RW2 i = some x → ∃ fr1, ((gIX 3)) x [some (.v (.str [114, 105, 110, 103, 115])), some (.v (.int (.ofNat 2))), some (.v (.lst OR2)), none] = .ret fr1 ∧ ((eIdxL (eV 2) (eCall r_law_dealt 2 (aC (eV 0) (aC (eV 3) aN))))) fr1 [] = .ret ((fun i => D.int (.ofNat (nf_rings2 i))) (0 + i)) := by
    intro i x h
    rw [Nat.zero_add]
    obtain ⟨_, t2, t3⟩ := td_rings2 h
    obtain ⟨f1, f2⟩ := fx_rings2 (nb_rings2 i t3)
    exact ⟨[some (.v (.str [114, 105, 110, 103, 115])), some (.v (.int (.ofNat 2))), some (.v (.lst OR2)), some (.v x)], nGI rfl, nIdxL (nV rfl) (nCall (nA (nV rfl) (nA (nV rfl) nN)) rfl t2) f2 f1⟩
  have e := lcF_ix (set := (gIX 3)) (e := (eIdxL (eV 2) (eCall r_law_dealt 2 (aC (eV 0) (aC (eV 3) aN))))) (fr := [some (.v (.str [114, 105, 110, 103, 115])), some (.v (.int (.ofNat 2))), some (.v (.lst OR2)), none]) (hp := []) (fun i => D.int (.ofNat (nf_rings2 i))) RW2 0 st
  rw [RWl2] at e
  have e' : lcF ((gIX 3)) (bYes) ((eIdxL (eV 2) (eCall r_law_dealt 2 (aC (eV 0) (aC (eV 3) aN))))) RW2 [some (.v (.str [114, 105, 110, 103, 115])), some (.v (.int (.ofNat 2))), some (.v (.lst OR2)), none] [] = .ret (rl nf_rings2 4) := by
    rw [rl_def]
    rw [e]
    congr 2
    funext i
    rw [Nat.zero_add]
  unfold r_law_told
  exact nB (fr := [some (.v (.str [114, 105, 110, 103, 115])), some (.v (.int (.ofNat 2))), none, none]) rfl (nSeq (nSet (fr' := [some (.v (.str [114, 105, 110, 103, 115])), some (.v (.int (.ofNat 2))), some (.v (.lst OR2)), none]) (nCall (nA (nV rfl) nN) rfl mLO2) rfl) (nRetF (nTup (nLc1 (nLseqL (nCall (nA (nV rfl) nN) rfl mLR2)) (few_of (by rw [RWl2]; decide)) rfl e'))))
theorem tr_rings2 : r_told_rule [.str [114, 105, 110, 103, 115], .int (.ofNat 2)] = .ret (.tup (rl nf_rings2 4)) := by
  have s0 : ((sIf (b1 (eInF true (eV 0) (lSeq (eCall r_names 0 aN))))
    sFail sNil)) [some (.v (.str [114, 105, 110, 103, 115])), some (.v (.int (.ofNat 2))), none, none, none, none, none] [] = .ret (.nx [some (.v (.str [114, 105, 110, 103, 115])), some (.v (.int (.ofNat 2))), none, none, none, none, none] []) := by kernel_rfl
  have s1 : ((sDrop (eCall r_check_people 1 (aC (eV 1) aN)))) [some (.v (.str [114, 105, 110, 103, 115])), some (.v (.int (.ofNat 2))), none, none, none, none, none] [] = .ret (.nx [some (.v (.str [114, 105, 110, 103, 115])), some (.v (.int (.ofNat 2))), none, none, none, none, none] []) := by kernel_rfl
  have s2 : ((sSetV 2 (eDc (lEnum (eCall m_dealings 1 (aC (eV 1) aN))) (g2E 3 4) bYes (eV 4) (eV 3) [3, 4]))) [some (.v (.str [114, 105, 110, 103, 115])), some (.v (.int (.ofNat 2))), none, none, none, none, none] [] = .ret (.nx [some (.v (.str [114, 105, 110, 103, 115])), some (.v (.int (.ofNat 2))), some (.v NU2), none, none, none, none] []) := by kernel_rfl
  have s3 : ((sSet 5 (eIxT tb_TOLD (eV 0)))) [some (.v (.str [114, 105, 110, 103, 115])), some (.v (.int (.ofNat 2))), some (.v NU2), none, none, none, none] [] = .ret (.nx [some (.v (.str [114, 105, 110, 103, 115])), some (.v (.int (.ofNat 2))), some (.v NU2), none, none, some (.v (.fn 2)), none] []) := by kernel_rfl
  have st : ∀ i x, gtL RW2 i = some x → ∃ fr1, ((gIX 6)) x [some (.v (.str [114, 105, 110, 103, 115])), some (.v (.int (.ofNat 2))), some (.v NU2), none, none, some (.v (.fn 2)), none] = .ret fr1 ∧ ((eIxD (eV 2) (eCallV 5 [r_deal_asks, r_deal_keep, r_deal_rings, r_deal_turns] 1 (aC (eV 6) aN)))) fr1 [] = .ret ((fun i => D.int (.ofNat (nf_rings2 i))) (0 + i)) := by
    intro i x h
    rw [Nat.zero_add]
    obtain ⟨t1, _, t3⟩ := td_rings2 h
    have hn := isEq_eq (List.all_eq_true.mp nu2 _ (List.mem_range.mpr (nb_rings2 i t3)))
    unfold NU2 at hn
    refine ⟨[some (.v (.str [114, 105, 110, 103, 115])), some (.v (.int (.ofNat 2))), some (.v NU2), none, none, some (.v (.fn 2)), some (.v x)], nGI rfl, ?_⟩
    unfold NU2
    exact nIxD (nV rfl) (nCallV rfl rfl (nCall (nA (nV rfl) nN) rfl t1)) hn
  have e := lcF_ix (set := (gIX 6)) (e := (eIxD (eV 2) (eCallV 5 [r_deal_asks, r_deal_keep, r_deal_rings, r_deal_turns] 1 (aC (eV 6) aN)))) (fr := [some (.v (.str [114, 105, 110, 103, 115])), some (.v (.int (.ofNat 2))), some (.v NU2), none, none, some (.v (.fn 2)), none]) (hp := []) (fun i => D.int (.ofNat (nf_rings2 i))) RW2 0 st
  rw [RWl2] at e
  have e' : lcF ((gIX 6)) (bYes) ((eIxD (eV 2) (eCallV 5 [r_deal_asks, r_deal_keep, r_deal_rings, r_deal_turns] 1 (aC (eV 6) aN)))) RW2 [some (.v (.str [114, 105, 110, 103, 115])), some (.v (.int (.ofNat 2))), some (.v NU2), none, none, some (.v (.fn 2)), none] [] = .ret (rl nf_rings2 4) := by
    rw [rl_def]
    rw [e]
    congr 2
    funext i
    rw [Nat.zero_add]
  unfold r_told_rule
  exact nB (fr := [some (.v (.str [114, 105, 110, 103, 115])), some (.v (.int (.ofNat 2))), none, none, none, none, none]) rfl (nSeq s0 (nSeq s1 (nSeq s2 (nSeq s3 (nRetF (nTup (nLc1 (nLseqT (nCall (nA (nV rfl) nN) rfl mR2)) (few_of (by rw [RWl2]; decide)) rfl e')))))))
theorem al_rings2 : r_law_alike 8 [.tup (rl nf_rings2 4), .tup (rl nf_rings2 4)] = .ret (.bl true) := by kernel_rfl
theorem go_rings2 : RtAll ((sSeq g_law_1 (sSeq g_law_2 (sSeq g_law_3 (sSeq g_law_4 (sSeq g_law_5 (sSeq g_law_6 (sSeq g_law_7 (g_law_r)))))))) [none, some .row, some (.v (.int (.ofNat 2))), some (.v (.str [114, 105, 110, 103, 115])), none, none, none, none, none, none, none, none, none, none, none, none, none] []) := by
  have h1 : g_law_1 [none, some .row, some (.v (.int (.ofNat 2))), some (.v (.str [114, 105, 110, 103, 115])), none, none, none, none, none, none, none, none, none, none, none, none, none] [] = .ret (.nx [none, some .row, some (.v (.int (.ofNat 2))), some (.v (.str [114, 105, 110, 103, 115])), some (.v (.tup (rl nf_rings2 4))), none, none, none, none, none, none, none, none, none, none, none, none] []) := nSet (nCall (nA (nV rfl) (nA (nV rfl) nN)) rfl lt_rings2) rfl
  have h20 : ((b1 (e2 dNeF (eCall r_names 0 aN) (eTupOf (lSeq (eCall r_law_names 0 aN)))))) [none, some .row, some (.v (.int (.ofNat 2))), some (.v (.str [114, 105, 110, 103, 115])), some (.v (.tup (rl nf_rings2 4))), none, none, none, none, none, none, none, none, none, none, none, none] [] = .ret false := by kernel_rfl
  have h2 : g_law_2 [none, some .row, some (.v (.int (.ofNat 2))), some (.v (.str [114, 105, 110, 103, 115])), some (.v (.tup (rl nf_rings2 4))), none, none, none, none, none, none, none, none, none, none, none, none] [] = .ret (.nx [none, some .row, some (.v (.int (.ofNat 2))), some (.v (.str [114, 105, 110, 103, 115])), some (.v (.tup (rl nf_rings2 4))), none, none, none, none, none, none, none, none, none, none, none, none] []) := nIfF (nOrF h20 (nNot (nB1 (nCall (nA (nCall (nA (nV rfl) (nA (nV rfl) nN)) rfl tr_rings2) (nA (nV rfl) nN)) rfl al_rings2)) rfl)) nNil
  have h3 : g_law_3 [none, some .row, some (.v (.int (.ofNat 2))), some (.v (.str [114, 105, 110, 103, 115])), some (.v (.tup (rl nf_rings2 4))), none, none, none, none, none, none, none, none, none, none, none, none] [] = .ret (.nx [none, some .row, some (.v (.int (.ofNat 2))), some (.v (.str [114, 105, 110, 103, 115])), some (.v (.tup (rl nf_rings2 4))), some (.v (.lst RW2)), some (.v (.lst OR2)), some (.r 0), none, none, none, none, none, none, none, none, none] [rl nf_rings2 4]) := nPar3N (nCall (nA (nV rfl) nN) rfl mLR2) (nCall (nA (nV rfl) nN) rfl mLO2) (nLseqT (nV rfl)) (lstOk_rl _ _) rfl rfl
  have e : (sSeq g_law_1 (sSeq g_law_2 (sSeq g_law_3 (sSeq g_law_4 (sSeq g_law_5 (sSeq g_law_6 (sSeq g_law_7 (g_law_r)))))))) [none, some .row, some (.v (.int (.ofNat 2))), some (.v (.str [114, 105, 110, 103, 115])), none, none, none, none, none, none, none, none, none, none, none, none, none] [] = (sSeq g_law_4 (sSeq g_law_5 (sSeq g_law_6 (sSeq g_law_7 (g_law_r))))) [none, some .row, some (.v (.int (.ofNat 2))), some (.v (.str [114, 105, 110, 103, 115])), some (.v (.tup (rl nf_rings2 4))), some (.v (.lst RW2)), some (.v (.lst OR2)), some (.r 0), none, none, none, none, none, none, none, none, none] [rl nf_rings2 4] := nSeq h1 (nSeq h2 (nSeq h3 rfl))
  rw [e]
  exact any2 nb_rings2
/-! rings, 3 people -/
def ns_rings3 : List Nat := [0, 0, 0, 0, 0, 0, 1, 0, 1, 1, 0, 0, 0, 0, 0, 0, 0, 0, 0, 0, 0, 0, 0, 0, 1, 0, 1, 1, 0, 0, 1, 0, 1, 1, 0, 0, 0, 0, 0, 0, 0, 0, 1, 0, 1, 1, 0, 0, 0, 0, 0, 0, 0, 0, 0, 0, 0, 0, 0, 0, 1, 0, 1, 1, 0, 0, 1, 0, 1, 1, 0, 0, 2, 2, 2, 2, 2, 2, 2, 2, 2, 2, 2, 2, 0, 0, 0, 0, 0, 0, 0, 0, 0, 0, 0, 0, 3, 3, 1, 1, 2, 2, 3, 3, 1, 1, 0, 0, 2, 2, 2, 2, 2, 2, 2, 2, 2, 2, 2, 2, 5, 5, 5, 0, 0, 0, 5, 5, 5, 0, 0, 0, 3, 3, 1, 1, 2, 2, 3, 3, 1, 1, 0, 0, 5, 5, 4, 4, 0, 0, 5, 5, 4, 4, 0, 0, 5, 5, 5, 0, 0, 0, 5, 5, 5, 0, 0, 0, 5, 5, 1, 1, 0, 0, 5, 5, 1, 1, 0, 0, 5, 5, 4, 4, 2, 2, 5, 5, 4, 4, 2, 2, 5, 5, 5, 0, 0, 0, 5, 5, 5, 0, 0, 0, 5, 5, 1, 1, 2, 2, 5, 5, 1, 1, 0, 0]
def nf_rings3 (i : Nat) : Nat := ns_rings3.getD i 0
theorem nb0_rings3 : (List.range 216).all (fun i => Nat.blt (nf_rings3 i) 6) = true := by decide +kernel
theorem nb_rings3 : ∀ i, i < 216 → nf_rings3 i < 6 := fun i hi => Nat.blt_eq.mp (List.all_eq_true.mp nb0_rings3 i (List.mem_range.mpr hi))
def tk_rings3 (i : Nat) (r : D) : Bool := isEq (r_deal_rings [r]) (vl3 (.int (.ofNat (nf_rings3 i)))) && isEq (r_law_dealt [.str [114, 105, 110, 103, 115], r]) (vl3 (.int (.ofNat (nf_rings3 i))))
theorem tc_rings3_0 : allIx tk_rings3 ((RW3.drop 0).take 8) 0 = true := by decide +kernel
theorem tc_rings3_8 : allIx tk_rings3 ((RW3.drop 8).take 8) 8 = true := by decide +kernel
theorem tc_rings3_16 : allIx tk_rings3 ((RW3.drop 16).take 8) 16 = true := by decide +kernel
theorem tc_rings3_24 : allIx tk_rings3 ((RW3.drop 24).take 8) 24 = true := by decide +kernel
theorem tc_rings3_32 : allIx tk_rings3 ((RW3.drop 32).take 8) 32 = true := by decide +kernel
theorem tc_rings3_40 : allIx tk_rings3 ((RW3.drop 40).take 8) 40 = true := by decide +kernel
theorem tc_rings3_48 : allIx tk_rings3 ((RW3.drop 48).take 8) 48 = true := by decide +kernel
theorem tc_rings3_56 : allIx tk_rings3 ((RW3.drop 56).take 8) 56 = true := by decide +kernel
theorem tc_rings3_64 : allIx tk_rings3 ((RW3.drop 64).take 8) 64 = true := by decide +kernel
theorem tc_rings3_72 : allIx tk_rings3 ((RW3.drop 72).take 8) 72 = true := by decide +kernel
theorem tc_rings3_80 : allIx tk_rings3 ((RW3.drop 80).take 8) 80 = true := by decide +kernel
theorem tc_rings3_88 : allIx tk_rings3 ((RW3.drop 88).take 8) 88 = true := by decide +kernel
theorem tc_rings3_96 : allIx tk_rings3 ((RW3.drop 96).take 8) 96 = true := by decide +kernel
theorem tc_rings3_104 : allIx tk_rings3 ((RW3.drop 104).take 8) 104 = true := by decide +kernel
theorem tc_rings3_112 : allIx tk_rings3 ((RW3.drop 112).take 8) 112 = true := by decide +kernel
theorem tc_rings3_120 : allIx tk_rings3 ((RW3.drop 120).take 8) 120 = true := by decide +kernel
theorem tc_rings3_128 : allIx tk_rings3 ((RW3.drop 128).take 8) 128 = true := by decide +kernel
theorem tc_rings3_136 : allIx tk_rings3 ((RW3.drop 136).take 8) 136 = true := by decide +kernel
theorem tc_rings3_144 : allIx tk_rings3 ((RW3.drop 144).take 8) 144 = true := by decide +kernel
theorem tc_rings3_152 : allIx tk_rings3 ((RW3.drop 152).take 8) 152 = true := by decide +kernel
theorem tc_rings3_160 : allIx tk_rings3 ((RW3.drop 160).take 8) 160 = true := by decide +kernel
theorem tc_rings3_168 : allIx tk_rings3 ((RW3.drop 168).take 8) 168 = true := by decide +kernel
theorem tc_rings3_176 : allIx tk_rings3 ((RW3.drop 176).take 8) 176 = true := by decide +kernel
theorem tc_rings3_184 : allIx tk_rings3 ((RW3.drop 184).take 8) 184 = true := by decide +kernel
theorem tc_rings3_192 : allIx tk_rings3 ((RW3.drop 192).take 8) 192 = true := by decide +kernel
theorem tc_rings3_200 : allIx tk_rings3 ((RW3.drop 200).take 8) 200 = true := by decide +kernel
theorem tc_rings3_208 : allIx tk_rings3 ((RW3.drop 208).take 8) 208 = true := by decide +kernel
theorem td_rings3 {i : Nat} {r : D} (h : gtL RW3 i = some r) : r_deal_rings [r] = .ret (vl3 (.int (.ofNat (nf_rings3 i)))) ∧ r_law_dealt [.str [114, 105, 110, 103, 115], r] = .ret (vl3 (.int (.ofNat (nf_rings3 i)))) ∧ i < 216 := by
  have hl := gtL_len h
  rw [RWl3] at hl
  have fin : tk_rings3 i r = true → r_deal_rings [r] = .ret (vl3 (.int (.ofNat (nf_rings3 i)))) ∧ r_law_dealt [.str [114, 105, 110, 103, 115], r] = .ret (vl3 (.int (.ofNat (nf_rings3 i)))) ∧ i < 216 := by
    intro hk
    unfold tk_rings3 at hk
    rw [Bool.and_eq_true] at hk
    exact ⟨isEq_eq hk.1, isEq_eq hk.2, hl⟩
  refine fin ?_
  have go : ∀ (lo : Nat), allIx tk_rings3 ((RW3.drop lo).take 8) lo = true → lo ≤ i → i < lo + 8 → tk_rings3 i r = true := by
    intro lo hk h1 h2
    have e : gtL ((RW3.drop lo).take 8) (i - lo) = some r := by
      rw [gtL_eq] at h ⊢
      rw [List.getElem?_take, if_pos (by omega), List.getElem?_drop]
      rw [show lo + (i - lo) = i by omega]
      exact h
    have := allIx_at hk e
    rw [show lo + (i - lo) = i by omega] at this
    exact this
  by_cases h0 : i < 8
  · exact go 0 tc_rings3_0 (by omega) h0
  by_cases h8 : i < 16
  · exact go 8 tc_rings3_8 (by omega) h8
  by_cases h16 : i < 24
  · exact go 16 tc_rings3_16 (by omega) h16
  by_cases h24 : i < 32
  · exact go 24 tc_rings3_24 (by omega) h24
  by_cases h32 : i < 40
  · exact go 32 tc_rings3_32 (by omega) h32
  by_cases h40 : i < 48
  · exact go 40 tc_rings3_40 (by omega) h40
  by_cases h48 : i < 56
  · exact go 48 tc_rings3_48 (by omega) h48
  by_cases h56 : i < 64
  · exact go 56 tc_rings3_56 (by omega) h56
  by_cases h64 : i < 72
  · exact go 64 tc_rings3_64 (by omega) h64
  by_cases h72 : i < 80
  · exact go 72 tc_rings3_72 (by omega) h72
  by_cases h80 : i < 88
  · exact go 80 tc_rings3_80 (by omega) h80
  by_cases h88 : i < 96
  · exact go 88 tc_rings3_88 (by omega) h88
  by_cases h96 : i < 104
  · exact go 96 tc_rings3_96 (by omega) h96
  by_cases h104 : i < 112
  · exact go 104 tc_rings3_104 (by omega) h104
  by_cases h112 : i < 120
  · exact go 112 tc_rings3_112 (by omega) h112
  by_cases h120 : i < 128
  · exact go 120 tc_rings3_120 (by omega) h120
  by_cases h128 : i < 136
  · exact go 128 tc_rings3_128 (by omega) h128
  by_cases h136 : i < 144
  · exact go 136 tc_rings3_136 (by omega) h136
  by_cases h144 : i < 152
  · exact go 144 tc_rings3_144 (by omega) h144
  by_cases h152 : i < 160
  · exact go 152 tc_rings3_152 (by omega) h152
  by_cases h160 : i < 168
  · exact go 160 tc_rings3_160 (by omega) h160
  by_cases h168 : i < 176
  · exact go 168 tc_rings3_168 (by omega) h168
  by_cases h176 : i < 184
  · exact go 176 tc_rings3_176 (by omega) h176
  by_cases h184 : i < 192
  · exact go 184 tc_rings3_184 (by omega) h184
  by_cases h192 : i < 200
  · exact go 192 tc_rings3_192 (by omega) h192
  by_cases h200 : i < 208
  · exact go 200 tc_rings3_200 (by omega) h200
  by_cases h208 : i < 216
  · exact go 208 tc_rings3_208 (by omega) h208
  omega
theorem fx_rings3 {n : Nat} (hn : n < 6) : fstIx (vl3 (.int (.ofNat n))) OR3 0 = some n ∧ (okD 12 (.lst OR3) && (allO (okD 12) OR3 && okD 12 (vl3 (.int (.ofNat n))))) = true := by
  have h := List.all_eq_true.mp fx3 n (List.mem_range.mpr hn)
  rw [Bool.and_eq_true] at h
  have h2 := okO3
  rw [Bool.and_eq_true] at h2
  exact ⟨someN_eq h.1, by rw [h2.1, h2.2, h.2]; rfl⟩
theorem lt_rings3 : r_law_told [.str [114, 105, 110, 103, 115], .int (.ofNat 3)] = .ret (.tup (rl nf_rings3 216)) := by
  have st : ∀ i x, gtL RW3 i = some x → ∃ fr1, ((gIX 3)) x [some (.v (.str [114, 105, 110, 103, 115])), some (.v (.int (.ofNat 3))), some (.v (.lst OR3)), none] = .ret fr1 ∧ ((eIdxL (eV 2) (eCall r_law_dealt 2 (aC (eV 0) (aC (eV 3) aN))))) fr1 [] = .ret ((fun i => D.int (.ofNat (nf_rings3 i))) (0 + i)) := by
    intro i x h
    rw [Nat.zero_add]
    obtain ⟨_, t2, t3⟩ := td_rings3 h
    obtain ⟨f1, f2⟩ := fx_rings3 (nb_rings3 i t3)
    exact ⟨[some (.v (.str [114, 105, 110, 103, 115])), some (.v (.int (.ofNat 3))), some (.v (.lst OR3)), some (.v x)], nGI rfl, nIdxL (nV rfl) (nCall (nA (nV rfl) (nA (nV rfl) nN)) rfl t2) f2 f1⟩
  have e := lcF_ix (set := (gIX 3)) (e := (eIdxL (eV 2) (eCall r_law_dealt 2 (aC (eV 0) (aC (eV 3) aN))))) (fr := [some (.v (.str [114, 105, 110, 103, 115])), some (.v (.int (.ofNat 3))), some (.v (.lst OR3)), none]) (hp := []) (fun i => D.int (.ofNat (nf_rings3 i))) RW3 0 st
  rw [RWl3] at e
  have e' : lcF ((gIX 3)) (bYes) ((eIdxL (eV 2) (eCall r_law_dealt 2 (aC (eV 0) (aC (eV 3) aN))))) RW3 [some (.v (.str [114, 105, 110, 103, 115])), some (.v (.int (.ofNat 3))), some (.v (.lst OR3)), none] [] = .ret (rl nf_rings3 216) := by
    rw [rl_def]
    rw [e]
    congr 2
    funext i
    rw [Nat.zero_add]
  unfold r_law_told
  exact nB (fr := [some (.v (.str [114, 105, 110, 103, 115])), some (.v (.int (.ofNat 3))), none, none]) rfl (nSeq (nSet (fr' := [some (.v (.str [114, 105, 110, 103, 115])), some (.v (.int (.ofNat 3))), some (.v (.lst OR3)), none]) (nCall (nA (nV rfl) nN) rfl mLO3) rfl) (nRetF (nTup (nLc1 (nLseqL (nCall (nA (nV rfl) nN) rfl mLR3)) (few_of (by rw [RWl3]; decide)) rfl e'))))
theorem tr_rings3 : r_told_rule [.str [114, 105, 110, 103, 115], .int (.ofNat 3)] = .ret (.tup (rl nf_rings3 216)) := by
  have s0 : ((sIf (b1 (eInF true (eV 0) (lSeq (eCall r_names 0 aN))))
    sFail sNil)) [some (.v (.str [114, 105, 110, 103, 115])), some (.v (.int (.ofNat 3))), none, none, none, none, none] [] = .ret (.nx [some (.v (.str [114, 105, 110, 103, 115])), some (.v (.int (.ofNat 3))), none, none, none, none, none] []) := by kernel_rfl
  have s1 : ((sDrop (eCall r_check_people 1 (aC (eV 1) aN)))) [some (.v (.str [114, 105, 110, 103, 115])), some (.v (.int (.ofNat 3))), none, none, none, none, none] [] = .ret (.nx [some (.v (.str [114, 105, 110, 103, 115])), some (.v (.int (.ofNat 3))), none, none, none, none, none] []) := by kernel_rfl
  have s2 : ((sSetV 2 (eDc (lEnum (eCall m_dealings 1 (aC (eV 1) aN))) (g2E 3 4) bYes (eV 4) (eV 3) [3, 4]))) [some (.v (.str [114, 105, 110, 103, 115])), some (.v (.int (.ofNat 3))), none, none, none, none, none] [] = .ret (.nx [some (.v (.str [114, 105, 110, 103, 115])), some (.v (.int (.ofNat 3))), some (.v NU3), none, none, none, none] []) := by kernel_rfl
  have s3 : ((sSet 5 (eIxT tb_TOLD (eV 0)))) [some (.v (.str [114, 105, 110, 103, 115])), some (.v (.int (.ofNat 3))), some (.v NU3), none, none, none, none] [] = .ret (.nx [some (.v (.str [114, 105, 110, 103, 115])), some (.v (.int (.ofNat 3))), some (.v NU3), none, none, some (.v (.fn 2)), none] []) := by kernel_rfl
  have st : ∀ i x, gtL RW3 i = some x → ∃ fr1, ((gIX 6)) x [some (.v (.str [114, 105, 110, 103, 115])), some (.v (.int (.ofNat 3))), some (.v NU3), none, none, some (.v (.fn 2)), none] = .ret fr1 ∧ ((eIxD (eV 2) (eCallV 5 [r_deal_asks, r_deal_keep, r_deal_rings, r_deal_turns] 1 (aC (eV 6) aN)))) fr1 [] = .ret ((fun i => D.int (.ofNat (nf_rings3 i))) (0 + i)) := by
    intro i x h
    rw [Nat.zero_add]
    obtain ⟨t1, _, t3⟩ := td_rings3 h
    have hn := isEq_eq (List.all_eq_true.mp nu3 _ (List.mem_range.mpr (nb_rings3 i t3)))
    unfold NU3 at hn
    refine ⟨[some (.v (.str [114, 105, 110, 103, 115])), some (.v (.int (.ofNat 3))), some (.v NU3), none, none, some (.v (.fn 2)), some (.v x)], nGI rfl, ?_⟩
    unfold NU3
    exact nIxD (nV rfl) (nCallV rfl rfl (nCall (nA (nV rfl) nN) rfl t1)) hn
  have e := lcF_ix (set := (gIX 6)) (e := (eIxD (eV 2) (eCallV 5 [r_deal_asks, r_deal_keep, r_deal_rings, r_deal_turns] 1 (aC (eV 6) aN)))) (fr := [some (.v (.str [114, 105, 110, 103, 115])), some (.v (.int (.ofNat 3))), some (.v NU3), none, none, some (.v (.fn 2)), none]) (hp := []) (fun i => D.int (.ofNat (nf_rings3 i))) RW3 0 st
  rw [RWl3] at e
  have e' : lcF ((gIX 6)) (bYes) ((eIxD (eV 2) (eCallV 5 [r_deal_asks, r_deal_keep, r_deal_rings, r_deal_turns] 1 (aC (eV 6) aN)))) RW3 [some (.v (.str [114, 105, 110, 103, 115])), some (.v (.int (.ofNat 3))), some (.v NU3), none, none, some (.v (.fn 2)), none] [] = .ret (rl nf_rings3 216) := by
    rw [rl_def]
    rw [e]
    congr 2
    funext i
    rw [Nat.zero_add]
  unfold r_told_rule
  exact nB (fr := [some (.v (.str [114, 105, 110, 103, 115])), some (.v (.int (.ofNat 3))), none, none, none, none, none]) rfl (nSeq s0 (nSeq s1 (nSeq s2 (nSeq s3 (nRetF (nTup (nLc1 (nLseqT (nCall (nA (nV rfl) nN) rfl mR3)) (few_of (by rw [RWl3]; decide)) rfl e')))))))
theorem al_rings3 : r_law_alike 8 [.tup (rl nf_rings3 216), .tup (rl nf_rings3 216)] = .ret (.bl true) := by kernel_rfl
theorem go_rings3 : RtAll ((sSeq g_law_1 (sSeq g_law_2 (sSeq g_law_3 (sSeq g_law_4 (sSeq g_law_5 (sSeq g_law_6 (sSeq g_law_7 (g_law_r)))))))) [none, some .row, some (.v (.int (.ofNat 3))), some (.v (.str [114, 105, 110, 103, 115])), none, none, none, none, none, none, none, none, none, none, none, none, none] []) := by
  have h1 : g_law_1 [none, some .row, some (.v (.int (.ofNat 3))), some (.v (.str [114, 105, 110, 103, 115])), none, none, none, none, none, none, none, none, none, none, none, none, none] [] = .ret (.nx [none, some .row, some (.v (.int (.ofNat 3))), some (.v (.str [114, 105, 110, 103, 115])), some (.v (.tup (rl nf_rings3 216))), none, none, none, none, none, none, none, none, none, none, none, none] []) := nSet (nCall (nA (nV rfl) (nA (nV rfl) nN)) rfl lt_rings3) rfl
  have h20 : ((b1 (e2 dNeF (eCall r_names 0 aN) (eTupOf (lSeq (eCall r_law_names 0 aN)))))) [none, some .row, some (.v (.int (.ofNat 3))), some (.v (.str [114, 105, 110, 103, 115])), some (.v (.tup (rl nf_rings3 216))), none, none, none, none, none, none, none, none, none, none, none, none] [] = .ret false := by kernel_rfl
  have h2 : g_law_2 [none, some .row, some (.v (.int (.ofNat 3))), some (.v (.str [114, 105, 110, 103, 115])), some (.v (.tup (rl nf_rings3 216))), none, none, none, none, none, none, none, none, none, none, none, none] [] = .ret (.nx [none, some .row, some (.v (.int (.ofNat 3))), some (.v (.str [114, 105, 110, 103, 115])), some (.v (.tup (rl nf_rings3 216))), none, none, none, none, none, none, none, none, none, none, none, none] []) := nIfF (nOrF h20 (nNot (nB1 (nCall (nA (nCall (nA (nV rfl) (nA (nV rfl) nN)) rfl tr_rings3) (nA (nV rfl) nN)) rfl al_rings3)) rfl)) nNil
  have h3 : g_law_3 [none, some .row, some (.v (.int (.ofNat 3))), some (.v (.str [114, 105, 110, 103, 115])), some (.v (.tup (rl nf_rings3 216))), none, none, none, none, none, none, none, none, none, none, none, none] [] = .ret (.nx [none, some .row, some (.v (.int (.ofNat 3))), some (.v (.str [114, 105, 110, 103, 115])), some (.v (.tup (rl nf_rings3 216))), some (.v (.lst RW3)), some (.v (.lst OR3)), some (.r 0), none, none, none, none, none, none, none, none, none] [rl nf_rings3 216]) := nPar3N (nCall (nA (nV rfl) nN) rfl mLR3) (nCall (nA (nV rfl) nN) rfl mLO3) (nLseqT (nV rfl)) (lstOk_rl _ _) rfl rfl
  have e : (sSeq g_law_1 (sSeq g_law_2 (sSeq g_law_3 (sSeq g_law_4 (sSeq g_law_5 (sSeq g_law_6 (sSeq g_law_7 (g_law_r)))))))) [none, some .row, some (.v (.int (.ofNat 3))), some (.v (.str [114, 105, 110, 103, 115])), none, none, none, none, none, none, none, none, none, none, none, none, none] [] = (sSeq g_law_4 (sSeq g_law_5 (sSeq g_law_6 (sSeq g_law_7 (g_law_r))))) [none, some .row, some (.v (.int (.ofNat 3))), some (.v (.str [114, 105, 110, 103, 115])), some (.v (.tup (rl nf_rings3 216))), some (.v (.lst RW3)), some (.v (.lst OR3)), some (.r 0), none, none, none, none, none, none, none, none, none] [rl nf_rings3 216] := nSeq h1 (nSeq h2 (nSeq h3 rfl))
  rw [e]
  exact any3 nb_rings3
end Zl
set_option Elab.async false
set_option linter.all false
set_option maxRecDepth 1000000
set_option maxHeartbeats 400000
namespace Zl
open PySem L2
theorem w0 : (g_law_0 [none, some .row, none, none, none, none, none, none, none, none, none, none, none, none, none, none, none] []).width = 2 := by decide +kernel
theorem w0_0 : ((g_law_0 [none, some .row, none, none, none, none, none, none, none, none, none, none, none, none, none, none, none] []).sub 0).width = 4 := by decide +kernel
theorem v0_0 : ((g_law_0 [none, some .row, none, none, none, none, none, none, none, none, none, none, none, none, none, none, none] []).sub 0).sub 0 = .ret (.nx [none, some .row, some (.v (.int (.ofNat 2))), some (.v (.str [97, 115, 107, 115])), none, none, none, none, none, none, none, none, none, none, none, none, none] []) := by kernel_rfl
theorem v0_1 : ((g_law_0 [none, some .row, none, none, none, none, none, none, none, none, none, none, none, none, none, none, none] []).sub 0).sub 1 = .ret (.nx [none, some .row, some (.v (.int (.ofNat 2))), some (.v (.str [107, 101, 101, 112])), none, none, none, none, none, none, none, none, none, none, none, none, none] []) := by kernel_rfl
theorem v0_2 : ((g_law_0 [none, some .row, none, none, none, none, none, none, none, none, none, none, none, none, none, none, none] []).sub 0).sub 2 = .ret (.nx [none, some .row, some (.v (.int (.ofNat 2))), some (.v (.str [114, 105, 110, 103, 115])), none, none, none, none, none, none, none, none, none, none, none, none, none] []) := by kernel_rfl
theorem v0_3 : ((g_law_0 [none, some .row, none, none, none, none, none, none, none, none, none, none, none, none, none, none, none] []).sub 0).sub 3 = .ret (.nx [none, some .row, some (.v (.int (.ofNat 2))), some (.v (.str [116, 117, 114, 110, 115])), none, none, none, none, none, none, none, none, none, none, none, none, none] []) := by kernel_rfl
theorem w0_1 : ((g_law_0 [none, some .row, none, none, none, none, none, none, none, none, none, none, none, none, none, none, none] []).sub 1).width = 4 := by decide +kernel
theorem v1_0 : ((g_law_0 [none, some .row, none, none, none, none, none, none, none, none, none, none, none, none, none, none, none] []).sub 1).sub 0 = .ret (.nx [none, some .row, some (.v (.int (.ofNat 3))), some (.v (.str [97, 115, 107, 115])), none, none, none, none, none, none, none, none, none, none, none, none, none] []) := by kernel_rfl
theorem v1_1 : ((g_law_0 [none, some .row, none, none, none, none, none, none, none, none, none, none, none, none, none, none, none] []).sub 1).sub 1 = .ret (.nx [none, some .row, some (.v (.int (.ofNat 3))), some (.v (.str [107, 101, 101, 112])), none, none, none, none, none, none, none, none, none, none, none, none, none] []) := by kernel_rfl
theorem v1_2 : ((g_law_0 [none, some .row, none, none, none, none, none, none, none, none, none, none, none, none, none, none, none] []).sub 1).sub 2 = .ret (.nx [none, some .row, some (.v (.int (.ofNat 3))), some (.v (.str [114, 105, 110, 103, 115])), none, none, none, none, none, none, none, none, none, none, none, none, none] []) := by kernel_rfl
theorem v1_3 : ((g_law_0 [none, some .row, none, none, none, none, none, none, none, none, none, none, none, none, none, none, none] []).sub 1).sub 3 = .ret (.nx [none, some .row, some (.v (.int (.ofNat 3))), some (.v (.str [116, 117, 114, 110, 115])), none, none, none, none, none, none, none, none, none, none, none, none, none] []) := by kernel_rfl
theorem start_all {R : Sm} (h0_0 : RtAll (R [none, some .row, some (.v (.int (.ofNat 2))), some (.v (.str [97, 115, 107, 115])), none, none, none, none, none, none, none, none, none, none, none, none, none] [])) (h0_1 : RtAll (R [none, some .row, some (.v (.int (.ofNat 2))), some (.v (.str [107, 101, 101, 112])), none, none, none, none, none, none, none, none, none, none, none, none, none] [])) (h0_2 : RtAll (R [none, some .row, some (.v (.int (.ofNat 2))), some (.v (.str [114, 105, 110, 103, 115])), none, none, none, none, none, none, none, none, none, none, none, none, none] [])) (h0_3 : RtAll (R [none, some .row, some (.v (.int (.ofNat 2))), some (.v (.str [116, 117, 114, 110, 115])), none, none, none, none, none, none, none, none, none, none, none, none, none] [])) (h1_0 : RtAll (R [none, some .row, some (.v (.int (.ofNat 3))), some (.v (.str [97, 115, 107, 115])), none, none, none, none, none, none, none, none, none, none, none, none, none] [])) (h1_1 : RtAll (R [none, some .row, some (.v (.int (.ofNat 3))), some (.v (.str [107, 101, 101, 112])), none, none, none, none, none, none, none, none, none, none, none, none, none] [])) (h1_2 : RtAll (R [none, some .row, some (.v (.int (.ofNat 3))), some (.v (.str [114, 105, 110, 103, 115])), none, none, none, none, none, none, none, none, none, none, none, none, none] [])) (h1_3 : RtAll (R [none, some .row, some (.v (.int (.ofNat 3))), some (.v (.str [116, 117, 114, 110, 115])), none, none, none, none, none, none, none, none, none, none, none, none, none] [])) : RtAll ((g_law_0 [none, some .row, none, none, none, none, none, none, none, none, none, none, none, none, none, none, none] []).bind (seqO R)) := by
  constructor
  refine T.bind_all (all_of_sub (n := 2) (by decide) w0 fun i hi => ?_)
  match i, hi with
  | 0, _ =>
    refine all_of_sub (n := 4) (by decide) w0_0 fun j hj => ?_
    match j, hj with
    | 0, _ => exact RtAll.leaf v0_0 h0_0
    | 1, _ => exact RtAll.leaf v0_1 h0_1
    | 2, _ => exact RtAll.leaf v0_2 h0_2
    | 3, _ => exact RtAll.leaf v0_3 h0_3
    | j + 4, h => exact absurd h (by omega)
  | 1, _ =>
    refine all_of_sub (n := 4) (by decide) w0_1 fun j hj => ?_
    match j, hj with
    | 0, _ => exact RtAll.leaf v1_0 h1_0
    | 1, _ => exact RtAll.leaf v1_1 h1_1
    | 2, _ => exact RtAll.leaf v1_2 h1_2
    | 3, _ => exact RtAll.leaf v1_3 h1_3
    | j + 4, h => exact absurd h (by omega)
  | i + 2, h => exact absurd h (by omega)
theorem g_law_un : g_law [none, some .row, none, none, none, none, none, none, none, none, none, none, none, none, none, none, none] [] = (g_law_0 [none, some .row, none, none, none, none, none, none, none, none, none, none, none, none, none, none, none] []).bind (seqO (sSeq g_law_1 (sSeq g_law_2 (sSeq g_law_3 (sSeq g_law_4 (sSeq g_law_5 (sSeq g_law_6 (sSeq g_law_7 (g_law_r))))))))) := by
  unfold g_law
  exact rfl
theorem law_h : RtAll (g_law [none, some .row, none, none, none, none, none, none, none, none, none, none, none, none, none, none, none] []) := RtAll.eq g_law_un (start_all go_asks2 go_keep2 go_rings2 go_turns2 go_asks3 go_keep3 go_rings3 go_turns3)
theorem law_e : lawT g_law 17 = (g_law [none, some .row, none, none, none, none, none, none, none, none, none, none, none, none, none, none, none] []).bind retOf := by
  unfold lawT
  exact rfl
theorem law_all : (lawT g_law 17).all fun d => d = .bl true := RtAll.law law_e law_h
end Zl
set_option Elab.async false
set_option linter.all false
set_option maxRecDepth 1000000
set_option maxHeartbeats 4000000
namespace Zl
open PySem L2 PySem.Spec PyProof.Rows
theorem all_mk {l : PySem.W.OpenLaw} {w : World} {K : PySem.W.Frag} {h : Heap} {mg : Str → Option Value} {fa aP : Addr} {tp1 tp2 : Tok} {np : Nat} {slp : Array (Option Value)} {ad_CHOICES : Addr} {es_CHOICES : Array DictEntry} {nn_CHOICES : Nat} {ad_TOLD : Addr} {es_TOLD : Array DictEntry} {nn_TOLD : Nat} {tk_CHOICES_0 : Tok} {tv_CHOICES_0 : Tok} {tk_CHOICES_1 : Tok} {tv_CHOICES_1 : Tok} {tk_TOLD_0 : Tok} {tk_TOLD_1 : Tok} {tk_TOLD_2 : Tok} {tk_TOLD_3 : Tok} (X : K.In h) (G : h.Ns mainGlobals mg) (hfa : mg "law" = some (.ref fa)) {oc_law_orders kV_law_orders dc_law_orders pm_law_orders cd_law_orders ct_law_orders : Value} {od_law_orders an_law_orders : Option Addr} {sl_law_orders : Array (Option Value)} {a_law_orders : Addr} {oc_law_before kV_law_before dc_law_before pm_law_before cd_law_before ct_law_before : Value} {od_law_before an_law_before : Option Addr} {sl_law_before : Array (Option Value)} {a_law_before : Addr} {oc_law_gains kV_law_gains dc_law_gains pm_law_gains cd_law_gains ct_law_gains : Value} {od_law_gains an_law_gains : Option Addr} {sl_law_gains : Array (Option Value)} {a_law_gains : Addr} {oc_law_blocker kV_law_blocker dc_law_blocker pm_law_blocker cd_law_blocker ct_law_blocker : Value} {od_law_blocker an_law_blocker : Option Addr} {sl_law_blocker : Array (Option Value)} {a_law_blocker : Addr} {oc_law_dealt kV_law_dealt dc_law_dealt pm_law_dealt cd_law_dealt ct_law_dealt : Value} {od_law_dealt an_law_dealt : Option Addr} {sl_law_dealt : Array (Option Value)} {a_law_dealt : Addr} {oc_law_rows kV_law_rows dc_law_rows pm_law_rows cd_law_rows ct_law_rows : Value} {od_law_rows an_law_rows : Option Addr} {sl_law_rows : Array (Option Value)} {a_law_rows : Addr} {oc_law_told kV_law_told dc_law_told pm_law_told cd_law_told ct_law_told : Value} {od_law_told an_law_told : Option Addr} {sl_law_told : Array (Option Value)} {a_law_told : Addr} {oc_law_alike kV_law_alike dc_law_alike pm_law_alike cd_law_alike ct_law_alike : Value} {od_law_alike an_law_alike : Option Addr} {sl_law_alike : Array (Option Value)} {a_law_alike : Addr} {oc_law_taken kV_law_taken dc_law_taken pm_law_taken cd_law_taken ct_law_taken : Value} {od_law_taken an_law_taken : Option Addr} {sl_law_taken : Array (Option Value)} {a_law_taken : Addr} {oc_law_pick kV_law_pick dc_law_pick pm_law_pick cd_law_pick ct_law_pick : Value} {od_law_pick an_law_pick : Option Addr} {sl_law_pick : Array (Option Value)} {a_law_pick : Addr} {oc_is_below kV_is_below dc_is_below pm_is_below cd_is_below ct_is_below : Value} {od_is_below an_is_below : Option Addr} {sl_is_below : Array (Option Value)} {a_is_below : Addr} {oc_check_rule kV_check_rule dc_check_rule pm_check_rule cd_check_rule ct_check_rule : Value} {od_check_rule an_check_rule : Option Addr} {sl_check_rule : Array (Option Value)} {a_check_rule : Addr} {oc_is_order kV_is_order dc_is_order pm_is_order cd_is_order ct_is_order : Value} {od_is_order an_is_order : Option Addr} {sl_is_order : Array (Option Value)} {a_is_order : Addr} {oc_is_row kV_is_row dc_is_row pm_is_row cd_is_row ct_is_row : Value} {od_is_row an_is_row : Option Addr} {sl_is_row : Array (Option Value)} {a_is_row : Addr} {oc_check_row kV_check_row dc_check_row pm_check_row cd_check_row ct_check_row : Value} {od_check_row an_check_row : Option Addr} {sl_check_row : Array (Option Value)} {a_check_row : Addr} {oc_check_alike kV_check_alike dc_check_alike pm_check_alike cd_check_alike ct_check_alike : Value} {od_check_alike an_check_alike : Option Addr} {sl_check_alike : Array (Option Value)} {a_check_alike : Addr} {oc_check_person kV_check_person dc_check_person pm_check_person cd_check_person ct_check_person : Value} {od_check_person an_check_person : Option Addr} {sl_check_person : Array (Option Value)} {a_check_person : Addr} {oc_count_people kV_count_people dc_count_people pm_count_people cd_count_people ct_count_people : Value} {od_count_people an_count_people : Option Addr} {sl_count_people : Array (Option Value)} {a_count_people : Addr} {oc_check_people kV_check_people dc_check_people pm_check_people cd_check_people ct_check_people : Value} {od_check_people an_check_people : Option Addr} {sl_check_people : Array (Option Value)} {a_check_people : Addr} {oc_dealings kV_dealings dc_dealings pm_dealings cd_dealings ct_dealings : Value} {od_dealings an_dealings : Option Addr} {sl_dealings : Array (Option Value)} {a_dealings : Addr} {oc_rows_of kV_rows_of dc_rows_of pm_rows_of cd_rows_of ct_rows_of : Value} {od_rows_of an_rows_of : Option Addr} {sl_rows_of : Array (Option Value)} {a_rows_of : Addr} {oc_rows kV_rows dc_rows pm_rows cd_rows ct_rows : Value} {od_rows an_rows : Option Addr} {sl_rows : Array (Option Value)} {a_rows : Addr} {oc_deals_of kV_deals_of dc_deals_of pm_deals_of cd_deals_of ct_deals_of : Value} {od_deals_of an_deals_of : Option Addr} {sl_deals_of : Array (Option Value)} {a_deals_of : Addr} {oc_replaced kV_replaced dc_replaced pm_replaced cd_replaced ct_replaced : Value} {od_replaced an_replaced : Option Addr} {sl_replaced : Array (Option Value)} {a_replaced : Addr} {oc_lies kV_lies dc_lies pm_lies cd_lies ct_lies : Value} {od_lies an_lies : Option Addr} {sl_lies : Array (Option Value)} {a_lies : Addr} {oc_law_names kV_law_names dc_law_names pm_law_names cd_law_names ct_law_names : Value} {od_law_names an_law_names : Option Addr} {sl_law_names : Array (Option Value)} {a_law_names : Addr} {oc_names kV_names dc_names pm_names cd_names ct_names : Value} {od_names an_names : Option Addr} {sl_names : Array (Option Value)} {a_names : Addr} {oc_is_boss kV_is_boss dc_is_boss pm_is_boss cd_is_boss ct_is_boss : Value} {od_is_boss an_is_boss : Option Addr} {sl_is_boss : Array (Option Value)} {a_is_boss : Addr} {oc_bosses kV_bosses dc_bosses pm_bosses cd_bosses ct_bosses : Value} {od_bosses an_bosses : Option Addr} {sl_bosses : Array (Option Value)} {a_bosses : Addr} {oc_deal_asks kV_deal_asks dc_deal_asks pm_deal_asks cd_deal_asks ct_deal_asks : Value} {od_deal_asks an_deal_asks : Option Addr} {sl_deal_asks : Array (Option Value)} {a_deal_asks : Addr} {oc_deal_keep kV_deal_keep dc_deal_keep pm_deal_keep cd_deal_keep ct_deal_keep : Value} {od_deal_keep an_deal_keep : Option Addr} {sl_deal_keep : Array (Option Value)} {a_deal_keep : Addr} {oc_check_dealing kV_check_dealing dc_check_dealing pm_check_dealing cd_check_dealing ct_check_dealing : Value} {od_check_dealing an_check_dealing : Option Addr} {sl_check_dealing : Array (Option Value)} {a_check_dealing : Addr} {oc_groups kV_groups dc_groups pm_groups cd_groups ct_groups : Value} {od_groups an_groups : Option Addr} {sl_groups : Array (Option Value)} {a_groups : Addr} {oc_is_within kV_is_within dc_is_within pm_is_within cd_is_within ct_is_within : Value} {od_is_within an_is_within : Option Addr} {sl_is_within : Array (Option Value)} {a_is_within : Addr} {oc_is_better kV_is_better dc_is_better pm_is_better cd_is_better ct_is_better : Value} {od_is_better an_is_better : Option Addr} {sl_is_better : Array (Option Value)} {a_is_better : Addr} {oc_blocks kV_blocks dc_blocks pm_blocks cd_blocks ct_blocks : Value} {od_blocks an_blocks : Option Addr} {sl_blocks : Array (Option Value)} {a_blocks : Addr} {oc_blocking_group kV_blocking_group dc_blocking_group pm_blocking_group cd_blocking_group ct_blocking_group : Value} {od_blocking_group an_blocking_group : Option Addr} {sl_blocking_group : Array (Option Value)} {a_blocking_group : Addr} {oc_deal_rings kV_deal_rings dc_deal_rings pm_deal_rings cd_deal_rings ct_deal_rings : Value} {od_deal_rings an_deal_rings : Option Addr} {sl_deal_rings : Array (Option Value)} {a_deal_rings : Addr} {oc_deal_turns kV_deal_turns dc_deal_turns pm_deal_turns cd_deal_turns ct_deal_turns : Value} {od_deal_turns an_deal_turns : Option Addr} {sl_deal_turns : Array (Option Value)} {a_deal_turns : Addr} {oc_told_rule kV_told_rule dc_told_rule pm_told_rule cd_told_rule ct_told_rule : Value} {od_told_rule an_told_rule : Option Addr} {sl_told_rule : Array (Option Value)} {a_told_rule : Addr} {oc_dealt kV_dealt dc_dealt pm_dealt cd_dealt ct_dealt : Value} {od_dealt an_dealt : Option Addr} {sl_dealt : Array (Option Value)} {a_dealt : Addr} {oc_law kV_law dc_law pm_law cd_law ct_law : Value} {od_law an_law : Option Addr} {sl_law : Array (Option Value)} {a_law : Addr}
    (m_law_orders_ : PySem.W.nsIn K mainGlobals "_law_orders" = some (some (.ref a_law_orders))) (l_law_orders : K.lookup a_law_orders = some ⟨oc_law_orders, od_law_orders, .func (PySem.W.fnOf "_law_orders" "_law_orders" (defArgs s_law_orders) (defBody s_law_orders) (defScope s_law_orders) .none kV_law_orders dc_law_orders pm_law_orders an_law_orders cd_law_orders ct_law_orders), sl_law_orders⟩) (c_law_orders : PySem.W.codeIn K cd_law_orders "_law_orders" = true) (k_law_orders : PySem.W.keepIn K (.ref a_law_orders) = true)
    (m_law_before_ : PySem.W.nsIn K mainGlobals "_law_before" = some (some (.ref a_law_before))) (l_law_before : K.lookup a_law_before = some ⟨oc_law_before, od_law_before, .func (PySem.W.fnOf "_law_before" "_law_before" (defArgs s_law_before) (defBody s_law_before) (defScope s_law_before) .none kV_law_before dc_law_before pm_law_before an_law_before cd_law_before ct_law_before), sl_law_before⟩) (c_law_before : PySem.W.codeIn K cd_law_before "_law_before" = true) (k_law_before : PySem.W.keepIn K (.ref a_law_before) = true)
    (m_law_gains_ : PySem.W.nsIn K mainGlobals "_law_gains" = some (some (.ref a_law_gains))) (l_law_gains : K.lookup a_law_gains = some ⟨oc_law_gains, od_law_gains, .func (PySem.W.fnOf "_law_gains" "_law_gains" (defArgs s_law_gains) (defBody s_law_gains) (defScope s_law_gains) .none kV_law_gains dc_law_gains pm_law_gains an_law_gains cd_law_gains ct_law_gains), sl_law_gains⟩) (c_law_gains : PySem.W.codeIn K cd_law_gains "_law_gains" = true) (k_law_gains : PySem.W.keepIn K (.ref a_law_gains) = true)
    (m_law_blocker_ : PySem.W.nsIn K mainGlobals "_law_blocker" = some (some (.ref a_law_blocker))) (l_law_blocker : K.lookup a_law_blocker = some ⟨oc_law_blocker, od_law_blocker, .func (PySem.W.fnOf "_law_blocker" "_law_blocker" (defArgs s_law_blocker) (defBody s_law_blocker) (defScope s_law_blocker) .none kV_law_blocker dc_law_blocker pm_law_blocker an_law_blocker cd_law_blocker ct_law_blocker), sl_law_blocker⟩) (c_law_blocker : PySem.W.codeIn K cd_law_blocker "_law_blocker" = true) (k_law_blocker : PySem.W.keepIn K (.ref a_law_blocker) = true)
    (m_law_dealt_ : PySem.W.nsIn K mainGlobals "_law_dealt" = some (some (.ref a_law_dealt))) (l_law_dealt : K.lookup a_law_dealt = some ⟨oc_law_dealt, od_law_dealt, .func (PySem.W.fnOf "_law_dealt" "_law_dealt" (defArgs s_law_dealt) (defBody s_law_dealt) (defScope s_law_dealt) .none kV_law_dealt dc_law_dealt pm_law_dealt an_law_dealt cd_law_dealt ct_law_dealt), sl_law_dealt⟩) (c_law_dealt : PySem.W.codeIn K cd_law_dealt "_law_dealt" = true) (k_law_dealt : PySem.W.keepIn K (.ref a_law_dealt) = true)
    (m_law_rows_ : PySem.W.nsIn K mainGlobals "_law_rows" = some (some (.ref a_law_rows))) (l_law_rows : K.lookup a_law_rows = some ⟨oc_law_rows, od_law_rows, .func (PySem.W.fnOf "_law_rows" "_law_rows" (defArgs s_law_rows) (defBody s_law_rows) (defScope s_law_rows) .none kV_law_rows dc_law_rows pm_law_rows an_law_rows cd_law_rows ct_law_rows), sl_law_rows⟩) (c_law_rows : PySem.W.codeIn K cd_law_rows "_law_rows" = true) (k_law_rows : PySem.W.keepIn K (.ref a_law_rows) = true)
    (m_law_told_ : PySem.W.nsIn K mainGlobals "_law_told" = some (some (.ref a_law_told))) (l_law_told : K.lookup a_law_told = some ⟨oc_law_told, od_law_told, .func (PySem.W.fnOf "_law_told" "_law_told" (defArgs s_law_told) (defBody s_law_told) (defScope s_law_told) .none kV_law_told dc_law_told pm_law_told an_law_told cd_law_told ct_law_told), sl_law_told⟩) (c_law_told : PySem.W.codeIn K cd_law_told "_law_told" = true) (k_law_told : PySem.W.keepIn K (.ref a_law_told) = true)
    (m_law_alike_ : PySem.W.nsIn K mainGlobals "_law_alike" = some (some (.ref a_law_alike))) (l_law_alike : K.lookup a_law_alike = some ⟨oc_law_alike, od_law_alike, .func (PySem.W.fnOf "_law_alike" "_law_alike" (defArgs s_law_alike) (defBody s_law_alike) (defScope s_law_alike) .none kV_law_alike dc_law_alike pm_law_alike an_law_alike cd_law_alike ct_law_alike), sl_law_alike⟩) (c_law_alike : PySem.W.codeIn K cd_law_alike "_law_alike" = true) (k_law_alike : PySem.W.keepIn K (.ref a_law_alike) = true)
    (m_law_taken_ : PySem.W.nsIn K mainGlobals "_law_taken" = some (some (.ref a_law_taken))) (l_law_taken : K.lookup a_law_taken = some ⟨oc_law_taken, od_law_taken, .func (PySem.W.fnOf "_law_taken" "_law_taken" (defArgs s_law_taken) (defBody s_law_taken) (defScope s_law_taken) .none kV_law_taken dc_law_taken pm_law_taken an_law_taken cd_law_taken ct_law_taken), sl_law_taken⟩) (c_law_taken : PySem.W.codeIn K cd_law_taken "_law_taken" = true) (k_law_taken : PySem.W.keepIn K (.ref a_law_taken) = true)
    (m_law_pick_ : PySem.W.nsIn K mainGlobals "_law_pick" = some (some (.ref a_law_pick))) (l_law_pick : K.lookup a_law_pick = some ⟨oc_law_pick, od_law_pick, .func (PySem.W.fnOf "_law_pick" "_law_pick" (defArgs s_law_pick) (defBody s_law_pick) (defScope s_law_pick) .none kV_law_pick dc_law_pick pm_law_pick an_law_pick cd_law_pick ct_law_pick), sl_law_pick⟩) (c_law_pick : PySem.W.codeIn K cd_law_pick "_law_pick" = true) (k_law_pick : PySem.W.keepIn K (.ref a_law_pick) = true)
    (m_is_below_ : PySem.W.nsIn K mainGlobals "is_below" = some (some (.ref a_is_below))) (l_is_below : K.lookup a_is_below = some ⟨oc_is_below, od_is_below, .func (PySem.W.fnOf "is_below" "is_below" (defArgs s_is_below) (defBody s_is_below) (defScope s_is_below) .none kV_is_below dc_is_below pm_is_below an_is_below cd_is_below ct_is_below), sl_is_below⟩) (c_is_below : PySem.W.codeIn K cd_is_below "is_below" = true) (k_is_below : PySem.W.keepIn K (.ref a_is_below) = true)
    (m_check_rule_ : PySem.W.nsIn K mainGlobals "check_rule" = some (some (.ref a_check_rule))) (l_check_rule : K.lookup a_check_rule = some ⟨oc_check_rule, od_check_rule, .func (PySem.W.fnOf "check_rule" "check_rule" (defArgs s_check_rule) (defBody s_check_rule) (defScope s_check_rule) .none kV_check_rule dc_check_rule pm_check_rule an_check_rule cd_check_rule ct_check_rule), sl_check_rule⟩) (c_check_rule : PySem.W.codeIn K cd_check_rule "check_rule" = true) (k_check_rule : PySem.W.keepIn K (.ref a_check_rule) = true)
    (m_is_order_ : PySem.W.nsIn K mainGlobals "is_order" = some (some (.ref a_is_order))) (l_is_order : K.lookup a_is_order = some ⟨oc_is_order, od_is_order, .func (PySem.W.fnOf "is_order" "is_order" (defArgs s_is_order) (defBody s_is_order) (defScope s_is_order) .none kV_is_order dc_is_order pm_is_order an_is_order cd_is_order ct_is_order), sl_is_order⟩) (c_is_order : PySem.W.codeIn K cd_is_order "is_order" = true) (k_is_order : PySem.W.keepIn K (.ref a_is_order) = true)
    (m_is_row_ : PySem.W.nsIn K mainGlobals "is_row" = some (some (.ref a_is_row))) (l_is_row : K.lookup a_is_row = some ⟨oc_is_row, od_is_row, .func (PySem.W.fnOf "is_row" "is_row" (defArgs s_is_row) (defBody s_is_row) (defScope s_is_row) .none kV_is_row dc_is_row pm_is_row an_is_row cd_is_row ct_is_row), sl_is_row⟩) (c_is_row : PySem.W.codeIn K cd_is_row "is_row" = true) (k_is_row : PySem.W.keepIn K (.ref a_is_row) = true)
    (m_check_row_ : PySem.W.nsIn K mainGlobals "check_row" = some (some (.ref a_check_row))) (l_check_row : K.lookup a_check_row = some ⟨oc_check_row, od_check_row, .func (PySem.W.fnOf "check_row" "check_row" (defArgs s_check_row) (defBody s_check_row) (defScope s_check_row) .none kV_check_row dc_check_row pm_check_row an_check_row cd_check_row ct_check_row), sl_check_row⟩) (c_check_row : PySem.W.codeIn K cd_check_row "check_row" = true) (k_check_row : PySem.W.keepIn K (.ref a_check_row) = true)
    (m_check_alike_ : PySem.W.nsIn K mainGlobals "check_alike" = some (some (.ref a_check_alike))) (l_check_alike : K.lookup a_check_alike = some ⟨oc_check_alike, od_check_alike, .func (PySem.W.fnOf "check_alike" "check_alike" (defArgs s_check_alike) (defBody s_check_alike) (defScope s_check_alike) .none kV_check_alike dc_check_alike pm_check_alike an_check_alike cd_check_alike ct_check_alike), sl_check_alike⟩) (c_check_alike : PySem.W.codeIn K cd_check_alike "check_alike" = true) (k_check_alike : PySem.W.keepIn K (.ref a_check_alike) = true)
    (m_check_person_ : PySem.W.nsIn K mainGlobals "check_person" = some (some (.ref a_check_person))) (l_check_person : K.lookup a_check_person = some ⟨oc_check_person, od_check_person, .func (PySem.W.fnOf "check_person" "check_person" (defArgs s_check_person) (defBody s_check_person) (defScope s_check_person) .none kV_check_person dc_check_person pm_check_person an_check_person cd_check_person ct_check_person), sl_check_person⟩) (c_check_person : PySem.W.codeIn K cd_check_person "check_person" = true) (k_check_person : PySem.W.keepIn K (.ref a_check_person) = true)
    (m_count_people_ : PySem.W.nsIn K mainGlobals "count_people" = some (some (.ref a_count_people))) (l_count_people : K.lookup a_count_people = some ⟨oc_count_people, od_count_people, .func (PySem.W.fnOf "count_people" "count_people" (defArgs s_count_people) (defBody s_count_people) (defScope s_count_people) .none kV_count_people dc_count_people pm_count_people an_count_people cd_count_people ct_count_people), sl_count_people⟩) (c_count_people : PySem.W.codeIn K cd_count_people "count_people" = true) (k_count_people : PySem.W.keepIn K (.ref a_count_people) = true)
    (m_check_people_ : PySem.W.nsIn K mainGlobals "check_people" = some (some (.ref a_check_people))) (l_check_people : K.lookup a_check_people = some ⟨oc_check_people, od_check_people, .func (PySem.W.fnOf "check_people" "check_people" (defArgs s_check_people) (defBody s_check_people) (defScope s_check_people) .none kV_check_people dc_check_people pm_check_people an_check_people cd_check_people ct_check_people), sl_check_people⟩) (c_check_people : PySem.W.codeIn K cd_check_people "check_people" = true) (k_check_people : PySem.W.keepIn K (.ref a_check_people) = true)
    (m_dealings_ : PySem.W.nsIn K mainGlobals "dealings" = some (some (.ref a_dealings))) (l_dealings : K.lookup a_dealings = some ⟨oc_dealings, od_dealings, .func (PySem.W.fnOf "dealings" "dealings" (defArgs s_dealings) (defBody s_dealings) (defScope s_dealings) .none kV_dealings dc_dealings pm_dealings an_dealings cd_dealings ct_dealings), sl_dealings⟩) (c_dealings : PySem.W.codeIn K cd_dealings "dealings" = true) (k_dealings : PySem.W.keepIn K (.ref a_dealings) = true)
    (m_rows_of_ : PySem.W.nsIn K mainGlobals "rows_of" = some (some (.ref a_rows_of))) (l_rows_of : K.lookup a_rows_of = some ⟨oc_rows_of, od_rows_of, .func (PySem.W.fnOf "rows_of" "rows_of" (defArgs s_rows_of) (defBody s_rows_of) (defScope s_rows_of) .none kV_rows_of dc_rows_of pm_rows_of an_rows_of cd_rows_of ct_rows_of), sl_rows_of⟩) (c_rows_of : PySem.W.codeIn K cd_rows_of "rows_of" = true) (k_rows_of : PySem.W.keepIn K (.ref a_rows_of) = true)
    (m_rows_ : PySem.W.nsIn K mainGlobals "rows" = some (some (.ref a_rows))) (l_rows : K.lookup a_rows = some ⟨oc_rows, od_rows, .func (PySem.W.fnOf "rows" "rows" (defArgs s_rows) (defBody s_rows) (defScope s_rows) .none kV_rows dc_rows pm_rows an_rows cd_rows ct_rows), sl_rows⟩) (c_rows : PySem.W.codeIn K cd_rows "rows" = true) (k_rows : PySem.W.keepIn K (.ref a_rows) = true)
    (m_deals_of_ : PySem.W.nsIn K mainGlobals "deals_of" = some (some (.ref a_deals_of))) (l_deals_of : K.lookup a_deals_of = some ⟨oc_deals_of, od_deals_of, .func (PySem.W.fnOf "deals_of" "deals_of" (defArgs s_deals_of) (defBody s_deals_of) (defScope s_deals_of) .none kV_deals_of dc_deals_of pm_deals_of an_deals_of cd_deals_of ct_deals_of), sl_deals_of⟩) (c_deals_of : PySem.W.codeIn K cd_deals_of "deals_of" = true) (k_deals_of : PySem.W.keepIn K (.ref a_deals_of) = true)
    (m_replaced_ : PySem.W.nsIn K mainGlobals "replaced" = some (some (.ref a_replaced))) (l_replaced : K.lookup a_replaced = some ⟨oc_replaced, od_replaced, .func (PySem.W.fnOf "replaced" "replaced" (defArgs s_replaced) (defBody s_replaced) (defScope s_replaced) .none kV_replaced dc_replaced pm_replaced an_replaced cd_replaced ct_replaced), sl_replaced⟩) (c_replaced : PySem.W.codeIn K cd_replaced "replaced" = true) (k_replaced : PySem.W.keepIn K (.ref a_replaced) = true)
    (m_lies_ : PySem.W.nsIn K mainGlobals "lies" = some (some (.ref a_lies))) (l_lies : K.lookup a_lies = some ⟨oc_lies, od_lies, .func (PySem.W.fnOf "lies" "lies" (defArgs s_lies) (defBody s_lies) (defScope s_lies) .none kV_lies dc_lies pm_lies an_lies cd_lies ct_lies), sl_lies⟩) (c_lies : PySem.W.codeIn K cd_lies "lies" = true) (k_lies : PySem.W.keepIn K (.ref a_lies) = true)
    (m_law_names_ : PySem.W.nsIn K mainGlobals "_law_names" = some (some (.ref a_law_names))) (l_law_names : K.lookup a_law_names = some ⟨oc_law_names, od_law_names, .func (PySem.W.fnOf "_law_names" "_law_names" (defArgs s_law_names) (defBody s_law_names) (defScope s_law_names) .none kV_law_names dc_law_names pm_law_names an_law_names cd_law_names ct_law_names), sl_law_names⟩) (c_law_names : PySem.W.codeIn K cd_law_names "_law_names" = true) (k_law_names : PySem.W.keepIn K (.ref a_law_names) = true)
    (m_names_ : PySem.W.nsIn K mainGlobals "names" = some (some (.ref a_names))) (l_names : K.lookup a_names = some ⟨oc_names, od_names, .func (PySem.W.fnOf "names" "names" (defArgs s_names) (defBody s_names) (defScope s_names) .none kV_names dc_names pm_names an_names cd_names ct_names), sl_names⟩) (c_names : PySem.W.codeIn K cd_names "names" = true) (k_names : PySem.W.keepIn K (.ref a_names) = true)
    (m_is_boss_ : PySem.W.nsIn K mainGlobals "is_boss" = some (some (.ref a_is_boss))) (l_is_boss : K.lookup a_is_boss = some ⟨oc_is_boss, od_is_boss, .func (PySem.W.fnOf "is_boss" "is_boss" (defArgs s_is_boss) (defBody s_is_boss) (defScope s_is_boss) .none kV_is_boss dc_is_boss pm_is_boss an_is_boss cd_is_boss ct_is_boss), sl_is_boss⟩) (c_is_boss : PySem.W.codeIn K cd_is_boss "is_boss" = true) (k_is_boss : PySem.W.keepIn K (.ref a_is_boss) = true)
    (m_bosses_ : PySem.W.nsIn K mainGlobals "bosses" = some (some (.ref a_bosses))) (l_bosses : K.lookup a_bosses = some ⟨oc_bosses, od_bosses, .func (PySem.W.fnOf "bosses" "bosses" (defArgs s_bosses) (defBody s_bosses) (defScope s_bosses) .none kV_bosses dc_bosses pm_bosses an_bosses cd_bosses ct_bosses), sl_bosses⟩) (c_bosses : PySem.W.codeIn K cd_bosses "bosses" = true) (k_bosses : PySem.W.keepIn K (.ref a_bosses) = true)
    (m_deal_asks_ : PySem.W.nsIn K mainGlobals "deal_asks" = some (some (.ref a_deal_asks))) (l_deal_asks : K.lookup a_deal_asks = some ⟨oc_deal_asks, od_deal_asks, .func (PySem.W.fnOf "deal_asks" "deal_asks" (defArgs s_deal_asks) (defBody s_deal_asks) (defScope s_deal_asks) .none kV_deal_asks dc_deal_asks pm_deal_asks an_deal_asks cd_deal_asks ct_deal_asks), sl_deal_asks⟩) (c_deal_asks : PySem.W.codeIn K cd_deal_asks "deal_asks" = true) (k_deal_asks : PySem.W.keepIn K (.ref a_deal_asks) = true)
    (m_deal_keep_ : PySem.W.nsIn K mainGlobals "deal_keep" = some (some (.ref a_deal_keep))) (l_deal_keep : K.lookup a_deal_keep = some ⟨oc_deal_keep, od_deal_keep, .func (PySem.W.fnOf "deal_keep" "deal_keep" (defArgs s_deal_keep) (defBody s_deal_keep) (defScope s_deal_keep) .none kV_deal_keep dc_deal_keep pm_deal_keep an_deal_keep cd_deal_keep ct_deal_keep), sl_deal_keep⟩) (c_deal_keep : PySem.W.codeIn K cd_deal_keep "deal_keep" = true) (k_deal_keep : PySem.W.keepIn K (.ref a_deal_keep) = true)
    (m_check_dealing_ : PySem.W.nsIn K mainGlobals "check_dealing" = some (some (.ref a_check_dealing))) (l_check_dealing : K.lookup a_check_dealing = some ⟨oc_check_dealing, od_check_dealing, .func (PySem.W.fnOf "check_dealing" "check_dealing" (defArgs s_check_dealing) (defBody s_check_dealing) (defScope s_check_dealing) .none kV_check_dealing dc_check_dealing pm_check_dealing an_check_dealing cd_check_dealing ct_check_dealing), sl_check_dealing⟩) (c_check_dealing : PySem.W.codeIn K cd_check_dealing "check_dealing" = true) (k_check_dealing : PySem.W.keepIn K (.ref a_check_dealing) = true)
    (m_groups_ : PySem.W.nsIn K mainGlobals "groups" = some (some (.ref a_groups))) (l_groups : K.lookup a_groups = some ⟨oc_groups, od_groups, .func (PySem.W.fnOf "groups" "groups" (defArgs s_groups) (defBody s_groups) (defScope s_groups) .none kV_groups dc_groups pm_groups an_groups cd_groups ct_groups), sl_groups⟩) (c_groups : PySem.W.codeIn K cd_groups "groups" = true) (k_groups : PySem.W.keepIn K (.ref a_groups) = true)
    (m_is_within_ : PySem.W.nsIn K mainGlobals "is_within" = some (some (.ref a_is_within))) (l_is_within : K.lookup a_is_within = some ⟨oc_is_within, od_is_within, .func (PySem.W.fnOf "is_within" "is_within" (defArgs s_is_within) (defBody s_is_within) (defScope s_is_within) .none kV_is_within dc_is_within pm_is_within an_is_within cd_is_within ct_is_within), sl_is_within⟩) (c_is_within : PySem.W.codeIn K cd_is_within "is_within" = true) (k_is_within : PySem.W.keepIn K (.ref a_is_within) = true)
    (m_is_better_ : PySem.W.nsIn K mainGlobals "is_better" = some (some (.ref a_is_better))) (l_is_better : K.lookup a_is_better = some ⟨oc_is_better, od_is_better, .func (PySem.W.fnOf "is_better" "is_better" (defArgs s_is_better) (defBody s_is_better) (defScope s_is_better) .none kV_is_better dc_is_better pm_is_better an_is_better cd_is_better ct_is_better), sl_is_better⟩) (c_is_better : PySem.W.codeIn K cd_is_better "is_better" = true) (k_is_better : PySem.W.keepIn K (.ref a_is_better) = true)
    (m_blocks_ : PySem.W.nsIn K mainGlobals "blocks" = some (some (.ref a_blocks))) (l_blocks : K.lookup a_blocks = some ⟨oc_blocks, od_blocks, .func (PySem.W.fnOf "blocks" "blocks" (defArgs s_blocks) (defBody s_blocks) (defScope s_blocks) .none kV_blocks dc_blocks pm_blocks an_blocks cd_blocks ct_blocks), sl_blocks⟩) (c_blocks : PySem.W.codeIn K cd_blocks "blocks" = true) (k_blocks : PySem.W.keepIn K (.ref a_blocks) = true)
    (m_blocking_group_ : PySem.W.nsIn K mainGlobals "blocking_group" = some (some (.ref a_blocking_group))) (l_blocking_group : K.lookup a_blocking_group = some ⟨oc_blocking_group, od_blocking_group, .func (PySem.W.fnOf "blocking_group" "blocking_group" (defArgs s_blocking_group) (defBody s_blocking_group) (defScope s_blocking_group) .none kV_blocking_group dc_blocking_group pm_blocking_group an_blocking_group cd_blocking_group ct_blocking_group), sl_blocking_group⟩) (c_blocking_group : PySem.W.codeIn K cd_blocking_group "blocking_group" = true) (k_blocking_group : PySem.W.keepIn K (.ref a_blocking_group) = true)
    (m_deal_rings_ : PySem.W.nsIn K mainGlobals "deal_rings" = some (some (.ref a_deal_rings))) (l_deal_rings : K.lookup a_deal_rings = some ⟨oc_deal_rings, od_deal_rings, .func (PySem.W.fnOf "deal_rings" "deal_rings" (defArgs s_deal_rings) (defBody s_deal_rings) (defScope s_deal_rings) .none kV_deal_rings dc_deal_rings pm_deal_rings an_deal_rings cd_deal_rings ct_deal_rings), sl_deal_rings⟩) (c_deal_rings : PySem.W.codeIn K cd_deal_rings "deal_rings" = true) (k_deal_rings : PySem.W.keepIn K (.ref a_deal_rings) = true)
    (m_deal_turns_ : PySem.W.nsIn K mainGlobals "deal_turns" = some (some (.ref a_deal_turns))) (l_deal_turns : K.lookup a_deal_turns = some ⟨oc_deal_turns, od_deal_turns, .func (PySem.W.fnOf "deal_turns" "deal_turns" (defArgs s_deal_turns) (defBody s_deal_turns) (defScope s_deal_turns) .none kV_deal_turns dc_deal_turns pm_deal_turns an_deal_turns cd_deal_turns ct_deal_turns), sl_deal_turns⟩) (c_deal_turns : PySem.W.codeIn K cd_deal_turns "deal_turns" = true) (k_deal_turns : PySem.W.keepIn K (.ref a_deal_turns) = true)
    (m_told_rule_ : PySem.W.nsIn K mainGlobals "told_rule" = some (some (.ref a_told_rule))) (l_told_rule : K.lookup a_told_rule = some ⟨oc_told_rule, od_told_rule, .func (PySem.W.fnOf "told_rule" "told_rule" (defArgs s_told_rule) (defBody s_told_rule) (defScope s_told_rule) .none kV_told_rule dc_told_rule pm_told_rule an_told_rule cd_told_rule ct_told_rule), sl_told_rule⟩) (c_told_rule : PySem.W.codeIn K cd_told_rule "told_rule" = true) (k_told_rule : PySem.W.keepIn K (.ref a_told_rule) = true)
    (m_dealt_ : PySem.W.nsIn K mainGlobals "dealt" = some (some (.ref a_dealt))) (l_dealt : K.lookup a_dealt = some ⟨oc_dealt, od_dealt, .func (PySem.W.fnOf "dealt" "dealt" (defArgs s_dealt) (defBody s_dealt) (defScope s_dealt) .none kV_dealt dc_dealt pm_dealt an_dealt cd_dealt ct_dealt), sl_dealt⟩) (c_dealt : PySem.W.codeIn K cd_dealt "dealt" = true) (k_dealt : PySem.W.keepIn K (.ref a_dealt) = true)
    (m_law_ : PySem.W.nsIn K mainGlobals "law" = some (some (.ref a_law))) (l_law : K.lookup a_law = some ⟨oc_law, od_law, .func (PySem.W.fnOf "law" "law" (defArgs s_law) (defBody s_law) (defScope s_law) .none kV_law dc_law pm_law an_law cd_law ct_law), sl_law⟩) (c_law : PySem.W.codeIn K cd_law "law" = true) (k_law : PySem.W.keepIn K (.ref a_law) = true)
    (z_all : PySem.W.nsIn K mainGlobals "all" = some none)
    (z_any : PySem.W.nsIn K mainGlobals "any" = some none)
    (z_bool : PySem.W.nsIn K mainGlobals "bool" = some none)
    (z_enumerate : PySem.W.nsIn K mainGlobals "enumerate" = some none)
    (z_int : PySem.W.nsIn K mainGlobals "int" = some none)
    (z_isinstance : PySem.W.nsIn K mainGlobals "isinstance" = some none)
    (z_len : PySem.W.nsIn K mainGlobals "len" = some none)
    (z_list : PySem.W.nsIn K mainGlobals "list" = some none)
    (z_range : PySem.W.nsIn K mainGlobals "range" = some none)
    (z_set : PySem.W.nsIn K mainGlobals "set" = some none)
    (z_sorted : PySem.W.nsIn K mainGlobals "sorted" = some none)
    (z_str : PySem.W.nsIn K mainGlobals "str" = some none)
    (z_tuple : PySem.W.nsIn K mainGlobals "tuple" = some none)
    (z_type : PySem.W.nsIn K mainGlobals "type" = some none)
    (z_zip : PySem.W.nsIn K mainGlobals "zip" = some none)
    (zpm : PySem.W.nsIn K mainGlobals "permutations" = some (some (.type "itertools.permutations"))) (zcb : PySem.W.nsIn K mainGlobals "combinations" = some (some (.type "itertools.combinations"))) (zpp : PySem.W.nsIn K mainGlobals "PEOPLE" = some (some (.ref aP))) (zlp : K.lookup aP = some ⟨.type "tuple", none, .seq #[.int 2 tp1, .int 3 tp2] np, slp⟩)
    (zm_CHOICES : PySem.W.nsIn K mainGlobals "CHOICES" = some (some (.ref ad_CHOICES))) (zd_CHOICES : K.lookup ad_CHOICES = some ⟨.type "dict", none, .dict es_CHOICES nn_CHOICES, #[]⟩)
    (zm_TOLD : PySem.W.nsIn K mainGlobals "TOLD" = some (some (.ref ad_TOLD))) (zd_TOLD : K.lookup ad_TOLD = some ⟨.type "dict", none, .dict es_TOLD nn_TOLD, #[]⟩)
    (ze_CHOICES : es_CHOICES.toList = [⟨hashInt 4, .int 4 tk_CHOICES_0, .int 2 tv_CHOICES_0⟩, ⟨hashInt 216, .int 216 tk_CHOICES_1, .int 6 tv_CHOICES_1⟩]) (zs_CHOICES : (ad_CHOICES == sysModules) = false)
    (ze_TOLD : es_TOLD.toList = [⟨hashStr w ⟨([97, 115, 107, 115] : List Nat).toArray⟩, .str ⟨([97, 115, 107, 115] : List Nat).toArray⟩ tk_TOLD_0, .ref a_deal_asks⟩, ⟨hashStr w ⟨([107, 101, 101, 112] : List Nat).toArray⟩, .str ⟨([107, 101, 101, 112] : List Nat).toArray⟩ tk_TOLD_1, .ref a_deal_keep⟩, ⟨hashStr w ⟨([114, 105, 110, 103, 115] : List Nat).toArray⟩, .str ⟨([114, 105, 110, 103, 115] : List Nat).toArray⟩ tk_TOLD_2, .ref a_deal_rings⟩, ⟨hashStr w ⟨([116, 117, 114, 110, 115] : List Nat).toArray⟩, .str ⟨([116, 117, 114, 110, 115] : List Nat).toArray⟩ tk_TOLD_3, .ref a_deal_turns⟩]) (zs_TOLD : (ad_TOLD == sysModules) = false) :
    ∃ fd : FuncData, (∀ (s : Shared) (v : Value), BindsTo s fd ⟨[v], []⟩ [("script", v)]) ∧ ∀ base : Heap, K.In base → base.Ns mainGlobals mg → FnOk l.prog w K mg base CX0 10 fa fd ["script"] (spLaw K) := by
  have e := hfa.symm.trans (PySem.W.mg_of X G m_law_)
  cases e
  have S_CHOICES : SDk l.prog w K ad_CHOICES [(.inl 4, .int 2), (.inl 216, .int 6)] := sdk_of zd_CHOICES zs_CHOICES (by rw [ze_CHOICES]; exact (.cons (by first | exact keyIs_int _ _ | exact keyIs_str _ _) rfl (by first | exact ⟨_, rfl⟩ | exact rfl) (.cons (by first | exact keyIs_int _ _ | exact keyIs_str _ _) rfl (by first | exact ⟨_, rfl⟩ | exact rfl) .nil))) (show List.Nodup ([.inl 4, .inl 216] : List Key) from by decide +kernel)
  have R_CHOICES : TabR K (F1 w [a_deal_asks, a_deal_keep, a_deal_rings, a_deal_turns]) [(.inl 4, .int 2), (.inl 216, .int 6)] tb_CHOICES := (.cons rfl (fun m H => by first | exact .int _ | exact .fn rfl) (.cons rfl (fun m H => by first | exact .int _ | exact .fn rfl) .nil))
  have S_TOLD : SDk l.prog w K ad_TOLD [(.inr ⟨([97, 115, 107, 115] : List Nat).toArray⟩, .ref a_deal_asks), (.inr ⟨([107, 101, 101, 112] : List Nat).toArray⟩, .ref a_deal_keep), (.inr ⟨([114, 105, 110, 103, 115] : List Nat).toArray⟩, .ref a_deal_rings), (.inr ⟨([116, 117, 114, 110, 115] : List Nat).toArray⟩, .ref a_deal_turns)] := sdk_of zd_TOLD zs_TOLD (by rw [ze_TOLD]; exact (.cons (by first | exact keyIs_int _ _ | exact keyIs_str _ _) rfl (by first | exact ⟨_, rfl⟩ | exact rfl) (.cons (by first | exact keyIs_int _ _ | exact keyIs_str _ _) rfl (by first | exact ⟨_, rfl⟩ | exact rfl) (.cons (by first | exact keyIs_int _ _ | exact keyIs_str _ _) rfl (by first | exact ⟨_, rfl⟩ | exact rfl) (.cons (by first | exact keyIs_int _ _ | exact keyIs_str _ _) rfl (by first | exact ⟨_, rfl⟩ | exact rfl) .nil))))) (show List.Nodup ([.inr ⟨([97, 115, 107, 115] : List Nat).toArray⟩, .inr ⟨([107, 101, 101, 112] : List Nat).toArray⟩, .inr ⟨([114, 105, 110, 103, 115] : List Nat).toArray⟩, .inr ⟨([116, 117, 114, 110, 115] : List Nat).toArray⟩] : List Key) from by decide +kernel)
  have R_TOLD : TabR K (F1 w [a_deal_asks, a_deal_keep, a_deal_rings, a_deal_turns]) [(.inr ⟨([97, 115, 107, 115] : List Nat).toArray⟩, .ref a_deal_asks), (.inr ⟨([107, 101, 101, 112] : List Nat).toArray⟩, .ref a_deal_keep), (.inr ⟨([114, 105, 110, 103, 115] : List Nat).toArray⟩, .ref a_deal_rings), (.inr ⟨([116, 117, 114, 110, 115] : List Nat).toArray⟩, .ref a_deal_turns)] tb_TOLD := (.cons rfl (fun m H => by first | exact .int _ | exact .fn rfl) (.cons rfl (fun m H => by first | exact .int _ | exact .fn rfl) (.cons rfl (fun m H => by first | exact .int _ | exact .fn rfl) (.cons rfl (fun m H => by first | exact .int _ | exact .fn rfl) .nil))))
  have Tx : Txt l.prog w K mg [a_deal_asks, a_deal_keep, a_deal_rings, a_deal_turns] aP ad_CHOICES [(.inl 4, .int 2), (.inl 216, .int 6)] ad_TOLD [(.inr ⟨([97, 115, 107, 115] : List Nat).toArray⟩, .ref a_deal_asks), (.inr ⟨([107, 101, 101, 112] : List Nat).toArray⟩, .ref a_deal_keep), (.inr ⟨([114, 105, 110, 103, 115] : List Nat).toArray⟩, .ref a_deal_rings), (.inr ⟨([116, 117, 114, 110, 115] : List Nat).toArray⟩, .ref a_deal_turns)] := ⟨PySem.W.mg_none_of X G z_all, PySem.W.mg_none_of X G z_any, PySem.W.mg_none_of X G z_bool, PySem.W.mg_none_of X G z_enumerate, PySem.W.mg_none_of X G z_int, PySem.W.mg_none_of X G z_isinstance, PySem.W.mg_none_of X G z_len, PySem.W.mg_none_of X G z_list, PySem.W.mg_none_of X G z_range, PySem.W.mg_none_of X G z_set, PySem.W.mg_none_of X G z_sorted, PySem.W.mg_none_of X G z_str, PySem.W.mg_none_of X G z_tuple, PySem.W.mg_none_of X G z_type, PySem.W.mg_none_of X G z_zip, PySem.W.mg_of X G zpm, PySem.W.mg_of X G zcb, PySem.W.mg_of X G zpp, ⟨_, _, _, ⟨zlp, rfl, rfl, (show 2 ≤ sizeLine from by decide), .cons ⟨_, rfl⟩ (.cons ⟨_, rfl⟩ .nil)⟩, rfl⟩, PySem.W.mg_of X G zm_CHOICES, S_CHOICES, R_CHOICES, PySem.W.mg_of X G zm_TOLD, S_TOLD, R_TOLD, rfl⟩
  have F_law_orders := fun_mk (st := s_law_orders) l_law_orders c_law_orders k_law_orders
  have G_law_orders : Gd K mg "_law_orders" s_law_orders N_law_orders a_law_orders _ := ⟨F_law_orders, PySem.W.mg_of X G m_law_orders_, k_law_orders, F_law_orders.binds (ps := N_law_orders) fun _ _ _ _ _ _ us hl => match us, hl with | [_], _ => rfl⟩
  have F_law_before := fun_mk (st := s_law_before) l_law_before c_law_before k_law_before
  have G_law_before : Gd K mg "_law_before" s_law_before N_law_before a_law_before _ := ⟨F_law_before, PySem.W.mg_of X G m_law_before_, k_law_before, F_law_before.binds (ps := N_law_before) fun _ _ _ _ _ _ us hl => match us, hl with | [_, _, _], _ => rfl⟩
  have F_law_gains := fun_mk (st := s_law_gains) l_law_gains c_law_gains k_law_gains
  have G_law_gains : Gd K mg "_law_gains" s_law_gains N_law_gains a_law_gains _ := ⟨F_law_gains, PySem.W.mg_of X G m_law_gains_, k_law_gains, F_law_gains.binds (ps := N_law_gains) fun _ _ _ _ _ _ us hl => match us, hl with | [_, _, _, _], _ => rfl⟩
  have F_law_blocker := fun_mk (st := s_law_blocker) l_law_blocker c_law_blocker k_law_blocker
  have G_law_blocker : Gd K mg "_law_blocker" s_law_blocker N_law_blocker a_law_blocker _ := ⟨F_law_blocker, PySem.W.mg_of X G m_law_blocker_, k_law_blocker, F_law_blocker.binds (ps := N_law_blocker) fun _ _ _ _ _ _ us hl => match us, hl with | [_, _], _ => rfl⟩
  have F_law_dealt := fun_mk (st := s_law_dealt) l_law_dealt c_law_dealt k_law_dealt
  have G_law_dealt : Gd K mg "_law_dealt" s_law_dealt N_law_dealt a_law_dealt _ := ⟨F_law_dealt, PySem.W.mg_of X G m_law_dealt_, k_law_dealt, F_law_dealt.binds (ps := N_law_dealt) fun _ _ _ _ _ _ us hl => match us, hl with | [_, _], _ => rfl⟩
  have F_law_rows := fun_mk (st := s_law_rows) l_law_rows c_law_rows k_law_rows
  have G_law_rows : Gd K mg "_law_rows" s_law_rows N_law_rows a_law_rows _ := ⟨F_law_rows, PySem.W.mg_of X G m_law_rows_, k_law_rows, F_law_rows.binds (ps := N_law_rows) fun _ _ _ _ _ _ us hl => match us, hl with | [_], _ => rfl⟩
  have F_law_told := fun_mk (st := s_law_told) l_law_told c_law_told k_law_told
  have G_law_told : Gd K mg "_law_told" s_law_told N_law_told a_law_told _ := ⟨F_law_told, PySem.W.mg_of X G m_law_told_, k_law_told, F_law_told.binds (ps := N_law_told) fun _ _ _ _ _ _ us hl => match us, hl with | [_, _], _ => rfl⟩
  have F_law_alike := fun_mk (st := s_law_alike) l_law_alike c_law_alike k_law_alike
  have G_law_alike : Gd K mg "_law_alike" s_law_alike N_law_alike a_law_alike _ := ⟨F_law_alike, PySem.W.mg_of X G m_law_alike_, k_law_alike, F_law_alike.binds (ps := N_law_alike) fun _ _ _ _ _ _ us hl => match us, hl with | [_, _], _ => rfl⟩
  have F_law_taken := fun_mk (st := s_law_taken) l_law_taken c_law_taken k_law_taken
  have G_law_taken : Gd K mg "_law_taken" s_law_taken N_law_taken a_law_taken _ := ⟨F_law_taken, PySem.W.mg_of X G m_law_taken_, k_law_taken, F_law_taken.binds (ps := N_law_taken) fun _ _ _ _ _ _ us hl => match us, hl with | [_, _], _ => rfl⟩
  have F_law_pick := fun_mk (st := s_law_pick) l_law_pick c_law_pick k_law_pick
  have G_law_pick : Gd K mg "_law_pick" s_law_pick N_law_pick a_law_pick _ := ⟨F_law_pick, PySem.W.mg_of X G m_law_pick_, k_law_pick, F_law_pick.binds (ps := N_law_pick) fun _ _ _ _ _ _ us hl => match us, hl with | [_, _], _ => rfl⟩
  have F_is_below := fun_mk (st := s_is_below) l_is_below c_is_below k_is_below
  have G_is_below : Gd K mg "is_below" s_is_below N_is_below a_is_below _ := ⟨F_is_below, PySem.W.mg_of X G m_is_below_, k_is_below, F_is_below.binds (ps := N_is_below) fun _ _ _ _ _ _ us hl => match us, hl with | [_, _], _ => rfl⟩
  have F_check_rule := fun_mk (st := s_check_rule) l_check_rule c_check_rule k_check_rule
  have G_check_rule : Gd K mg "check_rule" s_check_rule N_check_rule a_check_rule _ := ⟨F_check_rule, PySem.W.mg_of X G m_check_rule_, k_check_rule, F_check_rule.binds (ps := N_check_rule) fun _ _ _ _ _ _ us hl => match us, hl with | [_], _ => rfl⟩
  have F_is_order := fun_mk (st := s_is_order) l_is_order c_is_order k_is_order
  have G_is_order : Gd K mg "is_order" s_is_order N_is_order a_is_order _ := ⟨F_is_order, PySem.W.mg_of X G m_is_order_, k_is_order, F_is_order.binds (ps := N_is_order) fun _ _ _ _ _ _ us hl => match us, hl with | [_, _], _ => rfl⟩
  have F_is_row := fun_mk (st := s_is_row) l_is_row c_is_row k_is_row
  have G_is_row : Gd K mg "is_row" s_is_row N_is_row a_is_row _ := ⟨F_is_row, PySem.W.mg_of X G m_is_row_, k_is_row, F_is_row.binds (ps := N_is_row) fun _ _ _ _ _ _ us hl => match us, hl with | [_, _], _ => rfl⟩
  have F_check_row := fun_mk (st := s_check_row) l_check_row c_check_row k_check_row
  have G_check_row : Gd K mg "check_row" s_check_row N_check_row a_check_row _ := ⟨F_check_row, PySem.W.mg_of X G m_check_row_, k_check_row, F_check_row.binds (ps := N_check_row) fun _ _ _ _ _ _ us hl => match us, hl with | [_], _ => rfl⟩
  have F_check_alike := fun_mk (st := s_check_alike) l_check_alike c_check_alike k_check_alike
  have G_check_alike : Gd K mg "check_alike" s_check_alike N_check_alike a_check_alike _ := ⟨F_check_alike, PySem.W.mg_of X G m_check_alike_, k_check_alike, F_check_alike.binds (ps := N_check_alike) fun _ _ _ _ _ _ us hl => match us, hl with | [_, _], _ => rfl⟩
  have F_check_person := fun_mk (st := s_check_person) l_check_person c_check_person k_check_person
  have G_check_person : Gd K mg "check_person" s_check_person N_check_person a_check_person _ := ⟨F_check_person, PySem.W.mg_of X G m_check_person_, k_check_person, F_check_person.binds (ps := N_check_person) fun _ _ _ _ _ _ us hl => match us, hl with | [_, _], _ => rfl⟩
  have F_count_people := fun_mk (st := s_count_people) l_count_people c_count_people k_count_people
  have G_count_people : Gd K mg "count_people" s_count_people N_count_people a_count_people _ := ⟨F_count_people, PySem.W.mg_of X G m_count_people_, k_count_people, F_count_people.binds (ps := N_count_people) fun _ _ _ _ _ _ us hl => match us, hl with | [_], _ => rfl⟩
  have F_check_people := fun_mk (st := s_check_people) l_check_people c_check_people k_check_people
  have G_check_people : Gd K mg "check_people" s_check_people N_check_people a_check_people _ := ⟨F_check_people, PySem.W.mg_of X G m_check_people_, k_check_people, F_check_people.binds (ps := N_check_people) fun _ _ _ _ _ _ us hl => match us, hl with | [_], _ => rfl⟩
  have F_dealings := fun_mk (st := s_dealings) l_dealings c_dealings k_dealings
  have G_dealings : Gd K mg "dealings" s_dealings N_dealings a_dealings _ := ⟨F_dealings, PySem.W.mg_of X G m_dealings_, k_dealings, F_dealings.binds (ps := N_dealings) fun _ _ _ _ _ _ us hl => match us, hl with | [_], _ => rfl⟩
  have F_rows_of := fun_mk (st := s_rows_of) l_rows_of c_rows_of k_rows_of
  have G_rows_of : Gd K mg "rows_of" s_rows_of N_rows_of a_rows_of _ := ⟨F_rows_of, PySem.W.mg_of X G m_rows_of_, k_rows_of, F_rows_of.binds (ps := N_rows_of) fun _ _ _ _ _ _ us hl => match us, hl with | [_], _ => rfl⟩
  have F_rows := fun_mk (st := s_rows) l_rows c_rows k_rows
  have G_rows : Gd K mg "rows" s_rows N_rows a_rows _ := ⟨F_rows, PySem.W.mg_of X G m_rows_, k_rows, F_rows.binds (ps := N_rows) fun _ _ _ _ _ _ us hl => match us, hl with | [_], _ => rfl⟩
  have F_deals_of := fun_mk (st := s_deals_of) l_deals_of c_deals_of k_deals_of
  have G_deals_of : Gd K mg "deals_of" s_deals_of N_deals_of a_deals_of _ := ⟨F_deals_of, PySem.W.mg_of X G m_deals_of_, k_deals_of, F_deals_of.binds (ps := N_deals_of) fun _ _ _ _ _ _ us hl => match us, hl with | [_], _ => rfl⟩
  have F_replaced := fun_mk (st := s_replaced) l_replaced c_replaced k_replaced
  have G_replaced : Gd K mg "replaced" s_replaced N_replaced a_replaced _ := ⟨F_replaced, PySem.W.mg_of X G m_replaced_, k_replaced, F_replaced.binds (ps := N_replaced) fun _ _ _ _ _ _ us hl => match us, hl with | [_, _, _], _ => rfl⟩
  have F_lies := fun_mk (st := s_lies) l_lies c_lies k_lies
  have G_lies : Gd K mg "lies" s_lies N_lies a_lies _ := ⟨F_lies, PySem.W.mg_of X G m_lies_, k_lies, F_lies.binds (ps := N_lies) fun _ _ _ _ _ _ us hl => match us, hl with | [_, _, _], _ => rfl⟩
  have F_law_names := fun_mk (st := s_law_names) l_law_names c_law_names k_law_names
  have G_law_names : Gd K mg "_law_names" s_law_names N_law_names a_law_names _ := ⟨F_law_names, PySem.W.mg_of X G m_law_names_, k_law_names, F_law_names.binds (ps := N_law_names) fun _ _ _ _ _ _ us hl => match us, hl with | [], _ => rfl⟩
  have F_names := fun_mk (st := s_names) l_names c_names k_names
  have G_names : Gd K mg "names" s_names N_names a_names _ := ⟨F_names, PySem.W.mg_of X G m_names_, k_names, F_names.binds (ps := N_names) fun _ _ _ _ _ _ us hl => match us, hl with | [], _ => rfl⟩
  have F_is_boss := fun_mk (st := s_is_boss) l_is_boss c_is_boss k_is_boss
  have G_is_boss : Gd K mg "is_boss" s_is_boss N_is_boss a_is_boss _ := ⟨F_is_boss, PySem.W.mg_of X G m_is_boss_, k_is_boss, F_is_boss.binds (ps := N_is_boss) fun _ _ _ _ _ _ us hl => match us, hl with | [_, _], _ => rfl⟩
  have F_bosses := fun_mk (st := s_bosses) l_bosses c_bosses k_bosses
  have G_bosses : Gd K mg "bosses" s_bosses N_bosses a_bosses _ := ⟨F_bosses, PySem.W.mg_of X G m_bosses_, k_bosses, F_bosses.binds (ps := N_bosses) fun _ _ _ _ _ _ us hl => match us, hl with | [_], _ => rfl⟩
  have F_deal_asks := fun_mk (st := s_deal_asks) l_deal_asks c_deal_asks k_deal_asks
  have G_deal_asks : Gd K mg "deal_asks" s_deal_asks N_deal_asks a_deal_asks _ := ⟨F_deal_asks, PySem.W.mg_of X G m_deal_asks_, k_deal_asks, F_deal_asks.binds (ps := N_deal_asks) fun _ _ _ _ _ _ us hl => match us, hl with | [_], _ => rfl⟩
  have F_deal_keep := fun_mk (st := s_deal_keep) l_deal_keep c_deal_keep k_deal_keep
  have G_deal_keep : Gd K mg "deal_keep" s_deal_keep N_deal_keep a_deal_keep _ := ⟨F_deal_keep, PySem.W.mg_of X G m_deal_keep_, k_deal_keep, F_deal_keep.binds (ps := N_deal_keep) fun _ _ _ _ _ _ us hl => match us, hl with | [_], _ => rfl⟩
  have F_check_dealing := fun_mk (st := s_check_dealing) l_check_dealing c_check_dealing k_check_dealing
  have G_check_dealing : Gd K mg "check_dealing" s_check_dealing N_check_dealing a_check_dealing _ := ⟨F_check_dealing, PySem.W.mg_of X G m_check_dealing_, k_check_dealing, F_check_dealing.binds (ps := N_check_dealing) fun _ _ _ _ _ _ us hl => match us, hl with | [_], _ => rfl⟩
  have F_groups := fun_mk (st := s_groups) l_groups c_groups k_groups
  have G_groups : Gd K mg "groups" s_groups N_groups a_groups _ := ⟨F_groups, PySem.W.mg_of X G m_groups_, k_groups, F_groups.binds (ps := N_groups) fun _ _ _ _ _ _ us hl => match us, hl with | [_], _ => rfl⟩
  have F_is_within := fun_mk (st := s_is_within) l_is_within c_is_within k_is_within
  have G_is_within : Gd K mg "is_within" s_is_within N_is_within a_is_within _ := ⟨F_is_within, PySem.W.mg_of X G m_is_within_, k_is_within, F_is_within.binds (ps := N_is_within) fun _ _ _ _ _ _ us hl => match us, hl with | [_, _], _ => rfl⟩
  have F_is_better := fun_mk (st := s_is_better) l_is_better c_is_better k_is_better
  have G_is_better : Gd K mg "is_better" s_is_better N_is_better a_is_better _ := ⟨F_is_better, PySem.W.mg_of X G m_is_better_, k_is_better, F_is_better.binds (ps := N_is_better) fun _ _ _ _ _ _ us hl => match us, hl with | [_, _, _, _], _ => rfl⟩
  have F_blocks := fun_mk (st := s_blocks) l_blocks c_blocks k_blocks
  have G_blocks : Gd K mg "blocks" s_blocks N_blocks a_blocks _ := ⟨F_blocks, PySem.W.mg_of X G m_blocks_, k_blocks, F_blocks.binds (ps := N_blocks) fun _ _ _ _ _ _ us hl => match us, hl with | [_, _, _], _ => rfl⟩
  have F_blocking_group := fun_mk (st := s_blocking_group) l_blocking_group c_blocking_group k_blocking_group
  have G_blocking_group : Gd K mg "blocking_group" s_blocking_group N_blocking_group a_blocking_group _ := ⟨F_blocking_group, PySem.W.mg_of X G m_blocking_group_, k_blocking_group, F_blocking_group.binds (ps := N_blocking_group) fun _ _ _ _ _ _ us hl => match us, hl with | [_, _], _ => rfl⟩
  have F_deal_rings := fun_mk (st := s_deal_rings) l_deal_rings c_deal_rings k_deal_rings
  have G_deal_rings : Gd K mg "deal_rings" s_deal_rings N_deal_rings a_deal_rings _ := ⟨F_deal_rings, PySem.W.mg_of X G m_deal_rings_, k_deal_rings, F_deal_rings.binds (ps := N_deal_rings) fun _ _ _ _ _ _ us hl => match us, hl with | [_], _ => rfl⟩
  have F_deal_turns := fun_mk (st := s_deal_turns) l_deal_turns c_deal_turns k_deal_turns
  have G_deal_turns : Gd K mg "deal_turns" s_deal_turns N_deal_turns a_deal_turns _ := ⟨F_deal_turns, PySem.W.mg_of X G m_deal_turns_, k_deal_turns, F_deal_turns.binds (ps := N_deal_turns) fun _ _ _ _ _ _ us hl => match us, hl with | [_], _ => rfl⟩
  have F_told_rule := fun_mk (st := s_told_rule) l_told_rule c_told_rule k_told_rule
  have G_told_rule : Gd K mg "told_rule" s_told_rule N_told_rule a_told_rule _ := ⟨F_told_rule, PySem.W.mg_of X G m_told_rule_, k_told_rule, F_told_rule.binds (ps := N_told_rule) fun _ _ _ _ _ _ us hl => match us, hl with | [_, _], _ => rfl⟩
  have F_dealt := fun_mk (st := s_dealt) l_dealt c_dealt k_dealt
  have G_dealt : Gd K mg "dealt" s_dealt N_dealt a_dealt _ := ⟨F_dealt, PySem.W.mg_of X G m_dealt_, k_dealt, F_dealt.binds (ps := N_dealt) fun _ _ _ _ _ _ us hl => match us, hl with | [_, _], _ => rfl⟩
  have F_law := fun_mk (st := s_law) l_law c_law k_law
  have G_law : Gd K mg "law" s_law N_law _ _ := ⟨F_law, PySem.W.mg_of X G m_law_, k_law, F_law.binds (ps := N_law) fun _ _ _ _ _ _ us hl => match us, hl with | [_], _ => rfl⟩
  refine ⟨PySem.W.fnOf "law" "law" (defArgs s_law) (defBody s_law) (defScope s_law) .none kV_law dc_law pm_law an_law cd_law ct_law, fun s v => .of_eq rfl, fun base _ _ => ?_⟩
  have O_law_orders := ok_law_orders (P := l.prog) (w := w) (base := base) G_law_orders Tx
  have O_law_before := ok_law_before (P := l.prog) (w := w) (base := base) G_law_before Tx
  have O_law_gains := ok_law_gains (P := l.prog) (w := w) (base := base) G_law_gains Tx G_law_before O_law_before
  have O_law_blocker := ok_law_blocker (P := l.prog) (w := w) (base := base) G_law_blocker Tx G_law_orders O_law_orders G_law_gains O_law_gains
  have O_law_dealt := ok_law_dealt (P := l.prog) (w := w) (base := base) G_law_dealt Tx G_law_orders O_law_orders G_law_blocker O_law_blocker
  have O_law_rows := ok_law_rows (P := l.prog) (w := w) (base := base) G_law_rows Tx G_law_orders O_law_orders
  have O_law_told := ok_law_told (P := l.prog) (w := w) (base := base) G_law_told Tx G_law_orders O_law_orders G_law_dealt O_law_dealt G_law_rows O_law_rows
  have O_law_alike := ok_law_alike (P := l.prog) (w := w) (base := base) G_law_alike Tx 8 (by omega)
  have O_law_taken := ok_law_taken (P := l.prog) (w := w) (base := base) G_law_taken Tx
  have O_law_pick := ok_law_pick (P := l.prog) (w := w) (base := base) G_law_pick Tx G_law_taken O_law_taken
  have O_is_below := ok_is_below (P := l.prog) (w := w) (base := base) G_is_below Tx
  have O_check_rule := ok_check_rule (P := l.prog) (w := w) (base := base) G_check_rule Tx G_is_below O_is_below
  have O_is_order := ok_is_order (P := l.prog) (w := w) (base := base) G_is_order Tx G_is_below O_is_below
  have O_is_row := ok_is_row (P := l.prog) (w := w) (base := base) G_is_row Tx G_is_order O_is_order
  have O_check_row := ok_check_row (P := l.prog) (w := w) (base := base) G_check_row Tx G_is_row O_is_row
  have O_check_alike := ok_check_alike (P := l.prog) (w := w) (base := base) G_check_alike Tx
  have O_check_person := ok_check_person (P := l.prog) (w := w) (base := base) G_check_person Tx G_is_below O_is_below
  have O_count_people := ok_count_people (P := l.prog) (w := w) (base := base) G_count_people Tx G_check_rule O_check_rule
  have O_check_people := ok_check_people (P := l.prog) (w := w) (base := base) G_check_people Tx
  have O_dealings := ok_dealings (P := l.prog) (w := w) (base := base) G_dealings Tx G_check_people O_check_people
  have O_rows_of := ok_rows_of (P := l.prog) (w := w) (base := base) G_rows_of Tx
  have O_rows := ok_rows (P := l.prog) (w := w) (base := base) G_rows Tx G_rows_of O_rows_of G_dealings O_dealings
  have O_deals_of := ok_deals_of (P := l.prog) (w := w) (base := base) G_deals_of Tx G_count_people O_count_people G_dealings O_dealings G_rows O_rows
  have O_replaced := ok_replaced (P := l.prog) (w := w) (base := base) G_replaced Tx
  have O_lies := ok_lies (P := l.prog) (w := w) (base := base) G_lies Tx G_check_rule O_check_rule G_check_row O_check_row G_check_alike O_check_alike G_check_person O_check_person G_deals_of O_deals_of G_dealings O_dealings G_count_people O_count_people G_replaced O_replaced
  have O_law_names := ok_law_names (P := l.prog) (w := w) (base := base) G_law_names Tx
  have O_names := ok_names (P := l.prog) (w := w) (base := base) G_names Tx
  have O_is_boss := ok_is_boss (P := l.prog) (w := w) (base := base) G_is_boss Tx
  have O_bosses := ok_bosses (P := l.prog) (w := w) (base := base) G_bosses Tx G_count_people O_count_people G_deals_of O_deals_of G_is_boss O_is_boss
  have O_deal_asks := ok_deal_asks (P := l.prog) (w := w) (base := base) G_deal_asks Tx
  have O_deal_keep := ok_deal_keep (P := l.prog) (w := w) (base := base) G_deal_keep Tx
  have O_check_dealing := ok_check_dealing (P := l.prog) (w := w) (base := base) G_check_dealing Tx G_is_order O_is_order
  have O_groups := ok_groups (P := l.prog) (w := w) (base := base) G_groups Tx
  have O_is_within := ok_is_within (P := l.prog) (w := w) (base := base) G_is_within Tx
  have O_is_better := ok_is_better (P := l.prog) (w := w) (base := base) G_is_better Tx
  have O_blocks := ok_blocks (P := l.prog) (w := w) (base := base) G_blocks Tx G_dealings O_dealings G_is_within O_is_within G_is_better O_is_better
  have O_blocking_group := ok_blocking_group (P := l.prog) (w := w) (base := base) G_blocking_group Tx G_check_row O_check_row G_check_dealing O_check_dealing G_check_alike O_check_alike G_groups O_groups G_blocks O_blocks
  have O_deal_rings := ok_deal_rings (P := l.prog) (w := w) (base := base) G_deal_rings Tx G_dealings O_dealings G_blocking_group O_blocking_group
  have O_deal_turns := ok_deal_turns (P := l.prog) (w := w) (base := base) G_deal_turns Tx
  have O_told_rule := ok_told_rule (P := l.prog) (w := w) (base := base) G_told_rule Tx G_check_people O_check_people G_names O_names G_dealings O_dealings G_rows O_rows G_deal_asks O_deal_asks G_deal_keep O_deal_keep G_deal_rings O_deal_rings G_deal_turns O_deal_turns rfl
  have O_dealt := ok_dealt (P := l.prog) (w := w) (base := base) G_dealt Tx G_check_rule O_check_rule G_check_row O_check_row G_check_alike O_check_alike G_count_people O_count_people G_deals_of O_deals_of
  exact ok_law G_law Tx G_law_told O_law_told G_law_alike O_law_alike G_law_pick O_law_pick G_law_rows O_law_rows G_law_orders O_law_orders G_law_taken O_law_taken G_lies O_lies G_law_names O_law_names G_names O_names G_bosses O_bosses G_told_rule O_told_rule G_dealt O_dealt G_count_people O_count_people G_law_before O_law_before law_all
theorem walk {l : PySem.W.OpenLaw} {q : Program} {loose : List Str} {XP : (Str → Option Value) → Heap → Prop} {YP : World → Heap → Prop} {d : DefRec} {K : Params → PySem.W.Frag} (hn : l.most = some 63) (hdf : d.params.defaults = [])
    (hY : ∀ (w : World) (h : Heap), YP w h → (K w.params).In h)
    (F : ∀ (w : World) (mg : Str → Option Value) (fa : Addr) (h : Heap), (K w.params).In h → h.Ns mainGlobals mg → mg d.name = some (.ref fa) → ∃ fd : FuncData, (∀ (s : Shared) (u : Value), BindsTo s fd ⟨[u], []⟩ [("script", u)]) ∧ ∀ base : Heap, (K w.params).In base → base.Ns mainGlobals mg → FnOk l.prog w (K w.params) mg base CX0 10 fa fd ["script"] (spLaw (K w.params))) :
    PySem.W.WalkO q loose XP YP l.row.toRowW d [] (fun f vs => PySem.call f vs) :=
  L2.walk_of (n := 63) (k := 10) (x := "script") (CX := fun _ => CX0) (sp := fun w => spLaw (K w.params)) hn (by decide) hdf ⟨rfl, by decide, by decide⟩ hY F (fun _ _ a ns hl _ hS => ⟨a, ns, rfl, hS, hl, fun _ => rfl⟩) fun _ _ _ _ _ z => z
end Zl
open PySem PySem.W PyProof.Rows in
set_option maxRecDepth 100000 in
set_option maxHeartbeats 0 in
theorem PySem.Challenge.cw_dealclashes_k01_whole_rules_holds : PySem.Challenge.rw_dealclashes_k01_whole_rules.Holds := by
  w_on; o_law; k_head; (case hw => w_witness2)
  k_fill
  refine Zl.walk (l := PySem.Challenge.rw_dealclashes_k01_whole_rules) rfl rfl (fun w h Y => PySem.W.kIn_of Y) ?F
  case F =>
    intro w mg fa h KX G hmg
    refine' Zl.all_mk KX G hmg ?m_law_orders_ ?l_law_orders ?c_law_orders ?k_law_orders ?m_law_before_ ?l_law_before ?c_law_before ?k_law_before ?m_law_gains_ ?l_law_gains ?c_law_gains ?k_law_gains ?m_law_blocker_ ?l_law_blocker ?c_law_blocker ?k_law_blocker ?m_law_dealt_ ?l_law_dealt ?c_law_dealt ?k_law_dealt ?m_law_rows_ ?l_law_rows ?c_law_rows ?k_law_rows ?m_law_told_ ?l_law_told ?c_law_told ?k_law_told ?m_law_alike_ ?l_law_alike ?c_law_alike ?k_law_alike ?m_law_taken_ ?l_law_taken ?c_law_taken ?k_law_taken ?m_law_pick_ ?l_law_pick ?c_law_pick ?k_law_pick ?m_is_below_ ?l_is_below ?c_is_below ?k_is_below ?m_check_rule_ ?l_check_rule ?c_check_rule ?k_check_rule ?m_is_order_ ?l_is_order ?c_is_order ?k_is_order ?m_is_row_ ?l_is_row ?c_is_row ?k_is_row ?m_check_row_ ?l_check_row ?c_check_row ?k_check_row ?m_check_alike_ ?l_check_alike ?c_check_alike ?k_check_alike ?m_check_person_ ?l_check_person ?c_check_person ?k_check_person ?m_count_people_ ?l_count_people ?c_count_people ?k_count_people ?m_check_people_ ?l_check_people ?c_check_people ?k_check_people ?m_dealings_ ?l_dealings ?c_dealings ?k_dealings ?m_rows_of_ ?l_rows_of ?c_rows_of ?k_rows_of ?m_rows_ ?l_rows ?c_rows ?k_rows ?m_deals_of_ ?l_deals_of ?c_deals_of ?k_deals_of ?m_replaced_ ?l_replaced ?c_replaced ?k_replaced ?m_lies_ ?l_lies ?c_lies ?k_lies ?m_law_names_ ?l_law_names ?c_law_names ?k_law_names ?m_names_ ?l_names ?c_names ?k_names ?m_is_boss_ ?l_is_boss ?c_is_boss ?k_is_boss ?m_bosses_ ?l_bosses ?c_bosses ?k_bosses ?m_deal_asks_ ?l_deal_asks ?c_deal_asks ?k_deal_asks ?m_deal_keep_ ?l_deal_keep ?c_deal_keep ?k_deal_keep ?m_check_dealing_ ?l_check_dealing ?c_check_dealing ?k_check_dealing ?m_groups_ ?l_groups ?c_groups ?k_groups ?m_is_within_ ?l_is_within ?c_is_within ?k_is_within ?m_is_better_ ?l_is_better ?c_is_better ?k_is_better ?m_blocks_ ?l_blocks ?c_blocks ?k_blocks ?m_blocking_group_ ?l_blocking_group ?c_blocking_group ?k_blocking_group ?m_deal_rings_ ?l_deal_rings ?c_deal_rings ?k_deal_rings ?m_deal_turns_ ?l_deal_turns ?c_deal_turns ?k_deal_turns ?m_told_rule_ ?l_told_rule ?c_told_rule ?k_told_rule ?m_dealt_ ?l_dealt ?c_dealt ?k_dealt ?m_law_ ?l_law ?c_law ?k_law ?z_all ?z_any ?z_bool ?z_enumerate ?z_int ?z_isinstance ?z_len ?z_list ?z_range ?z_set ?z_sorted ?z_str ?z_tuple ?z_type ?z_zip ?zpm ?zcb ?zpp ?zlp ?zm_CHOICES ?zd_CHOICES ?zm_TOLD ?zd_TOLD ?ze_CHOICES ?zs_CHOICES ?ze_TOLD ?zs_TOLD
    (case m_law_orders_ => k_is)
    (case l_law_orders => k_is)
    (case c_law_orders => k_is)
    (case k_law_orders => k_is)
    (case m_law_before_ => k_is)
    (case l_law_before => k_is)
    (case c_law_before => k_is)
    (case k_law_before => k_is)
    (case m_law_gains_ => k_is)
    (case l_law_gains => k_is)
    (case c_law_gains => k_is)
    (case k_law_gains => k_is)
    (case m_law_blocker_ => k_is)
    (case l_law_blocker => k_is)
    (case c_law_blocker => k_is)
    (case k_law_blocker => k_is)
    (case m_law_dealt_ => k_is)
    (case l_law_dealt => k_is)
    (case c_law_dealt => k_is)
    (case k_law_dealt => k_is)
    (case m_law_rows_ => k_is)
    (case l_law_rows => k_is)
    (case c_law_rows => k_is)
    (case k_law_rows => k_is)
    (case m_law_told_ => k_is)
    (case l_law_told => k_is)
    (case c_law_told => k_is)
    (case k_law_told => k_is)
    (case m_law_alike_ => k_is)
    (case l_law_alike => k_is)
    (case c_law_alike => k_is)
    (case k_law_alike => k_is)
    (case m_law_taken_ => k_is)
    (case l_law_taken => k_is)
    (case c_law_taken => k_is)
    (case k_law_taken => k_is)
    (case m_law_pick_ => k_is)
    (case l_law_pick => k_is)
    (case c_law_pick => k_is)
    (case k_law_pick => k_is)
    (case m_is_below_ => k_is)
    (case l_is_below => k_is)
    (case c_is_below => k_is)
    (case k_is_below => k_is)
    (case m_check_rule_ => k_is)
    (case l_check_rule => k_is)
    (case c_check_rule => k_is)
    (case k_check_rule => k_is)
    (case m_is_order_ => k_is)
    (case l_is_order => k_is)
    (case c_is_order => k_is)
    (case k_is_order => k_is)
    (case m_is_row_ => k_is)
    (case l_is_row => k_is)
    (case c_is_row => k_is)
    (case k_is_row => k_is)
    (case m_check_row_ => k_is)
    (case l_check_row => k_is)
    (case c_check_row => k_is)
    (case k_check_row => k_is)
    (case m_check_alike_ => k_is)
    (case l_check_alike => k_is)
    (case c_check_alike => k_is)
    (case k_check_alike => k_is)
    (case m_check_person_ => k_is)
    (case l_check_person => k_is)
    (case c_check_person => k_is)
    (case k_check_person => k_is)
    (case m_count_people_ => k_is)
    (case l_count_people => k_is)
    (case c_count_people => k_is)
    (case k_count_people => k_is)
    (case m_check_people_ => k_is)
    (case l_check_people => k_is)
    (case c_check_people => k_is)
    (case k_check_people => k_is)
    (case m_dealings_ => k_is)
    (case l_dealings => k_is)
    (case c_dealings => k_is)
    (case k_dealings => k_is)
    (case m_rows_of_ => k_is)
    (case l_rows_of => k_is)
    (case c_rows_of => k_is)
    (case k_rows_of => k_is)
    (case m_rows_ => k_is)
    (case l_rows => k_is)
    (case c_rows => k_is)
    (case k_rows => k_is)
    (case m_deals_of_ => k_is)
    (case l_deals_of => k_is)
    (case c_deals_of => k_is)
    (case k_deals_of => k_is)
    (case m_replaced_ => k_is)
    (case l_replaced => k_is)
    (case c_replaced => k_is)
    (case k_replaced => k_is)
    (case m_lies_ => k_is)
    (case l_lies => k_is)
    (case c_lies => k_is)
    (case k_lies => k_is)
    (case m_law_names_ => k_is)
    (case l_law_names => k_is)
    (case c_law_names => k_is)
    (case k_law_names => k_is)
    (case m_names_ => k_is)
    (case l_names => k_is)
    (case c_names => k_is)
    (case k_names => k_is)
    (case m_is_boss_ => k_is)
    (case l_is_boss => k_is)
    (case c_is_boss => k_is)
    (case k_is_boss => k_is)
    (case m_bosses_ => k_is)
    (case l_bosses => k_is)
    (case c_bosses => k_is)
    (case k_bosses => k_is)
    (case m_deal_asks_ => k_is)
    (case l_deal_asks => k_is)
    (case c_deal_asks => k_is)
    (case k_deal_asks => k_is)
    (case m_deal_keep_ => k_is)
    (case l_deal_keep => k_is)
    (case c_deal_keep => k_is)
    (case k_deal_keep => k_is)
    (case m_check_dealing_ => k_is)
    (case l_check_dealing => k_is)
    (case c_check_dealing => k_is)
    (case k_check_dealing => k_is)
    (case m_groups_ => k_is)
    (case l_groups => k_is)
    (case c_groups => k_is)
    (case k_groups => k_is)
    (case m_is_within_ => k_is)
    (case l_is_within => k_is)
    (case c_is_within => k_is)
    (case k_is_within => k_is)
    (case m_is_better_ => k_is)
    (case l_is_better => k_is)
    (case c_is_better => k_is)
    (case k_is_better => k_is)
    (case m_blocks_ => k_is)
    (case l_blocks => k_is)
    (case c_blocks => k_is)
    (case k_blocks => k_is)
    (case m_blocking_group_ => k_is)
    (case l_blocking_group => k_is)
    (case c_blocking_group => k_is)
    (case k_blocking_group => k_is)
    (case m_deal_rings_ => k_is)
    (case l_deal_rings => k_is)
    (case c_deal_rings => k_is)
    (case k_deal_rings => k_is)
    (case m_deal_turns_ => k_is)
    (case l_deal_turns => k_is)
    (case c_deal_turns => k_is)
    (case k_deal_turns => k_is)
    (case m_told_rule_ => k_is)
    (case l_told_rule => k_is)
    (case c_told_rule => k_is)
    (case k_told_rule => k_is)
    (case m_dealt_ => k_is)
    (case l_dealt => k_is)
    (case c_dealt => k_is)
    (case k_dealt => k_is)
    (case m_law_ => k_is)
    (case l_law => k_is)
    (case c_law => k_is)
    (case k_law => k_is)
    (case z_all => k_is)
    (case z_any => k_is)
    (case z_bool => k_is)
    (case z_enumerate => k_is)
    (case z_int => k_is)
    (case z_isinstance => k_is)
    (case z_len => k_is)
    (case z_list => k_is)
    (case z_range => k_is)
    (case z_set => k_is)
    (case z_sorted => k_is)
    (case z_str => k_is)
    (case z_tuple => k_is)
    (case z_type => k_is)
    (case z_zip => k_is)
    (case zpm => k_is)
    (case zcb => k_is)
    (case zpp => k_is)
    (case zlp => k_is)
    (case zm_CHOICES => k_is)
    (case zd_CHOICES => k_is)
    (case zm_TOLD => k_is)
    (case zd_TOLD => k_is)
    (case ze_CHOICES => rfl)
    (case zs_CHOICES => rfl)
    (case ze_TOLD => rfl)
    (case zs_TOLD => rfl)
