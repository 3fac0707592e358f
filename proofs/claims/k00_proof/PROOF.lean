import PyProof.Rows.All
import Wide.All
import OpenK.AllK
import Wide.FinOn
import PyProof.EqAt
import PyProof.EqKinds
import PyProof.TupleCall
import HandS.ForMost
import HandS.Walk
import HandS.TupAny
import HandS.More
import HandS.IsInst
import HandS.Deep
import HandS.TupSets
import HandS.Conv
import KE.KIndexOf
import HandS.SetFor
import KE.KSortedM
import HandS.RepeatKit
import HandS.ClsMeth
import HandS.Records
import HandS.Zip
import HandS.Style
import KE.GoesEnum
import PySem.Challenge.RW_dealclashes_k00_whole_rows
set_option Elab.async false
set_option linter.all false
set_option maxRecDepth 100000
/-! Z0: a shallow evaluator over the hand layer: values as trees, readings as functions that the kernel can run, draws as a tree. -/
namespace Zl
open PySem L2

inductive D where
  | non | bl (b : Bool) | int (i : Int) | str (s : List Nat) | ty (n : String) | fn (k : Nat)
  | tup (xs : List D) | lst (xs : List D)

/-- what comes of a piece of a program: a value, a draw from n numbers, nothing that is known -/
inductive T (α : Type) where
  | ret (a : α) | draw (n : Nat) (k : Nat → T α) | fail

def T.bind {α β : Type} : T α → (α → T β) → T β
  | .ret a, k => k a
  | .draw n f, k => .draw n fun i => (f i).bind k
  | .fail, _ => .fail
def T.all {α : Type} : T α → (α → Prop) → Prop
  | .ret a, P => P a
  | .draw n f, P => ∀ i, i < n → (f i).all P
  | .fail, _ => False
theorem T.all_mono {α : Type} {P Q : α → Prop} (h : ∀ a, P a → Q a) : ∀ {t : T α}, t.all P → t.all Q
  | .ret a, x => h a x
  | .draw _ f, x => fun i hi => T.all_mono h (t := f i) (x i hi)
  | .fail, x => x
theorem T.all_bind {α β : Type} {k : α → T β} {P : β → Prop} : ∀ {t : T α}, (t.bind k).all P → t.all fun a => (k a).all P
  | .ret _, x => x
  | .draw _ f, x => fun i hi => T.all_bind (t := f i) (x i hi)
  | .fail, x => x
theorem T.bind_all {α β : Type} {k : α → T β} {P : β → Prop} : ∀ {t : T α}, (t.all fun a => (k a).all P) → (t.bind k).all P
  | .ret _, x => x
  | .draw _ f, x => fun i hi => T.bind_all (t := f i) (x i hi)
  | .fail, x => x
def ofO {α : Type} : Option α → T α
  | some a => .ret a
  | none => .fail
theorem all_ofO {α : Type} {o : Option α} {P : α → Prop} (h : (ofO o).all P) : ∃ a, o = some a ∧ P a := by
  cases o with
  | none => exact h.elim
  | some a => exact ⟨a, rfl, h⟩

/-- what a slot holds: a value, the n-th list of the frame's own (it may turn), the draws' list -/
inductive SV where
  | v (d : D) | r (n : Nat) | row
abbrev Fr := List (Option SV)
/-- the frame's own lists -/
abbrev Hz := List (List D)

section
variable (K : PySem.W.Frag) (F : Nat → Option Addr)
/-- a static tuple -/
def StT (a : Addr) (xs : List V) : Prop :=
  ∃ (o : Obj) (its : Array Value) (n : Nat), (K.lookup a = some o ∧ o.cls = .type "tuple" ∧ o.data = .seq its n ∧ its.size ≤ sizeLine ∧ Vals xs its.toList) ∧ o.dict = none
/-- a tuple whose object is known to bear no dict -/
def TupO (H : Hp) (a : Addr) (xs : List V) : Prop := ∃ o, H a = some (.frz o (.tup xs)) ∧ o.dict = none
mutual
inductive Rep (m : List Addr) (H : Hp) : V → D → Prop
  | non : Rep m H .non .non
  | bl (b : Bool) : Rep m H (.bl b) (.bl b)
  | int (i : Int) : Rep m H (.int i) (.int i)
  | str (s : List Nat) : Rep m H (.str ⟨s.toArray⟩) (.str s)
  | ty (n : String) : Rep m H (.ty n) (.ty n)
  | fn {k : Nat} {a : Addr} : F k = some a → Rep m H (.ref a) (.fn k)
  | tup {a : Addr} {vs : List V} {ds : List D} : a ∉ m → TupO H a vs → Reps m H vs ds → Rep m H (.ref a) (.tup ds)
  | tupK {a : Addr} {vs : List V} {ds : List D} : StT K a vs → Reps m H vs ds → Rep m H (.ref a) (.tup ds)
  | lst {a : Addr} {vs : List V} {ds : List D} : a ∉ m → H a = some (.lst vs) → Reps m H vs ds → Rep m H (.ref a) (.lst ds)
inductive Reps (m : List Addr) (H : Hp) : List V → List D → Prop
  | nil : Reps m H [] []
  | cons {v : V} {vs : List V} {d : D} {ds : List D} : Rep m H v d → Reps m H vs ds → Reps m H (v :: vs) (d :: ds)
end
/-- a static list -/
def StL (a : Addr) (xs : List V) : Prop :=
  ∃ (o : Obj) (its : Array Value) (n : Nat), K.lookup a = some o ∧ o.cls = .type "list" ∧ o.dict = none ∧ o.data = .seq its n ∧ its.size ≤ sizeLine ∧ Vals xs its.toList
/-- the script: locked, or of the text -/
def ScrOk (H : Hp) (s : Addr) (xs : List V) : Prop := (∃ o, H s = some (.frz o (.lst xs))) ∨ StL K s xs
/-- the script's draws stand in a list of four: the script, three ints -/
def RowOk (H : Hp) (a : Addr) : Prop := ∃ (s : Addr) (ns : List Int) (i z r : Int), H a = some (.lst [.ref s, .int i, .int z, .int r]) ∧ ScrOk K H s (ns.map V.int) ∧ ns.length ≤ 63 ∧ 0 ≤ i
def CellR (m : List Addr) (H : Hp) (a : Addr) (ds : List D) : Prop := ∃ vs, H a = some (.lst vs) ∧ Reps K F m H vs ds
end

section
variable {K : PySem.W.Frag} {F : Nat → Option Addr} {m m' : List Addr} {H H' : Hp}
mutual
theorem Rep.keep (hm : ∀ a, a ∈ m' → a ∈ m ∨ H a = none) (hk : ∀ a o, a ∉ m → H a = some o → H' a = some o) : ∀ (d : D) (v : V), Rep K F m H v d → Rep K F m' H' v d
  | .non, _, h => by cases h; exact .non
  | .bl b, _, h => by cases h; exact .bl b
  | .int i, _, h => by cases h; exact .int i
  | .str s, _, h => by cases h; exact .str s
  | .ty n, _, h => by cases h; exact .ty n
  | .fn k, _, h => by cases h with | fn e => exact .fn e
  | .tup ds, _, h => by
    cases h with
    | tup hn e r =>
      obtain ⟨o, e, ed⟩ := e
      exact .tup (fun q => (hm _ q).elim hn fun z => by rw [z] at e; cases e) ⟨o, hk _ _ hn e, ed⟩ (Reps.keep hm hk ds _ r)
    | tupK e r => exact .tupK e (Reps.keep hm hk ds _ r)
  | .lst ds, _, h => by
    cases h with
    | lst hn e r => exact .lst (fun q => (hm _ q).elim hn fun z => by rw [z] at e; cases e) (hk _ _ hn e) (Reps.keep hm hk ds _ r)
theorem Reps.keep (hm : ∀ a, a ∈ m' → a ∈ m ∨ H a = none) (hk : ∀ a o, a ∉ m → H a = some o → H' a = some o) : ∀ (ds : List D) (vs : List V), Reps K F m H vs ds → Reps K F m' H' vs ds
  | [], _, h => by cases h; exact .nil
  | d :: ds, _, h => by cases h with | cons h1 h2 => exact .cons (Rep.keep hm hk d _ h1) (Reps.keep hm hk ds _ h2)
end
theorem Reps.length : ∀ {vs : List V} {ds : List D}, Reps K F m H vs ds → vs.length = ds.length
  | _, _, .nil => rfl
  | _, _, .cons _ t => congrArg (· + 1) (Reps.length t)
theorem Reps.get : ∀ {vs : List V} {ds : List D} {i : Nat} {d : D}, Reps K F m H vs ds → ds[i]? = some d → ∃ v, vs[i]? = some v ∧ Rep K F m H v d
  | _, _, _, _, .nil, e => by simp at e
  | _, _, 0, _, .cons r _, e => by simp at e; subst e; exact ⟨_, rfl, r⟩
  | _, _, i + 1, d, .cons _ t, e => by
    obtain ⟨v, h1, h2⟩ := Reps.get (i := i) (d := d) t (by simpa using e)
    exact ⟨v, by simpa using h1, h2⟩
theorem Reps.append : ∀ {vs ws : List V} {ds es : List D}, Reps K F m H vs ds → Reps K F m H ws es → Reps K F m H (vs ++ ws) (ds ++ es)
  | _, _, _, _, .nil, s => s
  | _, _, _, _, .cons r t, s => .cons r (Reps.append t s)
theorem Reps.take : ∀ {vs : List V} {ds : List D} (n : Nat), Reps K F m H vs ds → Reps K F m H (vs.take n) (ds.take n)
  | _, _, 0, _ => .nil
  | _, _, _ + 1, .nil => .nil
  | _, _, n + 1, .cons r t => .cons r (Reps.take n t)
theorem Reps.drop : ∀ {vs : List V} {ds : List D} (n : Nat), Reps K F m H vs ds → Reps K F m H (vs.drop n) (ds.drop n)
  | _, _, 0, r => r
  | _, _, _ + 1, .nil => .nil
  | _, _, n + 1, .cons _ t => Reps.drop n t
theorem Reps.set {v : V} {d : D} (r : Rep K F m H v d) : ∀ {vs : List V} {ds : List D} (i : Nat), Reps K F m H vs ds → Reps K F m H (vs.set i v) (ds.set i d)
  | _, _, _, .nil => .nil
  | _, _, 0, .cons _ t => .cons r t
  | _, _, i + 1, .cons q t => .cons q (Reps.set r i t)
theorem Reps.rep {vs : List V} {ds : List D} (h : Reps K F m H vs ds) : ∀ k : Nat, Reps K F m H (List.replicate k vs).flatten (List.replicate k ds).flatten
  | 0 => .nil
  | k + 1 => by
    rw [List.replicate_succ, List.replicate_succ, List.flatten_cons, List.flatten_cons]
    exact h.append (Reps.rep h k)
end

/-- the objects but the draws' list stand as they stood -/
def Keep (ρ : Option Addr) (H H' : Hp) : Prop := ∀ a o, ρ ≠ some a → H a = some o → H' a = some o
theorem Keep.refl (ρ : Option Addr) (H : Hp) : Keep ρ H H := fun _ _ _ h => h
theorem Keep.trans {ρ : Option Addr} {H H1 H2 : Hp} (x : Keep ρ H H1) (y : Keep ρ H1 H2) : Keep ρ H H2 := fun a o n h => y a o n (x a o n h)
theorem Keep.of {ρ : Option Addr} {H H' : Hp} (h : Same H H') : Keep ρ H H' := fun a o _ e => h a o e
theorem Keep.same {H H' : Hp} (h : Keep none H H') : Same H H' := fun a o e => h a o (fun z => nomatch z) e
theorem same_new {H : Hp} {p : Addr} {o : HO} (h : H p = none) : Same H (upd H p o) := fun b u e => by rw [upd_ne (ne_of_none e h)]; exact e

section
variable (K : PySem.W.Frag) (F : Nat → Option Addr)
/-- m0: the callers' own objects (and a comprehension's list); m1: the frame's own, as hp tells -/
structure Sim (m0 m1 : List Addr) (H : Hp) (hp : Hz) : Prop where
  len : m1.length = hp.length
  nd : m1.Nodup
  dis : ∀ a, a ∈ m0 → a ∉ m1
  dom : ∀ a, a ∈ m0 ++ m1 → H a ≠ none
  cell : ∀ (n : Nat) (c : List D), hp[n]? = some c → ∃ a, m1[n]? = some a ∧ CellR K F (m0 ++ m1) H a c
def RowA (ρ : Option Addr) (H : Hp) : Prop := ∀ a, ρ = some a → RowOk K H a
def RepS (ρ : Option Addr) (m0 m1 : List Addr) (H : Hp) (v : V) : SV → Prop
  | .v d => Rep K F (m0 ++ m1) H v d
  | .r n => ∃ a, m1[n]? = some a ∧ v = .ref a
  | .row => ∃ a, ρ = some a ∧ v = .ref a
structure FrR (ρ : Option Addr) (m0 m1 : List Addr) (H : Hp) (σ : L2.St) (fr : Fr) : Prop where
  len : σ.length = fr.length
  slot : ∀ (i : Nat) (s : SV), fr[i]? = some (some s) → ∃ v, σ[i]? = some (some v) ∧ RepS K F ρ m0 m1 H v s
structure At (ρ : Option Addr) (m0 m1 : List Addr) (H : Hp) (σ : L2.St) (fr : Fr) (hp : Hz) : Prop where
  fr : FrR K F ρ m0 m1 H σ fr
  sim : Sim K F m0 m1 H hp
  row : RowA K ρ H
  own : ∀ a, ρ = some a → a ∈ m0
end
section
variable {K : PySem.W.Frag} {F : Nat → Option Addr} {ρ : Option Addr} {m m' m0 m1 : List Addr} {H H' : Hp} {σ : L2.St} {fr : Fr} {hp : Hz}
theorem Rep.sub {v : V} {d : D} (h : Rep K F m H v d) (s : ∀ a, a ∈ m' → a ∈ m) : Rep K F m' H v d := Rep.keep (fun a q => .inl (s a q)) (fun _ _ _ e => e) d v h
theorem Reps.sub {v : List V} {d : List D} (h : Reps K F m H v d) (s : ∀ a, a ∈ m' → a ∈ m) : Reps K F m' H v d := Reps.keep (fun a q => .inl (s a q)) (fun _ _ _ e => e) d v h
theorem Rep.on {v : V} {d : D} (h : Rep K F (m0 ++ m1) H v d) (o : ∀ a, ρ = some a → a ∈ m0) (k : Keep ρ H H') : Rep K F (m0 ++ m1) H' v d :=
  Rep.keep (fun a q => .inl q) (fun a ob n e => k a ob (fun z => n (List.mem_append_left _ (o a z))) e) d v h
theorem Reps.on {vs : List V} {ds : List D} (h : Reps K F (m0 ++ m1) H vs ds) (o : ∀ a, ρ = some a → a ∈ m0) (k : Keep ρ H H') : Reps K F (m0 ++ m1) H' vs ds :=
  Reps.keep (fun a q => .inl q) (fun a ob n e => k a ob (fun z => n (List.mem_append_left _ (o a z))) e) ds vs h
theorem ScrOk.keep {s : Addr} {xs : List V} (h : ScrOk K H s xs) (k : ∀ o, H s = some (.frz o (.lst xs)) → H' s = some (.frz o (.lst xs))) : ScrOk K H' s xs := h.elim (fun ⟨o, e⟩ => .inl ⟨o, k o e⟩) .inr
theorem ScrOk.sq {s : Addr} {xs : List V} (h : ScrOk K H s xs) : SqL K H s xs := h.elim (fun ⟨o, e⟩ => .inl (.inr ⟨o, e⟩)) .inr
theorem RowOk.keep {a : Addr} (h : RowOk K H a) (ka : ∀ xs, H a = some (.lst xs) → H' a = some (.lst xs)) (k : ∀ s o xs, H s = some (.frz o (.lst xs)) → H' s = some (.frz o (.lst xs))) : RowOk K H' a := by
  obtain ⟨s, ns, i, z, r, e1, hs, q⟩ := h
  exact ⟨s, ns, i, z, r, ka _ e1, hs.keep fun o e => k s o _ e, q⟩
theorem RowA.same (h : RowA K ρ H) (k : Same H H') : RowA K ρ H' := fun a e => (h a e).keep (fun _ z => k _ _ z) fun _ _ _ z => k _ _ z
theorem Sim.on (h : Sim K F m0 m1 H hp) (o : ∀ a, ρ = some a → a ∈ m0) (row : RowA K ρ H') (k : Keep ρ H H') : Sim K F m0 m1 H' hp := by
  refine ⟨h.len, h.nd, h.dis, fun a q z => ?_, fun n c e => ?_⟩
  · by_cases hr : ρ = some a
    · obtain ⟨_, _, _, _, _, e1, _⟩ := row a hr
      rw [e1] at z; cases z
    · cases e : H a with
      | none => exact h.dom a q e
      | some ob => rw [k a ob hr e] at z; cases z
  · obtain ⟨a, e1, vs, e2, r⟩ := h.cell n c e
    have hm : a ∈ m1 := List.mem_of_getElem? e1
    exact ⟨a, e1, vs, k a _ (fun z => h.dis a (o a z) hm) e2, r.on o k⟩
theorem RepS.on {v : V} {s : SV} (h : RepS K F ρ m0 m1 H v s) (o : ∀ a, ρ = some a → a ∈ m0) (k : Keep ρ H H') : RepS K F ρ m0 m1 H' v s := by
  cases s with
  | v d => exact Rep.on h o k
  | r n => exact h
  | row => exact h
theorem FrR.on (h : FrR K F ρ m0 m1 H σ fr) (o : ∀ a, ρ = some a → a ∈ m0) (k : Keep ρ H H') : FrR K F ρ m0 m1 H' σ fr :=
  ⟨h.len, fun i s e => let ⟨v, e1, e2⟩ := h.slot i s e; ⟨v, e1, e2.on o k⟩⟩
theorem At.on (h : At K F ρ m0 m1 H σ fr hp) (k : Keep ρ H H') (w : RowA K ρ H') : At K F ρ m0 m1 H' σ fr hp := ⟨h.fr.on h.own k, h.sim.on h.own w k, w, h.own⟩
theorem At.same (h : At K F ρ m0 m1 H σ fr hp) (k : Same H H') : At K F ρ m0 m1 H' σ fr hp := h.on (.of k) (h.row.same k)
/-- a new address is none of ours -/
theorem Sim.new (h : Sim K F m0 m1 H hp) {p : Addr} (e : H p = none) : p ∉ m0 ++ m1 := fun q => h.dom p q e
/-- an address that is free later was free before -/
theorem At.free (h : At K F ρ m0 m1 H σ fr hp) (k : Keep ρ H H') (w : RowA K ρ H') {p : Addr} (e : H' p = none) : H p = none := by
  cases q : H p with
  | none => rfl
  | some o =>
    by_cases hr : ρ = some p
    · obtain ⟨_, _, _, _, _, e1, _⟩ := w p hr
      rw [e1] at e; cases e
    · rw [k p o hr q] at e; cases e
end

/-! ### readings -/
abbrev Ex := Fr → Hz → T D
section
variable (K : PySem.W.Frag) (F : Nat → Option Addr)
/-- an expression's reading -/
def tX (f : Ex) : TE := fun σ H Q => ∃ ρ m0 m1 fr hp, At K F ρ m0 m1 H σ fr hp ∧ (f fr hp).all fun d => ∀ H' v, Keep ρ H H' → RowA K ρ H' → Rep K F (m0 ++ m1) H' v d → Q v H'
/-- a test's -/
def tB' (f : Fr → Hz → T Bool) : TT := fun σ H Q => ∃ ρ m0 m1 fr hp, At K F ρ m0 m1 H σ fr hp ∧ (f fr hp).all fun b => ∀ H', Keep ρ H H' → RowA K ρ H' → Q b H'
/-- an argument list's -/
def tAs (f : Fr → Hz → T (List D)) : TA := fun σ H Q => ∃ ρ m0 m1 fr hp, At K F ρ m0 m1 H σ fr hp ∧ (f fr hp).all fun ds => ∀ H' vs, Keep ρ H H' → RowA K ρ H' → Reps K F (m0 ++ m1) H' vs ds → Q vs H'
/-- a list or tuple: its items are to be read -/
def SeqA (m0 : List Addr) (H : Hp) (a : Addr) (vs : List V) : Prop := (a ∉ m0 ∧ (H a = some (.lst vs) ∨ TupO H a vs)) ∨ StT K a vs
def SeqR (m0 m1 : List Addr) (H : Hp) (v : V) (ds : List D) : Prop := ∃ a vs, v = .ref a ∧ SeqA K m0 H a vs ∧ Reps K F (m0 ++ m1) H vs ds
/-- a new list of one's own -/
def tN (f : Fr → Hz → T (List D)) : TE := fun σ H Q => ∃ ρ m0 m1 fr hp, At K F ρ m0 m1 H σ fr hp ∧ (f fr hp).all fun ds => ∀ H' a vs, Keep ρ H H' → RowA K ρ H' → H a = none → H' a = some (.lst vs) → Reps K F (m0 ++ (m1 ++ [a])) H' vs ds → Q (.ref a) H'
/-- what is read as a row of items: a value, or the frame's own list -/
def tSq (f : Fr → Hz → T (List D)) : TE := fun σ H Q => ∃ ρ m0 m1 fr hp, At K F ρ m0 m1 H σ fr hp ∧ (f fr hp).all fun ds => ∀ H' v, Keep ρ H H' → RowA K ρ H' → SeqR K F m0 m1 H' v ds → Q v H'
end

section
variable {X : Cx} {e : Expr} {t t' : TE}
theorem PEimp (h : PE X e t) (hi : ∀ σ H Q, t' σ H Q → t σ H Q) : PE X e t' := ⟨fun pins s σ H Q I q => h.run pins s σ H Q I (hi σ H Q q)⟩
theorem PTimp {t t' : TT} (h : PT X e t) (hi : ∀ σ H Q, t' σ H Q → t σ H Q) : PT X e t' := ⟨fun pins s σ H Q I q => h.run pins s σ H Q I (hi σ H Q q)⟩
theorem PWimp {t t' : TT} (h : PW X e t) (hi : ∀ σ H Q, t' σ H Q → t σ H Q) : PW X e t' := ⟨fun wh pins s σ H Q I q => h.run wh pins s σ H Q I (hi σ H Q q)⟩
theorem PAimp {es : List Expr} {t t' : TA} (h : PA X es t) (hi : ∀ σ H Q, t' σ H Q → t σ H Q) : PA X es t' := ⟨fun pos pins s σ H Q I q => h.run pos pins s σ H Q I (hi σ H Q q)⟩
theorem PSimp {st : Stmt} {t t' : TS} (h : PS X st t) (hi : ∀ D σ H, t' D σ H → t D σ H) : PS X st t' := ⟨fun pins s σ H D I q => h.run pins s σ H D I (hi D σ H q)⟩
theorem PSsimp {st : List Stmt} {t t' : TS} (h : PSs X st t) (hi : ∀ D σ H, t' D σ H → t D σ H) : PSs X st t' := ⟨fun pins s σ H D I q => h.run pins s σ H D I (hi D σ H q)⟩
theorem PIimp {tg it : Expr} {t t' : TI} (h : PI X tg it t) (hi : ∀ σ H R, t' σ H R → t σ H R) : PI X tg it t' := ⟨fun pins s σ H R I q => h.run pins s σ H R I (hi σ H R q)⟩
end
section
variable {K : PySem.W.Frag} {F : Nat → Option Addr} {ρ : Option Addr} {m0 m1 : List Addr} {H H' : Hp} {σ : L2.St} {fr : Fr} {hp : Hz}
theorem tX_mk {f : Ex} {P : D → Prop} {Q : VK} (a : At K F ρ m0 m1 H σ fr hp) (h : (f fr hp).all P) (k : ∀ d, P d → ∀ H' v, Keep ρ H H' → At K F ρ m0 m1 H' σ fr hp → Rep K F (m0 ++ m1) H' v d → Q v H') : tX K F f σ H Q :=
  ⟨ρ, m0, m1, fr, hp, a, T.all_mono (fun d hd H' v kp s r => k d hd H' v kp (a.on kp s) r) h⟩
theorem tB_mk {f : Fr → Hz → T Bool} {P : Bool → Prop} {Q : Bool → Hp → Prop} (a : At K F ρ m0 m1 H σ fr hp) (h : (f fr hp).all P) (k : ∀ d, P d → ∀ H', Keep ρ H H' → At K F ρ m0 m1 H' σ fr hp → Q d H') : tB' K F f σ H Q :=
  ⟨ρ, m0, m1, fr, hp, a, T.all_mono (fun d hd H' kp s => k d hd H' kp (a.on kp s)) h⟩
theorem tAs_mk {f : Fr → Hz → T (List D)} {P : List D → Prop} {Q : List V → Hp → Prop} (a : At K F ρ m0 m1 H σ fr hp) (h : (f fr hp).all P) (k : ∀ d, P d → ∀ H' v, Keep ρ H H' → At K F ρ m0 m1 H' σ fr hp → Reps K F (m0 ++ m1) H' v d → Q v H') : tAs K F f σ H Q :=
  ⟨ρ, m0, m1, fr, hp, a, T.all_mono (fun d hd H' v kp s r => k d hd H' v kp (a.on kp s) r) h⟩
theorem tN_mk {f : Fr → Hz → T (List D)} {P : List D → Prop} {Q : VK} (a : At K F ρ m0 m1 H σ fr hp) (h : (f fr hp).all P) (k : ∀ d, P d → ∀ H' b vs, Keep ρ H H' → At K F ρ m0 m1 H' σ fr hp → H b = none → H' b = some (.lst vs) → Reps K F (m0 ++ (m1 ++ [b])) H' vs d → Q (.ref b) H') : tN K F f σ H Q :=
  ⟨ρ, m0, m1, fr, hp, a, T.all_mono (fun d hd H' b vs kp s z1 z3 r => k d hd H' b vs kp (a.on kp s) z1 z3 r) h⟩
theorem tSq_mk {f : Fr → Hz → T (List D)} {P : List D → Prop} {Q : VK} (a : At K F ρ m0 m1 H σ fr hp) (h : (f fr hp).all P) (k : ∀ d, P d → ∀ H' v, Keep ρ H H' → At K F ρ m0 m1 H' σ fr hp → SeqR K F m0 m1 H' v d → Q v H') : tSq K F f σ H Q :=
  ⟨ρ, m0, m1, fr, hp, a, T.all_mono (fun d hd H' v kp s r => k d hd H' v kp (a.on kp s) r) h⟩
theorem TupO.sq {K : PySem.W.Frag} {a : Addr} {vs : List V} (h : TupO H a vs) : SqT K H a vs := let ⟨o, e, _⟩ := h; .inl (.inr ⟨o, e⟩)
theorem StT.sq {a : Addr} {vs : List V} (h : StT K a vs) : SqT K H a vs := let ⟨o, its, n, e, _⟩ := h; .inr ⟨o, its, n, e⟩
theorem TupO.on {a : Addr} {vs : List V} (h : TupO H a vs) (n : ρ ≠ some a) (k : Keep ρ H H') : TupO H' a vs := let ⟨o, e, d⟩ := h; ⟨o, k a _ n e, d⟩
theorem TupO.new {p : Addr} {o : Obj} {vs : List V} (h : o.dict = none) : TupO (upd H p (.frz o (.tup vs))) p vs := ⟨o, upd_same, h⟩
theorem Rep.tupR {m : List Addr} {v : V} {ds : List D} (h : Rep K F m H v (.tup ds)) : ∃ a vs, v = .ref a ∧ SqT K H a vs ∧ Reps K F m H vs ds := by
  cases h with
  | tup hn e r => exact ⟨_, _, rfl, e.sq, r⟩
  | tupK e r => exact ⟨_, _, rfl, e.sq, r⟩
theorem Rep.lstR {m : List Addr} {v : V} {ds : List D} (h : Rep K F m H v (.lst ds)) : ∃ a vs, v = .ref a ∧ a ∉ m ∧ H a = some (.lst vs) ∧ Reps K F m H vs ds := by
  cases h with
  | lst hn e r => exact ⟨_, _, rfl, hn, e, r⟩
/-- the items of a list or a tuple -/
def D.seq : D → Option (List D)
  | .tup xs => some xs
  | .lst xs => some xs
  | _ => none
theorem Rep.seqR {v : V} {d : D} {ds : List D} (h : Rep K F (m0 ++ m1) H v d) (e : d.seq = some ds) : SeqR K F m0 m1 H v ds := by
  cases d <;> first | (cases e; done) | skip
  · obtain rfl := Option.some.inj e
    cases h with
    | tup hn e r => exact ⟨_, _, rfl, .inl ⟨fun q => hn (List.mem_append_left _ q), .inr e⟩, r⟩
    | tupK e r => exact ⟨_, _, rfl, .inr e, r⟩
  · obtain rfl := Option.some.inj e
    cases h with
    | lst hn e r => exact ⟨_, _, rfl, .inl ⟨fun q => hn (List.mem_append_left _ q), .inl e⟩, r⟩
theorem SeqA.sq {a : Addr} {vs : List V} (h : SeqA K m0 H a vs) : SqL K H a vs ∨ SqT K H a vs := by
  rcases h with ⟨_, h | h⟩ | h
  · exact .inl (.inl (.inl h))
  · exact .inr h.sq
  · exact .inr h.sq
theorem SeqA.on {a : Addr} {vs : List V} (h : SeqA K m0 H a vs) (o : ∀ a, ρ = some a → a ∈ m0) (k : Keep ρ H H') : SeqA K m0 H' a vs := by
  rcases h with ⟨hn, h | h⟩ | h
  · exact .inl ⟨hn, .inl (k a _ (fun z => hn (o a z)) h)⟩
  · exact .inl ⟨hn, .inr (h.on (fun z => hn (o a z)) k)⟩
  · exact .inr h
/-- the new heap behind a new object -/
theorem At.upd (a : At K F ρ m0 m1 H σ fr hp) {p : Addr} {o : HO} (h : H p = none) : Keep ρ H (upd H p o) ∧ At K F ρ m0 m1 (upd H p o) σ fr hp :=
  ⟨.of (same_new h), a.same (same_new h)⟩
theorem sub_more {m0 m1 : List Addr} {b a : Addr} (h : a ∈ m0 ++ m1) : a ∈ m0 ++ (m1 ++ [b]) := by
  rcases List.mem_append.mp h with z | z
  · exact List.mem_append_left _ z
  · exact List.mem_append_right _ (List.mem_append_left _ z)
theorem mem_more {m0 m1 : List Addr} {b : Addr} : b ∈ m0 ++ (m1 ++ [b]) := List.mem_append_right _ (List.mem_append_right _ (by simp))
/-- .. a new object's address may be forbidden besides -/
theorem Reps.more {vs : List V} {ds : List D} {b : Addr} (h : Reps K F (m0 ++ m1) H vs ds) (hb : H b = none) (k : Same H H') : Reps K F (m0 ++ (m1 ++ [b])) H' vs ds :=
  Reps.keep (fun a q => by
    rcases List.mem_append.mp q with z | z
    · exact .inl (List.mem_append_left _ z)
    · rcases List.mem_append.mp z with z | z
      · exact .inl (List.mem_append_right _ z)
      · have : a = b := by simpa using z
        subst this
        exact .inr hb) (fun a o _ e => k a o e) ds vs h
end
end Zl

set_option Elab.async false
set_option linter.all false
set_option maxRecDepth 100000
set_option maxHeartbeats 1000000
/-! Z1: operators, comparisons, subscripts by values. -/
namespace Zl
open PySem L2

/-! ### == at any depth -/
def allB {α β : Type} (f : α → β → Bool) : List α → List β → Bool
  | [], [] => true
  | x :: xs, y :: ys => if f x y then allB f xs ys else false
  | _, _ => false
def eqNs : List Nat → List Nat → Bool
  | [], [] => true
  | x :: xs, y :: ys => if Nat.beq x y then eqNs xs ys else false
  | _, _ => false
def eqI (a b : Int) : Bool := decide (a = b)
def beq : Nat → D → D → Bool
  | n + 1, .tup xs, .tup ys => allB (beq n) xs ys
  | n + 1, .lst xs, .lst ys => allB (beq n) xs ys
  | _, .int a, .int b => eqI a b
  | _, .str a, .str b => eqNs a b
  | _, .bl a, .bl b => a == b
  | _, .non, .non => true
  | _, .bl a, .int b => eqI (if a then 1 else 0) b
  | _, .int a, .bl b => eqI a (if b then 1 else 0)
  | _, _, _ => false
def allO (f : D → Bool) : List D → Bool
  | [] => true
  | x :: xs => if f x then allO f xs else false
def okNs : List Nat → Bool
  | [] => true
  | x :: xs => if Nat.blt x 1114112 then okNs xs else false
def okD : Nat → D → Bool
  | _, .int _ => true
  | _, .bl _ => true
  | _, .non => true
  | _, .str s => okNs s
  | n + 1, .tup xs => allO (okD n) xs
  | n + 1, .lst xs => allO (okD n) xs
  | _, _ => false
mutual
def toPy : D → PyData
  | .non => .none
  | .bl b => .bool b
  | .int i => .int i
  | .str s => .str ⟨s.toArray⟩
  | .ty _ => .none
  | .fn _ => .none
  | .tup xs => .tuple (toPys xs)
  | .lst xs => .list (toPys xs)
def toPys : List D → List PyData
  | [] => []
  | x :: xs => toPy x :: toPys xs
end
theorem eqNs_iff : ∀ (a b : List Nat), eqNs a b = decide (a = b)
  | [], [] => by simp [eqNs]
  | [], _ :: _ => by simp [eqNs]
  | _ :: _, [] => by simp [eqNs]
  | x :: xs, y :: ys => by
    unfold eqNs
    rw [eqNs_iff xs ys]
    by_cases h : x = y
    · subst h
      simp
    · have : Nat.beq x y = false := by
        cases e : Nat.beq x y with
        | false => rfl
        | true => exact absurd (Nat.eq_of_beq_eq_true e) h
      rw [this]
      simp [h]
theorem eqI_beq (a b : Int) : eqI a b = (a == b) := by unfold eqI; rw [Bool.beq_eq_decide_eq]
theorem str_beq (a b : List Nat) : ((⟨a.toArray⟩ : Str) == ⟨b.toArray⟩) = eqNs a b := by
  rw [eqNs_iff]
  by_cases h : a = b
  · subst h
    simp
  · rw [decide_eq_false h]
    refine beq_eq_false_iff_ne.mpr fun e => h ?_
    have q : a.toArray = b.toArray := congrArg Str.cps e
    simpa using congrArg Array.toList q
mutual
theorem eqv_beq : ∀ (n : Nat) (a b : D), okD n a = true → okD n b = true → PyData.eqv (toPy a) (toPy b) = beq n a b
  | n + 1, .tup xs, .tup ys, ha, hb => by
    simp only [toPy, PyData.eqv, beq]
    exact eqv_all n xs ys ha hb
  | n + 1, .lst xs, .lst ys, ha, hb => by
    simp only [toPy, PyData.eqv, beq]
    exact eqv_all n xs ys ha hb
  | 0, .tup _, _, ha, _ => absurd ha (by simp [okD])
  | 0, .lst _, _, ha, _ => absurd ha (by simp [okD])
  | 0, _, .tup _, _, hb => absurd hb (by simp [okD])
  | 0, _, .lst _, _, hb => absurd hb (by simp [okD])
  | n, .ty _, _, ha, _ => absurd ha (by cases n <;> simp [okD])
  | n, .fn _, _, ha, _ => absurd ha (by cases n <;> simp [okD])
  | n, _, .ty _, _, hb => absurd hb (by cases n <;> simp [okD])
  | n, _, .fn _, _, hb => absurd hb (by cases n <;> simp [okD])
  | n, .int a, .int b, _, _ => by cases n <;> simp [toPy, PyData.eqv, beq, eqI_beq]
  | n, .str a, .str b, _, _ => by cases n <;> simp only [toPy, PyData.eqv, beq] <;> exact str_beq a b
  | n, .bl a, .bl b, _, _ => by cases n <;> simp [toPy, PyData.eqv, beq]
  | n, .non, .non, _, _ => by cases n <;> simp [toPy, PyData.eqv, beq]
  | n, .bl a, .int b, _, _ => by cases n <;> simp [toPy, PyData.eqv, beq, eqI_beq]
  | n, .int a, .bl b, _, _ => by cases n <;> simp [toPy, PyData.eqv, beq, eqI_beq]
  | n, .non, .int _, _, _ => by cases n <;> simp [toPy, PyData.eqv, beq]
  | n, .non, .bl _, _, _ => by cases n <;> simp [toPy, PyData.eqv, beq]
  | n, .non, .str _, _, _ => by cases n <;> simp [toPy, PyData.eqv, beq]
  | n + 1, .non, .tup _, _, _ => by simp [toPy, PyData.eqv, beq]
  | n + 1, .non, .lst _, _, _ => by simp [toPy, PyData.eqv, beq]
  | n, .int _, .non, _, _ => by cases n <;> simp [toPy, PyData.eqv, beq]
  | n, .int _, .str _, _, _ => by cases n <;> simp [toPy, PyData.eqv, beq]
  | n + 1, .int _, .tup _, _, _ => by simp [toPy, PyData.eqv, beq]
  | n + 1, .int _, .lst _, _, _ => by simp [toPy, PyData.eqv, beq]
  | n, .bl _, .non, _, _ => by cases n <;> simp [toPy, PyData.eqv, beq]
  | n, .bl _, .str _, _, _ => by cases n <;> simp [toPy, PyData.eqv, beq]
  | n + 1, .bl _, .tup _, _, _ => by simp [toPy, PyData.eqv, beq]
  | n + 1, .bl _, .lst _, _, _ => by simp [toPy, PyData.eqv, beq]
  | n, .str _, .non, _, _ => by cases n <;> simp [toPy, PyData.eqv, beq]
  | n, .str _, .int _, _, _ => by cases n <;> simp [toPy, PyData.eqv, beq]
  | n, .str _, .bl _, _, _ => by cases n <;> simp [toPy, PyData.eqv, beq]
  | n + 1, .str _, .tup _, _, _ => by simp [toPy, PyData.eqv, beq]
  | n + 1, .str _, .lst _, _, _ => by simp [toPy, PyData.eqv, beq]
  | n + 1, .tup _, .non, _, _ => by simp [toPy, PyData.eqv, beq]
  | n + 1, .tup _, .int _, _, _ => by simp [toPy, PyData.eqv, beq]
  | n + 1, .tup _, .bl _, _, _ => by simp [toPy, PyData.eqv, beq]
  | n + 1, .tup _, .str _, _, _ => by simp [toPy, PyData.eqv, beq]
  | n + 1, .tup _, .lst _, _, _ => by simp [toPy, PyData.eqv, beq]
  | n + 1, .lst _, .non, _, _ => by simp [toPy, PyData.eqv, beq]
  | n + 1, .lst _, .int _, _, _ => by simp [toPy, PyData.eqv, beq]
  | n + 1, .lst _, .bl _, _, _ => by simp [toPy, PyData.eqv, beq]
  | n + 1, .lst _, .str _, _, _ => by simp [toPy, PyData.eqv, beq]
  | n + 1, .lst _, .tup _, _, _ => by simp [toPy, PyData.eqv, beq]
theorem eqv_all : ∀ (n : Nat) (xs ys : List D), allO (okD n) xs = true → allO (okD n) ys = true → PyData.eqvAll (toPys xs) (toPys ys) = allB (beq n) xs ys
  | _, [], [], _, _ => by simp [toPys, PyData.eqvAll, allB]
  | _, [], _ :: _, _, _ => by simp [toPys, PyData.eqvAll, allB]
  | _, _ :: _, [], _, _ => by simp [toPys, PyData.eqvAll, allB]
  | n, x :: xs, y :: ys, ha, hb => by
    unfold allO at ha hb
    by_cases h1 : okD n x = true
    · by_cases h2 : okD n y = true
      · rw [if_pos h1] at ha
        rw [if_pos h2] at hb
        simp only [toPys, PyData.eqvAll, allB]
        rw [eqv_beq n x y h1 h2, eqv_all n xs ys ha hb]
        cases beq n x y <;> simp
      · rw [if_neg h2] at hb
        exact absurd hb Bool.false_ne_true
    · rw [if_neg h1] at ha
      exact absurd ha Bool.false_ne_true
end
end Zl

set_option Elab.async false
set_option linter.all false
set_option maxRecDepth 100000
set_option maxHeartbeats 1000000
/-! Z2: expressions. -/
namespace Zl
open PySem L2 PySem.Spec PyProof.Rows

/-! ### slots, constants -/
def gt {α : Type} : List (Option α) → Nat → Option α
  | [], _ => none
  | x :: _, 0 => x
  | _ :: r, n + 1 => gt r n
theorem gt_eq {α : Type} : ∀ {l : List (Option α)} {i : Nat} {x : α}, gt l i = some x → l[i]? = some (some x)
  | [], _, _, h => by cases h
  | y :: _, 0, x, h => by
    have e : y = some x := h
    simp [e]
  | _ :: r, n + 1, x, h => by
    have := gt_eq (l := r) (i := n) (x := x) h
    simpa using this
def slotD : Option SV → T D
  | some (.v d) => .ret d
  | _ => .fail
def eV (i : Nat) : Ex := fun fr _ => slotD (gt fr i)
def eC (d : D) : Ex := fun _ _ => .ret d
def slotL (hp : Hz) : Option SV → T (List D)
  | some (.v (.lst xs)) => .ret xs
  | some (.v (.tup xs)) => .ret xs
  | some (.r n) => ofO hp[n]?
  | _ => .fail
def eVs (i : Nat) : Fr → Hz → T (List D) := fun fr hp => slotL hp (gt fr i)
def asB : D → T Bool
  | .bl b => .ret b
  | _ => .fail
def asL : D → T (List D)
  | .lst xs => .ret xs
  | .tup xs => .ret xs
  | _ => .fail
def e2 (op : D → D → T D) (f g : Ex) : Ex := fun fr hp => (f fr hp).bind fun x => (g fr hp).bind fun y => op x y
def e1 (op : D → T D) (f : Ex) : Ex := fun fr hp => (f fr hp).bind op
def b1 (f : Ex) : Fr → Hz → T Bool := fun fr hp => (f fr hp).bind asB

section
variable {X : Cx} {F : Nat → Option Addr} {ρ : Option Addr} {m0 m1 : List Addr} {H : Hp} {σ : L2.St} {fr : Fr} {hp : Hz}
theorem At.get (a : At X.K F ρ m0 m1 H σ fr hp) {i : Nat} {s : SV} (e : gt fr i = some s) : ∃ v, σ[i]? = some (some v) ∧ RepS X.K F ρ m0 m1 H v s := a.fr.slot i s (gt_eq e)
theorem all_slotD {o : Option SV} {P : D → Prop} (h : (slotD o).all P) : ∃ d, o = some (.v d) ∧ P d := by
  unfold slotD at h
  split at h
  · exact ⟨_, rfl, h⟩
  · exact h.elim
theorem all_asB {d : D} {P : Bool → Prop} (h : (asB d).all P) : ∃ b, d = .bl b ∧ P b := by
  unfold asB at h
  split at h
  · exact ⟨_, rfl, h⟩
  · exact h.elim
theorem all_asL {d : D} {P : List D → Prop} (h : (asL d).all P) : ∃ xs, d.seq = some xs ∧ P xs := by
  unfold asL at h
  split at h
  · exact ⟨_, rfl, h⟩
  · exact ⟨_, rfl, h⟩
  · exact h.elim
theorem zv (i : Nat) {x : Str} {pos : Pos} (hN : X.N[i]? = some x := by rfl) (hv : Vis X.env.scope x := by first | exact Or.inl rfl | exact Or.inr (Or.inl rfl) | exact Or.inr (Or.inr rfl)) (hd : (x == ("__debug__" : Str)) = false := by decide)
    (hcd : (x == ("__classdict__" : Str)) = false := by decide) : PE X (.Name x pos) (tX X.K F (eV i)) := by
  refine PEimp (pe_var hN hv hd hcd) fun σ H Q h => ?_
  obtain ⟨ρ, m0, m1, fr, hp, a, h⟩ := h
  obtain ⟨d, e, k⟩ := all_slotD (show (slotD (gt fr i)).all _ from h)
  obtain ⟨v, e1, r⟩ := a.get e
  exact ⟨v, e1, k H v (Keep.refl _ _) a.row r⟩
theorem zvs (i : Nat) {x : Str} {pos : Pos} (hN : X.N[i]? = some x := by rfl) (hv : Vis X.env.scope x := by first | exact Or.inl rfl | exact Or.inr (Or.inl rfl) | exact Or.inr (Or.inr rfl)) (hd : (x == ("__debug__" : Str)) = false := by decide)
    (hcd : (x == ("__classdict__" : Str)) = false := by decide) : PE X (.Name x pos) (tSq X.K F (eVs i)) := by
  refine PEimp (pe_var hN hv hd hcd) fun σ H Q h => ?_
  obtain ⟨ρ, m0, m1, fr, hp, a, h⟩ := h
  have h : (slotL hp (gt fr i)).all _ := h
  cases e : gt fr i with
  | none => rw [e] at h; exact h.elim
  | some s =>
    rw [e] at h
    obtain ⟨v, e1, r⟩ := a.get e
    cases s with
    | v d =>
      have r : Rep X.K F (m0 ++ m1) H v d := r
      cases d <;> first | exact h.elim | exact ⟨v, e1, h H v (Keep.refl _ _) a.row (r.seqR rfl)⟩
    | row => exact h.elim
    | r n =>
      obtain ⟨b, e2, e3⟩ := r
      obtain ⟨xs, e4, h⟩ := all_ofO (show (ofO hp[n]?).all _ from h)
      obtain ⟨b', e5, vs, e6, r6⟩ := a.sim.cell n _ e4
      rw [e2] at e5
      cases e5
      exact ⟨v, e1, h H v (Keep.refl _ _) a.row ⟨b, vs, e3, .inl ⟨fun q => a.sim.dis b q (List.mem_of_getElem? e2), .inl e6⟩, r6⟩⟩
theorem PEseq {e : Expr} {f : Ex} (h : PE X e (tX X.K F f)) : PE X e (tSq X.K F fun fr hp => (f fr hp).bind asL) := by
  refine PEimp h fun σ H Q h => ?_
  obtain ⟨ρ, m0, m1, fr, hp, a, h⟩ := h
  refine tX_mk a (T.all_bind h) fun d hd H' v kp a' r => ?_
  obtain ⟨xs, e, k⟩ := all_asL hd
  exact k H' v kp a'.row (r.seqR e)
theorem PEnl {e : Expr} {f : Fr → Hz → T (List D)} (h : PE X e (tN X.K F f)) : PE X e (tX X.K F fun fr hp => (f fr hp).bind fun xs => .ret (.lst xs)) := by
  refine PEimp h fun σ H Q h => ?_
  obtain ⟨ρ, m0, m1, fr, hp, a, h⟩ := h
  refine tN_mk a (T.all_bind h) fun ds hd H' b vs kp a' hb hl r => ?_
  exact hd H' (.ref b) kp a'.row (.lst (a.sim.new hb) hl (r.sub fun _ => sub_more))
theorem PEns {e : Expr} {f : Fr → Hz → T (List D)} (h : PE X e (tN X.K F f)) : PE X e (tSq X.K F f) := by
  refine PEimp h fun σ H Q h => ?_
  obtain ⟨ρ, m0, m1, fr, hp, a, h⟩ := h
  refine tN_mk a h fun ds hd H' b vs kp a' hb hl r => ?_
  exact hd H' (.ref b) kp a'.row ⟨b, vs, rfl, .inl ⟨fun q => a.sim.new hb (List.mem_append_left _ q), .inl hl⟩, r.sub fun _ => sub_more⟩
theorem zc {e : Expr} {v : V} {d : D} (h : PE X e (tC v)) (r : ∀ m H, Rep X.K F m H v d) : PE X e (tX X.K F (eC d)) := by
  refine PEimp h fun σ H Q h => ?_
  obtain ⟨ρ, m0, m1, fr, hp, a, h⟩ := h
  exact h H v (Keep.refl _ _) a.row (r _ _)
theorem zint {i j pos} : PE X (.Constant (.int i) j pos) (tX X.K F (eC (.int i))) := zc pe_int fun _ _ => .int i
theorem zbl {i j pos} : PE X (.Constant (.bool i) j pos) (tX X.K F (eC (.bl i))) := zc pe_bl fun _ _ => .bl i
theorem znon {j pos} : PE X (.Constant .none j pos) (tX X.K F (eC .non)) := zc pe_non fun _ _ => .non
theorem zstr {x : Str} {s : List Nat} {j pos} (h : x = ⟨s.toArray⟩) : PE X (.Constant (.str x) j pos) (tX X.K F (eC (.str s))) := by
  subst h
  exact zc pe_str fun _ _ => .str s

/-! ### operators by values -/
/-- f does on values what op does on data -/
def OpZ (X : Cx) (F : Nat → Option Addr) (f : Value → Value → Sem Value) (op : D → D → T D) : Prop :=
  ∃ r : R2, OpR X f r ∧ ∀ (σ : L2.St) (fr : Fr) (ρ : Option Addr) (m0 m1 : List Addr) (H : Hp) (hp : Hz) (v u : V) (x y : D) (Q : VK), At X.K F ρ m0 m1 H σ fr hp → Rep X.K F (m0 ++ m1) H v x → Rep X.K F (m0 ++ m1) H u y →
    ((op x y).all fun d => ∀ H' w, Keep ρ H H' → RowA X.K ρ H' → Rep X.K F (m0 ++ m1) H' w d → Q w H') → r v u H Q
/-- .. whose answer stands in the same heap -/
theorem OpZ.of {f : Value → Value → Sem Value} {op : D → D → T D} {r : R2} (h : OpR X f r)
    (k : ∀ (m : List Addr) (H : Hp) (v u : V) (x y : D) (Q : VK), Rep X.K F m H v x → Rep X.K F m H u y → ((op x y).all fun d => ∀ w, Rep X.K F m H w d → Q w H) → r v u H Q) : OpZ X F f op :=
  ⟨r, h, fun _ _ _ m0 m1 H hp v u x y Q s rx ry q => k (m0 ++ m1) H v u x y Q rx ry (T.all_mono (fun d hd w rw' => hd H w (Keep.refl _ _) s.row rw') q)⟩
theorem zop_core {f : Value → Value → Sem Value} {op : D → D → T D} {fa fb : Ex} {r : R2}
    (k : ∀ (σ : L2.St) (fr : Fr) (ρ : Option Addr) (m0 m1 : List Addr) (H : Hp) (hp : Hz) (v u : V) (x y : D) (Q : VK), At X.K F ρ m0 m1 H σ fr hp → Rep X.K F (m0 ++ m1) H v x → Rep X.K F (m0 ++ m1) H u y →
    ((op x y).all fun d => ∀ H' w, Keep ρ H H' → RowA X.K ρ H' → Rep X.K F (m0 ++ m1) H' w d → Q w H') → r v u H Q) {σ : L2.St} {H : Hp} {Q : VK} (h : tX X.K F (e2 op fa fb) σ H Q) : tOp r (tX X.K F fa) (tX X.K F fb) σ H Q := by
  obtain ⟨ρ, m0, m1, fr, hp, a, h⟩ := h
  refine tX_mk a (T.all_bind h) fun x hx H1 v k1 a1 rx => ?_
  refine tX_mk a1 (T.all_bind hx) fun y hy H2 u k2 a2 ry => ?_
  exact k σ fr ρ m0 m1 H2 hp v u x y Q a2 (rx.on a1.own k2) ry (T.all_mono (fun d hd H' w k3 s rw' => hd H' w ((k1.trans k2).trans k3) s rw') hy)
theorem zop {a b : Expr} {op : Operator} {o : D → D → T D} {fa fb : Ex} {pos : Pos} (ho : OpZ X F (binaryOp op) o) (ha : PE X a (tX X.K F fa)) (hb : PE X b (tX X.K F fb)) : PE X (.BinOp a op b pos) (tX X.K F (e2 o fa fb)) := by
  obtain ⟨r, h1, h2⟩ := ho
  exact PEimp (pe_op h1 ha hb) fun σ H Q h => zop_core (f := binaryOp op) h2 h
theorem zcmp {a b : Expr} {op : CmpOp} {o : D → D → T D} {fa fb : Ex} {pos : Pos} (ho : OpZ X F (compareOp op) o) (ha : PE X a (tX X.K F fa)) (hb : PE X b (tX X.K F fb)) (hm : behindInMarks op b = false := by first | exact nomark _ | rfl) : PE X (.Compare a [op] [b] pos) (tX X.K F (e2 o fa fb)) := by
  obtain ⟨r, h1, h2⟩ := ho
  exact PEimp (pe_cmpR h1 ha hb hm) fun σ H Q h => zop_core (f := compareOp op) h2 h
theorem b1_core {f : Ex} {σ : L2.St} {H : Hp} {Q : Bool → Hp → Prop} (h : tB' X.K F (b1 f) σ H Q) : tX X.K F f σ H fun x H' => ∃ k, x = .bl k ∧ Q k H' := by
  obtain ⟨ρ, m0, m1, fr, hp, a, h⟩ := h
  refine tX_mk a (T.all_bind h) fun d hd H' v kp a' r => ?_
  obtain ⟨b, rfl, k⟩ := all_asB hd
  cases r
  exact ⟨b, rfl, k H' kp a'.row⟩
/-- a comparison as a test -/
theorem ztc {a b : Expr} {op : CmpOp} {o : D → D → T D} {fa fb : Ex} {pos : Pos} (ho : OpZ X F (compareOp op) o) (ha : PE X a (tX X.K F fa)) (hb : PE X b (tX X.K F fb)) (hm : behindInMarks op b = false := by first | exact nomark _ | rfl) : PT X (.Compare a [op] [b] pos) (tB' X.K F (b1 (e2 o fa fb))) := by
  obtain ⟨r, h1, h2⟩ := ho
  exact PTimp (pt_cmpR h1 ha hb hm) fun σ H Q h => zop_core (f := compareOp op) h2 (b1_core h)
/-- a bool's value as a test -/
theorem ztv {e : Expr} {f : Ex} (h : PE X e (tX X.K F f)) (he : ∀ whole, isTrue e X.env whole = (do let v ← whole; standAt e.pos; holding [v] (truthy v)) := by intro _; rfl) : PT X e (tB' X.K F (b1 f)) :=
  PTimp (pt_val h he) fun σ H Q h => b1_core h

/-! ### and, or, not -/
def bAnd (f g : Fr → Hz → T Bool) : Fr → Hz → T Bool := fun fr hp => (f fr hp).bind fun b => bif b then g fr hp else .ret false
def bOr (f g : Fr → Hz → T Bool) : Fr → Hz → T Bool := fun fr hp => (f fr hp).bind fun b => bif b then .ret true else g fr hp
def bNot (f : Fr → Hz → T Bool) : Fr → Hz → T Bool := fun fr hp => (f fr hp).bind fun b => .ret (!b)
def vB (f : Fr → Hz → T Bool) : Ex := fun fr hp => (f fr hp).bind fun b => .ret (.bl b)
theorem bAnd_core {f g : Fr → Hz → T Bool} {σ : L2.St} {H : Hp} {Q : Bool → Hp → Prop} (h : tB' X.K F (bAnd f g) σ H Q) : tAnd (tB' X.K F f) (tB' X.K F g) σ H Q := by
  obtain ⟨ρ, m0, m1, fr, hp, a, h⟩ := h
  refine tB_mk a (T.all_bind h) fun b hb H' kp a' => ?_
  cases b with
  | true => exact tB_mk a' hb fun c hc H2 k2 a2 => hc H2 (kp.trans k2) a2.row
  | false => exact hb H' kp a'.row
theorem bOr_core {f g : Fr → Hz → T Bool} {σ : L2.St} {H : Hp} {Q : Bool → Hp → Prop} (h : tB' X.K F (bOr f g) σ H Q) : tOr (tB' X.K F f) (tB' X.K F g) σ H Q := by
  obtain ⟨ρ, m0, m1, fr, hp, a, h⟩ := h
  refine tB_mk a (T.all_bind h) fun b hb H' kp a' => ?_
  cases b with
  | false => exact tB_mk a' hb fun c hc H2 k2 a2 => hc H2 (kp.trans k2) a2.row
  | true => exact hb H' kp a'.row
theorem ztand1 {a : Expr} {f : Fr → Hz → T Bool} {pos : Pos} (h : PT X a (tB' X.K F f)) : PW X (.BoolOp .And [a] pos) (tB' X.K F f) := pw_and1 h
theorem ztor1 {a : Expr} {f : Fr → Hz → T Bool} {pos : Pos} (h : PT X a (tB' X.K F f)) : PW X (.BoolOp .Or [a] pos) (tB' X.K F f) := pw_or1 h
theorem ztand {a b : Expr} {rest : List Expr} {f g : Fr → Hz → T Bool} {pos : Pos} (h : PT X a (tB' X.K F f)) (hr : PW X (.BoolOp .And (b :: rest) pos) (tB' X.K F g)) : PW X (.BoolOp .And (a :: b :: rest) pos) (tB' X.K F (bAnd f g)) :=
  PWimp (pw_and h hr) fun σ H Q h => bAnd_core h
theorem ztor {a b : Expr} {rest : List Expr} {f g : Fr → Hz → T Bool} {pos : Pos} (h : PT X a (tB' X.K F f)) (hr : PW X (.BoolOp .Or (b :: rest) pos) (tB' X.K F g)) : PW X (.BoolOp .Or (a :: b :: rest) pos) (tB' X.K F (bOr f g)) :=
  PWimp (pw_or h hr) fun σ H Q h => bOr_core h
theorem ztnot {a : Expr} {f : Fr → Hz → T Bool} {pos : Pos} (h : PT X a (tB' X.K F f)) : PT X (.UnaryOp .Not a pos) (tB' X.K F (bNot f)) :=
  PTimp (pt_not h) fun σ H Q h => by
    obtain ⟨ρ, m0, m1, fr, hp, a, h⟩ := h
    exact tB_mk a (T.all_bind h) fun b hb H' kp a' => hb H' kp a'.row
/-- .. as values -/
theorem zone {op} {a : Expr} {f : Ex} {pos : Pos} (h : PE X a (tX X.K F f)) : PE X (.BoolOp op [a] pos) (tX X.K F f) := pe_one h
def eAnd (f g : Ex) : Ex := fun fr hp => (f fr hp).bind fun x => (asB x).bind fun b => bif b then g fr hp else .ret (.bl false)
def eOr (f g : Ex) : Ex := fun fr hp => (f fr hp).bind fun x => (asB x).bind fun b => bif b then .ret (.bl true) else g fr hp
def eNot (f : Ex) : Ex := fun fr hp => (f fr hp).bind fun x => (asB x).bind fun b => .ret (.bl (!b))
theorem zand {a b : Expr} {rest : List Expr} {f g : Ex} {pos : Pos} (h : PE X a (tX X.K F f)) (hr : PE X (.BoolOp .And (b :: rest) pos) (tX X.K F g)) : PE X (.BoolOp .And (a :: b :: rest) pos) (tX X.K F (eAnd f g)) :=
  PEimp (pe_and h hr) fun σ H Q h => by
    obtain ⟨ρ, m0, m1, fr, hp, a, h⟩ := h
    refine tX_mk a (T.all_bind h) fun d hd H' v kp a' r => ?_
    obtain ⟨c, rfl, k⟩ := all_asB (T.all_bind hd)
    cases r
    refine ⟨c, rfl, ?_⟩
    cases c with
    | true => exact tX_mk a' k fun e he H2 w k2 a2 r2 => he H2 w (kp.trans k2) a2.row r2
    | false => exact k H' _ kp a'.row (.bl false)
theorem zor {a b : Expr} {rest : List Expr} {f g : Ex} {pos : Pos} (h : PE X a (tX X.K F f)) (hr : PE X (.BoolOp .Or (b :: rest) pos) (tX X.K F g)) : PE X (.BoolOp .Or (a :: b :: rest) pos) (tX X.K F (eOr f g)) :=
  PEimp (pe_or h hr) fun σ H Q h => by
    obtain ⟨ρ, m0, m1, fr, hp, a, h⟩ := h
    refine tX_mk a (T.all_bind h) fun d hd H' v kp a' r => ?_
    obtain ⟨c, rfl, k⟩ := all_asB (T.all_bind hd)
    cases r
    refine ⟨c, rfl, ?_⟩
    cases c with
    | false => exact tX_mk a' k fun e he H2 w k2 a2 r2 => he H2 w (kp.trans k2) a2.row r2
    | true => exact k H' _ kp a'.row (.bl true)
theorem znot {a : Expr} {f : Ex} {pos : Pos} (h : PE X a (tX X.K F f)) : PE X (.UnaryOp .Not a pos) (tX X.K F (eNot f)) :=
  PEimp (pe_not h) fun σ H Q h => by
    obtain ⟨ρ, m0, m1, fr, hp, a, h⟩ := h
    refine tX_mk a (T.all_bind h) fun d hd H' v kp a' r => ?_
    obtain ⟨c, rfl, k⟩ := all_asB (T.all_bind hd)
    cases r
    exact ⟨c, rfl, k H' _ kp a'.row (.bl _)⟩
def eIf (t : Fr → Hz → T Bool) (f g : Ex) : Ex := fun fr hp => (t fr hp).bind fun b => bif b then f fr hp else g fr hp
theorem zif {c a b : Expr} {t : Fr → Hz → T Bool} {f g : Ex} {pos : Pos} (hc : PT X c (tB' X.K F t)) (ha : PE X a (tX X.K F f)) (hb : PE X b (tX X.K F g)) : PE X (.IfExp c a b pos) (tX X.K F (eIf t f g)) :=
  PEimp (pe_ifExp hc ha hb) fun σ H Q h => by
    obtain ⟨ρ, m0, m1, fr, hp, a, h⟩ := h
    refine tB_mk a (T.all_bind h) fun b hb H' kp a' => ?_
    cases b with
    | true => exact tX_mk a' hb fun e he H2 w k2 a2 r2 => he H2 w (kp.trans k2) a2.row r2
    | false => exact tX_mk a' hb fun e he H2 w k2 a2 r2 => he H2 w (kp.trans k2) a2.row r2

/-! ### argument lists, displays -/
def aN : Fr → Hz → T (List D) := fun _ _ => .ret []
def aC (f : Ex) (g : Fr → Hz → T (List D)) : Fr → Hz → T (List D) := fun fr hp => (f fr hp).bind fun x => (g fr hp).bind fun xs => .ret (x :: xs)
theorem zan : PA X [] (tAs X.K F aN) := PAimp pa_nil fun σ H Q h => by
  obtain ⟨ρ, m0, m1, fr, hp, a, h⟩ := h
  exact h H [] (Keep.refl _ _) a.row .nil
theorem zac {e : Expr} {es : List Expr} {f : Ex} {g : Fr → Hz → T (List D)} (ha : PE X e (tX X.K F f)) (hr : PA X es (tAs X.K F g)) (hs : starEach (e :: es) X.env = (false, eval e X.env) :: starEach es X.env := by rfl) : PA X (e :: es) (tAs X.K F (aC f g)) :=
  PAimp (pa_cons ha hr hs) fun σ H Q h => by
    obtain ⟨ρ, m0, m1, fr, hp, a, h⟩ := h
    refine tX_mk a (T.all_bind h) fun x hx H1 v k1 a1 rx => ?_
    refine tAs_mk a1 (T.all_bind hx) fun xs hxs H2 vs k2 a2 rxs => ?_
    exact hxs H2 (v :: vs) (k1.trans k2) a2.row (.cons (rx.on a1.own k2) rxs)
/-- a length that is surely in bounds -/
def few {α : Type} : List α → Nat → Bool
  | [], _ => true
  | _ :: _, 0 => false
  | _ :: r, n + 1 => few r n
theorem few_le {α : Type} : ∀ {l : List α} {n : Nat}, few l n = true → l.length ≤ n
  | [], _, _ => Nat.zero_le _
  | _ :: _, 0, h => by cases h
  | _ :: r, n + 1, h => Nat.succ_le_succ (few_le (l := r) h)
def guardT {α : Type} (b : Bool) (t : T α) : T α := bif b then t else .fail
theorem all_guard {α : Type} {b : Bool} {t : T α} {P : α → Prop} (h : (guardT b t).all P) : b = true ∧ t.all P := by
  cases b with
  | true => exact ⟨rfl, h⟩
  | false => exact h.elim
theorem few_sz {α : Type} {l : List α} (h : few l 10000 = true) : l.length ≤ sizeLine := Nat.le_trans (few_le h) (by decide)
def eT (g : Fr → Hz → T (List D)) : Ex := fun fr hp => (g fr hp).bind fun xs => guardT (few xs 10000) (.ret (.tup xs))
def nL (g : Fr → Hz → T (List D)) : Fr → Hz → T (List D) := fun fr hp => (g fr hp).bind fun xs => guardT (few xs 10000) (.ret xs)
/-- a tuple laid new: its object is known -/
theorem layTup {pins : List (Addr × Obj)} {σ : L2.St} {H : Hp} {s : Shared} (I : Inv X pins σ H s) {vs : List V} {us : List Value} (r : Vals vs us) (z : vs.length ≤ sizeLine) :
    Inv X pins σ (upd H s.heap.objs.size (.frz { cls := .type "tuple", data := .seq us.toArray } (.tup vs))) { s with heap := s.heap.push { cls := .type "tuple", data := .seq us.toArray } } :=
  I.laid (t' := s.toks) (fun _ _ e => Heap.get?_push_of_some _ e) (Nat.le_refl _) ⟨Heap.get?_push_size _ rfl, z, us, r, IsTup.new _ _⟩
def tTupF (t : TA) : TE := fun σ H Q => t σ H fun xs H1 => xs.length ≤ sizeLine ∧ ∀ p o, H1 p = none → o.dict = none → Q (.ref p) (upd H1 p (.frz o (.tup xs)))
theorem pe_tupF {es : List Expr} {t : TA} {x1} {pos : Pos} (h : PA X es t) : PE X (.Tuple es x1 pos) (tTupF t) := by
  constructor
  intro pins s σ H Q I hq
  refine wpAny_Tuple_spliced (thn (h.run pos pins s σ H _ I hq) fun us s1 hh => ?_)
  obtain ⟨xs, H1, I1, r, z, q⟩ := hh
  exact ⟨by rw [← r.length]; exact z, .ref s1.heap.objs.size, _, layTup I1 r z, rfl, q _ _ (I1.hok.fresh (Nat.le_refl _)) rfl⟩
theorem zt {es : List Expr} {g : Fr → Hz → T (List D)} {x1} {pos : Pos} (h : PA X es (tAs X.K F g)) : PE X (.Tuple es x1 pos) (tX X.K F (eT g)) :=
  PEimp (pe_tupF h) fun σ H Q h => by
    obtain ⟨ρ, m0, m1, fr, hp, a, h⟩ := h
    refine tAs_mk a (T.all_bind h) fun ds hd H1 vs k1 a1 r => ?_
    obtain ⟨hf, k⟩ := all_guard hd
    refine ⟨by rw [r.length]; exact few_sz hf, fun p o hp ho => ?_⟩
    obtain ⟨k2, a2⟩ := a1.upd (o := .frz o (.tup vs)) hp
    exact k _ _ (k1.trans k2) a2.row (.tup (a1.sim.new hp) (.new ho) (r.on a1.own k2))
theorem zl {es : List Expr} {g : Fr → Hz → T (List D)} {pos : Pos} (h : PA X es (tAs X.K F g)) : PE X (.List es pos) (tN X.K F (nL g)) :=
  PEimp (pe_lst h) fun σ H Q h => by
    obtain ⟨ρ, m0, m1, fr, hp, a, h⟩ := h
    refine tAs_mk a (T.all_bind h) fun ds hd H1 vs k1 a1 r => ?_
    obtain ⟨hf, k⟩ := all_guard hd
    refine ⟨by rw [r.length]; exact few_sz hf, fun p hp => ?_⟩
    obtain ⟨k2, a2⟩ := a1.upd (o := .lst vs) hp
    exact k _ p vs (k1.trans k2) a2.row (a.free k1 a1.row hp) upd_same (r.more hp (same_new hp))

/-! ### calls of defs -/
/-- a def whose answer is f of its arguments; nothing that stands is changed -/
def spP (K : PySem.W.Frag) (F : Nat → Option Addr) (f : List D → T D) (n : Nat) : Sp := fun vs H Q _ => vs.length = n ∧ ∃ m ds, (∀ a ∈ m, H a ≠ none) ∧ Reps K F m H vs ds ∧ (f ds).all fun d => ∀ H' v, Same H H' → Rep K F m H' v d → Q v H'
def eCall (f : List D → T D) (n : Nat) (g : Fr → Hz → T (List D)) : Ex := fun fr hp => (g fr hp).bind fun ds => guardT (Nat.beq ds.length n) (f ds)
theorem zcall_core {f : List D → T D} {n : Nat} {g : Fr → Hz → T (List D)} {σ : L2.St} {H : Hp} {Q : VK} {E : XK} (h : tX X.K F (eCall f n g) σ H Q) : tCall (spP X.K F f n) [] E (tAs X.K F g) σ H Q := by
  obtain ⟨ρ, m0, m1, fr, hp, a, h⟩ := h
  refine tAs_mk a (T.all_bind h) fun ds hd H1 vs k1 a1 r => ?_
  obtain ⟨hn, k⟩ := all_guard hd
  rw [List.append_nil]
  refine ⟨by rw [r.length]; exact Nat.eq_of_beq_eq_true hn, m0 ++ m1, ds, a1.sim.dom, r, T.all_mono (fun d hd H' v sm rv => ?_) k⟩
  exact hd H' v (k1.trans (.of sm)) (a1.row.same sm) rv
theorem zcall {e : Expr} {es : List Expr} {x : Str} {p pos : Pos} {f : List D → T D} {n k : Nat} {fa : Addr} {fd : FuncData} {ps : List Str} {g : Fr → Hz → T (List D)} (G : FnOk X.prog X.w X.K X.mg X.base CX0 k fa fd ps (spP X.K F f n)) (hr : Room k X.A) (hg : Gl X x) (hm : X.mg x = some (.ref fa))
    (hk : PySem.W.keepIn X.K (.ref fa) = true) (hb : Binds X.K fd ps []) (ha : PA X (e :: es) (tAs X.K F g)) (hdb : (x == ("__debug__" : Str)) = false := by decide) (he : starEach (e :: es) X.env = (false, eval e X.env) :: starEach es X.env := by rfl) (hpl : (backTo pos (starEach es X.env)).any (·.1) = false := by rfl) :
    PE X (.Call (.Name x p) (e :: es) [] pos) (tX X.K F (eCall f n g)) :=
  PEimp (pe_call (E := E0) G hr hg hm hk hb .nil pass0 ha hdb he hpl) fun σ H Q h => zcall_core h
theorem zcall0 {x : Str} {p pos : Pos} {f : List D → T D} {k : Nat} {fa : Addr} {fd : FuncData} {ps : List Str} (G : FnOk X.prog X.w X.K X.mg X.base CX0 k fa fd ps (spP X.K F f 0)) (hr : Room k X.A) (hg : Gl X x) (hm : X.mg x = some (.ref fa))
    (hk : PySem.W.keepIn X.K (.ref fa) = true) (hb : Binds X.K fd ps []) (hdb : (x == ("__debug__" : Str)) = false := by decide) :
    PE X (.Call (.Name x p) [] [] pos) (tX X.K F (eCall f 0 aN)) :=
  PEimp (pe_call0 (E := E0) G hr hg hm hk hb .nil pass0 hdb) fun σ H Q h => by
    have h := zcall_core (E := E0) h
    obtain ⟨ρ, m0, m1, fr, hp, a, h⟩ := h
    exact h H [] (Keep.refl _ _) a.row .nil
end
end Zl

set_option Elab.async false
set_option linter.all false
set_option maxRecDepth 100000
set_option maxHeartbeats 1000000
/-! Z3: statements, loops, comprehensions, defs. -/
namespace Zl
open PySem L2

/-- how a statement ends -/
inductive Out where
  | nx (fr : Fr) (hp : Hz) | rt (d : D) | bk (fr : Fr) (hp : Hz) | ct (fr : Fr) (hp : Hz)
abbrev Sm := Fr → Hz → T Out
/-- the frame's own objects: those that were, and new ones -/
structure Grow (ρ : Option Addr) (m1 : List Addr) (H : Hp) (m1' : List Addr) (H' : Hp) : Prop where
  keep : ∀ a o, ρ ≠ some a → a ∉ m1 → H a = some o → H' a = some o
  new : ∀ a, a ∈ m1' → a ∈ m1 ∨ H a = none
theorem Grow.of {ρ : Option Addr} {m1 : List Addr} {H H' : Hp} (k : Keep ρ H H') : Grow ρ m1 H m1 H' := ⟨fun a o n _ e => k a o n e, fun _ h => .inl h⟩
theorem Grow.refl (ρ : Option Addr) (m1 : List Addr) (H : Hp) : Grow ρ m1 H m1 H := .of (.refl ρ H)
theorem Grow.on {ρ : Option Addr} {m1 m2 : List Addr} {H H1 H2 : Hp} (x : Grow ρ m1 H m2 H1) (y : ∀ a o, ρ ≠ some a → a ∉ m2 → H1 a = some o → H2 a = some o) : ∀ a o, ρ ≠ some a → a ∉ m1 → H a = some o → H2 a = some o := fun a o hr n e =>
  y a o hr (fun q => (x.new a q).elim n fun z => by rw [z] at e; cases e) (x.keep a o hr n e)
theorem Grow.trans {ρ : Option Addr} {m1 m2 m3 : List Addr} {H H1 H2 : Hp} (hr : ∀ a, ρ = some a → H1 a ≠ none) (x : Grow ρ m1 H m2 H1) (y : Grow ρ m2 H1 m3 H2) : Grow ρ m1 H m3 H2 := ⟨x.on y.keep, fun a q => by
  by_cases n : a ∈ m1
  · exact .inl n
  · rcases y.new a q with z | z
    · exact x.new a z
    · refine .inr ?_
      cases e : H a with
      | none => rfl
      | some o =>
        by_cases hq : ρ = some a
        · exact absurd z (hr a hq)
        · rw [x.keep a o hq n e] at z; cases z⟩
section
variable (K : PySem.W.Frag) (F : Nat → Option Addr)
def PostS (ρ : Option Addr) (m0 m1 : List Addr) (H : Hp) (D : Ends) : Out → Prop
  | .nx fr hp => ∀ m1' H' σ', Grow ρ m1 H m1' H' → At K F ρ m0 m1' H' σ' fr hp → D.nx σ' H'
  | .rt d => ∀ H' v, (∀ a o, ρ ≠ some a → a ∉ m1 → H a = some o → H' a = some o) → RowA K ρ H' → Rep K F m0 H' v d → D.rt v H'
  | .bk fr hp => ∀ m1' H' σ', Grow ρ m1 H m1' H' → At K F ρ m0 m1' H' σ' fr hp → D.bk σ' H'
  | .ct fr hp => ∀ m1' H' σ', Grow ρ m1 H m1' H' → At K F ρ m0 m1' H' σ' fr hp → D.ct σ' H'
def tS (g : Sm) : TS := fun D σ H => ∃ ρ m0 m1 fr hp, At K F ρ m0 m1 H σ fr hp ∧ (g fr hp).all (PostS K F ρ m0 m1 H D)
end
section
variable {K : PySem.W.Frag} {F : Nat → Option Addr} {ρ : Option Addr} {m0 m1 m2 : List Addr} {H H1 H2 : Hp} {σ : L2.St} {fr : Fr} {hp : Hz} {D : Ends}
theorem At.rowN (a : At K F ρ m0 m1 H σ fr hp) : ∀ b, ρ = some b → H b ≠ none := fun b e z => by
  obtain ⟨_, _, _, _, _, e1, _⟩ := a.row b e
  rw [e1] at z; cases z
theorem PostS.on (hr : ∀ a, ρ = some a → H1 a ≠ none) (x : Grow ρ m1 H m2 H1) {o : Out} (h : PostS K F ρ m0 m1 H D o) : PostS K F ρ m0 m2 H1 D o := by
  cases o with
  | nx fr hp => exact fun m' H' σ' g a => h m' H' σ' (.trans hr x g) a
  | bk fr hp => exact fun m' H' σ' g a => h m' H' σ' (.trans hr x g) a
  | ct fr hp => exact fun m' H' σ' g a => h m' H' σ' (.trans hr x g) a
  | rt d => exact fun H' v k w r => h H' v (x.on k) w r
theorem tS_mk {g : Sm} (a : At K F ρ m0 m1 H σ fr hp) (x : Grow ρ m2 H2 m1 H) (h : (g fr hp).all (PostS K F ρ m0 m2 H2 D)) : tS K F g D σ H :=
  ⟨ρ, m0, m1, fr, hp, a, T.all_mono (fun _ q => q.on a.rowN x) h⟩
end
def seqO (g : Sm) : Out → T Out
  | .nx fr hp => g fr hp
  | o => .ret o
def sSeq (f g : Sm) : Sm := fun fr hp => (f fr hp).bind (seqO g)
def sNil : Sm := fun fr hp => .ret (.nx fr hp)
section
variable {X : Cx} {F : Nat → Option Addr}
theorem znil : PSs X [] (tS X.K F sNil) := PSsimp pss_nil fun D σ H h => by
  obtain ⟨ρ, m0, m1, fr, hp, a, h⟩ := h
  exact h m1 H σ (.refl _ _ _) a
theorem seq_core {f g : Sm} {D : Ends} {σ : L2.St} {H : Hp} (h : tS X.K F (sSeq f g) D σ H) : tSeq (tS X.K F f) (tS X.K F g) D σ H := by
  obtain ⟨ρ, m0, m1, fr, hp, a, h⟩ := h
  refine ⟨ρ, m0, m1, fr, hp, a, T.all_mono (fun o q => ?_) (T.all_bind h)⟩
  cases o with
  | nx fr' hp' => exact fun m1' H' σ' gr a' => tS_mk a' gr q
  | rt d => exact q
  | bk fr' hp' => exact q
  | ct fr' hp' => exact q
theorem zcons {st : Stmt} {rest : List Stmt} {f g : Sm} (h1 : PS X st (tS X.K F f)) (h2 : PSs X rest (tS X.K F g)) : PSs X (st :: rest) (tS X.K F (sSeq f g)) :=
  PSsimp (pss_cons h1 h2) fun D σ H h => seq_core h
theorem zlast {st : Stmt} {f : Sm} (h1 : PS X st (tS X.K F f)) : PSs X [st] (tS X.K F f) := pss_one h1

/-! ### targets -/
def setN {α : Type} : List α → Nat → α → List α
  | [], _, _ => []
  | _ :: r, 0, x => x :: r
  | y :: r, n + 1, x => y :: setN r n x
theorem setN_eq {α : Type} : ∀ (l : List α) (i : Nat) (x : α), setN l i x = l.set i x
  | [], _, _ => rfl
  | _ :: _, 0, _ => rfl
  | y :: r, n + 1, x => congrArg (y :: ·) (setN_eq r n x)
theorem FrR.set {K : PySem.W.Frag} {ρ : Option Addr} {m0 m1 : List Addr} {H : Hp} {σ : L2.St} {fr : Fr} (a : FrR K F ρ m0 m1 H σ fr) (i : Nat) {v : V} {s : SV} (r : RepS K F ρ m0 m1 H v s) : FrR K F ρ m0 m1 H (σ.set i (some v)) (setN fr i (some s)) := by
  refine ⟨by rw [setN_eq]; simpa using a.len, fun j s' e => ?_⟩
  rw [setN_eq] at e
  by_cases hj : i = j
  · subst hj
    rw [List.getElem?_set] at e
    simp only [if_true] at e
    split at e
    · rename_i hl
      cases e
      refine ⟨v, ?_, r⟩
      rw [List.getElem?_set]
      simp [a.len, hl]
    · cases e
  · rw [List.getElem?_set_ne hj] at e
    obtain ⟨v', e1, r'⟩ := a.slot j s' e
    exact ⟨v', by rw [List.getElem?_set_ne hj]; exact e1, r'⟩
/-- a value, or (an iterator's own pair) a tuple of values -/
def RepL (K : PySem.W.Frag) (F : Nat → Option Addr) (L : Bool) (m : List Addr) (H : Hp) (v : V) (d : Zl.D) : Prop := Rep K F m H v d ∨ (L = true ∧ ∃ a vs ds, v = .ref a ∧ d = .tup ds ∧ SqT K H a vs ∧ Reps K F m H vs ds)
theorem RepL.rep {K : PySem.W.Frag} {F : Nat → Option Addr} {m : List Addr} {H : Hp} {v : V} {d : Zl.D} (h : RepL K F false m H v d) : Rep K F m H v d := h.elim id fun z => nomatch z.1
theorem RepL.tupR {K : PySem.W.Frag} {F : Nat → Option Addr} {L : Bool} {m : List Addr} {H : Hp} {v : V} {ds : List Zl.D} (h : RepL K F L m H v (.tup ds)) : ∃ a vs, v = .ref a ∧ SqT K H a vs ∧ Reps K F m H vs ds := by
  rcases h with h | ⟨_, a, vs, es, e1, e2, h1, h2⟩
  · exact h.tupR
  · cases e2
    exact ⟨a, vs, e1, h1, h2⟩
/-- a target's reading: the slots behind the store -/
def TgR (K : PySem.W.Frag) (F : Nat → Option Addr) (L : Bool) (set : Zl.D → Fr → T Fr) (g : TG) : Prop :=
  ∀ (ρ : Option Addr) (m0 m1 : List Addr) (H : Hp) (σ : L2.St) (fr : Fr) (v : V) (d : Zl.D) (Q : L2.St → Hp → Prop), FrR K F ρ m0 m1 H σ fr → RepL K F L (m0 ++ m1) H v d → (set d fr).all (fun fr' => ∀ σ', FrR K F ρ m0 m1 H σ' fr' → Q σ' H) → g v σ H Q
def gI (i : Nat) : Zl.D → Fr → T Fr := fun d fr => .ret (setN fr i (some (.v d)))
theorem zg_name {K : PySem.W.Frag} (i : Nat) : TgR K F false (gI i) (gName i) := fun ρ m0 m1 H σ fr v d Q a r h => h _ (FrR.set (s := .v d) a i r.rep)
/-- (i, j) = a pair -/
def g2 (i j : Nat) : Zl.D → Fr → T Fr := fun d fr => match d with
  | .tup [x, y] => .ret (setN (setN fr i (some (.v x))) j (some (.v y)))
  | _ => .fail
theorem zg_pair {K : PySem.W.Frag} {L : Bool} (i j : Nat) : TgR K F L (g2 i j) (gTup K 2 (gCons (gName i) (gCons (gName j) gNil))) := fun ρ m0 m1 H σ fr v d Q a r h => by
  unfold g2 at h
  split at h
  · rename_i x y
    obtain ⟨b, vs, rfl, hs, rs⟩ := r.tupR
    cases rs with
    | cons r1 rs =>
      cases rs with
      | cons r2 rs =>
        cases rs
        exact ⟨b, _, rfl, hs, rfl, _, _, rfl, _, _, rfl, rfl, h _ (FrR.set (s := .v y) (FrR.set (s := .v x) a i r1) j r2)⟩
  · exact h.elim

/-! ### simple statements -/
def sSet (i : Nat) (f : Ex) : Sm := fun fr hp => (f fr hp).bind fun d => .ret (.nx (setN fr i (some (.v d))) hp)
theorem set_core {f : Ex} {i : Nat} {D : Ends} {σ : L2.St} {H : Hp} (h : tS X.K F (sSet i f) D σ H) : tAsg (tX X.K F f) (gName i) D σ H := by
  obtain ⟨ρ, m0, m1, fr, hp, a, h⟩ := h
  exact tX_mk a (T.all_bind h) fun d hd H' v kp a' r => hd m1 H' _ (.of kp) ⟨a'.fr.set i r, a'.sim, a'.row, a'.own⟩
theorem zset {i : Nat} {x : Str} {e : Expr} {f : Ex} {pos pos' : Pos} (hN : X.N.Nodup) (hi : X.N[i]? = some x) (hx : Loc X.env.scope x) (he : PE X e (tX X.K F f)) (hs : swapsWith e (some (.Name x pos')) pos.line X.env = pure false := by rfl)
    (hf : X.fn x = true ∨ X.env.scope.names.lookup x = some .local := by first | exact .inl rfl | exact .inr rfl | assumption) : PS X (.Assign [.Name x pos'] e pos) (tS X.K F (sSet i f)) :=
  PSimp (ps_set hN hi hx he hs hf) fun D σ H h => set_core h
/-- a new list of the frame's own -/
def sNew (i : Nat) (f : Fr → Hz → T (List Zl.D)) : Sm := fun fr hp => (f fr hp).bind fun xs => .ret (.nx (setN fr i (some (.r hp.length))) (hp ++ [xs]))
theorem At.more {K : PySem.W.Frag} {ρ : Option Addr} {m0 m1 : List Addr} {H H' : Hp} {σ : L2.St} {fr : Fr} {hp : Hz} {b : Addr} {vs : List V} {ds : List Zl.D} (a : At K F ρ m0 m1 H σ fr hp) (kp : Keep ρ H H') (w : RowA K ρ H') (hb : H b = none) (hl : H' b = some (.lst vs)) (r : Reps K F (m0 ++ (m1 ++ [b])) H' vs ds) (i : Nat) :
    Grow ρ m1 H (m1 ++ [b]) H' ∧ At K F ρ m0 (m1 ++ [b]) H' (σ.set i (some (.ref b))) (setN fr i (some (.r hp.length))) (hp ++ [ds]) := by
  have hbm := a.sim.new hb
  have a' := a.on kp w
  have lift : ∀ {v : V} {d : Zl.D}, Rep K F (m0 ++ m1) H v d → Rep K F (m0 ++ (m1 ++ [b])) H' v d := fun {v d} h =>
    Rep.keep (fun c q => by
      rcases List.mem_append.mp q with z | z
      · exact .inl (List.mem_append_left _ z)
      · rcases List.mem_append.mp z with z | z
        · exact .inl (List.mem_append_right _ z)
        · have : c = b := by simpa using z
          subst this
          exact .inr hb) (fun c o n e => kp c o (fun z => n (List.mem_append_left _ (a.own c z))) e) d v h
  have lifts : ∀ {v : List V} {d : List Zl.D}, Reps K F (m0 ++ m1) H v d → Reps K F (m0 ++ (m1 ++ [b])) H' v d := fun {v d} h =>
    Reps.keep (fun c q => by
      rcases List.mem_append.mp q with z | z
      · exact .inl (List.mem_append_left _ z)
      · rcases List.mem_append.mp z with z | z
        · exact .inl (List.mem_append_right _ z)
        · have : c = b := by simpa using z
          subst this
          exact .inr hb) (fun c o n e => kp c o (fun z => n (List.mem_append_left _ (a.own c z))) e) d v h
  refine ⟨⟨fun c o n _ e => kp c o n e, fun c q => ?_⟩, ⟨by rw [setN_eq]; simpa using a.fr.len, fun j s e => ?_⟩, ⟨by simp [a.sim.len], ?_, fun c h1 h2 => ?_, fun c q z => ?_, fun n c e => ?_⟩, w, a.own⟩
  · rcases List.mem_append.mp q with z | z
    · exact .inl z
    · have : c = b := by simpa using z
      subst this
      exact .inr hb
  · rw [setN_eq] at e
    by_cases hj : i = j
    · subst hj
      rw [List.getElem?_set] at e
      simp only [if_true] at e
      split at e
      · rename_i hlt
        cases e
        refine ⟨.ref b, ?_, b, ?_, rfl⟩
        · rw [List.getElem?_set]
          simp [a.fr.len, hlt]
        · rw [← a.sim.len]
          simp
      · cases e
    · rw [List.getElem?_set_ne hj] at e
      obtain ⟨v', e1, r'⟩ := a.fr.slot j s e
      refine ⟨v', by rw [List.getElem?_set_ne hj]; exact e1, ?_⟩
      cases s with
      | r n =>
        obtain ⟨c, e2, e3⟩ := r'
        refine ⟨c, ?_, e3⟩
        have : n < m1.length := (List.getElem?_eq_some_iff.mp e2).1
        rw [List.getElem?_append_left this]
        exact e2
      | v d => exact lift r'
      | row => exact r'
  · refine List.nodup_append.mpr ⟨a.sim.nd, by simp, fun x hx y hy z => ?_⟩
    have : y = b := by simpa using hy
    subst this
    subst z
    exact hbm (List.mem_append_right _ hx)
  · rcases List.mem_append.mp h2 with z | z
    · exact a.sim.dis c h1 z
    · have : c = b := by simpa using z
      subst this
      exact hbm (List.mem_append_left _ h1)
  · rcases List.mem_append.mp q with y | y
    · exact a'.sim.dom c (List.mem_append_left _ y) z
    · rcases List.mem_append.mp y with y | y
      · exact a'.sim.dom c (List.mem_append_right _ y) z
      · have : c = b := by simpa using y
        subst this
        rw [hl] at z; cases z
  · by_cases hn : n < hp.length
    · rw [List.getElem?_append_left hn] at e
      obtain ⟨c1, e1, vs1, e2, r1⟩ := a.sim.cell n c e
      have hm : c1 ∈ m1 := List.mem_of_getElem? e1
      refine ⟨c1, ?_, vs1, kp c1 _ (fun z => a.sim.dis c1 (a.own c1 z) hm) e2, lifts r1⟩
      rw [List.getElem?_append_left (by rw [a.sim.len]; exact hn)]
      exact e1
    · have en : n = hp.length := by
        have := (List.getElem?_eq_some_iff.mp e).1
        simp at this
        omega
      subst en
      have ec : c = ds := by simpa using e.symm
      subst ec
      exact ⟨b, by rw [← a.sim.len]; simp, vs, hl, r⟩
theorem new_core {f : Fr → Hz → T (List Zl.D)} {i : Nat} {D : Ends} {σ : L2.St} {H : Hp} (h : tS X.K F (sNew i f) D σ H) : tAsg (tN X.K F f) (gName i) D σ H := by
  obtain ⟨ρ, m0, m1, fr, hp, a, h⟩ := h
  refine tN_mk a (T.all_bind h) fun ds hd H' b vs kp a' hb hl r => ?_
  obtain ⟨g, at'⟩ := a.more kp a'.row hb hl r i
  exact hd _ H' _ g at'
theorem znew {i : Nat} {x : Str} {e : Expr} {f : Fr → Hz → T (List Zl.D)} {pos pos' : Pos} (hN : X.N.Nodup) (hi : X.N[i]? = some x) (hx : Loc X.env.scope x) (he : PE X e (tN X.K F f)) (hs : swapsWith e (some (.Name x pos')) pos.line X.env = pure false := by rfl)
    (hf : X.fn x = true ∨ X.env.scope.names.lookup x = some .local := by first | exact .inl rfl | exact .inr rfl | assumption) : PS X (.Assign [.Name x pos'] e pos) (tS X.K F (sNew i f)) :=
  PSimp (ps_set hN hi hx he hs hf) fun D σ H h => new_core h
def sRet (f : Ex) : Sm := fun fr hp => (f fr hp).bind fun d => .ret (.rt d)
theorem zret {e : Expr} {f : Ex} {pos : Pos} (he : PE X e (tX X.K F f)) : PS X (.Return (some e) pos) (tS X.K F (sRet f)) := PSimp (ps_ret he) fun D σ H h => by
  obtain ⟨ρ, m0, m1, fr, hp, a, h⟩ := h
  exact tX_mk a (T.all_bind h) fun d hd H' v kp a' r => hd H' v (fun b o n _ e => kp b o n e) a'.row (r.sub fun _ q => List.mem_append_left _ q)
/-- a list of the frame's own is handed back -/
def sRetL (i : Nat) : Sm := fun fr hp => match gt fr i with
  | some (.r n) => (ofO hp[n]?).bind fun xs => .ret (.rt (.lst xs))
  | _ => .fail
theorem zretl {x : Str} {pos pos' : Pos} (i : Nat) (hN : X.N[i]? = some x := by rfl) (hv : Vis X.env.scope x := by first | exact Or.inl rfl | exact Or.inr (Or.inl rfl) | exact Or.inr (Or.inr rfl)) (hd : (x == ("__debug__" : Str)) = false := by decide)
    (hcd : (x == ("__classdict__" : Str)) = false := by decide) : PS X (.Return (some (.Name x pos')) pos) (tS X.K F (sRetL i)) := PSimp (ps_ret (pe_var hN hv hd hcd)) fun D σ H h => by
  obtain ⟨ρ, m0, m1, fr, hp, a, h⟩ := h
  unfold sRetL at h
  split at h
  · rename_i n e
    obtain ⟨xs, e4, h⟩ := all_ofO (T.all_bind h)
    obtain ⟨v, e1, b, e2, e3⟩ := a.get e
    obtain ⟨b', e5, vs, e6, r6⟩ := a.sim.cell n _ e4
    rw [e2] at e5
    cases e5
    subst e3
    exact ⟨_, e1, h H _ (fun _ _ _ _ e => e) a.row (.lst (fun q => a.sim.dis b q (List.mem_of_getElem? e2)) e6 (r6.sub fun _ q => List.mem_append_left _ q))⟩
  · exact h.elim
def sRetN : Sm := fun _ _ => .ret (.rt .non)
theorem zretn {pos : Pos} : PS X (.Return none pos) (tS X.K F sRetN) := PSimp ps_retN fun D σ H h => by
  obtain ⟨ρ, m0, m1, fr, hp, a, h⟩ := h
  exact h H .non (fun _ _ _ _ e => e) a.row .non
def sIf (t : Fr → Hz → T Bool) (f g : Sm) : Sm := fun fr hp => (t fr hp).bind fun b => bif b then f fr hp else g fr hp
theorem zifs {c : Expr} {x y : List Stmt} {t : Fr → Hz → T Bool} {f g : Sm} {pos : Pos} (hc : PT X c (tB' X.K F t)) (hx : PSs X x (tS X.K F f)) (hy : PSs X y (tS X.K F g)) : PS X (.If c x y pos) (tS X.K F (sIf t f g)) := PSimp (ps_if hc hx hy) fun D σ H h => by
  obtain ⟨ρ, m0, m1, fr, hp, a, h⟩ := h
  refine tB_mk a (T.all_bind h) fun b hb H' kp a' => ?_
  cases b with
  | true => exact tS_mk a' (.of kp) hb
  | false => exact tS_mk a' (.of kp) hb
def sDrop (f : Ex) : Sm := fun fr hp => (f fr hp).bind fun _ => .ret (.nx fr hp)
theorem zdrop {e : Expr} {f : Ex} {pos : Pos} (he : PE X e (tX X.K F f)) (hs : swapsWith e none pos.line X.env = pure false := by rfl) : PS X (.Expr e pos) (tS X.K F (sDrop f)) := PSimp (ps_expr he hs) fun D σ H h => by
  obtain ⟨ρ, m0, m1, fr, hp, a, h⟩ := h
  exact tX_mk a (T.all_bind h) fun d hd H' v kp a' r => hd m1 H' _ (.of kp) a'
def sFail : Sm := fun _ _ => .fail
/-- what is never come to -/
theorem znever {st : Stmt} : PS X st (tS X.K F sFail) := PSimp ps_never fun D σ H h => by
  obtain ⟨ρ, m0, m1, fr, hp, a, h⟩ := h
  exact h.elim
def sBrk : Sm := fun fr hp => .ret (.bk fr hp)
def sCnt : Sm := fun fr hp => .ret (.ct fr hp)

/-! ### defs -/
def retOf : Out → T Zl.D
  | .rt d => .ret d
  | .nx _ _ => .ret .non
  | _ => .fail
def argFr (n : Nat) : List Zl.D → Fr
  | d :: ds => some (.v d) :: argFr (n - 1) ds
  | [] => List.replicate n none
/-- a def's body, run from its arguments -/
def runB (g : Sm) (n : Nat) : List Zl.D → T Zl.D := fun ds => (g (argFr n ds) []).bind retOf
theorem argFr_eq : ∀ (n : Nat) (ds : List Zl.D), argFr n ds = ds.map (fun d => some (.v d)) ++ List.replicate (n - ds.length) none
  | n, [] => by simp [argFr]
  | n, d :: ds => by
    rw [argFr, argFr_eq (n - 1) ds]
    simp [Nat.sub_sub, Nat.add_comm]
theorem startFr {K : PySem.W.Frag} {m : List Addr} {H : Hp} {N : List Str} {vs : List V} {ds : List Zl.D} (r : Reps K F m H vs ds) : FrR K F none m [] H (L2.start N vs) (argFr N.length ds) := by
  rw [argFr_eq]
  unfold L2.start
  refine ⟨by simp [r.length], fun i s e => ?_⟩
  by_cases hi : i < ds.length
  · rw [List.getElem?_append_left (by simpa using hi), List.getElem?_map] at e
    cases q : ds[i]? with
    | none => rw [q] at e; cases e
    | some d =>
      rw [q] at e
      have e : SV.v d = s := by simpa using e
      subst e
      obtain ⟨v, e1, r1⟩ := r.get q
      have hv : i < vs.length := by rw [r.length]; exact hi
      refine ⟨v, ?_, ?_⟩
      · rw [List.getElem?_append_left (by simpa using hv), List.getElem?_map, e1]
        rfl
      · show Rep K F (m ++ []) H v d
        rw [List.append_nil]
        exact r1
  · rw [List.getElem?_append_right (by simpa using hi)] at e
    rw [List.getElem?_replicate] at e
    split at e <;> cases e
theorem run_core {K : PySem.W.Frag} {g : Sm} {N : List Str} {vs : List V} {H : Hp} {Q : VK} {E : XK} {n : Nat} (h : spP K F (runB g N.length) n vs H Q E) : tS K F g { nx := fun _ H' => Q .non H', rt := Q } (L2.start N vs) H := by
  obtain ⟨_, m, ds, dom, r, h⟩ := h
  refine ⟨none, m, [], argFr N.length ds, [], ⟨startFr r, ⟨rfl, .nil, fun a _ q => by simp at q, fun a q => dom a (by simpa using q), fun n c e => by simp at e⟩, (fun a e => nomatch e), (fun a e => nomatch e)⟩, ?_⟩
  refine T.all_mono (fun o q => ?_) (T.all_bind h)
  cases o with
  | nx fr hp => exact fun m1' H' σ' gr a => q H' .non (fun a o e => gr.keep a o (fun z => nomatch z) (by simp) e) .non
  | rt d => exact fun H' v k w r => q H' v (fun a o e => k a o (fun z => nomatch z) (by simp) e) r
  | bk fr hp => exact q.elim
  | ct fr hp => exact q.elim
/-- THE RULE for a def -/
theorem zdef {P : Program} {w : World} {K : PySem.W.Frag} {mg : Str → Option Value} {base : Heap} {x qual : Str} {st : Stmt} {f : Addr} {fd : FuncData} {N ps : List Str} {k : Nat} {g : Sm} (Fn : L2.Fun K x qual st f fd) (S : FnScope N ps (defScope st))
    (hb : ∀ (cdv : Value) (A : Around) (outer : List Env) (s : Shared) (H : Hp) (E : XK), Room k (A.deeper (PyProof.Rows.envOfC qual (defScope st) s.heap.objs.size f cdv)) → PSs (cxOf CX0 P w K mg base N qual (defScope st) f cdv A outer s H E).nox (defBody st) (tS K F g)) :
    FnOk P w K mg base CX0 (k + 1) f fd ps (spP K F (runB g N.length) ps.length) :=
  Fn.ok S (fun vs H Q E h => h.1) fun cdv A outer s H vs Q E hr h => ⟨_, hb cdv A outer s H E hr, run_core h⟩
end
end Zl

set_option Elab.async false
set_option linter.all false
set_option maxRecDepth 100000
set_option maxHeartbeats 1000000
/-! Z4: what is walked; for, while, comprehensions. -/
namespace Zl
open PySem L2

/-- a later heap, more of it forbidden -/
structure Later (m : List Addr) (H : Hp) (m' : List Addr) (H' : Hp) : Prop where
  new : ∀ a, a ∈ m' → a ∈ m ∨ H a = none
  keep : ∀ a o, a ∉ m → H a = some o → H' a = some o
theorem Later.refl (m : List Addr) (H : Hp) : Later m H m H := ⟨fun _ h => .inl h, fun _ _ _ h => h⟩
theorem Later.trans {m m1 m2 : List Addr} {H H1 H2 : Hp} (x : Later m H m1 H1) (y : Later m1 H1 m2 H2) (hm : ∀ a, a ∈ m → H1 a ≠ none) : Later m H m2 H2 where
  new := fun a q => by
    by_cases n : a ∈ m
    · exact .inl n
    · rcases y.new a q with z | z
      · exact x.new a z
      · refine .inr ?_
        cases e : H a with
        | none => rfl
        | some o => rw [x.keep a o n e] at z; cases z
  keep := fun a o n e => y.keep a o (fun q => (x.new a q).elim n fun z => by rw [z] at e; cases e) (x.keep a o n e)
theorem Rep.later {K : PySem.W.Frag} {F : Nat → Option Addr} {m m' : List Addr} {H H' : Hp} {v : V} {d : D} (h : Rep K F m H v d) (l : Later m H m' H') : Rep K F m' H' v d := Rep.keep l.new l.keep d v h
theorem Reps.later {K : PySem.W.Frag} {F : Nat → Option Addr} {m m' : List Addr} {H H' : Hp} {v : List V} {d : List D} (h : Reps K F m H v d) (l : Later m H m' H') : Reps K F m' H' v d := Reps.keep l.new l.keep d v h
theorem Grow.later {ρ : Option Addr} {m0 m1 m1' : List Addr} {H H' : Hp} (g : Grow ρ m1 H m1' H') (own : ∀ a, ρ = some a → a ∈ m0) : Later (m0 ++ m1) H (m0 ++ m1') H' where
  new := fun a q => by
    rcases List.mem_append.mp q with z | z
    · exact .inl (List.mem_append_left _ z)
    · rcases g.new a z with z | z
      · exact .inl (List.mem_append_right _ z)
      · exact .inr z
  keep := fun a o n e => g.keep a o (fun z => n (List.mem_append_left _ (own a z))) (fun z => n (List.mem_append_right _ z)) e

/-- .. an iterator's own pair need not be known so well -/
def WalkD (K : PySem.W.Frag) (F : Nat → Option Addr) (L : Bool) (m : List Addr) (H : Hp) (J : It) (ds : List D) : Prop :=
  ∃ (G : Hp → Prop) (Y : Nat → Hp → V → Hp → Prop), Walk J ds.length G Y ∧ (∀ m' H', Later m H m' H' → G H') ∧
    ∀ (i : Nat) (d : D) (x : V) (m' : List Addr) (H1 H2 : Hp), ds[i]? = some d → Later m H m' H1 → (∀ a ∈ m', H1 a ≠ none) → Y i H1 x H2 → Same H1 H2 ∧ RepL K F L m' H2 x d
def tI (K : PySem.W.Frag) (F : Nat → Option Addr) (L : Bool) (f : Fr → Hz → T (List D)) : TI := fun σ H R => ∃ ρ m0 m1 fr hp, At K F ρ m0 m1 H σ fr hp ∧ (f fr hp).all fun ds => ∀ J H', Keep ρ H H' → RowA K ρ H' → WalkD K F L (m0 ++ m1) H' J ds → R J H'
theorem tI_mk {K : PySem.W.Frag} {F : Nat → Option Addr} {L : Bool} {ρ : Option Addr} {m0 m1 : List Addr} {H : Hp} {σ : L2.St} {fr : Fr} {hp : Hz} {f : Fr → Hz → T (List D)} {P : List D → Prop} {R : It → Hp → Prop} (a : At K F ρ m0 m1 H σ fr hp) (h : (f fr hp).all P)
    (k : ∀ d, P d → ∀ J H', Keep ρ H H' → At K F ρ m0 m1 H' σ fr hp → WalkD K F L (m0 ++ m1) H' J d → R J H') : tI K F L f σ H R :=
  ⟨ρ, m0, m1, fr, hp, a, T.all_mono (fun d hd J H' kp s w => k d hd J H' kp (a.on kp s) w) h⟩

section
variable {X : Cx} {F : Nat → Option Addr}
theorem walkT {K : PySem.W.Frag} {m : List Addr} {H : Hp} {a : Addr} {vs : List V} {ds : List D} (hs : ∀ m' H', Later m H m' H' → SqT K H' a vs) (r : Reps K F m H vs ds) : WalkD K F false m H (Itt K a) ds := by
  refine ⟨_, _, by rw [← r.length]; exact walk_tup, hs, fun i d x m' H1 H2 e l dom y => ?_⟩
  obtain ⟨rfl, e2⟩ := y
  obtain ⟨v, e3, rv⟩ := r.get e
  rw [e2] at e3
  cases e3
  exact ⟨Same.refl _, .inl (rv.later l)⟩
theorem walkL {K : PySem.W.Frag} {m : List Addr} {H : Hp} {a : Addr} {vs : List V} {ds : List D} (hs : ∀ m' H', Later m H m' H' → SqL K H' a vs) (r : Reps K F m H vs ds) : WalkD K F false m H (Itl K a) ds := by
  refine ⟨_, _, by rw [← r.length]; exact walk_list, hs, fun i d x m' H1 H2 e l dom y => ?_⟩
  obtain ⟨rfl, e2⟩ := y
  obtain ⟨v, e3, rv⟩ := r.get e
  rw [e2] at e3
  cases e3
  exact ⟨Same.refl _, .inl (rv.later l)⟩
def asTup : D → T (List D)
  | .tup xs => .ret xs
  | _ => .fail
def asLst : D → T (List D)
  | .lst xs => .ret xs
  | _ => .fail
theorem all_asTup {d : D} {P : List D → Prop} (h : (asTup d).all P) : ∃ xs, d = .tup xs ∧ P xs := by
  unfold asTup at h
  split at h
  · exact ⟨_, rfl, h⟩
  · exact h.elim
theorem all_asLst {d : D} {P : List D → Prop} (h : (asLst d).all P) : ∃ xs, d = .lst xs ∧ P xs := by
  unfold asLst at h
  split at h
  · exact ⟨_, rfl, h⟩
  · exact h.elim
/-- over a tuple -/
theorem zit {tg e : Expr} {f : Ex} (h : PE X e (tX X.K F f)) : PI X tg e (tI X.K F false fun fr hp => (f fr hp).bind asTup) := PIimp (pi_tup h) fun σ H R h => by
  obtain ⟨ρ, m0, m1, fr, hp, a, h⟩ := h
  refine tX_mk a (T.all_bind h) fun d hd H' v kp a' r => ?_
  obtain ⟨xs, rfl, k⟩ := all_asTup hd
  cases r with
  | tup hn e rr =>
    obtain ⟨o, e, ed⟩ := e
    exact ⟨_, rfl, ⟨_, .inl (.inr ⟨o, e⟩)⟩, k _ H' kp a'.row (walkT (fun m' H2 l => .inl (.inr ⟨o, l.keep _ _ hn e⟩)) rr)⟩
  | tupK e rr => exact ⟨_, rfl, ⟨_, e.sq⟩, k _ H' kp a'.row (walkT (fun m' H2 l => e.sq) rr)⟩
/-- over a list -/
theorem zil {tg e : Expr} {f : Ex} (h : PE X e (tX X.K F f)) : PI X tg e (tI X.K F false fun fr hp => (f fr hp).bind asLst) := PIimp (pi_list h) fun σ H R h => by
  obtain ⟨ρ, m0, m1, fr, hp, a, h⟩ := h
  refine tX_mk a (T.all_bind h) fun d hd H' v kp a' r => ?_
  obtain ⟨xs, rfl, k⟩ := all_asLst hd
  obtain ⟨b, vs, rfl, hn, e, rr⟩ := r.lstR
  exact ⟨_, rfl, ⟨_, .inl (.inl e)⟩, k _ H' kp a'.row (walkL (fun m' H2 l => .inl (.inl (l.keep _ _ hn e))) rr)⟩
/-- lo, lo + 1, .. -/
def upto : Int → Nat → List D
  | _, 0 => []
  | lo, n + 1 => .int lo :: upto (lo + 1) n
theorem upto_len : ∀ (n : Nat) (lo : Int), (upto lo n).length = n
  | 0, _ => rfl
  | n + 1, lo => congrArg (· + 1) (upto_len n (lo + 1))
theorem upto_get : ∀ (n : Nat) (lo : Int) (i : Nat) (d : D), (upto lo n)[i]? = some d → d = .int (lo + i)
  | 0, _, _, _, h => by simp [upto] at h
  | n + 1, lo, 0, d, h => by
    have : D.int lo = d := by simpa [upto] using h
    rw [← this]
    simp
  | n + 1, lo, i + 1, d, h => by
    have := upto_get n (lo + 1) i d (by simpa [upto] using h)
    rw [this]
    congr 1
    omega
def smallI (i : Int) : Bool := decide (-1000000 ≤ i) && decide (i ≤ 1000000)
theorem small_of {i : Int} (h : smallI i = true) : -1000000 ≤ i ∧ i ≤ 1000000 := by
  unfold smallI at h
  rw [Bool.and_eq_true] at h
  exact ⟨of_decide_eq_true h.1, of_decide_eq_true h.2⟩
def rng1 : List D → T (List D)
  | [.int j] => guardT (smallI j) (.ret (upto 0 j.toNat))
  | _ => .fail
def rng2 : List D → T (List D)
  | [.int i, .int j] => guardT (smallI i && smallI j) (.ret (upto i (j - i).toNat))
  | _ => .fail
theorem walkR {K : PySem.W.Frag} {m : List Addr} {H : Hp} {lo : Int} {n : Nat} : WalkD K F false m H (Itr lo n) (upto lo n) := by
  refine ⟨_, _, by rw [upto_len]; exact walk_range, fun _ _ _ => trivial, fun i d x m' H1 H2 e l dom y => ?_⟩
  obtain ⟨rfl, rfl⟩ := y
  rw [upto_get n lo i d e]
  exact ⟨Same.refl _, .inl (.int _)⟩
theorem zir1 {tg a : Expr} {g : Fr → Hz → T (List D)} {p pos : Pos} (hg : Gl X "range") (hm : X.mg "range" = none) (ha : PA X [a] (tAs X.K F g)) (hs : starEach [a] X.env = [(false, eval a X.env)] := by rfl) : PI X tg (.Call (.Name "range" p) [a] [] pos) (tI X.K F false fun fr hp => (g fr hp).bind rng1) :=
  PIimp (pi_range1 hg hm ha hs) fun σ H R h => by
    obtain ⟨ρ, m0, m1, fr, hp, a, h⟩ := h
    refine tAs_mk a (T.all_bind h) fun ds hd H' vs kp a' r => ?_
    unfold rng1 at hd
    split at hd
    · rename_i j
      obtain ⟨hj, k⟩ := all_guard hd
      obtain ⟨h1, h2⟩ := small_of hj
      cases r with
      | cons r1 rs =>
        cases rs
        cases r1
        exact ⟨j, rfl, by omega, by omega, k _ H' kp a'.row walkR⟩
    · exact hd.elim
theorem zir2 {tg a b : Expr} {g : Fr → Hz → T (List D)} {p pos : Pos} (hg : Gl X "range") (hm : X.mg "range" = none) (ha : PA X [a, b] (tAs X.K F g)) (hs : starEach [a, b] X.env = [(false, eval a X.env), (false, eval b X.env)] := by rfl) (hs2 : starEach [b] X.env = [(false, eval b X.env)] := by rfl) : PI X tg (.Call (.Name "range" p) [a, b] [] pos) (tI X.K F false fun fr hp => (g fr hp).bind rng2) :=
  PIimp (pi_range2 hg hm ha hs hs2) fun σ H R h => by
    obtain ⟨ρ, m0, m1, fr, hp, a, h⟩ := h
    refine tAs_mk a (T.all_bind h) fun ds hd H' vs kp a' r => ?_
    unfold rng2 at hd
    split at hd
    · rename_i i j
      obtain ⟨hj, k⟩ := all_guard hd
      rw [Bool.and_eq_true] at hj
      obtain ⟨h1, h2⟩ := small_of hj.1
      obtain ⟨h3, h4⟩ := small_of hj.2
      cases r with
      | cons r1 rs =>
        cases rs with
        | cons r2 rs =>
          cases rs
          cases r1
          cases r2
          exact ⟨i, j, rfl, ⟨by omega, by omega, by omega, by omega⟩, k _ H' kp a'.row walkR⟩
    · exact hd.elim

/-! ### for -/
def loopO (k : Fr → Hz → T Out) : Out → T Out
  | .nx fr hp => k fr hp
  | .ct fr hp => k fr hp
  | .bk fr hp => .ret (.nx fr hp)
  | .rt d => .ret (.rt d)
def forS (set : D → Fr → T Fr) (body : Sm) : List D → Fr → Hz → T Out
  | [], fr, hp => .ret (.nx fr hp)
  | d :: ds, fr, hp => (set d fr).bind fun fr1 => (body fr1 hp).bind (loopO (forS set body ds))
def sFor (it : Fr → Hz → T (List D)) (set : D → Fr → T Fr) (body : Sm) : Sm := fun fr hp => (it fr hp).bind fun ds => forS set body ds fr hp
theorem drop_get {α : Type} {l : List α} {i : Nat} (h : i < l.length) : ∃ x, l[i]? = some x ∧ l.drop i = x :: l.drop (i + 1) := ⟨l[i], by simp [h], List.drop_eq_getElem_cons h⟩
theorem zfor {L : Bool} {tg iter : Expr} {body : List Stmt} {it : Fr → Hz → T (List D)} {set : D → Fr → T Fr} {g : TG} {b : Sm} {pos : Pos} (hp : PassesOwn (model X.prog X.w) X.A X.env X.xe) (hc : X.calm = true) (hi : PI X tg iter (tI X.K F L it)) (hg : PG X tg g) (hs : TgR X.K F L set g)
    (hb : PSs X body (tS X.K F b)) (hf : ∀ x, foldedSetIterable iter X.env x = pure x := by intro _; rfl) : PS X (.For tg iter body [] pos) (tS X.K F (sFor it set b)) :=
  PSimp (ps_for hp hc hi hg hb hf) fun D σ H h => by
    obtain ⟨ρ, m0, m1, fr, hz, a, h⟩ := h
    refine tI_mk a (T.all_bind h) fun ds hd J H1 kp a1 w => ?_
    obtain ⟨G, Y, W, hG, hY⟩ := w
    refine for_it W (fun i σ' H' => ∃ m1' fr' hp', Grow ρ m1 H1 m1' H' ∧ At X.K F ρ m0 m1' H' σ' fr' hp' ∧ (forS set b (ds.drop i) fr' hp').all (PostS X.K F ρ m0 m1 H1 D)) ?_ ?_ ?_ ?_
    · exact ⟨m1, fr, hz, .refl _ _ _, a1, T.all_mono (fun _ q => q.on a1.rowN (.of kp)) hd⟩
    · rintro i σ' H' _ ⟨m1', fr', hp', gr, a', _⟩
      exact hG _ _ (gr.later a.own)
    · rintro i x σ' H' H2 hlt ⟨m1', fr', hp', gr, a', q⟩ y
      obtain ⟨d, e1, e2⟩ := drop_get hlt
      obtain ⟨sm, rx⟩ := hY i d x (m0 ++ m1') H' H2 e1 (gr.later a.own) a'.sim.dom y
      rw [e2] at q
      have a2 := a'.same sm
      have gr2 : Grow ρ m1 H1 m1' H2 := gr.trans a'.rowN (.of (.of sm))
      refine hs ρ m0 m1' H2 σ' fr' x d _ a2.fr rx (T.all_mono (fun fr1 q1 σ1 f1 => ?_) (T.all_bind q))
      refine ⟨ρ, m0, m1', fr1, hp', ⟨f1, a2.sim, a2.row, a2.own⟩, T.all_mono (fun o q2 => ?_) (T.all_bind q1)⟩
      cases o with
      | nx fr2 hp2 => exact fun m1'' H'' σ'' g'' a'' => ⟨m1'', fr2, hp2, gr2.trans a2.rowN g'', a'', q2⟩
      | ct fr2 hp2 => exact fun m1'' H'' σ'' g'' a'' => ⟨m1'', fr2, hp2, gr2.trans a2.rowN g'', a'', q2⟩
      | bk fr2 hp2 => exact fun m1'' H'' σ'' g'' a'' => q2 m1'' H'' σ'' (gr2.trans a2.rowN g'') a''
      | rt d => exact fun H'' v k'' w'' r'' => q2 H'' v (gr2.on k'') w'' r''
    · rintro σ' H' ⟨m1', fr', hp', gr, a', q⟩
      rw [List.drop_length] at q
      exact q m1' H' σ' gr a'

/-! ### while -/
def whileS (t : Fr → Hz → T Bool) (body : Sm) : Nat → Fr → Hz → T Out
  | 0, _, _ => .fail
  | n + 1, fr, hp => (t fr hp).bind fun b => bif b then (body fr hp).bind (loopO (whileS t body n)) else .ret (.nx fr hp)
theorem zwhile {c : Expr} {body : List Stmt} {t : Fr → Hz → T Bool} {b : Sm} {pos : Pos} (n : Nat) (hp : PassesOwn (model X.prog X.w) X.A X.env X.xe) (hc : PT X c (tB' X.K F t)) (hb : PSs X body (tS X.K F b)) : PS X (.While c body [] pos) (tS X.K F (whileS t b n)) :=
  PSimp (ps_while hp hc hb) fun D σ H h => by
    obtain ⟨ρ, m0, m1, fr, hz, a, h⟩ := h
    refine ⟨fun n σ' H' => ∃ m1' fr' hp', Grow ρ m1 H m1' H' ∧ At X.K F ρ m0 m1' H' σ' fr' hp' ∧ (whileS t b n fr' hp').all (PostS X.K F ρ m0 m1 H D), ⟨n, m1, fr, hz, .refl _ _ _, a, h⟩, ?_⟩
    rintro k σ1 H1 ⟨m1', fr', hp', gr, a', q⟩
    cases k with
    | zero => exact q.elim
    | succ k =>
      refine tB_mk a' (T.all_bind q) fun v hv H2 k2 a2 => ?_
      have gr2 : Grow ρ m1 H m1' H2 := gr.trans a'.rowN (.of k2)
      cases v with
      | false => exact hv m1' H2 σ1 gr2 a2
      | true =>
        refine ⟨fun σ' H' => ∃ m, m < k + 1 ∧ ∃ m1' fr' hp', Grow ρ m1 H m1' H' ∧ At X.K F ρ m0 m1' H' σ' fr' hp' ∧ (whileS t b m fr' hp').all (PostS X.K F ρ m0 m1 H D), fun σ' H' z => z, ?_⟩
        refine ⟨ρ, m0, m1', fr', hp', a2, T.all_mono (fun o q2 => ?_) (T.all_bind hv)⟩
        cases o with
        | nx fr2 hp2 => exact fun m1'' H'' σ'' g'' a'' => ⟨k, Nat.lt_succ_self k, m1'', fr2, hp2, gr2.trans a2.rowN g'', a'', q2⟩
        | ct fr2 hp2 => exact fun m1'' H'' σ'' g'' a'' => ⟨k, Nat.lt_succ_self k, m1'', fr2, hp2, gr2.trans a2.rowN g'', a'', q2⟩
        | bk fr2 hp2 => exact fun m1'' H'' σ'' g'' a'' => q2 m1'' H'' σ'' (gr2.trans a2.rowN g'') a''
        | rt d => exact fun H'' v k'' w'' r'' => q2 H'' v (gr2.on k'') w'' r''
end
end Zl

set_option Elab.async false
set_option linter.all false
set_option maxRecDepth 100000
set_option maxHeartbeats 1000000
/-! Z5: list comprehensions. -/
namespace Zl
open PySem L2

theorem wipe_in {σ : L2.St} {j : Nat} : ∀ {vs : List Nat}, j ∈ vs → j < σ.length → (wipe σ vs)[j]? = some none
  | v :: vs, h, hl => by
    unfold wipe
    by_cases e : v = j
    · subst e
      rw [List.getElem?_set_self (by rw [wipe_length]; exact hl)]
    · rw [List.getElem?_set_ne e]
      have : j ∈ vs := by
        rcases List.mem_cons.mp h with z | z
        · exact absurd z.symm e
        · exact z
      exact wipe_in this hl
theorem wipe_set {σ : L2.St} {i : Nat} {x : Option V} {vs : List Nat} (h : i ∈ vs) : wipe (σ.set i x) vs = wipe σ vs := by
  apply List.ext_getElem?
  intro j
  by_cases hl : j < σ.length
  · by_cases hj : j ∈ vs
    · rw [wipe_in hj (by simpa using hl), wipe_in hj hl]
    · rw [wipe_out hj, wipe_out hj, List.getElem?_set_ne]
      rintro rfl
      exact hj h
  · rw [List.getElem?_eq_none (by rw [wipe_length]; simpa using hl), List.getElem?_eq_none (by rw [wipe_length]; omega)]
theorem wipe_wipe {σ : L2.St} {vs : List Nat} : wipe (wipe σ vs) vs = wipe σ vs := by
  apply List.ext_getElem?
  intro j
  by_cases hl : j < σ.length
  · by_cases hj : j ∈ vs
    · rw [wipe_in hj (by rw [wipe_length]; exact hl), wipe_in hj hl]
    · rw [wipe_out hj]
  · rw [List.getElem?_eq_none (by rw [wipe_length, wipe_length]; omega), List.getElem?_eq_none (by rw [wipe_length]; omega)]
def wipeF (fr : Fr) : List Nat → Fr
  | [] => fr
  | v :: vs => setN (wipeF fr vs) v none
theorem wipeF_get {fr : Fr} {i : Nat} {s : SV} : ∀ {vs : List Nat}, (wipeF fr vs)[i]? = some (some s) → fr[i]? = some (some s) ∧ i ∉ vs
  | [], h => ⟨h, by simp⟩
  | v :: vs, h => by
    unfold wipeF at h
    rw [setN_eq] at h
    by_cases hi : v = i
    · subst hi
      by_cases hv : v < (wipeF fr vs).length
      · rw [List.getElem?_set_self hv] at h; cases h
      · rw [List.getElem?_eq_none (by simpa using hv)] at h; cases h
    · rw [List.getElem?_set_ne hi] at h
      obtain ⟨h1, h2⟩ := wipeF_get h
      exact ⟨h1, by simp only [List.mem_cons, not_or]; exact ⟨fun e => hi e.symm, h2⟩⟩
theorem wipeF_len (fr : Fr) : ∀ vs : List Nat, (wipeF fr vs).length = fr.length
  | [] => rfl
  | v :: vs => by unfold wipeF; rw [setN_eq, List.length_set, wipeF_len fr vs]
theorem FrR.wipe {K : PySem.W.Frag} {F : Nat → Option Addr} {ρ : Option Addr} {m0 m1 : List Addr} {H : Hp} {σ : L2.St} {fr : Fr} (a : FrR K F ρ m0 m1 H σ fr) (vs : List Nat) : FrR K F ρ m0 m1 H (wipe σ vs) (wipeF fr vs) := by
  refine ⟨by rw [wipe_length, wipeF_len]; exact a.len, fun i s e => ?_⟩
  obtain ⟨e1, hn⟩ := wipeF_get e
  obtain ⟨v, e2, r⟩ := a.slot i s e1
  exact ⟨v, by rw [wipe_out hn]; exact e2, r⟩
theorem At.wipe {K : PySem.W.Frag} {F : Nat → Option Addr} {ρ : Option Addr} {m0 m1 : List Addr} {H : Hp} {σ : L2.St} {fr : Fr} {hp : Hz} (a : At K F ρ m0 m1 H σ fr hp) (vs : List Nat) : At K F ρ m0 m1 H (wipe σ vs) (wipeF fr vs) hp := ⟨a.fr.wipe vs, a.sim, a.row, a.own⟩
/-- a comprehension's target: only the block's own slots -/
def TgC (K : PySem.W.Frag) (F : Nat → Option Addr) (L : Bool) (vs : List Nat) (set : D → Fr → T Fr) (g : TG) : Prop :=
  ∀ (ρ : Option Addr) (m0 m1 : List Addr) (H : Hp) (σ : L2.St) (fr : Fr) (v : V) (d : D) (Q : L2.St → Hp → Prop), FrR K F ρ m0 m1 H σ fr → RepL K F L (m0 ++ m1) H v d →
    (set d fr).all (fun fr' => ∀ σ', FrR K F ρ m0 m1 H σ' fr' → wipe σ' vs = wipe σ vs → Q σ' H) → g v σ H Q
theorem zgc_name {K : PySem.W.Frag} {F : Nat → Option Addr} {i : Nat} {vs : List Nat} (h : i ∈ vs) : TgC K F false vs (gI i) (gName i) := fun ρ m0 m1 H σ fr v d Q a r k => k _ (FrR.set (s := .v d) a i r.rep) (wipe_set h)
theorem zgc_pair {K : PySem.W.Frag} {F : Nat → Option Addr} {L : Bool} {i j : Nat} {vs : List Nat} (hi : i ∈ vs) (hj : j ∈ vs) : TgC K F L vs (g2 i j) (gTup K 2 (gCons (gName i) (gCons (gName j) gNil))) := fun ρ m0 m1 H σ fr v d Q a r h => by
  unfold g2 at h
  split at h
  · rename_i x y
    obtain ⟨b, ws, rfl, hs, rs⟩ := r.tupR
    cases rs with
    | cons r1 rs =>
      cases rs with
      | cons r2 rs =>
        cases rs
        exact ⟨b, _, rfl, hs, rfl, _, _, rfl, _, _, rfl, rfl, h _ (FrR.set (s := .v y) (FrR.set (s := .v x) a i r1) j r2) (by rw [wipe_set hj, wipe_set hi])⟩
  · exact h.elim

section
variable (K : PySem.W.Frag) (F : Nat → Option Addr)
/-- the new list at B, behind the heap H1 -/
structure LcI (ρ : Option Addr) (m0 m1 : List Addr) (H1 : Hp) (B : Addr) (H : Hp) (acc : List D) : Prop where
  lst : ∃ vs, H B = some (.lst vs) ∧ Reps K F ((B :: m0) ++ m1) H vs acc
  keep : ∀ a o, ρ ≠ some a → H1 a = some o → H a = some o
  row : RowA K ρ H
end
section
variable {K : PySem.W.Frag} {F : Nat → Option Addr} {ρ : Option Addr} {m0 m1 : List Addr} {H1 H H' : Hp} {B : Addr} {acc : List D} {σ : L2.St} {fr : Fr} {hp : Hz}
theorem LcI.start (a : At K F ρ m0 m1 H1 σ fr hp) (hB : H1 B = none) : LcI K F ρ m0 m1 H1 B (upd H1 B (.lst [])) [] :=
  ⟨⟨[], upd_same, .nil⟩, fun c o _ e => same_new hB c o e, a.row.same (same_new hB)⟩
theorem LcI.ne (a : At K F ρ m0 m1 H1 σ fr hp) (hB : H1 B = none) : ρ ≠ some B := fun e => a.rowN B e hB
theorem LcI.later (I : LcI K F ρ m0 m1 H1 B H acc) (own : ∀ a, ρ = some a → a ∈ m0) (hB : H1 B = none) : Later (m0 ++ m1) H1 ((B :: m0) ++ m1) H where
  new := fun a q => by
    rcases List.mem_cons.mp q with z | z
    · exact .inr (by rw [z]; exact hB)
    · exact .inl z
  keep := fun a o n e => I.keep a o (fun z => n (List.mem_append_left _ (own a z))) e
theorem LcI.at (I : LcI K F ρ m0 m1 H1 B H acc) (a : At K F ρ m0 m1 H1 σ fr hp) (hB : H1 B = none) : At K F ρ (B :: m0) m1 H σ fr hp := by
  have l := I.later a.own hB
  have hBm := a.sim.new hB
  refine ⟨⟨a.fr.len, fun i s e => ?_⟩, ⟨a.sim.len, a.sim.nd, fun c q => ?_, fun c q z => ?_, fun n c e => ?_⟩, I.row, fun c e => List.mem_cons_of_mem _ (a.own c e)⟩
  · obtain ⟨v, e1, r⟩ := a.fr.slot i s e
    refine ⟨v, e1, ?_⟩
    cases s with
    | v d => exact Rep.later r l
    | r n => exact r
    | row => exact r
  · rcases List.mem_cons.mp q with z | z
    · rw [z]; exact fun w => hBm (List.mem_append_right _ w)
    · exact a.sim.dis c z
  · have q : c = B ∨ c ∈ m0 ++ m1 := by simpa using q
    rcases q with y | y
    · obtain ⟨vs, e, _⟩ := I.lst
      rw [y, e] at z; cases z
    · by_cases hr : ρ = some c
      · obtain ⟨_, _, _, _, _, e1, _⟩ := I.row c hr
        rw [e1] at z; cases z
      · cases e : H1 c with
        | none => exact a.sim.dom c y e
        | some o => rw [I.keep c o hr e] at z; cases z
  · obtain ⟨b, e1, vs, e2, r⟩ := a.sim.cell n c e
    have hm : b ∈ m1 := List.mem_of_getElem? e1
    exact ⟨b, e1, vs, I.keep b _ (fun z => a.sim.dis b (a.own b z) hm) e2, r.later l⟩
theorem LcI.on (I : LcI K F ρ m0 m1 H1 B H acc) (own : ∀ a, ρ = some a → a ∈ m0) (ne : ρ ≠ some B) (k : Keep ρ H H') (w : RowA K ρ H') : LcI K F ρ m0 m1 H1 B H' acc := by
  obtain ⟨vs, e, r⟩ := I.lst
  exact ⟨⟨vs, k _ _ ne e, Reps.on (m0 := B :: m0) r (fun a z => List.mem_cons_of_mem _ (own a z)) k⟩, fun a o n q => k a o n (I.keep a o n q), w⟩
theorem LcI.push (I : LcI K F ρ m0 m1 H1 B H acc) (a : At K F ρ m0 m1 H1 σ fr hp) (hB : H1 B = none) {v : V} {d : D} (r : Rep K F ((B :: m0) ++ m1) H v d) {vs : List V} (e : H B = some (.lst vs)) : LcI K F ρ m0 m1 H1 B (upd H B (.lst (vs ++ [v]))) (acc ++ [d]) := by
  obtain ⟨vs', e', rs⟩ := I.lst
  rw [e] at e'
  cases e'
  have ku : ∀ c o, c ∉ (B :: m0) ++ m1 → H c = some o → (upd H B (.lst (vs ++ [v]))) c = some o := fun c o n q => by
    rw [upd_ne (fun z => n (by rw [z]; simp))]
    exact q
  refine ⟨⟨_, upd_same, Reps.append (Reps.keep (fun c q => .inl q) ku acc vs rs) (.cons (Rep.keep (fun c q => .inl q) ku d v r) .nil)⟩, fun c o n q => ?_, fun c q => ?_⟩
  · have hc : c ≠ B := fun z => by rw [z, hB] at q; cases q
    rw [upd_ne hc]
    exact I.keep c o n q
  · have hc : B ≠ c := fun z => LcI.ne a hB (by rw [z]; exact q)
    refine (I.row c q).keep (fun xs z => by rw [upd_ne (Ne.symm hc)]; exact z) fun s o xs z => ?_
    have hs : s ≠ B := fun w => by rw [w, e] at z; cases z
    rw [upd_ne hs]
    exact z

/-- the turns -/
def lcF (set : D → Fr → T Fr) (t : Fr → Hz → T Bool) (e : Ex) : List D → Fr → Hz → T (List D)
  | [], _, _ => .ret []
  | d :: ds, fr, hp => (set d fr).bind fun fr1 => (t fr1 hp).bind fun b => bif b then (e fr1 hp).bind fun y => (lcF set t e ds fr hp).bind fun ys => .ret (y :: ys) else lcF set t e ds fr hp
def nLc (it : Fr → Hz → T (List D)) (set : D → Fr → T Fr) (t : Fr → Hz → T Bool) (e : Ex) (vs : List Nat) : Fr → Hz → T (List D) := fun fr hp => (it fr hp).bind fun ds => guardT (few ds 10000) (lcF set t e ds (wipeF fr vs) hp)
def bYes : Fr → Hz → T Bool := fun _ _ => .ret true
theorem lcF_more {set : D → Fr → T Fr} {t : Fr → Hz → T Bool} {e : Ex} {fr : Fr} {hp : Hz} {P : List D → Prop} {acc : List D} {y : D} {ds : List D} (h : ((lcF set t e ds fr hp).bind fun ys => .ret (y :: ys)).all fun ys => P (acc ++ ys)) : (lcF set t e ds fr hp).all fun ys => P ((acc ++ [y]) ++ ys) := by
  refine T.all_mono (fun ys q => ?_) (T.all_bind h)
  have q : P (acc ++ (y :: ys)) := q
  rw [List.append_assoc]
  exact q
end
section
variable {X : Cx} {F : Nat → Option Addr}
theorem ztyes : PTs X [] (tB' X.K F bYes) := ⟨fun pins s σ H Q I h => (pts_nil (X := X)).run pins s σ H Q I (by
  obtain ⟨ρ, m0, m1, fr, hp, a, h⟩ := h
  exact h H (Keep.refl _ _) a.row)⟩
theorem ztone {c : Expr} {t : Fr → Hz → T Bool} (h : PT X c (tB' X.K F t)) : PTs X [c] (tB' X.K F t) := pts_one h
theorem lc_core' {L : Bool} {it : Fr → Hz → T (List D)} {set : D → Fr → T Fr} {t : Fr → Hz → T Bool} {e : Ex} {vs : List Nat} {g : TG} {σ : L2.St} {H : Hp} {Q : VK} (hs : TgC X.K F L vs set g) (h : tN X.K F (nLc it set t e vs) σ H Q) : tLc (tI X.K F L it) g (tB' X.K F t) (tX X.K F e) vs σ H Q := by
  obtain ⟨ρ, m0, m1, fr, hp, a, h⟩ := h
  refine tI_mk a (T.all_bind h) fun ds hd J H1 kp a1 w B hB => ?_
  obtain ⟨hf, hd⟩ := all_guard hd
  obtain ⟨G, Y, W, hG, hY⟩ := w
  have ne := LcI.ne a1 hB
  refine lc_it W (fun i H' => ∃ acc, LcI X.K F ρ m0 m1 H1 B H' acc ∧ acc.length ≤ i ∧ (lcF set t e (ds.drop i) (wipeF fr vs) hp).all fun ys => ∀ H' a vs, Keep ρ H H' → RowA X.K ρ H' → H a = none → H' a = some (.lst vs) → Reps X.K F (m0 ++ (m1 ++ [a])) H' vs (acc ++ ys) → Q (.ref a) H')
    ⟨[], .start a1 hB, Nat.le_refl _, hd⟩ ?_ ?_ ?_
  · rintro i H' _ ⟨acc, I, _, _⟩
    exact hG _ _ (I.later a1.own hB)
  · rintro i x H2 H3 hlt ⟨acc, I, hl, q⟩ y
    obtain ⟨d, e1, e2⟩ := drop_get hlt
    have aw : At X.K F ρ (B :: m0) m1 H2 (wipe σ vs) (wipeF fr vs) hp := (I.at a1 hB).wipe vs
    obtain ⟨sm, rx⟩ := hY i d x _ H2 H3 e1 (I.later a1.own hB) aw.sim.dom y
    rw [e2] at q
    have aw3 := aw.same sm
    have I3 := I.on a1.own ne (.of sm) aw3.row
    refine hs ρ (B :: m0) m1 H3 _ _ x d _ aw3.fr rx (T.all_mono (fun fr1 q1 σ1 f1 ew => ⟨ew.trans wipe_wipe, ?_⟩) (T.all_bind q))
    have at1 : At X.K F ρ (B :: m0) m1 H3 σ1 fr1 hp := ⟨f1, aw3.sim, aw3.row, aw3.own⟩
    refine tB_mk at1 (T.all_bind q1) fun b hb H4 k4 a4 => ?_
    have I4 := I3.on a1.own ne k4 a4.row
    cases b with
    | false => exact ⟨acc, I4, Nat.le_succ_of_le hl, hb⟩
    | true =>
      refine tX_mk a4 (T.all_bind hb) fun yd hy H5 v k5 a5 rv => ?_
      have I5 := I4.on a1.own ne k5 a5.row
      obtain ⟨ws, ew, rw'⟩ := I5.lst
      refine ⟨ws, ew, ?_, acc ++ [yd], I5.push a1 hB rv ew, by simp; exact hl, lcF_more (P := fun zs => ∀ H' a vs, Keep ρ H H' → RowA X.K ρ H' → H a = none → H' a = some (.lst vs) → Reps X.K F (m0 ++ (m1 ++ [a])) H' vs zs → Q (.ref a) H') hy⟩
      have := few_le hf
      have := rw'.length
      have hz : (10000 : Nat) < sizeLine := by decide
      omega
  · rintro H' ⟨acc, I, _, q⟩
    rw [List.drop_length] at q
    obtain ⟨ws, ew, rw'⟩ := I.lst
    have q : ∀ H' a vs, Keep ρ H H' → RowA X.K ρ H' → H a = none → H' a = some (.lst vs) → Reps X.K F (m0 ++ (m1 ++ [a])) H' vs (acc ++ []) → Q (.ref a) H' := q
    refine q H' B ws (kp.trans I.keep) I.row (a.free kp a1.row hB) ew ?_
    rw [List.append_nil]
    refine rw'.sub fun c z => ?_
    rcases List.mem_append.mp z with z | z
    · exact List.mem_append_left _ (List.mem_cons_of_mem _ z)
    · rcases List.mem_append.mp z with z | z
      · exact List.mem_append_right _ z
      · have : c = B := by simpa using z
        rw [this]
        simp
/-- [elt for tg in iter if ..] -/
theorem zlc {L : Bool} {elt tg iter : Expr} {ifs : List Expr} {scope : Scope} {own : List (Str × Nat)} {vs : List Nat} {pos : Pos} {it : Fr → Hz → T (List D)} {set : D → Fr → T Fr} {g : TG} {t : Fr → Hz → T Bool} {e : Ex} (hc : X.calm = true) (hN : X.N.Nodup) (hi : PI X tg iter (tI X.K F L it)) (ok : BlkOk X.N X.env.scope scope own)
    (hs : TgC X.K F L vs set g)
    (hg : ∀ (s : Shared) (H : Hp) (C : Addr) (cl : List (Str × Addr)) (fp : List Addr), PG (X.blk s H scope (PySem.compEnvC scope cl C X.env) fp) tg g) (ht : ∀ (s : Shared) (H : Hp) (C : Addr) (cl : List (Str × Addr)) (fp : List Addr), PTs (X.blk s H scope (PySem.compEnvC scope cl C X.env) fp) ifs (tB' X.K F t))
    (he : ∀ (s : Shared) (H : Hp) (C : Addr) (cl : List (Str × Addr)) (fp : List Addr), PE (X.blk s H scope (PySem.compEnvC scope cl C X.env) fp) elt (tX X.K F e)) (hvs : own.map (·.2) = vs := by rfl) (hf : ∀ x, foldedSetIterable iter X.env x = pure x := by intro _; rfl) :
    PE X (.ListComp elt [⟨tg, iter, ifs, 0⟩] scope pos) (tN X.K F (nLc it set t e vs)) := by
  subst hvs
  exact PEimp (pe_lc hc hN hi ok hg ht he hf) fun σ H Q h => lc_core' hs h
end
end Zl

set_option Elab.async false
set_option linter.all false
set_option maxRecDepth 100000
set_option maxHeartbeats 1000000
/-! Z6: operators, subscripts, built-ins. -/
namespace Zl
open PySem L2 PySem.Spec PyProof.Rows

/-! ### data read back -/
mutual
theorem Rep.dp {K : PySem.W.Frag} {F : Nat → Option Addr} {m : List Addr} {H : Hp} : ∀ (n : Nat) (d : D) (v : V), Rep K F m H v d → okD n d = true → Dp K H v (toPy d)
  | _, .non, _, h, _ => by cases h; exact .non
  | _, .bl b, _, h, _ => by cases h; exact .bl b
  | _, .int i, _, h, _ => by cases h; exact .int i
  | _, .str s, _, h, _ => by cases h; exact .str _
  | n, .ty _, _, _, ok => absurd ok (by cases n <;> simp [okD])
  | n, .fn _, _, _, ok => absurd ok (by cases n <;> simp [okD])
  | 0, .tup _, _, _, ok => absurd ok (by simp [okD])
  | 0, .lst _, _, _, ok => absurd ok (by simp [okD])
  | n + 1, .tup ds, _, h, ok => by
    obtain ⟨a, vs, rfl, hs, r⟩ := h.tupR
    exact .tup hs (Reps.dp n ds vs r ok)
  | n + 1, .lst ds, _, h, ok => by
    obtain ⟨a, vs, rfl, _, hs, r⟩ := h.lstR
    exact .lst (.inl (.inl hs)) (Reps.dp n ds vs r ok)
theorem Reps.dp {K : PySem.W.Frag} {F : Nat → Option Addr} {m : List Addr} {H : Hp} : ∀ (n : Nat) (ds : List D) (vs : List V), Reps K F m H vs ds → allO (okD n) ds = true → DpAll K H vs (toPys ds)
  | _, [], _, h, _ => by cases h; exact .nil
  | n, d :: ds, _, h, ok => by
    unfold allO at ok
    by_cases h1 : okD n d = true
    · rw [if_pos h1] at ok
      cases h with
      | cons r rs => exact .cons (Rep.dp n d _ r h1) (Reps.dp n ds _ rs ok)
    · rw [if_neg h1] at ok
      exact absurd ok Bool.false_ne_true
end
theorem okNs_all : ∀ {s : List Nat}, okNs s = true → s.all (· < 0x110000) = true
  | [], _ => rfl
  | x :: xs, h => by
    unfold okNs at h
    by_cases h1 : Nat.blt x 1114112 = true
    · rw [if_pos h1] at h
      rw [List.all_cons, okNs_all h, Bool.and_true]
      exact decide_eq_true (Nat.blt_eq.mp h1)
    · rw [if_neg h1] at h
      exact absurd h Bool.false_ne_true
mutual
theorem okD_lay : ∀ (n : Nat) (d : D), okD n d = true → (toPy d).canLay0 = true ∧ (toPy d).depth ≤ n + 1
  | n, .non, _ => by simp [toPy, PyData.canLay0, PyData.depth]
  | n, .bl b, _ => by simp [toPy, PyData.canLay0, PyData.depth]
  | n, .int i, _ => by simp [toPy, PyData.canLay0, PyData.depth]
  | n, .str s, h => by
    have h : okNs s = true := by cases n <;> simpa [okD] using h
    have e := okNs_all h
    refine ⟨?_, by simp [toPy, PyData.depth]⟩
    simp only [toPy, PyData.canLay0, PyData.strOk]
    simpa using e
  | n, .ty _, ok => absurd ok (by cases n <;> simp [okD])
  | n, .fn _, ok => absurd ok (by cases n <;> simp [okD])
  | 0, .tup _, ok => absurd ok (by simp [okD])
  | 0, .lst _, ok => absurd ok (by simp [okD])
  | n + 1, .tup ds, ok => by
    obtain ⟨h1, h2⟩ := okDs_lay n ds ok
    refine ⟨by simp only [toPy, PyData.canLay0]; exact h1, ?_⟩
    simp only [toPy, PyData.depth]
    omega
  | n + 1, .lst ds, ok => by
    obtain ⟨h1, h2⟩ := okDs_lay n ds ok
    refine ⟨by simp only [toPy, PyData.canLay0]; exact h1, ?_⟩
    simp only [toPy, PyData.depth]
    omega
theorem okDs_lay : ∀ (n : Nat) (ds : List D), allO (okD n) ds = true → PyData.canLayAll0 (toPys ds) = true ∧ PyData.depthAll (toPys ds) ≤ n + 1
  | n, [], _ => by simp [toPys, PyData.canLayAll0, PyData.depthAll]
  | n, d :: ds, ok => by
    unfold allO at ok
    by_cases h1 : okD n d = true
    · rw [if_pos h1] at ok
      obtain ⟨a1, a2⟩ := okD_lay n d h1
      obtain ⟨b1, b2⟩ := okDs_lay n ds ok
      simp only [toPys, PyData.canLayAll0, PyData.depthAll]
      refine ⟨by rw [a1, b1]; rfl, by omega⟩
    · rw [if_neg h1] at ok
      exact absurd ok Bool.false_ne_true
end
theorem okD_shaped {d : D} (h : okD 12 d = true) : SeqAt.shaped (toPy d) = true := by
  obtain ⟨h1, h2⟩ := okD_lay 12 d h
  unfold SeqAt.shaped
  rw [h1, Bool.true_and]
  exact decide_eq_true (by omega)

/-! ### == and != -/
def dEq (x y : D) : T D := guardT (okD 12 x && okD 12 y) (.ret (.bl (beq 12 x y)))
def dNe (x y : D) : T D := guardT (okD 12 x && okD 12 y) (.ret (.bl (!beq 12 x y)))
section
variable {X : Cx} {F : Nat → Option Addr}
theorem oeq (hu : X.A.units + 64 < cLine) : OpZ X F (compareOp .Eq) dEq := OpZ.of (op_eqD hu) fun m H v u x y Q rx ry h => by
  obtain ⟨ok, k⟩ := all_guard h
  rw [Bool.and_eq_true] at ok
  refine ⟨toPy x, toPy y, rx.dp 12 x v ok.1, ry.dp 12 y u ok.2, okD_shaped ok.1, okD_shaped ok.2, ?_⟩
  rw [eqv_beq 12 x y ok.1 ok.2]
  exact k _ (.bl _)
theorem one (hu : X.A.units + 64 < cLine) : OpZ X F (compareOp .NotEq) dNe := OpZ.of (op_neD hu) fun m H v u x y Q rx ry h => by
  obtain ⟨ok, k⟩ := all_guard h
  rw [Bool.and_eq_true] at ok
  refine ⟨toPy x, toPy y, rx.dp 12 x v ok.1, ry.dp 12 y u ok.2, okD_shaped ok.1, okD_shaped ok.2, ?_⟩
  rw [eqv_beq 12 x y ok.1 ok.2]
  exact k _ (.bl _)

/-! ### ints -/
def dI2 (g : Int → Int → D) (x y : D) : T D := match x, y with
  | .int i, .int j => .ret (g i j)
  | _, _ => .fail
theorem all_dI2 {g : Int → Int → D} {x y : D} {P : D → Prop} (h : (dI2 g x y).all P) : ∃ i j, x = .int i ∧ y = .int j ∧ P (g i j) := by
  unfold dI2 at h
  split at h
  · exact ⟨_, _, rfl, rfl, h⟩
  · exact h.elim
theorem oI0 {f : Value → Value → Sem Value} {g : Int → Int → Int} (h : OpR X f (rI0 fun i j => .int (g i j))) : OpZ X F f (dI2 fun i j => .int (g i j)) := OpZ.of h fun m H v u x y Q rx ry h => by
  obtain ⟨i, j, rfl, rfl, k⟩ := all_dI2 h
  cases rx
  cases ry
  exact ⟨i, j, rfl, rfl, k _ (.int _)⟩
theorem oB0 {f : Value → Value → Sem Value} {g : Int → Int → Bool} (h : OpR X f (rI0 fun i j => .bl (g i j))) : OpZ X F f (dI2 fun i j => .bl (g i j)) := OpZ.of h fun m H v u x y Q rx ry h => by
  obtain ⟨i, j, rfl, rfl, k⟩ := all_dI2 h
  cases rx
  cases ry
  exact ⟨i, j, rfl, rfl, k _ (.bl _)⟩
theorem olt : OpZ X F (compareOp .Lt) (dI2 fun i j => .bl (decide (i < j))) := oB0 op_lt
theorem ole : OpZ X F (compareOp .LtE) (dI2 fun i j => .bl (decide (i ≤ j))) := oB0 op_le
theorem ogt : OpZ X F (compareOp .Gt) (dI2 fun i j => .bl (decide (j < i))) := oB0 op_gt
theorem oge : OpZ X F (compareOp .GtE) (dI2 fun i j => .bl (decide (j ≤ i))) := oB0 op_ge
theorem osub : OpZ X F (binaryOp .Sub) (dI2 fun i j => .int (i - j)) := oI0 op_sub
/-- ints, tuples -/
def dAdd (x y : D) : T D := match x, y with
  | .int i, .int j => .ret (.int (i + j))
  | .tup xs, .tup ys => guardT (few xs 10000 && few ys 10000) (.ret (.tup (xs ++ ys)))
  | _, _ => .fail
theorem small2 {α β : Type} {l : List α} {l' : List β} (h : few l 10000 = true) (h' : few l' 10000 = true) : l.length + l'.length ≤ sizeLine := by
  have h1 := few_le h
  have h2 := few_le h'
  have h3 : (20000 : Nat) ≤ sizeLine := by decide
  omega
def rCatF (K : PySem.W.Frag) : R2 := fun x y H Q => ∃ a b xs ys, x = .ref a ∧ y = .ref b ∧ SqT K H a xs ∧ SqT K H b ys ∧ xs.length + ys.length ≤ sizeLine ∧
  (xs = [] → Q (.ref b) H) ∧ (xs ≠ [] → ys = [] → Q (.ref a) H) ∧ (xs ≠ [] → ys ≠ [] → ∀ p o, H p = none → o.dict = none → Q (.ref p) (upd H p (.frz o (.tup (xs ++ ys)))))
theorem op_catF : OpR X (binaryOp .Add) (rCatF X.K) := by
  intro pins s σ H x y v u Q I rx ry h
  obtain ⟨a, b, xs, ys, rfl, rfl, ha, hb, hz, q0, q1, q2⟩ := h
  cases rx
  cases ry
  obtain ⟨its, r1, p1, _⟩ := I.tuple ha
  obtain ⟨its2, r2, p2, _⟩ := I.tuple hb
  by_cases hx : xs = []
  · subst hx
    cases r1
    exact L2.cat_tup0 p1 p2 ⟨V.ref b, H, I, rfl, q0 rfl⟩
  · refine HT.cat_tup p1 p2 (fun z => hx (r1.nil_iff.mp z)) (fun z => ⟨V.ref a, H, I, rfl, q1 hx (r2.nil_iff.mp z)⟩) (fun z => ?_) (by rw [← r1.length, ← r2.length]; exact hz)
    exact ⟨.ref s.heap.objs.size, _, layTup I (r1.append r2) (by rw [List.length_append]; exact hz), rfl, q2 hx (fun w => z (r2.nil_iff.mpr w)) _ _ (I.hok.fresh (Nat.le_refl _)) rfl⟩
theorem oadd : OpZ X F (binaryOp .Add) dAdd := by
  refine ⟨_, OpR.or op_add op_catF, fun σ fr ρ m0 m1 H hp v u x y Q a rx ry h => ?_⟩
  unfold dAdd at h
  split at h
  · rename_i i j
    cases rx
    cases ry
    exact .inl ⟨i, j, rfl, rfl, h H _ (Keep.refl _ _) a.row (.int _)⟩
  · rename_i xs ys
    obtain ⟨ok, k⟩ := all_guard h
    rw [Bool.and_eq_true] at ok
    have ex := rx
    have ey := ry
    obtain ⟨b, vs, rfl, hs, r1⟩ := rx.tupR
    obtain ⟨c, ws, rfl, ht, r2⟩ := ry.tupR
    refine .inr ⟨b, c, vs, ws, rfl, rfl, hs, ht, ?_, fun e => ?_, fun e1 e2 => ?_, fun e1 e2 p o hp ho => ?_⟩
    · rw [r1.length, r2.length]
      exact small2 ok.1 ok.2
    · subst e
      have e : xs = [] := by cases r1; rfl
      subst e
      exact k H _ (Keep.refl _ _) a.row ey
    · subst e2
      have e : ys = [] := by cases r2; rfl
      subst e
      rw [List.append_nil] at k
      exact k H _ (Keep.refl _ _) a.row ex
    · obtain ⟨k2, a2⟩ := a.upd (o := .frz o (.tup (vs ++ ws))) hp
      exact k _ _ k2 a2.row (.tup (a.sim.new hp) (.new ho) (Reps.append (r1.on a.own k2) (r2.on a.own k2)))
  · exact h.elim
/-- list + list: a new one -/
def nCat (f g : Ex) : Fr → Hz → T (List D) := fun fr hp => (f fr hp).bind fun x => (g fr hp).bind fun y => (asLst x).bind fun xs => (asLst y).bind fun ys => guardT (few xs 10000 && few ys 10000) (.ret (xs ++ ys))
theorem zcatL {a b : Expr} {f g : Ex} {pos : Pos} (ha : PE X a (tX X.K F f)) (hb : PE X b (tX X.K F g)) : PE X (.BinOp a .Add b pos) (tN X.K F (nCat f g)) := PEimp (pe_op op_cat ha hb) fun σ H Q h => by
  obtain ⟨ρ, m0, m1, fr, hp, a, h⟩ := h
  refine tX_mk a (T.all_bind h) fun x hx H1 v k1 a1 rx => ?_
  refine tX_mk a1 (T.all_bind hx) fun y hy H2 u k2 a2 ry => ?_
  obtain ⟨xs, rfl, h1⟩ := all_asLst (T.all_bind hy)
  obtain ⟨ys, rfl, h2⟩ := all_asLst (T.all_bind h1)
  obtain ⟨ok, k⟩ := all_guard h2
  rw [Bool.and_eq_true] at ok
  obtain ⟨b, vs, rfl, _, e1, r1⟩ := (rx.on a1.own k2).lstR
  obtain ⟨c, ws, rfl, _, e2, r2⟩ := ry.lstR
  refine ⟨b, c, vs, ws, rfl, rfl, e1, e2, by rw [r1.length, r2.length]; exact small2 ok.1 ok.2, fun p hp => ?_⟩
  obtain ⟨k3, a3⟩ := a2.upd (o := .lst (vs ++ ws)) hp
  exact k _ p _ ((k1.trans k2).trans k3) a3.row (a.free (k1.trans k2) a2.row hp) upd_same ((Reps.append r1 r2).more hp (same_new hp))
/-- list * int -/
def nRep (f g : Ex) : Fr → Hz → T (List D) := fun fr hp => (f fr hp).bind fun x => (g fr hp).bind fun y => (asLst x).bind fun xs => match y with
  | .int j => guardT (few xs 1000 && decide (-1000 ≤ j) && decide (j ≤ 1000)) (.ret (List.replicate j.toNat xs).flatten)
  | _ => .fail
theorem zrep {a b : Expr} {f g : Ex} {pos : Pos} (ha : PE X a (tX X.K F f)) (hb : PE X b (tX X.K F g)) : PE X (.BinOp a .Mult b pos) (tN X.K F (nRep f g)) := PEimp (pe_op op_rep ha hb) fun σ H Q h => by
  obtain ⟨ρ, m0, m1, fr, hp, a, h⟩ := h
  refine tX_mk a (T.all_bind h) fun x hx H1 v k1 a1 rx => ?_
  refine tX_mk a1 (T.all_bind hx) fun y hy H2 u k2 a2 ry => ?_
  obtain ⟨xs, rfl, h1⟩ := all_asLst (T.all_bind hy)
  split at h1
  · rename_i j
    obtain ⟨ok, k⟩ := all_guard h1
    rw [Bool.and_eq_true, Bool.and_eq_true] at ok
    have j1 := of_decide_eq_true ok.1.2
    have j2 := of_decide_eq_true ok.2
    have j3 := few_le ok.1.1
    cases ry
    obtain ⟨b, vs, rfl, _, e1, r1⟩ := (rx.on a1.own k2).lstR
    refine ⟨b, j, vs, rfl, rfl, e1, by omega, by omega, ?_, fun p hp => ?_⟩
    · have l1 := r1.length
      have l2 : j.toNat ≤ 1000 := by omega
      have l3 : vs.length * j.toNat ≤ 1000 * 1000 := Nat.mul_le_mul (by omega) l2
      have l4 : (1000 * 1000 : Nat) ≤ sizeLine := by decide
      omega
    · obtain ⟨k3, a3⟩ := a2.upd (o := .lst (List.replicate j.toNat vs).flatten) hp
      exact k _ p _ ((k1.trans k2).trans k3) a3.row (a.free (k1.trans k2) a2.row hp) upd_same ((Reps.rep r1 _).more hp (same_new hp))
  · exact h1.elim

/-! ### is None, type(x) is T -/
def isN (f : Ex) : Ex := fun fr hp => (f fr hp).bind fun x => match x with
  | .non => .ret (.bl true)
  | _ => .ret (.bl false)
def isNN (f : Ex) : Ex := fun fr hp => (f fr hp).bind fun x => match x with
  | .non => .ret (.bl false)
  | _ => .ret (.bl true)
theorem Rep.isNon {K : PySem.W.Frag} {m : List Addr} {H : Hp} {v : V} {d : D} (r : Rep K F m H v d) : decide (v = V.non) = (match d with | .non => true | _ => false) := by
  cases r <;> rfl
theorem isN_core {f : Ex} {σ : L2.St} {H : Hp} {Q : VK} (h : tX X.K F (isN f) σ H Q) : tIsN (tX X.K F f) σ H Q := by
  obtain ⟨ρ, m0, m1, fr, hp, a, h⟩ := h
  refine tX_mk a (T.all_bind h) fun x hx H1 v k1 a1 rx => ?_
  rw [rx.isNon]
  cases x <;> exact hx H1 _ k1 a1.row (.bl _)
theorem isNN_core {f : Ex} {σ : L2.St} {H : Hp} {Q : VK} (h : tX X.K F (isNN f) σ H Q) : tNotN (tX X.K F f) σ H Q := by
  obtain ⟨ρ, m0, m1, fr, hp, a, h⟩ := h
  refine tX_mk a (T.all_bind h) fun x hx H1 v k1 a1 rx => ?_
  rw [rx.isNon]
  cases x <;> exact hx H1 _ k1 a1.row (.bl _)
theorem zisN {a : Expr} {f : Ex} {j} {pos pos' : Pos} (ha : PE X a (tX X.K F f)) : PE X (.Compare a [.Is] [.Constant .none j pos'] pos) (tX X.K F (isN f)) := PEimp (pe_cmp (pc_isN ha)) fun σ H Q h => isN_core h
theorem zisNN {a : Expr} {f : Ex} {j} {pos pos' : Pos} (ha : PE X a (tX X.K F f)) : PE X (.Compare a [.IsNot] [.Constant .none j pos'] pos) (tX X.K F (isNN f)) := PEimp (pe_cmp (pc_notN ha)) fun σ H Q h => isNN_core h
theorem ztisN {a : Expr} {f : Ex} {j} {pos pos' : Pos} (ha : PE X a (tX X.K F f)) : PT X (.Compare a [.Is] [.Constant .none j pos'] pos) (tB' X.K F (b1 (isN f))) := PTimp (pt_cmp (pc_isN ha)) fun σ H Q h => isN_core (b1_core h)
theorem ztisNN {a : Expr} {f : Ex} {j} {pos pos' : Pos} (ha : PE X a (tX X.K F f)) : PT X (.Compare a [.IsNot] [.Constant .none j pos'] pos) (tB' X.K F (b1 (isNN f))) := PTimp (pt_cmp (pc_notN ha)) fun σ H Q h => isNN_core (b1_core h)
def dTy : D → T D
  | .non => .ret (.ty "NoneType")
  | .bl _ => .ret (.ty "bool")
  | .int _ => .ret (.ty "int")
  | .str _ => .ret (.ty "str")
  | .tup _ => .ret (.ty "tuple")
  | .lst _ => .ret (.ty "list")
  | _ => .fail
/-- type(x) -/
theorem ztype {a : Expr} {f : Ex} {p pos : Pos} (hg : Gl X "type") (hm : X.mg "type" = none) (ha : PE X a (tX X.K F f)) (na : starEach [a] X.env = (false, eval a X.env) :: starEach [] X.env := by rfl) : PE X (.Call (.Name "type" p) [a] [] pos) (tX X.K F (e1 dTy f)) :=
  PEimp (pe_callTy call_type1 hg hm (by decide +kernel) (pa_cons ha pa_nil na) (he := na)) fun σ H Q h => by
    obtain ⟨ρ, m0, m1, fr, hp, a, h⟩ := h
    refine tX_mk a (T.all_bind h) fun x hx H1 v k1 a1 rx => ?_
    cases x <;> first | exact hx.elim | skip
    · cases rx; exact ⟨_, _, rfl, .non, hx H1 _ k1 a1.row (.ty _)⟩
    · cases rx; exact ⟨_, _, rfl, .bl _, hx H1 _ k1 a1.row (.ty _)⟩
    · cases rx; exact ⟨_, _, rfl, .int _, hx H1 _ k1 a1.row (.ty _)⟩
    · cases rx; exact ⟨_, _, rfl, .str _, hx H1 _ k1 a1.row (.ty _)⟩
    · obtain ⟨b, vs, rfl, hs, _⟩ := rx.tupR
      exact ⟨_, _, rfl, .tup hs, hx H1 _ k1 a1.row (.ty _)⟩
    · obtain ⟨b, vs, rfl, _, hs, _⟩ := rx.lstR
      exact ⟨_, _, rfl, .lst (.inl (.inl hs)), hx H1 _ k1 a1.row (.ty _)⟩
def dIsTy (x y : D) : T D := match x, y with
  | .ty m, .ty n => .ret (.bl (decide (m = n)))
  | _, _ => .fail
theorem oisTy : OpZ X F (compareOp .Is) dIsTy := OpZ.of op_isTy fun m H v u x y Q rx ry h => by
  unfold dIsTy at h
  split at h
  · cases rx
    cases ry
    exact ⟨_, _, rfl, rfl, h _ (.bl _)⟩
  · exact h.elim
/-- a built-in class's name -/
theorem zty {x : Str} {n : String} {pos : Pos} (hg : Gl X x) (hm : X.mg x = none) (hv : bootBuiltins x = some (.type n)) (hn : x ≠ "__name__" := by decide) (hd : (x == ("__debug__" : Str)) = false := by decide) : PE X (.Name x pos) (tX X.K F (eC (.ty n))) :=
  zc (pe_bltn (v := .ty n) hg hm hv rfl hn hd) fun _ _ => .ty n

/-! ### a < b < c -/
def eChain (o o' : D → D → T D) (f g k : Ex) : Ex := fun fr hp => (f fr hp).bind fun x => (g fr hp).bind fun y => (o x y).bind fun z => (asB z).bind fun b => bif b then (k fr hp).bind fun w => o' y w else .ret (.bl false)
theorem chain_core {op op' : CmpOp} {o o' : D → D → T D} {f g k : Ex} {r r' : R2}
    (h2 : ∀ (σ : L2.St) (fr : Fr) (ρ : Option Addr) (m0 m1 : List Addr) (H : Hp) (hp : Hz) (v u : V) (x y : D) (Q : VK), At X.K F ρ m0 m1 H σ fr hp → Rep X.K F (m0 ++ m1) H v x → Rep X.K F (m0 ++ m1) H u y →
      ((o x y).all fun d => ∀ H' w, Keep ρ H H' → RowA X.K ρ H' → Rep X.K F (m0 ++ m1) H' w d → Q w H') → r v u H Q)
    (h4 : ∀ (σ : L2.St) (fr : Fr) (ρ : Option Addr) (m0 m1 : List Addr) (H : Hp) (hp : Hz) (v u : V) (x y : D) (Q : VK), At X.K F ρ m0 m1 H σ fr hp → Rep X.K F (m0 ++ m1) H v x → Rep X.K F (m0 ++ m1) H u y →
      ((o' x y).all fun d => ∀ H' w, Keep ρ H H' → RowA X.K ρ H' → Rep X.K F (m0 ++ m1) H' w d → Q w H') → r' v u H Q)
    {σ : L2.St} {H : Hp} {Q : VK} (h : tX X.K F (eChain o o' f g k) σ H Q) : tChain r r' (tX X.K F f) (tX X.K F g) (tX X.K F k) σ H Q := by
  obtain ⟨ρ, m0, m1, fr, hp, a, h⟩ := h
  refine tX_mk a (T.all_bind h) fun x hx H1 v k1 a1 rx => ?_
  refine tX_mk a1 (T.all_bind hx) fun y hy H2 u k2 a2 ry => ?_
  refine h2 σ fr ρ m0 m1 H2 hp v u x y _ a2 (rx.on a1.own k2) ry (T.all_mono (fun d hd H3 w k3 w3 rw' => ?_) (T.all_bind hy))
  obtain ⟨b, rfl, hb⟩ := all_asB (T.all_bind hd)
  cases rw'
  refine ⟨b, rfl, ?_⟩
  have a3 := a2.on k3 w3
  cases b with
  | false => exact hb H3 _ ((k1.trans k2).trans k3) w3 (.bl false)
  | true =>
    refine tX_mk a3 (T.all_bind hb) fun z hz H4 w' k4 a4 rz => ?_
    exact h4 σ fr ρ m0 m1 H4 hp u w' y z _ a4 ((ry.on a2.own k3).on a3.own k4) rz (T.all_mono (fun d hd H5 w5 k5 s5 r5 => hd H5 w5 ((((k1.trans k2).trans k3).trans k4).trans k5) s5 r5) hz)
theorem zchain {a b c : Expr} {op op' : CmpOp} {o o' : D → D → T D} {f g k : Ex} {pos : Pos} (ho : OpZ X F (compareOp op) o) (ho' : OpZ X F (compareOp op') o') (ha : PE X a (tX X.K F f)) (hb : PE X b (tX X.K F g)) (hc : PE X c (tX X.K F k))
    (hm : lastMarks [op, op'] [b, c] = false := by with_unfolding_all rfl) : PE X (.Compare a [op, op'] [b, c] pos) (tX X.K F (eChain o o' f g k)) := by
  obtain ⟨r, h1, h2⟩ := ho
  obtain ⟨r', h3, h4⟩ := ho'
  exact PEimp (pe_chain h1 h3 ha hb hc hm) fun σ H Q h => chain_core (op := op) (op' := op') h2 h4 h
end
end Zl

set_option Elab.async false
set_option linter.all false
set_option maxRecDepth 100000
set_option maxHeartbeats 1000000
/-! Z7: in, subscripts, slices, len, tuple, list, all, any, sorted, isinstance, index. -/
namespace Zl
open PySem L2 PySem.Spec PyProof.Rows

/-! ### in, not in: flat items -/
def flatD : D → Bool
  | .non => true
  | .bl _ => true
  | .int _ => true
  | .str _ => true
  | _ => false
def eqF : D → D → Bool
  | .int a, .int b => eqI a b
  | .str a, .str b => eqNs a b
  | .non, .non => true
  | .bl a, .bl b => a == b
  | .bl a, .int b => eqI (if a then 1 else 0) b
  | .int a, .bl b => eqI a (if b then 1 else 0)
  | _, _ => false
def anyF (x : D) : List D → Bool
  | [] => false
  | y :: ys => if eqF y x then true else anyF x ys
section
variable {X : Cx} {F : Nat → Option Addr}
theorem Rep.flat {K : PySem.W.Frag} {m : List Addr} {H : Hp} {v : V} {d : D} (r : Rep K F m H v d) (h : flatD d = true) : flatV v = true := by
  cases d <;> first | (cases r; rfl) | (exact absurd h (by simp [flatD]))
theorem Rep.eqF {K : PySem.W.Frag} {m : List Addr} {H : Hp} {v u : V} {x y : D} (r : Rep K F m H v x) (q : Rep K F m H u y) (hx : flatD x = true) (hy : flatD y = true) : eqV v u = eqF x y := by
  cases x <;> first | (exact absurd hx (by decide)) | skip
  all_goals (cases y <;> first | (exact absurd hy (by decide)) | skip)
  all_goals cases r
  all_goals cases q
  all_goals first | rfl | exact (eqI_beq _ _).symm | exact str_beq _ _
theorem Reps.flat {K : PySem.W.Frag} {m : List Addr} {H : Hp} : ∀ {vs : List V} {ds : List D}, Reps K F m H vs ds → allO flatD ds = true → vs.all flatV = true
  | _, _, .nil, _ => rfl
  | _, d :: ds, .cons r rs, h => by
    unfold allO at h
    by_cases h1 : flatD d = true
    · rw [if_pos h1] at h
      rw [List.all_cons, r.flat h1, Reps.flat rs h]
      rfl
    · rw [if_neg h1] at h
      exact absurd h Bool.false_ne_true
theorem Reps.anyF {K : PySem.W.Frag} {m : List Addr} {H : Hp} {v : V} {x : D} (q : Rep K F m H v x) (hx : flatD x = true) : ∀ {vs : List V} {ds : List D}, Reps K F m H vs ds → allO flatD ds = true → inV v vs = anyF x ds
  | _, _, .nil, _ => rfl
  | _, d :: ds, .cons r rs, h => by
    unfold allO at h
    by_cases h1 : flatD d = true
    · rw [if_pos h1] at h
      unfold inV
      rw [List.any_cons, r.eqF q h1 hx]
      have ih := Reps.anyF q hx rs h
      unfold inV at ih
      rw [ih]
      show (Zl.eqF d x || Zl.anyF x ds) = if Zl.eqF d x then true else Zl.anyF x ds
      cases Zl.eqF d x <;> rfl
    · rw [if_neg h1] at h
      exact absurd h Bool.false_ne_true
def eIn (neg : Bool) (f : Ex) (g : Fr → Hz → T (List D)) : Ex := fun fr hp => (f fr hp).bind fun x => (g fr hp).bind fun ys => guardT (flatD x && allO flatD ys) (.ret (.bl (if neg then !anyF x ys else anyF x ys)))
theorem in_core {neg : Bool} {f : Ex} {g : Fr → Hz → T (List D)} {σ : L2.St} {H : Hp} {Q : VK} (h : tX X.K F (eIn neg f g) σ H Q) : tOp (rIn X.K neg) (tX X.K F f) (tSq X.K F g) σ H Q := by
  obtain ⟨ρ, m0, m1, fr, hp, a, h⟩ := h
  refine tX_mk a (T.all_bind h) fun x hx H1 v k1 a1 rx => ?_
  refine tSq_mk a1 (T.all_bind hx) fun ys hy H2 u k2 a2 ru => ?_
  obtain ⟨ok, k⟩ := all_guard hy
  rw [Bool.and_eq_true] at ok
  obtain ⟨b, vs, rfl, hs, rs⟩ := ru
  have rx2 := rx.on a1.own k2
  refine ⟨b, vs, rfl, hs.sq, rx2.flat ok.1, rs.flat ok.2, ?_⟩
  rw [Reps.anyF rx2 ok.1 rs ok.2]
  exact k H2 _ (k1.trans k2) a2.row (.bl _)
theorem zin {a b : Expr} {f : Ex} {g : Fr → Hz → T (List D)} {pos : Pos} (ha : PE X a (tX X.K F f)) (hb : PE X b (tSq X.K F g)) (hm : behindInMarks .In b = false := by rfl) : PE X (.Compare a [.In] [b] pos) (tX X.K F (eIn false f g)) := PEimp (pe_cmpR op_in_seq ha hb hm) fun σ H Q h => in_core h
theorem zni {a b : Expr} {f : Ex} {g : Fr → Hz → T (List D)} {pos : Pos} (ha : PE X a (tX X.K F f)) (hb : PE X b (tSq X.K F g)) (hm : behindInMarks .NotIn b = false := by rfl) : PE X (.Compare a [.NotIn] [b] pos) (tX X.K F (eIn true f g)) := PEimp (pe_cmpR op_notIn_seq ha hb hm) fun σ H Q h => in_core h
theorem ztin {a b : Expr} {f : Ex} {g : Fr → Hz → T (List D)} {pos : Pos} (ha : PE X a (tX X.K F f)) (hb : PE X b (tSq X.K F g)) (hm : behindInMarks .In b = false := by rfl) : PT X (.Compare a [.In] [b] pos) (tB' X.K F (b1 (eIn false f g))) := PTimp (pt_cmpR op_in_seq ha hb hm) fun σ H Q h => in_core (b1_core h)
theorem ztni {a b : Expr} {f : Ex} {g : Fr → Hz → T (List D)} {pos : Pos} (ha : PE X a (tX X.K F f)) (hb : PE X b (tSq X.K F g)) (hm : behindInMarks .NotIn b = false := by rfl) : PT X (.Compare a [.NotIn] [b] pos) (tB' X.K F (b1 (eIn true f g))) := PTimp (pt_cmpR op_notIn_seq ha hb hm) fun σ H Q h => in_core (b1_core h)

/-! ### subscripts -/
def gtL {α : Type} : List α → Nat → Option α
  | [], _ => none
  | x :: _, 0 => some x
  | _ :: r, n + 1 => gtL r n
theorem gtL_eq {α : Type} : ∀ (l : List α) (i : Nat), gtL l i = l[i]?
  | [], _ => rfl
  | _ :: _, 0 => rfl
  | _ :: r, n + 1 => by simpa [gtL] using gtL_eq r n
/-- an item by its place, from the end where it is below 0 -/
def atD {α : Type} (xs : List α) (i : Int) : Option α := match i with
  | .ofNat n => gtL xs n
  | .negSucc n => gtL xs.reverse n
theorem atD_atI {α β : Type} {R : α → β → Prop} {xs : List α} {ys : List β} (hl : xs.length = ys.length) (hr : ∀ (i : Nat) (y : β), ys[i]? = some y → ∃ x, xs[i]? = some x ∧ R x y) {i : Int} {y : β} (h : atD ys i = some y) : ∃ x, atI xs i = some x ∧ R x y := by
  unfold atD at h
  cases i with
  | ofNat n =>
    have h : gtL ys n = some y := h
    rw [gtL_eq] at h
    obtain ⟨x, e, r⟩ := hr n y h
    exact ⟨x, atI_nat e, r⟩
  | negSucc n =>
    have h : gtL ys.reverse n = some y := h
    rw [gtL_eq] at h
    have hn : n < ys.length := by simpa using (List.getElem?_eq_some_iff.mp h).1
    rw [List.getElem?_reverse hn] at h
    obtain ⟨x, e, r⟩ := hr _ y h
    refine ⟨x, ?_, r⟩
    unfold atI ixN
    have h1 : ¬ (0 : Int) ≤ Int.negSucc n := by omega
    have h2 : -(xs.length : Int) ≤ Int.negSucc n := by omega
    rw [if_neg h1, if_pos h2]
    have h3 : (Int.negSucc n + (xs.length : Int)).toNat = ys.length - 1 - n := by omega
    show xs[(Int.negSucc n + (xs.length : Int)).toNat]? = some x
    rw [h3]
    exact e
def eIx (f : Fr → Hz → T (List D)) (g : Ex) : Ex := fun fr hp => (f fr hp).bind fun xs => (g fr hp).bind fun y => match y with
  | .int i => ofO (atD xs i)
  | _ => .fail
theorem zix {a b : Expr} {f : Fr → Hz → T (List D)} {g : Ex} {pos : Pos} (ha : PE X a (tSq X.K F f)) (hb : PE X b (tX X.K F g)) (hs : PlainIx b := by exact fun _ _ => rfl) : PE X (.Subscript a b pos) (tX X.K F (eIx f g)) := PEimp (pe_ix ix_seq ha hb hs) fun σ H Q h => by
  obtain ⟨ρ, m0, m1, fr, hp, a, h⟩ := h
  refine tSq_mk a (T.all_bind h) fun xs hx H1 v k1 a1 rx => ?_
  refine tX_mk a1 (T.all_bind hx) fun y hy H2 u k2 a2 ry => ?_
  obtain ⟨b, vs, rfl, hs, rs⟩ := rx
  split at hy
  · rename_i i
    obtain ⟨d, e, k⟩ := all_ofO hy
    cases ry
    obtain ⟨w, e2, rw'⟩ := atD_atI rs.length (fun i y h => rs.get h) e
    have q := k H2 w (k1.trans k2) a2.row (rw'.on a1.own k2)
    rcases (hs.on a1.own k2).sq with hs | hs
    · exact .inl ⟨b, vs, i, w, rfl, rfl, hs, e2, q⟩
    · exact .inr (.inl ⟨b, vs, i, w, rfl, rfl, hs, e2, q⟩)
  · exact hy.elim
/-- a sign of a text -/
def eIxS (f g : Ex) : Ex := fun fr hp => (f fr hp).bind fun x => (g fr hp).bind fun y => match x, y with
  | .str s, .int i => guardT (few s 10000) ((ofO (atD s i)).bind fun c => .ret (.str [c]))
  | _, _ => .fail
theorem zixs {a b : Expr} {f g : Ex} {pos : Pos} (ha : PE X a (tX X.K F f)) (hb : PE X b (tX X.K F g)) (hs : PlainIx b := by exact fun _ _ => rfl) : PE X (.Subscript a b pos) (tX X.K F (eIxS f g)) := PEimp (pe_ix ix_seq ha hb hs) fun σ H Q h => by
  obtain ⟨ρ, m0, m1, fr, hp, a, h⟩ := h
  refine tX_mk a (T.all_bind h) fun x hx H1 v k1 a1 rx => ?_
  refine tX_mk a1 (T.all_bind hx) fun y hy H2 u k2 a2 ry => ?_
  split at hy
  · rename_i s i
    obtain ⟨ok, k⟩ := all_guard hy
    obtain ⟨c, e, k⟩ := all_ofO (T.all_bind k)
    cases rx
    cases ry
    obtain ⟨w, e2, rfl⟩ := atD_atI (R := fun (x y : Nat) => x = y) (xs := s) rfl (fun i y h => ⟨y, h, rfl⟩) e
    refine .inr (.inr ⟨_, i, w, rfl, rfl, ?_, ?_, k H2 _ (k1.trans k2) a2.row (.str [w])⟩)
    · have := few_le ok
      have h3 : (10000 : Nat) ≤ sizeLine := by decide
      show s.toArray.size ≤ sizeLine
      rw [List.size_toArray]
      omega
    · exact e2
  · exact hy.elim

/-! ### len, tuple, list, all, any -/
def eLen (g : Fr → Hz → T (List D)) : Ex := fun fr hp => (g fr hp).bind fun xs => .ret (.int xs.length)
theorem zlen {e : Expr} {g : Fr → Hz → T (List D)} {p pos : Pos} (hg : Gl X "len") (hm : X.mg "len" = none) (he : PE X e (tSq X.K F g)) (na : starEach (e :: []) X.env = (false, eval e X.env) :: starEach [] X.env := by rfl) : PE X (.Call (.Name "len" p) [e] [] pos) (tX X.K F (eLen g)) :=
  PEimp (pe_callB call_len_seq hg hm PySem.boot_len (pa_cons he pa_nil na) (he := na)) fun σ H Q h => by
    obtain ⟨ρ, m0, m1, fr, hp, a, h⟩ := h
    refine tSq_mk a (T.all_bind h) fun xs hx H1 v k1 a1 rx => ?_
    obtain ⟨b, vs, rfl, hs, rs⟩ := rx
    refine ⟨b, vs, rfl, hs.sq, ?_⟩
    rw [rs.length]
    exact hx H1 _ k1 a1.row (.int _)
def eTupOf (g : Fr → Hz → T (List D)) : Ex := fun fr hp => (g fr hp).bind fun xs => .ret (.tup xs)
theorem call_tupF : CallR X (.type "tuple") (fun xs H Q => ∃ p ys, xs = [.ref p] ∧ ((SqL X.K H p ys ∧ ∀ l o, H l = none → o.dict = none → Q (.ref l) (upd H l (.frz o (.tup ys)))) ∨ (SqT X.K H p ys ∧ Q (.ref p) H))) := by
  intro pins s σ H xs us Q I r h
  obtain ⟨p, ys, rfl, h⟩ := h
  obtain ⟨u, rfl, rx⟩ := vals1 r
  cases rx
  rcases h with ⟨hq, q⟩ | ⟨hq, q⟩
  · obtain ⟨its, r', pl, hz⟩ := I.list hq
    have hlen := r'.length
    refine call_tuple_list pl.isList (fun h' kp => ?_) (by simp only [List.size_toArray] <;> omega)
    have I1 : Inv X pins σ H { s with heap := h' } := I.kept (t' := s.toks) kp
    exact ⟨.ref h'.objs.size, _, layTup I1 r' hz, rfl, q _ _ (I1.hok.fresh (Nat.le_refl _)) rfl⟩
  · obtain ⟨its, r', pl, hz⟩ := I.tuple hq
    exact call_tuple_same pl ⟨V.ref p, H, I, rfl, q⟩
theorem ztupOf {e : Expr} {g : Fr → Hz → T (List D)} {p pos : Pos} (hg : Gl X "tuple") (hm : X.mg "tuple" = none) (he : PE X e (tSq X.K F g)) (na : starEach (e :: []) X.env = (false, eval e X.env) :: starEach [] X.env := by rfl) : PE X (.Call (.Name "tuple" p) [e] [] pos) (tX X.K F (eTupOf g)) :=
  PEimp (pe_callTy call_tupF hg hm PyProof.Rows.boot_tuple (pa_cons he pa_nil na) (he := na)) fun σ H Q h => by
    obtain ⟨ρ, m0, m1, fr, hp, a, h⟩ := h
    refine tSq_mk a (T.all_bind h) fun xs hx H1 v k1 a1 rx => ?_
    obtain ⟨b, vs, rfl, hs, rs⟩ := rx
    rcases hs with ⟨hn, h1 | h1⟩ | h1
    · refine ⟨b, vs, rfl, .inl ⟨.inl (.inl h1), fun l o hl ho => ?_⟩⟩
      obtain ⟨k3, a3⟩ := a1.upd (o := .frz o (.tup vs)) hl
      exact hx _ _ (k1.trans k3) a3.row (.tup (a1.sim.new hl) (.new ho) (rs.on a1.own k3))
    · refine ⟨b, vs, rfl, .inr ⟨h1.sq, hx H1 _ k1 a1.row (.tup (fun z => (List.mem_append.mp z).elim hn fun z => ?_) h1 rs)⟩⟩
      obtain ⟨n, hn⟩ := List.getElem?_of_mem z
      have hlt : n < hp.length := by rw [← a1.sim.len]; exact (List.getElem?_eq_some_iff.mp hn).1
      obtain ⟨c, e1, ws, e2, _⟩ := a1.sim.cell n _ (List.getElem?_eq_getElem hlt)
      rw [hn] at e1
      cases e1
      obtain ⟨o, e3, _⟩ := h1
      rw [e2] at e3
      cases e3
    · exact ⟨b, vs, rfl, .inr ⟨h1.sq, hx H1 _ k1 a1.row (.tupK h1 rs)⟩⟩
/-- list(x): a new one -/
theorem zlistOf {e : Expr} {g : Fr → Hz → T (List D)} {p pos : Pos} (hg : Gl X "list") (hm : X.mg "list" = none) (he : PE X e (tSq X.K F g)) (na : starEach (e :: []) X.env = (false, eval e X.env) :: starEach [] X.env := by rfl) : PE X (.Call (.Name "list" p) [e] [] pos) (tN X.K F g) :=
  PEimp (pe_callTy call_list_of hg hm PyProof.Rows.boot_list (pa_cons he pa_nil na) (he := na)) fun σ H Q h => by
    obtain ⟨ρ, m0, m1, fr, hp, a, h⟩ := h
    refine tSq_mk a h fun xs hx H1 v k1 a1 rx => ?_
    obtain ⟨b, vs, rfl, hs, rs⟩ := rx
    refine ⟨b, vs, rfl, hs.sq, fun l hl => ?_⟩
    obtain ⟨k3, a3⟩ := a1.upd (o := .lst vs) hl
    exact hx _ l _ (k1.trans k3) a3.row (a.free k1 a1.row hl) upd_same (rs.more hl (same_new hl))
def bools : List D → Option (List Bool)
  | [] => some []
  | .bl b :: r => match bools r with
    | some bs => some (b :: bs)
    | none => none
  | _ :: _ => none
theorem bools_reps {K : PySem.W.Frag} {m : List Addr} {H : Hp} : ∀ {vs : List V} {ds : List D} {bs : List Bool}, Reps K F m H vs ds → bools ds = some bs → vs = bs.map V.bl
  | _, _, _, .nil, h => by
    cases Option.some.inj h
    rfl
  | _, .bl b :: ds, bs, .cons r rs, h => by
    unfold bools at h
    cases e : bools ds with
    | none => rw [e] at h; cases h
    | some cs =>
      rw [e] at h
      cases Option.some.inj h
      rw [bools_reps rs e]
      cases r
      rfl
  | _, .non :: _, _, _, h => nomatch h
  | _, .int _ :: _, _, _, h => nomatch h
  | _, .str _ :: _, _, _, h => nomatch h
  | _, .ty _ :: _, _, _, h => nomatch h
  | _, .fn _ :: _, _, _, h => nomatch h
  | _, .tup _ :: _, _, _, h => nomatch h
  | _, .lst _ :: _, _, _, h => nomatch h
def allBs : List Bool → Bool
  | [] => true
  | b :: r => bif b then allBs r else false
def anyBs : List Bool → Bool
  | [] => false
  | b :: r => bif b then true else anyBs r
theorem allBs_eq : ∀ l, allBs l = l.all id
  | [] => rfl
  | b :: r => by unfold allBs; rw [List.all_cons, allBs_eq r]; cases b <;> rfl
theorem anyBs_eq : ∀ l, anyBs l = l.any id
  | [] => rfl
  | b :: r => by unfold anyBs; rw [List.any_cons, anyBs_eq r]; cases b <;> rfl
def eAll (g : Fr → Hz → T (List D)) : Ex := fun fr hp => (g fr hp).bind fun xs => (ofO (bools xs)).bind fun bs => .ret (.bl (allBs bs))
def eAny (g : Fr → Hz → T (List D)) : Ex := fun fr hp => (g fr hp).bind fun xs => (ofO (bools xs)).bind fun bs => .ret (.bl (anyBs bs))
theorem zall {e : Expr} {g : Fr → Hz → T (List D)} {p pos : Pos} (hc : X.calm = true) (hg : Gl X "all") (hm : X.mg "all" = none) (he : PE X e (tN X.K F g)) (na : starEach (e :: []) X.env = (false, eval e X.env) :: starEach [] X.env := by rfl) : PE X (.Call (.Name "all" p) [e] [] pos) (tX X.K F (eAll g)) :=
  PEimp (pe_callB (cr_all hc) hg hm (by decide +kernel) (pa_cons he pa_nil na) (he := na)) fun σ H Q h => by
    obtain ⟨ρ, m0, m1, fr, hp, a, h⟩ := h
    show tN X.K F g σ H fun x H1 => rAll X.K [x] H1 Q
    refine tN_mk a (T.all_bind h) fun xs hx H1 b vs k1 a1 hb hl rs => ?_
    obtain ⟨bs, e, k⟩ := all_ofO (T.all_bind hx)
    obtain rfl := bools_reps rs e
    refine ⟨b, bs, rfl, .inl (.inl hl), ?_⟩
    rw [← allBs_eq]
    exact k H1 _ k1 a1.row (.bl _)
theorem zany {e : Expr} {g : Fr → Hz → T (List D)} {p pos : Pos} (hc : X.calm = true) (hg : Gl X "any") (hm : X.mg "any" = none) (he : PE X e (tN X.K F g)) (na : starEach (e :: []) X.env = (false, eval e X.env) :: starEach [] X.env := by rfl) : PE X (.Call (.Name "any" p) [e] [] pos) (tX X.K F (eAny g)) :=
  PEimp (pe_callB (cr_any hc) hg hm (by decide +kernel) (pa_cons he pa_nil na) (he := na)) fun σ H Q h => by
    obtain ⟨ρ, m0, m1, fr, hp, a, h⟩ := h
    show tN X.K F g σ H fun x H1 => rAny X.K [x] H1 Q
    refine tN_mk a (T.all_bind h) fun xs hx H1 b vs k1 a1 hb hl rs => ?_
    obtain ⟨bs, e, k⟩ := all_ofO (T.all_bind hx)
    obtain rfl := bools_reps rs e
    refine ⟨b, bs, rfl, .inl (.inl hl), ?_⟩
    rw [← anyBs_eq]
    exact k H1 _ k1 a1.row (.bl _)
end
end Zl

set_option Elab.async false
set_option linter.all false
set_option maxRecDepth 100000
set_option maxHeartbeats 1000000
/-! Z8: sorted ints, isinstance, index, tuple(range), list(range), slices. -/
namespace Zl
open PySem L2 PySem.Spec PyProof.Rows

/-! ### sorted ints -/
def insI (x : Int) : List Int → List Int
  | [] => [x]
  | y :: r => if x ≤ y then x :: y :: r else y :: insI x r
def isort : List Int → List Int
  | [] => []
  | x :: r => insI x (isort r)
theorem insI_perm (x : Int) : ∀ l, (insI x l).Perm (x :: l)
  | [] => .refl _
  | y :: r => by
    unfold insI
    split
    · exact .refl _
    · exact ((insI_perm x r).cons y).trans (List.Perm.swap x y r)
theorem insI_mem {x z : Int} {l : List Int} (h : z ∈ insI x l) : z = x ∨ z ∈ l := List.mem_cons.mp ((insI_perm x l).mem_iff.mp h)
theorem insI_sorted (x : Int) : ∀ l, l.Pairwise (· ≤ ·) → (insI x l).Pairwise (· ≤ ·)
  | [], _ => by simp [insI]
  | y :: r, h => by
    obtain ⟨h1, h2⟩ := List.pairwise_cons.mp h
    unfold insI
    split
    · rename_i hxy
      refine List.pairwise_cons.mpr ⟨fun z hz => ?_, h⟩
      rcases List.mem_cons.mp hz with e | e
      · rw [e]; exact hxy
      · exact Int.le_trans hxy (h1 z e)
    · rename_i hxy
      refine List.pairwise_cons.mpr ⟨fun z hz => ?_, insI_sorted x r h2⟩
      rcases insI_mem hz with e | e
      · rw [e]; omega
      · exact h1 z e
theorem isort_perm : ∀ l, (isort l).Perm l
  | [] => .refl _
  | x :: r => (insI_perm x (isort r)).trans ((isort_perm r).cons x)
theorem isort_sorted : ∀ l, (isort l).Pairwise (· ≤ ·)
  | [] => List.Pairwise.nil
  | x :: r => insI_sorted x _ (isort_sorted r)
def intsO : List D → Option (List Int)
  | [] => some []
  | .int b :: r => match intsO r with
    | some bs => some (b :: bs)
    | none => none
  | _ :: _ => none
theorem ints_reps {K : PySem.W.Frag} {F : Nat → Option Addr} {m : List Addr} {H : Hp} : ∀ {vs : List V} {ds : List D} {bs : List Int}, Reps K F m H vs ds → intsO ds = some bs → vs = bs.map V.int ∧ ds = bs.map D.int
  | _, _, _, .nil, h => by
    cases Option.some.inj h
    exact ⟨rfl, rfl⟩
  | _, .int b :: ds, bs, .cons r rs, h => by
    unfold intsO at h
    cases e : intsO ds with
    | none => rw [e] at h; cases h
    | some cs =>
      rw [e] at h
      cases Option.some.inj h
      obtain ⟨e1, e2⟩ := ints_reps rs e
      rw [e1, e2]
      cases r
      exact ⟨rfl, rfl⟩
  | _, .non :: _, _, _, h => nomatch h
  | _, .bl _ :: _, _, _, h => nomatch h
  | _, .str _ :: _, _, _, h => nomatch h
  | _, .ty _ :: _, _, _, h => nomatch h
  | _, .fn _ :: _, _, _, h => nomatch h
  | _, .tup _ :: _, _, _, h => nomatch h
  | _, .lst _ :: _, _, _, h => nomatch h
theorem reps_ints {K : PySem.W.Frag} {F : Nat → Option Addr} {m : List Addr} {H : Hp} : ∀ bs : List Int, Reps K F m H (bs.map V.int) (bs.map D.int)
  | [] => .nil
  | b :: r => .cons (.int b) (reps_ints r)
def intsD : List Int → List D
  | [] => []
  | b :: r => .int b :: intsD r
theorem intsD_eq : ∀ l, intsD l = l.map D.int
  | [] => rfl
  | b :: r => congrArg (D.int b :: ·) (intsD_eq r)
def nSort (g : Fr → Hz → T (List D)) : Fr → Hz → T (List D) := fun fr hp => (g fr hp).bind fun xs => guardT (few xs 63) ((ofO (intsO xs)).bind fun bs => .ret (intsD (isort bs)))
section
variable {X : Cx} {F : Nat → Option Addr}
theorem zsortI {e : Expr} {g : Fr → Hz → T (List D)} {p pos : Pos} (hg : Gl X "sorted") (hm : X.mg "sorted" = none) (he : PE X e (tN X.K F g)) (na : starEach (e :: []) X.env = (false, eval e X.env) :: starEach [] X.env := by rfl) : PE X (.Call (.Name "sorted" p) [e] [] pos) (tN X.K F (nSort g)) :=
  PEimp (pe_callB cr_sorted hg hm (by decide +kernel) (pa_cons he pa_nil na) (he := na)) fun σ H Q h => by
    obtain ⟨ρ, m0, m1, fr, hp, a, h⟩ := h
    show tN X.K F g σ H fun x H1 => rSorted X.K [x] H1 Q
    refine tN_mk a (T.all_bind h) fun xs hx H1 b vs k1 a1 hb hl rs => ?_
    obtain ⟨hf, hx⟩ := all_guard hx
    obtain ⟨bs, e, k⟩ := all_ofO (T.all_bind hx)
    obtain ⟨e1, e2⟩ := ints_reps rs e
    subst e1
    refine ⟨b, bs, rfl, .inl (.inl hl), ?_, fun ns q hpm hso hq => ?_⟩
    · have h1 := few_le hf
      have h2 := rs.length
      rw [List.length_map] at h2
      omega
    · have e3 : ns = isort bs := PySem.W.ksm_same (hpm.trans (isort_perm bs).symm) hso (isort_sorted bs)
      subst e3
      obtain ⟨k3, a3⟩ := a1.upd (o := .lst ((isort bs).map V.int)) hq
      refine k _ q _ (k1.trans k3) a3.row (a.free k1 a1.row hq) upd_same ?_
      rw [intsD_eq]
      exact reps_ints _

/-! ### tuple(range(n)), list(range(n)) -/
theorem reps_rg {K : PySem.W.Frag} {m : List Addr} {H : Hp} : ∀ (n : Nat) (a : Int), Reps K F m H ((List.range n).map fun i => V.int (a + (i : Nat))) (upto a n)
  | 0, _ => .nil
  | n + 1, a => by
    rw [List.range_succ_eq_map, List.map_cons, List.map_map]
    have h := reps_rg (K := K) (m := m) (H := H) n (a + 1)
    have e : ((fun (i : Nat) => V.int (a + (i : Nat))) ∘ Nat.succ) = fun (i : Nat) => V.int (a + 1 + (i : Nat)) := by
      funext i
      show V.int (a + ((i + 1 : Nat) : Int)) = V.int (a + 1 + (i : Int))
      congr 1
      omega
    rw [e]
    refine .cons ?_ h
    have e2 : a + ((0 : Nat) : Int) = a := by simp
    rw [e2]
    exact .int a
def rg1 (f : Ex) : Fr → Hz → T (List D) := fun fr hp => (f fr hp).bind fun x => rng1 [x]
def tTupRgF (te : L2.St → Hp → (Int → Int → Hp → Prop) → Prop) : TE := fun σ H Q => te σ H fun a b H1 => RgOk a b ∧ ∀ q o, H1 q = none → o.dict = none → Q (.ref q) (upd H1 q (.frz o (.tup (rgV a b))))
theorem pe_tupRgF {e : Expr} {te : L2.St → Hp → (Int → Int → Hp → Prop) → Prop} {p pos : Pos} (hc : X.calm = true) (hg : Gl X "tuple") (hm : X.mg "tuple" = none) (he : PRg X e te) (na : starEach [e] X.env = (false, eval e X.env) :: starEach [] X.env := by rfl) : PE X (.Call (.Name "tuple" p) [e] [] pos) (tTupRgF te) := by
  constructor
  intro pins s σ H Q I h
  refine Call_ (ld_blt I hg hm PyProof.Rows.boot_tuple (PyProof.Rows.callWith_type1 (args_cons (thn (he pins s σ H _ I h) fun x s1 hh => ?_) na) na))
  obtain ⟨r, a, b, t, u, v, H1, ex, hr, I1, ok, q⟩ := hh
  refine args_nil ?_
  subst ex
  obtain ⟨b1, b2, b3, b4, b5⟩ := ok
  refine call_tuple_range (n := (b - a).toNat) (I1.ok.hd hc) hr (small_one b1 b2 b3 b4) (rangeSize_nat a b) b5 fun h' tk acc hk hi => ?_
  have I2 : Inv X pins σ H1 { s1 with heap := h', toks := tk } := I1.kept hk
  have z : (rgV a b).length ≤ sizeLine := by rw [rgV_length, sizeLine_eq]; omega
  have I3 := layTup I2 (vals_rg hi) z
  rw [Array.toArray_toList] at I3
  exact ⟨.ref h'.objs.size, _, I3, rfl, q _ _ (I2.hok.fresh (Nat.le_refl _)) rfl⟩
theorem ztupRg {e : Expr} {f : Ex} {p p2 pos pos2 : Pos} (hc : X.calm = true) (hg : Gl X "tuple") (hm : X.mg "tuple" = none) (hg2 : Gl X "range") (hm2 : X.mg "range" = none) (he : PE X e (tX X.K F f))
    (na : starEach [e] X.env = (false, eval e X.env) :: starEach [] X.env := by rfl) (nb : starEach [.Call (.Name "range" p2) [e] [] pos2] X.env = (false, eval (.Call (.Name "range" p2) [e] [] pos2) X.env) :: starEach [] X.env := by rfl) :
    PE X (.Call (.Name "tuple" p) [.Call (.Name "range" p2) [e] [] pos2] [] pos) (tX X.K F (eTupOf (rg1 f))) :=
  PEimp (pe_tupRgF hc hg hm (prg_1 hg2 hm2 he na) nb) fun σ H Q h => by
    obtain ⟨ρ, m0, m1, fr, hp, a, h⟩ := h
    refine tX_mk a (T.all_bind (T.all_bind h)) fun x hx H1 v k1 a1 rx => ?_
    unfold rng1 at hx
    split at hx
    · rename_i j e
      cases e
      obtain ⟨hj, k⟩ := all_guard hx
      obtain ⟨h1, h2⟩ := small_of hj
      cases rx
      refine ⟨j, rfl, ⟨by omega, by omega, by omega, by omega, by omega⟩, fun q o hq ho => ?_⟩
      obtain ⟨k3, a3⟩ := a1.upd (o := .frz o (.tup (rgV 0 j))) hq
      refine k _ _ (k1.trans k3) a3.row (.tup (a1.sim.new hq) (.new ho) ?_)
      have e0 : (j - 0).toNat = j.toNat := by simp
      unfold rgV
      rw [e0]
      exact reps_rg _ 0
    · exact hx.elim
theorem zlistRg {e : Expr} {f : Ex} {p p2 pos pos2 : Pos} (hc : X.calm = true) (hg : Gl X "list") (hm : X.mg "list" = none) (hg2 : Gl X "range") (hm2 : X.mg "range" = none) (he : PE X e (tX X.K F f))
    (na : starEach [e] X.env = (false, eval e X.env) :: starEach [] X.env := by rfl) (nb : starEach [.Call (.Name "range" p2) [e] [] pos2] X.env = (false, eval (.Call (.Name "range" p2) [e] [] pos2) X.env) :: starEach [] X.env := by rfl) :
    PE X (.Call (.Name "list" p) [.Call (.Name "range" p2) [e] [] pos2] [] pos) (tN X.K F (rg1 f)) :=
  PEimp (pe_listRg hc hg hm (prg_1 hg2 hm2 he na) nb) fun σ H Q h => by
    obtain ⟨ρ, m0, m1, fr, hp, a, h⟩ := h
    refine tX_mk a (T.all_bind h) fun x hx H1 v k1 a1 rx => ?_
    unfold rng1 at hx
    split at hx
    · rename_i j e
      cases e
      obtain ⟨hj, k⟩ := all_guard hx
      obtain ⟨h1, h2⟩ := small_of hj
      cases rx
      refine ⟨j, rfl, ⟨by omega, by omega, by omega, by omega, by omega⟩, fun q hq => ?_⟩
      obtain ⟨k3, a3⟩ := a1.upd (o := .lst (rgV 0 j)) hq
      refine k _ q _ (k1.trans k3) a3.row (a.free k1 a1.row hq) upd_same ?_
      have e0 : (j - 0).toNat = j.toNat := by simp
      unfold rgV
      rw [e0]
      exact reps_rg _ 0
    · exact hx.elim

/-! ### t.index(x), ints -/
def idxI (k : Int) : List Int → Option Nat
  | [] => none
  | x :: r => if eqI x k then some 0 else match idxI k r with
    | some n => some (n + 1)
    | none => none
theorem idxI_some : ∀ {k : Int} {l : List Int} {n : Nat}, idxI k l = some n → k ∈ l ∧ l.idxOf k = n
  | _, [], _, h => nomatch h
  | k, x :: r, n, h => by
    unfold idxI at h
    by_cases e : x = k
    · subst e
      have : eqI x x = true := by simp [eqI]
      rw [if_pos this] at h
      cases Option.some.inj h
      exact ⟨List.mem_cons_self, by simp⟩
    · have : ¬ eqI x k = true := by simp [eqI, e]
      rw [if_neg this] at h
      cases e2 : idxI k r with
      | none => rw [e2] at h; cases h
      | some j =>
        rw [e2] at h
        cases Option.some.inj h
        obtain ⟨h1, h2⟩ := idxI_some e2
        refine ⟨List.mem_cons_of_mem _ h1, ?_⟩
        rw [List.idxOf_cons]
        have : (x == k) = false := beq_eq_false_iff_ne.mpr e
        rw [this, h2]
        rfl
theorem mt_tupIndexI : MtR X "tuple.index" (fun x xs H Q => ∃ p, ∃ ns : List Int, ∃ k j, x = .ref p ∧ xs = [.int k] ∧ SqT X.K H p (ns.map V.int) ∧ idxI k ns = some j ∧ Q (.int (j : Nat)) H) := by
  intro pins s σ H x xs v us Q I rx rxs h
  obtain ⟨p, ns, k, j, rfl, rfl, hs, hj, q⟩ := h
  obtain ⟨u, rfl, t, rfl⟩ := Vals.one rxs
  cases rx
  obtain ⟨its, rv, ht, _⟩ := I.tuple hs
  obtain ⟨h1, h2⟩ := idxI_some hj
  refine PySem.SeqAt.tuple_index_ints (ns := ns) (show s.heap.IsTuple p its.toArray from ht) rv.ints h1 ?_
  rw [h2]
  exact ⟨V.int _, H, I.tok _, ⟨_, rfl⟩, q⟩
def eIdx (f g : Ex) : Ex := fun fr hp => (f fr hp).bind fun x => (asTup x).bind fun xs => (g fr hp).bind fun y => match y with
  | .int k => (ofO (intsO xs)).bind fun ns => (ofO (idxI k ns)).bind fun j => .ret (.int j)
  | _ => .fail
/-- a method of a tuple -/
def tMtT (K : PySem.W.Frag) (r : V → List V → Hp → VK → Prop) (to : TE) (t : TA) : TE := fun σ H Q => to σ H fun x H1 => (∃ a vs, x = .ref a ∧ (TupO H1 a vs ∨ StT K a vs)) ∧ t σ H1 fun xs H2 => r x xs H2 Q
theorem pe_mtT {o e : Expr} {es : List Expr} {to : TE} {t : TA} {name : Str} {apos cpos : Pos} {id : String} {r : V → List V → Hp → VK → Prop} (slot : Slot "tuple" name id) (hty : typeOf (.builtin id) = pure (.type "method_descriptor")) (hm : MtR X id r) (ho : PE X o to) (ha : PA X (e :: es) t)
    (hbase : attributeBase o name X.env (eval o X.env) = eval o X.env := by rfl)
    (hfew : ((backTo cpos (starEach (e :: es) X.env)).all (fun x => !x.1) && (backToKw cpos (keywordEach [] X.env)).all (fun x => x.1.isSome) && decide ((e :: es).length + ([] : List Keyword).length + (if ([] : List Keyword).isEmpty then 0 else 1) < 30)) = true := by rfl)
    (hline : (apos.endLine == cpos.line) = true := by rfl) (hs : starEach (e :: es) X.env = (false, eval e X.env) :: starEach es X.env := by rfl) (hplain : (backTo cpos (starEach es X.env)).any (·.1) = false := by rfl) :
    PE X (.Call (.Attribute o name apos) (e :: es) [] cpos) (tMtT X.K r to t) := by
  constructor
  intro pins s σ H Q I h
  refine wpAny_Call_method_late hbase hfew hline rfl (thn (ho.run pins s σ H _ I h) fun v s1 hh => ?_)
  obtain ⟨x, H1, I1, r1, ⟨a, vs, rfl, ty⟩, q1⟩ := hh
  obtain rfl : v = Value.ref a := r1
  have z : ∃ ob, s1.heap.get? a = some ob ∧ ob.cls = .type "tuple" ∧ ob.dict = none := by
    rcases ty with ⟨ob, e1, e2⟩ | ⟨ob, its, n, ⟨e1, e2, _⟩, e3⟩
    · obtain ⟨g, hz, us, rv, ob2, g2, c2, _⟩ : ObjOk X.prog X.w H1 s1.heap a (.frz ob (.tup vs)) := I1.hok a _ e1
      rw [g] at g2
      cases g2
      exact ⟨ob, g, c2, e2⟩
    · exact ⟨ob, I1.kIn a ob e1, e2, e3⟩
  obtain ⟨ob, g, c, d⟩ := z
  refine ⟨"tuple", id, PySem.F.plainAttrs_tuple, slot, hty, ⟨ob, g, c⟩, fun b e => ?_, ?_⟩
  · cases e
    exact ⟨ob, g, d⟩
  · have hA := ha.run cpos pins s1 σ H1 _ I1 q1
    rw [hs] at hA ⊢
    refine Calls.callWith_builtin (by show (false || (backTo cpos (starEach es X.env)).any (·.1)) = false; rw [hplain] <;> rfl) (Calls.evalArgs_plain (thn hA fun us s2 hh => ?_))
    obtain ⟨ws, H2, I2, r2, q2⟩ := hh
    exact hm pins s2 σ H2 (V.ref a) ws _ us Q I2 rfl r2 q2
theorem zidx {o e : Expr} {f g : Ex} {apos pos : Pos} (ho : PE X o (tX X.K F f)) (he : PE X e (tX X.K F g))
    (hbase : attributeBase o "index" X.env (eval o X.env) = eval o X.env := by rfl)
    (hfew : ((backTo pos (starEach (e :: []) X.env)).all (fun x => !x.1) && (backToKw pos (keywordEach [] X.env)).all (fun x => x.1.isSome) && decide ((e :: []).length + ([] : List Keyword).length + (if ([] : List Keyword).isEmpty then 0 else 1) < 30)) = true := by rfl)
    (hline : (apos.endLine == pos.line) = true := by rfl) (na : starEach (e :: []) X.env = (false, eval e X.env) :: starEach [] X.env := by rfl) :
    PE X (.Call (.Attribute o "index" apos) [e] [] pos) (tX X.K F (eIdx f g)) :=
  PEimp (pe_mtT PySem.F.slot_tuple_index PySem.F.type_tuple_index mt_tupIndexI ho (pa_cons he pa_nil na) hbase hfew hline na rfl) fun σ H Q h => by
    obtain ⟨ρ, m0, m1, fr, hp, a, h⟩ := h
    refine tX_mk a (T.all_bind h) fun x hx H1 v k1 a1 rx => ?_
    obtain ⟨xs, rfl, hx⟩ := all_asTup (T.all_bind hx)
    refine ⟨?_, ?_⟩
    · cases rx with
      | tup _ e _ => exact ⟨_, _, rfl, .inl e⟩
      | tupK e _ => exact ⟨_, _, rfl, .inr e⟩
    · show tX X.K F g σ H1 fun y H2 => _
      refine tX_mk a1 (T.all_bind hx) fun y hy H2 u k2 a2 ry => ?_
      cases y with
      | int k =>
        obtain ⟨ns, e1, hy⟩ := all_ofO (T.all_bind hy)
        obtain ⟨j, e2, k⟩ := all_ofO (T.all_bind hy)
        cases ry
        obtain ⟨b, vs, rfl, hs, rs⟩ := (rx.on a1.own k2).tupR
        obtain ⟨e3, _⟩ := ints_reps rs e1
        subst e3
        exact ⟨b, ns, _, j, rfl, rfl, hs, e2, k H2 _ (k1.trans k2) a2.row (.int _)⟩
      | _ => exact hy.elim
end
end Zl

set_option Elab.async false
set_option linter.all false
set_option maxRecDepth 100000
set_option maxHeartbeats 2000000
/-! ZA: permutations, combinations, product: what the model's tables say of them. -/
namespace Zi
open PySem PySem.Spec PyProof.Rows

theorem mro_pm : mroOf (.type "itertools.permutations") = pure [.type "itertools.permutations", .type "object"] := by rw [mroOf_type]; kernel_rfl
theorem look_pm : typeLookup (.type "itertools.permutations") "__new__" = pure (some (.builtin "itertools.permutations.__new__")) := by rw [typeLookup_type, builtinLookup_eq_fast]; kernel_rfl
theorem sub_pm : isSubtype (.type "itertools.permutations") (.type "itertools.permutations") = pure true := by rw [isSubtype_type]; kernel_rfl
theorem init_pm : Slot "itertools.permutations" "__init__" "object.__init__" :=
  .of (owner := "object") (n := "__init__") (by rw [typeLookup_type, builtinLookup_eq_fast]; kernel_rfl) (by decide +kernel) (by decide +kernel) (by decide +kernel) (by first | exact .inl (by decide +kernel) | exact .inr (by decide +kernel)) (by rw [isSubtype_type]; kernel_rfl)
theorem iter_pm : Slot "itertools.permutations" "__iter__" "itertools.permutations.__iter__" :=
  .of (owner := "itertools.permutations") (n := "__iter__") (by rw [typeLookup_type, builtinLookup_eq_fast]; kernel_rfl) (by decide +kernel) (by decide +kernel) (by decide +kernel) (by first | exact .inl (by decide +kernel) | exact .inr (by decide +kernel)) sub_pm
theorem next_pm : Slot "itertools.permutations" "__next__" "itertools.permutations.__next__" :=
  .of (owner := "itertools.permutations") (n := "__next__") (by rw [typeLookup_type, builtinLookup_eq_fast]; kernel_rfl) (by decide +kernel) (by decide +kernel) (by decide +kernel) (by first | exact .inl (by decide +kernel) | exact .inr (by decide +kernel)) sub_pm
theorem called_pm : TypeCalled "itertools.permutations" "itertools.permutations.__new__" "object.__init__" :=
  ⟨by decide +kernel, by decide +kernel, ⟨_, _, mro_pm⟩, madeBy_type mro_pm look_pm (by decide +kernel), by decide +kernel, sub_pm, init_pm⟩
theorem en_new_pm : entryFor table "itertools.permutations.__new__" = some Builtin.«itertools.permutations.__new__» := entryFor_of_tree (by kernel_rfl)
theorem en_iter_pm : entryFor table "itertools.permutations.__iter__" = some Builtin.«dict_keyiterator.__iter__» :=
  entryFor_alias (id' := "dict_keyiterator.__iter__") (by kernel_rfl) (by first | rfl | decide +kernel | (unfold String.splitOn; simp +decide [String.splitOnAux])) (by decide +kernel) (by kernel_rfl)
theorem en_next_pm : entryFor table "itertools.permutations.__next__" = some Builtin.«itertools.permutations.__next__» := entryFor_of_tree (by kernel_rfl)
theorem owner_pm : Manifest.owners.lookup (String.ofList ['s', 'n', 'o', 'i', 't', 'a', 't', 'u', 'm', 'r', 'e', 'p', '.', 's', 'l', 'o', 'o', 't', 'r', 'e', 't', 'i'].reverse) = some Manifest.sig_itertools_permutations := by kernel_rfl
theorem ar_iter_pm (a : Value) : argsOk "itertools.permutations.__iter__" ⟨[a], []⟩ := by
  unfold argsOk; rw [signature?_of (id := "itertools.permutations.__iter__") (n := ['_', '_', 'r', 'e', 't', 'i', '_', '_']) (o := ['s', 'n', 'o', 'i', 't', 'a', 't', 'u', 'm', 'r', 'e', 'p', '.', 's', 'l', 'o', 'o', 't', 'r', 'e', 't', 'i']) (by kernel_rfl) owner_pm]; kernel_rfl
theorem ar_next_pm (a : Value) : argsOk "itertools.permutations.__next__" ⟨[a], []⟩ := by
  unfold argsOk; rw [signature?_of (id := "itertools.permutations.__next__") (n := ['_', '_', 't', 'x', 'e', 'n', '_', '_']) (o := ['s', 'n', 'o', 'i', 't', 'a', 't', 'u', 'm', 'r', 'e', 'p', '.', 's', 'l', 'o', 'o', 't', 'r', 'e', 't', 'i']) (by kernel_rfl) owner_pm]; kernel_rfl
theorem nodict_pm : typeHasDict (.type "itertools.permutations") = false := by decide +kernel
theorem nolen_pm : typeLookup (.type "itertools.permutations") "__len__" = pure none := by rw [typeLookup_type, builtinLookup_eq_fast]; kernel_rfl
theorem nohint_pm : typeLookup (.type "itertools.permutations") "__length_hint__" = pure none := by rw [typeLookup_type, builtinLookup_eq_fast]; kernel_rfl
theorem plain_pm : plainId "itertools.permutations.__new__" = true := by decide +kernel

theorem mro_cb : mroOf (.type "itertools.combinations") = pure [.type "itertools.combinations", .type "object"] := by rw [mroOf_type]; kernel_rfl
theorem look_cb : typeLookup (.type "itertools.combinations") "__new__" = pure (some (.builtin "itertools.combinations.__new__")) := by rw [typeLookup_type, builtinLookup_eq_fast]; kernel_rfl
theorem sub_cb : isSubtype (.type "itertools.combinations") (.type "itertools.combinations") = pure true := by rw [isSubtype_type]; kernel_rfl
theorem init_cb : Slot "itertools.combinations" "__init__" "object.__init__" :=
  .of (owner := "object") (n := "__init__") (by rw [typeLookup_type, builtinLookup_eq_fast]; kernel_rfl) (by decide +kernel) (by decide +kernel) (by decide +kernel) (by first | exact .inl (by decide +kernel) | exact .inr (by decide +kernel)) (by rw [isSubtype_type]; kernel_rfl)
theorem iter_cb : Slot "itertools.combinations" "__iter__" "itertools.combinations.__iter__" :=
  .of (owner := "itertools.combinations") (n := "__iter__") (by rw [typeLookup_type, builtinLookup_eq_fast]; kernel_rfl) (by decide +kernel) (by decide +kernel) (by decide +kernel) (by first | exact .inl (by decide +kernel) | exact .inr (by decide +kernel)) sub_cb
theorem next_cb : Slot "itertools.combinations" "__next__" "itertools.combinations.__next__" :=
  .of (owner := "itertools.combinations") (n := "__next__") (by rw [typeLookup_type, builtinLookup_eq_fast]; kernel_rfl) (by decide +kernel) (by decide +kernel) (by decide +kernel) (by first | exact .inl (by decide +kernel) | exact .inr (by decide +kernel)) sub_cb
theorem called_cb : TypeCalled "itertools.combinations" "itertools.combinations.__new__" "object.__init__" :=
  ⟨by decide +kernel, by decide +kernel, ⟨_, _, mro_cb⟩, madeBy_type mro_cb look_cb (by decide +kernel), by decide +kernel, sub_cb, init_cb⟩
theorem en_new_cb : entryFor table "itertools.combinations.__new__" = some Builtin.«itertools.combinations.__new__» := entryFor_of_tree (by kernel_rfl)
theorem en_iter_cb : entryFor table "itertools.combinations.__iter__" = some Builtin.«dict_keyiterator.__iter__» :=
  entryFor_alias (id' := "dict_keyiterator.__iter__") (by kernel_rfl) (by first | rfl | decide +kernel | (unfold String.splitOn; simp +decide [String.splitOnAux])) (by decide +kernel) (by kernel_rfl)
theorem en_next_cb : entryFor table "itertools.combinations.__next__" = some Builtin.«itertools.combinations.__next__» := entryFor_of_tree (by kernel_rfl)
theorem owner_cb : Manifest.owners.lookup (String.ofList ['s', 'n', 'o', 'i', 't', 'a', 'n', 'i', 'b', 'm', 'o', 'c', '.', 's', 'l', 'o', 'o', 't', 'r', 'e', 't', 'i'].reverse) = some Manifest.sig_itertools_combinations := by kernel_rfl
theorem ar_iter_cb (a : Value) : argsOk "itertools.combinations.__iter__" ⟨[a], []⟩ := by
  unfold argsOk; rw [signature?_of (id := "itertools.combinations.__iter__") (n := ['_', '_', 'r', 'e', 't', 'i', '_', '_']) (o := ['s', 'n', 'o', 'i', 't', 'a', 'n', 'i', 'b', 'm', 'o', 'c', '.', 's', 'l', 'o', 'o', 't', 'r', 'e', 't', 'i']) (by kernel_rfl) owner_cb]; kernel_rfl
theorem ar_next_cb (a : Value) : argsOk "itertools.combinations.__next__" ⟨[a], []⟩ := by
  unfold argsOk; rw [signature?_of (id := "itertools.combinations.__next__") (n := ['_', '_', 't', 'x', 'e', 'n', '_', '_']) (o := ['s', 'n', 'o', 'i', 't', 'a', 'n', 'i', 'b', 'm', 'o', 'c', '.', 's', 'l', 'o', 'o', 't', 'r', 'e', 't', 'i']) (by kernel_rfl) owner_cb]; kernel_rfl
theorem nodict_cb : typeHasDict (.type "itertools.combinations") = false := by decide +kernel
theorem nolen_cb : typeLookup (.type "itertools.combinations") "__len__" = pure none := by rw [typeLookup_type, builtinLookup_eq_fast]; kernel_rfl
theorem nohint_cb : typeLookup (.type "itertools.combinations") "__length_hint__" = pure none := by rw [typeLookup_type, builtinLookup_eq_fast]; kernel_rfl
theorem plain_cb : plainId "itertools.combinations.__new__" = true := by decide +kernel

theorem mro_pd : mroOf (.type "itertools.product") = pure [.type "itertools.product", .type "object"] := by rw [mroOf_type]; kernel_rfl
theorem look_pd : typeLookup (.type "itertools.product") "__new__" = pure (some (.builtin "itertools.product.__new__")) := by rw [typeLookup_type, builtinLookup_eq_fast]; kernel_rfl
theorem sub_pd : isSubtype (.type "itertools.product") (.type "itertools.product") = pure true := by rw [isSubtype_type]; kernel_rfl
theorem init_pd : Slot "itertools.product" "__init__" "object.__init__" :=
  .of (owner := "object") (n := "__init__") (by rw [typeLookup_type, builtinLookup_eq_fast]; kernel_rfl) (by decide +kernel) (by decide +kernel) (by decide +kernel) (by first | exact .inl (by decide +kernel) | exact .inr (by decide +kernel)) (by rw [isSubtype_type]; kernel_rfl)
theorem iter_pd : Slot "itertools.product" "__iter__" "itertools.product.__iter__" :=
  .of (owner := "itertools.product") (n := "__iter__") (by rw [typeLookup_type, builtinLookup_eq_fast]; kernel_rfl) (by decide +kernel) (by decide +kernel) (by decide +kernel) (by first | exact .inl (by decide +kernel) | exact .inr (by decide +kernel)) sub_pd
theorem next_pd : Slot "itertools.product" "__next__" "itertools.product.__next__" :=
  .of (owner := "itertools.product") (n := "__next__") (by rw [typeLookup_type, builtinLookup_eq_fast]; kernel_rfl) (by decide +kernel) (by decide +kernel) (by decide +kernel) (by first | exact .inl (by decide +kernel) | exact .inr (by decide +kernel)) sub_pd
theorem called_pd : TypeCalled "itertools.product" "itertools.product.__new__" "object.__init__" :=
  ⟨by decide +kernel, by decide +kernel, ⟨_, _, mro_pd⟩, madeBy_type mro_pd look_pd (by decide +kernel), by decide +kernel, sub_pd, init_pd⟩
theorem en_new_pd : entryFor table "itertools.product.__new__" = some Builtin.«itertools.product.__new__» := entryFor_of_tree (by kernel_rfl)
theorem en_iter_pd : entryFor table "itertools.product.__iter__" = some Builtin.«dict_keyiterator.__iter__» :=
  entryFor_alias (id' := "dict_keyiterator.__iter__") (by kernel_rfl) (by first | rfl | decide +kernel | (unfold String.splitOn; simp +decide [String.splitOnAux])) (by decide +kernel) (by kernel_rfl)
theorem en_next_pd : entryFor table "itertools.product.__next__" = some Builtin.«itertools.product.__next__» := entryFor_of_tree (by kernel_rfl)
theorem owner_pd : Manifest.owners.lookup (String.ofList ['t', 'c', 'u', 'd', 'o', 'r', 'p', '.', 's', 'l', 'o', 'o', 't', 'r', 'e', 't', 'i'].reverse) = some Manifest.sig_itertools_product := by kernel_rfl
theorem ar_iter_pd (a : Value) : argsOk "itertools.product.__iter__" ⟨[a], []⟩ := by
  unfold argsOk; rw [signature?_of (id := "itertools.product.__iter__") (n := ['_', '_', 'r', 'e', 't', 'i', '_', '_']) (o := ['t', 'c', 'u', 'd', 'o', 'r', 'p', '.', 's', 'l', 'o', 'o', 't', 'r', 'e', 't', 'i']) (by kernel_rfl) owner_pd]; kernel_rfl
theorem ar_next_pd (a : Value) : argsOk "itertools.product.__next__" ⟨[a], []⟩ := by
  unfold argsOk; rw [signature?_of (id := "itertools.product.__next__") (n := ['_', '_', 't', 'x', 'e', 'n', '_', '_']) (o := ['t', 'c', 'u', 'd', 'o', 'r', 'p', '.', 's', 'l', 'o', 'o', 't', 'r', 'e', 't', 'i']) (by kernel_rfl) owner_pd]; kernel_rfl
theorem nodict_pd : typeHasDict (.type "itertools.product") = false := by decide +kernel
theorem nolen_pd : typeLookup (.type "itertools.product") "__len__" = pure none := by rw [typeLookup_type, builtinLookup_eq_fast]; kernel_rfl
theorem nohint_pd : typeLookup (.type "itertools.product") "__length_hint__" = pure none := by rw [typeLookup_type, builtinLookup_eq_fast]; kernel_rfl
theorem plain_pd : plainId "itertools.product.__new__" = true := by decide +kernel
theorem ty1_pm (a : Value) : checkTypeCall "itertools.permutations" ⟨[a], []⟩ = pure () := by kernel_rfl
theorem nw1_pm (a : Value) : checkBuiltinCall "itertools.permutations.__new__" ⟨[.type "itertools.permutations", a], []⟩ = pure () := by kernel_rfl
theorem ty2_cb (a b : Value) : checkTypeCall "itertools.combinations" ⟨[a, b], []⟩ = pure () := by kernel_rfl
theorem nw2_cb (a b : Value) : checkBuiltinCall "itertools.combinations.__new__" ⟨[.type "itertools.combinations", a, b], []⟩ = pure () := by kernel_rfl
theorem ty4_pd (a b c d : Value) : checkTypeCall "itertools.product" ⟨[a, b, c, d], []⟩ = pure () := by kernel_rfl
theorem nw4_pd (a b c d : Value) : checkBuiltinCall "itertools.product.__new__" ⟨[.type "itertools.product", a, b, c, d], []⟩ = pure () := by kernel_rfl
end Zi

set_option Elab.async false
set_option linter.all false
set_option maxRecDepth 100000
set_option maxHeartbeats 2000000
/-! ZB: permutations and combinations made and asked. -/
namespace Zi
open PySem PySem.Spec PyProof.Rows
open Sem (wp)

/-- a record of a class, and the pool it draws from -/
def IsIt (T : String) (h : Heap) (it pool : Addr) (fs : List Value) (items : List Value) : Prop :=
  h.get? it = some { cls := .type T, data := .fields fs.toArray } ∧ h.get? pool = some { cls := .type "tuple", data := .seq items.toArray } ∧ pool ≠ it
theorem few_no {n : Nat} (h : n ≤ 64) : Builtin.Itertools.itTooMany (n : Int) = false := by
  unfold Builtin.Itertools.itTooMany
  exact decide_eq_false (by omega)
section
variable {prog : Program} {w : World} {A : Around} {E : Value → Shared → Prop} {s : Shared}
theorem code_pm_new {r : Addr} {n : Nat} {t u v : Tok} {Q : Value → Shared → Prop} (hh : A.handled = none) (hr : IsRange s.heap r 0 n 1 t u v) (hn : n ≤ 64)
    (h : ∀ (h' : Heap) (tk : Nat) (acc : Array Value), (∀ b o, s.heap.get? b = some o → h'.get? b = some o) → ItemsOf (fun i v => ∃ t, v = .int (0 + i * 1) t) acc n →
      Q (.ref (h'.objs.size + 1)) { s with heap := (h'.push { cls := .type "tuple", data := .seq acc.toList.toArray }).push { cls := .type "itertools.permutations", data := .fields ([Value.ref h'.objs.size, rawInt 0, rawInt n, .none] ++ (List.range n).map (fun (i : Nat) => rawInt i) ++ (List.range n).map fun (i : Nat) => rawInt ((n : Int) - i)).toArray }, toks := tk }) :
    codeAny (model prog w) A (.call (.builtin "itertools.permutations.__new__") ⟨[.type "itertools.permutations", .ref r], []⟩) (wants Q E) s := by
  refine codeAny_of_tree ?_
  show wpAny _ A.in1 (do checkBuiltinCall "itertools.permutations.__new__" ⟨[.type "itertools.permutations", .ref r], []⟩; again (.builtin "itertools.permutations.__new__" ⟨[.type "itertools.permutations", .ref r], []⟩)) _ _ s
  refine wpAny_bind (wpAny_of_eq (nw1_pm _) (wpAny_pure ⟨plainId_quiet plain_pm _, codeAny_builtin en_new_pm ?_⟩))
  rw [Around.under_plainId plain_pm _]
  have hd := nodict_pm
  have hh1 : A.in1.handled = none := hh
  unfold Builtin.«itertools.permutations.__new__»
  refine wpAny_bind (wpAny_of_eq (a := (Value.type "itertools.permutations", [Value.ref r])) (by kernel_rfl) ?_)
  try dsimp only
  refine wpAny_bind (wpAny_of_eq (a := [some (Value.ref r), none]) (by kernel_rfl) ?_)
  try dsimp only
  refine wpAny_bind (L2.collect_range hh1 hr (n := n) (small_one (by omega) (by omega) (by omega) (by omega)) (by have := rangeSize_nat 0 (n : Int); simpa using this) (by omega) fun h' tk acc hk hi => ?_)
  have el : acc.toList.length = n := by rw [Array.length_toList]; exact hi.1
  have es : acc.toList.toArray.size = n := by simpa using hi.1
  refine wpAny_bind (wpAny_pure ?_)
  rw [el]
  rw [if_neg (by omega)]
  rw [if_neg (by rw [few_no hn]; decide)]
  simp only [newTuple]
  refine wpAny_bind (wpAny_newObj_type ?_ (by show acc.toList.toArray.size ≤ sizeLine; rw [es]; size_fits))
  refine wpAny_bind ?_
  unfold Builtin.Itertools.itNewRecord
  rw [hd]
  rw [if_pos (by decide)]
  refine wpAny_newObj_type ?_ (by
    show (List.toArray _).size ≤ sizeLine + 2
    rw [List.size_toArray]
    simp only [List.length_append, List.length_map, List.length_range, List.length_cons, List.length_nil, Int.toNat_natCast]
    rw [sizeLine_eq]
    omega)
  refine wpAny_pure ?_
  have e0 : (if ((n : Int)).toNat > n then (2 : Int) else 0) = 0 := if_neg (by omega)
  rw [e0, Int.toNat_natCast]
  have q := h h' tk acc hk hi
  have sz : (h'.push { cls := .type "tuple", data := .seq acc.toList.toArray }).objs.size = h'.objs.size + 1 := by simp [Heap.push]
  rw [← sz] at q
  exact q
/-- a new record behind its pool -/
def comH (h1 : Heap) (T : String) (xs : List Value) (fs : List Value) : Heap := (h1.push { cls := .type "tuple", data := .seq xs.toArray }).push { cls := .type T, data := .fields (Value.ref h1.objs.size :: fs).toArray }
theorem comH_it {h1 : Heap} {T : String} {xs fs : List Value} : IsIt T (comH h1 T xs fs) (h1.objs.size + 1) h1.objs.size (Value.ref h1.objs.size :: fs) xs := by
  have sz : (h1.push { cls := .type "tuple", data := .seq xs.toArray }).objs.size = h1.objs.size + 1 := by simp [Heap.push]
  refine ⟨?_, Heap.get?_push_of_some _ (Heap.get?_push_size _ rfl), Nat.ne_of_lt (Nat.lt_succ_self _)⟩
  rw [← sz]
  exact Heap.get?_push_size _ rfl
theorem comH_keep {h1 : Heap} {T : String} {xs fs : List Value} {b : Addr} {o : Obj} (e : h1.get? b = some o) : (comH h1 T xs fs).get? b = some o := Heap.get?_push_of_some _ (Heap.get?_push_of_some _ e)
def pmF0 (n : Nat) : List Value := [rawInt 0, rawInt n, .none] ++ (List.range n).map (fun (i : Nat) => rawInt i) ++ (List.range n).map fun (i : Nat) => rawInt ((n : Int) - i)
theorem call_pm {r : Addr} {n : Nat} {t u v : Tok} {Q : Value → Shared → Prop} (hh : A.handled = none) (hr : IsRange s.heap r 0 n 1 t u v) (hn : n ≤ 64)
    (h : ∀ (h1 : Heap) (tk : Nat) (acc : Array Value), (∀ b o, s.heap.get? b = some o → h1.get? b = some o) → ItemsOf (fun i v => ∃ t, v = .int (0 + i * 1) t) acc n →
      Q (.ref (h1.objs.size + 1)) { s with heap := comH h1 "itertools.permutations" acc.toList (pmF0 n), toks := tk }) :
    wpAny (model prog w) A (call (.type "itertools.permutations") [.ref r]) Q E s := by
  refine callType_codes (Q₁ := fun obj s₁ => s₁.TypeIs obj "itertools.permutations" ∧ Q obj s₁) called_pm (ty1_pm _) F.entry_object_init
    (code_pm_new (A := A.in1) hh hr hn fun h' tk acc hk hacc => ?_) fun obj s₁ h₁ => ?_
  · exact ⟨⟨_, (comH_it (T := "itertools.permutations") (xs := acc.toList) (fs := pmF0 n)).1, rfl⟩, h h' tk acc hk hacc⟩
  · exact ⟨h₁.1, F.args_object_init_2 obj _, object_init_meets called_pm.init.lookup called_pm.made (by decide) prog w A.in1 _ s₁ ⟨h₁.1, rfl, h₁.2⟩⟩

/-! ### the next -/
/-- the record has turned: a new tuple of the row -/
def Turned (T : String) (s : Shared) (it pool : Addr) (fs items row : List Value) (h' : Heap) : Prop :=
  IsIt T h' it pool fs items ∧ h'.get? s.heap.objs.size = some { cls := .type "tuple", data := .seq row.toArray } ∧ ∀ b o, b ≠ it → s.heap.get? b = some o → h'.get? b = some o
theorem IsIt.fld {T : String} {it pool : Addr} {fs items : List Value} (h : IsIt T s.heap it pool fs items) {g : Array Value → Array Value} {fs' : List Value} (e : g fs.toArray = fs'.toArray) :
    IsIt T (s.heap.update it (Obj.mapFields g)) it pool fs' items := by
  obtain ⟨h1, h2, h3⟩ := h
  refine ⟨?_, (Heap.get?_update_other _ _ (Ne.symm h3)).trans h2, h3⟩
  have := Heap.get?_update_self (Obj.mapFields g) h1 rfl
  rw [this]
  show some (Obj.mapFields g { cls := .type T, data := .fields fs.toArray }) = _
  simp only [Obj.mapFields]
  rw [e]
theorem IsIt.push {T : String} {it pool : Addr} {fs items : List Value} (h : IsIt T s.heap it pool fs items) (o : Obj) : IsIt T (s.heap.push o) it pool fs items :=
  ⟨Heap.get?_push_of_some _ h.1, Heap.get?_push_of_some _ h.2.1, h.2.2⟩
theorem set_arr (fs : List Value) (k : Nat) (x : Value) : fs.toArray.setIfInBounds k x = (fs.set k x).toArray := by simp
theorem hand {T : String} {it pool : Addr} {k : Nat} {fs items row : List Value} {R : Fin → Shared → Prop} (hit : IsIt T s.heap it pool fs items) (hk : k < fs.length) (hz : row.length ≤ 64)
    (h : ∀ h', Turned T s it pool (fs.set k (.ref s.heap.objs.size)) items row h' → R (.done (.ret (.ref s.heap.objs.size))) { s with heap := h' }) :
    wpAny (model prog w) A (do let t ← newTuple row; let before ← field (.ref it) k; setField (.ref it) k t; letGo [before] [t]; ret t) R E s := by
  simp only [newTuple]
  refine wpAny_bind (wpAny_newObj_type ?_ (by show (List.toArray _).size ≤ sizeLine; rw [List.size_toArray, sizeLine_eq]; omega))
  have hp := hit.push { cls := .type "tuple", data := .seq row.toArray }
  have hk' : k < fs.toArray.size := by simpa using hk
  refine wpAny_bind (wpAny_field (s := { s with heap := s.heap.push { cls := .type "tuple", data := .seq row.toArray } }) hp.1 rfl (x := fs[k]) (by simp [hk]) ?_)
  refine wpAny_bind (wpAny_setField (s := { s with heap := s.heap.push { cls := .type "tuple", data := .seq row.toArray } }) hp.1 rfl hk' ?_)
  refine wpAny_bind (wpAny_letGo ?_)
  have ne : it ≠ s.heap.objs.size := Nat.ne_of_lt (Heap.lt_size hit.1)
  refine wpAny_pure (h _ ⟨IsIt.fld (s := { s with heap := s.heap.push { cls := .type "tuple", data := .seq row.toArray } }) hp (set_arr _ _ _), ?_, fun b o hb e => ?_⟩)
  · exact (Heap.get?_update_other _ _ ne).trans (Heap.get?_push_size _ rfl)
  · exact (Heap.get?_update_other _ _ (Ne.symm hb)).trans (Heap.get?_push_of_some _ e)
theorem nums (fs : List Value) (ns : List Nat) (k : Nat) (hk : k = fs.length) (f : Value → Nat) (hf : ∀ n t, f (.int n t) = n.toNat) : (List.drop k (fs ++ ns.map fun (i : Nat) => rawInt i)).map f = ns := by
  subst hk
  rw [List.drop_left, List.map_map]
  conv => rhs; rw [← List.map_id ns]
  apply List.map_congr_left
  intro a _
  show f (.int a 0) = a
  rw [hf]
  simp
theorem Turned.back {T : String} {it pool : Addr} {f : Obj → Obj} {fs items row : List Value} {h' : Heap} (t : Turned T { s with heap := s.heap.update it f } it pool fs items row h') : Turned T s it pool fs items row h' := by
  obtain ⟨t1, t2, t3⟩ := t
  have sz : (s.heap.update it f).objs.size = s.heap.objs.size := Heap.size_update ..
  refine ⟨t1, by rw [← sz]; exact t2, fun b o hb e => t3 b o hb ((Heap.get?_update_other _ _ (Ne.symm hb)).trans e)⟩
theorem pm_first {it pool : Addr} {n : Nat} {prev : Value} {ns : List Nat} {items row : List Value} {Q : Option Value → Shared → Prop} (hit : IsIt "itertools.permutations" s.heap it pool ([.ref pool, rawInt 0, rawInt n, prev] ++ ns.map fun (i : Nat) => rawInt i) items)
    (hrow : (ns.take n).map (fun i => items.toArray.getD i .none) = row) (hz : row.length ≤ 64)
    (h : ∀ h', Turned "itertools.permutations" s it pool ([.ref pool, rawInt 1, rawInt n, .ref s.heap.objs.size] ++ ns.map fun (i : Nat) => rawInt i) items row h' → Q (some (.ref s.heap.objs.size)) { s with heap := h' }) :
    wpAny (model prog w) A (callSpecial? (.ref it) "__next__") Q E s := by
  obtain ⟨h1, h2, h3⟩ := id hit
  have hT : s.TypeIs (.ref it) "itertools.permutations" := ⟨_, h1, rfl⟩
  refine wpAny_callSpecial?_slot (name := Str.ofString "__next__") hT next_pm (wpAny_call_entry next_pm hT en_next_pm ?_ (ar_next_pm _))
  unfold Builtin.«itertools.permutations.__next__»
  refine wpAny_bind (wpAny_of_eq (a := (Value.ref it, [])) rfl ?_)
  try dsimp only
  refine wpAny_bind (wpAny_field h1 rfl (x := .ref pool) rfl ?_)
  unfold Builtin.Itertools.itPoolItems
  refine wpAny_bind (wpAny_bind (wpAny_seqItems h2 rfl ?_))
  refine wpAny_pure ?_
  try dsimp only
  unfold Builtin.Itertools.itIntField
  refine wpAny_bind (wpAny_bind (wpAny_field h1 rfl (x := rawInt n) rfl (wpAny_pure ?_)))
  unfold Builtin.Itertools.itNumbersFrom
  refine wpAny_bind ?_
  show wpAny _ _ (load it >>= _) _ _ _
  refine wpAny_bind (wpAny_load h1 ?_)
  refine wpAny_pure ?_
  refine wpAny_bind (wpAny_bind (wpAny_field h1 rfl (x := rawInt 0) rfl (wpAny_pure ?_)))
  have en := nums [.ref pool, rawInt 0, rawInt n, prev] ns 4 rfl
  show wpAny _ _ (setField (.ref it) 1 (rawInt 1) >>= _) _ _ _
  refine wpAny_bind (wpAny_setField h1 rfl (by simp) ?_)
  have hit2 := hit.fld (g := (·.setIfInBounds 1 (rawInt 1))) (set_arr _ _ _)
  try dsimp only
  rw [en _ fun _ _ => rfl, Int.toNat_natCast, hrow]
  refine hand (s := { s with heap := _ }) hit2 (by simp) hz fun h' tr => ⟨_, rfl, ?_⟩
  have sz : (s.heap.update it (Obj.mapFields fun x => x.setIfInBounds 1 (rawInt 1))).objs.size = s.heap.objs.size := Heap.size_update ..
  have q := h h' (by
    have tr := tr.back
    rw [sz] at tr
    exact tr)
  rw [← sz] at q
  exact q
def pmN : Nat → Nat → List Nat
  | 2, 0 => [0, 1, 2, 1]
  | 2, 1 => [0, 1, 2, 1]
  | 2, _ => [1, 0, 1, 1]
  | 3, 0 => [0, 1, 2, 3, 2, 1]
  | 3, 1 => [0, 1, 2, 3, 2, 1]
  | 3, 2 => [0, 2, 1, 3, 1, 1]
  | 3, 3 => [1, 0, 2, 2, 2, 1]
  | 3, 4 => [1, 2, 0, 2, 1, 1]
  | 3, 5 => [2, 0, 1, 1, 2, 1]
  | 3, _ => [2, 1, 0, 1, 1, 1]
  | _, _ => []

def pmSt : Nat → Int
  | 0 => 0
  | _ => 1
def pmCount : Nat → Nat
  | 2 => 2
  | 3 => 6
  | _ => 0
/-- the fields at the i-th turn -/
def pmF (pool : Addr) (n i : Nat) (prev : Value) : List Value := [.ref pool, rawInt (pmSt i), rawInt n, prev] ++ (pmN n i).map fun (i : Nat) => rawInt i
def pmRow (items : List Value) (n i : Nat) : List Value := ((pmN n (i + 1)).take n).map fun j => items.toArray.getD j .none
theorem pm_more {it pool : Addr} {n i : Nat} {prev : Value} {items : List Value} {Q : Option Value → Shared → Prop} (hit : IsIt "itertools.permutations" s.heap it pool (pmF pool n (i + 1) prev) items) (hl : items.length = n)
    (hn : n = 2 ∨ n = 3) (hi : i + 1 < pmCount n)
    (h : ∀ h', Turned "itertools.permutations" s it pool (pmF pool n (i + 2) (.ref s.heap.objs.size)) items (pmRow items n (i + 1)) h' → Q (some (.ref s.heap.objs.size)) { s with heap := h' }) :
    wpAny (model prog w) A (callSpecial? (.ref it) "__next__") Q E s := by
  obtain ⟨h1, h2, h3⟩ := id hit
  have hT : s.TypeIs (.ref it) "itertools.permutations" := ⟨_, h1, rfl⟩
  refine wpAny_callSpecial?_slot (name := Str.ofString "__next__") hT next_pm (wpAny_call_entry next_pm hT en_next_pm ?_ (ar_next_pm _))
  unfold Builtin.«itertools.permutations.__next__»
  refine wpAny_bind (wpAny_of_eq (a := (Value.ref it, [])) rfl ?_)
  try dsimp only
  refine wpAny_bind (wpAny_field h1 rfl (x := .ref pool) rfl ?_)
  unfold Builtin.Itertools.itPoolItems
  refine wpAny_bind (wpAny_bind (wpAny_seqItems h2 rfl ?_))
  refine wpAny_pure ?_
  try dsimp only
  unfold Builtin.Itertools.itIntField
  refine wpAny_bind (wpAny_bind (wpAny_field h1 rfl (x := rawInt n) rfl (wpAny_pure ?_)))
  unfold Builtin.Itertools.itNumbersFrom
  refine wpAny_bind ?_
  show wpAny _ _ (load it >>= _) _ _ _
  refine wpAny_bind (wpAny_load h1 ?_)
  refine wpAny_pure ?_
  refine wpAny_bind (wpAny_bind (wpAny_field h1 rfl (x := rawInt 1) rfl (wpAny_pure ?_)))
  have en := nums [.ref pool, rawInt 1, rawInt n, prev] (pmN n (i + 1)) 4 rfl
  have fin : ∀ (ns' : List Nat) (k : Nat), pmF pool n (i + 2) (.ref s.heap.objs.size) = [.ref pool, rawInt 1, rawInt n, .ref s.heap.objs.size] ++ (ns'.map fun (i : Nat) => rawInt i) → pmRow items n (i + 1) = ((ns'.take k).map fun j => items.toArray.getD j .none) → k ≤ 3 → ns'.length ≤ 64 →
      wpAny (model prog w) A.in1 (do Builtin.Itertools.itSetNumbersFrom (.ref it) 4 ns'; let t ← newTuple ((ns'.take k).map fun j => items.toArray.getD j .none); let before ← field (.ref it) 3; setField (.ref it) 3 t; letGo [before] [t]; ret t) (fun fin s' => ∃ v, fin = Fin.done (Flow.ret v) ∧ Q (some v) s') E s := by
    intro ns' k ef er hk hl
    unfold Builtin.Itertools.itSetNumbersFrom
    refine wpAny_bind ?_
    show wpAny _ _ (updateFields it _) _ _ _
    have hz : (((pmF pool n (i + 1) prev).toArray.extract 0 4) ++ (ns'.map fun (n : Nat) => rawInt n).toArray) = ([.ref pool, rawInt 1, rawInt n, prev] ++ (ns'.map fun (i : Nat) => rawInt i)).toArray := by
      unfold pmF pmSt
      simp
    have hit2 : IsIt "itertools.permutations" _ it pool ([.ref pool, rawInt 1, rawInt n, prev] ++ (ns'.map fun (i : Nat) => rawInt i)) items := hit.fld (g := fun fs => fs.extract 0 4 ++ (ns'.map fun (n : Nat) => rawInt n).toArray) hz
    refine wpAny_updateFields h1 rfl ?_ ?_
    · refine hand (s := { s with heap := _ }) hit2 (by simp) (by rw [List.length_map, List.length_take]; omega) fun h' tr => ⟨_, rfl, ?_⟩
      have sz : (s.heap.update it (Obj.mapFields fun fs => fs.extract 0 4 ++ (ns'.map fun (n : Nat) => rawInt n).toArray)).objs.size = s.heap.objs.size := Heap.size_update ..
      have q := h h' (by
        have tr := tr.back
        rw [sz] at tr
        rw [ef, er]
        exact tr)
      rw [← sz] at q
      exact q
    · rw [hz]
      show (List.toArray _).size ≤ sizeLine + 3
      rw [List.size_toArray, List.length_append, List.length_map, sizeLine_eq]
      simp only [List.length_cons, List.length_nil]
      omega
  have hs : items.toArray.size = n := by simpa using hl
  rw [show (1 : Int) = 1 from rfl]
  try dsimp only
  rw [hs]
  have e0 : ∀ {α : Type} (x : α), x = x := fun _ => rfl
  rcases hn with rfl | rfl
  · have hi' : i = 0 := by simp only [pmCount] at hi; omega
    subst hi'
    exact fin [1, 0, 1, 1] 2 rfl rfl (by decide) (by decide)
  · have hi' : i = 0 ∨ i = 1 ∨ i = 2 ∨ i = 3 ∨ i = 4 := by simp only [pmCount] at hi; omega
    rcases hi' with rfl | rfl | rfl | rfl | rfl
    · exact fin (pmN 3 2) 3 rfl rfl (by decide) (by decide)
    · exact fin (pmN 3 3) 3 rfl rfl (by decide) (by decide)
    · exact fin (pmN 3 4) 3 rfl rfl (by decide) (by decide)
    · exact fin (pmN 3 5) 3 rfl rfl (by decide) (by decide)
    · exact fin (pmN 3 6) 3 rfl rfl (by decide) (by decide)
theorem stopIt {T : String} {it pool : Addr} {fs items : List Value} {R : Fin → Shared → Prop} {Q : Option Value → Shared → Prop} (hh : A.handled = none) (hit : IsIt T s.heap it pool fs items) (hk : 1 < fs.length) (h : ∀ h', Heap.ExtBut it s.heap h' → Q none { s with heap := h' }) :
    wpAny (model prog w) A.in1 (do setField (.ref it) 1 (rawInt 2); Builtin.Itertools.itStop) R (fun e s' => wpAny (model prog w) A (do let b ← isInstance e (.type "StopIteration"); if b = true then pure none else throw e) Q E s') s := by
  refine wpAny_bind (wpAny_setField hit.1 rfl (by simpa using hk) ?_)
  unfold Builtin.Itertools.itStop
  refine wpAny_bind ?_
  simp only [newExc, newTuple]
  refine wpAny_bind (wpAny_newObj_type ?_ (by first | size_fits | trivial))
  refine wpAny_bind (m := firstArgMember _ _) (wpAny_of_eq (a := Value.none) (by first | rfl | (simp only [firstArgMember]; rfl)) ?_)
  refine wpAny_newObj_type ?_ (by size_fits)
  simp only [raiseNew]
  refine wpAny_bind (wpAny_handled ?_)
  rw [show A.in1.handled = none from hh]
  refine wpAny_bind (wpAny_pure (wpAny_throw ?_))
  refine wpAny_bind (wpAny_isInstance (T := "StopIteration") (b := true) ⟨_, Heap.get?_push_size _ rfl, rfl⟩ isSubtype_stop ?_)
  rw [if_pos rfl]
  refine wpAny_pure (h _ ?_)
  refine ((?_ : Heap.ExtBut it s.heap _).push _).push _
  exact fun b ob hb e => (Heap.get?_update_other _ _ (Ne.symm hb)).trans e
theorem pm_end {it pool : Addr} {n : Nat} {prev : Value} {items : List Value} {Q : Option Value → Shared → Prop} (hh : A.handled = none) (hit : IsIt "itertools.permutations" s.heap it pool (pmF pool n (pmCount n) prev) items) (hl : items.length = n) (hn : n = 2 ∨ n = 3)
    (h : ∀ h', Heap.ExtBut it s.heap h' → Q none { s with heap := h' }) : wpAny (model prog w) A (pyNext (.ref it)) Q E s := by
  obtain ⟨h1, h2, h3⟩ := id hit
  have hT : s.TypeIs (.ref it) "itertools.permutations" := ⟨_, h1, rfl⟩
  unfold pyNext
  refine wpAny_bind (wpAny_attempt (wpAny_callSpecial?_slot (name := Str.ofString "__next__") hT next_pm (wpAny_call_entry next_pm hT en_next_pm ?_ (ar_next_pm _))))
  have hs : items.toArray.size = n := by simpa using hl
  unfold Builtin.«itertools.permutations.__next__»
  refine wpAny_bind (wpAny_of_eq (a := (Value.ref it, [])) rfl ?_)
  try dsimp only
  refine wpAny_bind (wpAny_field h1 rfl (x := .ref pool) rfl ?_)
  unfold Builtin.Itertools.itPoolItems
  refine wpAny_bind (wpAny_bind (wpAny_seqItems h2 rfl ?_))
  refine wpAny_pure ?_
  try dsimp only
  unfold Builtin.Itertools.itIntField
  refine wpAny_bind (wpAny_bind (wpAny_field h1 rfl (x := rawInt n) rfl (wpAny_pure ?_)))
  unfold Builtin.Itertools.itNumbersFrom
  refine wpAny_bind ?_
  show wpAny _ _ (load it >>= _) _ _ _
  refine wpAny_bind (wpAny_load h1 ?_)
  refine wpAny_pure ?_
  refine wpAny_bind (wpAny_bind (wpAny_field h1 rfl (x := rawInt 1) (by rcases hn with rfl | rfl <;> rfl) (wpAny_pure ?_)))
  try dsimp only
  rw [hs]
  have sh : wpAny (model prog w) A.in1 (do setField (.ref it) 1 (rawInt 2); Builtin.Itertools.itStop) (fun fin s' => ∃ v, fin = Fin.done (Flow.ret v) ∧ wpAny (model prog w) A (pure (some v)) Q E s')
      (fun e s' => wpAny (model prog w) A (do let b ← isInstance e (.type "StopIteration"); if b = true then pure none else throw e) Q E s') s := stopIt hh hit (by simp [pmF]) h
  rcases hn with rfl | rfl
  · exact sh
  · exact sh
end
end Zi

set_option Elab.async false
set_option linter.all false
set_option maxRecDepth 100000
set_option maxHeartbeats 2000000
/-! ZC: such iterators, collected and walked, over the hand layer. -/
namespace Zi
open PySem PySem.Spec PyProof.Rows L2 Zl

def rowV (l : List Nat) : List V := l.map fun (j : Nat) => V.int j
def rowD (l : List Nat) : D := .tup (l.map fun (j : Nat) => D.int j)
structure Comb (P : Program) (w : World) (T : String) (it pool : Addr) (items : List Value) (n cnt : Nat) (fs : Nat → Value → List Value) (rw : Nat → List Nat) : Prop where
  next : ∀ (A : Around) (E : Value → Shared → Prop) (s : Shared) (i : Nat) (prev : Value) (Q : Option Value → Shared → Prop), i < cnt → IsIt T s.heap it pool (fs i prev) items →
    (∀ h', Turned T s it pool (fs (i + 1) (.ref s.heap.objs.size)) items ((rw i).map fun j => items.toArray.getD j .none) h' → Q (some (.ref s.heap.objs.size)) { s with heap := h' }) → wpAny (model P w) A (pyNext (.ref it)) Q E s
  done : ∀ (A : Around) (E : Value → Shared → Prop) (s : Shared) (prev : Value) (Q : Option Value → Shared → Prop), A.handled = none → IsIt T s.heap it pool (fs cnt prev) items →
    (∀ h', Heap.ExtBut it s.heap h' → Q none { s with heap := h' }) → wpAny (model P w) A (pyNext (.ref it)) Q E s
  self : ∀ (A : Around) (E : Value → Shared → Prop) (s : Shared) (i : Nat) (prev : Value) (Q : Value → Shared → Prop), IsIt T s.heap it pool (fs i prev) items → Q (.ref it) s → wpAny (model P w) A (pyIter (.ref it)) Q E s
  nolen : typeLookup (.type T) "__len__" = pure none
  nohint : typeLookup (.type T) "__length_hint__" = pure none
  noseq : (Value.type T == Value.type "list") = false ∧ (Value.type T == Value.type "tuple") = false
  noown : ["enumerate", "zip", "dict_itemiterator", "dict_reverseitemiterator", "odict_iterator", "itertools.zip_longest", "itertools.pairwise"].contains T = false
  int : ItemsOf (fun i v => ∃ t, v = .int (0 + i * 1) t) items.toArray n
  in_ : ∀ i j, i < cnt → j ∈ rw i → j < n
  few : cnt ≤ 100
  short : ∀ i, i < cnt → (rw i).length ≤ 64
theorem row_vals {items : List Value} {n : Nat} (hI : ItemsOf (fun i v => ∃ t, v = .int (0 + i * 1) t) items.toArray n) : ∀ l : List Nat, (∀ j ∈ l, j < n) → Vals (rowV l) (l.map fun j => items.toArray.getD j .none)
  | [], _ => .nil
  | j :: l, h => by
    have hj : j < items.toArray.size := by rw [hI.1]; exact h j List.mem_cons_self
    obtain ⟨t, e⟩ := hI.2 j items.toArray[j] (Array.getElem?_eq_getElem hj)
    refine .cons ?_ (row_vals hI l fun k hk => h k (List.mem_cons_of_mem _ hk))
    show RelV (V.int j) (items.toArray.getD j .none)
    rw [Array.getD_eq_getD_getElem?, Array.getElem?_eq_getElem hj]
    exact ⟨t, by show items.toArray[j] = _; rw [e]; congr 1; omega⟩
theorem row_reps {K : PySem.W.Frag} {F : Nat → Option Addr} {m : List Addr} {H : Hp} : ∀ l : List Nat, Reps K F m H (rowV l) (l.map fun (j : Nat) => D.int j)
  | [] => .nil
  | j :: l => .cons (.int j) (row_reps l)
section
variable {X : Cx} {T : String} {it pool : Addr} {items : List Value} {n cnt : Nat} {fs : Nat → Value → List Value} {rw' : Nat → List Nat} {pins : List (Addr × Obj)} {σ : L2.St}
/-- one more row: the heap, the invariant -/
theorem Comb.step (C : Comb X.prog X.w T it pool items n cnt fs rw') {H : Hp} {s : Shared} {i : Nat} {prev : Value} (hi : i < cnt) (I : Inv X pins σ H s) (hit : IsIt T s.heap it pool (fs i prev) items) (hf : FpOk X pins H it) {A : Around} {E : Value → Shared → Prop} {Q : Option Value → Shared → Prop}
    (k : ∀ h' o, H s.heap.objs.size = none → o.dict = none → Inv X pins σ (upd H s.heap.objs.size (.frz o (.tup (rowV (rw' i))))) { s with heap := h' } → IsIt T h' it pool (fs (i + 1) (.ref s.heap.objs.size)) items → it < s.heap.objs.size →
      (∀ b o, b ≠ it → s.heap.get? b = some o → h'.get? b = some o) → Q (some (.ref s.heap.objs.size)) { s with heap := h' }) :
    wpAny (model X.prog X.w) A (pyNext (.ref it)) Q E s := by
  refine C.next A E s i prev Q hi hit fun h' tr => ?_
  obtain ⟨t1, t2, t3⟩ := tr
  have hn : H s.heap.objs.size = none := I.hok.fresh (Nat.le_refl _)
  refine k h' _ hn rfl (I.turnedNew (t' := s.toks) (ch := [it]) (fun b o hb e => t3 b o (fun z => hb (by simp [z])) e) (fun b hb => by
    have e : b = it := by simpa using hb
    rw [e]; exact hf) (Nat.le_refl _) ⟨t2, ?_, _, row_vals C.int _ (fun j hj => C.in_ i j hi hj), ⟨_, t2, rfl, _, rfl⟩⟩) t1 (Heap.lt_size hit.1) t3
  have q := C.short i hi
  show (rowV (rw' i)).length ≤ sizeLine
  unfold rowV
  rw [List.length_map, sizeLine_eq]
  omega
theorem Comb.loop (C : Comb X.prog X.w T it pool items n cnt fs rw') {F : Nat → Option Addr} {m : List Addr} {H : Hp} (dom : ∀ a ∈ m, H a ≠ none) {A : Around} (hh : A.handled = none) {S : Addr} {res : Value} (hS1 : S ≠ it) (hS2 : S ≠ pool) {R : Result → Shared → Prop} :
    ∀ (k i : Nat) (s : Shared) (acc : Array Value) (c : Nat) (Hi : Hp) (vs : List V) (prev : Value), cnt - i = k → i ≤ cnt → Inv X pins σ Hi s → IsIt T s.heap it pool (fs i prev) items → s.heap.get? S = some { cls := .type "list", dict := none, data := .seq acc c, slots := #[] } →
    FpOk X pins Hi it → FpOk X pins Hi S → Same H Hi → Vals vs acc.toList → Reps X.K F m Hi vs ((List.range i).map fun j => rowD (rw' j)) → acc.size = i →
    (∀ s' H' acc' c' vs', Inv X pins σ H' s' → s'.heap.get? S = some { cls := .type "list", dict := none, data := .seq acc' c', slots := #[] } → Same H H' → Vals vs' acc'.toList → Reps X.K F m H' vs' ((List.range cnt).map fun j => rowD (rw' j)) → acc'.size = cnt → R (.ok (.ret res)) s') →
    codeAny (model X.prog X.w) A (.builtin "list.extend.loop" ⟨[.ref S, .ref it, res], []⟩) R s := by
  intro k
  induction k with
  | zero =>
    intro i s acc c Hi vs prev hk hi I hit hS f1 f2 sm rv rr hsz hR
    have e : i = cnt := by omega
    subst e
    refine codeAny_builtin PySem.F.entry_extend_loop ?_
    rw [Around.under_plainId PySem.F.plain_extend_loop _]
    show wpAny _ A.in1 (pyNext (.ref it) >>= _) _ _ s
    refine wpAny_bind (C.done _ _ s prev _ hh hit fun h' ex => ?_)
    exact wpAny_pure (hR _ Hi acc c vs (I.turnedL (t' := s.toks) (ch := [it]) (fun b o hb e => ex b o (fun z => hb (by simp [z])) e) fun b hb => by
      have e : b = it := by simpa using hb
      rw [e]; exact f1) (ex S _ hS1 hS) sm rv rr hsz)
  | succ k ih =>
    intro i s acc c Hi vs prev hk hi I hit hS f1 f2 sm rv rr hsz hR
    have hlt : i < cnt := by omega
    refine codeAny_builtin PySem.F.entry_extend_loop ?_
    rw [Around.under_plainId PySem.F.plain_extend_loop _]
    show wpAny _ A.in1 (pyNext (.ref it) >>= _) _ _ s
    refine wpAny_bind (C.step hlt I hit f1 fun h' o hn hd I1 hit1 lt kp => ?_)
    have hS' : h'.get? S = some { cls := .type "list", dict := none, data := .seq acc c, slots := #[] } := kp S _ hS1 hS
    have hSl : S < s.heap.objs.size := Heap.lt_size hS
    have few := C.few
    have hz : sizeLine = 2 ^ 24 := by first | exact sizeLine_eq | rfl
    show wpAny _ A.in1 (updateSeq S (·.push (.ref s.heap.objs.size)) >>= _) _ _ _
    refine wpAny_bind (wpAny_updateSeq (s := { s with heap := h' }) hS' rfl ?_ (by rw [hsz, hz]; omega) (by show (acc.push _).size ≤ sizeLine + 1; rw [Array.size_push, hsz, hz]; omega))
    have up : ∀ b o, b ≠ S → h'.get? b = some o → (h'.update S (Obj.mapSeq (·.push (.ref s.heap.objs.size)))).get? b = some o := fun b o hb e => (Heap.get?_update_other _ _ (Ne.symm hb)).trans e
    have ne1 : it ≠ s.heap.objs.size := Nat.ne_of_lt lt
    have ne2 : S ≠ s.heap.objs.size := Nat.ne_of_lt hSl
    have g1 : FpOk X pins (upd Hi s.heap.objs.size (.frz o (.tup (rowV (rw' i))))) it := ⟨by rw [upd_ne ne1]; exact f1.1, f1.2⟩
    have g2 : FpOk X pins (upd Hi s.heap.objs.size (.frz o (.tup (rowV (rw' i))))) S := ⟨by rw [upd_ne ne2]; exact f2.1, f2.2⟩
    have I2 := I1.turnedL (t' := s.toks) (h' := h'.update S (Obj.mapSeq (·.push (.ref s.heap.objs.size)))) (ch := [S]) (fun b o hb e => up b o (fun z => hb (by simp [z])) e) fun b hb => by
      have e : b = S := by simpa using hb
      rw [e]; exact g2
    have sm2 : Same H (upd Hi s.heap.objs.size (.frz o (.tup (rowV (rw' i))))) := fun b u e => same_new hn b u (sm b u e)
    have nm : s.heap.objs.size ∉ m := fun q => by
      cases e : H s.heap.objs.size with
      | none => exact dom _ q e
      | some u => rw [sm _ u e] at hn; cases hn
    refine wpAny_pure ⟨plainId_quiet PySem.F.plain_extend_loop _, ih (i + 1) _ (acc.push (.ref s.heap.objs.size)) _ _ (vs ++ [.ref s.heap.objs.size]) _ (by omega) hlt I2 ⟨up _ _ (Ne.symm hS1) hit1.1, up _ _ (Ne.symm hS2) hit1.2.1, hit1.2.2⟩
      (Heap.get?_update_self _ hS' rfl) g1 g2 sm2 ?_ ?_ (by rw [Array.size_push, hsz]) hR⟩
    · rw [Array.toList_push]
      exact rv.append (.cons rfl .nil)
    · rw [List.range_succ, List.map_append]
      refine Reps.append (Reps.keep (fun a q => .inl q) (fun a u na e => same_new hn a u e) _ _ rr) (.cons (.tup nm (.new hd) (row_reps _)) .nil)
/-- list(it) inside tuple(it) -/
theorem Comb.collect (C : Comb X.prog X.w T it pool items n cnt fs rw') {F : Nat → Option Addr} {m : List Addr} {H : Hp} (dom : ∀ a ∈ m, H a ≠ none) {A : Around} (hh : A.handled = none) {s : Shared} {prev : Value} (I : Inv X pins σ H s) (hit : IsIt T s.heap it pool (fs 0 prev) items) (hf : FpOk X pins H it) {E : Value → Shared → Prop} {Q : List Value → Shared → Prop}
    (k : ∀ s' H' vs (acc : Array Value), Inv X pins σ H' s' → Same H H' → Vals vs acc.toList → Reps X.K F m H' vs ((List.range cnt).map fun j => rowD (rw' j)) → acc.size = cnt → Q acc.toList s') : wpAny (model X.prog X.w) A (PySem.collect (.ref it)) Q E s := by
  have lt1 : it < s.heap.objs.size := Heap.lt_size hit.1
  have lt2 : pool < s.heap.objs.size := Heap.lt_size hit.2.1
  have hSI : s.heap.objs.size ≠ it := Nat.ne_of_gt lt1
  have few := C.few
  unfold PySem.collect
  refine wpAny_bind (wpAny_runValue (codeAny_builtin PySem.F.entry_proto_collect ?_))
  rw [Around.under_plainId PySem.F.plain_proto_collect _]
  show wpAny _ A.in1 (newList [] >>= fun l => again (.builtin "list.__iadd__" ⟨[l, .ref it], []⟩)) _ _ s
  refine wpAny_bind (wpAny_newObj_type ?_)
  refine wpAny_pure ⟨plainId_quiet PySem.F.plain_list_iadd _, codeAny_builtin PySem.F.entry_list_iadd ?_⟩
  rw [Around.under_plainId PySem.F.plain_list_iadd _]
  show wpAny _ A.in1 (Builtin.List.listExtendWith (.ref s.heap.objs.size) (.ref it) (.ref s.heap.objs.size)) _ _ _
  unfold Builtin.List.listExtendWith
  have hp := hit.push (s := s) { cls := .type "list", data := .seq ([] : List Value).toArray }
  have hT : ({ s with heap := s.heap.push { cls := .type "list", data := .seq ([] : List Value).toArray } } : Shared).TypeIs (.ref it) T := ⟨_, hp.1, rfl⟩
  refine wpAny_bind (wpAny_typeOf hT ?_)
  have h1 : Builtin.List.listSameRef (.ref s.heap.objs.size) (.ref it) = false := by simp [Builtin.List.listSameRef, hSI]
  obtain ⟨h2, h3⟩ := C.noseq
  simp only [h1, h2, h3, Bool.or_false, Bool.false_eq_true, if_false]
  refine wpAny_bind (C.self _ _ { s with heap := _ } 0 prev _ hp ?_)
  refine wpAny_bind (wpAny_holding ?_)
  unfold Builtin.List.listLengthHint
  refine wpAny_bind (wpAny_specialOf hT C.nolen ?_)
  show wpAny _ A.in1 (specialOf (Value.ref it) (Str.ofString "__length_hint__") >>= _) _ _ _
  refine wpAny_bind (wpAny_specialOf hT C.nohint ?_)
  refine wpAny_pure ?_
  show wpAny _ A.in1 (rule "list.extend.makes-room" >>= fun _ => Builtin.List.listTouch (.ref s.heap.objs.size) >>= fun _ =>
    again (.builtin "list.extend.loop" ⟨[.ref s.heap.objs.size, .ref it, .ref s.heap.objs.size], []⟩)) _ _ _
  refine wpAny_bind (wpAny_rule ?_)
  have hS₁ : (s.heap.push { cls := .type "list", data := .seq ([] : List Value).toArray }).get? s.heap.objs.size = some { cls := .type "list", data := .seq ([] : List Value).toArray } := Heap.get?_push_size _ rfl
  refine wpAny_bind ?_
  show wpAny _ A.in1 (updateSeq s.heap.objs.size (·.push .none) >>= fun _ => updateSeq s.heap.objs.size (·.pop)) _ _ _
  refine wpAny_bind (wpAny_updateSeq hS₁ rfl ?_)
  have hS₂ := Heap.get?_update_self (Obj.mapSeq (·.push Value.none)) hS₁ rfl
  refine wpAny_updateSeq hS₂ rfl ?_
  have hS₃ := Heap.get?_update_self (Obj.mapSeq (·.pop)) hS₂ rfl
  have oth : ∀ b o, b ≠ s.heap.objs.size → s.heap.get? b = some o →
      (((s.heap.push { cls := .type "list", data := .seq ([] : List Value).toArray }).update s.heap.objs.size (Obj.mapSeq (·.push Value.none))).update s.heap.objs.size (Obj.mapSeq (·.pop))).get? b = some o :=
    fun b o hb e => (Heap.get?_update_other _ _ (Ne.symm hb)).trans ((Heap.get?_update_other _ _ (Ne.symm hb)).trans (Heap.get?_push_of_some _ e))
  have I1 : Inv X pins σ H { s with heap := (((s.heap.push { cls := .type "list", data := .seq ([] : List Value).toArray }).update s.heap.objs.size (Obj.mapSeq (·.push Value.none))).update s.heap.objs.size (Obj.mapSeq (·.pop))) } :=
    I.kept (t' := s.toks) fun b o e => oth b o (Nat.ne_of_lt (Heap.lt_size e)) e
  have fS : FpOk X pins H s.heap.objs.size := I.fpOk (Nat.le_refl _) (I.hok.fresh (Nat.le_refl _))
  refine wpAny_pure ⟨plainId_quiet PySem.F.plain_extend_loop _, C.loop (F := F) dom hh (Ne.symm (Nat.ne_of_lt lt1)) (Ne.symm (Nat.ne_of_lt lt2)) cnt 0 { s with heap := _ } _ _ H [] prev rfl (Nat.zero_le _) I1 ⟨oth _ _ (Nat.ne_of_lt lt1) hit.1, oth _ _ (Nat.ne_of_lt lt2) hit.2.1, hit.2.2⟩ hS₃ hf fS (Same.refl _) .nil .nil rfl
    fun s' H' acc' c' vs' I' hS' sm rv rr hsz => ?_⟩
  show wpAny _ A (load s.heap.objs.size >>= _) _ _ s'
  exact wpAny_bind (wpAny_load hS' (wpAny_pure (k s' H' vs' acc' I' sm rv rr hsz)))
theorem Comb.code_tup (C : Comb X.prog X.w T it pool items n cnt fs rw') {F : Nat → Option Addr} {m : List Addr} {H : Hp} (dom : ∀ a ∈ m, H a ≠ none) {A : Around} (hh : A.handled = none) {s : Shared} {prev : Value} (I : Inv X pins σ H s) (hit : IsIt T s.heap it pool (fs 0 prev) items) (hf : FpOk X pins H it) {E : Value → Shared → Prop} {Q : Value → Shared → Prop}
    (k : ∀ s' H' vs (acc : List Value), Inv X pins σ H' s' → Same H H' → Vals vs acc → Reps X.K F m H' vs ((List.range cnt).map fun j => rowD (rw' j)) → acc.length = cnt → Q (.ref s'.heap.objs.size) { s' with heap := s'.heap.push { cls := .type "tuple", data := .seq acc.toArray } }) :
    codeAny (model X.prog X.w) A (.call (.builtin "tuple.__new__") ⟨[.type "tuple", .ref it], []⟩) (wants Q E) s := by
  have few := C.few
  refine codeAny_of_tree ?_
  show wpAny _ A.in1 (do checkBuiltinCall "tuple.__new__" ⟨[.type "tuple", .ref it], []⟩; again (.builtin "tuple.__new__" ⟨[.type "tuple", .ref it], []⟩)) _ _ s
  refine wpAny_bind (wpAny_of_eq (PySem.F.newCall_tuple_1 _) (wpAny_pure ⟨plainId_quiet PySem.F.plain_tuple_new _, codeAny_builtin PySem.F.entry_tuple_new ?_⟩))
  rw [Around.under_plainId PySem.F.plain_tuple_new _]
  have hsub := sub_tuple_self
  have hinit := init_tuple_lookup
  have hmh := madeHere_tuple
  have hTI : s.TypeIs (.ref it) T := ⟨_, hit.1, rfl⟩
  obtain ⟨h2, h3⟩ := C.noseq
  wp_walk using wpAny_typeOf hTI, C.collect (A := A.in1) (F := F) dom hh I hit hf
  intro s' H' vs acc I' sm rv rr hsz
  show wpAny _ _ (Builtin.Tuple.tupleExact acc.toList.toArray >>= fun v => ret v) _ _ _
  unfold Builtin.Tuple.tupleExact
  refine wpAny_bind (wpAny_newObj_type ?_ (by show acc.toList.toArray.size ≤ sizeLine; simp only [Array.toArray_toList]; rw [hsz, sizeLine_eq]; omega))
  exact wpAny_pure (k s' H' vs acc.toList I' sm rv rr (by simpa using hsz))
theorem Comb.call_tup (C : Comb X.prog X.w T it pool items n cnt fs rw') {F : Nat → Option Addr} {m : List Addr} {H : Hp} (dom : ∀ a ∈ m, H a ≠ none) {A : Around} (hh : A.handled = none) {s : Shared} {prev : Value} (I : Inv X pins σ H s) (hit : IsIt T s.heap it pool (fs 0 prev) items) (hf : FpOk X pins H it) {E : Value → Shared → Prop} {Q : Value → Shared → Prop}
    (k : ∀ s' H' p o, Inv X pins σ (upd H' p o) s' → Same H H' → H' p = none → (∃ ob vs, o = .frz ob (.tup vs) ∧ ob.dict = none ∧ Reps X.K F m H' vs ((List.range cnt).map fun j => rowD (rw' j))) → Q (.ref p) s') :
    wpAny (model X.prog X.w) A (call (.type "tuple") [.ref it]) Q E s := by
  have few := C.few
  refine callType_codes (Q₁ := fun obj s₁ => s₁.TypeIs obj "tuple" ∧ Q obj s₁) PySem.F.called_tuple (PySem.F.typeCall_tuple_1 _) PySem.F.entry_object_init
    (C.code_tup (A := A.in1) (F := F) dom hh I hit hf fun s' H' vs acc I' sm rv rr hsz => ⟨⟨_, Heap.get?_push_size _ rfl, rfl⟩, ?_⟩) fun obj s₁ h₁ => ?_
  · refine k _ H' s'.heap.objs.size _ (layTup I' rv (by rw [rv.length, hsz, sizeLine_eq]; omega)) sm (I'.hok.fresh (Nat.le_refl _)) ⟨_, vs, rfl, rfl, rr⟩
  · exact ⟨h₁.1, PySem.F.args_object_init_2 obj _, object_init_meets PySem.F.called_tuple.init.lookup PySem.F.called_tuple.made (by decide) X.prog X.w A.in1 _ s₁ ⟨h₁.1, rfl, h₁.2⟩⟩

/-- .. and walked -/
def Itc (cnt : Nat) (rw' : Nat → List Nat) : It := ⟨fun i _ => i < cnt, fun i H x H' => ∃ p o, x = .ref p ∧ H p = none ∧ o.dict = none ∧ H' = upd H p (.frz o (.tup (rowV (rw' i)))), fun i _ => i = cnt⟩
theorem Comb.turn {P : Program} {w : World} {K : PySem.W.Frag} {tg : Expr} (C : Comb P w T it pool items n cnt fs rw') : Turn P w K tg (Itc cnt rw') [it, pool] it (fun i h => ∃ prev, IsIt T h it pool (fs i prev) items) where
  mem := by simp
  obj := fun i h st b hb => by
    obtain ⟨prev, h1, h2, h3⟩ := st
    have e : b = it ∨ b = pool := by simpa using hb
    rcases e with z | z
    · rw [z]; exact ⟨_, h1, fun v q => nomatch q⟩
    · rw [z]; exact ⟨_, h2, fun v q => nomatch q⟩
  keep := fun i h h' st k => by
    obtain ⟨prev, h1, h2, h3⟩ := st
    exact ⟨prev, k it (by simp) _ h1, k pool (by simp) _ h2, h3⟩
  item := by
    intro Y hP hw hK hc i pins s σ H E I hf st hg
    subst hP hw hK
    obtain ⟨prev, hit⟩ := st
    have hg : i < cnt := hg
    refine Comb.step (X := Y) C hg I hit (hf it (by simp)) fun h' o hn hd I1 hit1 lt kp => ?_
    refine ⟨_, rfl, go_of (s := { s with heap := h' }) hit1.1 rfl rfl C.noown ⟨.ref s.heap.objs.size, _, I1, rfl, ⟨_, o, rfl, hn, hd, rfl⟩, ⟨_, hit1⟩, fun b hb => ?_⟩⟩
    have e : b = it ∨ b = pool := by simpa using hb
    have q : b < s.heap.objs.size := by
      rcases e with z | z
      · rw [z]; exact lt
      · rw [z]; exact Heap.lt_size hit.2.1
    rw [upd_ne (Nat.ne_of_lt q)]
    exact (hf b hb).1
  done := by
    intro Y hP hw hK hc i pins s σ H E I hf st hg
    subst hP hw hK
    obtain ⟨prev, hit⟩ := st
    have hg : i = cnt := hg
    subst hg
    exact C.done _ _ s prev _ (I.ok.hd hc) hit fun h' ex => ⟨rfl, I.turnedL (t' := s.toks) (ch := [it]) (fun b o hb e => ex b o (fun z => hb (by simp [z])) e) fun b hb => by
      have e : b = it := by simpa using hb
      rw [e]; exact hf it (by simp)⟩
  self := fun A i s Q E st h => by
    obtain ⟨prev, hit⟩ := st
    exact C.self A E s i prev Q hit h
theorem walkC {K : PySem.W.Frag} {F : Nat → Option Addr} {m : List Addr} {H : Hp} : WalkD K F false m H (Itc cnt rw') ((List.range cnt).map fun j => rowD (rw' j)) := by
  refine ⟨fun _ => True, fun i H x H' => ∃ (p : Addr) (o : Obj), x = .ref p ∧ H p = none ∧ o.dict = none ∧ H' = upd H p (.frz o (.tup (rowV (rw' i)))), ⟨fun i H hi _ => by
    have hi : i < cnt := by simpa using hi
    exact hi, fun H _ => by simp [Itc], fun i H x H' _ _ y => y⟩, fun _ _ _ => trivial, fun i d x m' H1 H2 e l dom y => ?_⟩
  obtain ⟨p, o, rfl, hp, ho, rfl⟩ := y
  have e' : d = rowD (rw' i) := by
    rw [List.getElem?_map] at e
    cases q : (List.range cnt)[i]? with
    | none => rw [q] at e; cases e
    | some j =>
      rw [q] at e
      have hj : i = j := by
        have := List.getElem?_range (n := cnt) (i := i) (by have := (List.getElem?_eq_some_iff.mp q).1; simpa using this)
        rw [this] at q
        exact Option.some.inj q
      subst hj
      exact (Option.some.inj e).symm
  subst e'
  exact ⟨same_new hp, .inl (.tup (fun q => dom _ q hp) (.new ho) (row_reps _))⟩
end

/-! ### permutations(range(n)), n = 2, 3 -/
theorem pm_comb {P : Program} {w : World} {it pool : Addr} {items : List Value} {n : Nat} (hn : n = 2 ∨ n = 3) (hI : ItemsOf (fun i v => ∃ t, v = .int (0 + i * 1) t) items.toArray n) :
    Comb P w "itertools.permutations" it pool items n (pmCount n) (pmF pool n) (fun i => (pmN n (i + 1)).take n) := by
  have hl : items.length = n := by have := hI.1; simpa using this
  refine ⟨fun A E s i prev Q hi hit h => ?_, fun A E s prev Q hh hit h => pm_end hh hit hl hn h, fun A E s i prev Q hit h => ?_, nolen_pm, nohint_pm, by decide, by decide, hI, fun i j hi hj => ?_, ?_, fun i hi => ?_⟩
  · unfold pyNext
    refine wpAny_bind (wpAny_attempt ?_)
    cases i with
    | zero => exact pm_first (ns := pmN n 0) hit (row := (pmN n 0).take n |>.map fun i => items.toArray.getD i .none) rfl (by rw [List.length_map, List.length_take]; omega) fun h' tr => wpAny_pure (h h' (by rcases hn with rfl | rfl <;> exact tr))
    | succ i => exact pm_more hit hl hn hi fun h' tr => wpAny_pure (h h' tr)
  · have hT : s.TypeIs (.ref it) "itertools.permutations" := ⟨_, hit.1, rfl⟩
    refine wpAny_pyIter_slot hT iter_pm (wpAny_call_entry iter_pm hT en_iter_pm ?_ (ar_iter_pm _))
    show wpAny _ _ (ret (.ref it)) _ _ s
    exact wpAny_pure ⟨_, rfl, "itertools.permutations", _, hT, next_pm.lookup, h⟩
  · rcases hn with rfl | rfl
    · have z : ∀ i < 2, ∀ j ∈ (pmN 2 (i + 1)).take 2, j < 2 := by decide
      exact z i hi j hj
    · have z : ∀ i < 6, ∀ j ∈ (pmN 3 (i + 1)).take 3, j < 3 := by decide
      exact z i hi j hj
  · rcases hn with rfl | rfl <;> decide
  · rw [List.length_take]
    omega
end Zi

set_option Elab.async false
set_option linter.all false
set_option maxRecDepth 100000
set_option maxHeartbeats 2000000
/-! ZD: combinations(range(n), r), n = 2, 3. -/
namespace Zi
open PySem PySem.Spec PyProof.Rows L2 Zl

def cbCount : Nat → Nat → Nat
  | 2, 1 => 2
  | 2, 2 => 1
  | 3, 1 => 3
  | 3, 2 => 3
  | 3, 3 => 1
  | _, _ => 0
def cbN : Nat → Nat → Nat → List Nat
  | 2, 1, 0 => [0]
  | 2, 1, 1 => [0]
  | 2, 1, _ => [1]
  | 2, 2, 0 => [0, 1]
  | 2, 2, _ => [0, 1]
  | 3, 1, 0 => [0]
  | 3, 1, 1 => [0]
  | 3, 1, 2 => [1]
  | 3, 1, _ => [2]
  | 3, 2, 0 => [0, 1]
  | 3, 2, 1 => [0, 1]
  | 3, 2, 2 => [0, 2]
  | 3, 2, _ => [1, 2]
  | 3, 3, 0 => [0, 1, 2]
  | 3, 3, _ => [0, 1, 2]
  | _, _, _ => []
def cbF (pool : Addr) (n r i : Nat) (prev : Value) : List Value := [.ref pool, rawInt (pmSt i), prev] ++ (cbN n r i).map fun (i : Nat) => rawInt i
def cbOk (n r : Nat) : Prop := (n = 2 ∧ (r = 1 ∨ r = 2)) ∨ (n = 3 ∧ (r = 1 ∨ r = 2 ∨ r = 3))
section
variable {prog : Program} {w : World} {A : Around} {E : Value → Shared → Prop} {s : Shared}
theorem code_cb_new {a : Addr} {n r : Nat} {t u v t2 : Tok} {Q : Value → Shared → Prop} (hh : A.handled = none) (hr : IsRange s.heap a 0 n 1 t u v) (hn : n ≤ 64) (hrn : r ≤ n)
    (h : ∀ (h' : Heap) (tk : Nat) (acc : Array Value), (∀ b o, s.heap.get? b = some o → h'.get? b = some o) → ItemsOf (fun i v => ∃ t, v = .int (0 + i * 1) t) acc n →
      Q (.ref (h'.objs.size + 1)) { s with heap := comH h' "itertools.combinations" acc.toList ([rawInt 0, .none] ++ (List.range r).map fun (i : Nat) => rawInt i), toks := tk }) :
    codeAny (model prog w) A (.call (.builtin "itertools.combinations.__new__") ⟨[.type "itertools.combinations", .ref a, .int r t2], []⟩) (wants Q E) s := by
  refine codeAny_of_tree ?_
  show wpAny _ A.in1 (do checkBuiltinCall "itertools.combinations.__new__" ⟨[.type "itertools.combinations", .ref a, .int r t2], []⟩; again (.builtin "itertools.combinations.__new__" ⟨[.type "itertools.combinations", .ref a, .int r t2], []⟩)) _ _ s
  refine wpAny_bind (wpAny_of_eq (nw2_cb _ _) (wpAny_pure ⟨plainId_quiet plain_cb _, codeAny_builtin en_new_cb ?_⟩))
  rw [Around.under_plainId plain_cb _]
  have hd := nodict_cb
  have hh1 : A.in1.handled = none := hh
  unfold Builtin.«itertools.combinations.__new__»
  refine wpAny_bind ?_
  wp_delta
  refine wpAny_bind (wpAny_of_eq (a := (Value.type "itertools.combinations", [Value.ref a, .int r t2])) (by kernel_rfl) ?_)
  try dsimp only
  refine wpAny_bind (wpAny_of_eq (a := [some (Value.ref a), some (.int r t2)]) (by kernel_rfl) ?_)
  try dsimp only
  refine wpAny_bind (wpAny_of_eq (a := (r : Int)) ?_ ?_)
  · unfold Builtin.Itertools.itSsizeArg
    have e1 : asIndex (.int (r : Int) t2) = pure (r : Int) := by rfl
    rw [e1, pure_bind, if_neg]
    · have c1 : decide ((r : Int) < -(2 ^ 63 : Int)) = false := decide_eq_false (by omega)
      have c2 : decide ((r : Int) ≥ (2 ^ 63 : Int)) = false := decide_eq_false (by omega)
      rw [c1, c2]
      decide
  refine wpAny_bind (L2.collect_range hh1 hr (n := n) (small_one (by omega) (by omega) (by omega) (by omega)) (by have := rangeSize_nat 0 (n : Int); simpa using this) (by omega) fun h' tk acc hk hi => ?_)
  have el : acc.toList.length = n := by rw [Array.length_toList]; exact hi.1
  have es : acc.toList.toArray.size = n := by simpa using hi.1
  rw [if_neg (by omega)]
  rw [if_neg (by rw [few_no (by omega : r ≤ 64)]; decide)]
  simp only [newTuple]
  refine wpAny_bind (wpAny_newObj_type ?_ (by show acc.toList.toArray.size ≤ sizeLine; rw [es]; size_fits))
  refine wpAny_pure ?_
  refine wpAny_bind ?_
  unfold Builtin.Itertools.itNewRecord
  rw [hd]
  rw [if_pos (by decide)]
  refine wpAny_newObj_type ?_ (by
    show (List.toArray _).size ≤ sizeLine + 2
    rw [List.size_toArray]
    simp only [List.length_append, List.length_map, List.length_range, List.length_cons, List.length_nil, Int.toNat_natCast]
    rw [sizeLine_eq]
    omega)
  refine wpAny_pure ?_
  have e0 : (if ((r : Int)).toNat > acc.toList.length then (2 : Int) else 0) = 0 := if_neg (by rw [el]; omega)
  rw [e0, Int.toNat_natCast]
  have q := h h' tk acc hk hi
  have sz : (h'.push { cls := .type "tuple", data := .seq acc.toList.toArray }).objs.size = h'.objs.size + 1 := by simp [Heap.push]
  rw [← sz] at q
  exact q
theorem call_cb {a : Addr} {n r : Nat} {t u v t2 : Tok} {Q : Value → Shared → Prop} (hh : A.handled = none) (hr : IsRange s.heap a 0 n 1 t u v) (hn : n ≤ 64) (hrn : r ≤ n)
    (h : ∀ (h1 : Heap) (tk : Nat) (acc : Array Value), (∀ b o, s.heap.get? b = some o → h1.get? b = some o) → ItemsOf (fun i v => ∃ t, v = .int (0 + i * 1) t) acc n →
      Q (.ref (h1.objs.size + 1)) { s with heap := comH h1 "itertools.combinations" acc.toList ([rawInt 0, .none] ++ (List.range r).map fun (i : Nat) => rawInt i), toks := tk }) :
    wpAny (model prog w) A (call (.type "itertools.combinations") [.ref a, .int r t2]) Q E s := by
  refine callType_codes (Q₁ := fun obj s₁ => s₁.TypeIs obj "itertools.combinations" ∧ Q obj s₁) called_cb (ty2_cb _ _) PySem.F.entry_object_init
    (code_cb_new (A := A.in1) hh hr hn hrn fun h' tk acc hk hacc => ?_) fun obj s₁ h₁ => ?_
  · exact ⟨⟨_, (comH_it (T := "itertools.combinations") (xs := acc.toList) (fs := [rawInt 0, .none] ++ (List.range r).map fun (i : Nat) => rawInt i)).1, rfl⟩, h h' tk acc hk hacc⟩
  · exact ⟨h₁.1, PySem.F.args_object_init_3 obj _ _, object_init_meets called_cb.init.lookup called_cb.made (by decide) prog w A.in1 _ s₁ ⟨h₁.1, rfl, h₁.2⟩⟩
theorem handK {T : String} {it pool : Addr} {k : Nat} {fs items row : List Value} {R : Fin → Shared → Prop} (hit : IsIt T s.heap it pool fs items) (hk : k < fs.length) (hz : row.length ≤ 64)
    (h : ∀ h', Turned T s it pool (fs.set k (.ref s.heap.objs.size)) items row h' → R (.done (.ret (.ref s.heap.objs.size))) { s with heap := h' }) :
    wpAny (model prog w) A (newTuple row) (fun t s' => wpAny (model prog w) A (do let before ← field (.ref it) k; setField (.ref it) k t; letGo [before] [t]; ret t) R E s') E s := by
  simp only [newTuple]
  refine wpAny_newObj_type ?_ (by show (List.toArray _).size ≤ sizeLine; rw [List.size_toArray, sizeLine_eq]; omega)
  have hp := hit.push { cls := .type "tuple", data := .seq row.toArray }
  have hk' : k < fs.toArray.size := by simpa using hk
  refine wpAny_bind (wpAny_field (s := { s with heap := s.heap.push { cls := .type "tuple", data := .seq row.toArray } }) hp.1 rfl (x := fs[k]) (by simp [hk]) ?_)
  refine wpAny_bind (wpAny_setField (s := { s with heap := s.heap.push { cls := .type "tuple", data := .seq row.toArray } }) hp.1 rfl hk' ?_)
  refine wpAny_bind (wpAny_letGo ?_)
  have ne : it ≠ s.heap.objs.size := Nat.ne_of_lt (Heap.lt_size hit.1)
  refine wpAny_pure (h _ ⟨IsIt.fld (s := { s with heap := s.heap.push { cls := .type "tuple", data := .seq row.toArray } }) hp (set_arr _ _ _), ?_, fun b o hb e => ?_⟩)
  · exact (Heap.get?_update_other _ _ ne).trans (Heap.get?_push_size _ rfl)
  · exact (Heap.get?_update_other _ _ (Ne.symm hb)).trans (Heap.get?_push_of_some _ e)
theorem handC {T : String} {it pool : Addr} {k : Nat} {fs items : List Value} {ns : List Nat} {R : Fin → Shared → Prop} (hit : IsIt T s.heap it pool fs items) (hk : k < fs.length) (hz : ns.length ≤ 64)
    (h : ∀ h', Turned T s it pool (fs.set k (.ref s.heap.objs.size)) items (ns.map fun i => items.toArray.getD i .none) h' → R (.done (.ret (.ref s.heap.objs.size))) { s with heap := h' }) :
    wpAny (model prog w) A (do
      let t ← (do let xs ← Builtin.Itertools.itPoolItems (.ref pool); newTuple (ns.map fun i => xs.getD i .none))
      let before ← field (.ref it) k; setField (.ref it) k t; letGo [before] [t]; ret t) R E s := by
  refine wpAny_bind (wpAny_bind (wpAny_bind (wpAny_seqItems hit.2.1 rfl (wpAny_pure ?_))))
  exact handK hit hk (by rw [List.length_map]; exact hz) h
theorem cb_first {it pool : Addr} {prev : Value} {ns : List Nat} {items : List Value} {Q : Option Value → Shared → Prop} (hit : IsIt "itertools.combinations" s.heap it pool ([.ref pool, rawInt 0, prev] ++ ns.map fun (i : Nat) => rawInt i) items)
    (hz : ns.length ≤ 64)
    (h : ∀ h', Turned "itertools.combinations" s it pool ([.ref pool, rawInt 1, .ref s.heap.objs.size] ++ ns.map fun (i : Nat) => rawInt i) items (ns.map fun i => items.toArray.getD i .none) h' → Q (some (.ref s.heap.objs.size)) { s with heap := h' }) :
    wpAny (model prog w) A (callSpecial? (.ref it) "__next__") Q E s := by
  obtain ⟨h1, h2, h3⟩ := id hit
  have hT : s.TypeIs (.ref it) "itertools.combinations" := ⟨_, h1, rfl⟩
  refine wpAny_callSpecial?_slot (name := Str.ofString "__next__") hT next_cb (wpAny_call_entry next_cb hT en_next_cb ?_ (ar_next_cb _))
  unfold Builtin.«itertools.combinations.__next__»
  wp_delta
  refine wpAny_bind (wpAny_of_eq (a := (Value.ref it, [])) rfl ?_)
  try dsimp only
  refine wpAny_bind (wpAny_field h1 rfl (x := .ref pool) rfl ?_)
  unfold Builtin.Itertools.itNumbersFrom
  refine wpAny_bind ?_
  show wpAny _ _ (load it >>= _) _ _ _
  refine wpAny_bind (wpAny_load h1 ?_)
  refine wpAny_pure ?_
  unfold Builtin.Itertools.itIntField
  refine wpAny_bind (wpAny_bind (wpAny_field h1 rfl (x := rawInt 0) rfl (wpAny_pure ?_)))
  have en := nums [.ref pool, rawInt 0, prev] ns 3 rfl
  show wpAny _ _ (setField (.ref it) 1 (rawInt 1) >>= _) _ _ _
  refine wpAny_bind (wpAny_setField h1 rfl (by simp) ?_)
  have hit2 := hit.fld (g := (·.setIfInBounds 1 (rawInt 1))) (set_arr _ _ _)
  try dsimp only
  rw [en _ fun _ _ => rfl]
  refine handC (s := { s with heap := _ }) hit2 (k := 2) (by simp) hz fun h' tr => ⟨_, rfl, ?_⟩
  have sz : (s.heap.update it (Obj.mapFields fun x => x.setIfInBounds 1 (rawInt 1))).objs.size = s.heap.objs.size := Heap.size_update ..
  have q := h h' (by
    have tr := tr.back
    rw [sz] at tr
    exact tr)
  rw [← sz] at q
  exact q
theorem cb_more {it pool : Addr} {n r i : Nat} {prev : Value} {items : List Value} {Q : Option Value → Shared → Prop} (hit : IsIt "itertools.combinations" s.heap it pool (cbF pool n r (i + 1) prev) items) (hl : items.length = n)
    (hn : cbOk n r) (hi : i + 1 < cbCount n r)
    (h : ∀ h', Turned "itertools.combinations" s it pool (cbF pool n r (i + 2) (.ref s.heap.objs.size)) items ((cbN n r (i + 2)).map fun j => items.toArray.getD j .none) h' → Q (some (.ref s.heap.objs.size)) { s with heap := h' }) :
    wpAny (model prog w) A (callSpecial? (.ref it) "__next__") Q E s := by
  obtain ⟨h1, h2, h3⟩ := id hit
  have hT : s.TypeIs (.ref it) "itertools.combinations" := ⟨_, h1, rfl⟩
  refine wpAny_callSpecial?_slot (name := Str.ofString "__next__") hT next_cb (wpAny_call_entry next_cb hT en_next_cb ?_ (ar_next_cb _))
  unfold Builtin.«itertools.combinations.__next__»
  wp_delta
  refine wpAny_bind (wpAny_of_eq (a := (Value.ref it, [])) rfl ?_)
  try dsimp only
  refine wpAny_bind (wpAny_field h1 rfl (x := .ref pool) rfl ?_)
  unfold Builtin.Itertools.itNumbersFrom
  refine wpAny_bind ?_
  show wpAny _ _ (load it >>= _) _ _ _
  refine wpAny_bind (wpAny_load h1 ?_)
  refine wpAny_pure ?_
  unfold Builtin.Itertools.itIntField
  refine wpAny_bind (wpAny_bind (wpAny_field h1 rfl (x := rawInt 1) rfl (wpAny_pure ?_)))
  have fin : ∀ (ns' : List Nat), cbN n r (i + 2) = ns' → ns'.length ≤ 64 → wpAny (model prog w) A.in1 (do
      Builtin.Itertools.itSetNumbersFrom (.ref it) 3 ns'
      let t ← (do let xs ← Builtin.Itertools.itPoolItems (.ref pool); newTuple (ns'.map fun i => xs.getD i .none))
      let before ← field (.ref it) 2; setField (.ref it) 2 t; letGo [before] [t]; ret t) (fun fin s' => ∃ v, fin = Fin.done (Flow.ret v) ∧ Q (some v) s') E s := by
    intro ns' ef hl
    unfold Builtin.Itertools.itSetNumbersFrom
    refine wpAny_bind ?_
    show wpAny _ _ (updateFields it _) _ _ _
    have hz : (((cbF pool n r (i + 1) prev).toArray.extract 0 3) ++ (ns'.map fun (n : Nat) => rawInt n).toArray) = ([.ref pool, rawInt 1, prev] ++ (ns'.map fun (i : Nat) => rawInt i)).toArray := by
      unfold cbF pmSt
      simp
    have hit2 : IsIt "itertools.combinations" _ it pool ([.ref pool, rawInt 1, prev] ++ (ns'.map fun (i : Nat) => rawInt i)) items := hit.fld (g := fun fs => fs.extract 0 3 ++ (ns'.map fun (n : Nat) => rawInt n).toArray) hz
    refine wpAny_updateFields h1 rfl ?_ ?_
    · refine handC (s := { s with heap := _ }) hit2 (k := 2) (by simp) hl fun h' tr => ⟨_, rfl, ?_⟩
      have sz : (s.heap.update it (Obj.mapFields fun fs => fs.extract 0 3 ++ (ns'.map fun (n : Nat) => rawInt n).toArray)).objs.size = s.heap.objs.size := Heap.size_update ..
      have q := h h' (by
        have tr := tr.back
        rw [sz] at tr
        unfold cbF
        rw [ef]
        exact tr)
      rw [← sz] at q
      exact q
    · rw [hz]
      show (List.toArray _).size ≤ sizeLine + 3
      rw [List.size_toArray, List.length_append, List.length_map, sizeLine_eq]
      simp only [List.length_cons, List.length_nil]
      omega
  have hs : items.toArray.size = n := by simpa using hl
  unfold Builtin.Itertools.itPoolItems
  show wpAny _ _ ((seqItems? (.ref pool) >>= _) >>= _) _ _ _
  refine wpAny_bind (wpAny_bind (wpAny_seqItems h2 rfl (wpAny_pure ?_)))
  try dsimp only
  rw [hs]
  rcases hn with ⟨rfl, rfl | rfl⟩ | ⟨rfl, rfl | rfl | rfl⟩
  · have hi' : i = 0 := by simp only [cbCount] at hi; omega
    subst hi'
    exact fin (cbN 2 1 2) rfl (by decide)
  · simp only [cbCount] at hi; omega
  · have hi' : i = 0 ∨ i = 1 := by simp only [cbCount] at hi; omega
    rcases hi' with rfl | rfl
    · exact fin (cbN 3 1 2) rfl (by decide)
    · exact fin (cbN 3 1 3) rfl (by decide)
  · have hi' : i = 0 ∨ i = 1 := by simp only [cbCount] at hi; omega
    rcases hi' with rfl | rfl
    · exact fin (cbN 3 2 2) rfl (by decide)
    · exact fin (cbN 3 2 3) rfl (by decide)
  · simp only [cbCount] at hi; omega
theorem cb_end {it pool : Addr} {n r : Nat} {prev : Value} {items : List Value} {Q : Option Value → Shared → Prop} (hh : A.handled = none) (hit : IsIt "itertools.combinations" s.heap it pool (cbF pool n r (cbCount n r) prev) items) (hl : items.length = n) (hn : cbOk n r)
    (h : ∀ h', Heap.ExtBut it s.heap h' → Q none { s with heap := h' }) : wpAny (model prog w) A (pyNext (.ref it)) Q E s := by
  obtain ⟨h1, h2, h3⟩ := id hit
  have hT : s.TypeIs (.ref it) "itertools.combinations" := ⟨_, h1, rfl⟩
  unfold pyNext
  refine wpAny_bind (wpAny_attempt (wpAny_callSpecial?_slot (name := Str.ofString "__next__") hT next_cb (wpAny_call_entry next_cb hT en_next_cb ?_ (ar_next_cb _))))
  have hs : items.toArray.size = n := by simpa using hl
  unfold Builtin.«itertools.combinations.__next__»
  wp_delta
  refine wpAny_bind (wpAny_of_eq (a := (Value.ref it, [])) rfl ?_)
  try dsimp only
  refine wpAny_bind (wpAny_field h1 rfl (x := .ref pool) rfl ?_)
  unfold Builtin.Itertools.itNumbersFrom
  refine wpAny_bind ?_
  show wpAny _ _ (load it >>= _) _ _ _
  refine wpAny_bind (wpAny_load h1 ?_)
  refine wpAny_pure ?_
  unfold Builtin.Itertools.itIntField
  refine wpAny_bind (wpAny_bind (wpAny_field h1 rfl (x := rawInt 1) (by rcases hn with ⟨rfl, rfl | rfl⟩ | ⟨rfl, rfl | rfl | rfl⟩ <;> rfl) (wpAny_pure ?_)))
  unfold Builtin.Itertools.itPoolItems
  show wpAny _ _ ((seqItems? (.ref pool) >>= _) >>= _) _ _ _
  refine wpAny_bind (wpAny_bind (wpAny_seqItems h2 rfl (wpAny_pure ?_)))
  try dsimp only
  rw [hs]
  have sh : wpAny (model prog w) A.in1 (do setField (.ref it) 1 (rawInt 2); Builtin.Itertools.itStop) (fun fin s' => ∃ v, fin = Fin.done (Flow.ret v) ∧ wpAny (model prog w) A (pure (some v)) Q E s')
      (fun e s' => wpAny (model prog w) A (do let b ← isInstance e (.type "StopIteration"); if b = true then pure none else throw e) Q E s') s := stopIt hh hit (by simp [cbF]) h
  rcases hn with ⟨rfl, rfl | rfl⟩ | ⟨rfl, rfl | rfl | rfl⟩
  · exact sh
  · exact sh
  · exact sh
  · exact sh
  · exact sh
end
theorem cb_comb {P : Program} {w : World} {it pool : Addr} {items : List Value} {n r : Nat} (hn : cbOk n r) (hI : ItemsOf (fun i v => ∃ t, v = .int (0 + i * 1) t) items.toArray n) :
    Comb P w "itertools.combinations" it pool items n (cbCount n r) (cbF pool n r) (fun i => cbN n r (i + 1)) := by
  have hl : items.length = n := by have := hI.1; simpa using this
  refine ⟨fun A E s i prev Q hi hit h => ?_, fun A E s prev Q hh hit h => cb_end hh hit hl hn h, fun A E s i prev Q hit h => ?_, nolen_cb, nohint_cb, by decide, by decide, hI, fun i j hi hj => ?_, ?_, fun i hi => ?_⟩
  · unfold pyNext
    refine wpAny_bind (wpAny_attempt ?_)
    cases i with
    | zero => exact cb_first (ns := cbN n r 0) hit (by rcases hn with ⟨rfl, rfl | rfl⟩ | ⟨rfl, rfl | rfl | rfl⟩ <;> decide) fun h' tr => wpAny_pure (h h' (by rcases hn with ⟨rfl, rfl | rfl⟩ | ⟨rfl, rfl | rfl | rfl⟩ <;> exact tr))
    | succ i => exact cb_more hit hl hn hi fun h' tr => wpAny_pure (h h' tr)
  · have hT : s.TypeIs (.ref it) "itertools.combinations" := ⟨_, hit.1, rfl⟩
    refine wpAny_pyIter_slot hT iter_cb (wpAny_call_entry iter_cb hT en_iter_cb ?_ (ar_iter_cb _))
    show wpAny _ _ (ret (.ref it)) _ _ s
    exact wpAny_pure ⟨_, rfl, "itertools.combinations", _, hT, next_cb.lookup, h⟩
  · rcases hn with ⟨rfl, rfl | rfl⟩ | ⟨rfl, rfl | rfl | rfl⟩
    · have z : ∀ i < 2, ∀ j ∈ cbN 2 1 (i + 1), j < 2 := by decide
      exact z i hi j hj
    · have z : ∀ i < 1, ∀ j ∈ cbN 2 2 (i + 1), j < 2 := by decide
      exact z i hi j hj
    · have z : ∀ i < 3, ∀ j ∈ cbN 3 1 (i + 1), j < 3 := by decide
      exact z i hi j hj
    · have z : ∀ i < 3, ∀ j ∈ cbN 3 2 (i + 1), j < 3 := by decide
      exact z i hi j hj
    · have z : ∀ i < 1, ∀ j ∈ cbN 3 3 (i + 1), j < 3 := by decide
      exact z i hi j hj
  · rcases hn with ⟨rfl, rfl | rfl⟩ | ⟨rfl, rfl | rfl | rfl⟩ <;> decide
  · rcases hn with ⟨rfl, rfl | rfl⟩ | ⟨rfl, rfl | rfl | rfl⟩
    · have z : ∀ i < 2, (cbN 2 1 (i + 1)).length ≤ 64 := by decide
      exact z i hi
    · have z : ∀ i < 1, (cbN 2 2 (i + 1)).length ≤ 64 := by decide
      exact z i hi
    · have z : ∀ i < 3, (cbN 3 1 (i + 1)).length ≤ 64 := by decide
      exact z i hi
    · have z : ∀ i < 3, (cbN 3 2 (i + 1)).length ≤ 64 := by decide
      exact z i hi
    · have z : ∀ i < 1, (cbN 3 3 (i + 1)).length ≤ 64 := by decide
      exact z i hi
end Zi

set_option Elab.async false
set_option linter.all false
set_option maxRecDepth 100000
set_option maxHeartbeats 2000000
/-! ZE: tuple(permutations(range(n))), for .. in combinations(range(n), r). -/
namespace Zl
open PySem L2 PySem.Spec PyProof.Rows Zi

def permD : D → T D
  | .int (.ofNat 2) => .ret (.tup [.tup [.int 0, .int 1], .tup [.int 1, .int 0]])
  | .int (.ofNat 3) => .ret (.tup [.tup [.int 0, .int 1, .int 2], .tup [.int 0, .int 2, .int 1], .tup [.int 1, .int 0, .int 2], .tup [.int 1, .int 2, .int 0], .tup [.int 2, .int 0, .int 1], .tup [.int 2, .int 1, .int 0]])
  | _ => .fail
theorem all_permD {d : D} {P : D → Prop} (h : (permD d).all P) : ∃ n : Nat, (n = 2 ∨ n = 3) ∧ d = .int n ∧ P (.tup ((List.range (pmCount n)).map fun j => rowD ((pmN n (j + 1)).take n))) := by
  unfold permD at h
  split at h
  · exact ⟨2, .inl rfl, rfl, h⟩
  · exact ⟨3, .inr rfl, rfl, h⟩
  · exact h.elim
def tPerm (te : TE) (F : Nat → Option Addr) (K : PySem.W.Frag) : TE := fun σ H Q => te σ H fun x H1 => ∃ n : Nat, (n = 2 ∨ n = 3) ∧ x = .int n ∧ ∃ m, (∀ a ∈ m, H1 a ≠ none) ∧
  ∀ H' p o, Same H1 H' → H' p = none → (∃ ob vs, o = .frz ob (.tup vs) ∧ ob.dict = none ∧ Reps K F m H' vs ((List.range (pmCount n)).map fun j => rowD ((pmN n (j + 1)).take n))) → Q (.ref p) (upd H' p o)
section
variable {X : Cx} {F : Nat → Option Addr}
theorem pe_perm {e : Expr} {te : TE} {p p2 p3 pos pos2 pos3 : Pos} (hc : X.calm = true) (hg : Gl X "tuple") (hm : X.mg "tuple" = none) (hg2 : Gl X "permutations") (hm2 : X.mg "permutations" = some (.type "itertools.permutations")) (hg3 : Gl X "range") (hm3 : X.mg "range" = none) (he : PE X e te)
    (na : starEach [e] X.env = (false, eval e X.env) :: starEach [] X.env := by rfl) (nb : starEach [.Call (.Name "range" p3) [e] [] pos3] X.env = (false, eval (.Call (.Name "range" p3) [e] [] pos3) X.env) :: starEach [] X.env := by rfl)
    (nc : starEach [.Call (.Name "permutations" p2) [.Call (.Name "range" p3) [e] [] pos3] [] pos2] X.env = (false, eval (.Call (.Name "permutations" p2) [.Call (.Name "range" p3) [e] [] pos3] [] pos2) X.env) :: starEach [] X.env := by rfl) :
    PE X (.Call (.Name "tuple" p) [.Call (.Name "permutations" p2) [.Call (.Name "range" p3) [e] [] pos3] [] pos2] [] pos) (tPerm te F X.K) := by
  constructor
  intro pins s σ H Q I h
  refine Call_ (ld_blt I hg hm PyProof.Rows.boot_tuple (PyProof.Rows.callWith_type1 (args_cons ?_ nc) nc))
  refine wpAny_Call_Name_kw (ld_glob I hg2 hm2 (PyProof.Rows.callWith_type1 (args_cons ?_ nb) nb))
  refine Call_ (ld_blt I hg3 hm3 PyProof.Rows.boot_range (PyProof.Rows.callWith_type1 (one_arg he I h (fun v s2 x H2 I2 r q => ?_) na) na))
  obtain ⟨n, hn, rfl, m, dom, q⟩ := q
  obtain ⟨t, rfl⟩ := r
  refine call_range_1 (args_nil ?_)
  have I3 : Inv X pins σ H2 { s2 with heap := s2.heap.push { cls := .type "range", data := .fields #[.int 0 s2.toks, .int n t, .int 1 (s2.toks + 1)] }, toks := s2.toks + 1 + 1 } := I2.kept fun b u e => Heap.get?_push_of_some _ e
  refine call_pm (s := { s2 with heap := s2.heap.push _, toks := _ }) (n := n) (I3.ok.hd hc) (IsRange.new _ _ _ _ _ _ _) (by omega) fun h1 tk acc hk hi => args_nil ?_
  have I4 : Inv X pins σ H2 { s2 with heap := h1, toks := tk } := I3.kept (t' := tk) (h' := h1) hk
  have I5 : Inv X pins σ H2 { s2 with heap := comH h1 "itertools.permutations" acc.toList (pmF0 n), toks := tk } := I4.kept (t' := tk) fun b u e => comH_keep e
  have f1 : FpOk X pins H2 (h1.objs.size + 1) := I4.fpOk (Nat.le_succ _) (I4.hok.fresh (Nat.le_succ _))
  have C : Comb X.prog X.w "itertools.permutations" (h1.objs.size + 1) h1.objs.size acc.toList n (pmCount n) (pmF h1.objs.size n) (fun i => (pmN n (i + 1)).take n) := pm_comb hn (by simpa using hi)
  refine C.call_tup (F := F) (m := m) dom (prev := .none) (I5.ok.hd hc) I5 (by
    have q := comH_it (h1 := h1) (T := "itertools.permutations") (xs := acc.toList) (fs := pmF0 n)
    rcases hn with rfl | rfl <;> exact q) f1 fun s' H' p o I' sm hp w => ?_
  exact ⟨V.ref p, _, I', rfl, q H' p o sm hp w⟩
theorem zperm {e : Expr} {f : Ex} {p p2 p3 pos pos2 pos3 : Pos} (hc : X.calm = true) (hg : Gl X "tuple") (hm : X.mg "tuple" = none) (hg2 : Gl X "permutations") (hm2 : X.mg "permutations" = some (.type "itertools.permutations")) (hg3 : Gl X "range") (hm3 : X.mg "range" = none) (he : PE X e (tX X.K F f))
    (na : starEach [e] X.env = (false, eval e X.env) :: starEach [] X.env := by rfl) (nb : starEach [.Call (.Name "range" p3) [e] [] pos3] X.env = (false, eval (.Call (.Name "range" p3) [e] [] pos3) X.env) :: starEach [] X.env := by rfl)
    (nc : starEach [.Call (.Name "permutations" p2) [.Call (.Name "range" p3) [e] [] pos3] [] pos2] X.env = (false, eval (.Call (.Name "permutations" p2) [.Call (.Name "range" p3) [e] [] pos3] [] pos2) X.env) :: starEach [] X.env := by rfl) :
    PE X (.Call (.Name "tuple" p) [.Call (.Name "permutations" p2) [.Call (.Name "range" p3) [e] [] pos3] [] pos2] [] pos) (tX X.K F (e1 permD f)) :=
  PEimp (pe_perm (F := F) hc hg hm hg2 hm2 hg3 hm3 he na nb nc) fun σ H Q h => by
    obtain ⟨ρ, m0, m1, fr, hp, a, h⟩ := h
    refine tX_mk a (T.all_bind h) fun x hx H1 v k1 a1 rx => ?_
    obtain ⟨n, hn, rfl, k⟩ := all_permD hx
    cases rx
    refine ⟨n, hn, rfl, m0 ++ m1, a1.sim.dom, fun H' p o sm hp w => ?_⟩
    obtain ⟨ob, vs, rfl, hd, rr⟩ := w
    have a2 := a1.same sm
    obtain ⟨k3, a3⟩ := a2.upd (o := .frz ob (.tup vs)) hp
    exact k _ _ ((k1.trans (.of sm)).trans k3) a3.row (.tup (a2.sim.new hp) (.new hd) (rr.on a2.own k3))

/-! ### combinations -/
def combL : D → D → T (List D)
  | .int (.ofNat 2), .int (.ofNat 1) => .ret [.tup [.int 0], .tup [.int 1]]
  | .int (.ofNat 2), .int (.ofNat 2) => .ret [.tup [.int 0, .int 1]]
  | .int (.ofNat 3), .int (.ofNat 1) => .ret [.tup [.int 0], .tup [.int 1], .tup [.int 2]]
  | .int (.ofNat 3), .int (.ofNat 2) => .ret [.tup [.int 0, .int 1], .tup [.int 0, .int 2], .tup [.int 1, .int 2]]
  | .int (.ofNat 3), .int (.ofNat 3) => .ret [.tup [.int 0, .int 1, .int 2]]
  | _, _ => .fail
theorem all_combL {d e : D} {P : List D → Prop} (h : (combL d e).all P) : ∃ n r : Nat, cbOk n r ∧ d = .int n ∧ e = .int r ∧ P ((List.range (cbCount n r)).map fun j => rowD (cbN n r (j + 1))) := by
  unfold combL at h
  split at h
  · exact ⟨2, 1, .inl ⟨rfl, .inl rfl⟩, rfl, rfl, h⟩
  · exact ⟨2, 2, .inl ⟨rfl, .inr rfl⟩, rfl, rfl, h⟩
  · exact ⟨3, 1, .inr ⟨rfl, .inl rfl⟩, rfl, rfl, h⟩
  · exact ⟨3, 2, .inr ⟨rfl, .inr (.inl rfl)⟩, rfl, rfl, h⟩
  · exact ⟨3, 3, .inr ⟨rfl, .inr (.inr rfl)⟩, rfl, rfl, h⟩
  · exact h.elim
def iComb (ta tb : TE) : TI := fun σ H R => ta σ H fun x H1 => ∃ n : Nat, n ≤ 3 ∧ x = .int n ∧ tb σ H1 fun y H2 => ∃ r : Nat, cbOk n r ∧ y = .int r ∧ R (Itc (cbCount n r) fun i => cbN n r (i + 1)) H2
theorem pi_comb {tg a b : Expr} {ta tb : TE} {p2 p3 pos2 pos3 : Pos} (hc : X.calm = true) (hg2 : Gl X "combinations") (hm2 : X.mg "combinations" = some (.type "itertools.combinations")) (hg3 : Gl X "range") (hm3 : X.mg "range" = none) (ha : PE X a ta) (hb : PE X b tb)
    (na : starEach [a] X.env = (false, eval a X.env) :: starEach [] X.env := by rfl) (nb : starEach [.Call (.Name "range" p3) [a] [] pos3, b] X.env = (false, eval (.Call (.Name "range" p3) [a] [] pos3) X.env) :: starEach [b] X.env := by rfl)
    (nc : starEach [b] X.env = (false, eval b X.env) :: starEach [] X.env := by rfl) (hpl : (backTo pos2 (starEach [b] X.env)).any (·.1) = false := by rfl) :
    PI X tg (.Call (.Name "combinations" p2) [.Call (.Name "range" p3) [a] [] pos3, b] [] pos2) (iComb ta tb) := by
  refine ⟨fun pins s σ H R I h => ?_⟩
  refine wpAny_Call_Name_kw (ld_glob I hg2 hm2 (PyProof.Rows.callWith_type1 (args_cons ?_ nb) nb hpl))
  refine Call_ (ld_blt I hg3 hm3 PyProof.Rows.boot_range (PyProof.Rows.callWith_type1 (one_arg ha I h (fun v s2 x H2 I2 r q => ?_) na) na))
  obtain ⟨n, hn, rfl, q⟩ := q
  obtain ⟨t, rfl⟩ := r
  refine call_range_1 ?_
  have I3 : Inv X ((s2.heap.objs.size, { cls := .type "range", data := .fields #[.int 0 s2.toks, .int n t, .int 1 (s2.toks + 1)] }) :: pins) σ H2 { s2 with heap := s2.heap.push { cls := .type "range", data := .fields #[.int 0 s2.toks, .int n t, .int 1 (s2.toks + 1)] }, toks := s2.toks + 1 + 1 } :=
    ClX.pin_new (t' := s2.toks + 1 + 1) I2 (fun b u e => Heap.get?_push_of_some _ e) (Nat.le_refl _) (Heap.get?_push_size _ rfl) (fun v z => nomatch z)
  refine args_cons (thn (hb.run _ _ σ H2 _ I3 q) fun v s4 hh => ?_) nc
  obtain ⟨y, H4, I4, r4, q4⟩ := hh
  obtain ⟨r, hr, rfl, q4⟩ := q4
  obtain ⟨t2, rfl⟩ := r4
  refine args_nil ?_
  have hrn : r ≤ n := by rcases hr with ⟨rfl, rfl | rfl⟩ | ⟨rfl, rfl | rfl | rfl⟩ <;> omega
  refine call_cb (n := n) (I4.ok.hd hc) (ClX.pin_at I4) (by omega) hrn fun h1 tk acc hk hi => ?_
  have I5 : Inv X pins σ H4 { s4 with heap := h1, toks := tk } := (ClX.unpin I4).kept (t' := tk) (h' := h1) hk
  have I6 : Inv X pins σ H4 { s4 with heap := comH h1 "itertools.combinations" acc.toList ([rawInt 0, .none] ++ (List.range r).map fun (i : Nat) => rawInt i), toks := tk } := I5.kept (t' := tk) fun b u e => comH_keep e
  have f1 : FpOk X pins H4 (h1.objs.size + 1) := I5.fpOk (Nat.le_succ _) (I5.hok.fresh (Nat.le_succ _))
  have f2 : FpOk X pins H4 h1.objs.size := I5.fpOk (Nat.le_refl _) (I5.hok.fresh (Nat.le_refl _))
  have C : Comb X.prog X.w "itertools.combinations" (h1.objs.size + 1) h1.objs.size acc.toList n (cbCount n r) (cbF h1.objs.size n r) (fun i => cbN n r (i + 1)) := cb_comb hr (by simpa using hi)
  have hit : IsIt "itertools.combinations" (comH h1 "itertools.combinations" acc.toList ([rawInt 0, .none] ++ (List.range r).map fun (i : Nat) => rawInt i)) (h1.objs.size + 1) h1.objs.size (cbF h1.objs.size n r 0 .none) acc.toList := by
    have q := comH_it (h1 := h1) (T := "itertools.combinations") (xs := acc.toList) (fs := [rawInt 0, .none] ++ (List.range r).map fun (i : Nat) => rawInt i)
    rcases hr with ⟨rfl, rfl | rfl⟩ | ⟨rfl, rfl | rfl | rfl⟩ <;> exact q
  refine C.self _ _ { s4 with heap := _, toks := _ } 0 .none _ hit ?_
  refine ⟨h1.objs.size + 1, [h1.objs.size + 1, h1.objs.size], _, _, H4, rfl, I6, C.turn, ⟨_, hit⟩, fun b hb => ?_, q4⟩
  have e : b = h1.objs.size + 1 ∨ b = h1.objs.size := by simpa using hb
  rcases e with z | z
  · rw [z]; exact f1
  · rw [z]; exact f2
def n23 : D → T D
  | .int (.ofNat 2) => .ret (.int 2)
  | .int (.ofNat 3) => .ret (.int 3)
  | _ => .fail
theorem all_n23 {d : D} {P : D → Prop} (h : (n23 d).all P) : ∃ n : Nat, n ≤ 3 ∧ d = .int n ∧ P d := by
  unfold n23 at h
  split at h
  · exact ⟨2, by omega, rfl, h⟩
  · exact ⟨3, by omega, rfl, h⟩
  · exact h.elim
def lComb (f g : Ex) : Fr → Hz → T (List D) := fun fr hp => (f fr hp).bind fun x => (n23 x).bind fun x => (g fr hp).bind fun y => combL x y
theorem zicb {tg a b : Expr} {f g : Ex} {p2 p3 pos2 pos3 : Pos} (hc : X.calm = true) (hg2 : Gl X "combinations") (hm2 : X.mg "combinations" = some (.type "itertools.combinations")) (hg3 : Gl X "range") (hm3 : X.mg "range" = none) (ha : PE X a (tX X.K F f)) (hb : PE X b (tX X.K F g))
    (na : starEach [a] X.env = (false, eval a X.env) :: starEach [] X.env := by rfl) (nb : starEach [.Call (.Name "range" p3) [a] [] pos3, b] X.env = (false, eval (.Call (.Name "range" p3) [a] [] pos3) X.env) :: starEach [b] X.env := by rfl)
    (nc : starEach [b] X.env = (false, eval b X.env) :: starEach [] X.env := by rfl) (hpl : (backTo pos2 (starEach [b] X.env)).any (·.1) = false := by rfl) :
    PI X tg (.Call (.Name "combinations" p2) [.Call (.Name "range" p3) [a] [] pos3, b] [] pos2) (tI X.K F false (lComb f g)) :=
  PIimp (pi_comb hc hg2 hm2 hg3 hm3 ha hb na nb nc hpl) fun σ H R h => by
    obtain ⟨ρ, m0, m1, fr, hp, a, h⟩ := h
    refine tX_mk a (T.all_bind h) fun x hx H1 v k1 a1 rx => ?_
    obtain ⟨n, hn, rfl, hx⟩ := all_n23 (T.all_bind hx)
    cases rx
    refine ⟨n, hn, rfl, ?_⟩
    refine tX_mk a1 (T.all_bind hx) fun y hy H2 u k2 a2 ry => ?_
    obtain ⟨n', r, ok, e1, rfl, k⟩ := all_combL hy
    have e2 : n = n' := by
      have := D.int.inj e1
      omega
    subst e2
    cases ry
    exact ⟨r, ok, rfl, k _ H2 (k1.trans k2) a2.row walkC⟩
end
end Zl

set_option Elab.async false
set_option linter.all false
set_option maxRecDepth 100000
set_option maxHeartbeats 2000000
/-! ZF: isinstance, len(set(t)), module constants, is not, parallel stores. -/
namespace Zl
open PySem L2 PySem.Spec PyProof.Rows

/-! ### isinstance -/
/-- a value's class, by name -/
def tyName : D → Option String
  | .non => some "NoneType"
  | .bl _ => some "bool"
  | .int _ => some "int"
  | .str _ => some "str"
  | .tup _ => some "tuple"
  | .lst _ => some "list"
  | _ => none
def tag : D → Nat
  | .non => 0
  | .bl _ => 1
  | .int _ => 2
  | .str _ => 3
  | .tup _ => 4
  | .lst _ => 5
  | _ => 9
section
variable {X : Cx} {F : Nat → Option Addr}
theorem Rep.tyx {m : List Addr} {H : Hp} {v : V} {d : D} {n : String} (r : Rep X.K F m H v d) (h : tyName d = some n) : TyX X.K H v (.type n) := by
  cases d <;> first | (cases h; done) | skip
  · cases h; cases r; exact .base .non
  · cases h; cases r; exact .base (.bl _)
  · cases h; cases r; exact .base (.int _)
  · cases h; cases r; exact .base (.str _)
  · cases h
    cases r with
    | tup hn e rr => obtain ⟨o, e, _⟩ := e; exact .fTuple e
    | tupK e rr => obtain ⟨o, its, n, ⟨e1, e2, _⟩, _⟩ := e; exact .kTuple e1 e2
  · cases h
    cases r with
    | lst hn e rr => exact .base (.lst e)
/-- isinstance(x, c), c a built-in class: one by the other, as the model's tables say -/
def isiOne (c : Nat) (d : D) : T D := match tag d, c with
  | 1, 2 => .ret (.bl true)
  | 9, _ => .fail
  | a, b => .ret (.bl (Nat.beq a b))
def clsName : Nat → Option String
  | 1 => some "bool"
  | 2 => some "int"
  | 3 => some "str"
  | 4 => some "tuple"
  | 5 => some "list"
  | _ => none
def isiB (a c : Nat) : Bool := (Nat.beq a 1 && Nat.beq c 2) || Nat.beq a c
theorem isi_tab {a c : Nat} {n k : String} {d : D} (hd : tag d = a) (hn : tyName d = some n) (hk : clsName c = some k) : kitB n k = some (isiB a c) := by
  subst hd
  have hc : c = 1 ∨ c = 2 ∨ c = 3 ∨ c = 4 ∨ c = 5 := by
    unfold clsName at hk
    split at hk <;> first | (cases hk; done) | simp
  cases d <;> first | (cases hn; done) | skip
  all_goals cases hn
  all_goals rcases hc with rfl | rfl | rfl | rfl | rfl
  all_goals cases hk
  all_goals simp only [tag]
  all_goals decide +kernel
def eIsi (c : Nat) (f : Ex) : Ex := fun fr hp => (f fr hp).bind fun x => guardT (!Nat.beq (tag x) 9) (.ret (.bl (isiB (tag x) c)))
theorem tag_name {d : D} (h : (!Nat.beq (tag d) 9) = true) : ∃ n, tyName d = some n := by
  cases d <;> first | exact ⟨_, rfl⟩ | exact absurd h (by simp [tag])
theorem boot_isi : bootBuiltins "isinstance" = some (.builtin "isinstance") := by decide +kernel
theorem zisi {a b : Expr} {f : Ex} {p pos : Pos} (c : Nat) {k : String} (hk : clsName c = some k) (hg : Gl X "isinstance") (hm : X.mg "isinstance" = none) (ha : PE X a (tX X.K F f)) (hb : PE X b (tX X.K F (eC (.ty k))))
    (na : starEach [a, b] X.env = (false, eval a X.env) :: starEach [b] X.env := by rfl) (nb : starEach [b] X.env = (false, eval b X.env) :: starEach [] X.env := by rfl) (hpl : (backTo pos (starEach [b] X.env)).any (·.1) = false := by rfl) :
    PE X (.Call (.Name "isinstance" p) [a, b] [] pos) (tX X.K F (eIsi c f)) :=
  PEimp (pe_callB call_isi hg hm boot_isi (pa_cons ha (pa_cons hb pa_nil nb) na) (he := na) (hpl := hpl)) fun σ H Q h => by
    obtain ⟨ρ, m0, m1, fr, hp, a, h⟩ := h
    refine tX_mk a (T.all_bind h) fun x hx H1 v k1 a1 rx => ?_
    obtain ⟨hg9, hx⟩ := all_guard hx
    refine tX_mk a1 (show ((eC (.ty k)) fr hp).all (fun d => d = .ty k) from rfl) fun y hy H2 u k2 a2 ry => ?_
    subst hy
    cases ry
    obtain ⟨n, hn⟩ := tag_name hg9
    exact ⟨v, .ty k, .type n, .type k, _, rfl, .ty k, (rx.on a1.own k2).tyx hn, kit_ty (isi_tab rfl hn hk), hx H2 _ (k1.trans k2) a2.row (.bl _)⟩
/-- isinstance(x, (c, c')) -/
def eIsi2 (c c' : Nat) (f : Ex) : Ex := fun fr hp => (f fr hp).bind fun x => guardT (!Nat.beq (tag x) 9) (.ret (.bl (isiB (tag x) c || isiB (tag x) c')))
theorem zisi2 {a b b' : Expr} {f : Ex} {p pos tp : Pos} {x1} (c c' : Nat) {k k' : String} (hk : clsName c = some k) (hk' : clsName c' = some k') (hg : Gl X "isinstance") (hm : X.mg "isinstance" = none) (ha : PE X a (tX X.K F f)) (hb : PE X b (tX X.K F (eC (.ty k)))) (hb' : PE X b' (tX X.K F (eC (.ty k'))))
    (na : starEach [a, .Tuple [b, b'] x1 tp] X.env = (false, eval a X.env) :: starEach [.Tuple [b, b'] x1 tp] X.env := by rfl) (nb : starEach [.Tuple [b, b'] x1 tp] X.env = (false, eval (.Tuple [b, b'] x1 tp) X.env) :: starEach [] X.env := by rfl) (hpl : (backTo pos (starEach [.Tuple [b, b'] x1 tp] X.env)).any (·.1) = false := by rfl)
    (nc : starEach [b, b'] X.env = (false, eval b X.env) :: starEach [b'] X.env := by rfl) (nd : starEach [b'] X.env = (false, eval b' X.env) :: starEach [] X.env := by rfl) :
    PE X (.Call (.Name "isinstance" p) [a, .Tuple [b, b'] x1 tp] [] pos) (tX X.K F (eIsi2 c c' f)) :=
  PEimp (pe_callB call_isiT hg hm boot_isi (pa_cons ha (pa_cons (pe_tup (pa_cons hb (pa_cons hb' pa_nil nd) nc)) pa_nil nb) na) (he := na) (hpl := hpl)) fun σ H Q h => by
    obtain ⟨ρ, m0, m1, fr, hp, a, h⟩ := h
    refine tX_mk a (T.all_bind h) fun x hx H1 v k1 a1 rx => ?_
    obtain ⟨hg9, hx⟩ := all_guard hx
    refine tX_mk a1 (show ((eC (.ty k)) fr hp).all (fun d => d = .ty k) from rfl) fun y hy H2 u k2 a2 ry => ?_
    subst hy
    cases ry
    refine tX_mk a2 (show ((eC (.ty k')) fr hp).all (fun d => d = .ty k') from rfl) fun y hy H3 u k3 a3 ry => ?_
    subst hy
    cases ry
    refine ⟨(show 2 ≤ sizeLine from by decide), fun tp htp => ?_⟩
    obtain ⟨n, hn⟩ := tag_name hg9
    have k4 : Keep ρ H3 (upd H3 tp (.tup [.ty k, .ty k'])) := .of (same_new htp)
    have rx3 := ((rx.on a1.own k2).on a2.own k3).on a3.own k4
    have e1 := isi_tab (c := c) rfl hn hk
    have e2 := isi_tab (c := c') rfl hn hk'
    refine ⟨v, tp, [.ty k, .ty k'], .type n, [.type k, .type k'], isiB (tag x) c || isiB (tag x) c', rfl, upd_same, .cons (.ty k) (.cons (.ty k') .nil), rx3.tyx hn, ?_, hx _ _ (((k1.trans k2).trans k3).trans k4) (a3.row.same (same_new htp)) (.bl _)⟩
    refine kitAny_cons (kit_ty e1) (fun z => ?_) fun z => by rw [z]; rfl
    rw [z, Bool.false_or]
    refine kitAny_cons (kit_ty e2) (fun z => ?_) fun z => z
    rw [z]; rfl

/-! ### len(set(t)) -/
def memI (k : Int) : List Int → Bool
  | [] => false
  | x :: r => if eqI x k then true else memI k r
theorem memI_iff {k : Int} : ∀ {l : List Int}, memI k l = true ↔ k ∈ l
  | [] => by simp [memI]
  | x :: r => by
    unfold memI
    by_cases e : x = k
    · subst e
      simp [eqI]
    · have : ¬ eqI x k = true := by simp [eqI, e]
      rw [if_neg this, memI_iff (l := r)]
      simp [Ne.symm e]
def distI : List Int → List Int
  | [] => []
  | x :: r => if memI x r then distI r else x :: distI r
theorem distI_mem {k : Int} : ∀ {l : List Int}, k ∈ distI l ↔ k ∈ l
  | [] => by simp [distI]
  | x :: r => by
    unfold distI
    split
    · rename_i h
      rw [distI_mem (l := r), List.mem_cons]
      refine ⟨.inr, fun q => q.elim (fun e => ?_) id⟩
      rw [e]; exact memI_iff.mp h
    · rw [List.mem_cons, List.mem_cons, distI_mem (l := r)]
theorem distI_nodup : ∀ l : List Int, (distI l).Nodup
  | [] => .nil
  | x :: r => by
    unfold distI
    split
    · exact distI_nodup r
    · rename_i h
      refine List.nodup_cons.mpr ⟨fun q => h (memI_iff.mpr (distI_mem.mp q)), distI_nodup r⟩
def tLenSetT (K : PySem.W.Frag) (ta : TE) : TE := fun σ H Q => ta σ H fun x H1 => ∃ (l : Addr) (ns : List Int), x = .ref l ∧ SqT K H1 l (ns.map V.int) ∧ ns.length ≤ 64 ∧ Q (.int ((distI ns).length : Nat)) H1
theorem pe_lenSetT {a : Expr} {ta : TE} {p p2 q pos : Pos} (hg : Gl X "len") (hm : X.mg "len" = none) (hg2 : Gl X "set") (hm2 : X.mg "set" = none) (ha : PE X a ta) (hc : X.calm = true)
    (na : starEach [a] X.env = (false, eval a X.env) :: starEach [] X.env := by rfl) : PE X (.Call (.Name "len" p) [.Call (.Name "set" p2) [a] [] q] [] pos) (tLenSetT X.K ta) := by
  refine ⟨fun pins s σ H Q I h => ?_⟩
  refine Call_ (ld_blt I hg hm boot_len ?_)
  refine PyProof.Rows.callWith_builtin1 (PyProof.Rows.args_cons ?_ rfl) rfl rfl
  refine Call_ (ld_blt I hg2 hm2 boot_set ?_)
  refine PyProof.Rows.callWith_type1 (PyProof.Rows.args_cons (thn (ha.run pins s σ H _ I h) fun v s1 ⟨x, H1, I1, r1, q1⟩ => PyProof.Rows.args_nil ?_) na) na rfl
  obtain ⟨l, ns, rfl, hq, hl, q1⟩ := q1
  cases r1
  obtain ⟨its, r, pl, hz⟩ := I1.tuple hq
  refine call_set_tupI ns (I1.ok.hd hc) (show s1.heap.IsTuple l its.toArray from pl) (by simpa using r.ints) (by unfold scanBound; omega) fun h' tk c hS hle hk => ?_
  refine PyProof.Rows.args_nil ?_
  obtain ⟨o, es, ep, t, ho, hex, hd, hge, nd, hmm, hb, hf, hn, _⟩ := hS
  have I2 : Inv X pins σ H1 { s1 with heap := h', toks := tk } := I1.kept hk
  have ec : es.size = (distI ns).length := by
    have p : (es.toList.map keyOf).Perm (distI ns) := (List.perm_ext_iff_of_nodup nd (distI_nodup ns)).mpr fun k => by
      rw [← hmm k, distI_mem]
      simp
    have := p.length_eq
    rw [List.length_map, Array.length_toList] at this
    exact this
  exact call_len_set ho hex hd hf (by rw [hn] <;> omega) ⟨.int ((distI ns).length : Nat), H1, I2.tok _, ⟨_, by rw [ec]⟩, q1⟩
def eLenSet (f : Ex) : Ex := fun fr hp => (f fr hp).bind fun x => (asTup x).bind fun xs => (ofO (intsO xs)).bind fun ns => guardT (few ns 64) (.ret (.int (distI ns).length))
theorem zlenSet {a : Expr} {f : Ex} {p p2 q pos : Pos} (hg : Gl X "len") (hm : X.mg "len" = none) (hg2 : Gl X "set") (hm2 : X.mg "set" = none) (ha : PE X a (tX X.K F f)) (hc : X.calm = true)
    (na : starEach [a] X.env = (false, eval a X.env) :: starEach [] X.env := by rfl) : PE X (.Call (.Name "len" p) [.Call (.Name "set" p2) [a] [] q] [] pos) (tX X.K F (eLenSet f)) :=
  PEimp (pe_lenSetT hg hm hg2 hm2 ha hc na) fun σ H Q h => by
    obtain ⟨ρ, m0, m1, fr, hp, a, h⟩ := h
    refine tX_mk a (T.all_bind h) fun x hx H1 v k1 a1 rx => ?_
    obtain ⟨xs, rfl, hx⟩ := all_asTup (T.all_bind hx)
    obtain ⟨ns, e1, hx⟩ := all_ofO (T.all_bind hx)
    obtain ⟨hf, k⟩ := all_guard hx
    obtain ⟨b, vs, rfl, hs, rs⟩ := rx.tupR
    obtain ⟨e3, _⟩ := ints_reps rs e1
    subst e3
    exact ⟨b, ns, rfl, hs, few_le hf, k H1 _ k1 a1.row (.int _)⟩

/-! ### is not, constants of the module -/
def dIsNotTy (x y : D) : T D := match x, y with
  | .ty m, .ty n => .ret (.bl (!decide (m = n)))
  | _, _ => .fail
theorem oisNotTy : OpZ X F (compareOp .IsNot) dIsNotTy := OpZ.of op_isNotTy fun m H v u x y Q rx ry h => by
  unfold dIsNotTy at h
  split at h
  · cases rx
    cases ry
    exact ⟨_, _, rfl, rfl, h _ (.bl _)⟩
  · exact h.elim
/-- a static thing of the module -/
theorem zgl {x : Str} {a : Addr} {d : D} {pos : Pos} (hg : Gl X x) (hm : X.mg x = some (.ref a)) (r : ∀ m H, Rep X.K F m H (.ref a) d) (hd : (x == ("__debug__" : Str)) = false := by decide) : PE X (.Name x pos) (tX X.K F (eC d)) :=
  zc (pe_glob (v := V.ref a) hg hm rfl hd) r

/-! ### x, y = a, b -/
def sPar (i j : Nat) (f g : Ex) : Sm := fun fr hp => (f fr hp).bind fun x => (g fr hp).bind fun y => .ret (.nx (setN (setN fr i (some (.v x))) j (some (.v y))) hp)
theorem zpar {i j : Nat} {x y : Str} {a b : Expr} {f g : Ex} {px py pt pos : Pos} {kt k2 pt2} (hc : X.calm = true) (hN : X.N.Nodup) (hi : X.N[i]? = some x) (hj : X.N[j]? = some y) (hij : i ≠ j)
    (hx : X.env.scope.names.lookup x = some .local) (hy : X.env.scope.names.lookup y = some .local) (ha : PE X a (tX X.K F f)) (hb : PE X b (tX X.K F g))
    (hw : swappedStores [.Tuple [.Name x px, .Name y py] kt pt] (.Tuple [a, b] k2 pt2) X.env = pure (some [x, y]))
    (hs : swapsWithSole [.Tuple [.Name x px, .Name y py] kt pt] (.Tuple [a, b] k2 pt2) pos.line X.env = pure false := by rfl)
    (na : starEach [a, b] X.env = (false, eval a X.env) :: starEach [b] X.env := by rfl) (nb : starEach [b] X.env = (false, eval b X.env) :: starEach [] X.env := by rfl) :
    PS X (.Assign [.Tuple [.Name x px, .Name y py] kt pt] (.Tuple [a, b] k2 pt2) pos) (tS X.K F (sPar i j f g)) :=
  PSimp (ps_par hc hN hi hj hij hx hy (pa_cons ha (pa_cons hb pa_nil nb) na) hw hs) fun D σ H h => by
    obtain ⟨ρ, m0, m1, fr, hp, a, h⟩ := h
    refine tX_mk a (T.all_bind h) fun x hx H1 v k1 a1 rx => ?_
    refine tX_mk a1 (T.all_bind hx) fun y hy H2 u k2 a2 ry => ?_
    exact ⟨v, u, rfl, hy m1 H2 _ (.of (k1.trans k2)) ⟨(a2.fr.set (s := .v x) i (rx.on a1.own k2)).set (s := .v y) j ry, a2.sim, a2.row, a2.own⟩⟩
end
end Zl

set_option Elab.async false
set_option linter.all false
set_option maxRecDepth 100000
set_option maxHeartbeats 2000000
/-! ZG: enumerate over a tuple, comprehensions of two clauses. -/
namespace Zl
open PySem L2 PySem.Spec PyProof.Rows

/-! ### enumerate(tuple) -/
theorem meets_enum1 {v : Value} {o : Obj} {H : Heap → Prop} (B : Begins v o H) :
    Meets (Builtin.«enumerate.__new__» ⟨[.type "enumerate", v], []⟩) (fun _ R s => H s.heap ∧ R (.ok (.ret (.ref (s.heap.push o).objs.size))) { s with heap := (s.heap.push o).push { cls := .type "enumerate", data := .fields #[.none, .bool false, .ref s.heap.objs.size, rawInt 0, .none, .none] } }) :=
  .of_wp fun prog w A R s h => by
    obtain ⟨hp, g, d, tk, os⟩ := s; obtain ⟨h1, h⟩ := h
    have hsub := sub_enumerate
    have q1 : ∀ {A' : Around} {E : Value → Shared → Prop} {Q : Value → Shared → Prop}, Q (.ref hp.objs.size) ⟨hp.push o, g, d, tk, os⟩ → wpAny (model prog w) A' (pyIter v) Q E ⟨hp, g, d, tk, os⟩ := fun q => B.iter prog w _ _ ⟨hp, g, d, tk, os⟩ _ h1 q
    wp_walk
    refine wpAny_stack_any fun st => wpAny_pure ?_
    split
    · rename_i c _ _ _ _ _
      cases (c == Value.type "enumerate")
      · wp_walk using q1
        exact ⟨_, rfl, h⟩
      · wp_walk using q1
        exact ⟨_, rfl, h⟩
    · wp_walk using q1
      exact ⟨_, rfl, h⟩
section
variable {prog : Program} {w : World} {A : Around} {E : Value → Shared → Prop} {s : Shared}
theorem call_enumT {t : Addr} {items : Array Value} {Q : Value → Shared → Prop} (h1 : s.heap.IsTuple t items)
    (h : ∀ h', IsEnum h' (s.heap.objs.size + 1) s.heap.objs.size 0 .none → h'.IsTupleIter s.heap.objs.size t 0 → (∀ b o, s.heap.get? b = some o → h'.get? b = some o) → Q (.ref (s.heap.objs.size + 1)) { s with heap := h' }) :
    wpAny (model prog w) A (call (.type "enumerate") [.ref t]) Q E s := by
  have B := begins_tuple t items
  refine callType_new PySem.F.called_enumerate (by decide) (PySem.F.typeCall_enumerate_1 _) (PySem.F.newCall_enumerate_1 _) (fun obj => PySem.F.args_object_init_2 obj _) PySem.F.entry_enumerate_new (meets_enum1 B) ⟨h1, ?_⟩
  have hz : (s.heap.push { cls := .type "tuple_iterator", data := .fields #[.ref t, .int 0 0] }).objs.size = s.heap.objs.size + 1 := Heap.size_push ..
  show _ ∧ _
  rw [hz]
  have he : IsEnum ((s.heap.push { cls := .type "tuple_iterator", data := .fields #[.ref t, .int 0 0] }).push { cls := .type "enumerate", data := .fields #[.none, .bool false, .ref s.heap.objs.size, rawInt 0, .none, .none] }) (s.heap.objs.size + 1) s.heap.objs.size 0 .none := by
    have := Heap.get?_push_size (s.heap.push { cls := .type "tuple_iterator", data := .fields #[.ref t, .int 0 0] }) (o := { cls := .type "enumerate", data := .fields #[.none, .bool false, .ref s.heap.objs.size, rawInt 0, .none, .none] }) rfl
    rw [hz] at this; exact this
  exact ⟨⟨_, he, rfl⟩, h _ he ⟨_, Heap.get?_push_of_some _ (Heap.get?_push_size _ rfl), rfl, rfl⟩ fun b o x => Heap.get?_push_of_some _ (Heap.get?_push_of_some _ x)⟩
end
/-- the tuple at a, each item in a new pair -/
def IteT (K : PySem.W.Frag) (a : Addr) : It :=
  ⟨fun i H => ∃ (xs : List V) (x : V), SqT K H a xs ∧ xs[i]? = some x, fun i H v H' => ∃ T x, v = .ref T ∧ H T = none ∧ H' = upd H T (.tup [.int (i : Nat), x]) ∧ ∀ xs, SqT K H a xs → xs[i]? = some x, fun i H => ∃ xs : List V, SqT K H a xs ∧ xs.length = i⟩
theorem turn_enumT {P : Program} {w : World} {K : PySem.W.Frag} {elts : List Expr} {kk : Nat} {tpos : Pos} (a e it : Addr) :
    Turn P w K (.Tuple elts kk tpos) (IteT K a) [e, it] e (fun i h => (∃ old, IsEnum h e it ((i : Nat) : Int) old) ∧ h.IsTupleIter it a i ∧ e ≠ it ∧ a ≠ it ∧ a ≠ e) where
  mem := by simp
  obj := fun i h st b hb => by
    obtain ⟨⟨old, he⟩, ⟨o, ho, hc, hd⟩, _⟩ := st
    have e' : b = e ∨ b = it := by simpa using hb
    rcases e' with z | z
    · rw [z]; exact ⟨_, he, fun v q => nomatch q⟩
    · rw [z]; exact ⟨o, ho, fun v q => by rw [hd] at q; cases q⟩
  keep := fun i h h' st k => let ⟨⟨old, he⟩, hi, hne⟩ := st; ⟨⟨old, k e (by simp) _ he⟩, hi.at fun o q => k it (by simp) o q, hne⟩
  item := by
    intro X hP hw hK hc i pins s σ H E I hf st hg
    subst hP hw hK
    obtain ⟨⟨old, he⟩, hit, hne, hai, hae⟩ := st
    obtain ⟨xs, x, hq, hx⟩ := hg
    obtain ⟨its, rv, p, hz⟩ := I.tuple hq
    obtain ⟨u, hu, ru⟩ := rv.get hx
    have hel : e < s.heap.objs.size := Heap.lt_size he
    have hil : it < s.heap.objs.size := by obtain ⟨_, q, _⟩ := hit; exact Heap.lt_size q
    have hlt : i < its.toArray.size := by rw [List.size_toArray]; exact (List.getElem?_eq_some_iff.mp hu).1
    have pl : s.heap.IsTuple a its.toArray := p
    have hh : X.A.in1.handled = none := I.ok.hd hc
    refine wpAny_pyNext_enum_itemC (Draws.tuple (A := X.A.in1) hh it a hai its.toArray) he ⟨hit, pl⟩ hlt hne (by simp only [List.mem_cons, List.not_mem_nil, or_false, not_or]; exact ⟨hne, Ne.symm hae⟩) fun y h' tk hP ho hst' hT hsz hk => ?_
    have ey : y = u := by
      have hP : its.toArray[i]? = some y := hP
      rw [List.getElem?_toArray, hu] at hP
      exact (Option.some.inj hP).symm
    subst ey
    refine ⟨_, rfl, wpAny_letOwnedTupleGo_enum (s := { s with heap := h', toks := tk + 1 }) ho fun h'' he' sb => ?_⟩
    have hT2 : h''.get? s.heap.objs.size = some { cls := .type "tuple", data := .seq #[.int i tk, y] } := (sb.2 _ (Nat.ne_of_gt hel)).trans hT
    have new : ObjOk X.prog X.w (upd H s.heap.objs.size (.tup [.int (i : Nat), x])) h'' s.heap.objs.size (.tup [.int (i : Nat), x]) :=
      ⟨by show 2 ≤ sizeLine; decide, [.int i tk, y], .cons ⟨_, rfl⟩ (.cons ru .nil), ⟨_, hT2, rfl, _, rfl⟩⟩
    have I1 : Inv X pins σ (upd H s.heap.objs.size (.tup [.int (i : Nat), x])) { s with heap := h'', toks := tk + 1 } :=
      I.turnedNew (ch := [e, it]) (fun b ob hb q => (sb.2 b (fun z => hb (by simp [z]))).trans (hk b ob (fun z => hb (by simp [z])) (fun z => hb (by simp [z])) q)) hf (Nat.le_refl _) new
    refine ⟨.ref s.heap.objs.size, _, I1, rfl, ⟨_, x, rfl, I.hok.fresh (Nat.le_refl _), rfl, fun ys hy => by rw [I.tuple_inj hy hq]; exact hx⟩, ⟨⟨y, ?_⟩, hst'.1.at fun o q => (sb.2 it (Ne.symm hne)).trans q, hne, hai, hae⟩, fun b hb => ?_⟩
    · have e1 : ((i + 1 : Nat) : Int) = (i : Int) + 1 := by omega
      rw [e1]; exact he'
    · have hb' : b < s.heap.objs.size := by
        have e' : b = e ∨ b = it := by simpa using hb
        rcases e' with z | z
        · rw [z]; exact hel
        · rw [z]; exact hil
      rw [upd_ne (Nat.ne_of_lt hb')]
      exact (hf b hb).1
  done := by
    intro X hP hw hK hc i pins s σ H E I hf st hg
    subst hP hw hK
    obtain ⟨⟨old, he⟩, hit, hne, hai, hae⟩ := st
    obtain ⟨xs, hq, hx⟩ := hg
    obtain ⟨its, rv, p, hz⟩ := I.tuple hq
    obtain ⟨f0, f1, f2, f3, f4, f5⟩ := hf it (by simp)
    have pl : s.heap.IsTuple a its.toArray := p
    have hh : X.A.in1.handled = none := I.ok.hd hc
    have hl : its.toArray.size = i := by rw [List.size_toArray, ← rv.length, hx]
    subst hl
    exact wpAny_pyNext_enum_endD (Draws.tuple (A := X.A.in1) hh it a hai its.toArray) he ⟨hit, pl⟩ fun h' eb => ⟨rfl, I.turned (t' := s.toks) (fun b o hb q => eb b o hb q) f0 f1 f3 f4 f5⟩
  self := fun A i s Q E st h => let ⟨⟨_, he⟩, _⟩ := st; wpAny_pyIter_enum he h
def iEnumT (K : PySem.W.Frag) (ta : TA) : TI := fun σ H R => ta σ H fun vs H1 => ∃ a xs, vs = [.ref a] ∧ SqT K H1 a xs ∧ R (IteT K a) H1
theorem pi_enumT {X : Cx} {e : Expr} {ta : TA} {p pos tpos : Pos} {elts : List Expr} {kk : Nat} (hg : Gl X "enumerate") (hm : X.mg "enumerate" = none) (ha : PA X [e] ta) (hs : starEach [e] X.env = [(false, eval e X.env)] := by rfl) :
    PI X (.Tuple elts kk tpos) (.Call (.Name "enumerate" p) [e] [] pos) (iEnumT X.K ta) := by
  refine ⟨fun pins s σ H R I h => ?_⟩
  refine Call_ (ld_blt I hg hm boot_enumerate (PyProof.Rows.callWith_type1 (thn (ha.run pos pins s σ H _ I h) fun us s1 ⟨vs, H1, I1, r1, q1⟩ => ?_) hs rfl))
  obtain ⟨a, xs, ex, hq, q⟩ := q1
  subst ex
  cases r1 with
  | cons r rr =>
    cases rr
    cases r
    obtain ⟨its, rv, p', hz⟩ := I1.tuple hq
    have pl : s1.heap.IsTuple a its.toArray := p'
    have lt : a < s1.heap.objs.size := by obtain ⟨o, ho, _⟩ := pl; exact Heap.lt_size ho
    refine call_enumT pl fun h' he hit hk => wpAny_pyIter_enum he ?_
    have I2 : Inv X pins σ H1 { s1 with heap := h' } := I1.kept (t' := s1.toks) hk
    refine ⟨s1.heap.objs.size + 1, [s1.heap.objs.size + 1, s1.heap.objs.size], _, _, H1, rfl, I2, turn_enumT a (s1.heap.objs.size + 1) s1.heap.objs.size, ⟨⟨.none, he⟩, hit, Nat.succ_ne_self _, Nat.ne_of_lt lt, Nat.ne_of_lt (Nat.lt_succ_of_lt lt)⟩, fun b hb => ?_, q⟩
    have e' : b = s1.heap.objs.size + 1 ∨ b = s1.heap.objs.size := by simpa using hb
    have hle : s1.heap.objs.size ≤ b := by
      rcases e' with z | z
      · rw [z]; exact Nat.le_add_right _ _
      · rw [z]; exact Nat.le_refl _
    exact I1.fpOk hle (I1.hok.fresh hle)
/-- the items with their places -/
def enumD : Int → List D → List D
  | _, [] => []
  | i, d :: ds => .tup [.int i, d] :: enumD (i + 1) ds
theorem enumD_get : ∀ (ds : List D) (k : Int) (i : Nat) (d : D), (enumD k ds)[i]? = some d → ∃ x, ds[i]? = some x ∧ d = .tup [.int (k + i), x]
  | [], _, _, _, h => by simp [enumD] at h
  | x :: ds, k, 0, d, h => by
    have h : D.tup [.int k, x] = d := by simpa [enumD] using h
    exact ⟨x, rfl, by rw [← h]; simp⟩
  | x :: ds, k, i + 1, d, h => by
    obtain ⟨y, e1, e2⟩ := enumD_get ds (k + 1) i d (by simpa [enumD] using h)
    refine ⟨y, by simpa using e1, ?_⟩
    rw [e2]
    congr 3
    omega
theorem enumD_len : ∀ (ds : List D) (k : Int), (enumD k ds).length = ds.length
  | [], _ => rfl
  | _ :: ds, k => congrArg (· + 1) (enumD_len ds (k + 1))
section
variable {X : Cx} {F : Nat → Option Addr}
theorem walkE {m : List Addr} {H : Hp} {a : Addr} {vs : List V} {ds : List D} (hs : ∀ m' H', Later m H m' H' → SqT X.K H' a vs) (r : Reps X.K F m H vs ds) : WalkD X.K F true m H (IteT X.K a) (enumD 0 ds) := by
  refine ⟨fun H' => SqT X.K H' a vs, fun i H1 x H2 => ∃ T y, x = .ref T ∧ H1 T = none ∧ H2 = upd H1 T (.tup [.int (i : Nat), y]) ∧ vs[i]? = some y, ⟨fun i H' hi hg => ?_, fun H' hg => ⟨vs, hg, by rw [enumD_len, r.length]⟩, fun i H' x H2 hi hg y => ?_⟩, hs, fun i d x m' H1 H2 e l dom y => ?_⟩
  · rw [enumD_len, ← r.length] at hi
    exact ⟨vs, vs[i], hg, List.getElem?_eq_getElem hi⟩
  · obtain ⟨T, y, rfl, hT, rfl, q⟩ := y
    exact ⟨T, y, rfl, hT, rfl, q vs hg⟩
  · obtain ⟨T, y, rfl, hT, rfl, q⟩ := y
    obtain ⟨z, e1, rfl⟩ := enumD_get ds 0 i d e
    obtain ⟨v, e3, rv⟩ := r.get e1
    rw [q] at e3
    cases e3
    have sm := same_new (o := .tup [.int (i : Nat), y]) hT
    refine ⟨sm, .inr ⟨rfl, T, _, _, rfl, rfl, .inl (.inl upd_same), .cons ?_ (.cons (Rep.keep (fun a q => .inl q) (fun a o _ e => sm a o e) _ _ (rv.later l)) .nil)⟩⟩
    have e0 : (0 : Int) + (i : Nat) = (i : Nat) := by omega
    rw [e0]
    exact .int _
def lEnum (f : Ex) : Fr → Hz → T (List D) := fun fr hp => (f fr hp).bind fun x => (asTup x).bind fun xs => .ret (enumD 0 xs)
theorem zienum {e : Expr} {f : Ex} {p pos tpos : Pos} {elts : List Expr} {kk : Nat} (hg : Gl X "enumerate") (hm : X.mg "enumerate" = none) (he : PE X e (tX X.K F f)) (na : starEach [e] X.env = (false, eval e X.env) :: starEach [] X.env := by rfl) (hs : starEach [e] X.env = [(false, eval e X.env)] := by rfl) :
    PI X (.Tuple elts kk tpos) (.Call (.Name "enumerate" p) [e] [] pos) (tI X.K F true (lEnum f)) :=
  PIimp (pi_enumT hg hm (pa_cons he pa_nil na) hs) fun σ H R h => by
    obtain ⟨ρ, m0, m1, fr, hp, a, h⟩ := h
    refine tX_mk a (T.all_bind h) fun x hx H1 v k1 a1 rx => ?_
    obtain ⟨xs, rfl, k⟩ := all_asTup (T.all_bind hx)
    cases rx with
    | tup hn e rr =>
      obtain ⟨o, e, ed⟩ := e
      exact ⟨_, _, rfl, .inl (.inr ⟨o, e⟩), k _ H1 k1 a1.row (walkE (fun m' H2 l => .inl (.inr ⟨o, l.keep _ _ hn e⟩)) rr)⟩
    | tupK e rr => exact ⟨_, _, rfl, e.sq, k _ H1 k1 a1.row (walkE (fun m' H2 l => e.sq) rr)⟩

/-! ### comprehensions of two clauses -/
theorem At.mod {K : PySem.W.Frag} {ρ : Option Addr} {m0 m1 : List Addr} {H H' : Hp} {σ : L2.St} {fr : Fr} {hp : Hz} (a : At K F ρ m0 m1 H σ fr hp) (k : ∀ a o, a ∉ m0 → H a = some o → H' a = some o) (dom : ∀ a ∈ m0, H' a ≠ none) (row : RowA K ρ H') : At K F ρ m0 m1 H' σ fr hp := by
  have rk : ∀ {v : V} {d : D}, Rep K F (m0 ++ m1) H v d → Rep K F (m0 ++ m1) H' v d := fun {v d} r => Rep.keep (fun a q => .inl q) (fun b o n e => k b o (fun z => n (List.mem_append_left _ z)) e) d v r
  have rks : ∀ {v : List V} {d : List D}, Reps K F (m0 ++ m1) H v d → Reps K F (m0 ++ m1) H' v d := fun {v d} r => Reps.keep (fun a q => .inl q) (fun b o n e => k b o (fun z => n (List.mem_append_left _ z)) e) d v r
  refine ⟨⟨a.fr.len, fun i s e => ?_⟩, ⟨a.sim.len, a.sim.nd, a.sim.dis, fun b q z => ?_, fun n c e => ?_⟩, row, a.own⟩
  · obtain ⟨v, e1, r⟩ := a.fr.slot i s e
    refine ⟨v, e1, ?_⟩
    cases s with
    | v d => exact rk r
    | r n => exact r
    | row => exact r
  · rcases List.mem_append.mp q with y | y
    · exact dom b y z
    · cases e : H b with
      | none => exact a.sim.dom b q e
      | some o => rw [k b o (fun w => a.sim.dis b w y) e] at z; cases z
  · obtain ⟨b, e1, vs, e2, r⟩ := a.sim.cell n c e
    exact ⟨b, e1, vs, k b _ (fun w => a.sim.dis b w (List.mem_of_getElem? e1)) e2, rks r⟩
def lc2F (set : D → Fr → T Fr) (t : Fr → Hz → T Bool) (it1 : Fr → Hz → T (List D)) (set1 : D → Fr → T Fr) (t1 : Fr → Hz → T Bool) (e : Ex) (vs1 : List Nat) : List D → Fr → Hz → T (List D)
  | [], _, _ => .ret []
  | d :: ds, fr, hp => (set d fr).bind fun fr1 => (t fr1 hp).bind fun b => bif b then (it1 fr1 hp).bind fun ds1 => guardT (few ds1 9999) ((lcF set1 t1 e ds1 (wipeF fr1 vs1) hp).bind fun ys => (lc2F set t it1 set1 t1 e vs1 ds fr hp).bind fun zs => .ret (ys ++ zs))
    else lc2F set t it1 set1 t1 e vs1 ds fr hp
def nLc2 (it : Fr → Hz → T (List D)) (set : D → Fr → T Fr) (t : Fr → Hz → T Bool) (it1 : Fr → Hz → T (List D)) (set1 : D → Fr → T Fr) (t1 : Fr → Hz → T Bool) (e : Ex) (vs vs1 : List Nat) : Fr → Hz → T (List D) := fun fr hp => (it fr hp).bind fun ds => guardT (few ds 1000) (lc2F set t it1 set1 t1 e vs1 ds (wipeF fr vs) hp)
theorem T.all_bind2 {α β γ : Type} {t : T α} {f : α → T β} {g : β → T γ} {P : γ → Prop} (h : (t.bind fun a => (f a).bind g).all P) : ((t.bind f).bind g).all P := T.bind_all (T.bind_all (T.all_mono (fun _ q => T.all_bind q) (T.all_bind h)))
theorem lc2_core' {L L1 : Bool} {it it1 : Fr → Hz → T (List D)} {set set1 : D → Fr → T Fr} {t t1 : Fr → Hz → T Bool} {e : Ex} {vs vs1 : List Nat} {g g1 : TG} {σ : L2.St} {H : Hp} {Q : VK} (hs : TgC X.K F L vs set g) (hs1 : TgC X.K F L1 vs1 set1 g1) (h : tN X.K F (nLc2 it set t it1 set1 t1 e vs vs1) σ H Q) :
    tLc2 (tI X.K F L it) g (tB' X.K F t) (tI X.K F L1 it1) g1 (tB' X.K F t1) (tX X.K F e) vs vs1 σ H Q := by
  obtain ⟨ρ, m0, m1, fr, hp, a, h⟩ := h
  refine tI_mk a (T.all_bind h) fun ds hd J H1 kp a1 w B hB => ?_
  obtain ⟨hf, hd⟩ := all_guard hd
  obtain ⟨G, Y, W, hG, hY⟩ := w
  have ne := LcI.ne a1 hB
  have hf := few_le hf
  have hsl : sizeLine = 2 ^ 24 := by first | exact sizeLine_eq | rfl
  let P : List D → Prop := fun ys => ∀ H' a vs, Keep ρ H H' → RowA X.K ρ H' → H a = none → H' a = some (.lst vs) → Reps X.K F (m0 ++ (m1 ++ [a])) H' vs ys → Q (.ref a) H'
  let Pv : Nat → Hp → Prop := fun i H' => ∃ acc, LcI X.K F ρ m0 m1 H1 B H' acc ∧ acc.length ≤ i * 10000 ∧ (lc2F set t it1 set1 t1 e vs1 (ds.drop i) (wipeF fr vs) hp).all fun ys => P (acc ++ ys)
  refine ⟨fun i m H => m = ds.length - i ∧ i ≤ ds.length ∧ Pv i H, ⟨_, rfl, Nat.zero_le _, [], .start a1 hB, Nat.zero_le _, hd⟩, ?_⟩
  rintro i m H' ⟨rfl, hi, acc, I, hl, q⟩
  have gg := hG _ _ (I.later a1.own hB)
  by_cases hlt : i < ds.length
  · refine .inr ⟨W.goes i H' hlt gg, Pv (i + 1), fun H2 p => ⟨ds.length - (i + 1), by omega, rfl, hlt, p⟩, fun x H2 y => ?_⟩
    have y := W.yields i H' x H2 hlt gg y
    obtain ⟨d, e1, e2⟩ := drop_get hlt
    have aw : At X.K F ρ (B :: m0) m1 H' (wipe σ vs) (wipeF fr vs) hp := (I.at a1 hB).wipe vs
    obtain ⟨sm, rx⟩ := hY i d x _ H' H2 e1 (I.later a1.own hB) aw.sim.dom y
    rw [e2] at q
    have aw3 := aw.same sm
    have I3 := I.on a1.own ne (.of sm) aw3.row
    refine hs ρ (B :: m0) m1 H2 _ _ x d _ aw3.fr rx (T.all_mono (fun fr1 q1 σ1 f1 ew => ⟨ew.trans wipe_wipe, ?_⟩) (T.all_bind q))
    have at1 : At X.K F ρ (B :: m0) m1 H2 σ1 fr1 hp := ⟨f1, aw3.sim, aw3.row, aw3.own⟩
    refine tB_mk at1 (T.all_bind q1) fun b hb H3 k3 a3 => ?_
    have I3' := I3.on a1.own ne k3 a3.row
    cases b with
    | false => exact ⟨acc, I3', by omega, hb⟩
    | true =>
      refine tI_mk a3 (T.all_bind hb) fun ds1 hb J1 H4 k4 a4 w1 => ?_
      obtain ⟨hf1, hb⟩ := all_guard hb
      have hf1 := few_le hf1
      obtain ⟨G1, Y1, W1, hG1, hY1⟩ := w1
      have I4 := I3'.on a1.own ne k4 a4.row
      let Rst : List D → T (List D) := fun ys => (lc2F set t it1 set1 t1 e vs1 (ds.drop (i + 1)) (wipeF fr vs) hp).bind fun zs => .ret (ys ++ zs)
      let Pv1 : Nat → Hp → Prop := fun j H' => ∃ acc, LcI X.K F ρ m0 m1 H1 B H' acc ∧ (∀ a o, a ∉ B :: m0 → H4 a = some o → H' a = some o) ∧ acc.length ≤ i * 10000 + j ∧ (lcF set1 t1 e (ds1.drop j) (wipeF fr1 vs1) hp).all fun ys => (lc2F set t it1 set1 t1 e vs1 (ds.drop (i + 1)) (wipeF fr vs) hp).all fun zs => P (acc ++ (ys ++ zs))
      refine ⟨fun j k H => k = ds1.length - j ∧ j ≤ ds1.length ∧ Pv1 j H, ⟨_, rfl, Nat.zero_le _, acc, I4, fun _ _ _ e => e, hl, T.all_mono (fun ys q => T.all_bind q) (T.all_bind hb)⟩, ?_⟩
      rintro j k H5 ⟨rfl, hj, acc5, I5, kp5, hl5, q5⟩
      have dom5 : ∀ a ∈ B :: m0, H5 a ≠ none := fun a z => (I5.at a1 hB).sim.dom a (List.mem_append_left _ z)
      have a5 : At X.K F ρ (B :: m0) m1 H5 σ1 fr1 hp := a4.mod kp5 dom5 I5.row
      have lt5 : Later ((B :: m0) ++ m1) H4 ((B :: m0) ++ m1) H5 := ⟨fun a q => .inl q, fun a o n e => kp5 a o (fun z => n (List.mem_append_left _ z)) e⟩
      have gg1 := hG1 _ _ lt5
      by_cases hlt1 : j < ds1.length
      · refine .inr ⟨W1.goes j H5 hlt1 gg1, Pv1 (j + 1), fun H6 p => ⟨ds1.length - (j + 1), by omega, rfl, hlt1, p⟩, fun x1 H6 y1 => ?_⟩
        have y1 := W1.yields j H5 x1 H6 hlt1 gg1 y1
        obtain ⟨d1, e3, e4⟩ := drop_get hlt1
        have aw5 := a5.wipe vs1
        obtain ⟨sm1, rx1⟩ := hY1 j d1 x1 _ H5 H6 e3 lt5 a5.sim.dom y1
        rw [e4] at q5
        have aw6 := aw5.same sm1
        have I6 := I5.on a1.own ne (.of sm1) aw6.row
        have own6 : ∀ a, a ∉ B :: m0 → ρ ≠ some a := fun a n z => n (aw6.own a z)
        refine hs1 ρ (B :: m0) m1 H6 _ _ x1 d1 _ aw6.fr rx1 (T.all_mono (fun fr2 q6 σ2 f2 ew1 => ⟨ew1.trans wipe_wipe, ?_⟩) (T.all_bind q5))
        have at6 : At X.K F ρ (B :: m0) m1 H6 σ2 fr2 hp := ⟨f2, aw6.sim, aw6.row, aw6.own⟩
        refine tB_mk at6 (T.all_bind q6) fun b hb7 H7 k7 a7 => ?_
        have I7 := I6.on a1.own ne k7 a7.row
        have kp7 : ∀ a o, a ∉ B :: m0 → H4 a = some o → H7 a = some o := fun a o n e => k7 a o (own6 a n) (sm1 a o (kp5 a o n e))
        cases b with
        | false => exact ⟨acc5, I7, kp7, Nat.le_succ_of_le hl5, hb7⟩
        | true =>
          refine tX_mk a7 (T.all_bind hb7) fun yd hy H8 v k8 a8 rv => ?_
          have I8 := I7.on a1.own ne k8 a8.row
          obtain ⟨ws, ew, rw'⟩ := I8.lst
          refine ⟨ws, ew, ?_, acc5 ++ [yd], I8.push a1 hB rv ew, fun a o n e => ?_, by simp; omega, ?_⟩
          · have := rw'.length
            have : i * 10000 ≤ 1000 * 10000 := Nat.mul_le_mul_right _ (by omega)
            rw [hsl]
            omega
          · have hab : a ≠ B := fun z => n (by rw [z]; exact List.mem_cons_self)
            rw [upd_ne hab]
            exact k8 a o (own6 a n) (kp7 a o n e)
          · refine T.all_mono (fun ys q => ?_) (T.all_bind hy)
            have q : (lc2F set t it1 set1 t1 e vs1 (ds.drop (i + 1)) (wipeF fr vs) hp).all fun zs => P (acc5 ++ ((yd :: ys) ++ zs)) := q
            refine T.all_mono (fun zs q => ?_) q
            have e5 : acc5 ++ [yd] ++ (ys ++ zs) = acc5 ++ ((yd :: ys) ++ zs) := by simp
            rw [e5]
            exact q
      · have ej : j = ds1.length := by omega
        subst ej
        rw [List.drop_length] at q5
        refine .inl ⟨W1.stops H5 gg1, acc5, I5, by omega, ?_⟩
        have q5 : (lc2F set t it1 set1 t1 e vs1 (ds.drop (i + 1)) (wipeF fr vs) hp).all fun zs => P (acc5 ++ ([] ++ zs)) := q5
        exact T.all_mono (fun zs q => by rw [List.nil_append] at q; exact q) q5
  · have ei : i = ds.length := by omega
    subst ei
    rw [List.drop_length] at q
    obtain ⟨ws, ew, rw'⟩ := I.lst
    have q : P (acc ++ []) := q
    refine .inl ⟨W.stops H' gg, q H' B ws (kp.trans I.keep) I.row (a.free kp a1.row hB) ew ?_⟩
    rw [List.append_nil]
    refine rw'.sub fun c z => ?_
    rcases List.mem_append.mp z with z | z
    · exact List.mem_append_left _ (List.mem_cons_of_mem _ z)
    · rcases List.mem_append.mp z with z | z
      · exact List.mem_append_right _ z
      · have : c = B := by simpa using z
        rw [this]
        simp
/-- [elt for tg in iter if .. for tg1 in iter1 if ..] -/
theorem zlc2 {L L1 : Bool} {elt tg iter tg1 iter1 : Expr} {ifs ifs1 : List Expr} {scope : Scope} {own : List (Str × Nat)} {vs vs1 : List Nat} {pos : Pos} {it it1 : Fr → Hz → T (List D)} {set set1 : D → Fr → T Fr} {g g1 : TG} {t t1 : Fr → Hz → T Bool} {e : Ex} (hc : X.calm = true) (hN : X.N.Nodup) (hi : PI X tg iter (tI X.K F L it)) (ok : BlkOk X.N X.env.scope scope own) (hv : ∀ i ∈ vs1, i ∈ vs)
    (hs : TgC X.K F L vs set g) (hs1 : TgC X.K F L1 vs1 set1 g1)
    (hg : ∀ (s : Shared) (H : Hp) (C : Addr) (cl : List (Str × Addr)) (fp : List Addr), PG (X.blk s H scope (PySem.compEnvC scope cl C X.env) fp) tg g) (ht : ∀ (s : Shared) (H : Hp) (C : Addr) (cl : List (Str × Addr)) (fp : List Addr), PTs (X.blk s H scope (PySem.compEnvC scope cl C X.env) fp) ifs (tB' X.K F t))
    (hi1 : ∀ (s : Shared) (H : Hp) (C : Addr) (cl : List (Str × Addr)) (fp : List Addr), PI (X.blk s H scope (PySem.compEnvC scope cl C X.env) fp) tg1 iter1 (tI X.K F L1 it1))
    (hg1 : ∀ (s : Shared) (H : Hp) (C : Addr) (cl : List (Str × Addr)) (fp : List Addr), PG (X.blk s H scope (PySem.compEnvC scope cl C X.env) fp) tg1 g1) (ht1 : ∀ (s : Shared) (H : Hp) (C : Addr) (cl : List (Str × Addr)) (fp : List Addr), PTs (X.blk s H scope (PySem.compEnvC scope cl C X.env) fp) ifs1 (tB' X.K F t1))
    (he : ∀ (s : Shared) (H : Hp) (C : Addr) (cl : List (Str × Addr)) (fp : List Addr), PE (X.blk s H scope (PySem.compEnvC scope cl C X.env) fp) elt (tX X.K F e)) (hvs : own.map (·.2) = vs := by rfl) (hf : ∀ x, foldedSetIterable iter X.env x = pure x := by intro _; rfl) (hf1 : ∀ env x, foldedSetIterable iter1 env x = pure x := by intro _ _; rfl) :
    PE X (.ListComp elt [⟨tg, iter, ifs, 0⟩, ⟨tg1, iter1, ifs1, 0⟩] scope pos) (tN X.K F (nLc2 it set t it1 set1 t1 e vs vs1)) := by
  subst hvs
  exact PEimp (pe_lc2 hc hN hi ok hv hg ht hi1 hg1 ht1 he hf hf1) fun σ H Q h => lc2_core' hs hs1 h
end
end Zl

set_option Elab.async false
set_option linter.all false
set_option maxRecDepth 100000
set_option maxHeartbeats 2000000
/-! ZH: name = [..], the draws' row handed on, drawing. -/
namespace Zl
open PySem L2 PySem.Spec PyProof.Rows

def lst (f : Fr → Hz → T (List D)) : Ex := fun fr hp => (f fr hp).bind fun xs => .ret (.lst xs)
section
variable {X : Cx} {F : Nat → Option Addr}
theorem nl_core {f : Fr → Hz → T (List D)} {σ : L2.St} {H : Hp} {Q : VK} (h : tX X.K F (lst f) σ H Q) : tN X.K F f σ H Q := by
  obtain ⟨ρ, m0, m1, fr, hp, a, h⟩ := h
  refine tN_mk a (T.all_bind h) fun ds hd H' b vs kp a' hb hl r => ?_
  exact hd H' (.ref b) kp a'.row (.lst (a.sim.new hb) hl (r.sub fun _ => sub_more))
theorem setN_core {f : Fr → Hz → T (List D)} {i : Nat} {E : Ends} {te : TE} {σ : L2.St} {H : Hp} (hi : ∀ σ H Q, tN X.K F f σ H Q → te σ H Q) (h : tS X.K F (sSet i (lst f)) E σ H) : tAsg te (gName i) E σ H := by
  have q := set_core h
  exact hi _ _ _ (nl_core q)
theorem zsetLc {i : Nat} {y : Str} {py : Pos} {L : Bool} {elt tg iter : Expr} {ifs : List Expr} {scope : Scope} {own : List (Str × Nat)} {vs : List Nat} {pos spos : Pos} {it : Fr → Hz → T (List D)} {set : D → Fr → T Fr} {g : TG} {t : Fr → Hz → T Bool} {e : Ex} (hc : X.calm = true) (hN : X.N.Nodup) (hy : X.N[i]? = some y) (hyl : X.env.scope.names.lookup y = some .local)
    (hi : PI X tg iter (tI X.K F L it)) (ok : BlkOk X.N X.env.scope scope own)
    (hs : TgC X.K F L vs set g)
    (hg : ∀ (s : Shared) (H : Hp) (C : Addr) (cl : List (Str × Addr)) (fp : List Addr), PG (X.blk s H scope (PySem.compEnvC scope cl C X.env) fp) tg g) (ht : ∀ (s : Shared) (H : Hp) (C : Addr) (cl : List (Str × Addr)) (fp : List Addr), PTs (X.blk s H scope (PySem.compEnvC scope cl C X.env) fp) ifs (tB' X.K F t))
    (he : ∀ (s : Shared) (H : Hp) (C : Addr) (cl : List (Str × Addr)) (fp : List Addr), PE (X.blk s H scope (PySem.compEnvC scope cl C X.env) fp) elt (tX X.K F e))
    (hsw : swapsWith (.ListComp elt [⟨tg, iter, ifs, 0⟩] scope pos) (some (.Name y py)) spos.line X.env = pure true) (hvs : own.map (·.2) = vs := by rfl) (hf : ∀ x, foldedSetIterable iter X.env x = pure x := by intro _; rfl) :
    PS X (.Assign [.Name y py] (.ListComp elt [⟨tg, iter, ifs, 0⟩] scope pos) spos) (tS X.K F (sSet i (lst (nLc it set t e vs)))) := by
  subst hvs
  exact PSimp (ps_setLc hc hN hy hyl hsw hi ok hg ht he hf) fun D σ H h => setN_core (fun σ H Q h => lc_core' hs h) h
theorem zsetLc2 {i : Nat} {y : Str} {py : Pos} {L L1 : Bool} {elt tg iter tg1 iter1 : Expr} {ifs ifs1 : List Expr} {scope : Scope} {own : List (Str × Nat)} {vs vs1 : List Nat} {pos spos : Pos} {it it1 : Fr → Hz → T (List D)} {set set1 : D → Fr → T Fr} {g g1 : TG} {t t1 : Fr → Hz → T Bool} {e : Ex} (hc : X.calm = true) (hN : X.N.Nodup) (hy : X.N[i]? = some y) (hyl : X.env.scope.names.lookup y = some .local)
    (hi : PI X tg iter (tI X.K F L it)) (ok : BlkOk X.N X.env.scope scope own) (hv : ∀ i ∈ vs1, i ∈ vs)
    (hs : TgC X.K F L vs set g) (hs1 : TgC X.K F L1 vs1 set1 g1)
    (hg : ∀ (s : Shared) (H : Hp) (C : Addr) (cl : List (Str × Addr)) (fp : List Addr), PG (X.blk s H scope (PySem.compEnvC scope cl C X.env) fp) tg g) (ht : ∀ (s : Shared) (H : Hp) (C : Addr) (cl : List (Str × Addr)) (fp : List Addr), PTs (X.blk s H scope (PySem.compEnvC scope cl C X.env) fp) ifs (tB' X.K F t))
    (hi1 : ∀ (s : Shared) (H : Hp) (C : Addr) (cl : List (Str × Addr)) (fp : List Addr), PI (X.blk s H scope (PySem.compEnvC scope cl C X.env) fp) tg1 iter1 (tI X.K F L1 it1))
    (hg1 : ∀ (s : Shared) (H : Hp) (C : Addr) (cl : List (Str × Addr)) (fp : List Addr), PG (X.blk s H scope (PySem.compEnvC scope cl C X.env) fp) tg1 g1) (ht1 : ∀ (s : Shared) (H : Hp) (C : Addr) (cl : List (Str × Addr)) (fp : List Addr), PTs (X.blk s H scope (PySem.compEnvC scope cl C X.env) fp) ifs1 (tB' X.K F t1))
    (he : ∀ (s : Shared) (H : Hp) (C : Addr) (cl : List (Str × Addr)) (fp : List Addr), PE (X.blk s H scope (PySem.compEnvC scope cl C X.env) fp) elt (tX X.K F e))
    (hsw : swapsWith (.ListComp elt [⟨tg, iter, ifs, 0⟩, ⟨tg1, iter1, ifs1, 0⟩] scope pos) (some (.Name y py)) spos.line X.env = pure true) (hvs : own.map (·.2) = vs := by rfl) (hf : ∀ x, foldedSetIterable iter X.env x = pure x := by intro _; rfl) (hf1 : ∀ env x, foldedSetIterable iter1 env x = pure x := by intro _ _; rfl) :
    PS X (.Assign [.Name y py] (.ListComp elt [⟨tg, iter, ifs, 0⟩, ⟨tg1, iter1, ifs1, 0⟩] scope pos) spos) (tS X.K F (sSet i (lst (nLc2 it set t it1 set1 t1 e vs vs1)))) := by
  subst hvs
  exact PSimp (ps_setLc2 hc hN hy hyl hsw hi ok hv hg ht hi1 hg1 ht1 he hf hf1) fun D σ H h => setN_core (fun σ H Q h => lc2_core' hs hs1 h) h

/-! ### the draws' row handed on -/
def spR (K : PySem.W.Frag) (F : Nat → Option Addr) (f : List D → T D) (n : Nat) : Sp := fun vs H Q _ => ∃ a ws m ds, vs = .ref a :: ws ∧ ws.length = n ∧ a ∈ m ∧ (∀ b ∈ m, H b ≠ none) ∧ RowOk K H a ∧ Reps K F m H ws ds ∧ (f ds).all fun d => ∀ H' v, Keep (some a) H H' → RowOk K H' a → Rep K F m H' v d → Q v H'
def isRow (fr : Fr) (i : Nat) : Bool := match gt fr i with
  | some .row => true
  | _ => false
theorem isRow_eq {fr : Fr} {i : Nat} (h : isRow fr i = true) : gt fr i = some .row := by
  unfold isRow at h
  split at h
  · assumption
  · cases h
def eCallR (i : Nat) (f : List D → T D) (n : Nat) (g : Fr → Hz → T (List D)) : Ex := fun fr hp => guardT (isRow fr i) ((g fr hp).bind fun ds => guardT (Nat.beq ds.length n) (f ds))
theorem zcallR {es : List Expr} {x y : Str} {p p2 pos : Pos} {f : List D → T D} {n k i : Nat} {fa : Addr} {fd : FuncData} {ps : List Str} {g : Fr → Hz → T (List D)} (G : FnOk X.prog X.w X.K X.mg X.base CX0 k fa fd ps (spR X.K F f n)) (hr : Room k X.A) (hg : Gl X x) (hm : X.mg x = some (.ref fa))
    (hk : PySem.W.keepIn X.K (.ref fa) = true) (hb : Binds X.K fd ps []) (hN : X.N[i]? = some y) (hv : Vis X.env.scope y) (ha : PA X es (tAs X.K F g)) (hdb : (x == ("__debug__" : Str)) = false := by decide)
    (hdy : (y == ("__debug__" : Str)) = false := by decide) (hcd : (y == ("__classdict__" : Str)) = false := by decide) (he : starEach (.Name y p2 :: es) X.env = (false, eval (.Name y p2) X.env) :: starEach es X.env := by rfl) (hpl : (backTo pos (starEach es X.env)).any (·.1) = false := by rfl) :
    PE X (.Call (.Name x p) (.Name y p2 :: es) [] pos) (tX X.K F (eCallR i f n g)) :=
  PEimp (pe_call (E := E0) G hr hg hm hk hb .nil pass0 (pa_cons (pe_var hN hv hdy hcd) ha he) hdb he hpl) fun σ H Q h => by
    obtain ⟨ρ, m0, m1, fr, hp, a, h⟩ := h
    obtain ⟨h1, h⟩ := all_guard h
    obtain ⟨v, e1, b, e2, rfl⟩ := a.get (isRow_eq h1)
    refine ⟨_, e1, ?_⟩
    refine tAs_mk a (T.all_bind h) fun ds hd H1 vs k1 a1 r => ?_
    obtain ⟨hn, k⟩ := all_guard hd
    rw [List.append_nil]
    refine ⟨b, vs, m0 ++ m1, ds, rfl, by rw [r.length]; exact Nat.eq_of_beq_eq_true hn, List.mem_append_left _ (a.own b e2), a1.sim.dom, a1.row b e2, r, T.all_mono (fun d hd H' v kp w rv => ?_) k⟩
    have kr : Keep ρ H1 H' := fun c o n e => kp c o (fun z => n (by rw [e2]; exact z)) e
    exact hd H' v (k1.trans kr) (fun c z => by rw [e2] at z; cases z; exact w) rv
/-- a def's body, run from the row and its arguments -/
def runR (g : Sm) (n : Nat) : List D → T D := fun ds => (g (some .row :: argFr (n - 1) ds) []).bind retOf
theorem run_coreR {K : PySem.W.Frag} {g : Sm} {N : List Str} {vs : List V} {H : Hp} {Q : VK} {E : XK} {n : Nat} (hN : 0 < N.length) (h : spR K F (runR g N.length) n vs H Q E) : tS K F g { nx := fun _ H' => Q .non H', rt := Q } (L2.start N vs) H := by
  obtain ⟨a, ws, m, ds, rfl, hn, ha, dom, row, r, h⟩ := h
  have fr0 := startFr (N := N.tail) r
  obtain ⟨n0, N', rfl⟩ : ∃ n0 N', N = n0 :: N' := by
    cases N with
    | nil => cases hN
    | cons x y => exact ⟨x, y, rfl⟩
  have es : L2.start (n0 :: N') (.ref a :: ws) = some (.ref a) :: L2.start N' ws := by simp [L2.start]
  have hA : At K F (some a) m [] H (L2.start (n0 :: N') (.ref a :: ws)) (some .row :: argFr N'.length ds) [] := by
    refine ⟨⟨?_, fun i s e => ?_⟩, ⟨rfl, .nil, fun a _ q => by simp at q, fun a q => dom a (by simpa using q), fun n c e => by simp at e⟩, fun b e => by cases e; exact row, fun b e => by cases e; exact ha⟩
    · rw [es]
      have := fr0.len
      simpa using this
    · rw [es]
      cases i with
      | zero =>
        have e : SV.row = s := by simpa using e
        subst e
        exact ⟨.ref a, rfl, a, rfl, rfl⟩
      | succ i =>
        have e : (argFr N'.length ds)[i]? = some (some s) := by simpa using e
        obtain ⟨v, e1, r1⟩ := fr0.slot i s e
        refine ⟨v, by simpa using e1, ?_⟩
        cases s with
        | v d => exact r1
        | r n => exact r1
        | row =>
          obtain ⟨b, e3, _⟩ := r1
          cases e3
  refine ⟨some a, m, [], some .row :: argFr N'.length ds, [], hA, ?_⟩
  have h : ((g (some .row :: argFr N'.length ds) []).bind retOf).all _ := h
  refine T.all_mono (fun o q => ?_) (T.all_bind h)
  cases o with
  | nx fr hp => exact fun m1' H' σ' gr at' => q H' .non (fun b o n e => gr.keep b o n (by simp) e) (at'.row a rfl) .non
  | rt d => exact fun H' v k w r => q H' v (fun b o n e => k b o n (by simp) e) (w a rfl) r
  | bk fr hp => exact q.elim
  | ct fr hp => exact q.elim
theorem zdefR {P : Program} {w : World} {K : PySem.W.Frag} {mg : Str → Option Value} {base : Heap} {x qual : Str} {st : Stmt} {f : Addr} {fd : FuncData} {N ps : List Str} {k : Nat} {g : Sm} (Fn : L2.Fun K x qual st f fd) (S : FnScope N ps (defScope st)) (hN : 0 < N.length) (hp : 0 < ps.length)
    (hb : ∀ (cdv : Value) (A : Around) (outer : List Env) (s : Shared) (H : Hp) (E : XK), Room k (A.deeper (PyProof.Rows.envOfC qual (defScope st) s.heap.objs.size f cdv)) → PSs (cxOf CX0 P w K mg base N qual (defScope st) f cdv A outer s H E).nox (defBody st) (tS K F g)) :
    FnOk P w K mg base CX0 (k + 1) f fd ps (spR K F (runR g N.length) (ps.length - 1)) :=
  Fn.ok S (fun vs H Q E h => by
    obtain ⟨a, ws, m, ds, rfl, hn, _⟩ := h
    rw [List.length_cons, hn]
    omega) fun cdv A outer s H vs Q E hr h => ⟨_, hb cdv A outer s H E hr, run_coreR hN h⟩

end
end Zl

set_option Elab.async false
set_option linter.all false
set_option maxRecDepth 100000
set_option maxHeartbeats 2000000
/-! ZI: walks of what is a list or a tuple; + of lists as values; drawing; a law's frame. -/
namespace Zl
open PySem L2 PySem.Spec PyProof.Rows

section
variable {X : Cx} {F : Nat → Option Addr}
def iSeq (K : PySem.W.Frag) (te : TE) : TI := fun σ H R => te σ H fun x H1 => ∃ a, x = .ref a ∧ ((∃ xs, SqT K H1 a xs ∧ R (Itt K a) H1) ∨ (∃ xs, SqL K H1 a xs ∧ R (Itl K a) H1))
theorem pi_seq {tg e : Expr} {te : TE} (he : PE X e te) : PI X tg e (iSeq X.K te) := by
  constructor
  intro pins s σ H R I h
  refine thn (he.run pins s σ H _ I h) fun v s1 hh => ?_
  obtain ⟨x, H1, I1, r1, a, rfl, q⟩ := hh
  cases r1
  have fp : ∀ b ∈ [s1.heap.objs.size], FpOk X pins H1 b := fun b hb => by
    cases List.mem_singleton.mp hb
    exact I1.fpOk (Nat.le_refl _) (I1.hok.fresh (Nat.le_refl _))
  rcases q with ⟨xs, hq, q⟩ | ⟨xs, hq, q⟩
  · obtain ⟨its, rv, p, hz⟩ := I1.tuple hq
    exact wpAny_pyIter_tuple (show s1.heap.IsTuple a its.toArray from p) ⟨_, [_], _, _, H1, rfl, I1.kept (t' := s1.toks) fun b o e => Heap.get?_push_of_some _ e, turn_tuple a _, ⟨_, Heap.get?_push_size _ rfl, rfl, rfl⟩, fp, q⟩
  · obtain ⟨its, rv, p, hz⟩ := I1.list hq
    exact wpAny_pyIter_list p.isList ⟨_, [_], _, _, H1, rfl, I1.kept (t' := s1.toks) fun b o e => Heap.get?_push_of_some _ e, turn_list a _, ⟨_, Heap.get?_push_size _ rfl, rfl, rfl⟩, fp, q⟩
def lSeq (f : Ex) : Fr → Hz → T (List D) := fun fr hp => (f fr hp).bind asL
/-- over a tuple or a list -/
theorem zis {tg e : Expr} {f : Ex} (h : PE X e (tX X.K F f)) : PI X tg e (tI X.K F false (lSeq f)) := PIimp (pi_seq h) fun σ H R h => by
  obtain ⟨ρ, m0, m1, fr, hp, a, h⟩ := h
  refine tX_mk a (T.all_bind h) fun d hd H' v kp a' r => ?_
  obtain ⟨xs, e, k⟩ := all_asL hd
  cases d <;> first | (cases e; done) | skip
  · obtain rfl := Option.some.inj e
    cases r with
    | tup hn e rr =>
      obtain ⟨o, e, ed⟩ := e
      exact ⟨_, rfl, .inl ⟨_, .inl (.inr ⟨o, e⟩), k _ H' kp a'.row (walkT (fun m' H2 l => .inl (.inr ⟨o, l.keep _ _ hn e⟩)) rr)⟩⟩
    | tupK e rr => exact ⟨_, rfl, .inl ⟨_, e.sq, k _ H' kp a'.row (walkT (fun m' H2 l => e.sq) rr)⟩⟩
  · obtain rfl := Option.some.inj e
    obtain ⟨b, vs, rfl, hn, e, rr⟩ := r.lstR
    exact ⟨_, rfl, .inr ⟨_, .inl (.inl e), k _ H' kp a'.row (walkL (fun m' H2 l => .inl (.inl (l.keep _ _ hn e))) rr)⟩⟩
/-- ints, tuples, lists -/
def dPlus (x y : D) : T D := match x, y with
  | .int i, .int j => .ret (.int (i + j))
  | .tup xs, .tup ys => guardT (few xs 10000 && few ys 10000) (.ret (.tup (xs ++ ys)))
  | .lst xs, .lst ys => guardT (few xs 10000 && few ys 10000) (.ret (.lst (xs ++ ys)))
  | _, _ => .fail
theorem oplus : OpZ X F (binaryOp .Add) dPlus := by
  obtain ⟨r, h1, h2⟩ := oadd (X := X) (F := F)
  refine ⟨_, OpR.or h1 op_cat, fun σ fr ρ m0 m1 H hp v u x y Q a rx ry h => ?_⟩
  by_cases hl : ∃ xs ys, x = .lst xs ∧ y = .lst ys
  · obtain ⟨xs, ys, rfl, rfl⟩ := hl
    obtain ⟨ok, k⟩ := all_guard (show (guardT (few xs 10000 && few ys 10000) (T.ret (D.lst (xs ++ ys)))).all _ from h)
    rw [Bool.and_eq_true] at ok
    obtain ⟨b, vs, rfl, _, e1, r1⟩ := rx.lstR
    obtain ⟨c, ws, rfl, _, e2, r2⟩ := ry.lstR
    refine .inr ⟨b, c, vs, ws, rfl, rfl, e1, e2, by rw [r1.length, r2.length]; exact small2 ok.1 ok.2, fun p hp => ?_⟩
    obtain ⟨k3, a3⟩ := a.upd (o := .lst (vs ++ ws)) hp
    exact k _ _ k3 a3.row (.lst (a.sim.new hp) upd_same (Reps.append (r1.on a.own k3) (r2.on a.own k3)))
  · refine .inl (h2 σ fr ρ m0 m1 H hp v u x y Q a rx ry ?_)
    unfold dPlus at h
    split at h
    · exact h
    · exact h
    · exact (hl ⟨_, _, rfl, rfl⟩).elim
    · exact h.elim
end

/-! ### drawing -/
def taken : List D → T D
  | [.int n] => guardT (decide (1 ≤ n) && decide (n ≤ 1000000)) (.draw n.toNat fun i => .ret (.int i))
  | _ => .fail
section
variable {X : Cx}
theorem ix0 {xs : List V} {k : Nat} {v : V} (h : xs[k]? = some v) : atI xs (k : Int) = some v := atI_nat h
theorem ixN_nat {n k : Nat} (h : k < n) : ixN n (k : Int) = some k := by
  unfold ixN
  have h1 : (0 : Int) ≤ (k : Int) := by omega
  rw [if_pos h1]
  have h2 : ((k : Int)) < (n : Int) := by omega
  first | (rw [if_pos h2]; rfl) | (simp [h2]; done) | (simp; omega)
end
end Zl

set_option Elab.async false
set_option linter.all false
set_option maxRecDepth 100000
set_option maxHeartbeats 2000000
/-! ZJ: what the generated texts lean on. -/
namespace Zl
open PySem L2 PySem.Spec PyProof.Rows

structure Gd (K : PySem.W.Frag) (mg : Str → Option Value) (x : Str) (st : Stmt) (ps : List Str) (a : Addr) (fd : FuncData) : Prop where
  fn : L2.Fun K x x st a fd
  mg : mg x = some (.ref a)
  kp : PySem.W.keepIn K (.ref a) = true
  b : Binds K fd ps []
abbrev F0 : Nat → Option Addr := fun _ => none
def lR1 (g : Fr → Hz → T (List D)) : Fr → Hz → T (List D) := fun fr hp => (g fr hp).bind rng1
def lR2 (g : Fr → Hz → T (List D)) : Fr → Hz → T (List D) := fun fr hp => (g fr hp).bind rng2
theorem boot_int : bootBuiltins "int" = some (.type "int") := by decide +kernel
theorem boot_str : bootBuiltins "str" = some (.type "str") := by decide +kernel
theorem boot_bool : bootBuiltins "bool" = some (.type "bool") := by decide +kernel
theorem boot_tuple : bootBuiltins "tuple" = some (.type "tuple") := by decide +kernel
theorem boot_list : bootBuiltins "list" = some (.type "list") := by decide +kernel

section
variable {P : Program} {w : World} {K : PySem.W.Frag} {mg : Str → Option Value} {base : Heap}
/-- a promise that is never asked -/
theorem fnNo {x qual : Str} {st : Stmt} {f : Addr} {fd : FuncData} {N ps : List Str} {k n : Nat} (Fn : L2.Fun K x qual st f fd) (S : FnScope N ps (defScope st)) : FnOk P w K mg base CX0 (k + 1) f fd ps (spP K F0 (fun _ => .fail) n) :=
  Fn.ok S (fun vs H Q E h => by obtain ⟨_, m, ds, _, _, h⟩ := h; exact h.elim) fun cdv A outer s H vs Q E hr h => by
    obtain ⟨_, m, ds, _, _, h⟩ := h
    exact h.elim

/-! ### the law -/
def spLaw (K : PySem.W.Frag) : Sp := fun vs H Q _ => ∃ (a : Addr) (ns : List Int), vs = [.ref a] ∧ SqL K H a (ns.map V.int) ∧ ns.length ≤ 63 ∧ ∀ H', Q (.bl true) H'
def lawT (g : Sm) (n : Nat) : T D := (g (none :: some .row :: List.replicate (n - 2) none) []).bind retOf
def tRow (z : Int) (t : TS) : TS := tSeq (tAsg (tLst (tCons (tVar 0) (tCons (tC (.int 0)) (tCons (tC (.int z)) (tCons (tC (.int 0)) tNil))))) (gName 1)) t
theorem row_core {g : Sm} {N : List Str} {a : Addr} {ns : List Int} {H : Hp} {z : Int} {Q : VK} (hN : 2 ≤ N.length) (hs : ScrOk K H a (ns.map V.int)) (hl : ns.length ≤ 63) (hall : (lawT g N.length).all fun d => d = .bl true) (q : ∀ H', Q (.bl true) H') :
    tRow z (tS K F0 g) { nx := fun _ H' => Q .non H', rt := Q } (L2.start N [.ref a]) H := by
  obtain ⟨n0, n1, N', rfl⟩ : ∃ n0 n1 N', N = n0 :: n1 :: N' := by
    match N, hN with
    | n0 :: n1 :: N', _ => exact ⟨n0, n1, N', rfl⟩
  have es : L2.start (n0 :: n1 :: N') [V.ref a] = some (.ref a) :: none :: List.replicate N'.length none := by simp [L2.start, List.replicate_succ]
  rw [es]
  refine ⟨_, rfl, (show 4 ≤ sizeLine from by decide), fun p hp => ?_⟩
  have e2 : (some (V.ref a) :: none :: List.replicate N'.length none).set 1 (some (.ref p)) = some (V.ref a) :: some (.ref p) :: List.replicate N'.length none := rfl
  show tS K F0 g _ ((some (V.ref a) :: none :: List.replicate N'.length none).set 1 (some (.ref p))) _
  rw [e2]
  have hk : ∀ o, H a = some (.frz o (.lst (ns.map V.int))) → (upd H p (.lst [.ref a, .int 0, .int z, .int 0])) a = some (.frz o (.lst (ns.map V.int))) := fun o e => by
    rw [upd_ne (ne_of_none e hp)]; exact e
  have row : RowOk K (upd H p (.lst [.ref a, .int 0, .int z, .int 0])) p := ⟨a, ns, 0, z, 0, upd_same, hs.keep hk, hl, by decide⟩
  refine ⟨some p, [p], [], none :: some .row :: List.replicate N'.length none, [], ⟨⟨by simp, fun i s e => ?_⟩, ⟨rfl, .nil, fun a _ q => by simp at q, fun b hb z => ?_, fun n c e => by simp at e⟩, fun b e => by cases e; exact row, fun b e => by cases e; simp⟩, ?_⟩
  · match i with
    | 0 => simp at e
    | 1 =>
      have e : SV.row = s := by simpa using e
      subst e
      exact ⟨.ref p, rfl, p, rfl, rfl⟩
    | i + 2 =>
      have e : (List.replicate N'.length (none : Option SV))[i]? = some (some s) := by simpa using e
      rw [List.getElem?_replicate] at e
      split at e <;> cases e
  · have e : b = p := by simpa using hb
    rw [e, upd_same] at z
    cases z
  · have hall : ((g (none :: some .row :: List.replicate N'.length none) []).bind retOf).all fun d => d = .bl true := hall
    refine T.all_mono (fun o qo => ?_) (T.all_bind hall)
    cases o with
    | nx fr hp =>
      have qo : D.non = D.bl true := qo
      cases qo
    | rt d =>
      have qo : d = D.bl true := qo
      subst qo
      intro H' v k w' r
      cases r
      exact q H'
    | bk fr hp => exact qo.elim
    | ct fr hp => exact qo.elim
/-- the body is run while the script is locked; it is not unlocked -/
theorem pss_lock {X : Cx} {st : List Stmt} {t : TS} (h : PSs X st t) : PSs X st fun D σ H => t D σ H ∨ ∃ d u, H d = some u ∧ Mut (some u) ∧ ∀ od, t D σ (upd H d (.frz od u)) := by
  constructor
  intro pins s σ H D I hw
  rcases hw with hw | ⟨d, u, hd, mu, hw⟩
  · exact h.run pins s σ H D I hw
  · obtain ⟨od, I1⟩ := I.lock hd mu
    exact h.run pins s σ _ D I1 (hw od)
/-- THE RULE for a law whose first statement makes the draws' row -/
theorem law_ok {qual : Str} {st : Stmt} {f : Addr} {fd : FuncData} {N : List Str} {k : Nat} {g : Sm} {z : Int} (Fn : L2.Fun K "law" qual st f fd) (S : FnScope N ["script"] (defScope st)) (hN : 2 ≤ N.length) (hall : (lawT g N.length).all fun d => d = .bl true)
    (hb : ∀ (cdv : Value) (A : Around) (outer : List Env) (s : Shared) (H : Hp) (E : XK), Room k (A.deeper (PyProof.Rows.envOfC qual (defScope st) s.heap.objs.size f cdv)) → PSs (cxOf CX0 P w K mg base N qual (defScope st) f cdv A outer s H E).nox (defBody st) (tRow z (tS K F0 g))) :
    FnOk P w K mg base CX0 (k + 1) f fd ["script"] (spLaw K) :=
  Fn.ok S (fun vs H Q E h => by
    obtain ⟨a, ns, rfl, _⟩ := h
    rfl) fun cdv A outer s H vs Q E hr h => by
    obtain ⟨a, ns, rfl, hs, hl, q⟩ := h
    refine ⟨_, pss_lock (hb cdv A outer s H E hr), ?_⟩
    rcases hs with (hs | hs) | hs
    · exact .inr ⟨a, _, hs, trivial, fun od => row_core hN (.inl ⟨od, upd_same⟩) hl hall q⟩
    · exact .inl (row_core hN (.inl hs) hl hall q)
    · exact .inl (row_core hN (.inr hs) hl hall q)
/-- a tuple of ints in the module -/
theorem rep_ints {a : Addr} {ns : List Int} (h : StT K a (ns.map V.int)) (m : List Addr) (H : Hp) : Rep K F0 m H (.ref a) (.tup (ns.map D.int)) := .tupK h (reps_ints ns)
end
end Zl

set_option Elab.async false
set_option linter.all false
/-! ZK: a law's tree, checked. -/
namespace Zl
def allLt : Nat → (Nat → Bool) → Bool
  | 0, _ => true
  | n + 1, f => bif f n then allLt n f else false
theorem allLt_of : ∀ {n : Nat} {f : Nat → Bool}, allLt n f = true → ∀ i, i < n → f i = true
  | n + 1, f, h, i, hi => by
    unfold allLt at h
    cases e : f n with
    | false => rw [e] at h; cases h
    | true =>
      rw [e] at h
      by_cases q : i = n
      · rw [q]; exact e
      · exact allLt_of (n := n) h i (by omega)
def T.chk : T D → Bool
  | .ret d => match d with
    | .bl b => b
    | _ => false
  | .draw n k => allLt n fun i => T.chk (k i)
  | .fail => false
theorem chk_all : ∀ {t : T D}, t.chk = true → t.all fun d => d = .bl true
  | .ret d, h => by
    unfold T.chk at h
    split at h
    · rw [h]; rfl
    · cases h
  | .draw n k, h => fun i hi => chk_all (allLt_of (f := fun i => T.chk (k i)) h i hi)
  | .fail, h => by cases h
end Zl

set_option Elab.async false
set_option linter.all false
set_option maxRecDepth 100000
set_option maxHeartbeats 2000000
/-! ZL: the same readings, each value brought to its own form before it is handed on (so that the kernel runs them fast). -/
namespace Zl
open PySem L2 PySem.Spec PyProof.Rows

section
variable {β : Type}
def forceI : Int → (Int → β) → β
  | .ofNat 0, k => k (.ofNat 0)
  | .ofNat 1, k => k (.ofNat 1)
  | .ofNat 2, k => k (.ofNat 2)
  | .ofNat 3, k => k (.ofNat 3)
  | .ofNat (n + 4), k => k (.ofNat (n + 4))
  | .negSucc 0, k => k (.negSucc 0)
  | .negSucc (n + 1), k => k (.negSucc (n + 1))
theorem forceI_eq (i : Int) (k : Int → β) : forceI i k = k i := by
  unfold forceI
  split <;> rfl
def forceB : Bool → (Bool → β) → β
  | true, k => k true
  | false, k => k false
theorem forceB_eq (b : Bool) (k : Bool → β) : forceB b k = k b := by cases b <;> rfl
mutual
def force : D → (D → β) → β
  | .int i, k => forceI i fun i => k (.int i)
  | .bl b, k => forceB b fun b => k (.bl b)
  | .tup xs, k => forceL xs fun xs => k (.tup xs)
  | .lst xs, k => forceL xs fun xs => k (.lst xs)
  | .non, k => k .non
  | .str s, k => k (.str s)
  | .ty n, k => k (.ty n)
  | .fn n, k => k (.fn n)
def forceL : List D → (List D → β) → β
  | [], k => k []
  | x :: xs, k => force x fun x => forceL xs fun xs => k (x :: xs)
end
mutual
theorem force_eq : ∀ (d : D) (k : D → β), force d k = k d
  | .int i, k => by unfold force; exact forceI_eq i _
  | .bl b, k => by unfold force; exact forceB_eq b _
  | .tup xs, k => by unfold force; exact forceL_eq xs _
  | .lst xs, k => by unfold force; exact forceL_eq xs _
  | .non, k => by unfold force; rfl
  | .str s, k => by unfold force; rfl
  | .ty n, k => by unfold force; rfl
  | .fn n, k => by unfold force; rfl
theorem forceL_eq : ∀ (ds : List D) (k : List D → β), forceL ds k = k ds
  | [], k => by unfold forceL; rfl
  | x :: xs, k => by
    unfold forceL
    rw [force_eq x]
    exact forceL_eq xs _
end
def forceO : Option SV → (Option SV → β) → β
  | none, k => k none
  | some (.v d), k => k (some (.v d))
  | some (.r n), k => k (some (.r n))
  | some .row, k => k (some .row)
theorem forceO_eq (o : Option SV) (k : Option SV → β) : forceO o k = k o := by
  unfold forceO
  split <;> rfl
def forceF : Fr → (Fr → β) → β
  | [], k => k []
  | x :: xs, k => forceO x fun x => forceF xs fun xs => k (x :: xs)
theorem forceF_eq : ∀ (fr : Fr) (k : Fr → β), forceF fr k = k fr
  | [], k => rfl
  | x :: xs, k => by
    unfold forceF
    rw [forceO_eq]
    exact forceF_eq xs _
end
def sSetF (i : Nat) (f : Ex) : Sm := fun fr hp => (f fr hp).bind fun d => force d fun d => forceF (setN fr i (some (.v d))) fun fr => .ret (.nx fr hp)
theorem sSetF_eq (i : Nat) (f : Ex) : sSetF i f = sSet i f := by
  funext fr hp
  unfold sSetF sSet
  congr 1
  funext d
  rw [force_eq, forceF_eq]
def sRetF (f : Ex) : Sm := fun fr hp => (f fr hp).bind fun d => force d fun d => .ret (.rt d)
theorem sRetF_eq (f : Ex) : sRetF f = sRet f := by
  funext fr hp
  unfold sRetF sRet
  congr 1
  funext d
  rw [force_eq]
def sParF (i j : Nat) (f g : Ex) : Sm := fun fr hp => (f fr hp).bind fun x => force x fun x => (g fr hp).bind fun y => force y fun y => forceF (setN (setN fr i (some (.v x))) j (some (.v y))) fun fr => .ret (.nx fr hp)
theorem sParF_eq (i j : Nat) (f g : Ex) : sParF i j f g = sPar i j f g := by
  funext fr hp
  unfold sParF sPar
  congr 1
  funext x
  rw [force_eq]
  congr 1
  funext y
  rw [force_eq, forceF_eq]
def gIF (i : Nat) : D → Fr → T Fr := fun d fr => force d fun d => forceF (setN fr i (some (.v d))) .ret
theorem gIF_eq (i : Nat) : gIF i = gI i := by
  funext d fr
  unfold gIF gI
  rw [force_eq, forceF_eq]
def g2F (i j : Nat) : D → Fr → T Fr := fun d fr => match d with
  | .tup [x, y] => force x fun x => force y fun y => forceF (setN (setN fr i (some (.v x))) j (some (.v y))) .ret
  | _ => .fail
theorem g2F_eq (i j : Nat) : g2F i j = g2 i j := by
  funext d fr
  unfold g2F g2
  split
  · rw [force_eq, force_eq, forceF_eq]
  · rename_i h
    first
    | rfl
    | (split
       · exact (h _ _ rfl).elim
       · rfl)
def eCallF (f : List D → T D) (n : Nat) (g : Fr → Hz → T (List D)) : Ex := fun fr hp => (g fr hp).bind fun ds => guardT (Nat.beq ds.length n) (forceL ds f)
theorem eCallF_eq (f : List D → T D) (n : Nat) (g : Fr → Hz → T (List D)) : eCallF f n g = eCall f n g := by
  funext fr hp
  unfold eCallF eCall
  congr 1
  funext ds
  rw [forceL_eq]
def eCallRF (i : Nat) (f : List D → T D) (n : Nat) (g : Fr → Hz → T (List D)) : Ex := fun fr hp => guardT (isRow fr i) ((g fr hp).bind fun ds => guardT (Nat.beq ds.length n) (forceL ds f))
theorem eCallRF_eq (i : Nat) (f : List D → T D) (n : Nat) (g : Fr → Hz → T (List D)) : eCallRF i f n g = eCallR i f n g := by
  funext fr hp
  unfold eCallRF eCallR
  congr 2
  funext ds
  rw [forceL_eq]
abbrev i0 : D := .int (.ofNat 0)
abbrev i1 : D := .int (.ofNat 1)
abbrev i2 : D := .int (.ofNat 2)
abbrev i3 : D := .int (.ofNat 3)
def T.width {α : Type} : T α → Nat
  | .draw n _ => n
  | _ => 0
def T.sub {α : Type} : T α → Nat → T α
  | .draw _ k, i => k i
  | _, _ => .fail
theorem chk_sub {t : T D} {n : Nat} (hn : n ≠ 0) (hw : t.width = n) (h : ∀ i, i < n → (t.sub i).chk = true) : t.all fun d => d = .bl true := by
  cases t with
  | ret d => exact absurd hw.symm hn
  | fail => exact absurd hw.symm hn
  | draw m k =>
    have hw : m = n := hw
    subst hw
    exact fun i hi => chk_all (h i hi)
/-- from lo, n of them -/
def allFrom (lo : Nat) : Nat → (Nat → Bool) → Bool
  | 0, _ => true
  | n + 1, f => bif f (lo + n) then allFrom lo n f else false
theorem allFrom_of {lo : Nat} : ∀ {n : Nat} {f : Nat → Bool}, allFrom lo n f = true → ∀ i, lo ≤ i → i < lo + n → f i = true
  | 0, f, h, i, h1, h2 => by omega
  | n + 1, f, h, i, h1, h2 => by
    unfold allFrom at h
    cases e : f (lo + n) with
    | false => rw [e] at h; cases h
    | true =>
      rw [e] at h
      by_cases q : i = lo + n
      · rw [q]; exact e
      · exact allFrom_of (n := n) h i h1 (by omega)
theorem upTo {lo n : Nat} {f : Nat → Bool} (h : ∀ i, i < lo → f i = true) (k : allFrom lo n f = true) : ∀ i, i < lo + n → f i = true := fun i hi => by
  by_cases q : i < lo
  · exact h i q
  · exact allFrom_of k i (by omega) hi
section
variable {X : Cx} {F : Nat → Option Addr}
theorem PSf {st : Stmt} {f g : Sm} (e : g = f) (h : PS X st (tS X.K F f)) : PS X st (tS X.K F g) := by rw [e]; exact h
theorem PEf {st : Expr} {f g : Ex} (e : g = f) (h : PE X st (tX X.K F f)) : PE X st (tX X.K F g) := by rw [e]; exact h
theorem TgRf {K : PySem.W.Frag} {L : Bool} {s s' : D → Fr → T Fr} {g : TG} (e : s' = s) (h : TgR K F L s g) : TgR K F L s' g := by rw [e]; exact h
theorem TgCf {K : PySem.W.Frag} {L : Bool} {vs : List Nat} {s s' : D → Fr → T Fr} {g : TG} (e : s' = s) (h : TgC K F L vs s g) : TgC K F L vs s' g := by rw [e]; exact h
end
end Zl

set_option Elab.async false
set_option linter.all false
set_option maxRecDepth 100000
set_option maxHeartbeats 2000000
/-! ZM: faster comparisons, the same readings. -/
namespace Zl
open PySem L2 PySem.Spec PyProof.Rows

def eqIf : Int → Int → Bool
  | .ofNat a, .ofNat b => Nat.beq a b
  | .negSucc a, .negSucc b => Nat.beq a b
  | _, _ => false
theorem natBeq (a b : Nat) : Nat.beq a b = decide (a = b) := by
  by_cases h : a = b
  · subst h; simp
  · rw [decide_eq_false h]
    cases e : Nat.beq a b with
    | false => rfl
    | true => exact absurd (Nat.eq_of_beq_eq_true e) h
theorem eqIf_eq (a b : Int) : eqIf a b = eqI a b := by
  unfold eqIf eqI
  cases a <;> cases b
  · show Nat.beq _ _ = _
    rw [natBeq]
    exact decide_eq_decide.mpr ⟨fun h => by rw [h], fun h => Int.ofNat.inj h⟩
  · rw [decide_eq_false (by intro h; cases h)]
  · rw [decide_eq_false (by intro h; cases h)]
  · show Nat.beq _ _ = _
    rw [natBeq]
    exact decide_eq_decide.mpr ⟨fun h => by rw [h], fun h => Int.negSucc.inj h⟩
def ltIf : Int → Int → Bool
  | .ofNat a, .ofNat b => Nat.blt a b
  | .negSucc _, .ofNat _ => true
  | .ofNat _, .negSucc _ => false
  | .negSucc a, .negSucc b => Nat.blt b a
theorem ltIf_eq (a b : Int) : ltIf a b = decide (a < b) := by
  unfold ltIf
  cases a <;> cases b
  · rename_i x y
    show Nat.blt x y = decide ((x : Int) < (y : Int))
    rw [Bool.eq_iff_iff, Nat.blt_eq, decide_eq_true_iff]
    omega
  · rename_i x y
    exact (decide_eq_false (by show ¬ ((x : Int) < Int.negSucc y); omega)).symm
  · rename_i x y
    exact (decide_eq_true (show Int.negSucc x < (y : Int) by omega)).symm
  · rename_i x y
    show Nat.blt y x = _
    rw [Bool.eq_iff_iff, Nat.blt_eq, decide_eq_true_iff]
    omega
def leIf (a b : Int) : Bool := bif ltIf b a then false else true
theorem leIf_eq (a b : Int) : leIf a b = decide (a ≤ b) := by
  unfold leIf
  rw [ltIf_eq]
  by_cases h : b < a
  · rw [decide_eq_true h, decide_eq_false (by omega)]; rfl
  · rw [decide_eq_false h, decide_eq_true (by omega)]; rfl
/-- == with a short way for ints -/
def dEqF (x y : D) : T D := match x, y with
  | .int a, .int b => .ret (.bl (eqIf a b))
  | _, _ => dEq x y
def dNeF (x y : D) : T D := match x, y with
  | .int a, .int b => .ret (.bl (bif eqIf a b then false else true))
  | _, _ => dNe x y
theorem dEqF_eq : dEqF = dEq := by
  funext x y
  unfold dEqF
  split
  · rw [eqIf_eq]; rfl
  · rfl
theorem dNeF_eq : dNeF = dNe := by
  funext x y
  unfold dNeF
  split
  · rename_i a b
    rw [eqIf_eq]
    show T.ret (D.bl (bif eqI a b then false else true)) = T.ret (D.bl (!eqI a b))
    cases eqI a b <;> rfl
  · rfl
section
variable {X : Cx} {F : Nat → Option Addr}
theorem OpZf {f : Value → Value → Sem Value} {o o' : D → D → T D} (e : o' = o) (h : OpZ X F f o) : OpZ X F f o' := by rw [e]; exact h
theorem oeqF (hu : X.A.units + 64 < cLine) : OpZ X F (compareOp .Eq) dEqF := OpZf dEqF_eq (oeq hu)
theorem oneF (hu : X.A.units + 64 < cLine) : OpZ X F (compareOp .NotEq) dNeF := OpZf dNeF_eq (one hu)
def dLt : D → D → T D := dI2 fun i j => .bl (ltIf i j)
def dLe : D → D → T D := dI2 fun i j => .bl (leIf i j)
def dGt : D → D → T D := dI2 fun i j => .bl (ltIf j i)
def dGe : D → D → T D := dI2 fun i j => .bl (leIf j i)
theorem oltF : OpZ X F (compareOp .Lt) dLt := OpZf (by unfold dLt; congr 1; funext i j; rw [ltIf_eq]) olt
theorem oleF : OpZ X F (compareOp .LtE) dLe := OpZf (by unfold dLe; congr 1; funext i j; rw [leIf_eq]) ole
theorem ogtF : OpZ X F (compareOp .Gt) dGt := OpZf (by unfold dGt; congr 1; funext i j; rw [ltIf_eq]) ogt
theorem ogeF : OpZ X F (compareOp .GtE) dGe := OpZf (by unfold dGe; congr 1; funext i j; rw [leIf_eq]) oge
end
/-- in, with a short way for ints -/
def anyI (k : Int) : List D → Option Bool
  | [] => some false
  | .int a :: r => bif eqIf a k then (match anyI k r with | some _ => some true | none => none) else anyI k r
  | _ :: _ => none
theorem anyI_some : ∀ {k : Int} {l : List D} {b : Bool}, anyI k l = some b → allO flatD l = true ∧ anyF (.int k) l = b
  | k, [], b, h => by
    cases h
    exact ⟨rfl, rfl⟩
  | k, .int a :: r, b, h => by
    unfold anyI at h
    unfold allO anyF
    rw [if_pos (show flatD (.int a) = true from rfl)]
    show _ ∧ (if eqI a k then true else anyF (.int k) r) = b
    rw [← eqIf_eq]
    cases e : eqIf a k with
    | true =>
      rw [e] at h
      cases q : anyI k r with
      | none => rw [q] at h; cases h
      | some c =>
        rw [q] at h
        cases h
        exact ⟨(anyI_some q).1, by simp⟩
    | false =>
      rw [e] at h
      obtain ⟨h1, h2⟩ := anyI_some (show anyI k r = some b from h)
      exact ⟨h1, by simpa using h2⟩
  | k, .non :: r, b, h => by cases h
  | k, .bl _ :: r, b, h => by cases h
  | k, .str _ :: r, b, h => by cases h
  | k, .ty _ :: r, b, h => by cases h
  | k, .fn _ :: r, b, h => by cases h
  | k, .tup _ :: r, b, h => by cases h
  | k, .lst _ :: r, b, h => by cases h
def inD (neg : Bool) (x : D) (ys : List D) : T D := guardT (flatD x && allO flatD ys) (.ret (.bl (if neg then !anyF x ys else anyF x ys)))
def inF (neg : Bool) (x : D) (ys : List D) : T D := match x with
  | .int k => match anyI k ys with
    | some b => .ret (.bl (bif neg then (bif b then false else true) else b))
    | none => inD neg x ys
  | _ => inD neg x ys
theorem inF_eq (neg : Bool) (x : D) (ys : List D) : inF neg x ys = inD neg x ys := by
  unfold inF
  split
  · rename_i k
    split
    · rename_i b e
      obtain ⟨h1, h2⟩ := anyI_some e
      unfold inD
      rw [h1, h2]
      show _ = T.ret _
      cases neg <;> cases b <;> rfl
    · rfl
  · rfl
def eInF (neg : Bool) (f : Ex) (g : Fr → Hz → T (List D)) : Ex := fun fr hp => (f fr hp).bind fun x => (g fr hp).bind fun ys => inF neg x ys
theorem eInF_eq (neg : Bool) (f : Ex) (g : Fr → Hz → T (List D)) : eInF neg f g = eIn neg f g := by
  funext fr hp
  unfold eInF eIn
  congr 1
  funext x
  congr 1
  funext ys
  exact inF_eq neg x ys
/-- x.index(k) -/
def idxF (k : Int) : List D → Option Nat
  | [] => none
  | .int a :: r => bif eqIf a k then (match intsO r with | some _ => some 0 | none => none) else match idxF k r with
    | some n => some (n + 1)
    | none => none
  | _ :: _ => none
def idxD (k : Int) (xs : List D) : T D := (ofO (intsO xs)).bind fun ns => (ofO (idxI k ns)).bind fun j => .ret (.int j)
theorem idxF_some : ∀ {k : Int} {l : List D} {n : Nat}, idxF k l = some n → ∃ ns, intsO l = some ns ∧ idxI k ns = some n
  | k, [], n, h => by cases h
  | k, .int a :: r, n, h => by
    unfold idxF at h
    unfold intsO
    cases e : eqIf a k with
    | true =>
      rw [e] at h
      cases q : intsO r with
      | none => rw [q] at h; cases h
      | some ns =>
        rw [q] at h
        cases h
        refine ⟨a :: ns, rfl, ?_⟩
        unfold idxI
        rw [← eqIf_eq, e]
        rfl
    | false =>
      rw [e] at h
      cases q : idxF k r with
      | none => rw [q] at h; cases h
      | some m =>
        rw [q] at h
        cases h
        obtain ⟨ns, h1, h2⟩ := idxF_some q
        rw [h1]
        refine ⟨a :: ns, rfl, ?_⟩
        unfold idxI
        rw [← eqIf_eq, e, h2]
        rfl
  | k, .non :: r, b, h => by cases h
  | k, .bl _ :: r, b, h => by cases h
  | k, .str _ :: r, b, h => by cases h
  | k, .ty _ :: r, b, h => by cases h
  | k, .fn _ :: r, b, h => by cases h
  | k, .tup _ :: r, b, h => by cases h
  | k, .lst _ :: r, b, h => by cases h
def eIdxF (f g : Ex) : Ex := fun fr hp => (f fr hp).bind fun x => (asTup x).bind fun xs => (g fr hp).bind fun y => match y with
  | .int k => match idxF k xs with
    | some n => .ret (.int (.ofNat n))
    | none => idxD k xs
  | _ => .fail
theorem eIdxF_eq (f g : Ex) : eIdxF f g = eIdx f g := by
  funext fr hp
  unfold eIdxF eIdx
  congr 1
  funext x
  congr 1
  funext xs
  congr 1
  funext y
  split
  · rename_i k
    show _ = idxD k xs
    split
    · rename_i n e
      obtain ⟨ns, h1, h2⟩ := idxF_some e
      unfold idxD
      rw [h1]
      show _ = (ofO (idxI k ns)).bind _
      rw [h2]
      rfl
    · rfl
  · rename_i h
    first
    | rfl
    | (split
       · exact (h _ rfl).elim
       · rfl)
theorem PTf {X : Cx} {F : Nat → Option Addr} {e : Expr} {f g : Ex} (q : g = f) (h : PT X e (tB' X.K F (b1 f))) : PT X e (tB' X.K F (b1 g)) := by rw [q]; exact h
def aCF (f : Ex) (g : Fr → Hz → T (List D)) : Fr → Hz → T (List D) := fun fr hp => (f fr hp).bind fun x => force x fun x => (g fr hp).bind fun xs => .ret (x :: xs)
theorem aCF_eq (f : Ex) (g : Fr → Hz → T (List D)) : aCF f g = aC f g := by
  funext fr hp
  unfold aCF aC
  congr 1
  funext x
  rw [force_eq]
theorem PAf {X : Cx} {F : Nat → Option Addr} {es : List Expr} {f g : Fr → Hz → T (List D)} (q : g = f) (h : PA X es (tAs X.K F f)) : PA X es (tAs X.K F g) := by rw [q]; exact h
/-- name = value, the value in its own form already after this -/
def sSetV (i : Nat) (f : Ex) : Sm := fun fr hp => (f fr hp).bind fun d => force d fun d => .ret (.nx (setN fr i (some (.v d))) hp)
theorem sSetV_eq (i : Nat) (f : Ex) : sSetV i f = sSet i f := by
  funext fr hp
  unfold sSetV sSet
  congr 1
  funext d
  rw [force_eq]
def gIX (i : Nat) : D → Fr → T Fr := fun d fr => forceF (setN fr i (some (.v d))) .ret
theorem gIX_eq (i : Nat) : gIX i = gI i := by
  funext d fr
  unfold gIX gI
  rw [forceF_eq]
def g2E (i j : Nat) : D → Fr → T Fr := fun d fr => match d with
  | .tup [x, y] => force x fun x => forceF (setN (setN fr i (some (.v x))) j (some (.v y))) .ret
  | _ => .fail
theorem g2E_eq (i j : Nat) : g2E i j = g2 i j := by
  funext d fr
  unfold g2E g2
  split
  · rw [force_eq, forceF_eq]
  · rename_i h
    first
    | rfl
    | (split
       · exact (h _ _ rfl).elim
       · rfl)
def sParX (i j : Nat) (f g : Ex) : Sm := fun fr hp => (f fr hp).bind fun x => (g fr hp).bind fun y => forceF (setN (setN fr i (some (.v x))) j (some (.v y))) fun fr => .ret (.nx fr hp)
theorem sParX_eq (i j : Nat) (f g : Ex) : sParX i j f g = sPar i j f g := by
  funext fr hp
  unfold sParX sPar
  congr 1
  funext x
  congr 1
  funext y
  rw [forceF_eq]
end Zl

set_option Elab.async false
set_option linter.all false
set_option maxRecDepth 1000000
set_option maxHeartbeats 4000000
namespace Zl
open PySem L2 PySem.Spec PyProof.Rows
def top (i : Nat) : Stmt := PySem.Challenge.pw_dealclashes_k00_whole_rows.main.body.getD i (.Pass ⟨0, 0, 0, 0⟩)
structure Txt (K : PySem.W.Frag) (mg : Str → Option Value) (aP : Addr) : Prop where
  nb_all : mg "all" = none
  nb_any : mg "any" = none
  nb_bool : mg "bool" = none
  nb_enumerate : mg "enumerate" = none
  nb_int : mg "int" = none
  nb_isinstance : mg "isinstance" = none
  nb_len : mg "len" = none
  nb_list : mg "list" = none
  nb_range : mg "range" = none
  nb_set : mg "set" = none
  nb_sorted : mg "sorted" = none
  nb_str : mg "str" = none
  nb_tuple : mg "tuple" = none
  nb_type : mg "type" = none
  mg_permutations : mg "permutations" = some (.type "itertools.permutations")
  mg_combinations : mg "combinations" = some (.type "itertools.combinations")
  mg_PEOPLE : mg "PEOPLE" = some (.ref aP)
  pP : StT K aP [V.int 2, V.int 3]
theorem Txt.rep_PEOPLE {K : PySem.W.Frag} {mg : Str → Option Value} {aP : Addr} (T : Txt K mg aP) (m : List Addr) (H : Hp) : Rep K F0 m H (.ref aP) (.tup [.int 2, .int 3]) := rep_ints (ns := [2, 3]) T.pP m H
section
variable {P : Program} {w : World} {K : PySem.W.Frag} {mg : Str → Option Value} {base : Heap} {aP : Addr}
/-! _law_alike -/
abbrev s_law_alike : Stmt := top 29
abbrev N_law_alike : List Str := ["found", "due"]
theorem sc_law_alike : FnScope ["found", "due", "k"] N_law_alike (defScope s_law_alike) := ⟨rfl, rfl, rfl, by decide +kernel, rfl, by decide +kernel, by decide +kernel⟩
def r_law_alike : Nat → List D → T D
  | 0 => fun _ => .fail
  | i + 1 => runB (
    (sSeq (sIf (b1 (eIsi2 4 5 (eV 1)))
    (sSeq (sIf (bOr (bNot (b1 (eIsi2 4 5 (eV 0)))) (b1 (e2 dNeF (eIsi 5 (eV 0)) (eIsi 5 (eV 1)))))
    (sRet (eC (.bl false))) sNil)
    (sSeq (sIf (b1 (e2 dNeF (eLen (lSeq (eV 0))) (eLen (lSeq (eV 1)))))
    (sRet (eC (.bl false))) sNil)
    (sRetF (e2 dEqF (lst (nLc (lR1 (aC (eLen (lSeq (eV 1))) aN)) (gIF 2) (bNot (b1 (eCall (r_law_alike i) 2 (aC (eIx (lSeq (eV 0)) (eV 2)) (aC (eIx (lSeq (eV 1)) (eV 2)) aN))))) (eV 2) [2])) (lst (nL aN)))))) sNil)
    (sSeq (sIf (bOr (b1 (isN (eV 1))) (b1 (eIsi 3 (eV 1))))
    (sRetF (eAnd (e2 dEqF (eV 0) (eV 1)) (e2 dEqF (eIsi 3 (eV 0)) (eIsi 3 (eV 1))))) sNil)
    (sRetF (eAnd (eIsi 2 (eV 0)) (eAnd (e2 dEqF (eIsi 1 (eV 0)) (eIsi 1 (eV 1))) (e2 dEqF (eV 0) (eV 1)))))))) 3
theorem ok_law_alike {a_law_alike : Addr} {d_law_alike : FuncData} (G_law_alike : Gd K mg "_law_alike" s_law_alike N_law_alike a_law_alike d_law_alike) (Tx : Txt K mg aP) : ∀ i : Nat, i ≤ 8 → FnOk P w K mg base CX0 (0 + i + 1) a_law_alike d_law_alike N_law_alike (spP K F0 (r_law_alike i) 2)
  | 0, _ => fnNo G_law_alike.fn sc_law_alike
  | i + 1, hi => by
    have ih := ok_law_alike G_law_alike Tx i (by omega)
    have sc := sc_law_alike
    refine zdef (F := F0) (N := ["found", "due", "k"]) G_law_alike.fn sc fun cdv A outer s H E hr => ?_
    have hu := hr.units
    let N : List Str := ["found", "due", "k"]
    exact (zcons (zifs (ztv (zisi2 4 5 rfl rfl (by rfl) Tx.nb_isinstance (zv 1) (zty (by rfl) Tx.nb_tuple boot_tuple) (zty (by rfl) Tx.nb_list boot_list)))
    (zcons (zifs (PW.pt (ztor (ztnot (ztv (zisi2 4 5 rfl rfl (by rfl) Tx.nb_isinstance (zv 0) (zty (by rfl) Tx.nb_tuple boot_tuple) (zty (by rfl) Tx.nb_list boot_list)))) (ztor1 (ztc (oneF hu) (zisi 5 rfl (by rfl) Tx.nb_isinstance (zv 0) (zty (by rfl) Tx.nb_list boot_list)) (zisi 5 rfl (by rfl) Tx.nb_isinstance (zv 1) (zty (by rfl) Tx.nb_list boot_list))))))
    (zlast (zret zbl)) znil)
    (zcons (zifs (ztc (oneF hu) (zlen (by rfl) Tx.nb_len (PEseq (zv 0))) (zlen (by rfl) Tx.nb_len (PEseq (zv 1))))
    (zlast (zret zbl)) znil)
    (zlast (PSf (sRetF_eq _) (zret (zcmp (oeqF hu) (PEnl (zlc rfl sc.nd (zir1 (by rfl) Tx.nb_range (zac (zlen (by rfl) Tx.nb_len (PEseq (zv 1))) zan)) (blkOk_by (own := [("k", 2)]) (N := N) (sc := (defScope s_law_alike)) (by decide +kernel)) (TgCf (gIF_eq _) (zgc_name (by decide))) (fun _ _ _ _ _ => (pg_name (i := 2) sc.nd rfl (by first | exact Or.inl rfl | exact Or.inr rfl))) (fun _ _ _ _ _ => (ztone (ztnot (ztv ((zcall ih (hr.mono (Nat.le_refl _)) (by rfl) G_law_alike.mg G_law_alike.kp G_law_alike.b (zac (zix (PEseq (zv 0)) (zv 2)) (zac (zix (PEseq (zv 1)) (zv 2)) zan)))))))) (fun _ _ _ _ _ => (zv 2)))) (PEnl (zl zan)))))))) znil)
    (zcons (zifs (PW.pt (ztor (ztisN (zv 1)) (ztor1 (ztv (zisi 3 rfl (by rfl) Tx.nb_isinstance (zv 1) (zty (by rfl) Tx.nb_str boot_str))))))
    (zlast (PSf (sRetF_eq _) (zret (zand (zcmp (oeqF hu) (zv 0) (zv 1)) (zone (zcmp (oeqF hu) (zisi 3 rfl (by rfl) Tx.nb_isinstance (zv 0) (zty (by rfl) Tx.nb_str boot_str)) (zisi 3 rfl (by rfl) Tx.nb_isinstance (zv 1) (zty (by rfl) Tx.nb_str boot_str)))))))) znil)
    (zlast (PSf (sRetF_eq _) (zret (zand (zisi 2 rfl (by rfl) Tx.nb_isinstance (zv 0) (zty (by rfl) Tx.nb_int boot_int)) (zand (zcmp (oeqF hu) (zisi 1 rfl (by rfl) Tx.nb_isinstance (zv 0) (zty (by rfl) Tx.nb_bool boot_bool)) (zisi 1 rfl (by rfl) Tx.nb_isinstance (zv 1) (zty (by rfl) Tx.nb_bool boot_bool))) (zone (zcmp (oeqF hu) (zv 0) (zv 1))))))))))
/-! _law_taken -/
abbrev s_law_taken : Stmt := top 27
abbrev N_law_taken : List Str := ["row", "many"]
theorem sc_law_taken : FnScope ["row", "many", "found", "cell"] N_law_taken (defScope s_law_taken) := ⟨rfl, rfl, rfl, by decide +kernel, rfl, by decide +kernel, by decide +kernel⟩
theorem ok_law_taken {a_law_taken : Addr} {d_law_taken : FuncData} (G_law_taken : Gd K mg "_law_taken" s_law_taken N_law_taken a_law_taken d_law_taken) (Tx : Txt K mg aP) : FnOk P w K mg base CX0 1 a_law_taken d_law_taken N_law_taken (spR K F0 taken 1) := by
  have sc := sc_law_taken
  have Fn := G_law_taken.fn
  have ni := Tx.nb_int
  have nl := Tx.nb_len
  refine Fn.ok sc (fun vs H Q E h => ?_) (fun cdv A outer s H vs Q E hr h => ?_)
  · obtain ⟨a, ws, m, ds, rfl, hn, _⟩ := h
    rw [List.length_cons, hn]
    rfl
  · obtain ⟨ρ, ws, m, ds, rfl, hn, hm, dom, row, rs, h⟩ := h
    obtain ⟨n, rfl⟩ : ∃ n, ds = [.int n] := by
      unfold taken at h
      split at h
      · exact ⟨_, rfl⟩
      · exact h.elim
    cases rs with
    | cons r1 rs =>
    cases rs
    cases r1
    obtain ⟨hb, h⟩ := all_guard (show (guardT (decide (1 ≤ n) && decide (n ≤ 1000000)) (T.draw n.toNat fun i => T.ret (D.int i))).all _ from h)
    rw [Bool.and_eq_true] at hb
    have n1 := of_decide_eq_true hb.1
    have n2 := of_decide_eq_true hb.2
    have fin : ∀ (z : Int) (H' : Hp), Keep (some ρ) H H' → RowOk K H' ρ → Q (.int (z % n)) H' := fun z H' k w => by
      have e1 : 0 ≤ z % n := Int.emod_nonneg z (by omega)
      have e2 : z % n < n := Int.emod_lt_of_pos z (by omega)
      have q := h (z % n).toNat (by omega) H' (.int (((z % n).toNat : Nat) : Int)) k w (.int _)
      rw [Int.toNat_of_nonneg e1] at q
      exact q
    obtain ⟨sA, ns, i, z, r, hrow, hscr, hlen, hi⟩ := row
    have hs : SqL K H ρ [.ref sA, .int i, .int z, .int r] := SqL.of hrow
    have keep : ∀ xs, Keep (some ρ) H (upd H ρ (.lst xs)) := fun xs b o n e => by
      rw [upd_ne (fun z => n (by rw [z]))]
      exact e
    have scr : ∀ xs, ScrOk K (upd H ρ (.lst xs)) sA (ns.map V.int) := fun xs => hscr.keep fun o e => by
      rw [upd_ne (fun z => by rw [z, hrow] at e; cases e)]
      exact e
    refine ⟨_, pss_cons (ps_if (pt_cmpR op_gt (pe_ix ix_seq (pv 0) pe_int fun _ _ => rfl) pe_int (nomark _))
        (pss_cons (ps_set (i := 2) sc.nd rfl (Or.inl rfl) (pe_op op_mod (pe_callTy call_int1 (by rfl) ni boot_int (pa_cons (pe_ix ix_seq (pv 0) pe_int fun _ _ => rfl) pa_nil)) (pv 1)))
          (pss_cons (ps_asg (pe_op op_fdiv (pe_ix ix_seq (pv 0) pe_int fun _ _ => rfl) (pv 1)) (pg_sub (pv 0) pe_int set_list)) (pss_one (ps_ret (pv 2))))) pss_nil)
      (pss_cons (ps_asg (pe_op op_add (pe_ix ix_seq (pv 0) pe_int fun _ _ => rfl) pe_int) (pg_sub (pv 0) pe_int set_list))
      (pss_cons (ps_if (pt_cmpR op_gt (pe_ix ix_seq (pv 0) pe_int fun _ _ => rfl) (pe_callB call_len_seq (by rfl) nl PySem.boot_len (pa_cons (pe_ix ix_seq (pv 0) pe_int fun _ _ => rfl) pa_nil)) (nomark _))
          (pss_cons (ps_asg (pe_op op_mod (pe_callTy call_int1 (by rfl) ni boot_int (pa_cons (pe_op op_add (pe_op op_mul (pe_ix ix_seq (pv 0) pe_int fun _ _ => rfl) pe_int) pe_int) pa_nil)) pe_int) (pg_sub (pv 0) pe_int set_list))
            (pss_one (ps_ret (pe_op op_mod (pe_callTy call_int1 (by rfl) ni boot_int (pa_cons (pe_op op_fdiv (pe_ix ix_seq (pv 0) pe_int fun _ _ => rfl) pe_int) pa_nil)) (pv 1))))) pss_nil)
      (pss_cons (ps_set (i := 3) sc.nd rfl (Or.inl rfl) (pe_ix ix_seq (pe_ix ix_seq (pv 0) pe_int fun _ _ => rfl) (pe_op op_sub (pe_ix ix_seq (pv 0) pe_int fun _ _ => rfl) pe_int) fun _ _ => rfl))
      (pss_cons (ps_asg (pe_op op_mod (pe_callTy call_int1 (by rfl) ni boot_int (pa_cons (pe_op op_add (pe_op op_add (pe_op op_mul (pe_ix ix_seq (pv 0) pe_int fun _ _ => rfl) pe_int) (pv 3)) pe_int) pa_nil)) pe_int) (pg_sub (pv 0) pe_int set_list))
      (pss_cons (ps_if (pt_cmpR op_ge (pv 3) (pe_op op_pow pe_int pe_int) (nomark _))
          (pss_one (ps_asg (pe_op op_fdiv (pv 3) (pv 1)) (pg_sub (pv 0) pe_int set_list))) pss_nil)
      (pss_one (ps_ret (pe_op op_mod (pe_callTy call_int1 (by rfl) ni boot_int (pa_cons (pv 3) pa_nil)) (pv 1))))))))), ?_⟩
    refine ⟨_, rfl, .inl ⟨ρ, _, 3, _, rfl, rfl, hs, rfl, _, _, rfl, rfl, ?_⟩⟩
    refine ⟨_, rfl, ?_⟩
    refine ite2 (fun _ => ?_) (fun _ => ?_)
    · refine ⟨_, rfl, .inl ⟨ρ, _, 3, _, rfl, rfl, hs, rfl, .inl ⟨_, rfl, _, rfl, _, _, rfl, rfl, (by omega), ?_⟩⟩⟩
      refine ⟨_, rfl, .inl ⟨ρ, _, 3, _, rfl, rfl, hs, rfl, _, rfl, _, _, rfl, rfl, ⟨by omega, by omega⟩, ?_⟩⟩
      refine ⟨_, rfl, ρ, _, 3, 3, rfl, rfl, hrow, rfl, ?_⟩
      refine ⟨_, rfl, fin r _ (keep _) ⟨sA, ns, i, z, _, upd_same, scr _, hlen, hi⟩⟩
    · refine ⟨_, rfl, .inl ⟨ρ, _, 1, _, rfl, rfl, hs, rfl, _, _, rfl, rfl, ?_⟩⟩
      refine ⟨_, rfl, ρ, _, 1, 1, rfl, rfl, hrow, rfl, ?_⟩
      show tSeq _ _ _ _ (upd H ρ (.lst [.ref sA, .int (i + 1), .int z, .int r]))
      have hs1 : SqL K (upd H ρ (.lst [.ref sA, .int (i + 1), .int z, .int r])) ρ [.ref sA, .int (i + 1), .int z, .int r] := SqL.of upd_same
      have scr1 : SqL K (upd H ρ (.lst [.ref sA, .int (i + 1), .int z, .int r])) sA (ns.map V.int) := (scr _).sq
      have two : ∀ xs ys, Keep (some ρ) H (upd (upd H ρ (.lst xs)) ρ (.lst ys)) ∧ ScrOk K (upd (upd H ρ (.lst xs)) ρ (.lst ys)) sA (ns.map V.int) := fun xs ys => by
        have e : upd (upd H ρ (.lst xs)) ρ (.lst ys) = upd H ρ (.lst ys) := by
          funext b
          by_cases hb : b = ρ
          · rw [hb, upd_same, upd_same]
          · rw [upd_ne hb, upd_ne hb, upd_ne hb]
        rw [e]
        exact ⟨keep _, scr _⟩
      refine ⟨_, rfl, .inl ⟨ρ, _, 1, _, rfl, rfl, hs1, rfl, _, rfl, .inl ⟨ρ, _, 0, _, rfl, rfl, hs1, rfl, ?_⟩⟩⟩
      refine ⟨sA, _, rfl, .inl scr1, _, _, rfl, rfl, _, rfl, ?_⟩
      refine ite2 (fun _ => ?_) (fun hle => ?_)
      · refine ⟨_, rfl, .inl ⟨ρ, _, 2, _, rfl, rfl, hs1, rfl, _, _, rfl, rfl, .inr ⟨by decide, by decide⟩, _, _, rfl, rfl, .inl ⟨_, rfl, _, _, rfl, rfl, (by show (0 : Int) < 2147483647; decide), ?_⟩⟩⟩
        refine ⟨_, rfl, ρ, _, 2, 2, rfl, rfl, upd_same, rfl, ?_⟩
        refine ⟨_, rfl, .inl ⟨ρ, _, 2, _, rfl, rfl, SqL.of upd_same, rfl, _, _, rfl, rfl, ⟨by decide, by decide⟩, .inl ⟨_, rfl, _, rfl, _, _, rfl, rfl, (by omega), ?_⟩⟩⟩
        exact fin _ _ (two _ _).1 ⟨sA, ns, i + 1, _, r, upd_same, (two _ _).2, hlen, by omega⟩
      · have hle : i + 1 ≤ (ns.length : Int) := by
          by_cases q : ((ns.map V.int).length : Int) < i + 1
          · exact absurd (decide_eq_true q) hle
          · rw [List.length_map] at q; omega
        have hix : i.toNat < ns.length := by omega
        have hat : atI (ns.map V.int) (i + 1 - 1) = some (.int ns[i.toNat]) := by
          have e : i + 1 - 1 = ((i.toNat : Nat) : Int) := by omega
          rw [e]
          exact atI_nat (by rw [List.getElem?_map, List.getElem?_eq_getElem hix]; rfl)
        generalize ns[i.toNat] = c at hat
        refine ⟨_, rfl, .inl ⟨ρ, _, 0, _, rfl, rfl, hs1, rfl, _, rfl, .inl ⟨ρ, _, 1, _, rfl, rfl, hs1, rfl, _, _, rfl, rfl, .inl ⟨sA, _, _, _, rfl, rfl, scr1, hat, ?_⟩⟩⟩⟩
        refine ⟨_, rfl, .inl ⟨ρ, _, 2, _, rfl, rfl, hs1, rfl, _, _, rfl, rfl, .inr ⟨by decide, by decide⟩, _, rfl, _, _, rfl, rfl, _, _, rfl, rfl, .inl ⟨_, rfl, _, _, rfl, rfl, (by show (0 : Int) < 2147483647; decide), ?_⟩⟩⟩
        refine ⟨_, rfl, ρ, _, 2, 2, rfl, rfl, upd_same, rfl, ?_⟩
        refine ⟨_, rfl, _, _, rfl, rfl, ⟨by decide, by decide, by decide⟩, _, _, rfl, rfl, ?_⟩
        refine ⟨_, rfl, ?_⟩
        refine ite2 (fun _ => ?_) (fun _ => ?_)
        · refine ⟨_, rfl, _, rfl, _, _, rfl, rfl, ⟨by omega, by omega⟩, ?_⟩
          refine ⟨_, rfl, ρ, _, 3, 3, rfl, rfl, upd_same, rfl, ?_⟩
          refine ⟨_, rfl, .inl ⟨_, rfl, _, rfl, _, _, rfl, rfl, (by omega), ?_⟩⟩
          have e : ∀ xs ys zs, upd (upd (upd H ρ (.lst xs)) ρ (.lst ys)) ρ (.lst zs) = upd H ρ (.lst zs) := fun xs ys zs => by
            funext b
            by_cases hb : b = ρ
            · rw [hb, upd_same, upd_same]
            · rw [upd_ne hb, upd_ne hb, upd_ne hb, upd_ne hb]
          refine fin _ _ ?_ ⟨sA, ns, i + 1, _, _, upd_same, ?_, hlen, by omega⟩
          · rw [e]; exact keep _
          · rw [e]; exact scr _
        · refine ⟨_, rfl, .inl ⟨_, rfl, _, rfl, _, _, rfl, rfl, (by omega), ?_⟩⟩
          exact fin _ _ (two _ _).1 ⟨sA, ns, i + 1, _, r, upd_same, (two _ _).2, hlen, by omega⟩
/-! _law_pick -/
abbrev s_law_pick : Stmt := top 28
abbrev N_law_pick : List Str := ["row", "kinds"]
theorem sc_law_pick : FnScope ["row", "kinds"] N_law_pick (defScope s_law_pick) := ⟨rfl, rfl, rfl, by decide +kernel, rfl, by decide +kernel, by decide +kernel⟩
def r_law_pick : List D → T D := runR (
    (sRet (eIx (lSeq (eV 1)) (eCallR 0 taken 1 (aCF (eLen (lSeq (eV 1))) aN))))) 2
theorem ok_law_pick {a_law_pick : Addr} {d_law_pick : FuncData} (G_law_pick : Gd K mg "_law_pick" s_law_pick N_law_pick a_law_pick d_law_pick) (Tx : Txt K mg aP) {a_law_taken : Addr} {d_law_taken : FuncData} (G_law_taken : Gd K mg "_law_taken" s_law_taken N_law_taken a_law_taken d_law_taken) (O_law_taken : FnOk P w K mg base CX0 1 a_law_taken d_law_taken N_law_taken (spR K F0 taken 1)) : FnOk P w K mg base CX0 2 a_law_pick d_law_pick N_law_pick (spR K F0 r_law_pick 1) := by
  have sc := sc_law_pick
  refine zdefR (F := F0) (N := ["row", "kinds"]) G_law_pick.fn sc (by decide) (by decide) fun cdv A outer s H E hr => ?_
  have hu := hr.units
  let N : List Str := ["row", "kinds"]
  exact (zlast (zret (zix (PEseq (zv 1)) ((zcallR (i := 0) O_law_taken (hr.mono (by omega)) (by rfl) G_law_taken.mg G_law_taken.kp G_law_taken.b rfl (by first | exact Or.inl rfl | exact Or.inr (Or.inl rfl) | exact Or.inr (Or.inr rfl)) (PAf (aCF_eq _ _) (zac (zlen (by rfl) Tx.nb_len (PEseq (zv 1))) zan)))))))
/-! is_below -/
abbrev s_is_below : Stmt := top 9
abbrev N_is_below : List Str := ["value", "limit"]
theorem sc_is_below : FnScope ["value", "limit"] N_is_below (defScope s_is_below) := ⟨rfl, rfl, rfl, by decide +kernel, rfl, by decide +kernel, by decide +kernel⟩
def r_is_below : List D → T D := runB (
    (sRetF (eAnd (e2 dIsTy (e1 dTy (eV 0)) (eC (.ty "int"))) (eChain dLe dLt (eC (.int 0)) (eV 0) (eV 1))))) 2
theorem ok_is_below {a_is_below : Addr} {d_is_below : FuncData} (G_is_below : Gd K mg "is_below" s_is_below N_is_below a_is_below d_is_below) (Tx : Txt K mg aP) : FnOk P w K mg base CX0 1 a_is_below d_is_below N_is_below (spP K F0 r_is_below 2) := by
  have sc := sc_is_below
  refine zdef (F := F0) (N := ["value", "limit"]) G_is_below.fn sc fun cdv A outer s H E hr => ?_
  have hu := hr.units
  let N : List Str := ["value", "limit"]
  exact (zlast (PSf (sRetF_eq _) (zret (zand (zcmp oisTy (ztype (by rfl) Tx.nb_type (zv 0)) (zty (by rfl) Tx.nb_int boot_int)) (zone (zchain oleF oltF zint (zv 0) (zv 1)))))))
/-! is_order -/
abbrev s_is_order : Stmt := top 10
abbrev N_is_order : List Str := ["value", "many"]
theorem sc_is_order : FnScope ["value", "many", "thing"] N_is_order (defScope s_is_order) := ⟨rfl, rfl, rfl, by decide +kernel, rfl, by decide +kernel, by decide +kernel⟩
def r_is_order : List D → T D := runB (
    (sSeq (sIf (bOr (bNot (b1 (eIsi 4 (eV 0)))) (b1 (e2 dNeF (eLen (lSeq (eV 0))) (eV 1))))
    (sRet (eC (.bl false))) sNil)
    (sRetF (eAnd (eAll (nLc (lSeq (eV 0)) (gIX 2) bYes (eCall r_is_below 2 (aC (eV 2) (aC (eV 1) aN))) [2])) (e2 dEqF (eLenSet (eV 0)) (eV 1)))))) 3
theorem ok_is_order {a_is_order : Addr} {d_is_order : FuncData} (G_is_order : Gd K mg "is_order" s_is_order N_is_order a_is_order d_is_order) (Tx : Txt K mg aP) {a_is_below : Addr} {d_is_below : FuncData} (G_is_below : Gd K mg "is_below" s_is_below N_is_below a_is_below d_is_below) (O_is_below : FnOk P w K mg base CX0 1 a_is_below d_is_below N_is_below (spP K F0 r_is_below 2)) : FnOk P w K mg base CX0 2 a_is_order d_is_order N_is_order (spP K F0 r_is_order 2) := by
  have sc := sc_is_order
  refine zdef (F := F0) (N := ["value", "many", "thing"]) G_is_order.fn sc fun cdv A outer s H E hr => ?_
  have hu := hr.units
  let N : List Str := ["value", "many", "thing"]
  exact (zcons (zifs (PW.pt (ztor (ztnot (ztv (zisi 4 rfl (by rfl) Tx.nb_isinstance (zv 0) (zty (by rfl) Tx.nb_tuple boot_tuple)))) (ztor1 (ztc (oneF hu) (zlen (by rfl) Tx.nb_len (PEseq (zv 0))) (zv 1)))))
    (zlast (zret zbl)) znil)
    (zlast (PSf (sRetF_eq _) (zret (zand (zall rfl (by rfl) Tx.nb_all (zlc rfl sc.nd (zis (zv 0)) (blkOk_by (own := [("thing", 2)]) (N := N) (sc := (defScope s_is_order)) (by decide +kernel)) (TgCf (gIX_eq _) (zgc_name (by decide))) (fun _ _ _ _ _ => (pg_name (i := 2) sc.nd rfl (by first | exact Or.inl rfl | exact Or.inr rfl))) (fun _ _ _ _ _ => ztyes) (fun _ _ _ _ _ => ((zcall O_is_below (hr.mono (by omega)) (by rfl) G_is_below.mg G_is_below.kp G_is_below.b (zac (zv 2) (zac (zv 1) zan))))))) (zone (zcmp (oeqF hu) (zlenSet (by rfl) Tx.nb_len (by rfl) Tx.nb_set (zv 0) rfl) (zv 1))))))))
/-! is_row -/
abbrev s_is_row : Stmt := top 12
abbrev N_is_row : List Str := ["value", "people"]
theorem sc_is_row : FnScope ["value", "people", "ranking"] N_is_row (defScope s_is_row) := ⟨rfl, rfl, rfl, by decide +kernel, rfl, by decide +kernel, by decide +kernel⟩
def r_is_row : List D → T D := runB (
    (sSeq (sIf (bOr (bNot (b1 (eIsi 4 (eV 0)))) (b1 (e2 dNeF (eLen (lSeq (eV 0))) (eV 1))))
    (sRet (eC (.bl false))) sNil)
    (sRetF (eAll (nLc (lSeq (eV 0)) (gIX 2) bYes (eCall r_is_order 2 (aC (eV 2) (aC (eV 1) aN))) [2]))))) 3
theorem ok_is_row {a_is_row : Addr} {d_is_row : FuncData} (G_is_row : Gd K mg "is_row" s_is_row N_is_row a_is_row d_is_row) (Tx : Txt K mg aP) {a_is_order : Addr} {d_is_order : FuncData} (G_is_order : Gd K mg "is_order" s_is_order N_is_order a_is_order d_is_order) (O_is_order : FnOk P w K mg base CX0 2 a_is_order d_is_order N_is_order (spP K F0 r_is_order 2)) : FnOk P w K mg base CX0 3 a_is_row d_is_row N_is_row (spP K F0 r_is_row 2) := by
  have sc := sc_is_row
  refine zdef (F := F0) (N := ["value", "people", "ranking"]) G_is_row.fn sc fun cdv A outer s H E hr => ?_
  have hu := hr.units
  let N : List Str := ["value", "people", "ranking"]
  exact (zcons (zifs (PW.pt (ztor (ztnot (ztv (zisi 4 rfl (by rfl) Tx.nb_isinstance (zv 0) (zty (by rfl) Tx.nb_tuple boot_tuple)))) (ztor1 (ztc (oneF hu) (zlen (by rfl) Tx.nb_len (PEseq (zv 0))) (zv 1)))))
    (zlast (zret zbl)) znil)
    (zlast (PSf (sRetF_eq _) (zret (zall rfl (by rfl) Tx.nb_all (zlc rfl sc.nd (zis (zv 0)) (blkOk_by (own := [("ranking", 2)]) (N := N) (sc := (defScope s_is_row)) (by decide +kernel)) (TgCf (gIX_eq _) (zgc_name (by decide))) (fun _ _ _ _ _ => (pg_name (i := 2) sc.nd rfl (by first | exact Or.inl rfl | exact Or.inr rfl))) (fun _ _ _ _ _ => ztyes) (fun _ _ _ _ _ => ((zcall O_is_order (hr.mono (by omega)) (by rfl) G_is_order.mg G_is_order.kp G_is_order.b (zac (zv 2) (zac (zv 1) zan)))))))))))
/-! check_row -/
abbrev s_check_row : Stmt := top 13
abbrev N_check_row : List Str := ["row"]
theorem sc_check_row : FnScope ["row", "people"] N_check_row (defScope s_check_row) := ⟨rfl, rfl, rfl, by decide +kernel, rfl, by decide +kernel, by decide +kernel⟩
def r_check_row : List D → T D := runB (
    (sIf (bNot (b1 (eAny (nLc (lSeq (eC (.tup [.int 2, .int 3]))) (gIX 1) bYes (eCall r_is_row 2 (aC (eV 0) (aC (eV 1) aN))) [1]))))
    sFail sNil)) 2
theorem ok_check_row {a_check_row : Addr} {d_check_row : FuncData} (G_check_row : Gd K mg "check_row" s_check_row N_check_row a_check_row d_check_row) (Tx : Txt K mg aP) {a_is_row : Addr} {d_is_row : FuncData} (G_is_row : Gd K mg "is_row" s_is_row N_is_row a_is_row d_is_row) (O_is_row : FnOk P w K mg base CX0 3 a_is_row d_is_row N_is_row (spP K F0 r_is_row 2)) : FnOk P w K mg base CX0 4 a_check_row d_check_row N_check_row (spP K F0 r_check_row 1) := by
  have sc := sc_check_row
  refine zdef (F := F0) (N := ["row", "people"]) G_check_row.fn sc fun cdv A outer s H E hr => ?_
  have hu := hr.units
  let N : List Str := ["row", "people"]
  exact (zlast (zifs (ztnot (ztv (zany rfl (by rfl) Tx.nb_any (zlc rfl sc.nd (zis (zgl (by rfl) Tx.mg_PEOPLE fun m H => Tx.rep_PEOPLE m H)) (blkOk_by (own := [("people", 1)]) (N := N) (sc := (defScope s_check_row)) (by decide +kernel)) (TgCf (gIX_eq _) (zgc_name (by decide))) (fun _ _ _ _ _ => (pg_name (i := 1) sc.nd rfl (by first | exact Or.inl rfl | exact Or.inr rfl))) (fun _ _ _ _ _ => ztyes) (fun _ _ _ _ _ => ((zcall O_is_row (hr.mono (by omega)) (by rfl) G_is_row.mg G_is_row.kp G_is_row.b (zac (zv 0) (zac (zv 1) zan)))))))))
    (zlast znever) znil))
/-! check_dealing -/
abbrev s_check_dealing : Stmt := top 14
abbrev N_check_dealing : List Str := ["dealing"]
theorem sc_check_dealing : FnScope ["dealing"] N_check_dealing (defScope s_check_dealing) := ⟨rfl, rfl, rfl, by decide +kernel, rfl, by decide +kernel, by decide +kernel⟩
def r_check_dealing : List D → T D := runB (
    (sSeq (sIf (bOr (bNot (b1 (eIsi 4 (eV 0)))) (b1 (eInF true (eLen (lSeq (eV 0))) (lSeq (eC (.tup [.int 2, .int 3]))))))
    sFail sNil)
    (sIf (bNot (b1 (eCall r_is_order 2 (aC (eV 0) (aCF (eLen (lSeq (eV 0))) aN)))))
    sFail sNil))) 1
theorem ok_check_dealing {a_check_dealing : Addr} {d_check_dealing : FuncData} (G_check_dealing : Gd K mg "check_dealing" s_check_dealing N_check_dealing a_check_dealing d_check_dealing) (Tx : Txt K mg aP) {a_is_order : Addr} {d_is_order : FuncData} (G_is_order : Gd K mg "is_order" s_is_order N_is_order a_is_order d_is_order) (O_is_order : FnOk P w K mg base CX0 2 a_is_order d_is_order N_is_order (spP K F0 r_is_order 2)) : FnOk P w K mg base CX0 3 a_check_dealing d_check_dealing N_check_dealing (spP K F0 r_check_dealing 1) := by
  have sc := sc_check_dealing
  refine zdef (F := F0) (N := ["dealing"]) G_check_dealing.fn sc fun cdv A outer s H E hr => ?_
  have hu := hr.units
  let N : List Str := ["dealing"]
  exact (zcons (zifs (PW.pt (ztor (ztnot (ztv (zisi 4 rfl (by rfl) Tx.nb_isinstance (zv 0) (zty (by rfl) Tx.nb_tuple boot_tuple)))) (ztor1 (PTf (eInF_eq _ _ _) (ztni (zlen (by rfl) Tx.nb_len (PEseq (zv 0))) (PEseq (zgl (by rfl) Tx.mg_PEOPLE fun m H => Tx.rep_PEOPLE m H)))))))
    (zlast znever) znil)
    (zlast (zifs (ztnot (ztv ((zcall O_is_order (hr.mono (by omega)) (by rfl) G_is_order.mg G_is_order.kp G_is_order.b (zac (zv 0) (PAf (aCF_eq _ _) (zac (zlen (by rfl) Tx.nb_len (PEseq (zv 0))) zan)))))))
    (zlast znever) znil)))
/-! check_alike -/
abbrev s_check_alike : Stmt := top 15
abbrev N_check_alike : List Str := ["people", "others"]
theorem sc_check_alike : FnScope ["people", "others"] N_check_alike (defScope s_check_alike) := ⟨rfl, rfl, rfl, by decide +kernel, rfl, by decide +kernel, by decide +kernel⟩
def r_check_alike : List D → T D := runB (
    (sIf (b1 (e2 dNeF (eV 0) (eV 1)))
    sFail sNil)) 2
theorem ok_check_alike {a_check_alike : Addr} {d_check_alike : FuncData} (G_check_alike : Gd K mg "check_alike" s_check_alike N_check_alike a_check_alike d_check_alike) (Tx : Txt K mg aP) : FnOk P w K mg base CX0 1 a_check_alike d_check_alike N_check_alike (spP K F0 r_check_alike 2) := by
  have sc := sc_check_alike
  refine zdef (F := F0) (N := ["people", "others"]) G_check_alike.fn sc fun cdv A outer s H E hr => ?_
  have hu := hr.units
  let N : List Str := ["people", "others"]
  exact (zlast (zifs (ztc (oneF hu) (zv 0) (zv 1))
    (zlast znever) znil))
/-! groups -/
abbrev s_groups : Stmt := top 22
abbrev N_groups : List Str := ["people"]
theorem sc_groups : FnScope ["people", "size", "group"] N_groups (defScope s_groups) := ⟨rfl, rfl, rfl, by decide +kernel, rfl, by decide +kernel, by decide +kernel⟩
def r_groups : List D → T D := runB (
    (sRetF (lst (nLc2 (lR2 (aC (eC (.int 1)) (aC (e2 dPlus (eV 0) (eC (.int 1))) aN))) (gIF 1) bYes (lComb (eV 0) (eV 1)) (gIF 2) bYes (eV 2) [1, 2] [2])))) 3
def c_groups_0 : D := .lst [.tup [i0], .tup [i1], .tup [i0, i1]]
theorem e_groups_0 : r_groups [.int (.ofNat 2)] = .ret c_groups_0 := by kernel_rfl
def c_groups_1 : D := .lst [.tup [i0], .tup [i1], .tup [i2], .tup [i0, i1], .tup [i0, i2], .tup [i1, i2], .tup [i0, i1, i2]]
theorem e_groups_1 : r_groups [.int (.ofNat 3)] = .ret c_groups_1 := by kernel_rfl
def m_groups : List D → T D
  | [.int (.ofNat 2)] => .ret c_groups_0
  | [.int (.ofNat 3)] => .ret c_groups_1
  | x => r_groups x
theorem m_groups_eq : m_groups = r_groups := by
  funext x
  unfold m_groups
  split
  · exact (e_groups_0).symm
  · exact (e_groups_1).symm
  · rfl
theorem ok_groups {a_groups : Addr} {d_groups : FuncData} (G_groups : Gd K mg "groups" s_groups N_groups a_groups d_groups) (Tx : Txt K mg aP) : FnOk P w K mg base CX0 1 a_groups d_groups N_groups (spP K F0 m_groups 1) := by
  have sc := sc_groups
  rw [m_groups_eq]
  refine zdef (F := F0) (N := ["people", "size", "group"]) G_groups.fn sc fun cdv A outer s H E hr => ?_
  have hu := hr.units
  let N : List Str := ["people", "size", "group"]
  exact (zlast (PSf (sRetF_eq _) (zret (PEnl (zlc2 (vs1 := [2]) rfl sc.nd (zir2 (by rfl) Tx.nb_range (zac zint (zac (zop oplus (zv 0) zint) zan))) (blkOk_by (own := [("size", 1), ("group", 2)]) (N := N) (sc := (defScope s_groups)) (by decide +kernel)) (by decide) (TgCf (gIF_eq _) (zgc_name (by decide))) (TgCf (gIF_eq _) (zgc_name (by decide))) (fun _ _ _ _ _ => (pg_name (i := 1) sc.nd rfl (by first | exact Or.inl rfl | exact Or.inr rfl))) (fun _ _ _ _ _ => ztyes) (fun _ _ _ _ _ => (zicb rfl (by rfl) Tx.mg_combinations (by rfl) Tx.nb_range (zv 0) (zv 1))) (fun _ _ _ _ _ => (pg_name (i := 2) sc.nd rfl (by first | exact Or.inl rfl | exact Or.inr rfl))) (fun _ _ _ _ _ => ztyes) (fun _ _ _ _ _ => (zv 2)))))))
/-! check_people -/
abbrev s_check_people : Stmt := top 11
abbrev N_check_people : List Str := ["people"]
theorem sc_check_people : FnScope ["people"] N_check_people (defScope s_check_people) := ⟨rfl, rfl, rfl, by decide +kernel, rfl, by decide +kernel, by decide +kernel⟩
def r_check_people : List D → T D := runB (
    (sIf (bOr (b1 (e2 dIsNotTy (e1 dTy (eV 0)) (eC (.ty "int")))) (b1 (eInF true (eV 0) (lSeq (eC (.tup [.int 2, .int 3]))))))
    sFail sNil)) 1
theorem ok_check_people {a_check_people : Addr} {d_check_people : FuncData} (G_check_people : Gd K mg "check_people" s_check_people N_check_people a_check_people d_check_people) (Tx : Txt K mg aP) : FnOk P w K mg base CX0 1 a_check_people d_check_people N_check_people (spP K F0 r_check_people 1) := by
  have sc := sc_check_people
  refine zdef (F := F0) (N := ["people"]) G_check_people.fn sc fun cdv A outer s H E hr => ?_
  have hu := hr.units
  let N : List Str := ["people"]
  exact (zlast (zifs (PW.pt (ztor (ztc oisNotTy (ztype (by rfl) Tx.nb_type (zv 0)) (zty (by rfl) Tx.nb_int boot_int)) (ztor1 (PTf (eInF_eq _ _ _) (ztni (zv 0) (PEseq (zgl (by rfl) Tx.mg_PEOPLE fun m H => Tx.rep_PEOPLE m H)))))))
    (zlast znever) znil))
/-! dealings -/
abbrev s_dealings : Stmt := top 17
abbrev N_dealings : List Str := ["people"]
theorem sc_dealings : FnScope ["people"] N_dealings (defScope s_dealings) := ⟨rfl, rfl, rfl, by decide +kernel, rfl, by decide +kernel, by decide +kernel⟩
def r_dealings : List D → T D := runB (
    (sSeq (sDrop (eCall r_check_people 1 (aC (eV 0) aN)))
    (sRetF (e1 permD (eV 0))))) 1
def c_dealings_0 : D := .tup [.tup [i0, i1], .tup [i1, i0]]
theorem e_dealings_0 : r_dealings [.int (.ofNat 2)] = .ret c_dealings_0 := by kernel_rfl
def c_dealings_1 : D := .tup [.tup [i0, i1, i2], .tup [i0, i2, i1], .tup [i1, i0, i2], .tup [i1, i2, i0], .tup [i2, i0, i1], .tup [i2, i1, i0]]
theorem e_dealings_1 : r_dealings [.int (.ofNat 3)] = .ret c_dealings_1 := by kernel_rfl
def m_dealings : List D → T D
  | [.int (.ofNat 2)] => .ret c_dealings_0
  | [.int (.ofNat 3)] => .ret c_dealings_1
  | x => r_dealings x
theorem m_dealings_eq : m_dealings = r_dealings := by
  funext x
  unfold m_dealings
  split
  · exact (e_dealings_0).symm
  · exact (e_dealings_1).symm
  · rfl
theorem ok_dealings {a_dealings : Addr} {d_dealings : FuncData} (G_dealings : Gd K mg "dealings" s_dealings N_dealings a_dealings d_dealings) (Tx : Txt K mg aP) {a_check_people : Addr} {d_check_people : FuncData} (G_check_people : Gd K mg "check_people" s_check_people N_check_people a_check_people d_check_people) (O_check_people : FnOk P w K mg base CX0 1 a_check_people d_check_people N_check_people (spP K F0 r_check_people 1)) : FnOk P w K mg base CX0 2 a_dealings d_dealings N_dealings (spP K F0 m_dealings 1) := by
  have sc := sc_dealings
  rw [m_dealings_eq]
  refine zdef (F := F0) (N := ["people"]) G_dealings.fn sc fun cdv A outer s H E hr => ?_
  have hu := hr.units
  let N : List Str := ["people"]
  exact (zcons (zdrop ((zcall O_check_people (hr.mono (by omega)) (by rfl) G_check_people.mg G_check_people.kp G_check_people.b (zac (zv 0) zan))))
    (zlast (PSf (sRetF_eq _) (zret (zperm rfl (by rfl) Tx.nb_tuple (by rfl) Tx.mg_permutations (by rfl) Tx.nb_range (zv 0))))))
/-! is_within -/
abbrev s_is_within : Stmt := top 23
abbrev N_is_within : List Str := ["group", "dealing"]
theorem sc_is_within : FnScope ["group", "dealing", "person", "thing"] N_is_within (defScope s_is_within) := ⟨rfl, rfl, rfl, by decide +kernel, rfl, by decide +kernel, by decide +kernel⟩
def r_is_within : List D → T D := runB (
    (sRetF (eAll (nLc (lEnum (eV 1)) (g2E 2 3) bYes (eOr (eInF false (eV 2) (lSeq (eV 0))) (e2 dEqF (eV 3) (eV 2))) [2, 3])))) 4
theorem ok_is_within {a_is_within : Addr} {d_is_within : FuncData} (G_is_within : Gd K mg "is_within" s_is_within N_is_within a_is_within d_is_within) (Tx : Txt K mg aP) : FnOk P w K mg base CX0 1 a_is_within d_is_within N_is_within (spP K F0 r_is_within 2) := by
  have sc := sc_is_within
  refine zdef (F := F0) (N := ["group", "dealing", "person", "thing"]) G_is_within.fn sc fun cdv A outer s H E hr => ?_
  have hu := hr.units
  let N : List Str := ["group", "dealing", "person", "thing"]
  exact (zlast (PSf (sRetF_eq _) (zret (zall rfl (by rfl) Tx.nb_all (zlc rfl sc.nd (zienum (by rfl) Tx.nb_enumerate (zv 1)) (blkOk_by (own := [("person", 2), ("thing", 3)]) (N := N) (sc := (defScope s_is_within)) (by decide +kernel)) (TgCf (g2E_eq _ _) (zgc_pair (by decide) (by decide))) (fun _ _ _ _ _ => (pg_tup rfl (pgs_cons (pg_name (i := 2) sc.nd rfl (by first | exact Or.inl rfl | exact Or.inr rfl)) (pgs_cons (pg_name (i := 3) sc.nd rfl (by first | exact Or.inl rfl | exact Or.inr rfl)) pgs_nil)))) (fun _ _ _ _ _ => ztyes) (fun _ _ _ _ _ => (zor (PEf (eInF_eq _ _ _) (zin (zv 2) (PEseq (zv 0)))) (zone (zcmp (oeqF hu) (zv 3) (zv 2))))))))))
/-! is_better -/
abbrev s_is_better : Stmt := top 20
abbrev N_is_better : List Str := ["row", "group", "dealing", "other"]
theorem sc_is_better : FnScope ["row", "group", "dealing", "other", "changed", "person", "ranking"] N_is_better (defScope s_is_better) := ⟨rfl, rfl, rfl, by decide +kernel, rfl, by decide +kernel, by decide +kernel⟩
def r_is_better : List D → T D := runB (
    (sSeq (sSet 4 (eC (.bl false)))
    (sSeq (sFor (lSeq (eV 1)) (gIX 5)
    (sSeq (sSet 6 (eIx (lSeq (eV 0)) (eV 5)))
    (sSeq (sIf (b1 (e2 dGt (eIdxF (eV 6) (eIx (lSeq (eV 2)) (eV 5))) (eIdxF (eV 6) (eIx (lSeq (eV 3)) (eV 5)))))
    (sRet (eC (.bl false))) sNil)
    (sIf (b1 (e2 dNeF (eIx (lSeq (eV 2)) (eV 5)) (eIx (lSeq (eV 3)) (eV 5))))
    (sSet 4 (eC (.bl true))) sNil))))
    (sRet (eV 4))))) 7
theorem ok_is_better {a_is_better : Addr} {d_is_better : FuncData} (G_is_better : Gd K mg "is_better" s_is_better N_is_better a_is_better d_is_better) (Tx : Txt K mg aP) : FnOk P w K mg base CX0 1 a_is_better d_is_better N_is_better (spP K F0 r_is_better 4) := by
  have sc := sc_is_better
  refine zdef (F := F0) (N := ["row", "group", "dealing", "other", "changed", "person", "ranking"]) G_is_better.fn sc fun cdv A outer s H E hr => ?_
  have hu := hr.units
  let N : List Str := ["row", "group", "dealing", "other", "changed", "person", "ranking"]
  exact (zcons (zset (i := 4) sc.nd rfl (by first | exact Or.inl rfl | exact Or.inr rfl) zbl)
    (zcons (zfor PassesOwn.never rfl (zis (zv 1)) (pg_name (i := 5) sc.nd rfl (by first | exact Or.inl rfl | exact Or.inr rfl)) (TgRf (gIX_eq _) (zg_name 5))
    (zcons (zset (i := 6) sc.nd rfl (by first | exact Or.inl rfl | exact Or.inr rfl) (zix (PEseq (zv 0)) (zv 5)))
    (zcons (zifs (ztc ogtF (PEf (eIdxF_eq _ _) (zidx (zv 6) (zix (PEseq (zv 2)) (zv 5)))) (PEf (eIdxF_eq _ _) (zidx (zv 6) (zix (PEseq (zv 3)) (zv 5)))))
    (zlast (zret zbl)) znil)
    (zlast (zifs (ztc (oneF hu) (zix (PEseq (zv 2)) (zv 5)) (zix (PEseq (zv 3)) (zv 5)))
    (zlast (zset (i := 4) sc.nd rfl (by first | exact Or.inl rfl | exact Or.inr rfl) zbl)) znil)))))
    (zlast (zret (zv 4)))))
/-! blocks -/
abbrev s_blocks : Stmt := top 24
abbrev N_blocks : List Str := ["row", "group", "dealing"]
theorem sc_blocks : FnScope ["row", "group", "dealing", "other"] N_blocks (defScope s_blocks) := ⟨rfl, rfl, rfl, by decide +kernel, rfl, by decide +kernel, by decide +kernel⟩
def r_blocks : List D → T D := runB (
    (sSeq (sFor (lSeq (eCall m_dealings 1 (aCF (eLen (lSeq (eV 0))) aN))) (gIX 3)
    (sIf (bAnd (b1 (eCall r_is_within 2 (aC (eV 1) (aC (eV 3) aN)))) (b1 (eCall r_is_better 4 (aC (eV 0) (aC (eV 1) (aC (eV 3) (aC (eV 2) aN)))))))
    (sRet (eC (.bl true))) sNil))
    (sRet (eC (.bl false))))) 4
theorem ok_blocks {a_blocks : Addr} {d_blocks : FuncData} (G_blocks : Gd K mg "blocks" s_blocks N_blocks a_blocks d_blocks) (Tx : Txt K mg aP) {a_dealings : Addr} {d_dealings : FuncData} (G_dealings : Gd K mg "dealings" s_dealings N_dealings a_dealings d_dealings) (O_dealings : FnOk P w K mg base CX0 2 a_dealings d_dealings N_dealings (spP K F0 m_dealings 1)) {a_is_within : Addr} {d_is_within : FuncData} (G_is_within : Gd K mg "is_within" s_is_within N_is_within a_is_within d_is_within) (O_is_within : FnOk P w K mg base CX0 1 a_is_within d_is_within N_is_within (spP K F0 r_is_within 2)) {a_is_better : Addr} {d_is_better : FuncData} (G_is_better : Gd K mg "is_better" s_is_better N_is_better a_is_better d_is_better) (O_is_better : FnOk P w K mg base CX0 1 a_is_better d_is_better N_is_better (spP K F0 r_is_better 4)) : FnOk P w K mg base CX0 3 a_blocks d_blocks N_blocks (spP K F0 r_blocks 3) := by
  have sc := sc_blocks
  refine zdef (F := F0) (N := ["row", "group", "dealing", "other"]) G_blocks.fn sc fun cdv A outer s H E hr => ?_
  have hu := hr.units
  let N : List Str := ["row", "group", "dealing", "other"]
  exact (zcons (zfor PassesOwn.never rfl (zis ((zcall O_dealings (hr.mono (by omega)) (by rfl) G_dealings.mg G_dealings.kp G_dealings.b (PAf (aCF_eq _ _) (zac (zlen (by rfl) Tx.nb_len (PEseq (zv 0))) zan))))) (pg_name (i := 3) sc.nd rfl (by first | exact Or.inl rfl | exact Or.inr rfl)) (TgRf (gIX_eq _) (zg_name 3))
    (zlast (zifs (PW.pt (ztand (ztv ((zcall O_is_within (hr.mono (by omega)) (by rfl) G_is_within.mg G_is_within.kp G_is_within.b (zac (zv 1) (zac (zv 3) zan))))) (ztand1 (ztv ((zcall O_is_better (hr.mono (by omega)) (by rfl) G_is_better.mg G_is_better.kp G_is_better.b (zac (zv 0) (zac (zv 1) (zac (zv 3) (zac (zv 2) zan))))))))))
    (zlast (zret zbl)) znil)))
    (zlast (zret zbl)))
/-! blocking_group -/
abbrev s_blocking_group : Stmt := top 25
abbrev N_blocking_group : List Str := ["row", "dealing"]
theorem sc_blocking_group : FnScope ["row", "dealing", "group"] N_blocking_group (defScope s_blocking_group) := ⟨rfl, rfl, rfl, by decide +kernel, rfl, by decide +kernel, by decide +kernel⟩
def r_blocking_group : List D → T D := runB (
    (sSeq (sDrop (eCall r_check_row 1 (aC (eV 0) aN)))
    (sSeq (sDrop (eCall r_check_dealing 1 (aC (eV 1) aN)))
    (sSeq (sDrop (eCall r_check_alike 2 (aCF (eLen (lSeq (eV 0))) (aCF (eLen (lSeq (eV 1))) aN))))
    (sSeq (sFor (lSeq (eCall m_groups 1 (aCF (eLen (lSeq (eV 0))) aN))) (gIX 2)
    (sIf (b1 (eCall r_blocks 3 (aC (eV 0) (aC (eV 2) (aC (eV 1) aN)))))
    (sRet (eV 2)) sNil))
    (sRet (eC .non))))))) 3
theorem ok_blocking_group {a_blocking_group : Addr} {d_blocking_group : FuncData} (G_blocking_group : Gd K mg "blocking_group" s_blocking_group N_blocking_group a_blocking_group d_blocking_group) (Tx : Txt K mg aP) {a_check_row : Addr} {d_check_row : FuncData} (G_check_row : Gd K mg "check_row" s_check_row N_check_row a_check_row d_check_row) (O_check_row : FnOk P w K mg base CX0 4 a_check_row d_check_row N_check_row (spP K F0 r_check_row 1)) {a_check_dealing : Addr} {d_check_dealing : FuncData} (G_check_dealing : Gd K mg "check_dealing" s_check_dealing N_check_dealing a_check_dealing d_check_dealing) (O_check_dealing : FnOk P w K mg base CX0 3 a_check_dealing d_check_dealing N_check_dealing (spP K F0 r_check_dealing 1)) {a_check_alike : Addr} {d_check_alike : FuncData} (G_check_alike : Gd K mg "check_alike" s_check_alike N_check_alike a_check_alike d_check_alike) (O_check_alike : FnOk P w K mg base CX0 1 a_check_alike d_check_alike N_check_alike (spP K F0 r_check_alike 2)) {a_groups : Addr} {d_groups : FuncData} (G_groups : Gd K mg "groups" s_groups N_groups a_groups d_groups) (O_groups : FnOk P w K mg base CX0 1 a_groups d_groups N_groups (spP K F0 m_groups 1)) {a_blocks : Addr} {d_blocks : FuncData} (G_blocks : Gd K mg "blocks" s_blocks N_blocks a_blocks d_blocks) (O_blocks : FnOk P w K mg base CX0 3 a_blocks d_blocks N_blocks (spP K F0 r_blocks 3)) : FnOk P w K mg base CX0 5 a_blocking_group d_blocking_group N_blocking_group (spP K F0 r_blocking_group 2) := by
  have sc := sc_blocking_group
  refine zdef (F := F0) (N := ["row", "dealing", "group"]) G_blocking_group.fn sc fun cdv A outer s H E hr => ?_
  have hu := hr.units
  let N : List Str := ["row", "dealing", "group"]
  exact (zcons (zdrop ((zcall O_check_row (hr.mono (by omega)) (by rfl) G_check_row.mg G_check_row.kp G_check_row.b (zac (zv 0) zan))))
    (zcons (zdrop ((zcall O_check_dealing (hr.mono (by omega)) (by rfl) G_check_dealing.mg G_check_dealing.kp G_check_dealing.b (zac (zv 1) zan))))
    (zcons (zdrop ((zcall O_check_alike (hr.mono (by omega)) (by rfl) G_check_alike.mg G_check_alike.kp G_check_alike.b (PAf (aCF_eq _ _) (zac (zlen (by rfl) Tx.nb_len (PEseq (zv 0))) (PAf (aCF_eq _ _) (zac (zlen (by rfl) Tx.nb_len (PEseq (zv 1))) zan)))))))
    (zcons (zfor PassesOwn.never rfl (zis ((zcall O_groups (hr.mono (by omega)) (by rfl) G_groups.mg G_groups.kp G_groups.b (PAf (aCF_eq _ _) (zac (zlen (by rfl) Tx.nb_len (PEseq (zv 0))) zan))))) (pg_name (i := 2) sc.nd rfl (by first | exact Or.inl rfl | exact Or.inr rfl)) (TgRf (gIX_eq _) (zg_name 2))
    (zlast (zifs (ztv ((zcall O_blocks (hr.mono (by omega)) (by rfl) G_blocks.mg G_blocks.kp G_blocks.b (zac (zv 0) (zac (zv 2) (zac (zv 1) zan))))))
    (zlast (zret (zv 2))) znil)))
    (zlast (zret znon))))))
/-! _law_orders -/
abbrev s_law_orders : Stmt := top 30
abbrev N_law_orders : List Str := ["many"]
theorem sc_law_orders : FnScope ["many", "found", "turn", "longer", "one", "number"] N_law_orders (defScope s_law_orders) := ⟨rfl, rfl, rfl, by decide +kernel, rfl, by decide +kernel, by decide +kernel⟩
def r_law_orders : List D → T D := runB (
    (sSeq (sSetV 1 (lst (nL (aC (eT aN) aN))))
    (sSeq (sFor (lR1 (aC (eV 0) aN)) (gIF 2)
    (sSeq (sSetV 3 (lst (nL aN)))
    (sSeq (sFor (lSeq (eV 1)) (gIX 4)
    (sSetV 3 (e2 dPlus (eV 3) (lst (nLc (lR1 (aC (eV 0) aN)) (gIF 5) (b1 (eInF true (eV 5) (lSeq (eV 4)))) (e2 dPlus (eV 4) (eT (aC (eV 5) aN))) [5])))))
    (sSet 1 (eV 3)))))
    (sRet (eV 1))))) 6
def c_law_orders_0 : D := .lst [.tup [i0, i1], .tup [i1, i0]]
theorem e_law_orders_0 : r_law_orders [.int (.ofNat 2)] = .ret c_law_orders_0 := by kernel_rfl
def c_law_orders_1 : D := .lst [.tup [i0, i1, i2], .tup [i0, i2, i1], .tup [i1, i0, i2], .tup [i1, i2, i0], .tup [i2, i0, i1], .tup [i2, i1, i0]]
theorem e_law_orders_1 : r_law_orders [.int (.ofNat 3)] = .ret c_law_orders_1 := by kernel_rfl
def m_law_orders : List D → T D
  | [.int (.ofNat 2)] => .ret c_law_orders_0
  | [.int (.ofNat 3)] => .ret c_law_orders_1
  | x => r_law_orders x
theorem m_law_orders_eq : m_law_orders = r_law_orders := by
  funext x
  unfold m_law_orders
  split
  · exact (e_law_orders_0).symm
  · exact (e_law_orders_1).symm
  · rfl
theorem ok_law_orders {a_law_orders : Addr} {d_law_orders : FuncData} (G_law_orders : Gd K mg "_law_orders" s_law_orders N_law_orders a_law_orders d_law_orders) (Tx : Txt K mg aP) : FnOk P w K mg base CX0 1 a_law_orders d_law_orders N_law_orders (spP K F0 m_law_orders 1) := by
  have sc := sc_law_orders
  rw [m_law_orders_eq]
  refine zdef (F := F0) (N := ["many", "found", "turn", "longer", "one", "number"]) G_law_orders.fn sc fun cdv A outer s H E hr => ?_
  have hu := hr.units
  let N : List Str := ["many", "found", "turn", "longer", "one", "number"]
  exact (zcons (PSf (sSetV_eq _ _) (zset (i := 1) sc.nd rfl (by first | exact Or.inl rfl | exact Or.inr rfl) (PEnl (zl (zac (zt zan) zan)))))
    (zcons (zfor PassesOwn.never rfl (zir1 (by rfl) Tx.nb_range (zac (zv 0) zan)) (pg_name (i := 2) sc.nd rfl (by first | exact Or.inl rfl | exact Or.inr rfl)) (TgRf (gIF_eq _) (zg_name 2))
    (zcons (PSf (sSetV_eq _ _) (zset (i := 3) sc.nd rfl (by first | exact Or.inl rfl | exact Or.inr rfl) (PEnl (zl zan))))
    (zcons (zfor PassesOwn.never rfl (zis (zv 1)) (pg_name (i := 4) sc.nd rfl (by first | exact Or.inl rfl | exact Or.inr rfl)) (TgRf (gIX_eq _) (zg_name 4))
    (zlast (PSf (sSetV_eq _ _) (zset (i := 3) sc.nd rfl (by first | exact Or.inl rfl | exact Or.inr rfl) (zop oplus (zv 3) (PEnl (zlc rfl sc.nd (zir1 (by rfl) Tx.nb_range (zac (zv 0) zan)) (blkOk_by (own := [("number", 5)]) (N := N) (sc := (defScope s_law_orders)) (by decide +kernel)) (TgCf (gIF_eq _) (zgc_name (by decide))) (fun _ _ _ _ _ => (pg_name (i := 5) sc.nd rfl (by first | exact Or.inl rfl | exact Or.inr rfl))) (fun _ _ _ _ _ => (ztone (PTf (eInF_eq _ _ _) (ztni (zv 5) (PEseq (zv 4)))))) (fun _ _ _ _ _ => (zop oplus (zv 4) (zt (zac (zv 5) zan)))))))))))
    (zlast (zset (i := 1) sc.nd rfl (by first | exact Or.inl rfl | exact Or.inr rfl) (zv 3))))))
    (zlast (zret (zv 1)))))
/-! _law_before -/
abbrev s_law_before : Stmt := top 32
abbrev N_law_before : List Str := ["ranking", "one", "other"]
theorem sc_law_before : FnScope ["ranking", "one", "other"] N_law_before (defScope s_law_before) := ⟨rfl, rfl, rfl, by decide +kernel, rfl, by decide +kernel, by decide +kernel⟩
def r_law_before : List D → T D := runB (
    (sRetF (e2 dLt (eIdxF (eV 0) (eV 1)) (eIdxF (eV 0) (eV 2))))) 3
theorem ok_law_before {a_law_before : Addr} {d_law_before : FuncData} (G_law_before : Gd K mg "_law_before" s_law_before N_law_before a_law_before d_law_before) (Tx : Txt K mg aP) : FnOk P w K mg base CX0 1 a_law_before d_law_before N_law_before (spP K F0 r_law_before 3) := by
  have sc := sc_law_before
  refine zdef (F := F0) (N := ["ranking", "one", "other"]) G_law_before.fn sc fun cdv A outer s H E hr => ?_
  have hu := hr.units
  let N : List Str := ["ranking", "one", "other"]
  exact (zlast (PSf (sRetF_eq _) (zret (zcmp oltF (PEf (eIdxF_eq _ _) (zidx (zv 0) (zv 1))) (PEf (eIdxF_eq _ _) (zidx (zv 0) (zv 2)))))))
/-! _law_gains -/
abbrev s_law_gains : Stmt := top 33
abbrev N_law_gains : List Str := ["row", "dealing", "other", "group"]
theorem sc_law_gains : FnScope ["row", "dealing", "other", "group", "worse", "who"] N_law_gains (defScope s_law_gains) := ⟨rfl, rfl, rfl, by decide +kernel, rfl, by decide +kernel, by decide +kernel⟩
def r_law_gains : List D → T D := runB (
    (sSeq (sSetV 4 (lst (nLc (lSeq (eV 3)) (gIX 5) (b1 (eCall r_law_before 3 (aC (eIx (lSeq (eV 0)) (eV 5)) (aC (eIx (lSeq (eV 2)) (eV 5)) (aC (eIx (lSeq (eV 1)) (eV 5)) aN))))) (eV 5) [5])))
    (sRetF (eAnd (e2 dEqF (eV 4) (lst (nL aN))) (e2 dNeF (lst (nLc (lSeq (eV 3)) (gIX 5) (b1 (e2 dNeF (eIx (lSeq (eV 1)) (eV 5)) (eIx (lSeq (eV 2)) (eV 5)))) (eV 5) [5])) (lst (nL aN))))))) 6
theorem ok_law_gains {a_law_gains : Addr} {d_law_gains : FuncData} (G_law_gains : Gd K mg "_law_gains" s_law_gains N_law_gains a_law_gains d_law_gains) (Tx : Txt K mg aP) {a_law_before : Addr} {d_law_before : FuncData} (G_law_before : Gd K mg "_law_before" s_law_before N_law_before a_law_before d_law_before) (O_law_before : FnOk P w K mg base CX0 1 a_law_before d_law_before N_law_before (spP K F0 r_law_before 3)) : FnOk P w K mg base CX0 2 a_law_gains d_law_gains N_law_gains (spP K F0 r_law_gains 4) := by
  have sc := sc_law_gains
  refine zdef (F := F0) (N := ["row", "dealing", "other", "group", "worse", "who"]) G_law_gains.fn sc fun cdv A outer s H E hr => ?_
  have hu := hr.units
  let N : List Str := ["row", "dealing", "other", "group", "worse", "who"]
  exact (zcons (PSf (sSetV_eq _ _) (zsetLc (i := 4) rfl sc.nd rfl rfl (zis (zv 3)) (blkOk_by (own := [("who", 5)]) (N := N) (sc := (defScope s_law_gains)) (by decide +kernel)) (TgCf (gIX_eq _) (zgc_name (by decide))) (fun _ _ _ _ _ => (pg_name (i := 5) sc.nd rfl (by first | exact Or.inl rfl | exact Or.inr rfl))) (fun _ _ _ _ _ => (ztone (ztv ((zcall O_law_before (hr.mono (by omega)) (by rfl) G_law_before.mg G_law_before.kp G_law_before.b (zac (zix (PEseq (zv 0)) (zv 5)) (zac (zix (PEseq (zv 2)) (zv 5)) (zac (zix (PEseq (zv 1)) (zv 5)) zan)))))))) (fun _ _ _ _ _ => (zv 5)) (sw_true rfl rfl rfl (by decide +kernel))))
    (zlast (PSf (sRetF_eq _) (zret (zand (zcmp (oeqF hu) (zv 4) (PEnl (zl zan))) (zone (zcmp (oneF hu) (PEnl (zlc rfl sc.nd (zis (zv 3)) (blkOk_by (own := [("who", 5)]) (N := N) (sc := (defScope s_law_gains)) (by decide +kernel)) (TgCf (gIX_eq _) (zgc_name (by decide))) (fun _ _ _ _ _ => (pg_name (i := 5) sc.nd rfl (by first | exact Or.inl rfl | exact Or.inr rfl))) (fun _ _ _ _ _ => (ztone (ztc (oneF hu) (zix (PEseq (zv 1)) (zv 5)) (zix (PEseq (zv 2)) (zv 5))))) (fun _ _ _ _ _ => (zv 5)))) (PEnl (zl zan)))))))))
/-! _law_blocker -/
abbrev s_law_blocker : Stmt := top 35
abbrev N_law_blocker : List Str := ["row", "dealing"]
theorem sc_law_blocker : FnScope ["row", "dealing", "people", "groups_v", "some", "one", "group", "who"] N_law_blocker (defScope s_law_blocker) := ⟨rfl, rfl, rfl, by decide +kernel, rfl, by decide +kernel, by decide +kernel⟩
def r_law_blocker : List D → T D := runB (
    (sSeq (sParF 2 3 (lst (rg1 (eLen (lSeq (eV 0))))) (lst (nL (aC (eT (aC (eC (.int 0)) aN)) (aC (eT (aC (eC (.int 1)) aN)) (aC (eT (aC (eC (.int 0)) (aC (eC (.int 1)) aN))) aN))))))
    (sSeq (sIf (b1 (e2 dEqF (eLen (lSeq (eV 0))) (eC (.int 3))))
    (sSetV 3 (lst (nL (aC (eT (aC (eC (.int 0)) aN)) (aC (eT (aC (eC (.int 1)) aN)) (aC (eT (aC (eC (.int 2)) aN)) (aC (eT (aC (eC (.int 0)) (aC (eC (.int 1)) aN))) (aC (eT (aC (eC (.int 0)) (aC (eC (.int 2)) aN))) (aC (eT (aC (eC (.int 1)) (aC (eC (.int 2)) aN))) (aC (eT (aC (eC (.int 0)) (aC (eC (.int 1)) (aC (eC (.int 2)) aN)))) aN)))))))))) sNil)
    (sSeq (sSetV 4 (lst (nLc (lSeq (eCall m_law_orders 1 (aCF (eLen (lSeq (eV 0))) aN))) (gIX 5) (b1 (e2 dNeF (eV 5) (eV 1))) (eV 5) [5])))
    (sSeq (sFor (lSeq (eV 3)) (gIX 6)
    (sFor (lSeq (eV 4)) (gIX 5)
    (sIf (bAnd (b1 (eCall r_law_gains 4 (aC (eV 0) (aC (eV 5) (aC (eV 1) (aC (eV 6) aN)))))) (b1 (e2 dEqF (lst (nSort (nLc (lSeq (eV 6)) (gIX 7) bYes (eIx (lSeq (eV 5)) (eV 7)) [7]))) (lst (lSeq (eV 6))))))
    (sIf (b1 (e2 dEqF (lst (nLc (lSeq (eV 2)) (gIX 7) (bAnd (b1 (eInF true (eV 7) (lSeq (eV 6)))) (b1 (e2 dNeF (eIx (lSeq (eV 5)) (eV 7)) (eV 7)))) (eV 7) [7])) (lst (nL aN))))
    (sRet (eV 6)) sNil) sNil)))
    (sRet (eC .non))))))) 8
theorem ok_law_blocker {a_law_blocker : Addr} {d_law_blocker : FuncData} (G_law_blocker : Gd K mg "_law_blocker" s_law_blocker N_law_blocker a_law_blocker d_law_blocker) (Tx : Txt K mg aP) {a_law_orders : Addr} {d_law_orders : FuncData} (G_law_orders : Gd K mg "_law_orders" s_law_orders N_law_orders a_law_orders d_law_orders) (O_law_orders : FnOk P w K mg base CX0 1 a_law_orders d_law_orders N_law_orders (spP K F0 m_law_orders 1)) {a_law_gains : Addr} {d_law_gains : FuncData} (G_law_gains : Gd K mg "_law_gains" s_law_gains N_law_gains a_law_gains d_law_gains) (O_law_gains : FnOk P w K mg base CX0 2 a_law_gains d_law_gains N_law_gains (spP K F0 r_law_gains 4)) : FnOk P w K mg base CX0 3 a_law_blocker d_law_blocker N_law_blocker (spP K F0 r_law_blocker 2) := by
  have sc := sc_law_blocker
  refine zdef (F := F0) (N := ["row", "dealing", "people", "groups_v", "some", "one", "group", "who"]) G_law_blocker.fn sc fun cdv A outer s H E hr => ?_
  have hu := hr.units
  let N : List Str := ["row", "dealing", "people", "groups_v", "some", "one", "group", "who"]
  exact (zcons (PSf (sParF_eq _ _ _ _) (zpar (i := 2) (j := 3) rfl sc.nd rfl rfl (by decide) rfl rfl (PEnl (zlistRg rfl (by rfl) Tx.nb_list (by rfl) Tx.nb_range (zlen (by rfl) Tx.nb_len (PEseq (zv 0))))) (PEnl (zl (zac (zt (zac zint zan)) (zac (zt (zac zint zan)) (zac (zt (zac zint (zac zint zan))) zan))))) (by with_unfolding_all rfl)))
    (zcons (zifs (ztc (oeqF hu) (zlen (by rfl) Tx.nb_len (PEseq (zv 0))) zint)
    (zlast (PSf (sSetV_eq _ _) (zset (i := 3) sc.nd rfl (by first | exact Or.inl rfl | exact Or.inr rfl) (PEnl (zl (zac (zt (zac zint zan)) (zac (zt (zac zint zan)) (zac (zt (zac zint zan)) (zac (zt (zac zint (zac zint zan))) (zac (zt (zac zint (zac zint zan))) (zac (zt (zac zint (zac zint zan))) (zac (zt (zac zint (zac zint (zac zint zan)))) zan)))))))))))) znil)
    (zcons (PSf (sSetV_eq _ _) (zsetLc (i := 4) rfl sc.nd rfl rfl (zis ((zcall O_law_orders (hr.mono (by omega)) (by rfl) G_law_orders.mg G_law_orders.kp G_law_orders.b (PAf (aCF_eq _ _) (zac (zlen (by rfl) Tx.nb_len (PEseq (zv 0))) zan))))) (blkOk_by (own := [("one", 5)]) (N := N) (sc := (defScope s_law_blocker)) (by decide +kernel)) (TgCf (gIX_eq _) (zgc_name (by decide))) (fun _ _ _ _ _ => (pg_name (i := 5) sc.nd rfl (by first | exact Or.inl rfl | exact Or.inr rfl))) (fun _ _ _ _ _ => (ztone (ztc (oneF hu) (zv 5) (zv 1)))) (fun _ _ _ _ _ => (zv 5)) (sw_true rfl rfl rfl (by decide +kernel))))
    (zcons (zfor PassesOwn.never rfl (zis (zv 3)) (pg_name (i := 6) sc.nd rfl (by first | exact Or.inl rfl | exact Or.inr rfl)) (TgRf (gIX_eq _) (zg_name 6))
    (zlast (zfor PassesOwn.never rfl (zis (zv 4)) (pg_name (i := 5) sc.nd rfl (by first | exact Or.inl rfl | exact Or.inr rfl)) (TgRf (gIX_eq _) (zg_name 5))
    (zlast (zifs (PW.pt (ztand (ztv ((zcall O_law_gains (hr.mono (by omega)) (by rfl) G_law_gains.mg G_law_gains.kp G_law_gains.b (zac (zv 0) (zac (zv 5) (zac (zv 1) (zac (zv 6) zan))))))) (ztand1 (ztc (oeqF hu) (PEnl (zsortI (by rfl) Tx.nb_sorted (zlc rfl sc.nd (zis (zv 6)) (blkOk_by (own := [("who", 7)]) (N := N) (sc := (defScope s_law_blocker)) (by decide +kernel)) (TgCf (gIX_eq _) (zgc_name (by decide))) (fun _ _ _ _ _ => (pg_name (i := 7) sc.nd rfl (by first | exact Or.inl rfl | exact Or.inr rfl))) (fun _ _ _ _ _ => ztyes) (fun _ _ _ _ _ => (zix (PEseq (zv 5)) (zv 7)))))) (PEnl (zlistOf (by rfl) Tx.nb_list (PEseq (zv 6))))))))
    (zlast (zifs (ztc (oeqF hu) (PEnl (zlc rfl sc.nd (zis (zv 2)) (blkOk_by (own := [("who", 7)]) (N := N) (sc := (defScope s_law_blocker)) (by decide +kernel)) (TgCf (gIX_eq _) (zgc_name (by decide))) (fun _ _ _ _ _ => (pg_name (i := 7) sc.nd rfl (by first | exact Or.inl rfl | exact Or.inr rfl))) (fun _ _ _ _ _ => (ztone (PW.pt (ztand (PTf (eInF_eq _ _ _) (ztni (zv 7) (PEseq (zv 6)))) (ztand1 (ztc (oneF hu) (zix (PEseq (zv 5)) (zv 7)) (zv 7))))))) (fun _ _ _ _ _ => (zv 7)))) (PEnl (zl zan)))
    (zlast (zret (zv 6))) znil)) znil)))))
    (zlast (zret znon))))))
/-! _law_rows -/
abbrev s_law_rows : Stmt := top 31
abbrev N_law_rows : List Str := ["people"]
theorem sc_law_rows : FnScope ["people", "found", "turn", "longer", "one", "ranking"] N_law_rows (defScope s_law_rows) := ⟨rfl, rfl, rfl, by decide +kernel, rfl, by decide +kernel, by decide +kernel⟩
def r_law_rows : List D → T D := runB (
    (sSeq (sSetV 1 (lst (nL (aC (eT aN) aN))))
    (sSeq (sFor (lR1 (aC (eV 0) aN)) (gIF 2)
    (sSeq (sSetV 3 (lst (nL aN)))
    (sSeq (sFor (lSeq (eV 1)) (gIX 4)
    (sSetV 3 (e2 dPlus (eV 3) (lst (nLc (lSeq (eCall m_law_orders 1 (aC (eV 0) aN))) (gIX 5) bYes (e2 dPlus (eV 4) (eT (aC (eV 5) aN))) [5])))))
    (sSet 1 (eV 3)))))
    (sRet (eV 1))))) 6
def c_law_rows_0 : D := .lst [.tup [.tup [i0, i1], .tup [i0, i1]], .tup [.tup [i0, i1], .tup [i1, i0]], .tup [.tup [i1, i0], .tup [i0, i1]], .tup [.tup [i1, i0], .tup [i1, i0]]]
theorem e_law_rows_0 : r_law_rows [.int (.ofNat 2)] = .ret c_law_rows_0 := by kernel_rfl
def c_law_rows_1 : D := .lst [.tup [.tup [i0, i1, i2], .tup [i0, i1, i2], .tup [i0, i1, i2]], .tup [.tup [i0, i1, i2], .tup [i0, i1, i2], .tup [i0, i2, i1]], .tup [.tup [i0, i1, i2], .tup [i0, i1, i2], .tup [i1, i0, i2]], .tup [.tup [i0, i1, i2], .tup [i0, i1, i2], .tup [i1, i2, i0]], .tup [.tup [i0, i1, i2], .tup [i0, i1, i2], .tup [i2, i0, i1]], .tup [.tup [i0, i1, i2], .tup [i0, i1, i2], .tup [i2, i1, i0]], .tup [.tup [i0, i1, i2], .tup [i0, i2, i1], .tup [i0, i1, i2]], .tup [.tup [i0, i1, i2], .tup [i0, i2, i1], .tup [i0, i2, i1]], .tup [.tup [i0, i1, i2], .tup [i0, i2, i1], .tup [i1, i0, i2]], .tup [.tup [i0, i1, i2], .tup [i0, i2, i1], .tup [i1, i2, i0]], .tup [.tup [i0, i1, i2], .tup [i0, i2, i1], .tup [i2, i0, i1]], .tup [.tup [i0, i1, i2], .tup [i0, i2, i1], .tup [i2, i1, i0]], .tup [.tup [i0, i1, i2], .tup [i1, i0, i2], .tup [i0, i1, i2]], .tup [.tup [i0, i1, i2], .tup [i1, i0, i2], .tup [i0, i2, i1]], .tup [.tup [i0, i1, i2], .tup [i1, i0, i2], .tup [i1, i0, i2]], .tup [.tup [i0, i1, i2], .tup [i1, i0, i2], .tup [i1, i2, i0]], .tup [.tup [i0, i1, i2], .tup [i1, i0, i2], .tup [i2, i0, i1]], .tup [.tup [i0, i1, i2], .tup [i1, i0, i2], .tup [i2, i1, i0]], .tup [.tup [i0, i1, i2], .tup [i1, i2, i0], .tup [i0, i1, i2]], .tup [.tup [i0, i1, i2], .tup [i1, i2, i0], .tup [i0, i2, i1]], .tup [.tup [i0, i1, i2], .tup [i1, i2, i0], .tup [i1, i0, i2]], .tup [.tup [i0, i1, i2], .tup [i1, i2, i0], .tup [i1, i2, i0]], .tup [.tup [i0, i1, i2], .tup [i1, i2, i0], .tup [i2, i0, i1]], .tup [.tup [i0, i1, i2], .tup [i1, i2, i0], .tup [i2, i1, i0]], .tup [.tup [i0, i1, i2], .tup [i2, i0, i1], .tup [i0, i1, i2]], .tup [.tup [i0, i1, i2], .tup [i2, i0, i1], .tup [i0, i2, i1]], .tup [.tup [i0, i1, i2], .tup [i2, i0, i1], .tup [i1, i0, i2]], .tup [.tup [i0, i1, i2], .tup [i2, i0, i1], .tup [i1, i2, i0]], .tup [.tup [i0, i1, i2], .tup [i2, i0, i1], .tup [i2, i0, i1]], .tup [.tup [i0, i1, i2], .tup [i2, i0, i1], .tup [i2, i1, i0]], .tup [.tup [i0, i1, i2], .tup [i2, i1, i0], .tup [i0, i1, i2]], .tup [.tup [i0, i1, i2], .tup [i2, i1, i0], .tup [i0, i2, i1]], .tup [.tup [i0, i1, i2], .tup [i2, i1, i0], .tup [i1, i0, i2]], .tup [.tup [i0, i1, i2], .tup [i2, i1, i0], .tup [i1, i2, i0]], .tup [.tup [i0, i1, i2], .tup [i2, i1, i0], .tup [i2, i0, i1]], .tup [.tup [i0, i1, i2], .tup [i2, i1, i0], .tup [i2, i1, i0]], .tup [.tup [i0, i2, i1], .tup [i0, i1, i2], .tup [i0, i1, i2]], .tup [.tup [i0, i2, i1], .tup [i0, i1, i2], .tup [i0, i2, i1]], .tup [.tup [i0, i2, i1], .tup [i0, i1, i2], .tup [i1, i0, i2]], .tup [.tup [i0, i2, i1], .tup [i0, i1, i2], .tup [i1, i2, i0]], .tup [.tup [i0, i2, i1], .tup [i0, i1, i2], .tup [i2, i0, i1]], .tup [.tup [i0, i2, i1], .tup [i0, i1, i2], .tup [i2, i1, i0]], .tup [.tup [i0, i2, i1], .tup [i0, i2, i1], .tup [i0, i1, i2]], .tup [.tup [i0, i2, i1], .tup [i0, i2, i1], .tup [i0, i2, i1]], .tup [.tup [i0, i2, i1], .tup [i0, i2, i1], .tup [i1, i0, i2]], .tup [.tup [i0, i2, i1], .tup [i0, i2, i1], .tup [i1, i2, i0]], .tup [.tup [i0, i2, i1], .tup [i0, i2, i1], .tup [i2, i0, i1]], .tup [.tup [i0, i2, i1], .tup [i0, i2, i1], .tup [i2, i1, i0]], .tup [.tup [i0, i2, i1], .tup [i1, i0, i2], .tup [i0, i1, i2]], .tup [.tup [i0, i2, i1], .tup [i1, i0, i2], .tup [i0, i2, i1]], .tup [.tup [i0, i2, i1], .tup [i1, i0, i2], .tup [i1, i0, i2]], .tup [.tup [i0, i2, i1], .tup [i1, i0, i2], .tup [i1, i2, i0]], .tup [.tup [i0, i2, i1], .tup [i1, i0, i2], .tup [i2, i0, i1]], .tup [.tup [i0, i2, i1], .tup [i1, i0, i2], .tup [i2, i1, i0]], .tup [.tup [i0, i2, i1], .tup [i1, i2, i0], .tup [i0, i1, i2]], .tup [.tup [i0, i2, i1], .tup [i1, i2, i0], .tup [i0, i2, i1]], .tup [.tup [i0, i2, i1], .tup [i1, i2, i0], .tup [i1, i0, i2]], .tup [.tup [i0, i2, i1], .tup [i1, i2, i0], .tup [i1, i2, i0]], .tup [.tup [i0, i2, i1], .tup [i1, i2, i0], .tup [i2, i0, i1]], .tup [.tup [i0, i2, i1], .tup [i1, i2, i0], .tup [i2, i1, i0]], .tup [.tup [i0, i2, i1], .tup [i2, i0, i1], .tup [i0, i1, i2]], .tup [.tup [i0, i2, i1], .tup [i2, i0, i1], .tup [i0, i2, i1]], .tup [.tup [i0, i2, i1], .tup [i2, i0, i1], .tup [i1, i0, i2]], .tup [.tup [i0, i2, i1], .tup [i2, i0, i1], .tup [i1, i2, i0]], .tup [.tup [i0, i2, i1], .tup [i2, i0, i1], .tup [i2, i0, i1]], .tup [.tup [i0, i2, i1], .tup [i2, i0, i1], .tup [i2, i1, i0]], .tup [.tup [i0, i2, i1], .tup [i2, i1, i0], .tup [i0, i1, i2]], .tup [.tup [i0, i2, i1], .tup [i2, i1, i0], .tup [i0, i2, i1]], .tup [.tup [i0, i2, i1], .tup [i2, i1, i0], .tup [i1, i0, i2]], .tup [.tup [i0, i2, i1], .tup [i2, i1, i0], .tup [i1, i2, i0]], .tup [.tup [i0, i2, i1], .tup [i2, i1, i0], .tup [i2, i0, i1]], .tup [.tup [i0, i2, i1], .tup [i2, i1, i0], .tup [i2, i1, i0]], .tup [.tup [i1, i0, i2], .tup [i0, i1, i2], .tup [i0, i1, i2]], .tup [.tup [i1, i0, i2], .tup [i0, i1, i2], .tup [i0, i2, i1]], .tup [.tup [i1, i0, i2], .tup [i0, i1, i2], .tup [i1, i0, i2]], .tup [.tup [i1, i0, i2], .tup [i0, i1, i2], .tup [i1, i2, i0]], .tup [.tup [i1, i0, i2], .tup [i0, i1, i2], .tup [i2, i0, i1]], .tup [.tup [i1, i0, i2], .tup [i0, i1, i2], .tup [i2, i1, i0]], .tup [.tup [i1, i0, i2], .tup [i0, i2, i1], .tup [i0, i1, i2]], .tup [.tup [i1, i0, i2], .tup [i0, i2, i1], .tup [i0, i2, i1]], .tup [.tup [i1, i0, i2], .tup [i0, i2, i1], .tup [i1, i0, i2]], .tup [.tup [i1, i0, i2], .tup [i0, i2, i1], .tup [i1, i2, i0]], .tup [.tup [i1, i0, i2], .tup [i0, i2, i1], .tup [i2, i0, i1]], .tup [.tup [i1, i0, i2], .tup [i0, i2, i1], .tup [i2, i1, i0]], .tup [.tup [i1, i0, i2], .tup [i1, i0, i2], .tup [i0, i1, i2]], .tup [.tup [i1, i0, i2], .tup [i1, i0, i2], .tup [i0, i2, i1]], .tup [.tup [i1, i0, i2], .tup [i1, i0, i2], .tup [i1, i0, i2]], .tup [.tup [i1, i0, i2], .tup [i1, i0, i2], .tup [i1, i2, i0]], .tup [.tup [i1, i0, i2], .tup [i1, i0, i2], .tup [i2, i0, i1]], .tup [.tup [i1, i0, i2], .tup [i1, i0, i2], .tup [i2, i1, i0]], .tup [.tup [i1, i0, i2], .tup [i1, i2, i0], .tup [i0, i1, i2]], .tup [.tup [i1, i0, i2], .tup [i1, i2, i0], .tup [i0, i2, i1]], .tup [.tup [i1, i0, i2], .tup [i1, i2, i0], .tup [i1, i0, i2]], .tup [.tup [i1, i0, i2], .tup [i1, i2, i0], .tup [i1, i2, i0]], .tup [.tup [i1, i0, i2], .tup [i1, i2, i0], .tup [i2, i0, i1]], .tup [.tup [i1, i0, i2], .tup [i1, i2, i0], .tup [i2, i1, i0]], .tup [.tup [i1, i0, i2], .tup [i2, i0, i1], .tup [i0, i1, i2]], .tup [.tup [i1, i0, i2], .tup [i2, i0, i1], .tup [i0, i2, i1]], .tup [.tup [i1, i0, i2], .tup [i2, i0, i1], .tup [i1, i0, i2]], .tup [.tup [i1, i0, i2], .tup [i2, i0, i1], .tup [i1, i2, i0]], .tup [.tup [i1, i0, i2], .tup [i2, i0, i1], .tup [i2, i0, i1]], .tup [.tup [i1, i0, i2], .tup [i2, i0, i1], .tup [i2, i1, i0]], .tup [.tup [i1, i0, i2], .tup [i2, i1, i0], .tup [i0, i1, i2]], .tup [.tup [i1, i0, i2], .tup [i2, i1, i0], .tup [i0, i2, i1]], .tup [.tup [i1, i0, i2], .tup [i2, i1, i0], .tup [i1, i0, i2]], .tup [.tup [i1, i0, i2], .tup [i2, i1, i0], .tup [i1, i2, i0]], .tup [.tup [i1, i0, i2], .tup [i2, i1, i0], .tup [i2, i0, i1]], .tup [.tup [i1, i0, i2], .tup [i2, i1, i0], .tup [i2, i1, i0]], .tup [.tup [i1, i2, i0], .tup [i0, i1, i2], .tup [i0, i1, i2]], .tup [.tup [i1, i2, i0], .tup [i0, i1, i2], .tup [i0, i2, i1]], .tup [.tup [i1, i2, i0], .tup [i0, i1, i2], .tup [i1, i0, i2]], .tup [.tup [i1, i2, i0], .tup [i0, i1, i2], .tup [i1, i2, i0]], .tup [.tup [i1, i2, i0], .tup [i0, i1, i2], .tup [i2, i0, i1]], .tup [.tup [i1, i2, i0], .tup [i0, i1, i2], .tup [i2, i1, i0]], .tup [.tup [i1, i2, i0], .tup [i0, i2, i1], .tup [i0, i1, i2]], .tup [.tup [i1, i2, i0], .tup [i0, i2, i1], .tup [i0, i2, i1]], .tup [.tup [i1, i2, i0], .tup [i0, i2, i1], .tup [i1, i0, i2]], .tup [.tup [i1, i2, i0], .tup [i0, i2, i1], .tup [i1, i2, i0]], .tup [.tup [i1, i2, i0], .tup [i0, i2, i1], .tup [i2, i0, i1]], .tup [.tup [i1, i2, i0], .tup [i0, i2, i1], .tup [i2, i1, i0]], .tup [.tup [i1, i2, i0], .tup [i1, i0, i2], .tup [i0, i1, i2]], .tup [.tup [i1, i2, i0], .tup [i1, i0, i2], .tup [i0, i2, i1]], .tup [.tup [i1, i2, i0], .tup [i1, i0, i2], .tup [i1, i0, i2]], .tup [.tup [i1, i2, i0], .tup [i1, i0, i2], .tup [i1, i2, i0]], .tup [.tup [i1, i2, i0], .tup [i1, i0, i2], .tup [i2, i0, i1]], .tup [.tup [i1, i2, i0], .tup [i1, i0, i2], .tup [i2, i1, i0]], .tup [.tup [i1, i2, i0], .tup [i1, i2, i0], .tup [i0, i1, i2]], .tup [.tup [i1, i2, i0], .tup [i1, i2, i0], .tup [i0, i2, i1]], .tup [.tup [i1, i2, i0], .tup [i1, i2, i0], .tup [i1, i0, i2]], .tup [.tup [i1, i2, i0], .tup [i1, i2, i0], .tup [i1, i2, i0]], .tup [.tup [i1, i2, i0], .tup [i1, i2, i0], .tup [i2, i0, i1]], .tup [.tup [i1, i2, i0], .tup [i1, i2, i0], .tup [i2, i1, i0]], .tup [.tup [i1, i2, i0], .tup [i2, i0, i1], .tup [i0, i1, i2]], .tup [.tup [i1, i2, i0], .tup [i2, i0, i1], .tup [i0, i2, i1]], .tup [.tup [i1, i2, i0], .tup [i2, i0, i1], .tup [i1, i0, i2]], .tup [.tup [i1, i2, i0], .tup [i2, i0, i1], .tup [i1, i2, i0]], .tup [.tup [i1, i2, i0], .tup [i2, i0, i1], .tup [i2, i0, i1]], .tup [.tup [i1, i2, i0], .tup [i2, i0, i1], .tup [i2, i1, i0]], .tup [.tup [i1, i2, i0], .tup [i2, i1, i0], .tup [i0, i1, i2]], .tup [.tup [i1, i2, i0], .tup [i2, i1, i0], .tup [i0, i2, i1]], .tup [.tup [i1, i2, i0], .tup [i2, i1, i0], .tup [i1, i0, i2]], .tup [.tup [i1, i2, i0], .tup [i2, i1, i0], .tup [i1, i2, i0]], .tup [.tup [i1, i2, i0], .tup [i2, i1, i0], .tup [i2, i0, i1]], .tup [.tup [i1, i2, i0], .tup [i2, i1, i0], .tup [i2, i1, i0]], .tup [.tup [i2, i0, i1], .tup [i0, i1, i2], .tup [i0, i1, i2]], .tup [.tup [i2, i0, i1], .tup [i0, i1, i2], .tup [i0, i2, i1]], .tup [.tup [i2, i0, i1], .tup [i0, i1, i2], .tup [i1, i0, i2]], .tup [.tup [i2, i0, i1], .tup [i0, i1, i2], .tup [i1, i2, i0]], .tup [.tup [i2, i0, i1], .tup [i0, i1, i2], .tup [i2, i0, i1]], .tup [.tup [i2, i0, i1], .tup [i0, i1, i2], .tup [i2, i1, i0]], .tup [.tup [i2, i0, i1], .tup [i0, i2, i1], .tup [i0, i1, i2]], .tup [.tup [i2, i0, i1], .tup [i0, i2, i1], .tup [i0, i2, i1]], .tup [.tup [i2, i0, i1], .tup [i0, i2, i1], .tup [i1, i0, i2]], .tup [.tup [i2, i0, i1], .tup [i0, i2, i1], .tup [i1, i2, i0]], .tup [.tup [i2, i0, i1], .tup [i0, i2, i1], .tup [i2, i0, i1]], .tup [.tup [i2, i0, i1], .tup [i0, i2, i1], .tup [i2, i1, i0]], .tup [.tup [i2, i0, i1], .tup [i1, i0, i2], .tup [i0, i1, i2]], .tup [.tup [i2, i0, i1], .tup [i1, i0, i2], .tup [i0, i2, i1]], .tup [.tup [i2, i0, i1], .tup [i1, i0, i2], .tup [i1, i0, i2]], .tup [.tup [i2, i0, i1], .tup [i1, i0, i2], .tup [i1, i2, i0]], .tup [.tup [i2, i0, i1], .tup [i1, i0, i2], .tup [i2, i0, i1]], .tup [.tup [i2, i0, i1], .tup [i1, i0, i2], .tup [i2, i1, i0]], .tup [.tup [i2, i0, i1], .tup [i1, i2, i0], .tup [i0, i1, i2]], .tup [.tup [i2, i0, i1], .tup [i1, i2, i0], .tup [i0, i2, i1]], .tup [.tup [i2, i0, i1], .tup [i1, i2, i0], .tup [i1, i0, i2]], .tup [.tup [i2, i0, i1], .tup [i1, i2, i0], .tup [i1, i2, i0]], .tup [.tup [i2, i0, i1], .tup [i1, i2, i0], .tup [i2, i0, i1]], .tup [.tup [i2, i0, i1], .tup [i1, i2, i0], .tup [i2, i1, i0]], .tup [.tup [i2, i0, i1], .tup [i2, i0, i1], .tup [i0, i1, i2]], .tup [.tup [i2, i0, i1], .tup [i2, i0, i1], .tup [i0, i2, i1]], .tup [.tup [i2, i0, i1], .tup [i2, i0, i1], .tup [i1, i0, i2]], .tup [.tup [i2, i0, i1], .tup [i2, i0, i1], .tup [i1, i2, i0]], .tup [.tup [i2, i0, i1], .tup [i2, i0, i1], .tup [i2, i0, i1]], .tup [.tup [i2, i0, i1], .tup [i2, i0, i1], .tup [i2, i1, i0]], .tup [.tup [i2, i0, i1], .tup [i2, i1, i0], .tup [i0, i1, i2]], .tup [.tup [i2, i0, i1], .tup [i2, i1, i0], .tup [i0, i2, i1]], .tup [.tup [i2, i0, i1], .tup [i2, i1, i0], .tup [i1, i0, i2]], .tup [.tup [i2, i0, i1], .tup [i2, i1, i0], .tup [i1, i2, i0]], .tup [.tup [i2, i0, i1], .tup [i2, i1, i0], .tup [i2, i0, i1]], .tup [.tup [i2, i0, i1], .tup [i2, i1, i0], .tup [i2, i1, i0]], .tup [.tup [i2, i1, i0], .tup [i0, i1, i2], .tup [i0, i1, i2]], .tup [.tup [i2, i1, i0], .tup [i0, i1, i2], .tup [i0, i2, i1]], .tup [.tup [i2, i1, i0], .tup [i0, i1, i2], .tup [i1, i0, i2]], .tup [.tup [i2, i1, i0], .tup [i0, i1, i2], .tup [i1, i2, i0]], .tup [.tup [i2, i1, i0], .tup [i0, i1, i2], .tup [i2, i0, i1]], .tup [.tup [i2, i1, i0], .tup [i0, i1, i2], .tup [i2, i1, i0]], .tup [.tup [i2, i1, i0], .tup [i0, i2, i1], .tup [i0, i1, i2]], .tup [.tup [i2, i1, i0], .tup [i0, i2, i1], .tup [i0, i2, i1]], .tup [.tup [i2, i1, i0], .tup [i0, i2, i1], .tup [i1, i0, i2]], .tup [.tup [i2, i1, i0], .tup [i0, i2, i1], .tup [i1, i2, i0]], .tup [.tup [i2, i1, i0], .tup [i0, i2, i1], .tup [i2, i0, i1]], .tup [.tup [i2, i1, i0], .tup [i0, i2, i1], .tup [i2, i1, i0]], .tup [.tup [i2, i1, i0], .tup [i1, i0, i2], .tup [i0, i1, i2]], .tup [.tup [i2, i1, i0], .tup [i1, i0, i2], .tup [i0, i2, i1]], .tup [.tup [i2, i1, i0], .tup [i1, i0, i2], .tup [i1, i0, i2]], .tup [.tup [i2, i1, i0], .tup [i1, i0, i2], .tup [i1, i2, i0]], .tup [.tup [i2, i1, i0], .tup [i1, i0, i2], .tup [i2, i0, i1]], .tup [.tup [i2, i1, i0], .tup [i1, i0, i2], .tup [i2, i1, i0]], .tup [.tup [i2, i1, i0], .tup [i1, i2, i0], .tup [i0, i1, i2]], .tup [.tup [i2, i1, i0], .tup [i1, i2, i0], .tup [i0, i2, i1]], .tup [.tup [i2, i1, i0], .tup [i1, i2, i0], .tup [i1, i0, i2]], .tup [.tup [i2, i1, i0], .tup [i1, i2, i0], .tup [i1, i2, i0]], .tup [.tup [i2, i1, i0], .tup [i1, i2, i0], .tup [i2, i0, i1]], .tup [.tup [i2, i1, i0], .tup [i1, i2, i0], .tup [i2, i1, i0]], .tup [.tup [i2, i1, i0], .tup [i2, i0, i1], .tup [i0, i1, i2]], .tup [.tup [i2, i1, i0], .tup [i2, i0, i1], .tup [i0, i2, i1]], .tup [.tup [i2, i1, i0], .tup [i2, i0, i1], .tup [i1, i0, i2]], .tup [.tup [i2, i1, i0], .tup [i2, i0, i1], .tup [i1, i2, i0]], .tup [.tup [i2, i1, i0], .tup [i2, i0, i1], .tup [i2, i0, i1]], .tup [.tup [i2, i1, i0], .tup [i2, i0, i1], .tup [i2, i1, i0]], .tup [.tup [i2, i1, i0], .tup [i2, i1, i0], .tup [i0, i1, i2]], .tup [.tup [i2, i1, i0], .tup [i2, i1, i0], .tup [i0, i2, i1]], .tup [.tup [i2, i1, i0], .tup [i2, i1, i0], .tup [i1, i0, i2]], .tup [.tup [i2, i1, i0], .tup [i2, i1, i0], .tup [i1, i2, i0]], .tup [.tup [i2, i1, i0], .tup [i2, i1, i0], .tup [i2, i0, i1]], .tup [.tup [i2, i1, i0], .tup [i2, i1, i0], .tup [i2, i1, i0]]]
theorem e_law_rows_1 : r_law_rows [.int (.ofNat 3)] = .ret c_law_rows_1 := by kernel_rfl
def m_law_rows : List D → T D
  | [.int (.ofNat 2)] => .ret c_law_rows_0
  | [.int (.ofNat 3)] => .ret c_law_rows_1
  | x => r_law_rows x
theorem m_law_rows_eq : m_law_rows = r_law_rows := by
  funext x
  unfold m_law_rows
  split
  · exact (e_law_rows_0).symm
  · exact (e_law_rows_1).symm
  · rfl
theorem ok_law_rows {a_law_rows : Addr} {d_law_rows : FuncData} (G_law_rows : Gd K mg "_law_rows" s_law_rows N_law_rows a_law_rows d_law_rows) (Tx : Txt K mg aP) {a_law_orders : Addr} {d_law_orders : FuncData} (G_law_orders : Gd K mg "_law_orders" s_law_orders N_law_orders a_law_orders d_law_orders) (O_law_orders : FnOk P w K mg base CX0 1 a_law_orders d_law_orders N_law_orders (spP K F0 m_law_orders 1)) : FnOk P w K mg base CX0 2 a_law_rows d_law_rows N_law_rows (spP K F0 m_law_rows 1) := by
  have sc := sc_law_rows
  rw [m_law_rows_eq]
  refine zdef (F := F0) (N := ["people", "found", "turn", "longer", "one", "ranking"]) G_law_rows.fn sc fun cdv A outer s H E hr => ?_
  have hu := hr.units
  let N : List Str := ["people", "found", "turn", "longer", "one", "ranking"]
  exact (zcons (PSf (sSetV_eq _ _) (zset (i := 1) sc.nd rfl (by first | exact Or.inl rfl | exact Or.inr rfl) (PEnl (zl (zac (zt zan) zan)))))
    (zcons (zfor PassesOwn.never rfl (zir1 (by rfl) Tx.nb_range (zac (zv 0) zan)) (pg_name (i := 2) sc.nd rfl (by first | exact Or.inl rfl | exact Or.inr rfl)) (TgRf (gIF_eq _) (zg_name 2))
    (zcons (PSf (sSetV_eq _ _) (zset (i := 3) sc.nd rfl (by first | exact Or.inl rfl | exact Or.inr rfl) (PEnl (zl zan))))
    (zcons (zfor PassesOwn.never rfl (zis (zv 1)) (pg_name (i := 4) sc.nd rfl (by first | exact Or.inl rfl | exact Or.inr rfl)) (TgRf (gIX_eq _) (zg_name 4))
    (zlast (PSf (sSetV_eq _ _) (zset (i := 3) sc.nd rfl (by first | exact Or.inl rfl | exact Or.inr rfl) (zop oplus (zv 3) (PEnl (zlc rfl sc.nd (zis ((zcall O_law_orders (hr.mono (by omega)) (by rfl) G_law_orders.mg G_law_orders.kp G_law_orders.b (zac (zv 0) zan)))) (blkOk_by (own := [("ranking", 5)]) (N := N) (sc := (defScope s_law_rows)) (by decide +kernel)) (TgCf (gIX_eq _) (zgc_name (by decide))) (fun _ _ _ _ _ => (pg_name (i := 5) sc.nd rfl (by first | exact Or.inl rfl | exact Or.inr rfl))) (fun _ _ _ _ _ => ztyes) (fun _ _ _ _ _ => (zop oplus (zv 4) (zt (zac (zv 5) zan)))))))))))
    (zlast (zset (i := 1) sc.nd rfl (by first | exact Or.inl rfl | exact Or.inr rfl) (zv 3))))))
    (zlast (zret (zv 1)))))
/-! better -/
abbrev s_better : Stmt := top 21
abbrev N_better : List Str := ["row", "dealing"]
theorem sc_better : FnScope ["row", "dealing", "everybody", "other"] N_better (defScope s_better) := ⟨rfl, rfl, rfl, by decide +kernel, rfl, by decide +kernel, by decide +kernel⟩
def r_better : List D → T D := runB (
    (sSeq (sDrop (eCall r_check_row 1 (aC (eV 0) aN)))
    (sSeq (sDrop (eCall r_check_dealing 1 (aC (eV 1) aN)))
    (sSeq (sDrop (eCall r_check_alike 2 (aCF (eLen (lSeq (eV 0))) (aCF (eLen (lSeq (eV 1))) aN))))
    (sSeq (sSetV 2 (eTupOf (rg1 (eLen (lSeq (eV 0))))))
    (sRetF (eTupOf (nLc (lSeq (eCall m_dealings 1 (aCF (eLen (lSeq (eV 0))) aN))) (gIX 3) (b1 (eCall r_is_better 4 (aC (eV 0) (aC (eV 2) (aC (eV 3) (aC (eV 1) aN)))))) (eV 3) [3])))))))) 4
theorem ok_better {a_better : Addr} {d_better : FuncData} (G_better : Gd K mg "better" s_better N_better a_better d_better) (Tx : Txt K mg aP) {a_check_row : Addr} {d_check_row : FuncData} (G_check_row : Gd K mg "check_row" s_check_row N_check_row a_check_row d_check_row) (O_check_row : FnOk P w K mg base CX0 4 a_check_row d_check_row N_check_row (spP K F0 r_check_row 1)) {a_check_dealing : Addr} {d_check_dealing : FuncData} (G_check_dealing : Gd K mg "check_dealing" s_check_dealing N_check_dealing a_check_dealing d_check_dealing) (O_check_dealing : FnOk P w K mg base CX0 3 a_check_dealing d_check_dealing N_check_dealing (spP K F0 r_check_dealing 1)) {a_check_alike : Addr} {d_check_alike : FuncData} (G_check_alike : Gd K mg "check_alike" s_check_alike N_check_alike a_check_alike d_check_alike) (O_check_alike : FnOk P w K mg base CX0 1 a_check_alike d_check_alike N_check_alike (spP K F0 r_check_alike 2)) {a_dealings : Addr} {d_dealings : FuncData} (G_dealings : Gd K mg "dealings" s_dealings N_dealings a_dealings d_dealings) (O_dealings : FnOk P w K mg base CX0 2 a_dealings d_dealings N_dealings (spP K F0 m_dealings 1)) {a_is_better : Addr} {d_is_better : FuncData} (G_is_better : Gd K mg "is_better" s_is_better N_is_better a_is_better d_is_better) (O_is_better : FnOk P w K mg base CX0 1 a_is_better d_is_better N_is_better (spP K F0 r_is_better 4)) : FnOk P w K mg base CX0 5 a_better d_better N_better (spP K F0 r_better 2) := by
  have sc := sc_better
  refine zdef (F := F0) (N := ["row", "dealing", "everybody", "other"]) G_better.fn sc fun cdv A outer s H E hr => ?_
  have hu := hr.units
  let N : List Str := ["row", "dealing", "everybody", "other"]
  exact (zcons (zdrop ((zcall O_check_row (hr.mono (by omega)) (by rfl) G_check_row.mg G_check_row.kp G_check_row.b (zac (zv 0) zan))))
    (zcons (zdrop ((zcall O_check_dealing (hr.mono (by omega)) (by rfl) G_check_dealing.mg G_check_dealing.kp G_check_dealing.b (zac (zv 1) zan))))
    (zcons (zdrop ((zcall O_check_alike (hr.mono (by omega)) (by rfl) G_check_alike.mg G_check_alike.kp G_check_alike.b (PAf (aCF_eq _ _) (zac (zlen (by rfl) Tx.nb_len (PEseq (zv 0))) (PAf (aCF_eq _ _) (zac (zlen (by rfl) Tx.nb_len (PEseq (zv 1))) zan)))))))
    (zcons (PSf (sSetV_eq _ _) (zset (i := 2) sc.nd rfl (by first | exact Or.inl rfl | exact Or.inr rfl) (ztupRg rfl (by rfl) Tx.nb_tuple (by rfl) Tx.nb_range (zlen (by rfl) Tx.nb_len (PEseq (zv 0))))))
    (zlast (PSf (sRetF_eq _) (zret (ztupOf (by rfl) Tx.nb_tuple (PEns (zlc rfl sc.nd (zis ((zcall O_dealings (hr.mono (by omega)) (by rfl) G_dealings.mg G_dealings.kp G_dealings.b (PAf (aCF_eq _ _) (zac (zlen (by rfl) Tx.nb_len (PEseq (zv 0))) zan))))) (blkOk_by (own := [("other", 3)]) (N := N) (sc := (defScope s_better)) (by decide +kernel)) (TgCf (gIX_eq _) (zgc_name (by decide))) (fun _ _ _ _ _ => (pg_name (i := 3) sc.nd rfl (by first | exact Or.inl rfl | exact Or.inr rfl))) (fun _ _ _ _ _ => (ztone (ztv ((zcall O_is_better (hr.mono (by omega)) (by rfl) G_is_better.mg G_is_better.kp G_is_better.b (zac (zv 0) (zac (zv 2) (zac (zv 3) (zac (zv 1) zan))))))))) (fun _ _ _ _ _ => (zv 3))))))))))))
/-! rows_of -/
abbrev s_rows_of : Stmt := top 19
abbrev N_rows_of : List Str := ["choices"]
theorem sc_rows_of : FnScope ["choices", "found", "rankings", "row", "ranking"] N_rows_of (defScope s_rows_of) := ⟨rfl, rfl, rfl, by decide +kernel, rfl, by decide +kernel, by decide +kernel⟩
def r_rows_of : List D → T D := runB (
    (sSeq (sSetV 1 (lst (nL (aC (eT aN) aN))))
    (sSeq (sFor (lSeq (eV 0)) (gIX 2)
    (sSetV 1 (lst (nLc2 (lSeq (eV 1)) (gIX 3) bYes (lSeq (eV 2)) (gIX 4) bYes (e2 dPlus (eV 3) (eT (aC (eV 4) aN))) [3, 4] [4]))))
    (sRet (eV 1))))) 5
theorem ok_rows_of {a_rows_of : Addr} {d_rows_of : FuncData} (G_rows_of : Gd K mg "rows_of" s_rows_of N_rows_of a_rows_of d_rows_of) (Tx : Txt K mg aP) : FnOk P w K mg base CX0 1 a_rows_of d_rows_of N_rows_of (spP K F0 r_rows_of 1) := by
  have sc := sc_rows_of
  refine zdef (F := F0) (N := ["choices", "found", "rankings", "row", "ranking"]) G_rows_of.fn sc fun cdv A outer s H E hr => ?_
  have hu := hr.units
  let N : List Str := ["choices", "found", "rankings", "row", "ranking"]
  exact (zcons (PSf (sSetV_eq _ _) (zset (i := 1) sc.nd rfl (by first | exact Or.inl rfl | exact Or.inr rfl) (PEnl (zl (zac (zt zan) zan)))))
    (zcons (zfor PassesOwn.never rfl (zis (zv 0)) (pg_name (i := 2) sc.nd rfl (by first | exact Or.inl rfl | exact Or.inr rfl)) (TgRf (gIX_eq _) (zg_name 2))
    (zlast (PSf (sSetV_eq _ _) (zsetLc2 (i := 1) (vs1 := [4]) rfl sc.nd rfl rfl (zis (zv 1)) (blkOk_by (own := [("row", 3), ("ranking", 4)]) (N := N) (sc := (defScope s_rows_of)) (by decide +kernel)) (by decide) (TgCf (gIX_eq _) (zgc_name (by decide))) (TgCf (gIX_eq _) (zgc_name (by decide))) (fun _ _ _ _ _ => (pg_name (i := 3) sc.nd rfl (by first | exact Or.inl rfl | exact Or.inr rfl))) (fun _ _ _ _ _ => ztyes) (fun _ _ _ _ _ => (zis (zv 2))) (fun _ _ _ _ _ => (pg_name (i := 4) sc.nd rfl (by first | exact Or.inl rfl | exact Or.inr rfl))) (fun _ _ _ _ _ => ztyes) (fun _ _ _ _ _ => (zop oplus (zv 3) (zt (zac (zv 4) zan)))) (sw_true rfl rfl rfl (by decide +kernel))))))
    (zlast (zret (zv 1)))))
/-! rows -/
abbrev s_rows : Stmt := top 18
abbrev N_rows : List Str := ["people"]
theorem sc_rows : FnScope ["people"] N_rows (defScope s_rows) := ⟨rfl, rfl, rfl, by decide +kernel, rfl, by decide +kernel, by decide +kernel⟩
def r_rows : List D → T D := runB (
    (sRetF (eTupOf (lSeq (eCall r_rows_of 1 (aCF (lst (nRep (lst (nL (aC (lst (lSeq (eCall m_dealings 1 (aC (eV 0) aN)))) aN))) (eV 0))) aN)))))) 1
def c_rows_0 : D := .tup [.tup [.tup [i0, i1], .tup [i0, i1]], .tup [.tup [i0, i1], .tup [i1, i0]], .tup [.tup [i1, i0], .tup [i0, i1]], .tup [.tup [i1, i0], .tup [i1, i0]]]
theorem e_rows_0 : r_rows [.int (.ofNat 2)] = .ret c_rows_0 := by kernel_rfl
def c_rows_1 : D := .tup [.tup [.tup [i0, i1, i2], .tup [i0, i1, i2], .tup [i0, i1, i2]], .tup [.tup [i0, i1, i2], .tup [i0, i1, i2], .tup [i0, i2, i1]], .tup [.tup [i0, i1, i2], .tup [i0, i1, i2], .tup [i1, i0, i2]], .tup [.tup [i0, i1, i2], .tup [i0, i1, i2], .tup [i1, i2, i0]], .tup [.tup [i0, i1, i2], .tup [i0, i1, i2], .tup [i2, i0, i1]], .tup [.tup [i0, i1, i2], .tup [i0, i1, i2], .tup [i2, i1, i0]], .tup [.tup [i0, i1, i2], .tup [i0, i2, i1], .tup [i0, i1, i2]], .tup [.tup [i0, i1, i2], .tup [i0, i2, i1], .tup [i0, i2, i1]], .tup [.tup [i0, i1, i2], .tup [i0, i2, i1], .tup [i1, i0, i2]], .tup [.tup [i0, i1, i2], .tup [i0, i2, i1], .tup [i1, i2, i0]], .tup [.tup [i0, i1, i2], .tup [i0, i2, i1], .tup [i2, i0, i1]], .tup [.tup [i0, i1, i2], .tup [i0, i2, i1], .tup [i2, i1, i0]], .tup [.tup [i0, i1, i2], .tup [i1, i0, i2], .tup [i0, i1, i2]], .tup [.tup [i0, i1, i2], .tup [i1, i0, i2], .tup [i0, i2, i1]], .tup [.tup [i0, i1, i2], .tup [i1, i0, i2], .tup [i1, i0, i2]], .tup [.tup [i0, i1, i2], .tup [i1, i0, i2], .tup [i1, i2, i0]], .tup [.tup [i0, i1, i2], .tup [i1, i0, i2], .tup [i2, i0, i1]], .tup [.tup [i0, i1, i2], .tup [i1, i0, i2], .tup [i2, i1, i0]], .tup [.tup [i0, i1, i2], .tup [i1, i2, i0], .tup [i0, i1, i2]], .tup [.tup [i0, i1, i2], .tup [i1, i2, i0], .tup [i0, i2, i1]], .tup [.tup [i0, i1, i2], .tup [i1, i2, i0], .tup [i1, i0, i2]], .tup [.tup [i0, i1, i2], .tup [i1, i2, i0], .tup [i1, i2, i0]], .tup [.tup [i0, i1, i2], .tup [i1, i2, i0], .tup [i2, i0, i1]], .tup [.tup [i0, i1, i2], .tup [i1, i2, i0], .tup [i2, i1, i0]], .tup [.tup [i0, i1, i2], .tup [i2, i0, i1], .tup [i0, i1, i2]], .tup [.tup [i0, i1, i2], .tup [i2, i0, i1], .tup [i0, i2, i1]], .tup [.tup [i0, i1, i2], .tup [i2, i0, i1], .tup [i1, i0, i2]], .tup [.tup [i0, i1, i2], .tup [i2, i0, i1], .tup [i1, i2, i0]], .tup [.tup [i0, i1, i2], .tup [i2, i0, i1], .tup [i2, i0, i1]], .tup [.tup [i0, i1, i2], .tup [i2, i0, i1], .tup [i2, i1, i0]], .tup [.tup [i0, i1, i2], .tup [i2, i1, i0], .tup [i0, i1, i2]], .tup [.tup [i0, i1, i2], .tup [i2, i1, i0], .tup [i0, i2, i1]], .tup [.tup [i0, i1, i2], .tup [i2, i1, i0], .tup [i1, i0, i2]], .tup [.tup [i0, i1, i2], .tup [i2, i1, i0], .tup [i1, i2, i0]], .tup [.tup [i0, i1, i2], .tup [i2, i1, i0], .tup [i2, i0, i1]], .tup [.tup [i0, i1, i2], .tup [i2, i1, i0], .tup [i2, i1, i0]], .tup [.tup [i0, i2, i1], .tup [i0, i1, i2], .tup [i0, i1, i2]], .tup [.tup [i0, i2, i1], .tup [i0, i1, i2], .tup [i0, i2, i1]], .tup [.tup [i0, i2, i1], .tup [i0, i1, i2], .tup [i1, i0, i2]], .tup [.tup [i0, i2, i1], .tup [i0, i1, i2], .tup [i1, i2, i0]], .tup [.tup [i0, i2, i1], .tup [i0, i1, i2], .tup [i2, i0, i1]], .tup [.tup [i0, i2, i1], .tup [i0, i1, i2], .tup [i2, i1, i0]], .tup [.tup [i0, i2, i1], .tup [i0, i2, i1], .tup [i0, i1, i2]], .tup [.tup [i0, i2, i1], .tup [i0, i2, i1], .tup [i0, i2, i1]], .tup [.tup [i0, i2, i1], .tup [i0, i2, i1], .tup [i1, i0, i2]], .tup [.tup [i0, i2, i1], .tup [i0, i2, i1], .tup [i1, i2, i0]], .tup [.tup [i0, i2, i1], .tup [i0, i2, i1], .tup [i2, i0, i1]], .tup [.tup [i0, i2, i1], .tup [i0, i2, i1], .tup [i2, i1, i0]], .tup [.tup [i0, i2, i1], .tup [i1, i0, i2], .tup [i0, i1, i2]], .tup [.tup [i0, i2, i1], .tup [i1, i0, i2], .tup [i0, i2, i1]], .tup [.tup [i0, i2, i1], .tup [i1, i0, i2], .tup [i1, i0, i2]], .tup [.tup [i0, i2, i1], .tup [i1, i0, i2], .tup [i1, i2, i0]], .tup [.tup [i0, i2, i1], .tup [i1, i0, i2], .tup [i2, i0, i1]], .tup [.tup [i0, i2, i1], .tup [i1, i0, i2], .tup [i2, i1, i0]], .tup [.tup [i0, i2, i1], .tup [i1, i2, i0], .tup [i0, i1, i2]], .tup [.tup [i0, i2, i1], .tup [i1, i2, i0], .tup [i0, i2, i1]], .tup [.tup [i0, i2, i1], .tup [i1, i2, i0], .tup [i1, i0, i2]], .tup [.tup [i0, i2, i1], .tup [i1, i2, i0], .tup [i1, i2, i0]], .tup [.tup [i0, i2, i1], .tup [i1, i2, i0], .tup [i2, i0, i1]], .tup [.tup [i0, i2, i1], .tup [i1, i2, i0], .tup [i2, i1, i0]], .tup [.tup [i0, i2, i1], .tup [i2, i0, i1], .tup [i0, i1, i2]], .tup [.tup [i0, i2, i1], .tup [i2, i0, i1], .tup [i0, i2, i1]], .tup [.tup [i0, i2, i1], .tup [i2, i0, i1], .tup [i1, i0, i2]], .tup [.tup [i0, i2, i1], .tup [i2, i0, i1], .tup [i1, i2, i0]], .tup [.tup [i0, i2, i1], .tup [i2, i0, i1], .tup [i2, i0, i1]], .tup [.tup [i0, i2, i1], .tup [i2, i0, i1], .tup [i2, i1, i0]], .tup [.tup [i0, i2, i1], .tup [i2, i1, i0], .tup [i0, i1, i2]], .tup [.tup [i0, i2, i1], .tup [i2, i1, i0], .tup [i0, i2, i1]], .tup [.tup [i0, i2, i1], .tup [i2, i1, i0], .tup [i1, i0, i2]], .tup [.tup [i0, i2, i1], .tup [i2, i1, i0], .tup [i1, i2, i0]], .tup [.tup [i0, i2, i1], .tup [i2, i1, i0], .tup [i2, i0, i1]], .tup [.tup [i0, i2, i1], .tup [i2, i1, i0], .tup [i2, i1, i0]], .tup [.tup [i1, i0, i2], .tup [i0, i1, i2], .tup [i0, i1, i2]], .tup [.tup [i1, i0, i2], .tup [i0, i1, i2], .tup [i0, i2, i1]], .tup [.tup [i1, i0, i2], .tup [i0, i1, i2], .tup [i1, i0, i2]], .tup [.tup [i1, i0, i2], .tup [i0, i1, i2], .tup [i1, i2, i0]], .tup [.tup [i1, i0, i2], .tup [i0, i1, i2], .tup [i2, i0, i1]], .tup [.tup [i1, i0, i2], .tup [i0, i1, i2], .tup [i2, i1, i0]], .tup [.tup [i1, i0, i2], .tup [i0, i2, i1], .tup [i0, i1, i2]], .tup [.tup [i1, i0, i2], .tup [i0, i2, i1], .tup [i0, i2, i1]], .tup [.tup [i1, i0, i2], .tup [i0, i2, i1], .tup [i1, i0, i2]], .tup [.tup [i1, i0, i2], .tup [i0, i2, i1], .tup [i1, i2, i0]], .tup [.tup [i1, i0, i2], .tup [i0, i2, i1], .tup [i2, i0, i1]], .tup [.tup [i1, i0, i2], .tup [i0, i2, i1], .tup [i2, i1, i0]], .tup [.tup [i1, i0, i2], .tup [i1, i0, i2], .tup [i0, i1, i2]], .tup [.tup [i1, i0, i2], .tup [i1, i0, i2], .tup [i0, i2, i1]], .tup [.tup [i1, i0, i2], .tup [i1, i0, i2], .tup [i1, i0, i2]], .tup [.tup [i1, i0, i2], .tup [i1, i0, i2], .tup [i1, i2, i0]], .tup [.tup [i1, i0, i2], .tup [i1, i0, i2], .tup [i2, i0, i1]], .tup [.tup [i1, i0, i2], .tup [i1, i0, i2], .tup [i2, i1, i0]], .tup [.tup [i1, i0, i2], .tup [i1, i2, i0], .tup [i0, i1, i2]], .tup [.tup [i1, i0, i2], .tup [i1, i2, i0], .tup [i0, i2, i1]], .tup [.tup [i1, i0, i2], .tup [i1, i2, i0], .tup [i1, i0, i2]], .tup [.tup [i1, i0, i2], .tup [i1, i2, i0], .tup [i1, i2, i0]], .tup [.tup [i1, i0, i2], .tup [i1, i2, i0], .tup [i2, i0, i1]], .tup [.tup [i1, i0, i2], .tup [i1, i2, i0], .tup [i2, i1, i0]], .tup [.tup [i1, i0, i2], .tup [i2, i0, i1], .tup [i0, i1, i2]], .tup [.tup [i1, i0, i2], .tup [i2, i0, i1], .tup [i0, i2, i1]], .tup [.tup [i1, i0, i2], .tup [i2, i0, i1], .tup [i1, i0, i2]], .tup [.tup [i1, i0, i2], .tup [i2, i0, i1], .tup [i1, i2, i0]], .tup [.tup [i1, i0, i2], .tup [i2, i0, i1], .tup [i2, i0, i1]], .tup [.tup [i1, i0, i2], .tup [i2, i0, i1], .tup [i2, i1, i0]], .tup [.tup [i1, i0, i2], .tup [i2, i1, i0], .tup [i0, i1, i2]], .tup [.tup [i1, i0, i2], .tup [i2, i1, i0], .tup [i0, i2, i1]], .tup [.tup [i1, i0, i2], .tup [i2, i1, i0], .tup [i1, i0, i2]], .tup [.tup [i1, i0, i2], .tup [i2, i1, i0], .tup [i1, i2, i0]], .tup [.tup [i1, i0, i2], .tup [i2, i1, i0], .tup [i2, i0, i1]], .tup [.tup [i1, i0, i2], .tup [i2, i1, i0], .tup [i2, i1, i0]], .tup [.tup [i1, i2, i0], .tup [i0, i1, i2], .tup [i0, i1, i2]], .tup [.tup [i1, i2, i0], .tup [i0, i1, i2], .tup [i0, i2, i1]], .tup [.tup [i1, i2, i0], .tup [i0, i1, i2], .tup [i1, i0, i2]], .tup [.tup [i1, i2, i0], .tup [i0, i1, i2], .tup [i1, i2, i0]], .tup [.tup [i1, i2, i0], .tup [i0, i1, i2], .tup [i2, i0, i1]], .tup [.tup [i1, i2, i0], .tup [i0, i1, i2], .tup [i2, i1, i0]], .tup [.tup [i1, i2, i0], .tup [i0, i2, i1], .tup [i0, i1, i2]], .tup [.tup [i1, i2, i0], .tup [i0, i2, i1], .tup [i0, i2, i1]], .tup [.tup [i1, i2, i0], .tup [i0, i2, i1], .tup [i1, i0, i2]], .tup [.tup [i1, i2, i0], .tup [i0, i2, i1], .tup [i1, i2, i0]], .tup [.tup [i1, i2, i0], .tup [i0, i2, i1], .tup [i2, i0, i1]], .tup [.tup [i1, i2, i0], .tup [i0, i2, i1], .tup [i2, i1, i0]], .tup [.tup [i1, i2, i0], .tup [i1, i0, i2], .tup [i0, i1, i2]], .tup [.tup [i1, i2, i0], .tup [i1, i0, i2], .tup [i0, i2, i1]], .tup [.tup [i1, i2, i0], .tup [i1, i0, i2], .tup [i1, i0, i2]], .tup [.tup [i1, i2, i0], .tup [i1, i0, i2], .tup [i1, i2, i0]], .tup [.tup [i1, i2, i0], .tup [i1, i0, i2], .tup [i2, i0, i1]], .tup [.tup [i1, i2, i0], .tup [i1, i0, i2], .tup [i2, i1, i0]], .tup [.tup [i1, i2, i0], .tup [i1, i2, i0], .tup [i0, i1, i2]], .tup [.tup [i1, i2, i0], .tup [i1, i2, i0], .tup [i0, i2, i1]], .tup [.tup [i1, i2, i0], .tup [i1, i2, i0], .tup [i1, i0, i2]], .tup [.tup [i1, i2, i0], .tup [i1, i2, i0], .tup [i1, i2, i0]], .tup [.tup [i1, i2, i0], .tup [i1, i2, i0], .tup [i2, i0, i1]], .tup [.tup [i1, i2, i0], .tup [i1, i2, i0], .tup [i2, i1, i0]], .tup [.tup [i1, i2, i0], .tup [i2, i0, i1], .tup [i0, i1, i2]], .tup [.tup [i1, i2, i0], .tup [i2, i0, i1], .tup [i0, i2, i1]], .tup [.tup [i1, i2, i0], .tup [i2, i0, i1], .tup [i1, i0, i2]], .tup [.tup [i1, i2, i0], .tup [i2, i0, i1], .tup [i1, i2, i0]], .tup [.tup [i1, i2, i0], .tup [i2, i0, i1], .tup [i2, i0, i1]], .tup [.tup [i1, i2, i0], .tup [i2, i0, i1], .tup [i2, i1, i0]], .tup [.tup [i1, i2, i0], .tup [i2, i1, i0], .tup [i0, i1, i2]], .tup [.tup [i1, i2, i0], .tup [i2, i1, i0], .tup [i0, i2, i1]], .tup [.tup [i1, i2, i0], .tup [i2, i1, i0], .tup [i1, i0, i2]], .tup [.tup [i1, i2, i0], .tup [i2, i1, i0], .tup [i1, i2, i0]], .tup [.tup [i1, i2, i0], .tup [i2, i1, i0], .tup [i2, i0, i1]], .tup [.tup [i1, i2, i0], .tup [i2, i1, i0], .tup [i2, i1, i0]], .tup [.tup [i2, i0, i1], .tup [i0, i1, i2], .tup [i0, i1, i2]], .tup [.tup [i2, i0, i1], .tup [i0, i1, i2], .tup [i0, i2, i1]], .tup [.tup [i2, i0, i1], .tup [i0, i1, i2], .tup [i1, i0, i2]], .tup [.tup [i2, i0, i1], .tup [i0, i1, i2], .tup [i1, i2, i0]], .tup [.tup [i2, i0, i1], .tup [i0, i1, i2], .tup [i2, i0, i1]], .tup [.tup [i2, i0, i1], .tup [i0, i1, i2], .tup [i2, i1, i0]], .tup [.tup [i2, i0, i1], .tup [i0, i2, i1], .tup [i0, i1, i2]], .tup [.tup [i2, i0, i1], .tup [i0, i2, i1], .tup [i0, i2, i1]], .tup [.tup [i2, i0, i1], .tup [i0, i2, i1], .tup [i1, i0, i2]], .tup [.tup [i2, i0, i1], .tup [i0, i2, i1], .tup [i1, i2, i0]], .tup [.tup [i2, i0, i1], .tup [i0, i2, i1], .tup [i2, i0, i1]], .tup [.tup [i2, i0, i1], .tup [i0, i2, i1], .tup [i2, i1, i0]], .tup [.tup [i2, i0, i1], .tup [i1, i0, i2], .tup [i0, i1, i2]], .tup [.tup [i2, i0, i1], .tup [i1, i0, i2], .tup [i0, i2, i1]], .tup [.tup [i2, i0, i1], .tup [i1, i0, i2], .tup [i1, i0, i2]], .tup [.tup [i2, i0, i1], .tup [i1, i0, i2], .tup [i1, i2, i0]], .tup [.tup [i2, i0, i1], .tup [i1, i0, i2], .tup [i2, i0, i1]], .tup [.tup [i2, i0, i1], .tup [i1, i0, i2], .tup [i2, i1, i0]], .tup [.tup [i2, i0, i1], .tup [i1, i2, i0], .tup [i0, i1, i2]], .tup [.tup [i2, i0, i1], .tup [i1, i2, i0], .tup [i0, i2, i1]], .tup [.tup [i2, i0, i1], .tup [i1, i2, i0], .tup [i1, i0, i2]], .tup [.tup [i2, i0, i1], .tup [i1, i2, i0], .tup [i1, i2, i0]], .tup [.tup [i2, i0, i1], .tup [i1, i2, i0], .tup [i2, i0, i1]], .tup [.tup [i2, i0, i1], .tup [i1, i2, i0], .tup [i2, i1, i0]], .tup [.tup [i2, i0, i1], .tup [i2, i0, i1], .tup [i0, i1, i2]], .tup [.tup [i2, i0, i1], .tup [i2, i0, i1], .tup [i0, i2, i1]], .tup [.tup [i2, i0, i1], .tup [i2, i0, i1], .tup [i1, i0, i2]], .tup [.tup [i2, i0, i1], .tup [i2, i0, i1], .tup [i1, i2, i0]], .tup [.tup [i2, i0, i1], .tup [i2, i0, i1], .tup [i2, i0, i1]], .tup [.tup [i2, i0, i1], .tup [i2, i0, i1], .tup [i2, i1, i0]], .tup [.tup [i2, i0, i1], .tup [i2, i1, i0], .tup [i0, i1, i2]], .tup [.tup [i2, i0, i1], .tup [i2, i1, i0], .tup [i0, i2, i1]], .tup [.tup [i2, i0, i1], .tup [i2, i1, i0], .tup [i1, i0, i2]], .tup [.tup [i2, i0, i1], .tup [i2, i1, i0], .tup [i1, i2, i0]], .tup [.tup [i2, i0, i1], .tup [i2, i1, i0], .tup [i2, i0, i1]], .tup [.tup [i2, i0, i1], .tup [i2, i1, i0], .tup [i2, i1, i0]], .tup [.tup [i2, i1, i0], .tup [i0, i1, i2], .tup [i0, i1, i2]], .tup [.tup [i2, i1, i0], .tup [i0, i1, i2], .tup [i0, i2, i1]], .tup [.tup [i2, i1, i0], .tup [i0, i1, i2], .tup [i1, i0, i2]], .tup [.tup [i2, i1, i0], .tup [i0, i1, i2], .tup [i1, i2, i0]], .tup [.tup [i2, i1, i0], .tup [i0, i1, i2], .tup [i2, i0, i1]], .tup [.tup [i2, i1, i0], .tup [i0, i1, i2], .tup [i2, i1, i0]], .tup [.tup [i2, i1, i0], .tup [i0, i2, i1], .tup [i0, i1, i2]], .tup [.tup [i2, i1, i0], .tup [i0, i2, i1], .tup [i0, i2, i1]], .tup [.tup [i2, i1, i0], .tup [i0, i2, i1], .tup [i1, i0, i2]], .tup [.tup [i2, i1, i0], .tup [i0, i2, i1], .tup [i1, i2, i0]], .tup [.tup [i2, i1, i0], .tup [i0, i2, i1], .tup [i2, i0, i1]], .tup [.tup [i2, i1, i0], .tup [i0, i2, i1], .tup [i2, i1, i0]], .tup [.tup [i2, i1, i0], .tup [i1, i0, i2], .tup [i0, i1, i2]], .tup [.tup [i2, i1, i0], .tup [i1, i0, i2], .tup [i0, i2, i1]], .tup [.tup [i2, i1, i0], .tup [i1, i0, i2], .tup [i1, i0, i2]], .tup [.tup [i2, i1, i0], .tup [i1, i0, i2], .tup [i1, i2, i0]], .tup [.tup [i2, i1, i0], .tup [i1, i0, i2], .tup [i2, i0, i1]], .tup [.tup [i2, i1, i0], .tup [i1, i0, i2], .tup [i2, i1, i0]], .tup [.tup [i2, i1, i0], .tup [i1, i2, i0], .tup [i0, i1, i2]], .tup [.tup [i2, i1, i0], .tup [i1, i2, i0], .tup [i0, i2, i1]], .tup [.tup [i2, i1, i0], .tup [i1, i2, i0], .tup [i1, i0, i2]], .tup [.tup [i2, i1, i0], .tup [i1, i2, i0], .tup [i1, i2, i0]], .tup [.tup [i2, i1, i0], .tup [i1, i2, i0], .tup [i2, i0, i1]], .tup [.tup [i2, i1, i0], .tup [i1, i2, i0], .tup [i2, i1, i0]], .tup [.tup [i2, i1, i0], .tup [i2, i0, i1], .tup [i0, i1, i2]], .tup [.tup [i2, i1, i0], .tup [i2, i0, i1], .tup [i0, i2, i1]], .tup [.tup [i2, i1, i0], .tup [i2, i0, i1], .tup [i1, i0, i2]], .tup [.tup [i2, i1, i0], .tup [i2, i0, i1], .tup [i1, i2, i0]], .tup [.tup [i2, i1, i0], .tup [i2, i0, i1], .tup [i2, i0, i1]], .tup [.tup [i2, i1, i0], .tup [i2, i0, i1], .tup [i2, i1, i0]], .tup [.tup [i2, i1, i0], .tup [i2, i1, i0], .tup [i0, i1, i2]], .tup [.tup [i2, i1, i0], .tup [i2, i1, i0], .tup [i0, i2, i1]], .tup [.tup [i2, i1, i0], .tup [i2, i1, i0], .tup [i1, i0, i2]], .tup [.tup [i2, i1, i0], .tup [i2, i1, i0], .tup [i1, i2, i0]], .tup [.tup [i2, i1, i0], .tup [i2, i1, i0], .tup [i2, i0, i1]], .tup [.tup [i2, i1, i0], .tup [i2, i1, i0], .tup [i2, i1, i0]]]
theorem e_rows_1 : r_rows [.int (.ofNat 3)] = .ret c_rows_1 := by kernel_rfl
def m_rows : List D → T D
  | [.int (.ofNat 2)] => .ret c_rows_0
  | [.int (.ofNat 3)] => .ret c_rows_1
  | x => r_rows x
theorem m_rows_eq : m_rows = r_rows := by
  funext x
  unfold m_rows
  split
  · exact (e_rows_0).symm
  · exact (e_rows_1).symm
  · rfl
theorem ok_rows {a_rows : Addr} {d_rows : FuncData} (G_rows : Gd K mg "rows" s_rows N_rows a_rows d_rows) (Tx : Txt K mg aP) {a_rows_of : Addr} {d_rows_of : FuncData} (G_rows_of : Gd K mg "rows_of" s_rows_of N_rows_of a_rows_of d_rows_of) (O_rows_of : FnOk P w K mg base CX0 1 a_rows_of d_rows_of N_rows_of (spP K F0 r_rows_of 1)) {a_dealings : Addr} {d_dealings : FuncData} (G_dealings : Gd K mg "dealings" s_dealings N_dealings a_dealings d_dealings) (O_dealings : FnOk P w K mg base CX0 2 a_dealings d_dealings N_dealings (spP K F0 m_dealings 1)) : FnOk P w K mg base CX0 3 a_rows d_rows N_rows (spP K F0 m_rows 1) := by
  have sc := sc_rows
  rw [m_rows_eq]
  refine zdef (F := F0) (N := ["people"]) G_rows.fn sc fun cdv A outer s H E hr => ?_
  have hu := hr.units
  let N : List Str := ["people"]
  exact (zlast (PSf (sRetF_eq _) (zret (ztupOf (by rfl) Tx.nb_tuple (PEseq ((zcall O_rows_of (hr.mono (by omega)) (by rfl) G_rows_of.mg G_rows_of.kp G_rows_of.b (PAf (aCF_eq _ _) (zac (PEnl (zrep (PEnl (zl (zac (PEnl (zlistOf (by rfl) Tx.nb_list (PEseq ((zcall O_dealings (hr.mono (by omega)) (by rfl) G_dealings.mg G_dealings.kp G_dealings.b (zac (zv 0) zan)))))) zan))) (zv 0))) zan)))))))))
/-! _law_better -/
abbrev s_law_better : Stmt := top 34
abbrev N_law_better : List Str := ["row", "dealing"]
theorem sc_law_better : FnScope ["row", "dealing", "one"] N_law_better (defScope s_law_better) := ⟨rfl, rfl, rfl, by decide +kernel, rfl, by decide +kernel, by decide +kernel⟩
def r_law_better : List D → T D := runB (
    (sRetF (lst (nLc (lSeq (eCall m_law_orders 1 (aCF (eLen (lSeq (eV 0))) aN))) (gIX 2) (b1 (eCall r_law_gains 4 (aC (eV 0) (aC (eV 2) (aC (eV 1) (aCF (lst (rg1 (eLen (lSeq (eV 0))))) aN)))))) (eV 2) [2])))) 3
theorem ok_law_better {a_law_better : Addr} {d_law_better : FuncData} (G_law_better : Gd K mg "_law_better" s_law_better N_law_better a_law_better d_law_better) (Tx : Txt K mg aP) {a_law_orders : Addr} {d_law_orders : FuncData} (G_law_orders : Gd K mg "_law_orders" s_law_orders N_law_orders a_law_orders d_law_orders) (O_law_orders : FnOk P w K mg base CX0 1 a_law_orders d_law_orders N_law_orders (spP K F0 m_law_orders 1)) {a_law_gains : Addr} {d_law_gains : FuncData} (G_law_gains : Gd K mg "_law_gains" s_law_gains N_law_gains a_law_gains d_law_gains) (O_law_gains : FnOk P w K mg base CX0 2 a_law_gains d_law_gains N_law_gains (spP K F0 r_law_gains 4)) : FnOk P w K mg base CX0 3 a_law_better d_law_better N_law_better (spP K F0 r_law_better 2) := by
  have sc := sc_law_better
  refine zdef (F := F0) (N := ["row", "dealing", "one"]) G_law_better.fn sc fun cdv A outer s H E hr => ?_
  have hu := hr.units
  let N : List Str := ["row", "dealing", "one"]
  exact (zlast (PSf (sRetF_eq _) (zret (PEnl (zlc rfl sc.nd (zis ((zcall O_law_orders (hr.mono (by omega)) (by rfl) G_law_orders.mg G_law_orders.kp G_law_orders.b (PAf (aCF_eq _ _) (zac (zlen (by rfl) Tx.nb_len (PEseq (zv 0))) zan))))) (blkOk_by (own := [("one", 2)]) (N := N) (sc := (defScope s_law_better)) (by decide +kernel)) (TgCf (gIX_eq _) (zgc_name (by decide))) (fun _ _ _ _ _ => (pg_name (i := 2) sc.nd rfl (by first | exact Or.inl rfl | exact Or.inr rfl))) (fun _ _ _ _ _ => (ztone (ztv ((zcall O_law_gains (hr.mono (by omega)) (by rfl) G_law_gains.mg G_law_gains.kp G_law_gains.b (zac (zv 0) (zac (zv 2) (zac (zv 1) (PAf (aCF_eq _ _) (zac (PEnl (zlistRg rfl (by rfl) Tx.nb_list (by rfl) Tx.nb_range (zlen (by rfl) Tx.nb_len (PEseq (zv 0))))) zan)))))))))) (fun _ _ _ _ _ => (zv 2)))))))
/-! law -/
abbrev s_law : Stmt := top 36
abbrev N_law : List Str := ["script"]
theorem sc_law : FnScope ["script", "row", "people", "one", "dealing"] N_law (defScope s_law) := ⟨rfl, rfl, rfl, by decide +kernel, rfl, by decide +kernel, by decide +kernel⟩
def g_law_0 : Sm :=
    (sSetV 2 (e2 dPlus (eC (.int 2)) (eCallR 1 taken 1 (aC (eC (.int 2)) aN))))
def g_law_1 : Sm :=
    (sIf (bOr (bNot (b1 (eCall (r_law_alike 8) 2 (aC (eCall m_dealings 1 (aC (eV 2) aN)) (aCF (eTupOf (lSeq (eCall m_law_orders 1 (aC (eV 2) aN)))) aN))))) (bNot (b1 (eCall (r_law_alike 8) 2 (aC (eCall m_rows 1 (aC (eV 2) aN)) (aCF (eTupOf (lSeq (eCall m_law_rows 1 (aC (eV 2) aN)))) aN))))))
    (sRet (eC (.bl false))) sNil)
def g_law_r : Sm :=
    (sSeq (sParX 3 4 (eCallR 1 r_law_pick 1 (aC (eCall m_law_rows 1 (aC (eV 2) aN)) aN)) (eCallR 1 r_law_pick 1 (aC (eCall m_law_orders 1 (aC (eV 2) aN)) aN)))
    (sSeq (sIf (bNot (b1 (eCall (r_law_alike 8) 2 (aC (eCall r_better 2 (aC (eV 3) (aC (eV 4) aN))) (aCF (eTupOf (lSeq (eCall r_law_better 2 (aC (eV 3) (aC (eV 4) aN))))) aN)))))
    (sRet (eC (.bl false))) sNil)
    (sRet (eCall (r_law_alike 8) 2 (aC (eCall r_blocking_group 2 (aC (eV 3) (aC (eV 4) aN))) (aC (eCall r_law_blocker 2 (aC (eV 3) (aC (eV 4) aN))) aN))))))
def g_law : Sm := sSeq g_law_0 (sSeq g_law_1 (g_law_r))
theorem ok_law {a_law : Addr} {d_law : FuncData} (G_law : Gd K mg "law" s_law N_law a_law d_law) (Tx : Txt K mg aP) {a_law_alike : Addr} {d_law_alike : FuncData} (G_law_alike : Gd K mg "_law_alike" s_law_alike N_law_alike a_law_alike d_law_alike) (O_law_alike : FnOk P w K mg base CX0 9 a_law_alike d_law_alike N_law_alike (spP K F0 (r_law_alike 8) 2)) {a_law_taken : Addr} {d_law_taken : FuncData} (G_law_taken : Gd K mg "_law_taken" s_law_taken N_law_taken a_law_taken d_law_taken) (O_law_taken : FnOk P w K mg base CX0 1 a_law_taken d_law_taken N_law_taken (spR K F0 taken 1)) {a_law_pick : Addr} {d_law_pick : FuncData} (G_law_pick : Gd K mg "_law_pick" s_law_pick N_law_pick a_law_pick d_law_pick) (O_law_pick : FnOk P w K mg base CX0 2 a_law_pick d_law_pick N_law_pick (spR K F0 r_law_pick 1)) {a_blocking_group : Addr} {d_blocking_group : FuncData} (G_blocking_group : Gd K mg "blocking_group" s_blocking_group N_blocking_group a_blocking_group d_blocking_group) (O_blocking_group : FnOk P w K mg base CX0 5 a_blocking_group d_blocking_group N_blocking_group (spP K F0 r_blocking_group 2)) {a_law_blocker : Addr} {d_law_blocker : FuncData} (G_law_blocker : Gd K mg "_law_blocker" s_law_blocker N_law_blocker a_law_blocker d_law_blocker) (O_law_blocker : FnOk P w K mg base CX0 3 a_law_blocker d_law_blocker N_law_blocker (spP K F0 r_law_blocker 2)) {a_law_rows : Addr} {d_law_rows : FuncData} (G_law_rows : Gd K mg "_law_rows" s_law_rows N_law_rows a_law_rows d_law_rows) (O_law_rows : FnOk P w K mg base CX0 2 a_law_rows d_law_rows N_law_rows (spP K F0 m_law_rows 1)) {a_law_orders : Addr} {d_law_orders : FuncData} (G_law_orders : Gd K mg "_law_orders" s_law_orders N_law_orders a_law_orders d_law_orders) (O_law_orders : FnOk P w K mg base CX0 1 a_law_orders d_law_orders N_law_orders (spP K F0 m_law_orders 1)) {a_better : Addr} {d_better : FuncData} (G_better : Gd K mg "better" s_better N_better a_better d_better) (O_better : FnOk P w K mg base CX0 5 a_better d_better N_better (spP K F0 r_better 2)) {a_dealings : Addr} {d_dealings : FuncData} (G_dealings : Gd K mg "dealings" s_dealings N_dealings a_dealings d_dealings) (O_dealings : FnOk P w K mg base CX0 2 a_dealings d_dealings N_dealings (spP K F0 m_dealings 1)) {a_rows : Addr} {d_rows : FuncData} (G_rows : Gd K mg "rows" s_rows N_rows a_rows d_rows) (O_rows : FnOk P w K mg base CX0 3 a_rows d_rows N_rows (spP K F0 m_rows 1)) {a_law_better : Addr} {d_law_better : FuncData} (G_law_better : Gd K mg "_law_better" s_law_better N_law_better a_law_better d_law_better) (O_law_better : FnOk P w K mg base CX0 3 a_law_better d_law_better N_law_better (spP K F0 r_law_better 2)) (hall : (lawT g_law 5).all fun d => d = .bl true) : FnOk P w K mg base CX0 10 a_law d_law N_law (spLaw K) := by
  have sc := sc_law
  refine law_ok (z := 15720) (g := g_law) (N := ["script", "row", "people", "one", "dealing"]) G_law.fn sc (by decide) hall fun cdv A outer s H E hr => ?_
  have hu := hr.units
  let N : List Str := ["script", "row", "people", "one", "dealing"]
  exact pss_cons (ps_set (i := 1) sc.nd rfl (by first | exact Or.inl rfl | exact Or.inr rfl) (pe_lst (pa_cons (pv 0) (pa_cons pe_int (pa_cons pe_int (pa_cons pe_int pa_nil))))))
    (zcons (PSf (sSetV_eq _ _) (zset (i := 2) sc.nd rfl (by first | exact Or.inl rfl | exact Or.inr rfl) (zop oplus zint ((zcallR (i := 1) O_law_taken (hr.mono (by omega)) (by rfl) G_law_taken.mg G_law_taken.kp G_law_taken.b rfl (by first | exact Or.inl rfl | exact Or.inr (Or.inl rfl) | exact Or.inr (Or.inr rfl)) (zac zint zan))))))
    (zcons (zifs (PW.pt (ztor (ztnot (ztv ((zcall O_law_alike (hr.mono (by omega)) (by rfl) G_law_alike.mg G_law_alike.kp G_law_alike.b (zac ((zcall O_dealings (hr.mono (by omega)) (by rfl) G_dealings.mg G_dealings.kp G_dealings.b (zac (zv 2) zan))) (PAf (aCF_eq _ _) (zac (ztupOf (by rfl) Tx.nb_tuple (PEseq ((zcall O_law_orders (hr.mono (by omega)) (by rfl) G_law_orders.mg G_law_orders.kp G_law_orders.b (zac (zv 2) zan))))) zan))))))) (ztor1 (ztnot (ztv ((zcall O_law_alike (hr.mono (by omega)) (by rfl) G_law_alike.mg G_law_alike.kp G_law_alike.b (zac ((zcall O_rows (hr.mono (by omega)) (by rfl) G_rows.mg G_rows.kp G_rows.b (zac (zv 2) zan))) (PAf (aCF_eq _ _) (zac (ztupOf (by rfl) Tx.nb_tuple (PEseq ((zcall O_law_rows (hr.mono (by omega)) (by rfl) G_law_rows.mg G_law_rows.kp G_law_rows.b (zac (zv 2) zan))))) zan))))))))))
    (zlast (zret zbl)) znil)
    (zcons (PSf (sParX_eq _ _ _ _) (zpar (i := 3) (j := 4) rfl sc.nd rfl rfl (by decide) rfl rfl ((zcallR (i := 1) O_law_pick (hr.mono (by omega)) (by rfl) G_law_pick.mg G_law_pick.kp G_law_pick.b rfl (by first | exact Or.inl rfl | exact Or.inr (Or.inl rfl) | exact Or.inr (Or.inr rfl)) (zac ((zcall O_law_rows (hr.mono (by omega)) (by rfl) G_law_rows.mg G_law_rows.kp G_law_rows.b (zac (zv 2) zan))) zan))) ((zcallR (i := 1) O_law_pick (hr.mono (by omega)) (by rfl) G_law_pick.mg G_law_pick.kp G_law_pick.b rfl (by first | exact Or.inl rfl | exact Or.inr (Or.inl rfl) | exact Or.inr (Or.inr rfl)) (zac ((zcall O_law_orders (hr.mono (by omega)) (by rfl) G_law_orders.mg G_law_orders.kp G_law_orders.b (zac (zv 2) zan))) zan))) (by with_unfolding_all rfl)))
    (zcons (zifs (ztnot (ztv ((zcall O_law_alike (hr.mono (by omega)) (by rfl) G_law_alike.mg G_law_alike.kp G_law_alike.b (zac ((zcall O_better (hr.mono (by omega)) (by rfl) G_better.mg G_better.kp G_better.b (zac (zv 3) (zac (zv 4) zan)))) (PAf (aCF_eq _ _) (zac (ztupOf (by rfl) Tx.nb_tuple (PEseq ((zcall O_law_better (hr.mono (by omega)) (by rfl) G_law_better.mg G_law_better.kp G_law_better.b (zac (zv 3) (zac (zv 4) zan)))))) zan)))))))
    (zlast (zret zbl)) znil)
    (zlast (zret ((zcall O_law_alike (hr.mono (by omega)) (by rfl) G_law_alike.mg G_law_alike.kp G_law_alike.b (zac ((zcall O_blocking_group (hr.mono (by omega)) (by rfl) G_blocking_group.mg G_blocking_group.kp G_blocking_group.b (zac (zv 3) (zac (zv 4) zan)))) (zac ((zcall O_law_blocker (hr.mono (by omega)) (by rfl) G_law_blocker.mg G_law_blocker.kp G_law_blocker.b (zac (zv 3) (zac (zv 4) zan)))) zan))))))))))
end

def frp (p : Nat) : Fr := [none, some .row, some (.v (.int (.ofNat p))), none, none]
theorem st1_2 : g_law_1 (frp 2) [] = .ret (.nx (frp 2) []) := by kernel_rfl
theorem st1_3 : g_law_1 (frp 3) [] = .ret (.nx (frp 3) []) := by kernel_rfl
def tr (p : Nat) : T D := (g_law_r (frp p) []).bind retOf
theorem w2 : (tr 2).width = 4 := by decide +kernel
theorem w3 : (tr 3).width = 216 := by decide +kernel
theorem k2 : allFrom 0 4 (fun i => ((tr 2).sub i).chk) = true := by decide +kernel
theorem k3_0 : allFrom 0 4 (fun i => ((tr 3).sub i).chk) = true := by decide +kernel
theorem k3_1 : allFrom 4 4 (fun i => ((tr 3).sub i).chk) = true := by decide +kernel
theorem k3_2 : allFrom 8 4 (fun i => ((tr 3).sub i).chk) = true := by decide +kernel
theorem k3_3 : allFrom 12 4 (fun i => ((tr 3).sub i).chk) = true := by decide +kernel
theorem k3_4 : allFrom 16 4 (fun i => ((tr 3).sub i).chk) = true := by decide +kernel
theorem k3_5 : allFrom 20 4 (fun i => ((tr 3).sub i).chk) = true := by decide +kernel
theorem k3_6 : allFrom 24 4 (fun i => ((tr 3).sub i).chk) = true := by decide +kernel
theorem k3_7 : allFrom 28 4 (fun i => ((tr 3).sub i).chk) = true := by decide +kernel
theorem k3_8 : allFrom 32 4 (fun i => ((tr 3).sub i).chk) = true := by decide +kernel
theorem k3_9 : allFrom 36 4 (fun i => ((tr 3).sub i).chk) = true := by decide +kernel
theorem k3_10 : allFrom 40 4 (fun i => ((tr 3).sub i).chk) = true := by decide +kernel
theorem k3_11 : allFrom 44 4 (fun i => ((tr 3).sub i).chk) = true := by decide +kernel
theorem k3_12 : allFrom 48 4 (fun i => ((tr 3).sub i).chk) = true := by decide +kernel
theorem k3_13 : allFrom 52 4 (fun i => ((tr 3).sub i).chk) = true := by decide +kernel
theorem k3_14 : allFrom 56 4 (fun i => ((tr 3).sub i).chk) = true := by decide +kernel
theorem k3_15 : allFrom 60 4 (fun i => ((tr 3).sub i).chk) = true := by decide +kernel
theorem k3_16 : allFrom 64 4 (fun i => ((tr 3).sub i).chk) = true := by decide +kernel
theorem k3_17 : allFrom 68 4 (fun i => ((tr 3).sub i).chk) = true := by decide +kernel
theorem k3_18 : allFrom 72 4 (fun i => ((tr 3).sub i).chk) = true := by decide +kernel
theorem k3_19 : allFrom 76 4 (fun i => ((tr 3).sub i).chk) = true := by decide +kernel
theorem k3_20 : allFrom 80 4 (fun i => ((tr 3).sub i).chk) = true := by decide +kernel
theorem k3_21 : allFrom 84 4 (fun i => ((tr 3).sub i).chk) = true := by decide +kernel
theorem k3_22 : allFrom 88 4 (fun i => ((tr 3).sub i).chk) = true := by decide +kernel
theorem k3_23 : allFrom 92 4 (fun i => ((tr 3).sub i).chk) = true := by decide +kernel
theorem k3_24 : allFrom 96 4 (fun i => ((tr 3).sub i).chk) = true := by decide +kernel
theorem k3_25 : allFrom 100 4 (fun i => ((tr 3).sub i).chk) = true := by decide +kernel
theorem k3_26 : allFrom 104 4 (fun i => ((tr 3).sub i).chk) = true := by decide +kernel
theorem k3_27 : allFrom 108 4 (fun i => ((tr 3).sub i).chk) = true := by decide +kernel
theorem k3_28 : allFrom 112 4 (fun i => ((tr 3).sub i).chk) = true := by decide +kernel
theorem k3_29 : allFrom 116 4 (fun i => ((tr 3).sub i).chk) = true := by decide +kernel
theorem k3_30 : allFrom 120 4 (fun i => ((tr 3).sub i).chk) = true := by decide +kernel
theorem k3_31 : allFrom 124 4 (fun i => ((tr 3).sub i).chk) = true := by decide +kernel
theorem k3_32 : allFrom 128 4 (fun i => ((tr 3).sub i).chk) = true := by decide +kernel
theorem k3_33 : allFrom 132 4 (fun i => ((tr 3).sub i).chk) = true := by decide +kernel
theorem k3_34 : allFrom 136 4 (fun i => ((tr 3).sub i).chk) = true := by decide +kernel
theorem k3_35 : allFrom 140 4 (fun i => ((tr 3).sub i).chk) = true := by decide +kernel
theorem k3_36 : allFrom 144 4 (fun i => ((tr 3).sub i).chk) = true := by decide +kernel
theorem k3_37 : allFrom 148 4 (fun i => ((tr 3).sub i).chk) = true := by decide +kernel
theorem k3_38 : allFrom 152 4 (fun i => ((tr 3).sub i).chk) = true := by decide +kernel
theorem k3_39 : allFrom 156 4 (fun i => ((tr 3).sub i).chk) = true := by decide +kernel
theorem k3_40 : allFrom 160 4 (fun i => ((tr 3).sub i).chk) = true := by decide +kernel
theorem k3_41 : allFrom 164 4 (fun i => ((tr 3).sub i).chk) = true := by decide +kernel
theorem k3_42 : allFrom 168 4 (fun i => ((tr 3).sub i).chk) = true := by decide +kernel
theorem k3_43 : allFrom 172 4 (fun i => ((tr 3).sub i).chk) = true := by decide +kernel
theorem k3_44 : allFrom 176 4 (fun i => ((tr 3).sub i).chk) = true := by decide +kernel
theorem k3_45 : allFrom 180 4 (fun i => ((tr 3).sub i).chk) = true := by decide +kernel
theorem k3_46 : allFrom 184 4 (fun i => ((tr 3).sub i).chk) = true := by decide +kernel
theorem k3_47 : allFrom 188 4 (fun i => ((tr 3).sub i).chk) = true := by decide +kernel
theorem k3_48 : allFrom 192 4 (fun i => ((tr 3).sub i).chk) = true := by decide +kernel
theorem k3_49 : allFrom 196 4 (fun i => ((tr 3).sub i).chk) = true := by decide +kernel
theorem k3_50 : allFrom 200 4 (fun i => ((tr 3).sub i).chk) = true := by decide +kernel
theorem k3_51 : allFrom 204 4 (fun i => ((tr 3).sub i).chk) = true := by decide +kernel
theorem k3_52 : allFrom 208 4 (fun i => ((tr 3).sub i).chk) = true := by decide +kernel
theorem k3_53 : allFrom 212 4 (fun i => ((tr 3).sub i).chk) = true := by decide +kernel
theorem up_0 : ∀ i, i < 4 → ((tr 3).sub i).chk = true := fun i hi => allFrom_of k3_0 i (Nat.zero_le _) (by omega)
theorem up_1 : ∀ i, i < 8 → ((tr 3).sub i).chk = true := upTo (lo := 4) up_0 k3_1
theorem up_2 : ∀ i, i < 12 → ((tr 3).sub i).chk = true := upTo (lo := 8) up_1 k3_2
theorem up_3 : ∀ i, i < 16 → ((tr 3).sub i).chk = true := upTo (lo := 12) up_2 k3_3
theorem up_4 : ∀ i, i < 20 → ((tr 3).sub i).chk = true := upTo (lo := 16) up_3 k3_4
theorem up_5 : ∀ i, i < 24 → ((tr 3).sub i).chk = true := upTo (lo := 20) up_4 k3_5
theorem up_6 : ∀ i, i < 28 → ((tr 3).sub i).chk = true := upTo (lo := 24) up_5 k3_6
theorem up_7 : ∀ i, i < 32 → ((tr 3).sub i).chk = true := upTo (lo := 28) up_6 k3_7
theorem up_8 : ∀ i, i < 36 → ((tr 3).sub i).chk = true := upTo (lo := 32) up_7 k3_8
theorem up_9 : ∀ i, i < 40 → ((tr 3).sub i).chk = true := upTo (lo := 36) up_8 k3_9
theorem up_10 : ∀ i, i < 44 → ((tr 3).sub i).chk = true := upTo (lo := 40) up_9 k3_10
theorem up_11 : ∀ i, i < 48 → ((tr 3).sub i).chk = true := upTo (lo := 44) up_10 k3_11
theorem up_12 : ∀ i, i < 52 → ((tr 3).sub i).chk = true := upTo (lo := 48) up_11 k3_12
theorem up_13 : ∀ i, i < 56 → ((tr 3).sub i).chk = true := upTo (lo := 52) up_12 k3_13
theorem up_14 : ∀ i, i < 60 → ((tr 3).sub i).chk = true := upTo (lo := 56) up_13 k3_14
theorem up_15 : ∀ i, i < 64 → ((tr 3).sub i).chk = true := upTo (lo := 60) up_14 k3_15
theorem up_16 : ∀ i, i < 68 → ((tr 3).sub i).chk = true := upTo (lo := 64) up_15 k3_16
theorem up_17 : ∀ i, i < 72 → ((tr 3).sub i).chk = true := upTo (lo := 68) up_16 k3_17
theorem up_18 : ∀ i, i < 76 → ((tr 3).sub i).chk = true := upTo (lo := 72) up_17 k3_18
theorem up_19 : ∀ i, i < 80 → ((tr 3).sub i).chk = true := upTo (lo := 76) up_18 k3_19
theorem up_20 : ∀ i, i < 84 → ((tr 3).sub i).chk = true := upTo (lo := 80) up_19 k3_20
theorem up_21 : ∀ i, i < 88 → ((tr 3).sub i).chk = true := upTo (lo := 84) up_20 k3_21
theorem up_22 : ∀ i, i < 92 → ((tr 3).sub i).chk = true := upTo (lo := 88) up_21 k3_22
theorem up_23 : ∀ i, i < 96 → ((tr 3).sub i).chk = true := upTo (lo := 92) up_22 k3_23
theorem up_24 : ∀ i, i < 100 → ((tr 3).sub i).chk = true := upTo (lo := 96) up_23 k3_24
theorem up_25 : ∀ i, i < 104 → ((tr 3).sub i).chk = true := upTo (lo := 100) up_24 k3_25
theorem up_26 : ∀ i, i < 108 → ((tr 3).sub i).chk = true := upTo (lo := 104) up_25 k3_26
theorem up_27 : ∀ i, i < 112 → ((tr 3).sub i).chk = true := upTo (lo := 108) up_26 k3_27
theorem up_28 : ∀ i, i < 116 → ((tr 3).sub i).chk = true := upTo (lo := 112) up_27 k3_28
theorem up_29 : ∀ i, i < 120 → ((tr 3).sub i).chk = true := upTo (lo := 116) up_28 k3_29
theorem up_30 : ∀ i, i < 124 → ((tr 3).sub i).chk = true := upTo (lo := 120) up_29 k3_30
theorem up_31 : ∀ i, i < 128 → ((tr 3).sub i).chk = true := upTo (lo := 124) up_30 k3_31
theorem up_32 : ∀ i, i < 132 → ((tr 3).sub i).chk = true := upTo (lo := 128) up_31 k3_32
theorem up_33 : ∀ i, i < 136 → ((tr 3).sub i).chk = true := upTo (lo := 132) up_32 k3_33
theorem up_34 : ∀ i, i < 140 → ((tr 3).sub i).chk = true := upTo (lo := 136) up_33 k3_34
theorem up_35 : ∀ i, i < 144 → ((tr 3).sub i).chk = true := upTo (lo := 140) up_34 k3_35
theorem up_36 : ∀ i, i < 148 → ((tr 3).sub i).chk = true := upTo (lo := 144) up_35 k3_36
theorem up_37 : ∀ i, i < 152 → ((tr 3).sub i).chk = true := upTo (lo := 148) up_36 k3_37
theorem up_38 : ∀ i, i < 156 → ((tr 3).sub i).chk = true := upTo (lo := 152) up_37 k3_38
theorem up_39 : ∀ i, i < 160 → ((tr 3).sub i).chk = true := upTo (lo := 156) up_38 k3_39
theorem up_40 : ∀ i, i < 164 → ((tr 3).sub i).chk = true := upTo (lo := 160) up_39 k3_40
theorem up_41 : ∀ i, i < 168 → ((tr 3).sub i).chk = true := upTo (lo := 164) up_40 k3_41
theorem up_42 : ∀ i, i < 172 → ((tr 3).sub i).chk = true := upTo (lo := 168) up_41 k3_42
theorem up_43 : ∀ i, i < 176 → ((tr 3).sub i).chk = true := upTo (lo := 172) up_42 k3_43
theorem up_44 : ∀ i, i < 180 → ((tr 3).sub i).chk = true := upTo (lo := 176) up_43 k3_44
theorem up_45 : ∀ i, i < 184 → ((tr 3).sub i).chk = true := upTo (lo := 180) up_44 k3_45
theorem up_46 : ∀ i, i < 188 → ((tr 3).sub i).chk = true := upTo (lo := 184) up_45 k3_46
theorem up_47 : ∀ i, i < 192 → ((tr 3).sub i).chk = true := upTo (lo := 188) up_46 k3_47
theorem up_48 : ∀ i, i < 196 → ((tr 3).sub i).chk = true := upTo (lo := 192) up_47 k3_48
theorem up_49 : ∀ i, i < 200 → ((tr 3).sub i).chk = true := upTo (lo := 196) up_48 k3_49
theorem up_50 : ∀ i, i < 204 → ((tr 3).sub i).chk = true := upTo (lo := 200) up_49 k3_50
theorem up_51 : ∀ i, i < 208 → ((tr 3).sub i).chk = true := upTo (lo := 204) up_50 k3_51
theorem up_52 : ∀ i, i < 212 → ((tr 3).sub i).chk = true := upTo (lo := 208) up_51 k3_52
theorem up_53 : ∀ i, i < 216 → ((tr 3).sub i).chk = true := upTo (lo := 212) up_52 k3_53
theorem st0 : (g_law_0 (none :: some .row :: List.replicate 3 none) []).all fun o => o = .nx (frp 2) [] ∨ o = .nx (frp 3) [] := fun i hi => match i, hi with
  | 0, _ => .inl rfl
  | 1, _ => .inr rfl
theorem law_all : (lawT g_law 5).all fun d => d = .bl true := by
  refine T.bind_all (T.bind_all (T.all_mono (fun o ho => ?_) st0))
  rcases ho with rfl | rfl
  · show ((g_law_1 (frp 2) []).bind (seqO g_law_r)).all _
    rw [st1_2]
    exact T.all_bind (chk_sub (t := tr 2) (by decide) w2 fun i hi => allFrom_of k2 i (Nat.zero_le _) (by omega))
  · show ((g_law_1 (frp 3) []).bind (seqO g_law_r)).all _
    rw [st1_3]
    exact T.all_bind (chk_sub (t := tr 3) (by decide) w3 up_53)
theorem all_mk {l : PySem.W.OpenLaw} {w : World} {K : PySem.W.Frag} {h : Heap} {mg : Str → Option Value} {fa aP : Addr} {tp1 tp2 : Tok} {np : Nat} {slp : Array (Option Value)} (X : K.In h) (G : h.Ns mainGlobals mg) (hfa : mg "law" = some (.ref fa)) {oc_law_alike kV_law_alike dc_law_alike pm_law_alike cd_law_alike ct_law_alike : Value} {od_law_alike an_law_alike : Option Addr} {sl_law_alike : Array (Option Value)} {a_law_alike : Addr} {oc_law_taken kV_law_taken dc_law_taken pm_law_taken cd_law_taken ct_law_taken : Value} {od_law_taken an_law_taken : Option Addr} {sl_law_taken : Array (Option Value)} {a_law_taken : Addr} {oc_law_pick kV_law_pick dc_law_pick pm_law_pick cd_law_pick ct_law_pick : Value} {od_law_pick an_law_pick : Option Addr} {sl_law_pick : Array (Option Value)} {a_law_pick : Addr} {oc_is_below kV_is_below dc_is_below pm_is_below cd_is_below ct_is_below : Value} {od_is_below an_is_below : Option Addr} {sl_is_below : Array (Option Value)} {a_is_below : Addr} {oc_is_order kV_is_order dc_is_order pm_is_order cd_is_order ct_is_order : Value} {od_is_order an_is_order : Option Addr} {sl_is_order : Array (Option Value)} {a_is_order : Addr} {oc_is_row kV_is_row dc_is_row pm_is_row cd_is_row ct_is_row : Value} {od_is_row an_is_row : Option Addr} {sl_is_row : Array (Option Value)} {a_is_row : Addr} {oc_check_row kV_check_row dc_check_row pm_check_row cd_check_row ct_check_row : Value} {od_check_row an_check_row : Option Addr} {sl_check_row : Array (Option Value)} {a_check_row : Addr} {oc_check_dealing kV_check_dealing dc_check_dealing pm_check_dealing cd_check_dealing ct_check_dealing : Value} {od_check_dealing an_check_dealing : Option Addr} {sl_check_dealing : Array (Option Value)} {a_check_dealing : Addr} {oc_check_alike kV_check_alike dc_check_alike pm_check_alike cd_check_alike ct_check_alike : Value} {od_check_alike an_check_alike : Option Addr} {sl_check_alike : Array (Option Value)} {a_check_alike : Addr} {oc_groups kV_groups dc_groups pm_groups cd_groups ct_groups : Value} {od_groups an_groups : Option Addr} {sl_groups : Array (Option Value)} {a_groups : Addr} {oc_check_people kV_check_people dc_check_people pm_check_people cd_check_people ct_check_people : Value} {od_check_people an_check_people : Option Addr} {sl_check_people : Array (Option Value)} {a_check_people : Addr} {oc_dealings kV_dealings dc_dealings pm_dealings cd_dealings ct_dealings : Value} {od_dealings an_dealings : Option Addr} {sl_dealings : Array (Option Value)} {a_dealings : Addr} {oc_is_within kV_is_within dc_is_within pm_is_within cd_is_within ct_is_within : Value} {od_is_within an_is_within : Option Addr} {sl_is_within : Array (Option Value)} {a_is_within : Addr} {oc_is_better kV_is_better dc_is_better pm_is_better cd_is_better ct_is_better : Value} {od_is_better an_is_better : Option Addr} {sl_is_better : Array (Option Value)} {a_is_better : Addr} {oc_blocks kV_blocks dc_blocks pm_blocks cd_blocks ct_blocks : Value} {od_blocks an_blocks : Option Addr} {sl_blocks : Array (Option Value)} {a_blocks : Addr} {oc_blocking_group kV_blocking_group dc_blocking_group pm_blocking_group cd_blocking_group ct_blocking_group : Value} {od_blocking_group an_blocking_group : Option Addr} {sl_blocking_group : Array (Option Value)} {a_blocking_group : Addr} {oc_law_orders kV_law_orders dc_law_orders pm_law_orders cd_law_orders ct_law_orders : Value} {od_law_orders an_law_orders : Option Addr} {sl_law_orders : Array (Option Value)} {a_law_orders : Addr} {oc_law_before kV_law_before dc_law_before pm_law_before cd_law_before ct_law_before : Value} {od_law_before an_law_before : Option Addr} {sl_law_before : Array (Option Value)} {a_law_before : Addr} {oc_law_gains kV_law_gains dc_law_gains pm_law_gains cd_law_gains ct_law_gains : Value} {od_law_gains an_law_gains : Option Addr} {sl_law_gains : Array (Option Value)} {a_law_gains : Addr} {oc_law_blocker kV_law_blocker dc_law_blocker pm_law_blocker cd_law_blocker ct_law_blocker : Value} {od_law_blocker an_law_blocker : Option Addr} {sl_law_blocker : Array (Option Value)} {a_law_blocker : Addr} {oc_law_rows kV_law_rows dc_law_rows pm_law_rows cd_law_rows ct_law_rows : Value} {od_law_rows an_law_rows : Option Addr} {sl_law_rows : Array (Option Value)} {a_law_rows : Addr} {oc_better kV_better dc_better pm_better cd_better ct_better : Value} {od_better an_better : Option Addr} {sl_better : Array (Option Value)} {a_better : Addr} {oc_rows_of kV_rows_of dc_rows_of pm_rows_of cd_rows_of ct_rows_of : Value} {od_rows_of an_rows_of : Option Addr} {sl_rows_of : Array (Option Value)} {a_rows_of : Addr} {oc_rows kV_rows dc_rows pm_rows cd_rows ct_rows : Value} {od_rows an_rows : Option Addr} {sl_rows : Array (Option Value)} {a_rows : Addr} {oc_law_better kV_law_better dc_law_better pm_law_better cd_law_better ct_law_better : Value} {od_law_better an_law_better : Option Addr} {sl_law_better : Array (Option Value)} {a_law_better : Addr} {oc_law kV_law dc_law pm_law cd_law ct_law : Value} {od_law an_law : Option Addr} {sl_law : Array (Option Value)} {a_law : Addr}
    (m_law_alike_ : PySem.W.nsIn K mainGlobals "_law_alike" = some (some (.ref a_law_alike))) (l_law_alike : K.lookup a_law_alike = some ⟨oc_law_alike, od_law_alike, .func (PySem.W.fnOf "_law_alike" "_law_alike" (defArgs s_law_alike) (defBody s_law_alike) (defScope s_law_alike) .none kV_law_alike dc_law_alike pm_law_alike an_law_alike cd_law_alike ct_law_alike), sl_law_alike⟩) (c_law_alike : PySem.W.codeIn K cd_law_alike "_law_alike" = true) (k_law_alike : PySem.W.keepIn K (.ref a_law_alike) = true)
    (m_law_taken_ : PySem.W.nsIn K mainGlobals "_law_taken" = some (some (.ref a_law_taken))) (l_law_taken : K.lookup a_law_taken = some ⟨oc_law_taken, od_law_taken, .func (PySem.W.fnOf "_law_taken" "_law_taken" (defArgs s_law_taken) (defBody s_law_taken) (defScope s_law_taken) .none kV_law_taken dc_law_taken pm_law_taken an_law_taken cd_law_taken ct_law_taken), sl_law_taken⟩) (c_law_taken : PySem.W.codeIn K cd_law_taken "_law_taken" = true) (k_law_taken : PySem.W.keepIn K (.ref a_law_taken) = true)
    (m_law_pick_ : PySem.W.nsIn K mainGlobals "_law_pick" = some (some (.ref a_law_pick))) (l_law_pick : K.lookup a_law_pick = some ⟨oc_law_pick, od_law_pick, .func (PySem.W.fnOf "_law_pick" "_law_pick" (defArgs s_law_pick) (defBody s_law_pick) (defScope s_law_pick) .none kV_law_pick dc_law_pick pm_law_pick an_law_pick cd_law_pick ct_law_pick), sl_law_pick⟩) (c_law_pick : PySem.W.codeIn K cd_law_pick "_law_pick" = true) (k_law_pick : PySem.W.keepIn K (.ref a_law_pick) = true)
    (m_is_below_ : PySem.W.nsIn K mainGlobals "is_below" = some (some (.ref a_is_below))) (l_is_below : K.lookup a_is_below = some ⟨oc_is_below, od_is_below, .func (PySem.W.fnOf "is_below" "is_below" (defArgs s_is_below) (defBody s_is_below) (defScope s_is_below) .none kV_is_below dc_is_below pm_is_below an_is_below cd_is_below ct_is_below), sl_is_below⟩) (c_is_below : PySem.W.codeIn K cd_is_below "is_below" = true) (k_is_below : PySem.W.keepIn K (.ref a_is_below) = true)
    (m_is_order_ : PySem.W.nsIn K mainGlobals "is_order" = some (some (.ref a_is_order))) (l_is_order : K.lookup a_is_order = some ⟨oc_is_order, od_is_order, .func (PySem.W.fnOf "is_order" "is_order" (defArgs s_is_order) (defBody s_is_order) (defScope s_is_order) .none kV_is_order dc_is_order pm_is_order an_is_order cd_is_order ct_is_order), sl_is_order⟩) (c_is_order : PySem.W.codeIn K cd_is_order "is_order" = true) (k_is_order : PySem.W.keepIn K (.ref a_is_order) = true)
    (m_is_row_ : PySem.W.nsIn K mainGlobals "is_row" = some (some (.ref a_is_row))) (l_is_row : K.lookup a_is_row = some ⟨oc_is_row, od_is_row, .func (PySem.W.fnOf "is_row" "is_row" (defArgs s_is_row) (defBody s_is_row) (defScope s_is_row) .none kV_is_row dc_is_row pm_is_row an_is_row cd_is_row ct_is_row), sl_is_row⟩) (c_is_row : PySem.W.codeIn K cd_is_row "is_row" = true) (k_is_row : PySem.W.keepIn K (.ref a_is_row) = true)
    (m_check_row_ : PySem.W.nsIn K mainGlobals "check_row" = some (some (.ref a_check_row))) (l_check_row : K.lookup a_check_row = some ⟨oc_check_row, od_check_row, .func (PySem.W.fnOf "check_row" "check_row" (defArgs s_check_row) (defBody s_check_row) (defScope s_check_row) .none kV_check_row dc_check_row pm_check_row an_check_row cd_check_row ct_check_row), sl_check_row⟩) (c_check_row : PySem.W.codeIn K cd_check_row "check_row" = true) (k_check_row : PySem.W.keepIn K (.ref a_check_row) = true)
    (m_check_dealing_ : PySem.W.nsIn K mainGlobals "check_dealing" = some (some (.ref a_check_dealing))) (l_check_dealing : K.lookup a_check_dealing = some ⟨oc_check_dealing, od_check_dealing, .func (PySem.W.fnOf "check_dealing" "check_dealing" (defArgs s_check_dealing) (defBody s_check_dealing) (defScope s_check_dealing) .none kV_check_dealing dc_check_dealing pm_check_dealing an_check_dealing cd_check_dealing ct_check_dealing), sl_check_dealing⟩) (c_check_dealing : PySem.W.codeIn K cd_check_dealing "check_dealing" = true) (k_check_dealing : PySem.W.keepIn K (.ref a_check_dealing) = true)
    (m_check_alike_ : PySem.W.nsIn K mainGlobals "check_alike" = some (some (.ref a_check_alike))) (l_check_alike : K.lookup a_check_alike = some ⟨oc_check_alike, od_check_alike, .func (PySem.W.fnOf "check_alike" "check_alike" (defArgs s_check_alike) (defBody s_check_alike) (defScope s_check_alike) .none kV_check_alike dc_check_alike pm_check_alike an_check_alike cd_check_alike ct_check_alike), sl_check_alike⟩) (c_check_alike : PySem.W.codeIn K cd_check_alike "check_alike" = true) (k_check_alike : PySem.W.keepIn K (.ref a_check_alike) = true)
    (m_groups_ : PySem.W.nsIn K mainGlobals "groups" = some (some (.ref a_groups))) (l_groups : K.lookup a_groups = some ⟨oc_groups, od_groups, .func (PySem.W.fnOf "groups" "groups" (defArgs s_groups) (defBody s_groups) (defScope s_groups) .none kV_groups dc_groups pm_groups an_groups cd_groups ct_groups), sl_groups⟩) (c_groups : PySem.W.codeIn K cd_groups "groups" = true) (k_groups : PySem.W.keepIn K (.ref a_groups) = true)
    (m_check_people_ : PySem.W.nsIn K mainGlobals "check_people" = some (some (.ref a_check_people))) (l_check_people : K.lookup a_check_people = some ⟨oc_check_people, od_check_people, .func (PySem.W.fnOf "check_people" "check_people" (defArgs s_check_people) (defBody s_check_people) (defScope s_check_people) .none kV_check_people dc_check_people pm_check_people an_check_people cd_check_people ct_check_people), sl_check_people⟩) (c_check_people : PySem.W.codeIn K cd_check_people "check_people" = true) (k_check_people : PySem.W.keepIn K (.ref a_check_people) = true)
    (m_dealings_ : PySem.W.nsIn K mainGlobals "dealings" = some (some (.ref a_dealings))) (l_dealings : K.lookup a_dealings = some ⟨oc_dealings, od_dealings, .func (PySem.W.fnOf "dealings" "dealings" (defArgs s_dealings) (defBody s_dealings) (defScope s_dealings) .none kV_dealings dc_dealings pm_dealings an_dealings cd_dealings ct_dealings), sl_dealings⟩) (c_dealings : PySem.W.codeIn K cd_dealings "dealings" = true) (k_dealings : PySem.W.keepIn K (.ref a_dealings) = true)
    (m_is_within_ : PySem.W.nsIn K mainGlobals "is_within" = some (some (.ref a_is_within))) (l_is_within : K.lookup a_is_within = some ⟨oc_is_within, od_is_within, .func (PySem.W.fnOf "is_within" "is_within" (defArgs s_is_within) (defBody s_is_within) (defScope s_is_within) .none kV_is_within dc_is_within pm_is_within an_is_within cd_is_within ct_is_within), sl_is_within⟩) (c_is_within : PySem.W.codeIn K cd_is_within "is_within" = true) (k_is_within : PySem.W.keepIn K (.ref a_is_within) = true)
    (m_is_better_ : PySem.W.nsIn K mainGlobals "is_better" = some (some (.ref a_is_better))) (l_is_better : K.lookup a_is_better = some ⟨oc_is_better, od_is_better, .func (PySem.W.fnOf "is_better" "is_better" (defArgs s_is_better) (defBody s_is_better) (defScope s_is_better) .none kV_is_better dc_is_better pm_is_better an_is_better cd_is_better ct_is_better), sl_is_better⟩) (c_is_better : PySem.W.codeIn K cd_is_better "is_better" = true) (k_is_better : PySem.W.keepIn K (.ref a_is_better) = true)
    (m_blocks_ : PySem.W.nsIn K mainGlobals "blocks" = some (some (.ref a_blocks))) (l_blocks : K.lookup a_blocks = some ⟨oc_blocks, od_blocks, .func (PySem.W.fnOf "blocks" "blocks" (defArgs s_blocks) (defBody s_blocks) (defScope s_blocks) .none kV_blocks dc_blocks pm_blocks an_blocks cd_blocks ct_blocks), sl_blocks⟩) (c_blocks : PySem.W.codeIn K cd_blocks "blocks" = true) (k_blocks : PySem.W.keepIn K (.ref a_blocks) = true)
    (m_blocking_group_ : PySem.W.nsIn K mainGlobals "blocking_group" = some (some (.ref a_blocking_group))) (l_blocking_group : K.lookup a_blocking_group = some ⟨oc_blocking_group, od_blocking_group, .func (PySem.W.fnOf "blocking_group" "blocking_group" (defArgs s_blocking_group) (defBody s_blocking_group) (defScope s_blocking_group) .none kV_blocking_group dc_blocking_group pm_blocking_group an_blocking_group cd_blocking_group ct_blocking_group), sl_blocking_group⟩) (c_blocking_group : PySem.W.codeIn K cd_blocking_group "blocking_group" = true) (k_blocking_group : PySem.W.keepIn K (.ref a_blocking_group) = true)
    (m_law_orders_ : PySem.W.nsIn K mainGlobals "_law_orders" = some (some (.ref a_law_orders))) (l_law_orders : K.lookup a_law_orders = some ⟨oc_law_orders, od_law_orders, .func (PySem.W.fnOf "_law_orders" "_law_orders" (defArgs s_law_orders) (defBody s_law_orders) (defScope s_law_orders) .none kV_law_orders dc_law_orders pm_law_orders an_law_orders cd_law_orders ct_law_orders), sl_law_orders⟩) (c_law_orders : PySem.W.codeIn K cd_law_orders "_law_orders" = true) (k_law_orders : PySem.W.keepIn K (.ref a_law_orders) = true)
    (m_law_before_ : PySem.W.nsIn K mainGlobals "_law_before" = some (some (.ref a_law_before))) (l_law_before : K.lookup a_law_before = some ⟨oc_law_before, od_law_before, .func (PySem.W.fnOf "_law_before" "_law_before" (defArgs s_law_before) (defBody s_law_before) (defScope s_law_before) .none kV_law_before dc_law_before pm_law_before an_law_before cd_law_before ct_law_before), sl_law_before⟩) (c_law_before : PySem.W.codeIn K cd_law_before "_law_before" = true) (k_law_before : PySem.W.keepIn K (.ref a_law_before) = true)
    (m_law_gains_ : PySem.W.nsIn K mainGlobals "_law_gains" = some (some (.ref a_law_gains))) (l_law_gains : K.lookup a_law_gains = some ⟨oc_law_gains, od_law_gains, .func (PySem.W.fnOf "_law_gains" "_law_gains" (defArgs s_law_gains) (defBody s_law_gains) (defScope s_law_gains) .none kV_law_gains dc_law_gains pm_law_gains an_law_gains cd_law_gains ct_law_gains), sl_law_gains⟩) (c_law_gains : PySem.W.codeIn K cd_law_gains "_law_gains" = true) (k_law_gains : PySem.W.keepIn K (.ref a_law_gains) = true)
    (m_law_blocker_ : PySem.W.nsIn K mainGlobals "_law_blocker" = some (some (.ref a_law_blocker))) (l_law_blocker : K.lookup a_law_blocker = some ⟨oc_law_blocker, od_law_blocker, .func (PySem.W.fnOf "_law_blocker" "_law_blocker" (defArgs s_law_blocker) (defBody s_law_blocker) (defScope s_law_blocker) .none kV_law_blocker dc_law_blocker pm_law_blocker an_law_blocker cd_law_blocker ct_law_blocker), sl_law_blocker⟩) (c_law_blocker : PySem.W.codeIn K cd_law_blocker "_law_blocker" = true) (k_law_blocker : PySem.W.keepIn K (.ref a_law_blocker) = true)
    (m_law_rows_ : PySem.W.nsIn K mainGlobals "_law_rows" = some (some (.ref a_law_rows))) (l_law_rows : K.lookup a_law_rows = some ⟨oc_law_rows, od_law_rows, .func (PySem.W.fnOf "_law_rows" "_law_rows" (defArgs s_law_rows) (defBody s_law_rows) (defScope s_law_rows) .none kV_law_rows dc_law_rows pm_law_rows an_law_rows cd_law_rows ct_law_rows), sl_law_rows⟩) (c_law_rows : PySem.W.codeIn K cd_law_rows "_law_rows" = true) (k_law_rows : PySem.W.keepIn K (.ref a_law_rows) = true)
    (m_better_ : PySem.W.nsIn K mainGlobals "better" = some (some (.ref a_better))) (l_better : K.lookup a_better = some ⟨oc_better, od_better, .func (PySem.W.fnOf "better" "better" (defArgs s_better) (defBody s_better) (defScope s_better) .none kV_better dc_better pm_better an_better cd_better ct_better), sl_better⟩) (c_better : PySem.W.codeIn K cd_better "better" = true) (k_better : PySem.W.keepIn K (.ref a_better) = true)
    (m_rows_of_ : PySem.W.nsIn K mainGlobals "rows_of" = some (some (.ref a_rows_of))) (l_rows_of : K.lookup a_rows_of = some ⟨oc_rows_of, od_rows_of, .func (PySem.W.fnOf "rows_of" "rows_of" (defArgs s_rows_of) (defBody s_rows_of) (defScope s_rows_of) .none kV_rows_of dc_rows_of pm_rows_of an_rows_of cd_rows_of ct_rows_of), sl_rows_of⟩) (c_rows_of : PySem.W.codeIn K cd_rows_of "rows_of" = true) (k_rows_of : PySem.W.keepIn K (.ref a_rows_of) = true)
    (m_rows_ : PySem.W.nsIn K mainGlobals "rows" = some (some (.ref a_rows))) (l_rows : K.lookup a_rows = some ⟨oc_rows, od_rows, .func (PySem.W.fnOf "rows" "rows" (defArgs s_rows) (defBody s_rows) (defScope s_rows) .none kV_rows dc_rows pm_rows an_rows cd_rows ct_rows), sl_rows⟩) (c_rows : PySem.W.codeIn K cd_rows "rows" = true) (k_rows : PySem.W.keepIn K (.ref a_rows) = true)
    (m_law_better_ : PySem.W.nsIn K mainGlobals "_law_better" = some (some (.ref a_law_better))) (l_law_better : K.lookup a_law_better = some ⟨oc_law_better, od_law_better, .func (PySem.W.fnOf "_law_better" "_law_better" (defArgs s_law_better) (defBody s_law_better) (defScope s_law_better) .none kV_law_better dc_law_better pm_law_better an_law_better cd_law_better ct_law_better), sl_law_better⟩) (c_law_better : PySem.W.codeIn K cd_law_better "_law_better" = true) (k_law_better : PySem.W.keepIn K (.ref a_law_better) = true)
    (m_law_ : PySem.W.nsIn K mainGlobals "law" = some (some (.ref a_law))) (l_law : K.lookup a_law = some ⟨oc_law, od_law, .func (PySem.W.fnOf "law" "law" (defArgs s_law) (defBody s_law) (defScope s_law) .none kV_law dc_law pm_law an_law cd_law ct_law), sl_law⟩) (c_law : PySem.W.codeIn K cd_law "law" = true) (k_law : PySem.W.keepIn K (.ref a_law) = true)
    (z_all : PySem.W.nsIn K mainGlobals "all" = some none)
    (z_any : PySem.W.nsIn K mainGlobals "any" = some none)
    (z_bool : PySem.W.nsIn K mainGlobals "bool" = some none)
    (z_enumerate : PySem.W.nsIn K mainGlobals "enumerate" = some none)
    (z_int : PySem.W.nsIn K mainGlobals "int" = some none)
    (z_isinstance : PySem.W.nsIn K mainGlobals "isinstance" = some none)
    (z_len : PySem.W.nsIn K mainGlobals "len" = some none)
    (z_list : PySem.W.nsIn K mainGlobals "list" = some none)
    (z_range : PySem.W.nsIn K mainGlobals "range" = some none)
    (z_set : PySem.W.nsIn K mainGlobals "set" = some none)
    (z_sorted : PySem.W.nsIn K mainGlobals "sorted" = some none)
    (z_str : PySem.W.nsIn K mainGlobals "str" = some none)
    (z_tuple : PySem.W.nsIn K mainGlobals "tuple" = some none)
    (z_type : PySem.W.nsIn K mainGlobals "type" = some none)
    (zpm : PySem.W.nsIn K mainGlobals "permutations" = some (some (.type "itertools.permutations"))) (zcb : PySem.W.nsIn K mainGlobals "combinations" = some (some (.type "itertools.combinations"))) (zpp : PySem.W.nsIn K mainGlobals "PEOPLE" = some (some (.ref aP))) (zlp : K.lookup aP = some ⟨.type "tuple", none, .seq #[.int 2 tp1, .int 3 tp2] np, slp⟩) :
    ∃ fd : FuncData, (∀ (s : Shared) (v : Value), BindsTo s fd ⟨[v], []⟩ [("script", v)]) ∧ ∀ base : Heap, K.In base → base.Ns mainGlobals mg → FnOk l.prog w K mg base CX0 10 fa fd ["script"] (spLaw K) := by
  have e := hfa.symm.trans (PySem.W.mg_of X G m_law_)
  cases e
  have Tx : Txt K mg aP := ⟨PySem.W.mg_none_of X G z_all, PySem.W.mg_none_of X G z_any, PySem.W.mg_none_of X G z_bool, PySem.W.mg_none_of X G z_enumerate, PySem.W.mg_none_of X G z_int, PySem.W.mg_none_of X G z_isinstance, PySem.W.mg_none_of X G z_len, PySem.W.mg_none_of X G z_list, PySem.W.mg_none_of X G z_range, PySem.W.mg_none_of X G z_set, PySem.W.mg_none_of X G z_sorted, PySem.W.mg_none_of X G z_str, PySem.W.mg_none_of X G z_tuple, PySem.W.mg_none_of X G z_type, PySem.W.mg_of X G zpm, PySem.W.mg_of X G zcb, PySem.W.mg_of X G zpp, ⟨_, _, _, ⟨zlp, rfl, rfl, (show 2 ≤ sizeLine from by decide), .cons ⟨_, rfl⟩ (.cons ⟨_, rfl⟩ .nil)⟩, rfl⟩⟩
  have F_law_alike := fun_mk (st := s_law_alike) l_law_alike c_law_alike k_law_alike
  have G_law_alike : Gd K mg "_law_alike" s_law_alike N_law_alike a_law_alike _ := ⟨F_law_alike, PySem.W.mg_of X G m_law_alike_, k_law_alike, F_law_alike.binds (ps := N_law_alike) fun _ _ _ _ _ _ us hl => match us, hl with | [_, _], _ => rfl⟩
  have F_law_taken := fun_mk (st := s_law_taken) l_law_taken c_law_taken k_law_taken
  have G_law_taken : Gd K mg "_law_taken" s_law_taken N_law_taken a_law_taken _ := ⟨F_law_taken, PySem.W.mg_of X G m_law_taken_, k_law_taken, F_law_taken.binds (ps := N_law_taken) fun _ _ _ _ _ _ us hl => match us, hl with | [_, _], _ => rfl⟩
  have F_law_pick := fun_mk (st := s_law_pick) l_law_pick c_law_pick k_law_pick
  have G_law_pick : Gd K mg "_law_pick" s_law_pick N_law_pick a_law_pick _ := ⟨F_law_pick, PySem.W.mg_of X G m_law_pick_, k_law_pick, F_law_pick.binds (ps := N_law_pick) fun _ _ _ _ _ _ us hl => match us, hl with | [_, _], _ => rfl⟩
  have F_is_below := fun_mk (st := s_is_below) l_is_below c_is_below k_is_below
  have G_is_below : Gd K mg "is_below" s_is_below N_is_below a_is_below _ := ⟨F_is_below, PySem.W.mg_of X G m_is_below_, k_is_below, F_is_below.binds (ps := N_is_below) fun _ _ _ _ _ _ us hl => match us, hl with | [_, _], _ => rfl⟩
  have F_is_order := fun_mk (st := s_is_order) l_is_order c_is_order k_is_order
  have G_is_order : Gd K mg "is_order" s_is_order N_is_order a_is_order _ := ⟨F_is_order, PySem.W.mg_of X G m_is_order_, k_is_order, F_is_order.binds (ps := N_is_order) fun _ _ _ _ _ _ us hl => match us, hl with | [_, _], _ => rfl⟩
  have F_is_row := fun_mk (st := s_is_row) l_is_row c_is_row k_is_row
  have G_is_row : Gd K mg "is_row" s_is_row N_is_row a_is_row _ := ⟨F_is_row, PySem.W.mg_of X G m_is_row_, k_is_row, F_is_row.binds (ps := N_is_row) fun _ _ _ _ _ _ us hl => match us, hl with | [_, _], _ => rfl⟩
  have F_check_row := fun_mk (st := s_check_row) l_check_row c_check_row k_check_row
  have G_check_row : Gd K mg "check_row" s_check_row N_check_row a_check_row _ := ⟨F_check_row, PySem.W.mg_of X G m_check_row_, k_check_row, F_check_row.binds (ps := N_check_row) fun _ _ _ _ _ _ us hl => match us, hl with | [_], _ => rfl⟩
  have F_check_dealing := fun_mk (st := s_check_dealing) l_check_dealing c_check_dealing k_check_dealing
  have G_check_dealing : Gd K mg "check_dealing" s_check_dealing N_check_dealing a_check_dealing _ := ⟨F_check_dealing, PySem.W.mg_of X G m_check_dealing_, k_check_dealing, F_check_dealing.binds (ps := N_check_dealing) fun _ _ _ _ _ _ us hl => match us, hl with | [_], _ => rfl⟩
  have F_check_alike := fun_mk (st := s_check_alike) l_check_alike c_check_alike k_check_alike
  have G_check_alike : Gd K mg "check_alike" s_check_alike N_check_alike a_check_alike _ := ⟨F_check_alike, PySem.W.mg_of X G m_check_alike_, k_check_alike, F_check_alike.binds (ps := N_check_alike) fun _ _ _ _ _ _ us hl => match us, hl with | [_, _], _ => rfl⟩
  have F_groups := fun_mk (st := s_groups) l_groups c_groups k_groups
  have G_groups : Gd K mg "groups" s_groups N_groups a_groups _ := ⟨F_groups, PySem.W.mg_of X G m_groups_, k_groups, F_groups.binds (ps := N_groups) fun _ _ _ _ _ _ us hl => match us, hl with | [_], _ => rfl⟩
  have F_check_people := fun_mk (st := s_check_people) l_check_people c_check_people k_check_people
  have G_check_people : Gd K mg "check_people" s_check_people N_check_people a_check_people _ := ⟨F_check_people, PySem.W.mg_of X G m_check_people_, k_check_people, F_check_people.binds (ps := N_check_people) fun _ _ _ _ _ _ us hl => match us, hl with | [_], _ => rfl⟩
  have F_dealings := fun_mk (st := s_dealings) l_dealings c_dealings k_dealings
  have G_dealings : Gd K mg "dealings" s_dealings N_dealings a_dealings _ := ⟨F_dealings, PySem.W.mg_of X G m_dealings_, k_dealings, F_dealings.binds (ps := N_dealings) fun _ _ _ _ _ _ us hl => match us, hl with | [_], _ => rfl⟩
  have F_is_within := fun_mk (st := s_is_within) l_is_within c_is_within k_is_within
  have G_is_within : Gd K mg "is_within" s_is_within N_is_within a_is_within _ := ⟨F_is_within, PySem.W.mg_of X G m_is_within_, k_is_within, F_is_within.binds (ps := N_is_within) fun _ _ _ _ _ _ us hl => match us, hl with | [_, _], _ => rfl⟩
  have F_is_better := fun_mk (st := s_is_better) l_is_better c_is_better k_is_better
  have G_is_better : Gd K mg "is_better" s_is_better N_is_better a_is_better _ := ⟨F_is_better, PySem.W.mg_of X G m_is_better_, k_is_better, F_is_better.binds (ps := N_is_better) fun _ _ _ _ _ _ us hl => match us, hl with | [_, _, _, _], _ => rfl⟩
  have F_blocks := fun_mk (st := s_blocks) l_blocks c_blocks k_blocks
  have G_blocks : Gd K mg "blocks" s_blocks N_blocks a_blocks _ := ⟨F_blocks, PySem.W.mg_of X G m_blocks_, k_blocks, F_blocks.binds (ps := N_blocks) fun _ _ _ _ _ _ us hl => match us, hl with | [_, _, _], _ => rfl⟩
  have F_blocking_group := fun_mk (st := s_blocking_group) l_blocking_group c_blocking_group k_blocking_group
  have G_blocking_group : Gd K mg "blocking_group" s_blocking_group N_blocking_group a_blocking_group _ := ⟨F_blocking_group, PySem.W.mg_of X G m_blocking_group_, k_blocking_group, F_blocking_group.binds (ps := N_blocking_group) fun _ _ _ _ _ _ us hl => match us, hl with | [_, _], _ => rfl⟩
  have F_law_orders := fun_mk (st := s_law_orders) l_law_orders c_law_orders k_law_orders
  have G_law_orders : Gd K mg "_law_orders" s_law_orders N_law_orders a_law_orders _ := ⟨F_law_orders, PySem.W.mg_of X G m_law_orders_, k_law_orders, F_law_orders.binds (ps := N_law_orders) fun _ _ _ _ _ _ us hl => match us, hl with | [_], _ => rfl⟩
  have F_law_before := fun_mk (st := s_law_before) l_law_before c_law_before k_law_before
  have G_law_before : Gd K mg "_law_before" s_law_before N_law_before a_law_before _ := ⟨F_law_before, PySem.W.mg_of X G m_law_before_, k_law_before, F_law_before.binds (ps := N_law_before) fun _ _ _ _ _ _ us hl => match us, hl with | [_, _, _], _ => rfl⟩
  have F_law_gains := fun_mk (st := s_law_gains) l_law_gains c_law_gains k_law_gains
  have G_law_gains : Gd K mg "_law_gains" s_law_gains N_law_gains a_law_gains _ := ⟨F_law_gains, PySem.W.mg_of X G m_law_gains_, k_law_gains, F_law_gains.binds (ps := N_law_gains) fun _ _ _ _ _ _ us hl => match us, hl with | [_, _, _, _], _ => rfl⟩
  have F_law_blocker := fun_mk (st := s_law_blocker) l_law_blocker c_law_blocker k_law_blocker
  have G_law_blocker : Gd K mg "_law_blocker" s_law_blocker N_law_blocker a_law_blocker _ := ⟨F_law_blocker, PySem.W.mg_of X G m_law_blocker_, k_law_blocker, F_law_blocker.binds (ps := N_law_blocker) fun _ _ _ _ _ _ us hl => match us, hl with | [_, _], _ => rfl⟩
  have F_law_rows := fun_mk (st := s_law_rows) l_law_rows c_law_rows k_law_rows
  have G_law_rows : Gd K mg "_law_rows" s_law_rows N_law_rows a_law_rows _ := ⟨F_law_rows, PySem.W.mg_of X G m_law_rows_, k_law_rows, F_law_rows.binds (ps := N_law_rows) fun _ _ _ _ _ _ us hl => match us, hl with | [_], _ => rfl⟩
  have F_better := fun_mk (st := s_better) l_better c_better k_better
  have G_better : Gd K mg "better" s_better N_better a_better _ := ⟨F_better, PySem.W.mg_of X G m_better_, k_better, F_better.binds (ps := N_better) fun _ _ _ _ _ _ us hl => match us, hl with | [_, _], _ => rfl⟩
  have F_rows_of := fun_mk (st := s_rows_of) l_rows_of c_rows_of k_rows_of
  have G_rows_of : Gd K mg "rows_of" s_rows_of N_rows_of a_rows_of _ := ⟨F_rows_of, PySem.W.mg_of X G m_rows_of_, k_rows_of, F_rows_of.binds (ps := N_rows_of) fun _ _ _ _ _ _ us hl => match us, hl with | [_], _ => rfl⟩
  have F_rows := fun_mk (st := s_rows) l_rows c_rows k_rows
  have G_rows : Gd K mg "rows" s_rows N_rows a_rows _ := ⟨F_rows, PySem.W.mg_of X G m_rows_, k_rows, F_rows.binds (ps := N_rows) fun _ _ _ _ _ _ us hl => match us, hl with | [_], _ => rfl⟩
  have F_law_better := fun_mk (st := s_law_better) l_law_better c_law_better k_law_better
  have G_law_better : Gd K mg "_law_better" s_law_better N_law_better a_law_better _ := ⟨F_law_better, PySem.W.mg_of X G m_law_better_, k_law_better, F_law_better.binds (ps := N_law_better) fun _ _ _ _ _ _ us hl => match us, hl with | [_, _], _ => rfl⟩
  have F_law := fun_mk (st := s_law) l_law c_law k_law
  have G_law : Gd K mg "law" s_law N_law _ _ := ⟨F_law, PySem.W.mg_of X G m_law_, k_law, F_law.binds (ps := N_law) fun _ _ _ _ _ _ us hl => match us, hl with | [_], _ => rfl⟩
  refine ⟨PySem.W.fnOf "law" "law" (defArgs s_law) (defBody s_law) (defScope s_law) .none kV_law dc_law pm_law an_law cd_law ct_law, fun s v => .of_eq rfl, fun base _ _ => ?_⟩
  have O_law_alike := ok_law_alike (P := l.prog) (w := w) (base := base) G_law_alike Tx 8 (by omega)
  have O_law_taken := ok_law_taken (P := l.prog) (w := w) (base := base) G_law_taken Tx
  have O_law_pick := ok_law_pick (P := l.prog) (w := w) (base := base) G_law_pick Tx G_law_taken O_law_taken
  have O_is_below := ok_is_below (P := l.prog) (w := w) (base := base) G_is_below Tx
  have O_is_order := ok_is_order (P := l.prog) (w := w) (base := base) G_is_order Tx G_is_below O_is_below
  have O_is_row := ok_is_row (P := l.prog) (w := w) (base := base) G_is_row Tx G_is_order O_is_order
  have O_check_row := ok_check_row (P := l.prog) (w := w) (base := base) G_check_row Tx G_is_row O_is_row
  have O_check_dealing := ok_check_dealing (P := l.prog) (w := w) (base := base) G_check_dealing Tx G_is_order O_is_order
  have O_check_alike := ok_check_alike (P := l.prog) (w := w) (base := base) G_check_alike Tx
  have O_groups := ok_groups (P := l.prog) (w := w) (base := base) G_groups Tx
  have O_check_people := ok_check_people (P := l.prog) (w := w) (base := base) G_check_people Tx
  have O_dealings := ok_dealings (P := l.prog) (w := w) (base := base) G_dealings Tx G_check_people O_check_people
  have O_is_within := ok_is_within (P := l.prog) (w := w) (base := base) G_is_within Tx
  have O_is_better := ok_is_better (P := l.prog) (w := w) (base := base) G_is_better Tx
  have O_blocks := ok_blocks (P := l.prog) (w := w) (base := base) G_blocks Tx G_dealings O_dealings G_is_within O_is_within G_is_better O_is_better
  have O_blocking_group := ok_blocking_group (P := l.prog) (w := w) (base := base) G_blocking_group Tx G_check_row O_check_row G_check_dealing O_check_dealing G_check_alike O_check_alike G_groups O_groups G_blocks O_blocks
  have O_law_orders := ok_law_orders (P := l.prog) (w := w) (base := base) G_law_orders Tx
  have O_law_before := ok_law_before (P := l.prog) (w := w) (base := base) G_law_before Tx
  have O_law_gains := ok_law_gains (P := l.prog) (w := w) (base := base) G_law_gains Tx G_law_before O_law_before
  have O_law_blocker := ok_law_blocker (P := l.prog) (w := w) (base := base) G_law_blocker Tx G_law_orders O_law_orders G_law_gains O_law_gains
  have O_law_rows := ok_law_rows (P := l.prog) (w := w) (base := base) G_law_rows Tx G_law_orders O_law_orders
  have O_better := ok_better (P := l.prog) (w := w) (base := base) G_better Tx G_check_row O_check_row G_check_dealing O_check_dealing G_check_alike O_check_alike G_dealings O_dealings G_is_better O_is_better
  have O_rows_of := ok_rows_of (P := l.prog) (w := w) (base := base) G_rows_of Tx
  have O_rows := ok_rows (P := l.prog) (w := w) (base := base) G_rows Tx G_rows_of O_rows_of G_dealings O_dealings
  have O_law_better := ok_law_better (P := l.prog) (w := w) (base := base) G_law_better Tx G_law_orders O_law_orders G_law_gains O_law_gains
  exact ok_law G_law Tx G_law_alike O_law_alike G_law_taken O_law_taken G_law_pick O_law_pick G_blocking_group O_blocking_group G_law_blocker O_law_blocker G_law_rows O_law_rows G_law_orders O_law_orders G_better O_better G_dealings O_dealings G_rows O_rows G_law_better O_law_better law_all
theorem walk {l : PySem.W.OpenLaw} {q : Program} {loose : List Str} {XP : (Str → Option Value) → Heap → Prop} {YP : World → Heap → Prop} {d : DefRec} {K : Params → PySem.W.Frag} (hn : l.most = some 63) (hdf : d.params.defaults = [])
    (hY : ∀ (w : World) (h : Heap), YP w h → (K w.params).In h)
    (F : ∀ (w : World) (mg : Str → Option Value) (fa : Addr) (h : Heap), (K w.params).In h → h.Ns mainGlobals mg → mg d.name = some (.ref fa) → ∃ fd : FuncData, (∀ (s : Shared) (u : Value), BindsTo s fd ⟨[u], []⟩ [("script", u)]) ∧ ∀ base : Heap, (K w.params).In base → base.Ns mainGlobals mg → FnOk l.prog w (K w.params) mg base CX0 10 fa fd ["script"] (spLaw (K w.params))) :
    PySem.W.WalkO q loose XP YP l.row.toRowW d [] (fun f vs => PySem.call f vs) :=
  L2.walk_of (n := 63) (k := 10) (x := "script") (CX := fun _ => CX0) (sp := fun w => spLaw (K w.params)) hn (by decide) hdf ⟨rfl, by decide, by decide⟩ hY F (fun _ _ a ns hl _ hS => ⟨a, ns, rfl, hS, hl, fun _ => rfl⟩) fun _ _ _ _ _ z => z
end Zl

open PySem PySem.W PyProof.Rows in
set_option maxRecDepth 100000 in
set_option maxHeartbeats 0 in
theorem PySem.Challenge.cw_dealclashes_k00_whole_rows_holds : PySem.Challenge.rw_dealclashes_k00_whole_rows.Holds := by
  w_on; o_law; k_head; (case hw => w_witness2)
  k_fill
  refine Zl.walk (l := PySem.Challenge.rw_dealclashes_k00_whole_rows) rfl rfl (fun w h Y => PySem.W.kIn_of Y) ?F
  case F =>
    intro w mg fa h KX G hmg
    refine' Zl.all_mk KX G hmg ?m_law_alike_ ?l_law_alike ?c_law_alike ?k_law_alike ?m_law_taken_ ?l_law_taken ?c_law_taken ?k_law_taken ?m_law_pick_ ?l_law_pick ?c_law_pick ?k_law_pick ?m_is_below_ ?l_is_below ?c_is_below ?k_is_below ?m_is_order_ ?l_is_order ?c_is_order ?k_is_order ?m_is_row_ ?l_is_row ?c_is_row ?k_is_row ?m_check_row_ ?l_check_row ?c_check_row ?k_check_row ?m_check_dealing_ ?l_check_dealing ?c_check_dealing ?k_check_dealing ?m_check_alike_ ?l_check_alike ?c_check_alike ?k_check_alike ?m_groups_ ?l_groups ?c_groups ?k_groups ?m_check_people_ ?l_check_people ?c_check_people ?k_check_people ?m_dealings_ ?l_dealings ?c_dealings ?k_dealings ?m_is_within_ ?l_is_within ?c_is_within ?k_is_within ?m_is_better_ ?l_is_better ?c_is_better ?k_is_better ?m_blocks_ ?l_blocks ?c_blocks ?k_blocks ?m_blocking_group_ ?l_blocking_group ?c_blocking_group ?k_blocking_group ?m_law_orders_ ?l_law_orders ?c_law_orders ?k_law_orders ?m_law_before_ ?l_law_before ?c_law_before ?k_law_before ?m_law_gains_ ?l_law_gains ?c_law_gains ?k_law_gains ?m_law_blocker_ ?l_law_blocker ?c_law_blocker ?k_law_blocker ?m_law_rows_ ?l_law_rows ?c_law_rows ?k_law_rows ?m_better_ ?l_better ?c_better ?k_better ?m_rows_of_ ?l_rows_of ?c_rows_of ?k_rows_of ?m_rows_ ?l_rows ?c_rows ?k_rows ?m_law_better_ ?l_law_better ?c_law_better ?k_law_better ?m_law_ ?l_law ?c_law ?k_law ?z_all ?z_any ?z_bool ?z_enumerate ?z_int ?z_isinstance ?z_len ?z_list ?z_range ?z_set ?z_sorted ?z_str ?z_tuple ?z_type ?zpm ?zcb ?zpp ?zlp
    (case m_law_alike_ => k_is)
    (case l_law_alike => k_is)
    (case c_law_alike => k_is)
    (case k_law_alike => k_is)
    (case m_law_taken_ => k_is)
    (case l_law_taken => k_is)
    (case c_law_taken => k_is)
    (case k_law_taken => k_is)
    (case m_law_pick_ => k_is)
    (case l_law_pick => k_is)
    (case c_law_pick => k_is)
    (case k_law_pick => k_is)
    (case m_is_below_ => k_is)
    (case l_is_below => k_is)
    (case c_is_below => k_is)
    (case k_is_below => k_is)
    (case m_is_order_ => k_is)
    (case l_is_order => k_is)
    (case c_is_order => k_is)
    (case k_is_order => k_is)
    (case m_is_row_ => k_is)
    (case l_is_row => k_is)
    (case c_is_row => k_is)
    (case k_is_row => k_is)
    (case m_check_row_ => k_is)
    (case l_check_row => k_is)
    (case c_check_row => k_is)
    (case k_check_row => k_is)
    (case m_check_dealing_ => k_is)
    (case l_check_dealing => k_is)
    (case c_check_dealing => k_is)
    (case k_check_dealing => k_is)
    (case m_check_alike_ => k_is)
    (case l_check_alike => k_is)
    (case c_check_alike => k_is)
    (case k_check_alike => k_is)
    (case m_groups_ => k_is)
    (case l_groups => k_is)
    (case c_groups => k_is)
    (case k_groups => k_is)
    (case m_check_people_ => k_is)
    (case l_check_people => k_is)
    (case c_check_people => k_is)
    (case k_check_people => k_is)
    (case m_dealings_ => k_is)
    (case l_dealings => k_is)
    (case c_dealings => k_is)
    (case k_dealings => k_is)
    (case m_is_within_ => k_is)
    (case l_is_within => k_is)
    (case c_is_within => k_is)
    (case k_is_within => k_is)
    (case m_is_better_ => k_is)
    (case l_is_better => k_is)
    (case c_is_better => k_is)
    (case k_is_better => k_is)
    (case m_blocks_ => k_is)
    (case l_blocks => k_is)
    (case c_blocks => k_is)
    (case k_blocks => k_is)
    (case m_blocking_group_ => k_is)
    (case l_blocking_group => k_is)
    (case c_blocking_group => k_is)
    (case k_blocking_group => k_is)
    (case m_law_orders_ => k_is)
    (case l_law_orders => k_is)
    (case c_law_orders => k_is)
    (case k_law_orders => k_is)
    (case m_law_before_ => k_is)
    (case l_law_before => k_is)
    (case c_law_before => k_is)
    (case k_law_before => k_is)
    (case m_law_gains_ => k_is)
    (case l_law_gains => k_is)
    (case c_law_gains => k_is)
    (case k_law_gains => k_is)
    (case m_law_blocker_ => k_is)
    (case l_law_blocker => k_is)
    (case c_law_blocker => k_is)
    (case k_law_blocker => k_is)
    (case m_law_rows_ => k_is)
    (case l_law_rows => k_is)
    (case c_law_rows => k_is)
    (case k_law_rows => k_is)
    (case m_better_ => k_is)
    (case l_better => k_is)
    (case c_better => k_is)
    (case k_better => k_is)
    (case m_rows_of_ => k_is)
    (case l_rows_of => k_is)
    (case c_rows_of => k_is)
    (case k_rows_of => k_is)
    (case m_rows_ => k_is)
    (case l_rows => k_is)
    (case c_rows => k_is)
    (case k_rows => k_is)
    (case m_law_better_ => k_is)
    (case l_law_better => k_is)
    (case c_law_better => k_is)
    (case k_law_better => k_is)
    (case m_law_ => k_is)
    (case l_law => k_is)
    (case c_law => k_is)
    (case k_law => k_is)
    (case z_all => k_is)
    (case z_any => k_is)
    (case z_bool => k_is)
    (case z_enumerate => k_is)
    (case z_int => k_is)
    (case z_isinstance => k_is)
    (case z_len => k_is)
    (case z_list => k_is)
    (case z_range => k_is)
    (case z_set => k_is)
    (case z_sorted => k_is)
    (case z_str => k_is)
    (case z_tuple => k_is)
    (case z_type => k_is)
    (case zpm => k_is)
    (case zcb => k_is)
    (case zpp => k_is)
    (case zlp => k_is)
